/- chapter 11: ArenaNeeds: trees -/
import Derived.Test.YtopbikapcboigaaCZ25
import Derived.Test.YtopbikapcboigaaLc
import Derived.Test.YtopbikapcboigaaChecked
import Derived.KernelRfl
namespace Go.Lev
set_option linter.unusedSimpArgs false
set_option linter.unusedVariables false
open Go.RowKit
open Go.Proofs.Try (prog)
set_option maxRecDepth 100000
noncomputable section
theorem dan_c (sz n:Nat) (kc sc:List LV) (nd most:Int) (d:Nat) (cs:List LV) (k a:Int) (q:Bool) (k1:okK sz n kc=true) (k2:sc=spW sz kc) (k3:okR most cs d=true) (k4:okv sz kc cs=true) (k5:daF sz most kc cs [] 0 k a q=true) :
  SFun prog 21 [.ptr 0 0,.ptr 6 0,.agg [.int .i64 k,.int .i64 a,.bool q],.nils] (mkS (doI sz n kc sc nd most d cs)) fun l t=>l=.tup [.slo 16 0 (daM sz most kc cs 0 k a) 0,.bool true]∧t=mkS (daO sz n kc sc (daD sz kc cs [] 0 k a q nd) most (daN sz most kc cs [] 0 k a q d) (daC sz most kc cs [] 0 k a q) (daR sz most kc cs [] k a)) :=
 SFun.nilrow (args:=[.ptr 0 0,.ptr 6 0,.agg [.int .i64 k,.int .i64 a,.bool q]]) (bs:=doI sz n kc sc nd most d cs) (es:=1) (da_cc sz n 0 kc sc nd most d cs [] k a q k1 k2 k3 k4 k5 (okIi64_enc (xs:=[]) (by simp)) (t_le (by omega)))
def donG:Gc:=fun args s=>match args,s.g with
 | [.ptr b 0,.ptr p 0,.agg [.int .i64 k,.int .i64 a,.bool w],.nils],[]=>(match s.h.get b with
   | some (.cells [.slo q 0 n 0,.slo z 0 sz 0,.int .i64 nd,.ptr l 0] none)=>(match s.h.get q with
     | some (.cells kc (some 2))=>(match s.h.get z with
       | some (.cells sc (some 1))=>(match s.h.get l with
         | some (.cells [.int .i64 most,.slo o 0 d 0] none)=>(match s.h.get o with
           | some (.obj F_o cs e)=>(match s.h.get e with
             | some (.dead)=>(match s.h.get p with
               | some (.cells [.int .i64 (.ofNat sz2),.slo q2 0 n2 0,.ptr l2 0,.int .i64 nd2] none)=>(match s.h.get q2 with
                 | some (.cells kc2 (some 2))=>(match s.h.get l2 with
                   | some (.cells [.int .i64 most2,.slo o2 0 d2 0] none)=>(match s.h.get o2 with
                     | some (.obj F_o2 cs2 u)=>(match s.h.get u with
                       | some (.dead)=>cond (nodupB [b,q,z,l,o,e,p,q2,l2,o2,u]) (match s.lay [b,q,z,l,o,e,p,q2,l2,o2,u] [.cells [.slo q 0 n 0,.slo z 0 sz 0,.int .i64 (daD sz kc cs [] 0 k a w nd),.ptr l 0] none,.cells kc (some 2),.cells sc (some 1),.cells [.int .i64 most,.slo (Nat.succ s.n) 0 (daN sz most kc cs [] 0 k a w d) 0] none,.dead,.dead,.cells [.int .i64 (.ofNat sz),.slo q2 0 n 0,.ptr l2 0,.int .i64 (daD sz kc cs [] 0 k a w nd)] none,.cells kc (some 2),.cells [.int .i64 most,.slo (Nat.succ (Nat.succ (Nat.succ s.n))) 0 (daN sz most kc cs [] 0 k a w d) 0] none,.dead,.dead] [.dead,.obj lvF (daC sz most kc cs [] 0 k a w) (Nat.succ (Nat.succ s.n)),.dead,.obj orF (daC sz most kc cs [] 0 k a w) (Nat.succ (Nat.succ (Nat.succ (Nat.succ s.n)))),.dead,.cells (daR sz most kc cs [] k a) (some 1)] with
                         | some s'=>some ([okK sz n kc,eqL sc (spW sz kc),okR most cs d,xcm .eql most most2,xeq d d2,eqL cs cs2,xeq sz sz2,xeq n n2,eqL kc kc2,xcm .eql nd nd2,okv sz kc cs,daF sz most kc cs [] 0 k a w,isF F_o lvF,isF F_o2 orF],.tup [.slo (Nat.succ (Nat.succ (Nat.succ (Nat.succ (Nat.succ s.n))))) 0 (daM sz most kc cs 0 k a) 0,.bool true],s')
                         | none=>none) none
                       | _=>none)
                     | _=>none)
                   | _=>none)
                 | _=>none)
               | _=>none)
             | _=>none)
           | _=>none)
         | _=>none)
       | _=>none)
     | _=>none)
   | _=>none)
 | _,_=>none
theorem donG_ok:GOk prog 21 donG:=by
 intro args s bs l s' hg hb hfr
 unfold donG at hg
 split at hg
 ·rename_i b p k a w hgl
  split at hg
  ·rename_i q n z sz nd l hb0
   split at hg
   ·rename_i kc hb1
    split at hg
    ·rename_i sc hb2
     split at hg
     ·rename_i most o d hb3
      split at hg
      ·rename_i F_o cs e hb4
       split at hg
       ·rename_i  hb5
        split at hg
        ·rename_i sz2 q2 n2 l2 nd2 hb6
         split at hg
         ·rename_i kc2 hb7
          split at hg
          ·rename_i most2 o2 d2 hb8
           split at hg
           ·rename_i F_o2 cs2 u hb9
            split at hg
            ·rename_i  hb10
             cases hbc:nodupB [b,q,z,l,o,e,p,q2,l2,o2,u] with
             | false=>rw [hbc] at hg; cases hg
             | true =>
               rw [hbc] at hg
               simp only [cond_true] at hg
               split at hg
               ·rename_i s1 hs1
                simp only [Option.some.injEq,Prod.mk.injEq] at hg
                obtain⟨rfl,rfl,rfl⟩:=hg
                simp only [allT_cons] at hb
                obtain⟨k1,k2,k3,k4,k5,k6,k7,k8,k9,k10,k11,k12,k13,k14,_⟩:=hb
                have e_o:=isF_eq k13
                subst e_o
                have e_o2:=isF_eq k14
                subst e_o2
                replace k2:=eqL_eq k2
                rw [xcm_eql,decide_eq_true_eq] at k4
                rw [wd_eq,decide_eq_true_eq] at k5
                replace k6:=eqL_eq k6
                rw [wd_eq,decide_eq_true_eq] at k7
                rw [wd_eq,decide_eq_true_eq] at k8
                replace k9:=eqL_eq k9
                rw [xcm_eql,decide_eq_true_eq] at k10
                subst k4 k5 k6 k7 k8 k9 k10
                have no:noIds kc=true:=okK_noids k1
                have no2:noIds sc=true:=by rw [k2]; exact spW_noids _ _
                refine SFun.lay (bs:=[.cells [.slo 1 0 n 0,.slo 2 0 sz 0,.int .i64 nd,.ptr 3 0] none,.cells kc (some 2),.cells sc (some 1),.cells [.int .i64 most,.slo 4 0 d 0] none,.obj lvF cs 5,.dead,.cells [.int .i64 (.ofNat sz),.slo 7 0 n 0,.ptr 8 0,.int .i64 nd] none,.cells kc (some 2),.cells [.int .i64 most,.slo 9 0 d 0] none,.obj orF cs 10,.dead]) (args0:=[.ptr 0 0,.ptr 6 0,.agg [.int .i64 k,.int .i64 a,.bool w],.nils]) (bs':=[.cells [.slo 1 0 n 0,.slo 2 0 sz 0,.int .i64 (daD sz kc cs [] 0 k a w nd),.ptr 3 0] none,.cells kc (some 2),.cells sc (some 1),.cells [.int .i64 most,.slo 12 0 (daN sz most kc cs [] 0 k a w d) 0] none,.dead,.dead,.cells [.int .i64 (.ofNat sz),.slo 7 0 n 0,.ptr 8 0,.int .i64 (daD sz kc cs [] 0 k a w nd)] none,.cells kc (some 2),.cells [.int .i64 most,.slo 14 0 (daN sz most kc cs [] 0 k a w d) 0] none,.dead,.dead,.dead,.obj lvF (daC sz most kc cs [] 0 k a w) 13,.dead,.obj orF (daC sz most kc cs [] 0 k a w) 15,.dead,.cells (daR sz most kc cs [] k a) (some 1)]) (v0:=.tup [.slo 16 0 (daM sz most kc cs 0 k a) 0,.bool true]) hfr hs1 (nodupB_nd hbc)
                 ⟨⟨there hfr hb0,_,hb0,by first | exact lb_same rfl | exact lb_cells (lws_cons (lw_slo rfl) (lws_cons (lw_slo rfl) (lws_cons (lw_int) (lws_cons (lw_ptr rfl) lws_nil)))) (by simp),fun κ hκ=>lb_cells (lws_cons (lw_slo (hκ 1 q rfl)) (lws_cons (lw_slo (hκ 2 z rfl)) (lws_cons (lw_int) (lws_cons (lw_ptr (hκ 3 l rfl)) lws_nil)))) (by simp)⟩,⟨there hfr hb1,_,hb1,lb_same (by(exact zId)),fun κ hκ=>lb_same (by(exact zId))⟩,⟨there hfr hb2,_,hb2,lb_same (by(exact zId)),fun κ hκ=>lb_same (by(exact zId))⟩,⟨there hfr hb3,_,hb3,by first | exact lb_same rfl | exact lb_cells (lws_cons (lw_int) (lws_cons (lw_slo rfl) lws_nil)) (by simp),fun κ hκ=>lb_cells (lws_cons (lw_int) (lws_cons (lw_slo (hκ 4 o rfl)) lws_nil)) (by simp)⟩,⟨there hfr hb4,_,hb4,lb_obj rfl,fun κ hκ=>lb_obj (hκ 5 e rfl)⟩,⟨there hfr hb5,_,hb5,lb_dead,fun κ hκ=>lb_dead⟩,⟨there hfr hb6,_,hb6,by first | exact lb_same rfl | exact lb_cells (lws_cons (lw_int) (lws_cons (lw_slo rfl) (lws_cons (lw_ptr rfl) (lws_cons (lw_int) lws_nil)))) (by simp),fun κ hκ=>lb_cells (lws_cons (lw_int) (lws_cons (lw_slo (hκ 7 q2 rfl)) (lws_cons (lw_ptr (hκ 8 l2 rfl)) (lws_cons (lw_int) lws_nil)))) (by simp)⟩,⟨there hfr hb7,_,hb7,lb_same (by(exact zId)),fun κ hκ=>lb_same (by(exact zId))⟩,⟨there hfr hb8,_,hb8,by first | exact lb_same rfl | exact lb_cells (lws_cons (lw_int) (lws_cons (lw_slo rfl) lws_nil)) (by simp),fun κ hκ=>lb_cells (lws_cons (lw_int) (lws_cons (lw_slo (hκ 9 o2 rfl)) lws_nil)) (by simp)⟩,⟨there hfr hb9,_,hb9,lb_obj rfl,fun κ hκ=>lb_obj (hκ 10 u rfl)⟩,⟨there hfr hb10,_,hb10,lb_dead,fun κ hκ=>lb_dead⟩,trivial⟩ (by(exact zTl)) ?_
                 fun κ h1 h2=>⟨⟨lb_cells (lws_cons (lw_slo (h1 1 q rfl)) (lws_cons (lw_slo (h1 2 z rfl)) (lws_cons (lw_int) (lws_cons (lw_ptr (h1 3 l rfl)) lws_nil)))) (by simp),lb_same (by(exact zId)),lb_same (by(exact zId)),lb_cells (lws_cons (lw_int) (lws_cons (lw_slo (h2 1 (by simp))) lws_nil)) (by simp),lb_dead,lb_dead,lb_cells (lws_cons (lw_int) (lws_cons (lw_slo (h1 7 q2 rfl)) (lws_cons (lw_ptr (h1 8 l2 rfl)) (lws_cons (lw_int) lws_nil)))) (by simp),lb_same (by(exact zId)),lb_cells (lws_cons (lw_int) (lws_cons (lw_slo (h2 3 (by simp))) lws_nil)) (by simp),lb_dead,lb_dead,lb_dead,lb_obj (h2 2 (by simp)),lb_dead,lb_obj (h2 4 (by simp)),lb_dead,lb_same (daR_no rfl),trivial⟩,(lw_tup (lws_cons (lw_slo (h2 5 (by simp))) (lws_cons (lw_bool) lws_nil)))⟩
                rw [hgl]; exact(dan_c sz n kc sc nd most d cs k a w k1 k2 k3 k11 k12)
               ·cases hg
            ·cases hg
           ·cases hg
          ·cases hg
         ·cases hg
        ·cases hg
       ·cases hg
      ·cases hg
     ·cases hg
    ·cases hg
   ·cases hg
  ·cases hg
 ·cases hg
theorem encIu8_len (xs:List Int):(encL (cI .u8) xs).length=xs.length:=by rw [encL_length (cI_len .u8)]; omega
theorem encIu8_nth {xs:List Int} {i:Nat} (h:i < xs.length):nthD (encL (cI .u8) xs) i=.int .u8 xs[i]:=by
 have:=encL_nth (cI_len .u8) (j:=0) h (by omega)
 simp only [Nat.mul_one,Nat.add_zero] at this
 exact this
theorem noIds_Iu8 (xs:List Int):noIds (encL (cI .u8) xs)=true:=noIds_encL (fun _=>rfl) xs
def cxne:Cx:=cxl [(3,runG),(19,ofsG),(62,lnewG),(63,onewG),(38,heldG),(21,donG),(22,sanG),(64,lcellsG),(27,knG),(28,oknG)]
abbrev neS:List Code:=sp prog 5
abbrev neL:List Nat:=[0,1,5,6,7,8,9,10,11,12]
abbrev neT (n m i:Nat):List (Nat×LV):=[(0,.slo 0 0 n 0),(1,.slo 1 0 m 0),(5,.ptr 2 0),(7,.slo 3 0 64 0),(8,.int .i64 i)]
abbrev neU (m i:Nat):List (Nat×LV):=[(1,.slo 1 0 m 0),(5,.ptr 2 0),(7,.slo 3 0 64 0),(9,.int .i64 i)]
abbrev neV (i:Nat):List (Nat×LV):=[(5,.ptr 2 0),(7,.slo 3 0 64 0),(10,.ptr 4 0),(11,.ptr 10 0),(12,.int .i64 i)]
abbrev neH (wx hx wc:List LV) (k a:Int) (q:Bool):List LB:=[.ro wx,.ro hx,.cells [.int .i64 k,.int .i64 a,.bool q] none,.cells wc (some 1)]
abbrev neI (wx hx wc:List LV) (k a:Int) (q:Bool) (n:Nat) (kc sc:List LV) (nd:Int) (d:Nat) (cs:List LV):List LB:=[.ro wx,.ro hx,.cells [.int .i64 k,.int .i64 a,.bool q] none,.cells wc (some 1),.cells [.slo 5 0 n 0,.slo 6 0 64 0,.int .i64 nd,.ptr 7 0] none,.cells kc (some 2),.cells sc (some 1),.cells [.int .i64 20,.slo 8 0 d 0] none,.obj lvF cs 9,.dead,.cells [.int .i64 64,.slo 11 0 n 0,.ptr 12 0,.int .i64 nd] none,.cells kc (some 2),.cells [.int .i64 20,.slo 13 0 d 0] none,.obj orF cs 14,.dead]
theorem ne_a (n m:Nat) (wx hx:List LV) (k a:Int) (q:Bool) (K:Pk):(xsp prog cxne 60 125 (seg neS 0 5) (tm0 [.slo 0 0 n 0,.slo 1 0 m 0,.agg [.int .i64 k,.int .i64 a,.bool q]]) (mkS [.ro wx,.ro hx]) (vK neL K))=(
 K .normal [.slo 0 0 n 0,.slo 1 0 m 0,.ptr 2 0,.bool false,.slo 3 0 64 0,.int .i64 0,.tup [],.tup [],.tup [],.tup []] [some (.ro wx),some (.ro hx),sN [.int .i64 k,.int .i64 a,.bool q],sC [.int .u64 0,.int .u64 0,.int .u64 0,.int .u64 0,.int .u64 0,.int .u64 14,.int .u64 0,.int .u64 0,.int .u64 0,.int .u64 0,.int .u64 0,.int .u64 0,.int .u64 0,.int .u64 0,.int .u64 0,.int .u64 0,.int .u64 0,.int .u64 0,.int .u64 0,.int .u64 0,.int .u64 0,.int .u64 0,.int .u64 0,.int .u64 0,.int .u64 0,.int .u64 0,.int .u64 0,.int .u64 0,.int .u64 0,.int .u64 0,.int .u64 0,.int .u64 0,.int .u64 0,.int .u64 0,.int .u64 0,.int .u64 0,.int .u64 0,.int .u64 0,.int .u64 0,.int .u64 0,.int .u64 0,.int .u64 0,.int .u64 0,.int .u64 0,.int .u64 0,.int .u64 0,.int .u64 0,.int .u64 0,.int .u64 0,.int .u64 0,.int .u64 0,.int .u64 0,.int .u64 0,.int .u64 0,.int .u64 0,.int .u64 0,.int .u64 0,.int .u64 0,.int .u64 0,.int .u64 0,.int .u64 0,.int .u64 0,.int .u64 0,.int .u64 0] 1] []):=by kernel_rfl
abbrev ne_b_b1 (wx:List LV) (hx:List LV) (wc:List LV) (k:Int) (a:Int) (q:Bool):List (Option LB):=[some (.ro wx),some (.ro hx),sN [.int .i64 k,.int .i64 a,.bool q],sC wc 1]
theorem ne_b (n m i:Nat) (wx hx wc:List LV) (k a:Int) (q:Bool) (K:Pk):(xcode prog cxne 60 125 (loopOf (nthC neS 5)) (mkTm 125 (neT n m i)) (mkS (neH wx hx wc k a q)) (vK neL K))=(
 bif xcm .lss ↑i ↑n then(
 bif xcm .lss (↑i) 64 then(
 ck (xle (xadd (xnat ↑i) 1) n) <|
 ck (xle (xadd (xix 0 (xnat ↑i) 1) 1) (xln wx)) <|
 ck (isI .u64 (nthD wx (xix 0 (xnat ↑i) 1))) <|
 bif xcm .gtr (xar .rem .u64 (asI (nthD wx (xix 0 (xnat ↑i) 1))) 4) 0 then(
 ck (xle (xadd (xnat ↑i) 1) n) <|
 ck (xle (xadd (xix 0 (xnat ↑i) 1) 1) (xln wx)) <|
 ck (isI .u64 (nthD wx (xix 0 (xnat ↑i) 1))) <|
 ck (xle (xadd (xnat ↑i) 1) 64) <|
 ck (xle (xadd (xix 0 (xnat ↑i) 1) 1) (xln wc)) <|
 K .normal [.slo 0 0 n 0,.slo 1 0 m 0,.ptr 2 0,.any,.slo 3 0 64 0,.int .i64 (xar .add .i64 (↑i) 1),.any,.any,.any,.any] [some (.ro wx),some (.ro hx),sN [.int .i64 k,.int .i64 a,.bool q],sC (xlay wc (xix 0 (xnat ↑i) 1) [.int .u64 (xar .rem .u64 (asI (nthD wx (xix 0 (xnat ↑i) 1))) 70)]) 1] [])
 else(
 K .normal [.slo 0 0 n 0,.slo 1 0 m 0,.ptr 2 0,.any,.slo 3 0 64 0,.int .i64 (xar .add .i64 (↑i) 1),.any,.any,.any,.any] (ne_b_b1 wx hx wc k a q) []))
 else(
 K (.exit 0) [.slo 0 0 n 0,.slo 1 0 m 0,.ptr 2 0,.any,.slo 3 0 64 0,.int .i64 ↑i,.any,.any,.any,.any] (ne_b_b1 wx hx wc k a q) []))
 else(
 K (.exit 0) [.slo 0 0 n 0,.slo 1 0 m 0,.ptr 2 0,.any,.slo 3 0 64 0,.int .i64 ↑i,.any,.any,.any,.any] (ne_b_b1 wx hx wc k a q) [])):=by kernel_rfl
theorem ne_c (n m i:Nat) (wx hx wc:List LV) (k a:Int) (q:Bool) (K:Pk):(xsp prog cxne 60 125 (seg neS 6 1) (mkTm 125 (neT n m i)) (mkS (neH wx hx wc k a q)) (vK neL K))=(
 K .normal [.slo 0 0 n 0,.slo 1 0 m 0,.ptr 2 0,.any,.slo 3 0 64 0,.int .i64 ↑i,.int .i64 0,.any,.any,.any] [some (.ro wx),some (.ro hx),sN [.int .i64 k,.int .i64 a,.bool q],sC wc 1] []):=by kernel_rfl
abbrev ne_d_b1 (wx:List LV) (hx:List LV) (wc:List LV) (k:Int) (a:Int) (q:Bool):List (Option LB):=[some (.ro wx),some (.ro hx),sN [.int .i64 k,.int .i64 a,.bool q],sC wc 1]
theorem ne_d (m i:Nat) (wx hx wc:List LV) (k a:Int) (q:Bool) (K:Pk):(xcode prog cxne 60 125 (loopOf (nthC neS 7)) (mkTm 125 (neU m i)) (mkS (neH wx hx wc k a q)) (vK neL K))=(
 bif xcm .lss ↑i ↑m then(
 bif xcm .lss (↑i) 14 then(
 ck (xle (xadd (xnat ↑i) 1) m) <|
 ck (xle (xadd (xix 0 (xnat ↑i) 1) 1) (xln hx)) <|
 ck (isI .u8 (nthD hx (xix 0 (xnat ↑i) 1))) <|
 ck (xle (xadd (xnat ↑i) 1) 64) <|
 ck (xle (xadd (xix 0 (xnat ↑i) 1) 1) (xln wc)) <|
 K .normal [.any,.slo 1 0 m 0,.ptr 2 0,.any,.slo 3 0 64 0,.any,.int .i64 (xar .add .i64 (↑i) 1),.any,.any,.any] [some (.ro wx),some (.ro hx),sN [.int .i64 k,.int .i64 a,.bool q],sC (xlay wc (xix 0 (xnat ↑i) 1) [.int .u64 (xwr .u64 (xar .rem .u8 (asI (nthD hx (xix 0 (xnat ↑i) 1))) 66))]) 1] [])
 else(
 K (.exit 2) [.any,.slo 1 0 m 0,.ptr 2 0,.any,.slo 3 0 64 0,.any,.int .i64 ↑i,.any,.any,.any] (ne_d_b1 wx hx wc k a q) []))
 else(
 K (.exit 2) [.any,.slo 1 0 m 0,.ptr 2 0,.any,.slo 3 0 64 0,.any,.int .i64 ↑i,.any,.any,.any] (ne_d_b1 wx hx wc k a q) [])):=by kernel_rfl
theorem ne_e (m i:Nat) (wx hx wc:List LV) (k a:Int) (q:Bool) (K:Pk):(xsp prog cxne 60 125 (seg neS 8 4) (mkTm 125 (neU m i)) (mkS (neH wx hx wc k a q)) (vK neL K))=(
 K .normal [.any,.slo 1 0 m 0,.ptr 2 0,.any,.slo 3 0 64 0,.any,.int .i64 ↑i,.ptr 8 0,.ptr 12 0,.int .i64 0] [some (.ro wx),some (.ro hx),sN [.int .i64 k,.int .i64 a,.bool q],sC wc 1,sN [.int .i64 20,.slo 5 0 1 0],some (.obj lvF [.tup [.agg [],.agg []]] 6),sD,sN [.int .i64 0,.int .i64 0,.int .i64 0,.int .i64 0,.int .i64 0,.int .i64 0,.int .i64 0,.int .i64 0,.int .i64 0,.int .i64 0,.int .i64 0,.int .i64 0,.int .i64 0,.int .i64 0,.int .i64 0,.int .i64 0,.int .i64 0,.int .i64 0,.int .i64 0,.int .i64 0,.int .i64 0,.int .i64 0,.int .i64 0,.int .i64 0,.int .i64 0,.int .i64 0,.int .i64 0,.int .i64 0,.int .i64 0,.int .i64 0,.int .i64 0,.int .i64 0,.int .i64 0,.int .i64 0,.int .i64 0,.int .i64 0,.int .i64 0,.int .i64 0,.int .i64 0,.int .i64 0,.int .i64 0,.int .i64 0,.int .i64 0,.int .i64 0,.int .i64 0,.int .i64 0,.int .i64 0,.int .i64 0,.int .i64 0,.int .i64 0,.int .i64 0,.int .i64 0,.int .i64 0,.int .i64 0,.int .i64 0,.int .i64 0,.int .i64 0,.int .i64 0,.int .i64 0,.int .i64 0,.int .i64 0,.int .i64 0,.int .i64 0,.int .i64 0],sN [.nils,.sl 7 0 64 64,.int .i64 0,.ptr 4 0],sN [.int .i64 20,.slo 10 0 1 0],some (.obj orF [.tup [.agg [],.agg []]] 11),sD,sN [.int .i64 64,.nils,.ptr 9 0,.int .i64 0]] []):=by kernel_rfl
abbrev ne_f_b1 (wx:List LV) (hx:List LV) (wc:List LV) (k:Int) (a:Int) (q:Bool) (kc:List LV) (nd:Int) (d:Nat) (cs:List LV):List (Option LB):=[some (.ro wx),some (.ro hx),sN [.int .i64 k,.int .i64 a,.bool q],sC wc 1,sN [.slo 25 0 (knNW 64 kc (daD 64 kc cs [] 0 k a q nd) (asI (nthD wc (xix 0 (xnat (daD 64 kc cs [] 0 k a q nd)) 1)))) 0,.slo 6 0 64 0,.int .i64 (daD 64 kc cs [] 0 k a q nd),.ptr 7 0],sD,sC (spW 64 (knCW 64 kc (daD 64 kc cs [] 0 k a q nd) (asI (nthD wc (xix 0 (xnat (daD 64 kc cs [] 0 k a q nd)) 1))))) 1,sN [.int .i64 20,.slo 16 0 (daN 64 20 kc cs [] 0 k a q d) 0],sD,sD,sN [.int .i64 64,.slo 26 0 (knNW 64 kc (daD 64 kc cs [] 0 k a q nd) (asI (nthD wc (xix 0 (xnat (daD 64 kc cs [] 0 k a q nd)) 1)))) 0,.ptr 12 0,.int .i64 (daD 64 kc cs [] 0 k a q nd)],sD,sN [.int .i64 20,.slo 18 0 (daN 64 20 kc cs [] 0 k a q d) 0],sD,sD,sD,some (.obj lvF (daC 64 20 kc cs [] 0 k a q) 24),sD,some (.obj orF (daC 64 20 kc cs [] 0 k a q) 22),sD,sC (daR 64 20 kc cs [] k a) 1,sD,sD,sC (lcC (daC 64 20 kc cs [] 0 k a q)) 2,sD,sC (knCW 64 kc (daD 64 kc cs [] 0 k a q nd) (asI (nthD wc (xix 0 (xnat (daD 64 kc cs [] 0 k a q nd)) 1)))) 2,sC (knCW 64 kc (daD 64 kc cs [] 0 k a q nd) (asI (nthD wc (xix 0 (xnat (daD 64 kc cs [] 0 k a q nd)) 1)))) 2]
abbrev ne_f_b2 (wx:List LV) (hx:List LV) (wc:List LV) (k:Int) (a:Int) (q:Bool) (n:Nat) (kc:List LV) (sc:List LV) (nd:Int) (d:Nat) (cs:List LV):List (Option LB):=[some (.ro wx),some (.ro hx),sN [.int .i64 k,.int .i64 a,.bool q],sC wc 1,sN [.slo 5 0 n 0,.slo 6 0 64 0,.int .i64 (daD 64 kc cs [] 0 k a q nd),.ptr 7 0],sC kc 2,sC sc 1,sN [.int .i64 20,.slo 16 0 (daN 64 20 kc cs [] 0 k a q d) 0],sD,sD,sN [.int .i64 64,.slo 11 0 n 0,.ptr 12 0,.int .i64 (daD 64 kc cs [] 0 k a q nd)],sC kc 2,sN [.int .i64 20,.slo 18 0 (daN 64 20 kc cs [] 0 k a q d) 0],sD,sD,sD,some (.obj lvF (daC 64 20 kc cs [] 0 k a q) 21),sD,some (.obj orF (daC 64 20 kc cs [] 0 k a q) 22),sD,sC (daR 64 20 kc cs [] k a) 1,sD,sD]
theorem ne_f (i:Nat) (wx hx wc:List LV) (k a:Int) (q:Bool) (n:Nat) (kc sc:List LV) (nd:Int) (d:Nat) (cs:List LV) (K:Pk):(xcode prog cxne 60 125 (loopOf (nthC neS 12)) (mkTm 125 (neV i)) (mkS (neI wx hx wc k a q n kc sc nd d cs)) (vK neL K))=(
 bif xcm .lss (↑i) 9 then(
 ck (okK 64 n kc) <|
 ck (eqL sc (spW 64 kc)) <|
 ck (okR 20 cs d) <|
 ck (xeq d d) <|
 ck (eqL cs cs) <|
 ck (xeq n n) <|
 ck (eqL kc kc) <|
 ck (xcm .eql nd nd) <|
 ck (okv 64 kc cs) <|
 ck (daF 64 20 kc cs [] 0 k a q) <|
 ck (isF lvF lvF) <|
 ck (isF orF orF) <|
 ck (okK 64 n kc) <|
 ck (eqL sc (spW 64 kc)) <|
 ck (okR 20 (daC 64 20 kc cs [] 0 k a q) (daN 64 20 kc cs [] 0 k a q d)) <|
 ck (xeq (daN 64 20 kc cs [] 0 k a q d) (daN 64 20 kc cs [] 0 k a q d)) <|
 ck (eqL (daC 64 20 kc cs [] 0 k a q) (daC 64 20 kc cs [] 0 k a q)) <|
 ck (xeq n n) <|
 ck (eqL kc kc) <|
 ck (xcm .eql (daD 64 kc cs [] 0 k a q nd) (daD 64 kc cs [] 0 k a q nd)) <|
 ck (isF lvF lvF) <|
 ck (isF orF orF) <|
 bif xcm .eql (daD 64 kc cs [] 0 k a q nd) nd then(
 K .ret [.any,.any,.ptr 2 0,.bool true,.slo 3 0 64 0,.any,.any,.ptr 4 0,.ptr 10 0,.int .i64 ↑i] (ne_f_b2 wx hx wc k a q n kc sc nd d cs) [])
 else(
 bif xcm .lss (daD 64 kc cs [] 0 k a q nd) 1 then(
 K .ret [.any,.any,.ptr 2 0,.bool true,.slo 3 0 64 0,.any,.any,.ptr 4 0,.ptr 10 0,.int .i64 ↑i] (ne_f_b2 wx hx wc k a q n kc sc nd d cs) [])
 else(
 bif xcm .gtr (daD 64 kc cs [] 0 k a q nd) 63 then(
 K .ret [.any,.any,.ptr 2 0,.bool true,.slo 3 0 64 0,.any,.any,.ptr 4 0,.ptr 10 0,.int .i64 ↑i] (ne_f_b2 wx hx wc k a q n kc sc nd d cs) [])
 else(
 ck (okR 20 (daC 64 20 kc cs [] 0 k a q) (daN 64 20 kc cs [] 0 k a q d)) <|
 ck (isF lvF lvF) <|
 bif xcm .gtr (↑(lcN (daC 64 20 kc cs [] 0 k a q))) 0 then(
 K .ret [.any,.any,.ptr 2 0,.bool false,.slo 3 0 64 0,.any,.any,.ptr 4 0,.ptr 10 0,.int .i64 ↑i] [some (.ro wx),some (.ro hx),sN [.int .i64 k,.int .i64 a,.bool q],sC wc 1,sN [.slo 5 0 n 0,.slo 6 0 64 0,.int .i64 (daD 64 kc cs [] 0 k a q nd),.ptr 7 0],sC kc 2,sC sc 1,sN [.int .i64 20,.slo 16 0 (daN 64 20 kc cs [] 0 k a q d) 0],sD,sD,sN [.int .i64 64,.slo 11 0 n 0,.ptr 12 0,.int .i64 (daD 64 kc cs [] 0 k a q nd)],sC kc 2,sN [.int .i64 20,.slo 18 0 (daN 64 20 kc cs [] 0 k a q d) 0],sD,sD,sD,some (.obj lvF (daC 64 20 kc cs [] 0 k a q) 24),sD,some (.obj orF (daC 64 20 kc cs [] 0 k a q) 22),sD,sC (daR 64 20 kc cs [] k a) 1,sD,sD,sC (lcC (daC 64 20 kc cs [] 0 k a q)) 2,sD] [])
 else(
 ck (xnn (daD 64 kc cs [] 0 k a q nd)) <|
 ck (xle (xadd (xnat (daD 64 kc cs [] 0 k a q nd)) 1) 64) <|
 ck (xle (xadd (xix 0 (xnat (daD 64 kc cs [] 0 k a q nd)) 1) 1) (xln wc)) <|
 ck (isI .u64 (nthD wc (xix 0 (xnat (daD 64 kc cs [] 0 k a q nd)) 1))) <|
 ck (okK 64 n kc) <|
 ck (eqL sc (spW 64 kc)) <|
 ck (isF lvF lvF) <|
 bif xcm .neq (knEW 64 kc (daD 64 kc cs [] 0 k a q nd) (asI (nthD wc (xix 0 (xnat (daD 64 kc cs [] 0 k a q nd)) 1)))) 0 then(
 K .ret [.any,.any,.ptr 2 0,.bool false,.slo 3 0 64 0,.any,.any,.ptr 4 0,.ptr 10 0,.int .i64 ↑i] [some (.ro wx),some (.ro hx),sN [.int .i64 k,.int .i64 a,.bool q],sC wc 1,sN [.slo 25 0 (knNW 64 kc (daD 64 kc cs [] 0 k a q nd) (asI (nthD wc (xix 0 (xnat (daD 64 kc cs [] 0 k a q nd)) 1)))) 0,.slo 6 0 64 0,.int .i64 (daD 64 kc cs [] 0 k a q nd),.ptr 7 0],sD,sC (spW 64 (knCW 64 kc (daD 64 kc cs [] 0 k a q nd) (asI (nthD wc (xix 0 (xnat (daD 64 kc cs [] 0 k a q nd)) 1))))) 1,sN [.int .i64 20,.slo 16 0 (daN 64 20 kc cs [] 0 k a q d) 0],sD,sD,sN [.int .i64 64,.slo 11 0 n 0,.ptr 12 0,.int .i64 (daD 64 kc cs [] 0 k a q nd)],sC kc 2,sN [.int .i64 20,.slo 18 0 (daN 64 20 kc cs [] 0 k a q d) 0],sD,sD,sD,some (.obj lvF (daC 64 20 kc cs [] 0 k a q) 24),sD,some (.obj orF (daC 64 20 kc cs [] 0 k a q) 22),sD,sC (daR 64 20 kc cs [] k a) 1,sD,sD,sC (lcC (daC 64 20 kc cs [] 0 k a q)) 2,sD,sC (knCW 64 kc (daD 64 kc cs [] 0 k a q nd) (asI (nthD wc (xix 0 (xnat (daD 64 kc cs [] 0 k a q nd)) 1)))) 2] [])
 else(
 ck (xnn (daD 64 kc cs [] 0 k a q nd)) <|
 ck (xle (xadd (xnat (daD 64 kc cs [] 0 k a q nd)) 1) 64) <|
 ck (xle (xadd (xix 0 (xnat (daD 64 kc cs [] 0 k a q nd)) 1) 1) (xln wc)) <|
 ck (isI .u64 (nthD wc (xix 0 (xnat (daD 64 kc cs [] 0 k a q nd)) 1))) <|
 ck (okK 64 n kc) <|
 ck (isF orF orF) <|
 bif xcm .neq (knEW 64 kc (daD 64 kc cs [] 0 k a q nd) (asI (nthD wc (xix 0 (xnat (daD 64 kc cs [] 0 k a q nd)) 1)))) 0 then(
 K .ret [.any,.any,.ptr 2 0,.bool false,.slo 3 0 64 0,.any,.any,.ptr 4 0,.ptr 10 0,.int .i64 ↑i] (ne_f_b1 wx hx wc k a q kc nd d cs) [])
 else(
 K .normal [.any,.any,.ptr 2 0,.any,.slo 3 0 64 0,.any,.any,.ptr 4 0,.ptr 10 0,.int .i64 (xar .add .i64 (↑i) 1)] (ne_f_b1 wx hx wc k a q kc nd d cs) [])))))))
 else(
 K (.exit 4) [.any,.any,.ptr 2 0,.any,.slo 3 0 64 0,.any,.any,.ptr 4 0,.ptr 10 0,.int .i64 ↑i] [some (.ro wx),some (.ro hx),sN [.int .i64 k,.int .i64 a,.bool q],sC wc 1,sN [.slo 5 0 n 0,.slo 6 0 64 0,.int .i64 nd,.ptr 7 0],sC kc 2,sC sc 1,sN [.int .i64 20,.slo 8 0 d 0],some (.obj lvF cs 9),sD,sN [.int .i64 64,.slo 11 0 n 0,.ptr 12 0,.int .i64 nd],sC kc 2,sN [.int .i64 20,.slo 13 0 d 0],some (.obj orF cs 14),sD] [])):=by kernel_rfl
theorem ne_z (i:Nat) (wx hx wc:List LV) (k a:Int) (q:Bool) (n:Nat) (kc sc:List LV) (nd:Int) (d:Nat) (cs:List LV) (K:Pk):(xsp prog cxne 60 125 (neS.drop 13) (mkTm 125 (neV i)) (mkS (neI wx hx wc k a q n kc sc nd d cs)) (vK neL K))=(
 K .ret [.any,.any,.ptr 2 0,.bool true,.slo 3 0 64 0,.any,.any,.ptr 4 0,.ptr 10 0,.int .i64 ↑i] [some (.ro wx),some (.ro hx),sN [.int .i64 k,.int .i64 a,.bool q],sC wc 1,sN [.slo 5 0 n 0,.slo 6 0 64 0,.int .i64 nd,.ptr 7 0],sC kc 2,sC sc 1,sN [.int .i64 20,.slo 8 0 d 0],some (.obj lvF cs 9),sD,sN [.int .i64 64,.slo 11 0 n 0,.ptr 12 0,.int .i64 nd],sC kc 2,sN [.int .i64 20,.slo 13 0 d 0],some (.obj orF cs 14),sD] []):=by kernel_rfl
end
end Go.Lev
