/- LevelsPlays: place; Take of nothing; what an ask does -/
import Derived.Test.YtciccbphopgmaaaCW23
import Derived.Test.YtciccbphopgmaaaLc
import Derived.Test.YtciccbphopgmaaaChecked
import Derived.KernelRfl
namespace Go.Lev
set_option linter.unusedSimpArgs false
set_option linter.unusedVariables false
open Go.RowKit
open Go.Proofs.Try (prog)
set_option maxRecDepth 100000
noncomputable section
theorem within_x (a lo hi:Int) (K:Fk):(xfun prog (fun _=>none) 40 21 [.int .i64 a,.int .i64 lo,.int .i64 hi] (mkS []) (vF K))=(
 ck (xcm .neq (xar .add .i64 (xar .sub .i64 hi lo) 1) 0) <|
 bif xcm .lss (xar .rem .i64 a (xar .add .i64 (xar .sub .i64 hi lo) 1)) 0 then(
 K (.int .i64 (xar .add .i64 lo (xar .add .i64 (xar .sub .i64 (xar .add .i64 (xar .rem .i64 a (xar .add .i64 (xar .sub .i64 hi lo) 1)) hi) lo) 1))) [] [])
 else(
 K (.int .i64 (xar .add .i64 lo (xar .rem .i64 a (xar .add .i64 (xar .sub .i64 hi lo) 1)))) [] [])):=by kernel_rfl
def wthV (a lo hi:Int):Int:=lo+a % (hi - lo+1)
def withinG:Gc:=fun args s=>match args,s.g with
 | [.int .i64 a,.int .i64 lo,.int .i64 hi],[]=>some ([xcm .leq lo hi,xcm .leq (-1000000) lo,xcm .leq hi 1000000],.int .i64 (wthV a lo hi),s)
 | _,_=>none
theorem tmod_pos (a m:Int) (hm:0 < m) : -m < a.tmod m∧a.tmod m < m∧(a.tmod m=a % m∨(a.tmod m < 0∧a.tmod m+m=a % m)):=by
 have hb:=Int.emod_nonneg a (b:=m) (by omega)
 have hc:=Int.emod_lt_of_pos a hm
 rcases Int.lt_or_le a 0 with h | h
 ·have e:a.tmod m = -((-a).tmod m):=by have:=Int.neg_tmod (-a) m; rw [Int.neg_neg] at this; exact this
  have h6:0≤(-a).tmod m:=Int.tmod_nonneg _ (by omega)
  have h7:(-a).tmod m < m:=Int.tmod_lt_of_pos _ hm
  refine⟨by omega,by omega,?_⟩
  have h8:m ∣ a - a.tmod m:=Int.dvd_self_sub_tmod
  have h9:m ∣ a - a % m:=Int.dvd_self_sub_emod
  obtain⟨u,hu⟩:=h8
  obtain⟨v,hv⟩:=h9
  have hd:a % m - a.tmod m=m * (u - v):=by rw [Int.mul_sub]; omega
  by_cases h0:u - v ≤ -1
  ·have:m * (u - v)≤m * (-1):=Int.mul_le_mul_of_nonneg_left h0 (by omega)
   omega
  ·by_cases h1:u - v=0
   ·rw [h1] at hd; simp at hd; exact .inl (by omega)
   ·by_cases h2:u - v=1
    ·rw [h2] at hd; simp at hd; exact .inr ⟨by omega,by omega⟩
    ·have:m * 2≤m * (u - v):=Int.mul_le_mul_of_nonneg_left (by omega) (by omega)
     omega
 ·have h6:=Int.tmod_nonneg m h
  exact⟨by omega,Int.tmod_lt_of_pos _ hm,.inl (Int.tmod_eq_emod_of_nonneg h)⟩
theorem within_ok (a lo hi:Int) (h:lo≤hi) (h1 : -1000000≤lo) (h2:hi≤1000000):SFun prog 21 [.int .i64 a,.int .i64 lo,.int .i64 hi] (mkS []) fun l s=>l=.int .i64 (wthV a lo hi)∧s=mkS []:=by
 refine SFun.mono (SFun.vc (Q:=fun l b=>l=.int .i64 (wthV a lo hi)∧b=[]) noCx_ok (n:=40) 0 rfl ?_) fun l s' ⟨b0,⟨h1,h2⟩,h3⟩=>⟨h1,by rw [h3,h2]⟩
 have hq:=Int.emod_nonneg a (b:=hi - lo+1) (by omega)
 have e1:xar .sub .i64 hi lo=hi - lo:=sub_i64 (by omega) (by omega)
 have e2:xar .add .i64 (hi - lo) 1=hi - lo+1:=add_i64 (by omega) (by omega)
 have e3:xar .rem .i64 a (hi - lo+1)=a.tmod (hi - lo+1):=xar_rem _ _ _ (by omega)
 obtain⟨t1,t2,t3⟩:=tmod_pos a (hi - lo+1) (by omega)
 rw [within_x,e1,e2,e3]
 refine must (t_neq (by omega)) ?_
 rw [xcm_lss]
 refine ite_way (fun hn=>?_) (fun hn=>?_)
 ·have e:xar .add .i64 lo (xar .add .i64 (xar .sub .i64 (xar .add .i64 (a.tmod (hi - lo+1)) hi) lo) 1)=wthV a lo hi:=by
   simp only [wthV]
   rw [add_i64 (x:=a.tmod (hi - lo+1)) (by omega) (by omega),sub_i64 (by omega) (by omega),add_i64 (x:=a.tmod (hi - lo+1)+hi - lo) (by omega) (by omega),add_i64 (by omega) (by omega)]
   omega
  rw [e]
  exact⟨rfl,_,[],[],⟨rfl,rfl⟩,by(exact zC)⟩
 ·have e:xar .add .i64 lo (a.tmod (hi - lo+1))=wthV a lo hi:=by
   simp only [wthV]
   rw [add_i64 (by omega) (by omega)]; omega
  rw [e]
  exact⟨rfl,_,[],[],⟨rfl,rfl⟩,by(exact zC)⟩
theorem withinG_ok:GOk prog 21 withinG:=by
 intro args s bs l s' hg hb hfr
 unfold withinG at hg
 split at hg
 ·rename_i a lo hi hgl
  simp only [Option.some.injEq,Prod.mk.injEq] at hg
  obtain⟨rfl,rfl,rfl⟩:=hg
  obtain⟨k1,hb⟩:=allT_cons.1 hb
  obtain⟨k2,hb⟩:=allT_cons.1 hb
  have k3:=(allT_cons.1 hb).1
  rw [xcm_leq,decide_eq_true_eq] at k1 k2 k3
  exact SFun.pure hfr hgl rfl rfl (within_ok a lo hi k1 k2 k3)
 ·cases hg
section
variable {P:Program}
theorem SFun.nilrow {f:Nat} {args:List LV} {bs:List LB} {g:Glb} {es:Nat} {Q:LV→St→Prop} (h:SFun P f (args++[.slo bs.length 0 0 0]) (mkS (bs++[.cells [] (some es)]) g) Q):SFun P f (args++[.nils]) (mkS bs g) Q:=by
 intro W0 r w us hI hv
 have hdn:∀ b x,r b=some x→b < bs.length:=fun b x hb=>by have:=(hI.dom b x hb).1; rwa [mkS_n] at this
 have hrn:r bs.length=none:=by
  cases e:r bs.length with
  | none=>rfl
  | some x=>exact absurd (hdn _ _ e) (by omega)
 have hget:∀ b L,(mkS (bs++[.cells [] (some es)]) g).h.get b=some L→(mkS bs g).h.get b=some L∨(b=bs.length∧L=.cells [] (some es)):=fun b L hb=>by
  rw [mkS_get] at hb ⊢
  rcases Nat.lt_or_ge b bs.length with k | k
  ·rw [List.getElem?_append_left k] at hb; exact .inl hb
  ·rw [List.getElem?_append_right k] at hb
   by_cases e:b=bs.length
   ·subst e; simp at hb; exact .inr ⟨rfl,hb.symm⟩
   ·rw [List.getElem?_eq_none (by simp; omega)] at hb; cases hb
 have hlv:∀ b x,(mkS (bs++[.cells [] (some es)]) g).lives b→r b=some x→(mkS bs g).lives b:=fun b x ⟨L,h1,h2⟩ hx=>by
  rcases hget b L h1 with k | ⟨k,_⟩
  ·exact⟨L,k,h2⟩
  ·subst k; rw [hrn] at hx; cases hx
 have hob:∀ b F cs γ,(mkS (bs++[.cells [] (some es)]) g).h.get b=some (.obj F cs γ)→(mkS bs g).h.get b=some (.obj F cs γ):=fun b F cs γ hb=>by
  rcases hget b _ hb with k | ⟨_,k⟩
  ·exact k
  ·cases k
 have hI':Inv W0 r (mkS (bs++[.cells [] (some es)]) g) w:=by
  refine⟨hI.below,fun b x hb=>⟨by have:=hdn b x hb; rw [mkS_n]; simp; omega,(hI.dom b x hb).2⟩,fun b x hl hb=>hI.own b x (hlv b x hl hb) hb,fun b hb=>by rw [mkS_n] at hb; rw [mkS_get,List.getElem?_eq_none hb],fun b b' x x' l l' e e' he=>hI.inj b b' x x' (hlv b x l e) (hlv b' x' l' e') e e' he,fun b cs op hb=>?_,fun b t p hb=>?_,hI.gl,fun b cs hb=>?_,hI.ob.step (Ren.le_refl r) hob (fun b x l e=>.inl ⟨hlv b x l e,e⟩) (Nat.le_refl _) fun _ _=>rfl⟩
  ·rcases hget b _ hb with k | ⟨k1,k2⟩
   ·exact hI.cells b cs op k
   ·cases k2; subst k1; exact .inl ⟨rfl,hrn⟩
  ·rcases hget b _ hb with k | ⟨_,k⟩
   ·exact hI.iter b t p k
   ·cases k
  ·rcases hget b _ hb with k | ⟨_,k⟩
   ·exact hI.ro b cs k
   ·cases k
 have hv':VRs r (args++[.slo bs.length 0 0 0]) us:=by
  have:∀ {a:List LV} {us:List Value},VRs r (a++[.nils]) us→VRs r (a++[.slo bs.length 0 0 0]) us:=by
   intro a
   induction a with
   | nil =>
     intro us h
     simp only [List.nil_append,VRs] at h ⊢
     obtain⟨u,us',rfl,h1,h2⟩:=h
     exact⟨u,us',rfl,by simp only [VR] at h1 ⊢; exact .inr ⟨trivial,.inl h1⟩,h2⟩
   | cons x a ih =>
     intro us h
     simp only [List.cons_append,VRs] at h ⊢
     obtain⟨u,us',rfl,h1,h2⟩:=h
     exact⟨u,us',rfl,h1,ih h2⟩
  exact this hv
 have how:∀ B,Owned r (mkS (bs++[.cells [] (some es)]) g) B→Owned r (mkS bs g) B:=fun B hB=>by
  rcases hB with⟨b,x,h1,h2,h3⟩ | ⟨b,F,cs,γ,h1,h2⟩
  ·exact .inl ⟨b,x,hlv b x h1 h2,h2,h3⟩
  ·exact .inr ⟨b,F,cs,γ,hob _ _ _ _ h1,h2⟩
 refine(h W0 r w us hI' hv').mono fun e w' ⟨l,s',u,r',q,he,hu,hi,hE⟩=>⟨l,s',u,r',q,he,hu,hi,hE.le,?_,hE.size,fun B hB ho=>how B (hE.img B hB ho),fun B hB ho=>hE.keep B hB fun k=>ho (how B k)⟩
 have:=hE.n
 simp only [mkS_n,List.length_append,List.length_singleton] at this ⊢
 omega
end
theorem okn:okC [] 0=true:=okC_enc (xs:=[]) (by simp)
theorem ltake0_c (most:Int) (d:Nat) (cs:List LV) (k1:okR most cs d=true):SFun prog 27 [.ptr 0 0,.nils] (mkS (lvS most d cs [])) fun l t=>l=.int .i64 (ltE most cs [])∧t=mkS (lvS' most (ltD most cs []) (ltC most cs []) [.cells [] (some 2)]) :=
 SFun.nilrow (args:=[.ptr 0 0]) (bs:=lvS most d cs []) (es:=2) (ltake_c most d 0 cs [] k1 okn (t_le (by omega)))
theorem otake0_c (most:Int) (d:Nat) (cs:List LV) (k1:okR most cs d=true):SFun prog 28 [.ptr 0 0,.nils] (mkS (whI most d cs)) fun l t=>l=.int .i64 (ltE most cs [])∧t=mkS (otO most (ltD most cs []) (ltC most cs []) []) :=
 SFun.nilrow (args:=[.ptr 0 0]) (bs:=whI most d cs) (es:=2) (otake_c most d 0 cs [] k1 okn (t_le (by omega)))
def ltake0G:Gc:=fun args s=>match args,s.g with
 | [.ptr b 0,.nils],[]=>(match s.h.get b with
   | some (.cells [.int .i64 most,.slo o 0 d 0] none)=>(match s.h.get o with
     | some (.obj F_o cs e)=>(match s.h.get e with
       | some (.dead)=>cond (nodupB [b,o,e]) (match s.lay [b,o,e] [.cells [.int .i64 most,.slo o 0 (ltD most cs []) 0] none,.obj lvF (ltC most cs []) (Nat.succ s.n),.dead] [.cells [] (some 2),.dead] with
         | some s'=>some ([okR most cs d,isF F_o lvF],.int .i64 (ltE most cs []),s')
         | none=>none) none
       | _=>none)
     | _=>none)
   | _=>none)
 | _,_=>none
theorem ltake0G_ok:GOk prog 27 ltake0G:=by
 intro args s bs l s' hg hb hfr
 unfold ltake0G at hg
 split at hg
 ·rename_i b hgl
  split at hg
  ·rename_i most o d hb0
   split at hg
   ·rename_i F_o cs e hb1
    split at hg
    ·rename_i  hb2
     cases hbc:nodupB [b,o,e] with
     | false=>rw [hbc] at hg; cases hg
     | true =>
       rw [hbc] at hg
       simp only [cond_true] at hg
       split at hg
       ·rename_i s1 hs1
        simp only [Option.some.injEq,Prod.mk.injEq] at hg
        obtain⟨rfl,rfl,rfl⟩:=hg
        simp only [allT_cons] at hb
        obtain⟨k1,k2,_⟩:=hb
        have e_o:=isF_eq k2
        subst e_o
        refine SFun.lay (bs:=[.cells [.int .i64 most,.slo 1 0 d 0] none,.obj lvF cs 2,.dead]) (args0:=[.ptr 0 0,.nils]) (bs':=[.cells [.int .i64 most,.slo 1 0 (ltD most cs []) 0] none,.obj lvF (ltC most cs []) 4,.dead,.cells [] (some 2),.dead]) (v0:=.int .i64 (ltE most cs [])) hfr hs1 (nodupB_nd hbc)
         ⟨⟨there hfr hb0,_,hb0,by first | exact lb_same rfl | exact lb_cells (lws_cons (lw_int) (lws_cons (lw_slo rfl) lws_nil)) (by simp),fun κ hκ=>lb_cells (lws_cons (lw_int) (lws_cons (lw_slo (hκ 1 o rfl)) lws_nil)) (by simp)⟩,⟨there hfr hb1,_,hb1,lb_obj rfl,fun κ hκ=>lb_obj (hκ 2 e rfl)⟩,⟨there hfr hb2,_,hb2,lb_dead,fun κ hκ=>lb_dead⟩,trivial⟩ (by(exact zTl)) ?_
         fun κ h1 h2=>⟨⟨lb_cells (lws_cons (lw_int) (lws_cons (lw_slo (h1 1 o rfl)) lws_nil)) (by simp),lb_obj (h2 1 (by simp)),lb_dead,lb_cells lws_nil (by simp),lb_dead,trivial⟩,lw_int⟩
        rw [hgl]; exact(ltake0_c most d cs k1)
       ·cases hg
    ·cases hg
   ·cases hg
  ·cases hg
 ·cases hg
def otake0G:Gc:=fun args s=>match args,s.g with
 | [.ptr b 0,.nils],[]=>(match s.h.get b with
   | some (.cells [.int .i64 most,.slo o 0 d 0] none)=>(match s.h.get o with
     | some (.obj F_o cs e)=>(match s.h.get e with
       | some (.dead)=>cond (nodupB [b,o,e]) (match s.lay [b,o,e] [.cells [.int .i64 most,.slo (Nat.succ s.n) 0 (ltD most cs []) 0] none,.dead,.dead] [.cells [] (some 2),.obj orF (ltC most cs []) (Nat.succ (Nat.succ s.n)),.dead] with
         | some s'=>some ([okR most cs d,isF F_o orF],.int .i64 (ltE most cs []),s')
         | none=>none) none
       | _=>none)
     | _=>none)
   | _=>none)
 | _,_=>none
theorem otake0G_ok:GOk prog 28 otake0G:=by
 intro args s bs l s' hg hb hfr
 unfold otake0G at hg
 split at hg
 ·rename_i b hgl
  split at hg
  ·rename_i most o d hb0
   split at hg
   ·rename_i F_o cs e hb1
    split at hg
    ·rename_i  hb2
     cases hbc:nodupB [b,o,e] with
     | false=>rw [hbc] at hg; cases hg
     | true =>
       rw [hbc] at hg
       simp only [cond_true] at hg
       split at hg
       ·rename_i s1 hs1
        simp only [Option.some.injEq,Prod.mk.injEq] at hg
        obtain⟨rfl,rfl,rfl⟩:=hg
        simp only [allT_cons] at hb
        obtain⟨k1,k2,_⟩:=hb
        have e_o:=isF_eq k2
        subst e_o
        refine SFun.lay (bs:=[.cells [.int .i64 most,.slo 1 0 d 0] none,.obj orF cs 2,.dead]) (args0:=[.ptr 0 0,.nils]) (bs':=[.cells [.int .i64 most,.slo 4 0 (ltD most cs []) 0] none,.dead,.dead,.cells [] (some 2),.obj orF (ltC most cs []) 5,.dead]) (v0:=.int .i64 (ltE most cs [])) hfr hs1 (nodupB_nd hbc)
         ⟨⟨there hfr hb0,_,hb0,by first | exact lb_same rfl | exact lb_cells (lws_cons (lw_int) (lws_cons (lw_slo rfl) lws_nil)) (by simp),fun κ hκ=>lb_cells (lws_cons (lw_int) (lws_cons (lw_slo (hκ 1 o rfl)) lws_nil)) (by simp)⟩,⟨there hfr hb1,_,hb1,lb_obj rfl,fun κ hκ=>lb_obj (hκ 2 e rfl)⟩,⟨there hfr hb2,_,hb2,lb_dead,fun κ hκ=>lb_dead⟩,trivial⟩ (by(exact zTl)) ?_
         fun κ h1 h2=>⟨⟨lb_cells (lws_cons (lw_int) (lws_cons (lw_slo (h2 1 (by simp))) lws_nil)) (by simp),lb_dead,lb_dead,lb_cells lws_nil (by simp),lb_obj (h2 2 (by simp)),lb_dead,trivial⟩,lw_int⟩
        rw [hgl]; exact(otake0_c most d cs k1)
       ·cases hg
    ·cases hg
   ·cases hg
  ·cases hg
 ·cases hg
def orG (g1 g2:Gc):Gc:=fun args s=>match g1 args s with | some r=>some r | none=>g2 args s
theorem orG_ok {f:Nat} {g1 g2:Gc} (h1:GOk prog f g1) (h2:GOk prog f g2):GOk prog f (orG g1 g2):=by
 intro args s bs l s' hg hb hfr
 unfold orG at hg
 split at hg
 ·rename_i r hr
  cases hg
  exact h1 args s _ _ _ hr hb hfr
 ·exact h2 args s _ _ _ hg hb hfr
def cxpl:Cx:=cxl [(21,withinG)]
def plV (a i:Int):Int:=if i.tmod 9=8 then a else wthV a 1 20
theorem plc_x (a i:Int) (K:Fk):(xfun prog cxpl 40 26 [.int .i64 a,.int .i64 i] (mkS []) (vF K))=(
 bif xcm .eql (xar .rem .i64 i 9) 8 then(
 K (.int .i64 a) [] [])
 else(
 K (.int .i64 (wthV a 1 20)) [] [])):=by kernel_rfl
theorem pla_ok (a i:Int):SFun prog 26 [.int .i64 a,.int .i64 i] (mkS []) fun l s=>l=.int .i64 (plV a i)∧s=mkS []:=by
 refine SFun.mono (SFun.vc (Q:=fun l b=>l=.int .i64 (plV a i)∧b=[]) (cx:=cxpl) (cxl_ok ⟨withinG_ok,trivial⟩) (n:=40) 0 rfl ?_) fun l s' ⟨b0,⟨h1,h2⟩,h3⟩=>⟨h1,by rw [h3,h2]⟩
 have e9:xar .rem .i64 i 9=i.tmod 9:=xar_rem _ _ _ (by omega)
 rw [plc_x,e9]
 by_cases c:i.tmod 9=8
 ·have e:plV a i=a:=if_pos c
  rw [e]
  (refine zR ?_)
  exact⟨rfl,_,[],[],⟨rfl,rfl⟩,by(exact zC)⟩
 ·have e:plV a i=wthV a 1 20:=if_neg c
  rw [e]
  (refine zR ?_)
  exact⟨rfl,_,[],[],⟨rfl,rfl⟩,by(exact zC)⟩
def plaG:Gc:=fun args s=>match args,s.g with
 | [.int .i64 a,.int .i64 i],[]=>(match s.lay [] [] [] with
   | some s'=>some ([],.int .i64 (plV a i),s')
   | none=>none)
 | _,_=>none
theorem plaG_ok:GOk prog 26 plaG:=by
 intro args s bs l s' hg hb hfr
 unfold plaG at hg
 split at hg
 ·rename_i a i hgl
  split at hg
  ·rename_i s1 hs1
   simp only [Option.some.injEq,Prod.mk.injEq] at hg
   obtain⟨rfl,rfl,rfl⟩:=hg
   refine SFun.lay (bs:=[]) (args0:=[.int .i64 a,.int .i64 i]) (bs':=[]) (v0:=.int .i64 (plV a i)) hfr hs1 (by simp)
    trivial (by(exact zTl)) ?_
    fun κ h1 h2=>⟨trivial,lw_int⟩
   rw [hgl]; exact(pla_ok a i)
  ·cases hg
 ·cases hg
def cxd:Cx:=cxl [(21,wrapG withinG),(26,wrapG plaG),(10,wrapG lopenG),(22,wrapG oopenG),(14,wrapG lkeepG),(23,wrapG okeepG),(12,wrapG ldropG),(24,wrapG odropG),(13,wrapG lfreeG),(25,wrapG ofreeG),(9,wrapG lputG),(29,wrapG oputlG),(27,orG (wrapG ltakeG) (wrapG ltake0G)),(28,orG (wrapG otakeG) (wrapG otake0G))]
abbrev doL:List Nat:=[0,1,3,6,8,14]
abbrev doT (i c:Int):List (Nat×LV):=[(0,.ptr 0 0),(1,.ptr 3 0),(3,.int .i64 i),(6,.ptr 6 0),(14,.int .i64 c)]
abbrev doI (most:Int) (d:Nat) (cs:List LV):List LB:=[.cells [.int .i64 most,.slo 1 0 d 0] none,.obj lvF cs 2,.dead,.cells [.int .i64 most,.slo 4 0 d 0] none,.obj orF cs 5,.dead]
abbrev doH (most:Int) (d:Nat) (cs:List LV) (k a w:Int) (v:Value):List LB:=[.cells [.int .i64 most,.slo 1 0 d 0] none,.obj lvF cs 2,.dead,.cells [.int .i64 most,.slo 4 0 d 0] none,.obj orF cs 5,.dead,.cells [.int .i64 k,.int .i64 a,.int .u64 w,.val v] none]
abbrev doR (most:Int) (d:Nat) (cs:List LV) (k a w:Int) (n:Nat) (qs:List LV):List LB:=[.cells [.int .i64 most,.slo 1 0 d 0] none,.obj lvF cs 2,.dead,.cells [.int .i64 most,.slo 4 0 d 0] none,.obj orF cs 5,.dead,.cells [.int .i64 k,.int .i64 a,.int .u64 w,.slo 7 0 n 0] none,.ro qs]
theorem do_a (most:Int) (d:Nat) (cs:List LV) (k a w i:Int) (v:Value) (F:World→Prop) (K:Pk):(xsp prog cxd 60 101 (seg (sp prog 7) 0 2) (tm0 [.ptr 0 0,.ptr 3 0,.agg [.int .i64 k,.int .i64 a,.int .u64 w,.val v],.int .i64 i]) (mkS (doI most d cs) (factG F)) (vK doL K))=(
 K .normal [.ptr 0 0,.ptr 3 0,.int .i64 i,.ptr 6 0,.bool false,.int .i64 (wthV k 0 9)] [sN [.int .i64 most,.slo 1 0 d 0],some (.obj lvF cs 2),sD,sN [.int .i64 most,.slo 4 0 d 0],some (.obj orF cs 5),sD,sN [.int .i64 k,.int .i64 a,.int .u64 w,.val v]] (factG F)):=by kernel_rfl
theorem do_0 (most:Int) (d:Nat) (cs:List LV) (k a w i:Int) (v:Value) (F:World→Prop) (K:Pk):(xsp prog cxd 60 101 ((sp prog 7).drop 2) (mkTm 101 (doT i 0)) (mkS (doH most d cs k a w v) (factG F)) (vK doL K))=(
 ck (okR most cs d) <|
 ck (isF lvF lvF) <|
 ck (okR most cs d) <|
 ck (isF orF orF) <|
 K .ret [.ptr 0 0,.ptr 3 0,.int .i64 i,.ptr 6 0,.bool (xcm .eql (lopenE cs) (lopenE cs)),.int .i64 0] [sN [.int .i64 most,.slo 7 0 (lopenD cs) 0],sD,sD,sN [.int .i64 most,.slo 9 0 (lopenD cs) 0],sD,sD,sN [.int .i64 k,.int .i64 a,.int .u64 w,.val v],some (.obj lvF (lopenC cs) 8),sD,some (.obj orF (lopenC cs) 10),sD] (factG F)):=by kernel_rfl
theorem do_1 (most:Int) (d:Nat) (cs:List LV) (k a w i:Int) (v:Value) (F:World→Prop) (K:Pk):(xsp prog cxd 60 101 ((sp prog 7).drop 2) (mkTm 101 (doT i 1)) (mkS (doH most d cs k a w v) (factG F)) (vK doL K))=(
 ck (okR most cs d) <|
 ck (isF lvF lvF) <|
 ck (okR most cs d) <|
 ck (isF orF orF) <|
 K .ret [.ptr 0 0,.ptr 3 0,.int .i64 i,.ptr 6 0,.bool (xcm .eql (lkeepE cs) (lkeepE cs)),.int .i64 1] [sN [.int .i64 most,.slo 7 0 (lkeepD cs) 0],sD,sD,sN [.int .i64 most,.slo 9 0 (lkeepD cs) 0],sD,sD,sN [.int .i64 k,.int .i64 a,.int .u64 w,.val v],some (.obj lvF (lkeepC cs) 8),sD,some (.obj orF (lkeepC cs) 10),sD] (factG F)):=by kernel_rfl
theorem do_2 (most:Int) (d:Nat) (cs:List LV) (k a w i:Int) (v:Value) (F:World→Prop) (K:Pk):(xsp prog cxd 60 101 ((sp prog 7).drop 2) (mkTm 101 (doT i 2)) (mkS (doH most d cs k a w v) (factG F)) (vK doL K))=(
 ck (okR most cs d) <|
 ck (isF lvF lvF) <|
 ck (okR most cs d) <|
 ck (isF orF orF) <|
 K .ret [.ptr 0 0,.ptr 3 0,.int .i64 i,.ptr 6 0,.bool (xcm .eql (ldropE cs) (ldropE cs)),.int .i64 2] [sN [.int .i64 most,.slo 7 0 (ldropD cs) 0],sD,sD,sN [.int .i64 most,.slo 9 0 (ldropD cs) 0],sD,sD,sN [.int .i64 k,.int .i64 a,.int .u64 w,.val v],some (.obj lvF (ldropC cs) 8),sD,some (.obj orF (ldropC cs) 10),sD] (factG F)):=by kernel_rfl
theorem do_3 (most:Int) (d:Nat) (cs:List LV) (k a w i:Int) (v:Value) (F:World→Prop) (K:Pk):(xsp prog cxd 60 101 ((sp prog 7).drop 2) (mkTm 101 (doT i 3)) (mkS (doH most d cs k a w v) (factG F)) (vK doL K))=(
 ck (okR most cs d) <|
 ck (okF cs) <|
 ck (isF lvF lvF) <|
 ck (okR most cs d) <|
 ck (okF cs) <|
 ck (isF orF orF) <|
 K .ret [.ptr 0 0,.ptr 3 0,.int .i64 i,.ptr 6 0,.bool true,.int .i64 3] [sN [.int .i64 most,.slo 1 0 (lfD cs a) 0],some (.obj lvF (lfC cs a) 7),sD,sN [.int .i64 most,.slo 4 0 (lfD cs a) 0],some (.obj orF (lfC cs a) 8),sD,sN [.int .i64 k,.int .i64 a,.int .u64 w,.val v],sD,sD] (factG F)):=by kernel_rfl
theorem do_5 (most:Int) (d:Nat) (cs:List LV) (k a w i:Int) (v:Value) (F:World→Prop) (K:Pk):(xsp prog cxd 60 101 ((sp prog 7).drop 2) (mkTm 101 (doT i 5)) (mkS (doH most d cs k a w v) (factG F)) (vK doL K))=(
 ck (okR most cs d) <|
 ck (isF lvF lvF) <|
 ck (okR most cs d) <|
 ck (isF orF orF) <|
 ck (xcm .eql w w) <|
 ck (xcm .eql w w) <|
 K .ret [.ptr 0 0,.ptr 3 0,.int .i64 i,.ptr 6 0,.bool (xcm .eql (lpE most cs (plV a i) w) (lpE most cs (plV a i) w)),.int .i64 5] [sN [.int .i64 most,.slo 1 0 (lpD most cs (plV a i) w) 0],some (.obj lvF (lpC most cs (plV a i) w) 7),sD,sN [.int .i64 most,.slo 4 0 (lpD most cs (plV a i) w) 0],some (.obj orF (lpC most cs (plV a i) w) 8),sD,sN [.int .i64 k,.int .i64 a,.int .u64 w,.val v],sD,sD] (factG F)):=by kernel_rfl
theorem do_6 (most:Int) (d:Nat) (cs:List LV) (k a w i:Int) (v:Value) (F:World→Prop) (K:Pk):(xsp prog cxd 60 101 ((sp prog 7).drop 2) (mkTm 101 (doT i 6)) (mkS (doH most d cs k a w v) (factG F)) (vK doL K))=(
 ck (okR most cs d) <|
 ck (isF lvF lvF) <|
 ck (okR most cs d) <|
 ck (isF orF orF) <|
 ck (xcm .eql w w) <|
 ck (xcm .eql w w) <|
 K .ret [.ptr 0 0,.ptr 3 0,.int .i64 i,.ptr 6 0,.bool (xcm .eql (lpE most cs (plV a i) w) (lpE most cs (plV a i) w)),.int .i64 6] [sN [.int .i64 most,.slo 1 0 (lpD most cs (plV a i) w) 0],some (.obj lvF (lpC most cs (plV a i) w) 7),sD,sN [.int .i64 most,.slo 4 0 (lpD most cs (plV a i) w) 0],some (.obj orF (lpC most cs (plV a i) w) 8),sD,sN [.int .i64 k,.int .i64 a,.int .u64 w,.val v],sD,sD] (factG F)):=by kernel_rfl
theorem do_7 (most:Int) (d:Nat) (cs:List LV) (k a w i:Int) (v:Value) (F:World→Prop) (K:Pk):(xsp prog cxd 60 101 ((sp prog 7).drop 2) (mkTm 101 (doT i 7)) (mkS (doH most d cs k a w v) (factG F)) (vK doL K))=(
 ck (okR most cs d) <|
 ck (isF lvF lvF) <|
 ck (okR most cs d) <|
 ck (isF orF orF) <|
 ck (xcm .eql w w) <|
 ck (xcm .eql w w) <|
 K .ret [.ptr 0 0,.ptr 3 0,.int .i64 i,.ptr 6 0,.bool (xcm .eql (lpE most cs (plV a i) w) (lpE most cs (plV a i) w)),.int .i64 7] [sN [.int .i64 most,.slo 1 0 (lpD most cs (plV a i) w) 0],some (.obj lvF (lpC most cs (plV a i) w) 7),sD,sN [.int .i64 most,.slo 4 0 (lpD most cs (plV a i) w) 0],some (.obj orF (lpC most cs (plV a i) w) 8),sD,sN [.int .i64 k,.int .i64 a,.int .u64 w,.val v],sD,sD] (factG F)):=by kernel_rfl
theorem do_8 (most:Int) (d:Nat) (cs:List LV) (k a w i:Int) (v:Value) (F:World→Prop) (K:Pk):(xsp prog cxd 60 101 ((sp prog 7).drop 2) (mkTm 101 (doT i 8)) (mkS (doH most d cs k a w v) (factG F)) (vK doL K))=(
 ck (okR most cs d) <|
 ck (isF lvF lvF) <|
 ck (okR most cs d) <|
 ck (isF orF orF) <|
 ck (xcm .eql w w) <|
 ck (xcm .eql w w) <|
 K .ret [.ptr 0 0,.ptr 3 0,.int .i64 i,.ptr 6 0,.bool (xcm .eql (lpE most cs (plV a i) w) (lpE most cs (plV a i) w)),.int .i64 8] [sN [.int .i64 most,.slo 1 0 (lpD most cs (plV a i) w) 0],some (.obj lvF (lpC most cs (plV a i) w) 7),sD,sN [.int .i64 most,.slo 4 0 (lpD most cs (plV a i) w) 0],some (.obj orF (lpC most cs (plV a i) w) 8),sD,sN [.int .i64 k,.int .i64 a,.int .u64 w,.val v],sD,sD] (factG F)):=by kernel_rfl
theorem do_9 (most:Int) (d:Nat) (cs:List LV) (k a w i:Int) (v:Value) (F:World→Prop) (K:Pk):(xsp prog cxd 60 101 ((sp prog 7).drop 2) (mkTm 101 (doT i 9)) (mkS (doH most d cs k a w v) (factG F)) (vK doL K))=(
 ck (okR most cs d) <|
 ck (isF lvF lvF) <|
 ck (okR most cs d) <|
 ck (isF orF orF) <|
 ck (xcm .eql w w) <|
 ck (xcm .eql w w) <|
 K .ret [.ptr 0 0,.ptr 3 0,.int .i64 i,.ptr 6 0,.bool (xcm .eql (lpE most cs (plV a i) w) (lpE most cs (plV a i) w)),.int .i64 9] [sN [.int .i64 most,.slo 1 0 (lpD most cs (plV a i) w) 0],some (.obj lvF (lpC most cs (plV a i) w) 7),sD,sN [.int .i64 most,.slo 4 0 (lpD most cs (plV a i) w) 0],some (.obj orF (lpC most cs (plV a i) w) 8),sD,sN [.int .i64 k,.int .i64 a,.int .u64 w,.val v],sD,sD] (factG F)):=by kernel_rfl
abbrev do_4_b1 (most:Int) (n:Nat) (cs:List LV) (qs:List LV) (k:Int) (a:Int) (w:Int) (i:Int):List (Option LB):=[sN [.int .i64 most,.slo 1 0 (ltD most cs [.int .i64 (plV (asI (nthD qs 0)) (xar .add .i64 i 0)),.int .u64 (asI (nthD qs 1)),.int .i64 (plV (asI (nthD qs 2)) (xar .add .i64 i 1)),.int .u64 (asI (nthD qs 3)),.int .i64 (plV (asI (nthD qs 4)) (xar .add .i64 i 2)),.int .u64 (asI (nthD qs 5)),.int .i64 (plV (asI (nthD qs 6)) (xar .add .i64 i 3)),.int .u64 (asI (nthD qs 7)),.int .i64 (plV (asI (nthD qs 8)) (xar .add .i64 i 4)),.int .u64 (asI (nthD qs 9)),.int .i64 (plV (asI (nthD qs 10)) (xar .add .i64 i 5)),.int .u64 (asI (nthD qs 11))]) 0],some (.obj lvF (ltC most cs [.int .i64 (plV (asI (nthD qs 0)) (xar .add .i64 i 0)),.int .u64 (asI (nthD qs 1)),.int .i64 (plV (asI (nthD qs 2)) (xar .add .i64 i 1)),.int .u64 (asI (nthD qs 3)),.int .i64 (plV (asI (nthD qs 4)) (xar .add .i64 i 2)),.int .u64 (asI (nthD qs 5)),.int .i64 (plV (asI (nthD qs 6)) (xar .add .i64 i 3)),.int .u64 (asI (nthD qs 7)),.int .i64 (plV (asI (nthD qs 8)) (xar .add .i64 i 4)),.int .u64 (asI (nthD qs 9)),.int .i64 (plV (asI (nthD qs 10)) (xar .add .i64 i 5)),.int .u64 (asI (nthD qs 11))]) 20),sD,sN [.int .i64 most,.slo 21 0 (ltD most cs [.int .i64 (plV (asI (nthD qs 0)) (xar .add .i64 i 0)),.int .u64 (asI (nthD qs 1)),.int .i64 (plV (asI (nthD qs 2)) (xar .add .i64 i 1)),.int .u64 (asI (nthD qs 3)),.int .i64 (plV (asI (nthD qs 4)) (xar .add .i64 i 2)),.int .u64 (asI (nthD qs 5)),.int .i64 (plV (asI (nthD qs 6)) (xar .add .i64 i 3)),.int .u64 (asI (nthD qs 7)),.int .i64 (plV (asI (nthD qs 8)) (xar .add .i64 i 4)),.int .u64 (asI (nthD qs 9)),.int .i64 (plV (asI (nthD qs 10)) (xar .add .i64 i 5)),.int .u64 (asI (nthD qs 11))]) 0],sD,sD,sN [.int .i64 k,.int .i64 a,.int .u64 w,.slo 7 0 n 0],some (.ro qs),sN [.int .i64 (plV (asI (nthD qs 0)) (xar .add .i64 i 0)),.int .u64 (asI (nthD qs 1))],sD,sN [.int .i64 (plV (asI (nthD qs 2)) (xar .add .i64 i 1)),.int .u64 (asI (nthD qs 3))],sD,sN [.int .i64 (plV (asI (nthD qs 4)) (xar .add .i64 i 2)),.int .u64 (asI (nthD qs 5))],sD,sN [.int .i64 (plV (asI (nthD qs 6)) (xar .add .i64 i 3)),.int .u64 (asI (nthD qs 7))],sD,sN [.int .i64 (plV (asI (nthD qs 8)) (xar .add .i64 i 4)),.int .u64 (asI (nthD qs 9))],sD,sN [.int .i64 (plV (asI (nthD qs 10)) (xar .add .i64 i 5)),.int .u64 (asI (nthD qs 11))],sC [.int .i64 (plV (asI (nthD qs 0)) (xar .add .i64 i 0)),.int .u64 (asI (nthD qs 1)),.int .i64 (plV (asI (nthD qs 2)) (xar .add .i64 i 1)),.int .u64 (asI (nthD qs 3)),.int .i64 (plV (asI (nthD qs 4)) (xar .add .i64 i 2)),.int .u64 (asI (nthD qs 5)),.int .i64 (plV (asI (nthD qs 6)) (xar .add .i64 i 3)),.int .u64 (asI (nthD qs 7)),.int .i64 (plV (asI (nthD qs 8)) (xar .add .i64 i 4)),.int .u64 (asI (nthD qs 9)),.int .i64 (plV (asI (nthD qs 10)) (xar .add .i64 i 5)),.int .u64 (asI (nthD qs 11))] 2,sD,some (.obj orF (ltC most cs [.int .i64 (plV (asI (nthD qs 0)) (xar .add .i64 i 0)),.int .u64 (asI (nthD qs 1)),.int .i64 (plV (asI (nthD qs 2)) (xar .add .i64 i 1)),.int .u64 (asI (nthD qs 3)),.int .i64 (plV (asI (nthD qs 4)) (xar .add .i64 i 2)),.int .u64 (asI (nthD qs 5)),.int .i64 (plV (asI (nthD qs 6)) (xar .add .i64 i 3)),.int .u64 (asI (nthD qs 7)),.int .i64 (plV (asI (nthD qs 8)) (xar .add .i64 i 4)),.int .u64 (asI (nthD qs 9)),.int .i64 (plV (asI (nthD qs 10)) (xar .add .i64 i 5)),.int .u64 (asI (nthD qs 11))]) 22),sD]
theorem do_4 (most:Int) (d n:Nat) (cs qs:List LV) (k a w i:Int) (F:World→Prop) (K:Pk):(xsp prog cxd 60 101 ((sp prog 7).drop 2) (mkTm 101 (doT i 4)) (mkS (doR most d cs k a w n qs) (factG F)) (vK doL K))=(
 bif xcm .lss 0 ↑n then(
 ck (xle 1 n) <|
 ck (xle 1 (xln qs)) <|
 ck (isI .i64 (nthD qs 0)) <|
 ck (xle 1 n) <|
 ck (xle 2 (xln qs)) <|
 ck (isI .u64 (nthD qs 1)) <|
 ck (xeq n n) <|
 ck (xeq n n) <|
 ck (xle 2 (xln qs)) <|
 ck (isI .u64 (nthD qs 1)) <|
 ck (xcm .eql (asI (nthD qs 1)) (asI (nthD qs 1))) <|
 ck (xle 2 (xln qs)) <|
 ck (isI .u64 (nthD qs 1)) <|
 ck (xcm .eql (asI (nthD qs 1)) (asI (nthD qs 1))) <|
 bif xcm .lss 1 ↑n then(
 ck (xle 2 n) <|
 ck (xle 3 (xln qs)) <|
 ck (isI .i64 (nthD qs 2)) <|
 ck (xle 2 n) <|
 ck (xle 4 (xln qs)) <|
 ck (isI .u64 (nthD qs 3)) <|
 ck (xeq n n) <|
 ck (xeq n n) <|
 ck (xle 4 (xln qs)) <|
 ck (isI .u64 (nthD qs 3)) <|
 ck (xcm .eql (asI (nthD qs 3)) (asI (nthD qs 3))) <|
 ck (xle 4 (xln qs)) <|
 ck (isI .u64 (nthD qs 3)) <|
 ck (xcm .eql (asI (nthD qs 3)) (asI (nthD qs 3))) <|
 bif xcm .lss 2 ↑n then(
 ck (xle 3 n) <|
 ck (xle 5 (xln qs)) <|
 ck (isI .i64 (nthD qs 4)) <|
 ck (xle 3 n) <|
 ck (xle 6 (xln qs)) <|
 ck (isI .u64 (nthD qs 5)) <|
 ck (xeq n n) <|
 ck (xeq n n) <|
 ck (xle 6 (xln qs)) <|
 ck (isI .u64 (nthD qs 5)) <|
 ck (xcm .eql (asI (nthD qs 5)) (asI (nthD qs 5))) <|
 ck (xle 6 (xln qs)) <|
 ck (isI .u64 (nthD qs 5)) <|
 ck (xcm .eql (asI (nthD qs 5)) (asI (nthD qs 5))) <|
 bif xcm .lss 3 ↑n then(
 ck (xle 4 n) <|
 ck (xle 7 (xln qs)) <|
 ck (isI .i64 (nthD qs 6)) <|
 ck (xle 4 n) <|
 ck (xle 8 (xln qs)) <|
 ck (isI .u64 (nthD qs 7)) <|
 ck (xeq n n) <|
 ck (xeq n n) <|
 ck (xle 8 (xln qs)) <|
 ck (isI .u64 (nthD qs 7)) <|
 ck (xcm .eql (asI (nthD qs 7)) (asI (nthD qs 7))) <|
 ck (xle 8 (xln qs)) <|
 ck (isI .u64 (nthD qs 7)) <|
 ck (xcm .eql (asI (nthD qs 7)) (asI (nthD qs 7))) <|
 bif xcm .lss 4 ↑n then(
 ck (xle 5 n) <|
 ck (xle 9 (xln qs)) <|
 ck (isI .i64 (nthD qs 8)) <|
 ck (xle 5 n) <|
 ck (xle 10 (xln qs)) <|
 ck (isI .u64 (nthD qs 9)) <|
 ck (xeq n n) <|
 ck (xeq n n) <|
 ck (xle 10 (xln qs)) <|
 ck (isI .u64 (nthD qs 9)) <|
 ck (xcm .eql (asI (nthD qs 9)) (asI (nthD qs 9))) <|
 ck (xle 10 (xln qs)) <|
 ck (isI .u64 (nthD qs 9)) <|
 ck (xcm .eql (asI (nthD qs 9)) (asI (nthD qs 9))) <|
 bif xcm .lss 5 ↑n then(
 ck (xle 6 n) <|
 ck (xle 11 (xln qs)) <|
 ck (isI .i64 (nthD qs 10)) <|
 ck (xle 6 n) <|
 ck (xle 12 (xln qs)) <|
 ck (isI .u64 (nthD qs 11)) <|
 ck (xeq n n) <|
 ck (xeq n n) <|
 ck (xle 12 (xln qs)) <|
 ck (isI .u64 (nthD qs 11)) <|
 ck (xcm .eql (asI (nthD qs 11)) (asI (nthD qs 11))) <|
 ck (xle 12 (xln qs)) <|
 ck (isI .u64 (nthD qs 11)) <|
 ck (xcm .eql (asI (nthD qs 11)) (asI (nthD qs 11))) <|
 bif xcm .lss 6 ↑n then(
 ck (okR most cs d) <|
 ck (okC [.int .i64 (plV (asI (nthD qs 0)) (xar .add .i64 i 0)),.int .u64 (asI (nthD qs 1)),.int .i64 (plV (asI (nthD qs 2)) (xar .add .i64 i 1)),.int .u64 (asI (nthD qs 3)),.int .i64 (plV (asI (nthD qs 4)) (xar .add .i64 i 2)),.int .u64 (asI (nthD qs 5)),.int .i64 (plV (asI (nthD qs 6)) (xar .add .i64 i 3)),.int .u64 (asI (nthD qs 7)),.int .i64 (plV (asI (nthD qs 8)) (xar .add .i64 i 4)),.int .u64 (asI (nthD qs 9)),.int .i64 (plV (asI (nthD qs 10)) (xar .add .i64 i 5)),.int .u64 (asI (nthD qs 11))] 6) <|
 ck (isF lvF lvF) <|
 ck (okR most cs d) <|
 ck (okC [.int .i64 (plV (asI (nthD qs 0)) (xar .add .i64 i 0)),.int .u64 (asI (nthD qs 1)),.int .i64 (plV (asI (nthD qs 2)) (xar .add .i64 i 1)),.int .u64 (asI (nthD qs 3)),.int .i64 (plV (asI (nthD qs 4)) (xar .add .i64 i 2)),.int .u64 (asI (nthD qs 5)),.int .i64 (plV (asI (nthD qs 6)) (xar .add .i64 i 3)),.int .u64 (asI (nthD qs 7)),.int .i64 (plV (asI (nthD qs 8)) (xar .add .i64 i 4)),.int .u64 (asI (nthD qs 9)),.int .i64 (plV (asI (nthD qs 10)) (xar .add .i64 i 5)),.int .u64 (asI (nthD qs 11))] 6) <|
 ck (isF orF orF) <|
 K .ret [.ptr 0 0,.ptr 3 0,.int .i64 i,.ptr 6 0,.bool (xcm .eql (ltE most cs [.int .i64 (plV (asI (nthD qs 0)) (xar .add .i64 i 0)),.int .u64 (asI (nthD qs 1)),.int .i64 (plV (asI (nthD qs 2)) (xar .add .i64 i 1)),.int .u64 (asI (nthD qs 3)),.int .i64 (plV (asI (nthD qs 4)) (xar .add .i64 i 2)),.int .u64 (asI (nthD qs 5)),.int .i64 (plV (asI (nthD qs 6)) (xar .add .i64 i 3)),.int .u64 (asI (nthD qs 7)),.int .i64 (plV (asI (nthD qs 8)) (xar .add .i64 i 4)),.int .u64 (asI (nthD qs 9)),.int .i64 (plV (asI (nthD qs 10)) (xar .add .i64 i 5)),.int .u64 (asI (nthD qs 11))]) (ltE most cs [.int .i64 (plV (asI (nthD qs 0)) (xar .add .i64 i 0)),.int .u64 (asI (nthD qs 1)),.int .i64 (plV (asI (nthD qs 2)) (xar .add .i64 i 1)),.int .u64 (asI (nthD qs 3)),.int .i64 (plV (asI (nthD qs 4)) (xar .add .i64 i 2)),.int .u64 (asI (nthD qs 5)),.int .i64 (plV (asI (nthD qs 6)) (xar .add .i64 i 3)),.int .u64 (asI (nthD qs 7)),.int .i64 (plV (asI (nthD qs 8)) (xar .add .i64 i 4)),.int .u64 (asI (nthD qs 9)),.int .i64 (plV (asI (nthD qs 10)) (xar .add .i64 i 5)),.int .u64 (asI (nthD qs 11))])),.int .i64 4] (do_4_b1 most n cs qs k a w i) (factG F))
 else(
 ck (okR most cs d) <|
 ck (okC [.int .i64 (plV (asI (nthD qs 0)) (xar .add .i64 i 0)),.int .u64 (asI (nthD qs 1)),.int .i64 (plV (asI (nthD qs 2)) (xar .add .i64 i 1)),.int .u64 (asI (nthD qs 3)),.int .i64 (plV (asI (nthD qs 4)) (xar .add .i64 i 2)),.int .u64 (asI (nthD qs 5)),.int .i64 (plV (asI (nthD qs 6)) (xar .add .i64 i 3)),.int .u64 (asI (nthD qs 7)),.int .i64 (plV (asI (nthD qs 8)) (xar .add .i64 i 4)),.int .u64 (asI (nthD qs 9)),.int .i64 (plV (asI (nthD qs 10)) (xar .add .i64 i 5)),.int .u64 (asI (nthD qs 11))] 6) <|
 ck (isF lvF lvF) <|
 ck (okR most cs d) <|
 ck (okC [.int .i64 (plV (asI (nthD qs 0)) (xar .add .i64 i 0)),.int .u64 (asI (nthD qs 1)),.int .i64 (plV (asI (nthD qs 2)) (xar .add .i64 i 1)),.int .u64 (asI (nthD qs 3)),.int .i64 (plV (asI (nthD qs 4)) (xar .add .i64 i 2)),.int .u64 (asI (nthD qs 5)),.int .i64 (plV (asI (nthD qs 6)) (xar .add .i64 i 3)),.int .u64 (asI (nthD qs 7)),.int .i64 (plV (asI (nthD qs 8)) (xar .add .i64 i 4)),.int .u64 (asI (nthD qs 9)),.int .i64 (plV (asI (nthD qs 10)) (xar .add .i64 i 5)),.int .u64 (asI (nthD qs 11))] 6) <|
 ck (isF orF orF) <|
 K .ret [.ptr 0 0,.ptr 3 0,.int .i64 i,.ptr 6 0,.bool (xcm .eql (ltE most cs [.int .i64 (plV (asI (nthD qs 0)) (xar .add .i64 i 0)),.int .u64 (asI (nthD qs 1)),.int .i64 (plV (asI (nthD qs 2)) (xar .add .i64 i 1)),.int .u64 (asI (nthD qs 3)),.int .i64 (plV (asI (nthD qs 4)) (xar .add .i64 i 2)),.int .u64 (asI (nthD qs 5)),.int .i64 (plV (asI (nthD qs 6)) (xar .add .i64 i 3)),.int .u64 (asI (nthD qs 7)),.int .i64 (plV (asI (nthD qs 8)) (xar .add .i64 i 4)),.int .u64 (asI (nthD qs 9)),.int .i64 (plV (asI (nthD qs 10)) (xar .add .i64 i 5)),.int .u64 (asI (nthD qs 11))]) (ltE most cs [.int .i64 (plV (asI (nthD qs 0)) (xar .add .i64 i 0)),.int .u64 (asI (nthD qs 1)),.int .i64 (plV (asI (nthD qs 2)) (xar .add .i64 i 1)),.int .u64 (asI (nthD qs 3)),.int .i64 (plV (asI (nthD qs 4)) (xar .add .i64 i 2)),.int .u64 (asI (nthD qs 5)),.int .i64 (plV (asI (nthD qs 6)) (xar .add .i64 i 3)),.int .u64 (asI (nthD qs 7)),.int .i64 (plV (asI (nthD qs 8)) (xar .add .i64 i 4)),.int .u64 (asI (nthD qs 9)),.int .i64 (plV (asI (nthD qs 10)) (xar .add .i64 i 5)),.int .u64 (asI (nthD qs 11))])),.int .i64 4] (do_4_b1 most n cs qs k a w i) (factG F)))
 else(
 ck (okR most cs d) <|
 ck (okC [.int .i64 (plV (asI (nthD qs 0)) (xar .add .i64 i 0)),.int .u64 (asI (nthD qs 1)),.int .i64 (plV (asI (nthD qs 2)) (xar .add .i64 i 1)),.int .u64 (asI (nthD qs 3)),.int .i64 (plV (asI (nthD qs 4)) (xar .add .i64 i 2)),.int .u64 (asI (nthD qs 5)),.int .i64 (plV (asI (nthD qs 6)) (xar .add .i64 i 3)),.int .u64 (asI (nthD qs 7)),.int .i64 (plV (asI (nthD qs 8)) (xar .add .i64 i 4)),.int .u64 (asI (nthD qs 9))] 5) <|
 ck (isF lvF lvF) <|
 ck (okR most cs d) <|
 ck (okC [.int .i64 (plV (asI (nthD qs 0)) (xar .add .i64 i 0)),.int .u64 (asI (nthD qs 1)),.int .i64 (plV (asI (nthD qs 2)) (xar .add .i64 i 1)),.int .u64 (asI (nthD qs 3)),.int .i64 (plV (asI (nthD qs 4)) (xar .add .i64 i 2)),.int .u64 (asI (nthD qs 5)),.int .i64 (plV (asI (nthD qs 6)) (xar .add .i64 i 3)),.int .u64 (asI (nthD qs 7)),.int .i64 (plV (asI (nthD qs 8)) (xar .add .i64 i 4)),.int .u64 (asI (nthD qs 9))] 5) <|
 ck (isF orF orF) <|
 K .ret [.ptr 0 0,.ptr 3 0,.int .i64 i,.ptr 6 0,.bool (xcm .eql (ltE most cs [.int .i64 (plV (asI (nthD qs 0)) (xar .add .i64 i 0)),.int .u64 (asI (nthD qs 1)),.int .i64 (plV (asI (nthD qs 2)) (xar .add .i64 i 1)),.int .u64 (asI (nthD qs 3)),.int .i64 (plV (asI (nthD qs 4)) (xar .add .i64 i 2)),.int .u64 (asI (nthD qs 5)),.int .i64 (plV (asI (nthD qs 6)) (xar .add .i64 i 3)),.int .u64 (asI (nthD qs 7)),.int .i64 (plV (asI (nthD qs 8)) (xar .add .i64 i 4)),.int .u64 (asI (nthD qs 9))]) (ltE most cs [.int .i64 (plV (asI (nthD qs 0)) (xar .add .i64 i 0)),.int .u64 (asI (nthD qs 1)),.int .i64 (plV (asI (nthD qs 2)) (xar .add .i64 i 1)),.int .u64 (asI (nthD qs 3)),.int .i64 (plV (asI (nthD qs 4)) (xar .add .i64 i 2)),.int .u64 (asI (nthD qs 5)),.int .i64 (plV (asI (nthD qs 6)) (xar .add .i64 i 3)),.int .u64 (asI (nthD qs 7)),.int .i64 (plV (asI (nthD qs 8)) (xar .add .i64 i 4)),.int .u64 (asI (nthD qs 9))])),.int .i64 4] [sN [.int .i64 most,.slo 1 0 (ltD most cs [.int .i64 (plV (asI (nthD qs 0)) (xar .add .i64 i 0)),.int .u64 (asI (nthD qs 1)),.int .i64 (plV (asI (nthD qs 2)) (xar .add .i64 i 1)),.int .u64 (asI (nthD qs 3)),.int .i64 (plV (asI (nthD qs 4)) (xar .add .i64 i 2)),.int .u64 (asI (nthD qs 5)),.int .i64 (plV (asI (nthD qs 6)) (xar .add .i64 i 3)),.int .u64 (asI (nthD qs 7)),.int .i64 (plV (asI (nthD qs 8)) (xar .add .i64 i 4)),.int .u64 (asI (nthD qs 9))]) 0],some (.obj lvF (ltC most cs [.int .i64 (plV (asI (nthD qs 0)) (xar .add .i64 i 0)),.int .u64 (asI (nthD qs 1)),.int .i64 (plV (asI (nthD qs 2)) (xar .add .i64 i 1)),.int .u64 (asI (nthD qs 3)),.int .i64 (plV (asI (nthD qs 4)) (xar .add .i64 i 2)),.int .u64 (asI (nthD qs 5)),.int .i64 (plV (asI (nthD qs 6)) (xar .add .i64 i 3)),.int .u64 (asI (nthD qs 7)),.int .i64 (plV (asI (nthD qs 8)) (xar .add .i64 i 4)),.int .u64 (asI (nthD qs 9))]) 18),sD,sN [.int .i64 most,.slo 19 0 (ltD most cs [.int .i64 (plV (asI (nthD qs 0)) (xar .add .i64 i 0)),.int .u64 (asI (nthD qs 1)),.int .i64 (plV (asI (nthD qs 2)) (xar .add .i64 i 1)),.int .u64 (asI (nthD qs 3)),.int .i64 (plV (asI (nthD qs 4)) (xar .add .i64 i 2)),.int .u64 (asI (nthD qs 5)),.int .i64 (plV (asI (nthD qs 6)) (xar .add .i64 i 3)),.int .u64 (asI (nthD qs 7)),.int .i64 (plV (asI (nthD qs 8)) (xar .add .i64 i 4)),.int .u64 (asI (nthD qs 9))]) 0],sD,sD,sN [.int .i64 k,.int .i64 a,.int .u64 w,.slo 7 0 n 0],some (.ro qs),sN [.int .i64 (plV (asI (nthD qs 0)) (xar .add .i64 i 0)),.int .u64 (asI (nthD qs 1))],sD,sN [.int .i64 (plV (asI (nthD qs 2)) (xar .add .i64 i 1)),.int .u64 (asI (nthD qs 3))],sD,sN [.int .i64 (plV (asI (nthD qs 4)) (xar .add .i64 i 2)),.int .u64 (asI (nthD qs 5))],sD,sN [.int .i64 (plV (asI (nthD qs 6)) (xar .add .i64 i 3)),.int .u64 (asI (nthD qs 7))],sD,sN [.int .i64 (plV (asI (nthD qs 8)) (xar .add .i64 i 4)),.int .u64 (asI (nthD qs 9))],sC [.int .i64 (plV (asI (nthD qs 0)) (xar .add .i64 i 0)),.int .u64 (asI (nthD qs 1)),.int .i64 (plV (asI (nthD qs 2)) (xar .add .i64 i 1)),.int .u64 (asI (nthD qs 3)),.int .i64 (plV (asI (nthD qs 4)) (xar .add .i64 i 2)),.int .u64 (asI (nthD qs 5)),.int .i64 (plV (asI (nthD qs 6)) (xar .add .i64 i 3)),.int .u64 (asI (nthD qs 7)),.int .i64 (plV (asI (nthD qs 8)) (xar .add .i64 i 4)),.int .u64 (asI (nthD qs 9))] 2,sD,some (.obj orF (ltC most cs [.int .i64 (plV (asI (nthD qs 0)) (xar .add .i64 i 0)),.int .u64 (asI (nthD qs 1)),.int .i64 (plV (asI (nthD qs 2)) (xar .add .i64 i 1)),.int .u64 (asI (nthD qs 3)),.int .i64 (plV (asI (nthD qs 4)) (xar .add .i64 i 2)),.int .u64 (asI (nthD qs 5)),.int .i64 (plV (asI (nthD qs 6)) (xar .add .i64 i 3)),.int .u64 (asI (nthD qs 7)),.int .i64 (plV (asI (nthD qs 8)) (xar .add .i64 i 4)),.int .u64 (asI (nthD qs 9))]) 20),sD] (factG F)))
 else(
 ck (okR most cs d) <|
 ck (okC [.int .i64 (plV (asI (nthD qs 0)) (xar .add .i64 i 0)),.int .u64 (asI (nthD qs 1)),.int .i64 (plV (asI (nthD qs 2)) (xar .add .i64 i 1)),.int .u64 (asI (nthD qs 3)),.int .i64 (plV (asI (nthD qs 4)) (xar .add .i64 i 2)),.int .u64 (asI (nthD qs 5)),.int .i64 (plV (asI (nthD qs 6)) (xar .add .i64 i 3)),.int .u64 (asI (nthD qs 7))] 4) <|
 ck (isF lvF lvF) <|
 ck (okR most cs d) <|
 ck (okC [.int .i64 (plV (asI (nthD qs 0)) (xar .add .i64 i 0)),.int .u64 (asI (nthD qs 1)),.int .i64 (plV (asI (nthD qs 2)) (xar .add .i64 i 1)),.int .u64 (asI (nthD qs 3)),.int .i64 (plV (asI (nthD qs 4)) (xar .add .i64 i 2)),.int .u64 (asI (nthD qs 5)),.int .i64 (plV (asI (nthD qs 6)) (xar .add .i64 i 3)),.int .u64 (asI (nthD qs 7))] 4) <|
 ck (isF orF orF) <|
 K .ret [.ptr 0 0,.ptr 3 0,.int .i64 i,.ptr 6 0,.bool (xcm .eql (ltE most cs [.int .i64 (plV (asI (nthD qs 0)) (xar .add .i64 i 0)),.int .u64 (asI (nthD qs 1)),.int .i64 (plV (asI (nthD qs 2)) (xar .add .i64 i 1)),.int .u64 (asI (nthD qs 3)),.int .i64 (plV (asI (nthD qs 4)) (xar .add .i64 i 2)),.int .u64 (asI (nthD qs 5)),.int .i64 (plV (asI (nthD qs 6)) (xar .add .i64 i 3)),.int .u64 (asI (nthD qs 7))]) (ltE most cs [.int .i64 (plV (asI (nthD qs 0)) (xar .add .i64 i 0)),.int .u64 (asI (nthD qs 1)),.int .i64 (plV (asI (nthD qs 2)) (xar .add .i64 i 1)),.int .u64 (asI (nthD qs 3)),.int .i64 (plV (asI (nthD qs 4)) (xar .add .i64 i 2)),.int .u64 (asI (nthD qs 5)),.int .i64 (plV (asI (nthD qs 6)) (xar .add .i64 i 3)),.int .u64 (asI (nthD qs 7))])),.int .i64 4] [sN [.int .i64 most,.slo 1 0 (ltD most cs [.int .i64 (plV (asI (nthD qs 0)) (xar .add .i64 i 0)),.int .u64 (asI (nthD qs 1)),.int .i64 (plV (asI (nthD qs 2)) (xar .add .i64 i 1)),.int .u64 (asI (nthD qs 3)),.int .i64 (plV (asI (nthD qs 4)) (xar .add .i64 i 2)),.int .u64 (asI (nthD qs 5)),.int .i64 (plV (asI (nthD qs 6)) (xar .add .i64 i 3)),.int .u64 (asI (nthD qs 7))]) 0],some (.obj lvF (ltC most cs [.int .i64 (plV (asI (nthD qs 0)) (xar .add .i64 i 0)),.int .u64 (asI (nthD qs 1)),.int .i64 (plV (asI (nthD qs 2)) (xar .add .i64 i 1)),.int .u64 (asI (nthD qs 3)),.int .i64 (plV (asI (nthD qs 4)) (xar .add .i64 i 2)),.int .u64 (asI (nthD qs 5)),.int .i64 (plV (asI (nthD qs 6)) (xar .add .i64 i 3)),.int .u64 (asI (nthD qs 7))]) 16),sD,sN [.int .i64 most,.slo 17 0 (ltD most cs [.int .i64 (plV (asI (nthD qs 0)) (xar .add .i64 i 0)),.int .u64 (asI (nthD qs 1)),.int .i64 (plV (asI (nthD qs 2)) (xar .add .i64 i 1)),.int .u64 (asI (nthD qs 3)),.int .i64 (plV (asI (nthD qs 4)) (xar .add .i64 i 2)),.int .u64 (asI (nthD qs 5)),.int .i64 (plV (asI (nthD qs 6)) (xar .add .i64 i 3)),.int .u64 (asI (nthD qs 7))]) 0],sD,sD,sN [.int .i64 k,.int .i64 a,.int .u64 w,.slo 7 0 n 0],some (.ro qs),sN [.int .i64 (plV (asI (nthD qs 0)) (xar .add .i64 i 0)),.int .u64 (asI (nthD qs 1))],sD,sN [.int .i64 (plV (asI (nthD qs 2)) (xar .add .i64 i 1)),.int .u64 (asI (nthD qs 3))],sD,sN [.int .i64 (plV (asI (nthD qs 4)) (xar .add .i64 i 2)),.int .u64 (asI (nthD qs 5))],sD,sN [.int .i64 (plV (asI (nthD qs 6)) (xar .add .i64 i 3)),.int .u64 (asI (nthD qs 7))],sC [.int .i64 (plV (asI (nthD qs 0)) (xar .add .i64 i 0)),.int .u64 (asI (nthD qs 1)),.int .i64 (plV (asI (nthD qs 2)) (xar .add .i64 i 1)),.int .u64 (asI (nthD qs 3)),.int .i64 (plV (asI (nthD qs 4)) (xar .add .i64 i 2)),.int .u64 (asI (nthD qs 5)),.int .i64 (plV (asI (nthD qs 6)) (xar .add .i64 i 3)),.int .u64 (asI (nthD qs 7))] 2,sD,some (.obj orF (ltC most cs [.int .i64 (plV (asI (nthD qs 0)) (xar .add .i64 i 0)),.int .u64 (asI (nthD qs 1)),.int .i64 (plV (asI (nthD qs 2)) (xar .add .i64 i 1)),.int .u64 (asI (nthD qs 3)),.int .i64 (plV (asI (nthD qs 4)) (xar .add .i64 i 2)),.int .u64 (asI (nthD qs 5)),.int .i64 (plV (asI (nthD qs 6)) (xar .add .i64 i 3)),.int .u64 (asI (nthD qs 7))]) 18),sD] (factG F)))
 else(
 ck (okR most cs d) <|
 ck (okC [.int .i64 (plV (asI (nthD qs 0)) (xar .add .i64 i 0)),.int .u64 (asI (nthD qs 1)),.int .i64 (plV (asI (nthD qs 2)) (xar .add .i64 i 1)),.int .u64 (asI (nthD qs 3)),.int .i64 (plV (asI (nthD qs 4)) (xar .add .i64 i 2)),.int .u64 (asI (nthD qs 5))] 3) <|
 ck (isF lvF lvF) <|
 ck (okR most cs d) <|
 ck (okC [.int .i64 (plV (asI (nthD qs 0)) (xar .add .i64 i 0)),.int .u64 (asI (nthD qs 1)),.int .i64 (plV (asI (nthD qs 2)) (xar .add .i64 i 1)),.int .u64 (asI (nthD qs 3)),.int .i64 (plV (asI (nthD qs 4)) (xar .add .i64 i 2)),.int .u64 (asI (nthD qs 5))] 3) <|
 ck (isF orF orF) <|
 K .ret [.ptr 0 0,.ptr 3 0,.int .i64 i,.ptr 6 0,.bool (xcm .eql (ltE most cs [.int .i64 (plV (asI (nthD qs 0)) (xar .add .i64 i 0)),.int .u64 (asI (nthD qs 1)),.int .i64 (plV (asI (nthD qs 2)) (xar .add .i64 i 1)),.int .u64 (asI (nthD qs 3)),.int .i64 (plV (asI (nthD qs 4)) (xar .add .i64 i 2)),.int .u64 (asI (nthD qs 5))]) (ltE most cs [.int .i64 (plV (asI (nthD qs 0)) (xar .add .i64 i 0)),.int .u64 (asI (nthD qs 1)),.int .i64 (plV (asI (nthD qs 2)) (xar .add .i64 i 1)),.int .u64 (asI (nthD qs 3)),.int .i64 (plV (asI (nthD qs 4)) (xar .add .i64 i 2)),.int .u64 (asI (nthD qs 5))])),.int .i64 4] [sN [.int .i64 most,.slo 1 0 (ltD most cs [.int .i64 (plV (asI (nthD qs 0)) (xar .add .i64 i 0)),.int .u64 (asI (nthD qs 1)),.int .i64 (plV (asI (nthD qs 2)) (xar .add .i64 i 1)),.int .u64 (asI (nthD qs 3)),.int .i64 (plV (asI (nthD qs 4)) (xar .add .i64 i 2)),.int .u64 (asI (nthD qs 5))]) 0],some (.obj lvF (ltC most cs [.int .i64 (plV (asI (nthD qs 0)) (xar .add .i64 i 0)),.int .u64 (asI (nthD qs 1)),.int .i64 (plV (asI (nthD qs 2)) (xar .add .i64 i 1)),.int .u64 (asI (nthD qs 3)),.int .i64 (plV (asI (nthD qs 4)) (xar .add .i64 i 2)),.int .u64 (asI (nthD qs 5))]) 14),sD,sN [.int .i64 most,.slo 15 0 (ltD most cs [.int .i64 (plV (asI (nthD qs 0)) (xar .add .i64 i 0)),.int .u64 (asI (nthD qs 1)),.int .i64 (plV (asI (nthD qs 2)) (xar .add .i64 i 1)),.int .u64 (asI (nthD qs 3)),.int .i64 (plV (asI (nthD qs 4)) (xar .add .i64 i 2)),.int .u64 (asI (nthD qs 5))]) 0],sD,sD,sN [.int .i64 k,.int .i64 a,.int .u64 w,.slo 7 0 n 0],some (.ro qs),sN [.int .i64 (plV (asI (nthD qs 0)) (xar .add .i64 i 0)),.int .u64 (asI (nthD qs 1))],sD,sN [.int .i64 (plV (asI (nthD qs 2)) (xar .add .i64 i 1)),.int .u64 (asI (nthD qs 3))],sD,sN [.int .i64 (plV (asI (nthD qs 4)) (xar .add .i64 i 2)),.int .u64 (asI (nthD qs 5))],sC [.int .i64 (plV (asI (nthD qs 0)) (xar .add .i64 i 0)),.int .u64 (asI (nthD qs 1)),.int .i64 (plV (asI (nthD qs 2)) (xar .add .i64 i 1)),.int .u64 (asI (nthD qs 3)),.int .i64 (plV (asI (nthD qs 4)) (xar .add .i64 i 2)),.int .u64 (asI (nthD qs 5))] 2,sD,some (.obj orF (ltC most cs [.int .i64 (plV (asI (nthD qs 0)) (xar .add .i64 i 0)),.int .u64 (asI (nthD qs 1)),.int .i64 (plV (asI (nthD qs 2)) (xar .add .i64 i 1)),.int .u64 (asI (nthD qs 3)),.int .i64 (plV (asI (nthD qs 4)) (xar .add .i64 i 2)),.int .u64 (asI (nthD qs 5))]) 16),sD] (factG F)))
 else(
 ck (okR most cs d) <|
 ck (okC [.int .i64 (plV (asI (nthD qs 0)) (xar .add .i64 i 0)),.int .u64 (asI (nthD qs 1)),.int .i64 (plV (asI (nthD qs 2)) (xar .add .i64 i 1)),.int .u64 (asI (nthD qs 3))] 2) <|
 ck (isF lvF lvF) <|
 ck (okR most cs d) <|
 ck (okC [.int .i64 (plV (asI (nthD qs 0)) (xar .add .i64 i 0)),.int .u64 (asI (nthD qs 1)),.int .i64 (plV (asI (nthD qs 2)) (xar .add .i64 i 1)),.int .u64 (asI (nthD qs 3))] 2) <|
 ck (isF orF orF) <|
 K .ret [.ptr 0 0,.ptr 3 0,.int .i64 i,.ptr 6 0,.bool (xcm .eql (ltE most cs [.int .i64 (plV (asI (nthD qs 0)) (xar .add .i64 i 0)),.int .u64 (asI (nthD qs 1)),.int .i64 (plV (asI (nthD qs 2)) (xar .add .i64 i 1)),.int .u64 (asI (nthD qs 3))]) (ltE most cs [.int .i64 (plV (asI (nthD qs 0)) (xar .add .i64 i 0)),.int .u64 (asI (nthD qs 1)),.int .i64 (plV (asI (nthD qs 2)) (xar .add .i64 i 1)),.int .u64 (asI (nthD qs 3))])),.int .i64 4] [sN [.int .i64 most,.slo 1 0 (ltD most cs [.int .i64 (plV (asI (nthD qs 0)) (xar .add .i64 i 0)),.int .u64 (asI (nthD qs 1)),.int .i64 (plV (asI (nthD qs 2)) (xar .add .i64 i 1)),.int .u64 (asI (nthD qs 3))]) 0],some (.obj lvF (ltC most cs [.int .i64 (plV (asI (nthD qs 0)) (xar .add .i64 i 0)),.int .u64 (asI (nthD qs 1)),.int .i64 (plV (asI (nthD qs 2)) (xar .add .i64 i 1)),.int .u64 (asI (nthD qs 3))]) 12),sD,sN [.int .i64 most,.slo 13 0 (ltD most cs [.int .i64 (plV (asI (nthD qs 0)) (xar .add .i64 i 0)),.int .u64 (asI (nthD qs 1)),.int .i64 (plV (asI (nthD qs 2)) (xar .add .i64 i 1)),.int .u64 (asI (nthD qs 3))]) 0],sD,sD,sN [.int .i64 k,.int .i64 a,.int .u64 w,.slo 7 0 n 0],some (.ro qs),sN [.int .i64 (plV (asI (nthD qs 0)) (xar .add .i64 i 0)),.int .u64 (asI (nthD qs 1))],sD,sN [.int .i64 (plV (asI (nthD qs 2)) (xar .add .i64 i 1)),.int .u64 (asI (nthD qs 3))],sC [.int .i64 (plV (asI (nthD qs 0)) (xar .add .i64 i 0)),.int .u64 (asI (nthD qs 1)),.int .i64 (plV (asI (nthD qs 2)) (xar .add .i64 i 1)),.int .u64 (asI (nthD qs 3))] 2,sD,some (.obj orF (ltC most cs [.int .i64 (plV (asI (nthD qs 0)) (xar .add .i64 i 0)),.int .u64 (asI (nthD qs 1)),.int .i64 (plV (asI (nthD qs 2)) (xar .add .i64 i 1)),.int .u64 (asI (nthD qs 3))]) 14),sD] (factG F)))
 else(
 ck (okR most cs d) <|
 ck (okC [.int .i64 (plV (asI (nthD qs 0)) (xar .add .i64 i 0)),.int .u64 (asI (nthD qs 1))] 1) <|
 ck (isF lvF lvF) <|
 ck (okR most cs d) <|
 ck (okC [.int .i64 (plV (asI (nthD qs 0)) (xar .add .i64 i 0)),.int .u64 (asI (nthD qs 1))] 1) <|
 ck (isF orF orF) <|
 K .ret [.ptr 0 0,.ptr 3 0,.int .i64 i,.ptr 6 0,.bool (xcm .eql (ltE most cs [.int .i64 (plV (asI (nthD qs 0)) (xar .add .i64 i 0)),.int .u64 (asI (nthD qs 1))]) (ltE most cs [.int .i64 (plV (asI (nthD qs 0)) (xar .add .i64 i 0)),.int .u64 (asI (nthD qs 1))])),.int .i64 4] [sN [.int .i64 most,.slo 1 0 (ltD most cs [.int .i64 (plV (asI (nthD qs 0)) (xar .add .i64 i 0)),.int .u64 (asI (nthD qs 1))]) 0],some (.obj lvF (ltC most cs [.int .i64 (plV (asI (nthD qs 0)) (xar .add .i64 i 0)),.int .u64 (asI (nthD qs 1))]) 10),sD,sN [.int .i64 most,.slo 11 0 (ltD most cs [.int .i64 (plV (asI (nthD qs 0)) (xar .add .i64 i 0)),.int .u64 (asI (nthD qs 1))]) 0],sD,sD,sN [.int .i64 k,.int .i64 a,.int .u64 w,.slo 7 0 n 0],some (.ro qs),sN [.int .i64 (plV (asI (nthD qs 0)) (xar .add .i64 i 0)),.int .u64 (asI (nthD qs 1))],sC [.int .i64 (plV (asI (nthD qs 0)) (xar .add .i64 i 0)),.int .u64 (asI (nthD qs 1))] 2,sD,some (.obj orF (ltC most cs [.int .i64 (plV (asI (nthD qs 0)) (xar .add .i64 i 0)),.int .u64 (asI (nthD qs 1))]) 12),sD] (factG F)))
 else(
 ck (okR most cs d) <|
 ck (isF lvF lvF) <|
 ck (okR most cs d) <|
 ck (isF orF orF) <|
 K .ret [.ptr 0 0,.ptr 3 0,.int .i64 i,.ptr 6 0,.bool (xcm .eql (ltE most cs []) (ltE most cs [])),.int .i64 4] [sN [.int .i64 most,.slo 1 0 (ltD most cs []) 0],some (.obj lvF (ltC most cs []) 9),sD,sN [.int .i64 most,.slo 11 0 (ltD most cs []) 0],sD,sD,sN [.int .i64 k,.int .i64 a,.int .u64 w,.slo 7 0 n 0],some (.ro qs),sC [] 2,sD,sC [] 2,some (.obj orF (ltC most cs []) 12),sD] (factG F))):=by kernel_rfl
end
end Go.Lev
