/- chapter 9: the reference's levels: Keep and Take -/
import Derived.Test.YtopbikapcboigaaCW20
import Derived.Test.YtopbikapcboigaaLc
import Derived.Test.YtopbikapcboigaaChecked
import Derived.KernelRfl
namespace Go.Lev
set_option linter.unusedSimpArgs false
set_option linter.unusedVariables false
open Go.RowKit
open Go.Proofs.Try (prog)
set_option maxRecDepth 100000
noncomputable section
theorem okR_enc {most:Int} {ls:List Lv} (h:OkLs ls) (h1:(totC ls:Int)≤most) (h2:most≤96):okR most (encLs ls) ls.length=true:=okR_iff.2 ⟨ls,rfl,rfl,h,h1,h2⟩
theorem tk1 (most:Int) (y:CL) (f:List Int) (r:List Lv) (a v:Int):tkE most ((y,f)::r) [(a,v)]=wPe (most - totC r) y a∧tkC most ((y,f)::r) [(a,v)]=(wPc (most - totC r) y a v,f)::r :=
 ⟨wT1e _ _ _ _,by simp only [tkC,inm,outs,wT1c]⟩
abbrev otO (most:Int) (d:Nat) (cs c:List LV):List LB:=[.cells [.int .i64 most,.slo 4 0 d 0] none,.dead,.dead,.cells c (some 2),.obj orF cs 5,.dead]
theorem otake_ok (most:Int) (cs:CL) (hcs:cs.length≤800000) (ls:List Lv) (h:OkLs ls) (hm:(totC ls:Int)≤most) (hm2:most≤96):SFun prog 93 [.ptr 0 0,.slo 3 0 cs.length 0] (mkS (otI most ls.length (encLs ls) (encL cell cs))) fun l t=>l=.int .i64 (tkE most ls cs)∧t=mkS (otO most (tkC most ls cs).length (encLs (tkC most ls cs)) (encL cell cs)):=by
 cases ls with
 | nil=>exact absurd rfl h.ne
 | cons x r =>
 refine SFun.mono (SFun.pieces (Q:=fun l b=>l=.int .i64 (tkE most (x::r) cs)∧b=otO most (tkC most (x::r) cs).length (encLs (tkC most (x::r) cs)) (encL cell cs)) 38 4 otL [4] (by kernel_rfl) rfl rfl rfl ?_) fun l s' ⟨b0,⟨h1,h2⟩,h3⟩=>⟨h1,by rw [h3,h2]⟩
 have ncs:=noids_c cs; have lcs:=cell_n cs
 have fo:=isF_self orF
 have ok0:=okR_enc h hm hm2
 refine SSp.to cxo2_ok (n:=60) (g:=[]) 3 3 rfl (σ:=Unit) (fun _=>otT cs.length 0) (fun _=>otH most (x::r).length (encLs (x::r)) (encL cell cs) (x::r).length (encLs (x::r))) (mkS_le (Nat.le_of_ble_eq_true rfl)) (by kernel_rfl) ?_ fun _=>?_
 ·rw [ot_a,ok0,fo]
  exact⟨rfl,(),[.id 0,.id 1,.id 2,.id 3,.id 7,.id 4,.id 5,.id 6],by(exact zC)⟩
 refine SSp.code_to (g:=[]) 4 rfl (σ:={ys:CL // wTk (most - totC r) x.1 cs=(0,ys)}) (fun _=>otT cs.length cs.length) (fun ys=>otH most (x::r).length (encLs (x::r)) (encL cell cs) (r.length+1) (encLs ((ys.1,x.2)::r))) (by kernel_rfl) ?_ fun⟨ys,he⟩=>?_
 ·refine SCode.loop_vc cxo2_ok (n:=60) 0 (by kernel_rfl) (σ:={p:Nat×CL // p.1≤cs.length∧wTk (most - totC r) x.1 cs=wTk (most - totC r) p.2 (cs.drop p.1)∧OkLs ((p.2,x.2)::r)∧(totC ((p.2,x.2)::r):Int)≤most}) (fun p=>otT cs.length p.1.1) (fun p=>otH most (x::r).length (encLs (x::r)) (encL cell cs) (r.length+1) (encLs ((p.1.2,x.2)::r))) (fun p=>cs.length - p.1.1) (fun _=>Nat.le_of_ble_eq_true rfl) (fun⟨⟨i,ys⟩,hi,he,ho,ht⟩=>?_) ⟨(0,x.1),Nat.zero_le _,rfl,h,hm⟩
  dsimp only at hi he ho ht ⊢
  have oky:okR most (encLs ((ys,x.2)::r)) (r.length+1)=true:=okR_enc ho ht hm2
  rw [ot_b]; simp only [ot_b_b1]; rw [wd_lss]
  refine ite_way (fun hk=>?_) (fun hk=>?_)
  ·have i3:xar .add .i64 (i:Int) 1=((i+1:Nat):Int):=inc_i64 hk (by omega)
   have st:=wTk_drop (most - totC r) ys cs i hk
   obtain⟨t1,t2⟩:=tk1 most ys x.2 r cs[i].1 cs[i].2
   obtain⟨g1,g2⟩:=tkC_ok ho ht hm2 [(cs[i].1,cs[i].2)]
   simp only [wd_nat,wd_asV,wd_isV,wd_ix,wd_add,wd_mul,wd_ln,Nat.zero_add,Nat.mul_one,wd_isI,wd_asI,wd_isB,wd_asB,wd_nn,cI_tlen,cB_tlen,cII_tlen,decide_true,cond_true,wd_not_t,wd_not_f,wd_and_t,wd_and_f,Nat.add_assoc,Nat.reduceAdd,cell_0 hk,cell_1 hk,lcs,i3,oky,fo,lpE,lpD,lpC,decLs_enc,t1,t2]
   by_cases hz:wPe (most - totC r) ys cs[i].1=0
   ·have e5:wPc (most - totC r) ys cs[i].1 cs[i].2=pl ys (cs[i].1,cs[i].2):=by rw [wPc,if_pos hz]
    rw [t2,e5] at g1 g2
    simp only [e5]
    (refine zR ?_)
    exact⟨rfl,⟨(i+1,pl ys cs[i]),hk,by rw [he,st,if_pos hz],g1,g2⟩,by simp only; omega,[.id 0,.id 1,.id 2,.id 3,.id 4,.id 5,.id 6,.id 8],by(exact zC)⟩
   ·have e6:wTk (most - totC r) x.1 cs=(wPe (most - totC r) ys cs[i].1,ys):=by rw [he,st,if_neg hz]
    have e7:tkE most (x::r) cs=wPe (most - totC r) ys cs[i].1:=by show(wTk (most - totC r) x.1 cs).1=_; rw [e6]
    have e8:tkC most (x::r) cs=x::r:=by show(wTc (most - totC r) x.1 cs,x.2)::r=_; rw [wTc,e6,if_neg hz]
    (refine zR ?_)
    exact⟨trivial,rfl,.int .i64 (wPe (most - totC r) ys cs[i].1),otO most (x::r).length (encLs (x::r)) (encL cell cs),[.id 0,.id 1,.id 2,.id 3,.id 1,.id 4],⟨by rw [e7],by rw [e8]⟩,by(exact zC)⟩
  ·obtain rfl:i=cs.length:=by omega
   exact⟨rfl,⟨ys,by rw [he,List.drop_length,wTk]⟩,[.id 0,.id 1,.id 2,.id 3,.id 4,.id 5,.id 6,.id 7],by(exact zC)⟩
 refine zE cxo2_ok ?_
 have e7:tkE most (x::r) cs=0:=by show(wTk (most - totC r) x.1 cs).1=_; rw [he]
 have e8:tkC most (x::r) cs=(ys,x.2)::r:=by show(wTc (most - totC r) x.1 cs,x.2)::r=_; rw [wTc,he,if_pos rfl]
 rw [ot_z]
 exact⟨trivial,rfl,.int .i64 0,otO most (r.length+1) (encLs ((ys,x.2)::r)) (encL cell cs),[.id 0,.id 1,.id 2,.id 3,.id 6,.id 7],⟨by rw [e7],by rw [e8]; rfl⟩,by(exact zC)⟩
theorem otake_c (most:Int) (d nc:Nat) (cs c:List LV) (k1:okR most cs d=true) (k2:okC c nc=true) (k3:xle nc 800000=true):SFun prog 93 [.ptr 0 0,.slo 3 0 nc 0] (mkS (otI most d cs c)) fun l t=>l=.int .i64 (ltE most cs c)∧t=mkS (otO most (ltD most cs c) (ltC most cs c) c):=by
 obtain⟨ls,rfl,rfl,h,h1,h2⟩:=okR_iff.1 k1
 obtain⟨xs,rfl,rfl,_⟩:=okC_iff.1 k2
 rw [wd_le,decide_eq_true_eq] at k3
 simp only [ltE,ltD,ltC,decLs_enc,decC_enc]
 exact otake_ok most xs k3 ls h h1 h2
def otakeG:Gc:=fun args s=>match args,s.g with
 | [.ptr b 0,.slo r 0 nc 0],[]=>(match s.h.get b with
   | some (.cells [.int .i64 most,.slo o 0 d 0] none)=>(match s.h.get o with
     | some (.obj F_o cs e)=>(match s.h.get e with
       | some (.dead)=>(match s.h.get r with
         | some (.cells c (some 2))=>cond (nodupB [b,o,e,r]) (match s.lay [b,o,e,r] [.cells [.int .i64 most,.slo s.n 0 (ltD most cs c) 0] none,.dead,.dead,.cells c (some 2)] [.obj orF (ltC most cs c) (Nat.succ s.n),.dead] with
           | some s'=>some ([okR most cs d,okC c nc,xle nc 800000,isF F_o orF],.int .i64 (ltE most cs c),s')
           | none=>none) none
         | _=>none)
       | _=>none)
     | _=>none)
   | _=>none)
 | _,_=>none
theorem otakeG_ok:GOk prog 93 otakeG:=by
 intro args s bs l s' hg hb hfr
 unfold otakeG at hg
 split at hg
 ·rename_i b r nc hgl
  split at hg
  ·rename_i most o d hb0
   split at hg
   ·rename_i F_o cs e hb1
    split at hg
    ·rename_i  hb2
     split at hg
     ·rename_i c hb3
      cases hbc:nodupB [b,o,e,r] with
      | false=>rw [hbc] at hg; cases hg
      | true =>
        rw [hbc] at hg
        simp only [cond_true] at hg
        split at hg
        ·rename_i s1 hs1
         simp only [Option.some.injEq,Prod.mk.injEq] at hg
         obtain⟨rfl,rfl,rfl⟩:=hg
         simp only [allT_cons] at hb
         obtain⟨k1,k2,k3,k4,_⟩:=hb
         have e_o:=isF_eq k4
         subst e_o
         have no:noIds c=true:=noids_ok k2
         refine SFun.lay (bs:=[.cells [.int .i64 most,.slo 1 0 d 0] none,.obj orF cs 2,.dead,.cells c (some 2)]) (args0:=[.ptr 0 0,.slo 3 0 nc 0]) (bs':=[.cells [.int .i64 most,.slo 4 0 (ltD most cs c) 0] none,.dead,.dead,.cells c (some 2),.obj orF (ltC most cs c) 5,.dead]) (v0:=.int .i64 (ltE most cs c)) hfr hs1 (nodupB_nd hbc)
          ⟨⟨there hfr hb0,_,hb0,by first | exact lb_same rfl | exact lb_cells (lws_cons (lw_int) (lws_cons (lw_slo rfl) lws_nil)) (by simp),fun κ hκ=>lb_cells (lws_cons (lw_int) (lws_cons (lw_slo (hκ 1 o rfl)) lws_nil)) (by simp)⟩,⟨there hfr hb1,_,hb1,lb_obj rfl,fun κ hκ=>lb_obj (hκ 2 e rfl)⟩,⟨there hfr hb2,_,hb2,lb_dead,fun κ hκ=>lb_dead⟩,⟨there hfr hb3,_,hb3,lb_same (by(exact zId)),fun κ hκ=>lb_same (by(exact zId))⟩,trivial⟩ (by(exact zTl)) ?_
          fun κ h1 h2=>⟨⟨lb_cells (lws_cons (lw_int) (lws_cons (lw_slo (h2 0 (by simp))) lws_nil)) (by simp),lb_dead,lb_dead,lb_same (by(exact zId)),lb_obj (h2 1 (by simp)),lb_dead,trivial⟩,lw_int⟩
         rw [hgl]; exact(otake_c most d nc cs c k1 k2 k3)
        ·cases hg
     ·cases hg
    ·cases hg
   ·cases hg
  ·cases hg
 ·cases hg
end
end Go.Lev
