/- chapter 11: a view of one level over a heap that is known whole, in lists -/
import Derived.Test.YtopbikapcboigaaCZ13
import Derived.Test.YtopbikapcboigaaLc
import Derived.Test.YtopbikapcboigaaChecked
import Derived.KernelRfl
namespace Go.Lev
set_option linter.unusedSimpArgs false
set_option linter.unusedVariables false
open Go.RowKit
open Go.Proofs.Try (prog)
set_option maxRecDepth 100000
noncomputable section
theorem add_u64 {x y:Int} (h1:0≤x+y) (h2:x+y≤18446744073709551615):xar .add .u64 x y=x+y:=wrap_u64 h1 h2
theorem sub_u64 {x y:Int} (h1:0≤x - y) (h2:x - y≤18446744073709551615):xar .sub .u64 x y=x - y:=wrap_u64 h1 h2
theorem kn_fnd {us:List Int} {sz:Nat} {a:Int} (h:inV sz a):fndV (vhS us (sz - 1)) a=some (vhV us a.toNat):=by
 obtain⟨h1,h2⟩:=h
 obtain⟨i,rfl⟩:∃ i:Nat,a=((i+1:Nat):Int):=⟨a.toNat - 1,by omega⟩
 have hi:i < (vhS us (sz - 1)).length:=by rw [vhS_len]; omega
 have e:=fndV_hit (xs:=vhS us (sz - 1)) (s:=((i+1:Nat):Int)) hi (fun j hj hji=>by simp [vhS]; omega) (by simp [vhS])
 rw [e]; simp [vhS]
def gt (us:List Int) (p:CL) (a:Int):Int:=(fndV p a).getD (vhV us a.toNat)
theorem fndV_pl:∀ (p:CL) (a x b:Int),fndV (pl p (a,x)) b=if a=b then some x else fndV p b
 | [],a,x,b=>rfl
 | c::r,a,x,b=>by
   rw [pl]
   by_cases h:c.1=a
   ·rw [if_pos (by exact h),fndV,fndV]
    by_cases k:a=b
    ·rw [if_pos (by simp only; omega),if_pos k]
    ·rw [if_neg (by simp only; omega),if_neg k,if_neg (by omega)]
   ·rw [if_neg (by exact h),fndV,fndV_pl r,fndV]
    by_cases k:a=b
    ·rw [if_neg (by omega),if_pos k,if_pos k]
    ·rw [if_neg k,if_neg k]
theorem gt_pl (us:List Int) (p:CL) (a x b:Int):gt us (pl p (a,x)) b=if a=b then x else gt us p b:=by
 rw [gt,fndV_pl]; split <;> rfl
theorem rd1 {us:List Int} {sz:Nat} {p:CL} {fr:List Int} {a:Int} (h:inV sz a) (nd:Int):rdV sz (vhS us (sz - 1)) [(p,fr)] a=gt us p a∧rdE sz (vhS us (sz - 1)) [(p,fr)] a=0∧rdD sz (vhS us (sz - 1)) [(p,fr)] a nd=nd:=by
 have e1:rdE sz (vhS us (sz - 1)) [(p,fr)] a=0:=by
  rw [rdE,if_pos h,if_pos]
  right; rw [kn_fnd h]; rfl
 refine⟨?_,e1,by rw [rdD,e1]; rfl⟩
 rw [rdV,if_pos h,getL,gt]
 cases hf:fndV p a with
 | some v=>rfl
 | none =>
   show fV _ _=_
   rw [fV,kn_fnd h]; rfl
theorem wTk_ok:∀ (c p:CL) (m:Int),(p.length:Int)+c.length≤m→(∀ x∈c,1≤x.1∧x.1 < 256)→wTk m p c=(0,pls p c)
 | [],p,m,_,_=>rfl
 | x::c,p,m,h,hk=>by
   have hx:=hk x (by simp)
   simp only [List.length_cons] at h
   have e:wPe m p x.1=0:=by
    rw [wPe,if_neg (by omega)]
    split
    ·rfl
    ·rw [if_neg (by omega)]
   have:=pl_len p x
   rw [wTk,if_pos e,wTk_ok c (pl p x) m (by omega) fun y hy=>hk y (by simp [hy])]
   rfl
theorem vt1 {sz:Nat} {most:Int} {p:CL} {fr:List Int} {c:CL} (hs:sz≤256) (hk:∀ x∈c,inV sz x.1) (hm:(p.length:Int)+c.length≤most):vtE sz most [(p,fr)] c=0∧vtC sz most [(p,fr)] c=[(pls p c,fr)]:=by
 have hA:allV sz c=true:=by rw [allV,List.all_eq_true]; intro x hx; simpa using hk x hx
 have e:wTk (most - totC (outs [(p,fr)])) (inm [(p,fr)]).1 c=(0,pls p c):=wTk_ok c p _ (by show(p.length:Int)+c.length≤most - ((0:Nat):Int); omega) fun x hx=>by have:=hk x hx; exact⟨this.1,by have:=this.2; omega⟩
 refine⟨by rw [vtE,hA,if_pos rfl,tkE,e],?_⟩
 rw [vtC,hA,if_pos rfl,tkC,wTc,e]; rfl
abbrev l1 (p:CL) (fr:List Int):List LV:=encLs [(p,fr)]
abbrev kW (us:List Int) (sz:Nat):List LV:=encL cell (vhS us (sz - 1))
theorem rdW1 {us:List Int} {sz:Nat} {p:CL} {fr:List Int} {a:Int} (h:inV sz a) (nd:Int):rdVW sz (kW us sz) (l1 p fr) a=gt us p a∧rdEW sz (kW us sz) (l1 p fr) a=0∧rdDW sz (kW us sz) (l1 p fr) a nd=nd:=by
 simp only [rdVW,rdEW,rdDW,decC_enc,decLs_enc]; exact rd1 h nd
theorem vtW1 {sz:Nat} {most:Int} {p:CL} {fr:List Int} {cl:List LV} {c:CL} (ec:cl=encL cell c) (hs:sz≤256) (hk:∀ x∈c,inV sz x.1) (hm:(p.length:Int)+c.length≤most):vtEW sz most (l1 p fr) cl=0∧vtDW sz most (l1 p fr) cl=1∧vtCW sz most (l1 p fr) cl=l1 (pls p c) fr:=by
 subst ec
 simp only [vtEW,vtDW,vtCW,decC_enc,decLs_enc]
 have h:=vt1 (fr:=fr) hs hk hm
 exact⟨h.1,by rw [h.2]; rfl,by rw [h.2]⟩
theorem heW_eq {c:Int} (h:1≤c∧c≤4):heW c=c:=by rw [heW,add_i64 (by omega) (by omega)]; omega
theorem liveW_eq {c:Int} (h:1≤c∧c≤4):liveW c=c+8:=by rw [liveW,wr_u64 (by omega) (by omega),add_u64 (by omega) (by omega)]
theorem szW_b {c:Int} (h:1≤c∧c≤4):2≤szW c∧szW c≤16:=by
 have:c=1∨c=2∨c=3∨c=4:=by omega
 rcases this with rfl | rfl | rfl | rfl
 ·rw [szW_1]; omega
 ·rw [szW_2]; omega
 ·rw [szW_3]; omega
 ·rw [szW_4]; omega
abbrev aR (us:List Int) (sz:Nat) (most:Int) (p:CL) (fr:List Int) (s nd:Int) (v e:Int) (p':CL):Prop :=
 alV sz most (kW us sz) (l1 p fr) s=v∧alE sz most (kW us sz) (l1 p fr) s=e∧alD sz (kW us sz) (l1 p fr) s nd=nd∧alN sz most (kW us sz) (l1 p fr) s 1=1∧alC sz most (kW us sz) (l1 p fr) s=l1 p' fr
theorem al_M {us:List Int} {sz:Nat} {p:CL} {fr:List Int} {s c:Int} (hs:32≤sz) (h:clsW s=c) (hc:1≤c∧c≤4):alM sz (kW us sz) (l1 p fr) s=if gt us p c=0 then 3 else 2:=by
 have r:=rdW1 (us:=us) (p:=p) (fr:=fr) (a:=c) (sz:=sz) ⟨by omega,by omega⟩ 0
 rw [alM,h,if_neg (by omega),heW_eq hc,r.2.1,if_pos rfl,r.1]
theorem al_bump {us:List Int} {sz:Nat} {most:Int} {p:CL} {fr:List Int} {s c nd P:Int} (hs:32≤sz) (hs2:sz≤256) (hm:(p.length:Int)+2≤most) (h:clsW s=c) (hc:1≤c∧c≤4) (h0:gt us p c=0) (hP:gt us p 5=P) (hP1:14≤P) (hP2:P+1+szW c≤sz):aR us sz most p fr s nd (P+1) 0 (pls p [(5,P+1+szW c),(P,c+8)]):=by
 have hz:=szW_b hc
 have eM:alM sz (kW us sz) (l1 p fr) s=3:=by rw [al_M hs h hc,if_pos h0]
 have r:=fun nd=>rdW1 (us:=us) (p:=p) (fr:=fr) (a:=5) (sz:=sz) ⟨by omega,by omega⟩ nd
 have r2:=fun nd=>rdW1 (us:=us) (p:=p) (fr:=fr) (a:=c) (sz:=sz) ⟨by omega,by omega⟩ nd
 have eS:bmpS c P=P+1+szW c:=by rw [bmpS,wr_u64 (by omega) (by omega),add_u64 (x:=P) (by omega) (by omega),add_u64 (by omega) (by omega)]
 have eL:bmpL c P=encL cell [(5,P+1+szW c),(P,c+8)]:=by
  have:=eS; rw [bmpS] at this
  rw [bmpL,this,wr_i64 (by omega) (by omega),liveW_eq hc]; rfl
 have t:=vtW1 (fr:=fr) (most:=most) (p:=p) eL hs2 (c:=[(5,P+1+szW c),(P,c+8)]) (fun x hx=>by
  simp only [List.mem_cons,List.not_mem_nil,or_false] at hx
  rcases hx with rfl | rfl <;> exact⟨by simp only; omega,by simp only; omega⟩) (by simpa using hm)
 have eB:bmpB sz (kW us sz) (l1 p fr) c=true:=by
  have hw:xwr .u64 (Int.ofNat sz)=(sz:Int):=wr_u64 (n:=(sz:Int)) (by omega) (by omega)
  rw [bmpB,decide_eq_true_eq,(r 0).2.1,(r 0).1,hP,eS,hw]; omega
 have eE:bmpE sz most (kW us sz) (l1 p fr) c=0:=by rw [bmpE,eB,if_pos rfl,(r 0).1,hP,t.1]
 simp only [aR,alV,alE,alD,alN,alC,eM,h]
 refine⟨?_,eE,?_,?_,?_⟩
 ·rw [bmpV,eE,if_pos rfl,(r 0).1,hP,wr_i64 (by omega) (by omega),add_i64 (by omega) (by omega)]
 ·rw [heW_eq hc,(r2 nd).2.2,(r nd).2.2]
 ·rw [bmpN,eB,if_pos rfl,(r 0).1,hP,t.2.1]
 ·rw [bmpC,eB,if_pos rfl,(r 0).1,hP,t.2.2]
theorem al_full {us:List Int} {sz:Nat} {most:Int} {p:CL} {fr:List Int} {s c nd P:Int} (hs:32≤sz) (hs2:sz≤256) (h:clsW s=c) (hc:1≤c∧c≤4) (h0:gt us p c=0) (hP:gt us p 5=P) (hP1:0≤P) (hP2:P≤256) (hF:P < 14∨sz < P+1+szW c):aR us sz most p fr s nd 0 4 p:=by
 have hz:=szW_b hc
 have eM:alM sz (kW us sz) (l1 p fr) s=3:=by rw [al_M hs h hc,if_pos h0]
 have r:=fun nd=>rdW1 (us:=us) (p:=p) (fr:=fr) (a:=5) (sz:=sz) ⟨by omega,by omega⟩ nd
 have r2:=fun nd=>rdW1 (us:=us) (p:=p) (fr:=fr) (a:=c) (sz:=sz) ⟨by omega,by omega⟩ nd
 have eS:bmpS c P=P+1+szW c:=by rw [bmpS,wr_u64 (by omega) (by omega),add_u64 (x:=P) (by omega) (by omega),add_u64 (by omega) (by omega)]
 have eB:bmpB sz (kW us sz) (l1 p fr) c=false:=by
  have hw:xwr .u64 (Int.ofNat sz)=(sz:Int):=wr_u64 (n:=(sz:Int)) (by omega) (by omega)
  rw [bmpB,decide_eq_false_iff_not,(r 0).2.1,(r 0).1,hP,eS,hw]; omega
 have eE:bmpE sz most (kW us sz) (l1 p fr) c=4:=by rw [bmpE,eB,(r 0).2.1]; rfl
 simp only [aR,alV,alE,alD,alN,alC,eM,h]
 refine⟨?_,eE,?_,?_,?_⟩
 ·rw [bmpV,eE]; rfl
 ·rw [heW_eq hc,(r2 nd).2.2,(r nd).2.2]
 ·rw [bmpN,eB]; rfl
 ·rw [bmpC,eB]; rfl
theorem al_pop {us:List Int} {sz:Nat} {most:Int} {p:CL} {fr:List Int} {s c nd f:Int} (hs:32≤sz) (hs2:sz≤256) (hm:(p.length:Int)+2≤most) (h:clsW s=c) (hc:1≤c∧c≤4) (h0:gt us p c=f) (hf1:2≤f) (hf2:f < sz):aR us sz most p fr s nd f 0 (pls p [(c,gt us p f),(f - 1,c+8)]):=by
 have eM:alM sz (kW us sz) (l1 p fr) s=2:=by rw [al_M hs h hc,if_neg (by omega)]
 have r2:=fun nd=>rdW1 (us:=us) (p:=p) (fr:=fr) (a:=c) (sz:=sz) ⟨by omega,by omega⟩ nd
 have r:=fun nd=>rdW1 (us:=us) (p:=p) (fr:=fr) (a:=f) (sz:=sz) ⟨by omega,by omega⟩ nd
 have ef:xwr .i64 f=f:=wr_i64 (by omega) (by omega)
 have eL:popL c f (gt us p f)=encL cell [(c,gt us p f),(f - 1,c+8)]:=by
  rw [popL,ef,sub_i64 (by omega) (by omega),liveW_eq hc,heW_eq hc]; rfl
 have t:=vtW1 (fr:=fr) (most:=most) (p:=p) eL hs2 (c:=[(c,gt us p f),(f - 1,c+8)]) (fun x hx=>by
  simp only [List.mem_cons,List.not_mem_nil,or_false] at hx
  rcases hx with rfl | rfl <;> exact⟨by simp only; omega,by simp only; omega⟩) (by simpa using hm)
 have eB:popB sz (kW us sz) (l1 p fr) f=true:=by
  rw [popB,decide_eq_true_eq,ef,(r 0).2.1]; omega
 have eE:popE sz most (kW us sz) (l1 p fr) c f=0:=by rw [popE,eB,if_pos rfl,ef,(r 0).1,t.1]
 simp only [aR,alV,alE,alD,alN,alC,eM,h]
 rw [heW_eq hc,(r2 0).1,h0]
 refine⟨?_,eE,?_,?_,?_⟩
 ·rw [popV,eE,if_pos rfl,ef]
 ·rw [popD,if_pos (by omega),ef,(r2 nd).2.2,(r nd).2.2]
 ·rw [popN,eB,if_pos rfl,ef,(r 0).1,t.2.1]
 ·rw [popC,eB,if_pos rfl,ef,(r 0).1,t.2.2]
theorem hr_in {us:List Int} {sz:Nat} {p:CL} {fr:List Int} {a nd:Int} (hs2:sz≤256) (h:15≤a∧a≤(sz:Int) - 1):hrV sz (kW us sz) (l1 p fr) a=gt us p (a - 1)∧hrE sz (kW us sz) (l1 p fr) a=0∧hrD sz (kW us sz) (l1 p fr) a nd=nd:=by
 have hB:hrB sz a=true:=decide_eq_true h
 have r:=rdW1 (us:=us) (p:=p) (fr:=fr) (a:=a - 1) (sz:=sz) ⟨by omega,by omega⟩ nd
 rw [hrV,hrE,hrD,hB,if_pos rfl,if_pos rfl,if_pos rfl]
 exact r
theorem hr_out {us:List Int} {sz:Nat} {p:CL} {fr:List Int} {a nd:Int} (h:¬ (15≤a∧a≤(sz:Int) - 1)):hrV sz (kW us sz) (l1 p fr) a=0∧hrE sz (kW us sz) (l1 p fr) a=2∧hrD sz (kW us sz) (l1 p fr) a nd=nd:=by
 have hB:hrB sz a=false:=decide_eq_false h
 rw [hrV,hrE,hrD,hB]; exact⟨rfl,rfl,rfl⟩
abbrev fR (us:List Int) (sz:Nat) (most:Int) (p:CL) (fr:List Int) (a nd:Int) (e:Int) (p':CL) (fr':List Int):Prop :=
 fbE sz most (kW us sz) (l1 p fr) a=e∧hrD sz (kW us sz) (l1 p fr) a nd=nd∧fbN sz most (kW us sz) (l1 p fr) a 1=1∧fbC sz most (kW us sz) (l1 p fr) a=l1 p' fr'∧fbF sz most (kW us sz) (l1 p fr) a=true
theorem ilW_eq {h:Int} (h0:0≤h) (h1:h≤18446744073709551615):ilW h=decide (9≤h∧h≤12):=by
 rw [ilW,Bool.eq_iff_iff]
 simp only [Bool.and_eq_true,decide_eq_true_eq]
 by_cases c:8 < h
 ·have:lwrap .u64 (h - 8)=h - 8:=wrap_u64 (by omega) (by omega)
  rw [this]; omega
 ·constructor
  ·rintro⟨q,_⟩; exact absurd q c
  ·intro q; omega
theorem fr_no {us:List Int} {sz:Nat} {most:Int} {p:CL} {fr:List Int} {a nd:Int} (hs2:sz≤256) (hg:0≤gt us p (a - 1)∧gt us p (a - 1)≤18446744073709551615) (h:¬ (15≤a∧a≤(sz:Int) - 1∧9≤gt us p (a - 1)∧gt us p (a - 1)≤12)):fR us sz most p fr a nd 2 p fr:=by
 by_cases c:15≤a∧a≤(sz:Int) - 1
 ·have q:=hr_in (us:=us) (p:=p) (fr:=fr) (nd:=nd) hs2 c
  have eM:fbM sz most (kW us sz) (l1 p fr) a=2:=by
   rw [fbM,q.2.1,if_pos rfl,q.1,ilW_eq hg.1 hg.2,if_neg]
   simp only [decide_eq_true_eq]; omega
  simp only [fR,fbE,fbN,fbC,fbF,eM,true_and]
  exact⟨q.2.2,rfl⟩
 ·have q:=hr_out (us:=us) (p:=p) (fr:=fr) (nd:=nd) c
  have eM:fbM sz most (kW us sz) (l1 p fr) a=1:=by rw [fbM,q.2.1]; rfl
  simp only [fR,fbE,fbN,fbC,fbF,eM,true_and]
  exact⟨q.2.1,q.2.2,rfl⟩
theorem okR_1 {most:Int} {p:CL} {fr:List Int} (hu:uniq p) (hk:inK p) (hp:(p.length:Int)≤most) (hm:most≤96) (hf:fr.length≤1000):okR most (l1 p fr) 1=true :=
 okR_enc (ls:=[(p,fr)]) ⟨by simp,by simp,fun x hx=>by simp at hx; subst hx; exact⟨hu,hk⟩,by simp [totC]; omega,by simp [totF]; omega⟩ (by simpa [totC] using hp) hm
theorem fr_go {us:List Int} {sz:Nat} {most:Int} {p:CL} {fr:List Int} {a nd h:Int} (hs2:sz≤256) (hu:uniq p) (hk:inK p) (hf:fr.length≤1000) (hm:(p.length:Int)+1≤most) (hm2:most≤96) (h1:15≤a∧a≤(sz:Int) - 1) (hh:gt us p (a - 1)=h) (h2:9≤h∧h≤12):fR us sz most p fr a nd 0 (pl p (a - 1,h - 8)) (fr++[a]):=by
 have q:=hr_in (us:=us) (p:=p) (fr:=fr) (nd:=nd) hs2 h1
 have eL:fbL sz (kW us sz) (l1 p fr) a=encL cell [(a - 1,h - 8)]:=by
  rw [fbL,q.1,hh,sub_i64 (by omega) (by omega),sub_u64 (by omega) (by omega)]; rfl
 have t:=vtW1 (fr:=fr) (most:=most) (p:=p) eL hs2 (c:=[(a - 1,h - 8)]) (fun x hx=>by
  simp only [List.mem_cons,List.not_mem_nil,or_false] at hx
  subst hx; exact⟨by simp only; omega,by simp only; omega⟩) (by simpa using hm)
 have eM:fbM sz most (kW us sz) (l1 p fr) a=4:=by
  rw [fbM,q.2.1,if_pos rfl,q.1,hh,ilW_eq (by omega) (by omega),if_pos (decide_eq_true h2),t.1,if_pos rfl]
 have eP:pls p [(a - 1,h - 8)]=pl p (a - 1,h - 8):=rfl
 rw [eP] at t
 have hl:=pl_len p (a - 1,h - 8)
 have o2:okR most (l1 (pl p (a - 1,h - 8)) fr) 1=true:=okR_1 (uniq_pl hu) (fun x hx=>by
  have:keyIn x.1 (pl p (a - 1,h - 8)):=⟨x,hx,rfl⟩
  rcases key_pl.1 this with⟨y,hy,e⟩ | e
  ·rw [← e]; exact hk y hy
  ·rw [← e]; exact⟨by simp only; omega,by simp only; omega⟩) (by omega) hm2 hf
 simp only [fR,fbE,fbN,fbC,fbF,eM,if_pos,t.2.2,t.2.1]
 refine⟨trivial,q.2.2,?_,?_,?_⟩
 ·rw [lfD,decLs_enc]; rfl
 ·rw [lfC,decLs_enc]; rfl
 ·rw [o2,okF,decLs_enc,Bool.and_true,decide_eq_true_eq]; simp [totF]; omega
abbrev gR (us:List Int) (sz:Nat) (most:Int) (p:CL) (fr:List Int) (a nd:Int) (e:Int) (p':CL):Prop :=
 gvE sz most (kW us sz) (l1 p fr) a=e∧gvD sz (kW us sz) (l1 p fr) a nd=nd∧gvN sz most (kW us sz) (l1 p fr) a 1=1∧gvC sz most (kW us sz) (l1 p fr) a=l1 p' fr
theorem gv_no {us:List Int} {sz:Nat} {most:Int} {p:CL} {fr:List Int} {a nd:Int} (hs2:sz≤256) (h:¬ (15≤a∧a≤(sz:Int) - 1∧1≤gt us p (a - 1)∧gt us p (a - 1)≤4)):gR us sz most p fr a nd 2 p:=by
 by_cases c:15≤a∧a≤(sz:Int) - 1
 ·have q:=hr_in (us:=us) (p:=p) (fr:=fr) (nd:=nd) hs2 c
  have eM:gvM sz (kW us sz) (l1 p fr) a=2:=by
   rw [gvM,q.2.1,if_pos rfl,q.1,if_neg]
   simp only [icW,decide_eq_true_eq]; omega
  simp only [gR,gvE,gvN,gvC,gvD,eM,true_and]
  exact⟨q.2.2,trivial⟩
 ·have q:=hr_out (us:=us) (p:=p) (fr:=fr) (nd:=nd) c
  have eM:gvM sz (kW us sz) (l1 p fr) a=1:=by rw [gvM,q.2.1]; rfl
  simp only [gR,gvE,gvN,gvC,gvD,eM,true_and]
  exact⟨q.2.1,q.2.2,trivial⟩
theorem gv_go {us:List Int} {sz:Nat} {most:Int} {p:CL} {fr:List Int} {a nd c:Int} (hs2:sz≤256) (hs:32≤sz) (hm:(p.length:Int)+2≤most) (h1:15≤a∧a≤(sz:Int) - 1) (hh:gt us p (a - 1)=c) (hc:1≤c∧c≤4):gR us sz most p fr a nd 0 (pls p [(a,gt us p c),(c,a)]):=by
 have q:=hr_in (us:=us) (p:=p) (fr:=fr) (nd:=nd) hs2 h1
 have r:=fun nd=>rdW1 (us:=us) (p:=p) (fr:=fr) (a:=c) (sz:=sz) ⟨by omega,by omega⟩ nd
 have ec:xwr .i64 c=c:=wr_i64 (by omega) (by omega)
 have eL:gvL sz (kW us sz) (l1 p fr) a=encL cell [(a,gt us p c),(c,a)]:=by
  rw [gvL,q.1,hh,ec,heW_eq hc,(r 0).1,wr_u64 (by omega) (by omega)]; rfl
 have t:=vtW1 (fr:=fr) (most:=most) (p:=p) eL hs2 (c:=[(a,gt us p c),(c,a)]) (fun x hx=>by
  simp only [List.mem_cons,List.not_mem_nil,or_false] at hx
  rcases hx with rfl | rfl <;> exact⟨by simp only; omega,by simp only; omega⟩) (by simpa using hm)
 have eM:gvM sz (kW us sz) (l1 p fr) a=4:=by
  rw [gvM,q.2.1,if_pos rfl,q.1,hh,if_pos (show icW c=true from decide_eq_true hc),ec,heW_eq hc,(r 0).2.1,if_pos rfl]
 simp only [gR,gvE,gvN,gvC,gvD,eM]
 refine⟨t.1,?_,t.2.1,t.2.2⟩
 rw [q.1,hh,ec,heW_eq hc,q.2.2,(r nd).2.2]
theorem celL_1 (p:CL) (fr:List Int):celL [(p,fr)]=pls [] p:=rfl
theorem pls_uniq:∀ (p x:CL),uniq p→(∀ y∈p,¬ keyIn y.1 x)→pls x p=x++p
 | [],x,_,_=>by simp
 | c::r,x,h,hn=>by
   have e:pl x c=x++[c]:=by
    refine pl_app x c.1 c.2 fun j hj e=>?_
    exact hn c (by simp) ⟨x[j],List.getElem_mem hj,e⟩
   show pls (pl x c) r=_
   rw [e,pls_uniq r (x++[c]) h.2 fun y hy hk=>?_]
   ·simp
   ·obtain⟨z,hz,e2⟩:=hk
    rcases List.mem_append.1 hz with hz | hz
    ·exact hn y (by simp [hy]) ⟨z,hz,e2⟩
    ·simp only [List.mem_singleton] at hz; subst hz
     exact h.1 ⟨y,hy,e2.symm⟩
theorem cel_1 {p:CL} {fr:List Int} (h:uniq p):celL [(p,fr)]=p:=by
 rw [celL_1,pls_uniq p [] h fun y _ hk=>key_nil hk]; rfl
theorem ap1_get (l:List Int) (c:Int×Int) {i:Nat} (hi:i < l.length) (hi1:1≤i):(ap1 l c).getD i 0=if c.1=i then c.2 else l.getD i 0:=by
 unfold ap1
 by_cases h:1≤c.1∧c.1 < (l.length:Int)
 ·rw [if_pos h]
  simp only [List.getD_eq_getElem?_getD,List.getElem?_set]
  by_cases e:c.1=i
  ·rw [if_pos (by omega),if_pos e,if_pos (by omega)]; rfl
  ·rw [if_neg (by omega),if_neg e]
 ·rw [if_neg h,if_neg (by omega)]
theorem apN_get:∀ (p:CL) (l:List Int),uniq p→∀ {i:Nat},i < l.length→1≤i→(apN l p).getD i 0=(fndV p i).getD (l.getD i 0)
 | [],l,_,i,_,_=>rfl
 | c::r,l,h,i,hi,hi1=>by
   show(apN (ap1 l c) r).getD i 0=_
   rw [apN_get r (ap1 l c) h.2 (by rw [ap1_len]; exact hi) hi1,ap1_get l c hi hi1,fndV]
   by_cases e:c.1=i
   ·rw [if_pos e,if_pos e,fndV_key.2 (by rw [← e]; exact h.1)]; rfl
   ·rw [if_neg e,if_neg e]
def nxt (us:List Int) (p:CL):List Int:=apN (hw0 us) p
theorem nxt_len {us:List Int} (p:CL) (h:32≤us.length) (h2:us.length≤256):(nxt us p).length=us.length:=by
 rw [nxt,apN_len,hw0_len]; unfold szQ szF; omega
theorem nxt_get {us:List Int} {p:CL} (h:32≤us.length) (h2:us.length≤256) (hu:uniq p) {i:Nat} (hi:i < us.length) (hi1:1≤i):vhV (nxt us p) i=gt us p i:=by
 have e:szQ us.length=us.length:=by unfold szQ szF; omega
 rw [vhV,nxt,apN_get p _ hu (by rw [hw0_len,e]; exact hi) hi1,hw0_at hi1 (by rw [e]; exact hi),gt]; rfl
end
end Go.Lev
