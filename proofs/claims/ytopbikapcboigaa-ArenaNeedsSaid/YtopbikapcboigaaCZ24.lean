/- chapter 11: what an ask does: its contract, and what stays -/
import Derived.Test.YtopbikapcboigaaCZ23
import Derived.Test.YtopbikapcboigaaLc
import Derived.Test.YtopbikapcboigaaChecked
import Derived.KernelRfl
namespace Go.Lev
set_option linter.unusedSimpArgs false
set_option linter.unusedVariables false
open Go.RowKit
open Go.Proofs.Try (prog)
set_option maxRecDepth 100000
noncomputable section
def inR (x:Int):Prop:=0≤x∧x≤18446744073709551615
theorem inR_w (x:Int):inR (lwrap .u64 x):=by
 unfold inR
 rw [lwrap_eq,show IntKind.u64.wrap x=x % 18446744073709551616 by simp [IntKind.wrap,IntKind.bits,IntKind.signed]]
 omega
def vrC (c:CL):Prop:=∀ x∈c,inR x.2
def vrL (ls:List Lv):Prop:=∀ l∈ls,vrC l.1
theorem vrC_pl:∀ {p:CL} {x:Int×Int},vrC p→inR x.2→vrC (pl p x)
 | [],x,_,h=>fun y hy=>by simp [pl] at hy; subst hy; exact h
 | c::r,x,hp,h=>by
   rw [pl]; split
   ·intro y hy
    rcases List.mem_cons.1 hy with rfl | hy
    ·exact h
    ·exact hp y (by simp [hy])
   ·intro y hy
    rcases List.mem_cons.1 hy with rfl | hy
    ·exact hp _ (by simp)
    ·exact vrC_pl (fun z hz=>hp z (by simp [hz])) h y hy
theorem vrC_pls:∀ (c:CL) {p:CL},vrC p→vrC c→vrC (pls p c)
 | [],p,h,_=>h
 | x::c,p,h,hc=>vrC_pls c (vrC_pl h (hc x (by simp))) fun y hy=>hc y (by simp [hy])
theorem vrC_wTk (m:Int):∀ (c:CL) {p:CL},vrC p→vrC c→vrC (wTk m p c).2
 | [],p,h,_=>h
 | x::c,p,h,hc=>by
   rw [wTk]; split
   ·exact vrC_wTk m c (vrC_pl h (hc x (by simp))) fun y hy=>hc y (by simp [hy])
   ·exact h
def GL (most:Int) (N d:Nat) (cs:List LV):Prop:=∃ ls:List Lv,cs=encLs ls∧d=ls.length∧OkLs ls∧(totC ls:Int)≤most∧totF ls≤N∧vrL ls
theorem GL.mono {most:Int} {N M d:Nat} {cs:List LV} (h:GL most N d cs) (k:N≤M):GL most M d cs:=by
 obtain⟨ls,h1,h2,h3,h4,h5,h6⟩:=h; exact⟨ls,h1,h2,h3,h4,Nat.le_trans h5 k,h6⟩
theorem GL.okR {most:Int} {N d:Nat} {cs:List LV} (h:GL most N d cs) (m:most≤96):okR most cs d=true:=by
 obtain⟨ls,rfl,rfl,h3,h4,_,_⟩:=h; exact okR_enc h3 h4 m
theorem GL.okF {most:Int} {N d:Nat} {cs:List LV} (h:GL most N d cs) (m:N < 100000):okF cs=true:=by
 obtain⟨ls,rfl,rfl,h3,h4,h5,_⟩:=h
 rw [Go.Lev.okF,decLs_enc,decide_eq_true_eq]; omega
theorem fndV_R:∀ {p:CL} {a v:Int},vrC p→fndV p a=some v→inR v
 | [],_,_,_,h=>by cases h
 | c::r,a,v,hp,h=>by
   rw [fndV] at h; split at h
   ·cases h; exact hp _ (by simp)
   ·exact fndV_R (fun z hz=>hp z (by simp [hz])) h
theorem getL_R:∀ {ls:List Lv} {a v:Int},vrL ls→getL ls a=some v→inR v
 | [],_,_,_,h=>by cases h
 | x::r,a,v,hp,h=>by
   rw [getL] at h
   cases hf:fndV x.1 a with
   | some w=>rw [hf] at h; cases h; exact fndV_R (hp x (by simp)) hf
   | none=>rw [hf] at h; exact getL_R (fun l hl=>hp l (by simp [hl])) h
theorem GL.okv {most:Int} {N d sz:Nat} {cs:List LV} {ks:CL} (h:GL most N d cs) (hk:vrC ks):okv sz (encL cell ks) cs=true:=by
 obtain⟨ls,rfl,rfl,_,_,_,hv⟩:=h
 rw [Go.Lev.okv]
 refine @decide_eq_true _ (_) fun a=>?_
 simp only [rdVW,decC_enc,decLs_enc]
 unfold rdV
 split
 ·cases hg:getL ls a with
  | some v=>exact getL_R hv hg
  | none =>
    show 0≤fV ks a∧_
    unfold fV
    cases hf:fndV ks a with
    | some v=>exact fndV_R hk hf
    | none=>exact⟨Int.le_refl 0,by simp⟩
 ·omega
theorem GL.vt {most:Int} {N d sz:Nat} {cs cl:List LV} (h:GL most N d cs) (m:most≤96) (c:CL) (ec:cl=encL cell c) (hc:vrC c):GL most N (vtDW sz most cs cl) (vtCW sz most cs cl):=by
 obtain⟨ls,rfl,rfl,h3,h4,h5,h6⟩:=h
 subst ec
 simp only [vtDW,vtCW,decC_enc,decLs_enc]
 refine⟨_,rfl,rfl,?_⟩
 unfold vtC; split
 ·cases ls with
  | nil=>exact absurd rfl h3.ne
  | cons x r =>
    obtain⟨q1,q2⟩:=tkC_ok h3 h4 m c
    refine⟨q1,q2,by simpa [tkC,totF,inm,outs] using h5,fun l hl=>?_⟩
    rcases List.mem_cons.1 hl with rfl | hl
    ·show vrC (wTc _ _ _)
     unfold wTc; split
     ·exact vrC_wTk _ _ (h6 x (by simp)) hc
     ·exact h6 x (by simp)
    ·exact h6 l (by simp [outs] at hl; simp [hl])
 ·exact⟨h3,h4,h5,h6⟩
theorem GL.free {most:Int} {N d:Nat} {cs:List LV} (h:GL most N d cs) (hN:N < 90000) (a:Int):GL most (N+1) (lfD cs a) (lfC cs a):=by
 obtain⟨ls,rfl,rfl,h3,h4,h5,h6⟩:=h
 simp only [lfD,lfC,decLs_enc]
 cases ls with
 | nil=>exact absurd rfl h3.ne
 | cons x r =>
   refine⟨_,rfl,rfl,frC_ok h3 (by omega) a,by simpa [frC,totC,inm,outs] using h4,?_,fun l hl=>?_⟩
   ·simp [frC,totF,inm,outs] at h5 ⊢; omega
   ·rcases List.mem_cons.1 hl with rfl | hl
    ·exact h6 x (by simp)
    ·exact h6 l (by simp [outs] at hl; simp [hl])
theorem totF_opn (ls:List Lv):totF (opL ls)=totF ls:=by unfold opL; split <;> simp [totF]
theorem totF_drn (ls:List Lv):totF (drL ls)≤totF ls:=by
 match ls with
 | []=>exact Nat.le_refl _
 | [x]=>exact Nat.le_refl _
 | x::y::r=>simp only [drL,totF]; omega
theorem totF_kpn (ls:List Lv):totF (kpL ls)≤totF ls:=by
 match ls with
 | []=>exact Nat.le_refl _
 | [x]=>exact Nat.le_refl _
 | x::y::r=>simp only [kpL,totF,List.length_append]; omega
theorem GL.open {most:Int} {N d:Nat} {cs:List LV} (h:GL most N d cs):GL most N (lopenD cs) (lopenC cs):=by
 obtain⟨ls,rfl,rfl,h3,h4,h5,h6⟩:=h
 simp only [lopenD,lopenC,decLs_enc]
 obtain⟨q1,q2⟩:=opL_ok h3
 refine⟨_,rfl,rfl,q1,by rw [q2]; exact h4,by rw [totF_opn]; exact h5,?_⟩
 unfold opL; split
 ·exact h6
 ·intro l hl
  rcases List.mem_cons.1 hl with rfl | hl
  ·intro x hx; cases hx
  ·exact h6 l hl
theorem GL.drop {most:Int} {N d:Nat} {cs:List LV} (h:GL most N d cs):GL most N (ldropD cs) (ldropC cs):=by
 obtain⟨ls,rfl,rfl,h3,h4,h5,h6⟩:=h
 simp only [ldropD,ldropC,decLs_enc]
 obtain⟨q1,q2⟩:=drL_ok h3
 refine⟨_,rfl,rfl,q1,by omega,Nat.le_trans (totF_drn ls) h5,?_⟩
 match ls,h6 with
 | [],h6=>exact h6
 | [x],h6=>exact h6
 | x::y::r,h6=>exact fun l hl=>h6 l (by simp only [drL] at hl; simp only [List.mem_cons] at hl ⊢; exact .inr hl)
theorem GL.keep {most:Int} {N d:Nat} {cs:List LV} (h:GL most N d cs):GL most N (lkeepD cs) (lkeepC cs):=by
 obtain⟨ls,rfl,rfl,h3,h4,h5,h6⟩:=h
 simp only [lkeepD,lkeepC,decLs_enc]
 obtain⟨q1,q2⟩:=kpL_ok h3
 refine⟨_,rfl,rfl,q1,by omega,Nat.le_trans (totF_kpn ls) h5,?_⟩
 match ls,h6 with
 | [],h6=>exact h6
 | [x],h6=>exact h6
 | x::y::r,h6 =>
   intro l hl
   simp only [kpL] at hl
   rcases List.mem_cons.1 hl with rfl | hl
   ·exact vrC_pls _ (h6 y (by simp)) (h6 x (by simp))
   ·exact h6 l (by simp [hl])
theorem vr1 {a x:Int} (h:inR x):vrC [(a,x)]:=fun y hy=>by simp at hy; subst hy; exact h
theorem vr2 {a x b z:Int} (h:inR x) (k:inR z):vrC [(a,x),(b,z)]:=fun y hy=>by
 simp only [List.mem_cons,List.not_mem_nil,or_false] at hy
 rcases hy with rfl | rfl
 ·exact h
 ·exact k
theorem GL.fb {most:Int} {N d sz:Nat} {cs kc:List LV} (h:GL most N d cs) (m:most≤96) (hN:N < 90000) (a:Int):GL most (N+1) (fbN sz most kc cs a d) (fbC sz most kc cs a)∧fbF sz most kc cs a=true:=by
 have hv:GL most N (vtDW sz most cs (fbL sz kc cs a)) (vtCW sz most cs (fbL sz kc cs a)):=h.vt m [(xar .sub .i64 a 1,xar .sub .u64 (hrV sz kc cs a) 8)] rfl (vr1 (inR_w _))
 have hm:fbM sz most kc cs a=1∨fbM sz most kc cs a=2∨fbM sz most kc cs a=3∨fbM sz most kc cs a=4:=by
  unfold fbM; split
  ·split
   ·split <;> simp
   ·simp
  ·simp
 rw [fbN,fbC,fbF]
 rcases hm with e | e | e | e <;> rw [e] <;> try dsimp only
 ·exact⟨h.mono (Nat.le_succ _),rfl⟩
 ·exact⟨h.mono (Nat.le_succ _),rfl⟩
 ·exact⟨hv.mono (Nat.le_succ _),rfl⟩
 ·exact⟨hv.free hN a,by rw [if_pos rfl,hv.okF (by omega),hv.okR m]; rfl⟩
theorem GL.gv {most:Int} {N d sz:Nat} {cs kc:List LV} (h:GL most N d cs) (m:most≤96) (hk:Go.Lev.okv sz kc cs=true) (a:Int):GL most N (gvN sz most kc cs a d) (gvC sz most kc cs a):=by
 have hv:GL most N (vtDW sz most cs (gvL sz kc cs a)) (vtCW sz most cs (gvL sz kc cs a)):=h.vt m [(a,rdVW sz kc cs (heW (xwr .i64 (hrV sz kc cs a)))),(heW (xwr .i64 (hrV sz kc cs a)),xwr .u64 a)] rfl (vr2 (okv_get hk _) (inR_w _))
 rw [gvN,gvC]
 by_cases e:gvM sz kc cs a=4
 ·rw [e]; exact hv
 ·have hm:gvM sz kc cs a=1∨gvM sz kc cs a=2∨gvM sz kc cs a=3:=by
   unfold gvM at e ⊢; split
   ·split
    ·split
     ·rename_i q1 q2 q3; rw [if_pos q1,if_pos q2,if_pos q3] at e; exact absurd rfl e
     ·simp
    ·simp
   ·simp
  rcases hm with e | e | e <;> rw [e] <;> exact h
theorem GL.al {most:Int} {N d sz:Nat} {cs kc:List LV} (h:GL most N d cs) (m:most≤96) (hk:Go.Lev.okv sz kc cs=true) (s:Int):GL most N (alN sz most kc cs s d) (alC sz most kc cs s):=by
 have hp:GL most N (popN sz most kc cs (clsW s) (rdVW sz kc cs (heW (clsW s))) d) (popC sz most kc cs (clsW s) (rdVW sz kc cs (heW (clsW s)))):=by
  rw [popN,popC]
  split
  ·exact h.vt m [(heW (clsW s),rdVW sz kc cs (xwr .i64 (rdVW sz kc cs (heW (clsW s))))),(xar .sub .i64 (xwr .i64 (rdVW sz kc cs (heW (clsW s)))) 1,liveW (clsW s))] rfl (vr2 (okv_get hk _) (inR_w _))
  ·exact h
 have hb:GL most N (bmpN sz most kc cs (clsW s) d) (bmpC sz most kc cs (clsW s)):=by
  rw [bmpN,bmpC]
  split
  ·exact h.vt m [(5,xar .add .u64 (xar .add .u64 (rdVW sz kc cs 5) 1) (xwr .u64 (szW (clsW s)))),(xwr .i64 (rdVW sz kc cs 5),liveW (clsW s))] rfl (vr2 (inR_w _) (inR_w _))
  ·exact h
 rw [alN,alC]
 have hm:alM sz kc cs s=0∨alM sz kc cs s=1∨alM sz kc cs s=2∨alM sz kc cs s=3:=by
  unfold alM; split
  ·simp
  ·split
   ·split <;> simp
   ·simp
 rcases hm with e | e | e | e <;> rw [e] <;> try dsimp only
 ·exact h
 ·exact h
 ·exact hp
 ·exact hb
theorem GL.da {most:Int} {N d sz:Nat} {cs kc tc:List LV} {M:Nat} (h:GL most N d cs) (m:most≤96) (hN:N < 90000) (hk:Go.Lev.okv sz kc cs=true) (k a:Int) (q:Bool):GL most (N+1) (daN sz most kc cs tc M k a q d) (daC sz most kc cs tc M k a q)∧daF sz most kc cs tc M k a q=true:=by
 rw [daN,daC,daF]
 have hf:=h.fb (kc:=kc) (sz:=sz) m hN (daB tc M a q)
 have hm:daK k=0∨daK k=1∨daK k=2∨daK k=3∨daK k=4∨daK k=5:=by unfold daK; split <;> (try split) <;> (try split) <;> (try split) <;> (try split) <;> simp
 rcases hm with e | e | e | e | e | e <;> rw [e] <;> try dsimp only
 ·exact⟨hf.1,by rw [if_pos rfl]; exact hf.2⟩
 ·exact⟨(h.gv m hk _).mono (Nat.le_succ _),rfl⟩
 ·exact⟨h.open.mono (Nat.le_succ _),rfl⟩
 ·exact⟨h.keep.mono (Nat.le_succ _),rfl⟩
 ·exact⟨h.drop.mono (Nat.le_succ _),rfl⟩
 ·exact⟨(h.al m hk _).mono (Nat.le_succ _),rfl⟩
theorem daR_no {sz:Nat} {most:Int} {kc cs tc:List LV} {k a:Int} (h:noIds tc=true):noIds (daR sz most kc cs tc k a)=true:=by
 unfold daR; split
 ·exact noIds_Ii64 _
 ·exact h
theorem da_cc (sz n m:Nat) (kc sc:List LV) (nd most:Int) (d:Nat) (cs tc:List LV) (k a:Int) (q:Bool) (k1:okK sz n kc=true) (k2:sc=spW sz kc) (k3:okR most cs d=true) (k4:okv sz kc cs=true) (k5:daF sz most kc cs tc m k a q=true) (k6:okIi64 tc m=true) (k7:xle m 1000=true) :
  SFun prog 21 [.ptr 0 0,.ptr 6 0,.agg [.int .i64 k,.int .i64 a,.bool q],.slo 11 0 m 0] (mkS (daI sz n kc sc nd most d cs tc)) fun l t=>l=.tup [.slo 16 0 (daM sz most kc cs m k a) 0,.bool true]∧t=mkS (daO sz n kc sc (daD sz kc cs tc m k a q nd) most (daN sz most kc cs tc m k a q d) (daC sz most kc cs tc m k a q) (daR sz most kc cs tc k a)):=by
 obtain⟨ts,rfl,rfl,_⟩:=okIi64_iff.1 k6
 rw [wd_le,decide_eq_true_eq] at k7
 exact da_ok sz n kc sc nd most d cs ts k a q k1 (by rw [k2]; exact eqL_self _) k3 k4 k5 k7
end
end Go.Lev
