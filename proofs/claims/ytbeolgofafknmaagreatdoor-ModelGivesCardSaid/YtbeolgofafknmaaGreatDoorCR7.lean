/- chapter 11: what stays when blocks are given back -/
import Derived.Test.YtbeolgofafknmaaGreatDoorCR6
import Derived.Test.YtbeolgofafknmaaGreatDoorLc
import Derived.Test.YtbeolgofafknmaaGreatDoorChecked
import Derived.KernelRfl
namespace Go.Lev
set_option linter.unusedSimpArgs false
set_option linter.unusedVariables false
open Go.RowKit
open Go.Proofs.Tryz (prog)
set_option maxRecDepth 100000
noncomputable section
def inR (x:Int):Prop:=0≤x∧x≤18446744073709551615
theorem inR_w (x:Int):inR (lwrap .u64 x):=by
 unfold inR
 rw [lwrap_eq,show IntKind.u64.wrap x=x % 18446744073709551616 by simp [IntKind.wrap,IntKind.bits,IntKind.signed]]
 omega
def vrC (c:CL):Prop:=∀ x∈c,inR x.2
def vrL (ls:List Lv):Prop:=∀ l∈ls,vrC l.1
theorem vrC_pl:∀ {p:CL} {x:Int×Int},vrC p→inR x.2→vrC (pl p x)
 | [],x,_,h=>fun y hy=>by simp [pl] at hy; subst hy; exact h
 | c::r,x,hp,h=>by
   rw [pl]; split
   ·intro y hy
    rcases List.mem_cons.1 hy with rfl | hy
    ·exact h
    ·exact hp y (by simp [hy])
   ·intro y hy
    rcases List.mem_cons.1 hy with rfl | hy
    ·exact hp _ (by simp)
    ·exact vrC_pl (fun z hz=>hp z (by simp [hz])) h y hy
theorem vrC_wTk (m:Int):∀ (c:CL) {p:CL},vrC p→vrC c→vrC (wTk m p c).2
 | [],p,h,_=>h
 | x::c,p,h,hc=>by
   rw [wTk]; split
   ·exact vrC_wTk m c (vrC_pl h (hc x (by simp))) fun y hy=>hc y (by simp [hy])
   ·exact h
def GL (most:Int) (N d:Nat) (cs:List LV):Prop:=∃ ls:List Lv,cs=encLs ls∧d=ls.length∧OkLs ls∧(totC ls:Int)≤most∧totF ls≤N∧vrL ls
theorem GL.mono {most:Int} {N M d:Nat} {cs:List LV} (h:GL most N d cs) (k:N≤M):GL most M d cs:=by
 obtain⟨ls,h1,h2,h3,h4,h5,h6⟩:=h; exact⟨ls,h1,h2,h3,h4,Nat.le_trans h5 k,h6⟩
theorem GL.okR {most:Int} {N d:Nat} {cs:List LV} (h:GL most N d cs) (m:most≤96):okR most cs d=true:=by
 obtain⟨ls,rfl,rfl,h3,h4,_,_⟩:=h; exact okR_enc h3 h4 m
theorem fndV_R:∀ {p:CL} {a v:Int},vrC p→fndV p a=some v→inR v
 | [],_,_,_,h=>by cases h
 | c::r,a,v,hp,h=>by
   rw [fndV] at h; split at h
   ·cases h; exact hp _ (by simp)
   ·exact fndV_R (fun z hz=>hp z (by simp [hz])) h
theorem getL_R:∀ {ls:List Lv} {a v:Int},vrL ls→getL ls a=some v→inR v
 | [],_,_,_,h=>by cases h
 | x::r,a,v,hp,h=>by
   rw [getL] at h
   cases hf:fndV x.1 a with
   | some w=>rw [hf] at h; cases h; exact fndV_R (hp x (by simp)) hf
   | none=>rw [hf] at h; exact getL_R (fun l hl=>hp l (by simp [hl])) h
theorem GL.okv {most:Int} {N d sz:Nat} {cs:List LV} {ks:CL} (h:GL most N d cs) (hk:vrC ks):okv sz (encL cell ks) cs=true:=by
 obtain⟨ls,rfl,rfl,_,_,_,hv⟩:=h
 rw [Go.Lev.okv]
 refine @decide_eq_true _ (_) fun a=>?_
 simp only [rdVW,decC_enc,decLs_enc]
 unfold rdV
 split
 ·cases hg:getL ls a with
  | some v=>exact getL_R hv hg
  | none =>
    show 0≤fV ks a∧_
    unfold fV
    cases hf:fndV ks a with
    | some v=>exact fndV_R hk hf
    | none=>exact⟨Int.le_refl 0,by simp⟩
 ·omega
theorem GL.vt {most:Int} {N d sz:Nat} {cs cl:List LV} (h:GL most N d cs) (m:most≤96) (c:CL) (ec:cl=encL cell c) (hc:vrC c):GL most N (vtDW sz most cs cl) (vtCW sz most cs cl):=by
 obtain⟨ls,rfl,rfl,h3,h4,h5,h6⟩:=h
 subst ec
 simp only [vtDW,vtCW,decC_enc,decLs_enc]
 refine⟨_,rfl,rfl,?_⟩
 unfold vtC; split
 ·cases ls with
  | nil=>exact absurd rfl h3.ne
  | cons x r =>
    obtain⟨q1,q2⟩:=tkC_ok h3 h4 m c
    refine⟨q1,q2,by simpa [tkC,totF,inm,outs] using h5,fun l hl=>?_⟩
    rcases List.mem_cons.1 hl with rfl | hl
    ·show vrC (wTc _ _ _)
     unfold wTc; split
     ·exact vrC_wTk _ _ (h6 x (by simp)) hc
     ·exact h6 x (by simp)
    ·exact h6 l (by simp [outs] at hl; simp [hl])
 ·exact⟨h3,h4,h5,h6⟩
theorem vr2 {a x b z:Int} (h:inR x) (k:inR z):vrC [(a,x),(b,z)]:=fun y hy=>by
 simp only [List.mem_cons,List.not_mem_nil,or_false] at hy
 rcases hy with rfl | rfl
 ·exact h
 ·exact k
theorem GL.gv {most:Int} {N d sz:Nat} {cs kc:List LV} (h:GL most N d cs) (m:most≤96) (hk:Go.Lev.okv sz kc cs=true) (a:Int):GL most N (gvN sz most kc cs a d) (gvC sz most kc cs a):=by
 have hv:GL most N (vtDW sz most cs (gvL sz kc cs a)) (vtCW sz most cs (gvL sz kc cs a)):=h.vt m [(a,rdVW sz kc cs (heW (xwr .i64 (hrV sz kc cs a)))),(heW (xwr .i64 (hrV sz kc cs a)),xwr .u64 a)] rfl (vr2 (okv_get hk _) (inR_w _))
 rw [gvN,gvC]
 by_cases e:gvM sz kc cs a=4
 ·rw [e]; exact hv
 ·have hm:gvM sz kc cs a=1∨gvM sz kc cs a=2∨gvM sz kc cs a=3:=by
   unfold gvM at e ⊢; split
   ·split
    ·split
     ·rename_i q1 q2 q3; rw [if_pos q1,if_pos q2,if_pos q3] at e; exact absurd rfl e
     ·simp
    ·simp
   ·simp
  rcases hm with e | e | e <;> rw [e] <;> exact h
end
end Go.Lev
