/- chapter 9: levels: what Put and Take do, in lists -/
import Derived.Test.YtopbikapcboigaaCW4
import Derived.Test.YtopbikapcboigaaLc
import Derived.Test.YtopbikapcboigaaChecked
import Derived.KernelRfl
namespace Go.Lev
set_option linter.unusedSimpArgs false
set_option linter.unusedVariables false
open Go.RowKit
open Go.Proofs.Try (prog)
noncomputable section
theorem pl_len_in {x:CL} {c:Int×Int} (h:keyIn c.1 x):(pl x c).length=x.length:=by
 induction x with
 | nil=>exact(key_nil h).elim
 | cons b r ih =>
   rw [pl]; split
   ·rfl
   ·rename_i h1
    simp only [List.length_cons]
    rw [ih ((key_cons.1 h).resolve_left h1)]
theorem pl_len_out {x:CL} {c:Int×Int} (h:¬ keyIn c.1 x):(pl x c).length=x.length+1:=by
 induction x with
 | nil=>rfl
 | cons b r ih =>
   rw [pl,if_neg fun e=>h (key_cons.2 (.inl e))]
   simp only [List.length_cons]
   rw [ih fun e=>h (key_cons.2 (.inr e))]
theorem some_key {x:CL} {a:Int}:(fndV x a).isSome=true↔keyIn a x:=by
 have:=fndV_key (xs:=x) (s:=a)
 cases h:fndV x a with
 | none=>rw [h] at this; simp at this; simp [this]
 | some v=>rw [h] at this; simp at this; simp [this]
theorem inK_key {x:CL} {a:Int} (h:inK x) (k:keyIn a x):1≤a∧a < 256:=by
 obtain⟨c,h1,rfl⟩:=k; exact h c h1
theorem wPe_in {m:Int} {x:CL} {a:Int} (h:inK x) (k:keyIn a x):wPe m x a=0:=by
 have:=inK_key h k
 rw [wPe,if_neg (by omega),if_pos (some_key.2 k)]
theorem wPe_0 {m:Int} {x:CL} {a:Int} (h:wPe m x a=0):(1≤a∧a < 256)∧(keyIn a x∨(x.length:Int) < m):=by
 unfold wPe at h
 split at h
 ·omega
 ·refine⟨by omega,?_⟩
  split at h
  ·exact .inl (some_key.1 ‹_›)
  ·split at h
   ·omega
   ·exact .inr (by omega)
def tkM (R:Int) (xs:CL):CL→CL→Int×CL
 | ys,[]=>(0,ys)
 | ys,c::l=>if(fndV xs c.1).isSome then tkM R xs ys l else if wPe R ys c.1=0 then tkM R xs (pl ys c) l else(wPe R ys c.1,ys)
theorem inK_pl {m:Int} {x:CL} {c:Int×Int} (h:inK x) (k:wPe m x c.1=0):inK (pl x c):=fun b hb=>by
 have:keyIn b.1 (pl x c):=⟨b,hb,rfl⟩
 rcases key_pl.1 this with q | q
 ·exact inK_key h q
 ·rw [← q]; exact(wPe_0 k).1
theorem tkM_eq {m:Int} {xs:CL} (hx:inK xs):∀ (l ys zs:CL),inK zs→zs.length=xs.length+ys.length→(∀ a,keyIn a zs↔keyIn a xs∨keyIn a ys)→(tkM (m - xs.length) xs ys l).1=(wTk m zs l).1
 | [],ys,zs,_,_,_=>rfl
 | c::l,ys,zs,hz,hn,hk=>by
   rw [tkM,wTk]
   by_cases h1:keyIn c.1 xs
   ·have hz1:keyIn c.1 zs:=(hk c.1).2 (.inl h1)
    rw [if_pos (some_key.2 h1),if_pos (wPe_in hz hz1)]
    exact tkM_eq hx l ys (pl zs c) (inK_pl (m:=m) hz (wPe_in hz hz1)) (by rw [pl_len_in hz1,hn]) fun a=>by
     rw [key_pl,hk]
     constructor
     ·rintro(q | q)
      ·exact q
      ·rw [← q]; exact .inl h1
     ·exact .inl
   ·rw [if_neg (fun q=>h1 (some_key.1 q))]
    have he:wPe (m - xs.length) ys c.1=wPe m zs c.1:=by
     unfold wPe
     by_cases h2:c.1 < 1∨256≤c.1
     ·rw [if_pos h2,if_pos h2]
     ·rw [if_neg h2,if_neg h2]
      by_cases h3:keyIn c.1 ys
      ·rw [if_pos (some_key.2 h3),if_pos (some_key.2 ((hk _).2 (.inr h3)))]
      ·rw [if_neg (fun q=>h3 (some_key.1 q)),if_neg (fun q=>((hk _).1 (some_key.1 q)).elim h1 h3),hn]
       by_cases h4:m - xs.length≤(ys.length:Int)
       ·rw [if_pos h4,if_pos (by omega)]
       ·rw [if_neg h4,if_neg (by omega)]
    rw [he]
    by_cases h5:wPe m zs c.1=0
    ·rw [if_pos h5,if_pos h5]
     refine tkM_eq hx l (pl ys c) (pl zs c) (inK_pl hz h5) ?_ fun a=>?_
     ·by_cases h3:keyIn c.1 ys
      ·rw [pl_len_in h3,pl_len_in ((hk _).2 (.inr h3)),hn]
      ·rw [pl_len_out h3,pl_len_out (fun q=>((hk _).1 q).elim h1 h3),hn,Nat.add_assoc]
     ·rw [key_pl,key_pl,hk,or_assoc]
    ·rw [if_neg h5,if_neg h5]
theorem wTk_96 {m:Int} (hm:m≤96):∀ (l xs:CL),(wTk m xs l).1=0→wTk 96 xs l=wTk m xs l
 | [],xs,_=>rfl
 | c::l,xs,h=>by
   rw [wTk] at h
   by_cases h1:wPe m xs c.1=0
   ·rw [if_pos h1] at h
    have h2:wPe 96 xs c.1=0:=by
     obtain⟨q1,q2⟩:=wPe_0 h1
     rw [wPe,if_neg (by omega)]
     rcases q2 with q2 | q2
     ·rw [if_pos (some_key.2 q2)]
     ·rw [if_neg (show ¬ (96:Int)≤xs.length by omega)]; split <;> rfl
    rw [wTk,wTk,if_pos h1,if_pos h2]
    exact wTk_96 hm l _ h
   ·rw [if_neg h1] at h; exact absurd h h1
theorem wTk_wf {m:Int}:∀ (l xs:CL),uniq xs→inK xs→(xs.length:Int)≤m→uniq (wTk m xs l).2∧inK (wTk m xs l).2∧((wTk m xs l).2.length:Int)≤m
 | [],xs,h1,h2,h3=>⟨h1,h2,h3⟩
 | c::l,xs,h1,h2,h3=>by
   rw [wTk]; split
   ·rename_i h
    refine wTk_wf l _ (uniq_pl h1) (inK_pl h2 h) ?_
    obtain⟨_,q | q⟩:=wPe_0 h
    ·rw [pl_len_in q]; exact h3
    ·have:=pl_len xs c; omega
   ·exact⟨h1,h2,h3⟩
theorem wTc_wf {m:Int} {l xs:CL} (h1:uniq xs) (h2:inK xs) (h3:(xs.length:Int)≤m):uniq (wTc m xs l)∧inK (wTc m xs l)∧((wTc m xs l).length:Int)≤m:=by
 unfold wTc; split
 ·exact wTk_wf l xs h1 h2 h3
 ·exact⟨h1,h2,h3⟩
def tkE (most:Int) (ls:List Lv) (c:CL):Int:=(wTk (most - totC (outs ls)) (inm ls).1 c).1
def tkC (most:Int) (ls:List Lv) (c:CL):List Lv:=(wTc (most - totC (outs ls)) (inm ls).1 c,(inm ls).2)::outs ls
theorem OkLs.inmost {x:Lv} {r:List Lv} (h:OkLs (x::r)) {y:Lv} (h1:uniq y.1) (h2:inK y.1) (h3:y.1.length+totC r≤96) (h4:y.2.length+totF r≤100000):OkLs (y::r) :=
 ⟨by simp,by simpa using h.six,fun z hz=>by rcases List.mem_cons.1 hz with rfl | hz; exact⟨h1,h2⟩; exact h.uq z (by simp [hz]),by simpa [totC] using h3,by simpa [totF] using h4⟩
theorem tkC_ok {most:Int} {x:Lv} {r:List Lv} (h:OkLs (x::r)) (hm:(totC (x::r):Int)≤most) (hm2:most≤96) (c:CL):OkLs (tkC most (x::r) c)∧(totC (tkC most (x::r) c):Int)≤most:=by
 obtain⟨u,k⟩:=h.uq x (by simp)
 simp only [totC] at hm
 have hf:=h.f
 simp only [totF] at hf
 obtain⟨q1,q2,q3⟩:=wTc_wf (m:=most - totC r) (l:=c) u k (by omega)
 refine⟨h.inmost q1 q2 (by simp only [inm,outs]; omega) hf,?_⟩
 simp only [tkC,totC,inm,outs]; omega
end
end Go.Lev
