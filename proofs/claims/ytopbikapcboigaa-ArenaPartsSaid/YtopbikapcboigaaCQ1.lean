/- chapter 11: parted heaps, in lists -/
import Derived.Test.YtopbikapcboigaaCZ14
import Derived.Test.YtopbikapcboigaaLc
import Derived.Test.YtopbikapcboigaaChecked
import Derived.KernelRfl
namespace Go.Lev
set_option linter.unusedSimpArgs false
set_option linter.unusedVariables false
open Go.RowKit
open Go.Proofs.Try (prog)
set_option maxRecDepth 100000
noncomputable section
def PtC (e:Nat):Nat→List (Nat×Nat)→Prop
 | p,[]=>p=e
 | p,b::r=>b.1=p∧1≤b.2∧b.2≤4∧PtC e (p+1+2 ^ b.2) r
theorem pw_b {c:Nat} (h1:1≤c) (h2:c≤4):2≤2 ^ c∧2 ^ c≤16:=by
 have:c=1∨c=2∨c=3∨c=4:=by omega
 rcases this with rfl | rfl | rfl | rfl <;> omega
theorem PtC.le {e:Nat}:∀ {cs:List (Nat×Nat)} {p:Nat},PtC e p cs→p≤e
 | [],p,h=>by simp only [PtC] at h; omega
 | b::r,p,h=>by have:=PtC.le h.2.2.2; have:=pw_b h.2.1 h.2.2.1; omega
theorem PtC.mem {e:Nat}:∀ {cs:List (Nat×Nat)} {p:Nat},PtC e p cs→∀ b∈cs,p≤b.1∧1≤b.2∧b.2≤4∧b.1+1+2 ^ b.2≤e
 | [],p,_,b,hb=>by cases hb
 | a::r,p,h,b,hb=>by
   rcases List.mem_cons.1 hb with rfl | hb
   ·have:=h.2.2.2.le; rw [h.1]; exact⟨Nat.le_refl _,h.2.1,h.2.2.1,this⟩
   ·have:=PtC.mem h.2.2.2 b hb; have:=pw_b h.2.1 h.2.2.1; omega
theorem PtC.sep {e:Nat}:∀ {cs:List (Nat×Nat)} {p:Nat},PtC e p cs→∀ a∈cs,∀ b∈cs,a=b∨a.1+1+2 ^ a.2≤b.1∨b.1+1+2 ^ b.2≤a.1
 | [],p,_,b,hb,_,_=>by cases hb
 | x::r,p,h,a,ha,b,hb=>by
   rcases List.mem_cons.1 ha with rfl | ha' <;> rcases List.mem_cons.1 hb with rfl | hb'
   ·exact .inl rfl
   ·have:=PtC.mem h.2.2.2 b hb'; rw [h.1]; exact .inr (.inl this.1)
   ·have:=PtC.mem h.2.2.2 a ha'; rw [h.1]; exact .inr (.inr this.1)
   ·exact PtC.sep h.2.2.2 a ha' b hb'
theorem PtC.push {e c:Nat} (h1:1≤c) (h2:c≤4):∀ {cs:List (Nat×Nat)} {p:Nat},PtC e p cs→PtC (e+1+2 ^ c) p (cs++[(e,c)])
 | [],p,h=>by simp only [PtC] at h; subst h; exact⟨rfl,h1,h2,rfl⟩
 | b::r,p,h=>⟨h.1,h.2.1,h.2.2.1,PtC.push h1 h2 h.2.2.2⟩
def Chn (ws:List Int):Int→List Nat→Prop
 | a,[]=>a=0
 | a,x::r=>a=x∧Chn ws (ws.getD x 0) r
theorem Chn.congr {ws vs:List Int}:∀ {l:List Nat} {a:Int},Chn ws a l→(∀ x∈l,vs.getD x 0=ws.getD x 0)→Chn vs a l
 | [],a,h,_=>h
 | x::r,a,h,k=>⟨h.1,by rw [k x (by simp)]; exact Chn.congr h.2 fun y hy=>k y (by simp [hy])⟩
structure PI (ws st:List Int) (e:Nat) (cs:List (Nat×Nat)) (R:Nat→List Nat):Prop where
 n1:32≤ws.length
 n2:ws.length≤256
 sl:st.length=257
 e5:ws.getD 5 0=(e:Int)
 el:e≤ws.length
 pt:PtC e 14 cs
 hd:∀ q c,(q,c)∈cs→(ws.getD q 0=(c:Int)+8∧st.getD (q+1) 0=1∧q+1 ∉ R c)∨(ws.getD q 0=(c:Int)∧st.getD (q+1) 0=2∧q+1 ∉ R c)∨(ws.getD q 0=(c:Int)∧st.getD (q+1) 0=3∧q+1∈R c)
 st0:∀ x,st.getD x 0≠0→∃ q c,(q,c)∈cs∧x=q+1
 ch:∀ c,1≤c→c≤4→Chn ws (ws.getD c 0) (R c)
 rc:∀ c x,1≤c→c≤4→x∈R c→∃ q,(q,c)∈cs∧x=q+1
 nd:∀ c,1≤c→c≤4→(R c).Nodup
 oth:∀ i,14≤i→i < ws.length→(∀ c,(i,c) ∉ cs)→ws.getD i 0=0∨15≤ws.getD i 0
theorem set_gt {l:List Int} {i j:Nat} {y:Int} (h:i < l.length):(l.set i y).getD j 0=if i=j then y else l.getD j 0:=by
 by_cases e:i=j
 ·subst e; simp [List.getD_eq_getElem?_getD,h]
 ·simp [List.getD_eq_getElem?_getD,List.getElem?_set_ne e,e]
section
variable {ws vs st:List Int} {e:Nat} {cs:List (Nat×Nat)} {R:Nat→List Nat}
theorem PI.uq (I:PI ws st e cs R) {q c q' c':Nat} (h:(q,c)∈cs) (k:(q',c')∈cs):(q=q'∧c=c')∨q+1+2 ^ c≤q'∨q'+1+2 ^ c'≤q:=by
 rcases I.pt.sep _ h _ k with e | e
 ·cases e; exact .inl ⟨rfl,rfl⟩
 ·exact .inr e
theorem PI.bd (I:PI ws st e cs R) {q c:Nat} (h:(q,c)∈cs):14≤q∧1≤c∧c≤4∧q+1+2 ^ c≤e∧2≤2 ^ c∧2 ^ c≤16:=by
 obtain⟨h1,h2,h3,h4⟩:=I.pt.mem _ h
 have:=pw_b h2 h3
 exact⟨h1,h2,h3,h4,this⟩
theorem PI.same (I:PI ws st e cs R) (hl:vs.length=ws.length) (g:∀ i,1≤i→i < ws.length→vs.getD i 0=ws.getD i 0):PI vs st e cs R:=by
 have n1:=I.n1; have el:=I.el
 refine⟨by omega,by have:=I.n2; omega,I.sl,by rw [g 5 (by omega) (by omega)]; exact I.e5,by omega,I.pt,fun q c h=>?_,I.st0,fun c h1 h2=>?_,I.rc,I.nd,fun i h1 h2 h3=>by rw [g i (by omega) (by omega)]; exact I.oth i h1 (by omega) h3⟩
 ·have:=I.bd h
  rw [g q (by omega) (by omega)]; exact I.hd q c h
 ·rw [g c (by omega) (by omega)]
  refine(I.ch c h1 h2).congr fun x hx=>?_
  obtain⟨q,hq,rfl⟩:=I.rc c x h1 h2 hx
  have:=I.bd hq
  exact g _ (by omega) (by omega)
theorem PI.bump (I:PI ws st e cs R) {c:Nat} (h1:1≤c) (h2:c≤4) (hr:e+1+2 ^ c≤ws.length) (hl:vs.length=ws.length) (g:∀ i,1≤i→i < ws.length→vs.getD i 0=if i=5 then((e+1+2 ^ c:Nat):Int) else if i=e then(c:Int)+8 else ws.getD i 0):PI vs (st.set (e+1) 1) (e+1+2 ^ c) (cs++[(e,c)]) R:=by
 have n1:=I.n1; have n2:=I.n2; have el:=I.el; have sl:=I.sl
 have hp:=pw_b h1 h2
 have he:14≤e:=I.pt.le
 have nR:∀ k,1≤k→k≤4→e+1 ∉ R k:=fun k k1 k2 hx=>by
  obtain⟨q,hq,e'⟩:=I.rc k _ k1 k2 hx
  have:=I.bd hq; omega
 refine⟨by omega,by omega,by simpa using sl,by rw [g 5 (by omega) (by omega),if_pos rfl],by omega,I.pt.push h1 h2,fun q k h=>?_,fun x hx=>?_,fun k k1 k2=>?_,fun k x k1 k2 hx=>?_,I.nd,fun i i1 i2 i3=>?_⟩
 ·rcases List.mem_append.1 h with h | h
  ·have:=I.bd h
   rw [g q (by omega) (by omega),if_neg (by omega),if_neg (by omega),set_gt (by omega),if_neg (by omega)]; exact I.hd q k h
  ·simp only [List.mem_singleton,Prod.mk.injEq] at h
   obtain⟨rfl,rfl⟩:=h
   rw [g q (by omega) (by omega),if_neg (by omega),if_pos rfl,set_gt (by omega),if_pos rfl]
   exact .inl ⟨rfl,rfl,nR k h1 h2⟩
 ·rw [set_gt (by omega)] at hx
  by_cases c':e+1=x
  ·exact⟨e,c,by simp,c'.symm⟩
  ·rw [if_neg c'] at hx
   obtain⟨q,k,h,rfl⟩:=I.st0 x hx
   exact⟨q,k,by simp [h],rfl⟩
 ·rw [g k (by omega) (by omega),if_neg (by omega),if_neg (by omega)]
  refine(I.ch k k1 k2).congr fun x hx=>?_
  obtain⟨q,hq,rfl⟩:=I.rc k x k1 k2 hx
  have:=I.bd hq
  rw [g _ (by omega) (by omega),if_neg (by omega),if_neg (by omega)]
 ·obtain⟨q,hq,rfl⟩:=I.rc k x k1 k2 hx
  exact⟨q,by simp [hq],rfl⟩
 ·have ne:i≠e:=fun e'=>i3 c (by simp [e'])
  rw [g i (by omega) (by omega),if_neg (by omega),if_neg ne]
  exact I.oth i i1 (by omega) fun k hk=>i3 k (by simp [hk])
theorem PI.pop (I:PI ws st e cs R) {q c:Nat} {r:List Nat} (hq:(q,c)∈cs) (hR:R c=(q+1)::r) (hl:vs.length=ws.length) (g:∀ i,1≤i→i < ws.length→vs.getD i 0=if i=c then ws.getD (q+1) 0 else if i=q then(c:Int)+8 else ws.getD i 0):PI vs (st.set (q+1) 1) e cs (fun k=>if k=c then r else R k):=by
 have n1:=I.n1; have n2:=I.n2; have el:=I.el; have sl:=I.sl
 obtain⟨b1,b2,b3,b4,b5,b6⟩:=I.bd hq
 have hnd:=I.nd c b2 b3
 rw [hR,List.nodup_cons] at hnd
 have hch:=I.ch c b2 b3
 rw [hR] at hch
 have sub:∀ k x,x∈(if k=c then r else R k)→x∈R k:=fun k x hx=>by
  split at hx
  ·rename_i e'; subst e'; rw [hR]; simp [hx]
  ·exact hx
 refine⟨by omega,by omega,by simpa using sl,by rw [g 5 (by omega) (by omega),if_neg (by omega),if_neg (by omega)]; exact I.e5,by omega,I.pt,fun q' k h=>?_,fun x hx=>?_,fun k k1 k2=>?_,fun k x k1 k2 hx=>I.rc k x k1 k2 (sub k x hx),fun k k1 k2=>?_,fun i i1 i2 i3=>?_⟩
 ·obtain⟨d1,d2,d3,d4,d5,d6⟩:=I.bd h
  rcases I.uq hq h with⟨rfl,rfl⟩ | hs
  ·rw [g q (by omega) (by omega),if_neg (by omega),if_pos rfl,set_gt (by omega),if_pos rfl,if_pos rfl]
   exact .inl ⟨rfl,rfl,hnd.1⟩
  ·rw [g q' (by omega) (by omega),if_neg (by omega),if_neg (by omega),set_gt (by omega),if_neg (by omega)]
   have key:q'+1∈(if k=c then r else R k)↔q'+1∈R k:=by
    refine⟨sub k _,fun hx=>?_⟩
    split
    ·rename_i e'; subst e'; rw [hR] at hx
     rcases List.mem_cons.1 hx with hx | hx
     ·omega
     ·exact hx
    ·exact hx
   rw [key]; exact I.hd q' k h
 ·rw [set_gt (by omega)] at hx
  by_cases c':q+1=x
  ·exact⟨q,c,hq,c'.symm⟩
  ·rw [if_neg c'] at hx; exact I.st0 x hx
 ·have tail:∀ l:List Nat,(∀ x∈l,x∈R k)→∀ a,Chn ws a l→Chn vs a l:=fun l hlR a h=>h.congr fun x hx=>by
   obtain⟨q',hq',rfl⟩:=I.rc k x k1 k2 (hlR x hx)
   have:=I.bd hq'
   have:=I.uq hq hq'
   rw [g _ (by omega) (by omega),if_neg (by omega),if_neg (by omega)]
  by_cases e':k=c
  ·subst e'
   rw [g k (by omega) (by omega),if_pos rfl,if_pos rfl]
   exact tail r (fun x hx=>by rw [hR]; simp [hx]) _ hch.2
  ·rw [g k (by omega) (by omega),if_neg e',if_neg (by omega),if_neg e']
   exact tail _ (fun x hx=>hx) _ (I.ch k k1 k2)
 ·split
  ·exact hnd.2
  ·exact I.nd k k1 k2
 ·have ne:i≠q:=fun e'=>i3 c (by rw [e']; exact hq)
  rw [g i (by omega) (by omega),if_neg (by omega),if_neg ne]; exact I.oth i i1 (by omega) i3
theorem PI.free (I:PI ws st e cs R) {q c:Nat} (hq:(q,c)∈cs) (hw:ws.getD q 0=(c:Int)+8) (hl:vs.length=ws.length) (g:∀ i,1≤i→i < ws.length→vs.getD i 0=if i=q then(c:Int) else ws.getD i 0):PI vs (st.set (q+1) 2) e cs R:=by
 have n1:=I.n1; have n2:=I.n2; have el:=I.el; have sl:=I.sl
 obtain⟨b1,b2,b3,b4,b5,b6⟩:=I.bd hq
 refine⟨by omega,by omega,by simpa using sl,by rw [g 5 (by omega) (by omega),if_neg (by omega)]; exact I.e5,by omega,I.pt,fun q' k h=>?_,fun x hx=>?_,fun k k1 k2=>?_,I.rc,I.nd,fun i i1 i2 i3=>?_⟩
 ·obtain⟨d1,d2,d3,d4,d5,d6⟩:=I.bd h
  rcases I.uq hq h with⟨rfl,rfl⟩ | hs
  ·rw [g q (by omega) (by omega),if_pos rfl,set_gt (by omega),if_pos rfl]
   refine .inr (.inl ⟨rfl,rfl,?_⟩)
   rcases I.hd q c hq with h | h | h
   ·exact h.2.2
   ·exact h.2.2
   ·omega
  ·rw [g q' (by omega) (by omega),if_neg (by omega),set_gt (by omega),if_neg (by omega)]; exact I.hd q' k h
 ·rw [set_gt (by omega)] at hx
  by_cases c':q+1=x
  ·exact⟨q,c,hq,c'.symm⟩
  ·rw [if_neg c'] at hx; exact I.st0 x hx
 ·rw [g k (by omega) (by omega),if_neg (by omega)]
  refine(I.ch k k1 k2).congr fun x hx=>?_
  obtain⟨q',hq',rfl⟩:=I.rc k x k1 k2 hx
  have:=I.bd hq'
  have:=I.uq hq hq'
  rw [g _ (by omega) (by omega),if_neg (by omega)]
 ·have ne:i≠q:=fun e'=>i3 c (by rw [e']; exact hq)
  rw [g i (by omega) (by omega),if_neg ne]; exact I.oth i i1 (by omega) i3
theorem PI.give (I:PI ws st e cs R) {q c:Nat} (hq:(q,c)∈cs) (hs:st.getD (q+1) 0=2) (hl:vs.length=ws.length) (g:∀ i,1≤i→i < ws.length→vs.getD i 0=if i=c then((q+1:Nat):Int) else if i=q+1 then ws.getD c 0 else ws.getD i 0):PI vs (st.set (q+1) 3) e cs (fun k=>if k=c then(q+1)::R k else R k):=by
 have n1:=I.n1; have n2:=I.n2; have el:=I.el; have sl:=I.sl
 obtain⟨b1,b2,b3,b4,b5,b6⟩:=I.bd hq
 have hh:ws.getD q 0=(c:Int)∧q+1 ∉ R c:=by
  rcases I.hd q c hq with h | h | h
  ·omega
  ·exact⟨h.1,h.2.2⟩
  ·omega
 refine⟨by omega,by omega,by simpa using sl,by rw [g 5 (by omega) (by omega),if_neg (by omega),if_neg (by omega)]; exact I.e5,by omega,I.pt,fun q' k h=>?_,fun x hx=>?_,fun k k1 k2=>?_,fun k x k1 k2 hx=>?_,fun k k1 k2=>?_,fun i i1 i2 i3=>?_⟩
 ·obtain⟨d1,d2,d3,d4,d5,d6⟩:=I.bd h
  rcases I.uq hq h with⟨rfl,rfl⟩ | hs'
  ·rw [g q (by omega) (by omega),if_neg (by omega),if_neg (by omega),set_gt (by omega),if_pos rfl,if_pos rfl]
   exact .inr (.inr ⟨hh.1,rfl,by simp⟩)
  ·rw [g q' (by omega) (by omega),if_neg (by omega),if_neg (by omega),set_gt (by omega),if_neg (by omega)]
   have key:q'+1∈(if k=c then(q+1)::R k else R k)↔q'+1∈R k:=by
    split
    ·simp only [List.mem_cons]; exact⟨fun h=>by rcases h with h | h; omega; exact h,fun h=>.inr h⟩
    ·exact Iff.rfl
   rw [key]; exact I.hd q' k h
 ·rw [set_gt (by omega)] at hx
  by_cases c':q+1=x
  ·exact⟨q,c,hq,c'.symm⟩
  ·rw [if_neg c'] at hx; exact I.st0 x hx
 ·have tail:∀ a,q+1 ∉ R k→Chn ws a (R k)→Chn vs a (R k):=fun a hn h=>h.congr fun x hx=>by
   obtain⟨q',hq',rfl⟩:=I.rc k x k1 k2 hx
   have:=I.bd hq'
   rw [g (q'+1) (by omega) (by omega),if_neg (by omega),if_neg (fun e'=>hn (by rw [← e']; exact hx))]
  by_cases e':k=c
  ·subst e'
   rw [g k (by omega) (by omega),if_pos rfl,if_pos rfl]
   refine⟨rfl,?_⟩
   rw [g (q+1) (by omega) (by omega),if_neg (by omega),if_pos rfl]
   exact tail _ hh.2 (I.ch k k1 k2)
  ·rw [g k (by omega) (by omega),if_neg e',if_neg (by omega),if_neg e']
   refine tail _ (fun hx=>?_) (I.ch k k1 k2)
   obtain⟨q',hq',e''⟩:=I.rc k _ k1 k2 hx
   have:=I.uq hq hq'
   have:=I.bd hq'
   omega
 ·split at hx
  ·rename_i e'; subst e'
   rcases List.mem_cons.1 hx with rfl | hx
   ·exact⟨q,hq,rfl⟩
   ·exact I.rc k x k1 k2 hx
  ·exact I.rc k x k1 k2 hx
 ·split
  ·rename_i e'; subst e'; exact List.nodup_cons.2 ⟨hh.2,I.nd k k1 k2⟩
  ·exact I.nd k k1 k2
 ·have:i=q+1∨i≠q+1:=by omega
  rcases this with rfl | ne
  ·rw [g (q+1) (by omega) (by omega),if_neg (by omega),if_pos rfl]
   have:=I.ch c b2 b3
   cases hRc:R c with
   | nil=>rw [hRc] at this; exact .inl this
   | cons x r =>
     rw [hRc] at this
     obtain⟨q',hq',rfl⟩:=I.rc c x b2 b3 (by rw [hRc]; simp)
     have hb:=I.bd hq'
     have:=this.1; omega
  ·rw [g i (by omega) (by omega),if_neg (by omega),if_neg ne]; exact I.oth i i1 (by omega) i3
theorem PI.live (I:PI ws st e cs R) {b:Nat} (h:st.getD b 0=1):∃ q c,(q,c)∈cs∧b=q+1∧ws.getD q 0=(c:Int)+8:=by
 obtain⟨q,c,hq,rfl⟩:=I.st0 b (by omega)
 refine⟨q,c,hq,rfl,?_⟩
 rcases I.hd q c hq with h' | h' | h' <;> omega
theorem PI.dead (I:PI ws st e cs R) {b:Nat} (h:st.getD b 0≠1) (h1:15≤b) (h2:b < ws.length):¬ (9≤ws.getD (b - 1) 0∧ws.getD (b - 1) 0≤12):=by
 by_cases k:∃ c,(b - 1,c)∈cs
 ·obtain⟨c,hc⟩:=k
  have:=I.bd hc
  rcases I.hd _ c hc with h' | h' | h'
  ·rw [show b - 1+1=b by omega] at h'; omega
  ·omega
  ·omega
 ·have:=I.oth (b - 1) (by omega) (by omega) fun c hc=>k ⟨c,hc⟩
  omega
theorem PI.rest (I:PI ws st e cs R) {b:Nat} (h:st.getD b 0=2):∃ q c,(q,c)∈cs∧b=q+1∧ws.getD q 0=(c:Int):=by
 obtain⟨q,c,hq,rfl⟩:=I.st0 b (by omega)
 refine⟨q,c,hq,rfl,?_⟩
 rcases I.hd q c hq with h' | h' | h' <;> omega
theorem PI.norest (I:PI ws st e cs R) {b:Nat} (h:st.getD b 0≠2) (h3:st.getD b 0≠3) (h1:15≤b) (h2:b < ws.length):¬ (1≤ws.getD (b - 1) 0∧ws.getD (b - 1) 0≤4):=by
 by_cases k:∃ c,(b - 1,c)∈cs
 ·obtain⟨c,hc⟩:=k
  have:=I.bd hc
  rcases I.hd _ c hc with h' | h' | h'
  ·omega
  ·rw [show b - 1+1=b by omega] at h'; omega
  ·rw [show b - 1+1=b by omega] at h'; omega
 ·have:=I.oth (b - 1) (by omega) (by omega) fun c hc=>k ⟨c,hc⟩
  omega
theorem PI.first (I:PI ws st e cs R) {c:Nat} (h1:1≤c) (h2:c≤4) (h:ws.getD c 0≠0):∃ q r,(q,c)∈cs∧R c=(q+1)::r∧ws.getD c 0=((q+1:Nat):Int)∧st.getD (q+1) 0=3:=by
 have:=I.ch c h1 h2
 cases hRc:R c with
 | nil=>rw [hRc] at this; exact absurd this h
 | cons x r =>
   rw [hRc] at this
   obtain⟨q,hq,rfl⟩:=I.rc c x h1 h2 (by rw [hRc]; simp)
   refine⟨q,r,hq,rfl,this.1,?_⟩
   rcases I.hd q c hq with h' | h' | h'
   ·exact absurd (by rw [hRc]; simp) h'.2.2
   ·exact absurd (by rw [hRc]; simp) h'.2.2
   ·exact h'.2.1
theorem PI.unused (I:PI ws st e cs R):st.getD (e+1) 0=0:=by
 by_cases h:st.getD (e+1) 0=0
 ·exact h
 ·obtain⟨q,c,hq,e'⟩:=I.st0 _ h
  have:=I.bd hq; omega
end
end
end Go.Lev
