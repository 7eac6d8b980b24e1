/- chapter 30: the heap of a draw is parted, and its places at rest part it -/
import Derived.Test.YtkbaelndiimmpaaGreatDoorCJ4
import Derived.Test.YtkbaelndiimmpaaGreatDoorLc
import Derived.Test.YtkbaelndiimmpaaGreatDoorChecked
import Derived.KernelRfl
namespace Go.Lev
set_option linter.unusedSimpArgs false
set_option linter.unusedVariables false
open Go.RowKit
open Go.Proofs.Tryz (prog)
set_option maxRecDepth 100000
noncomputable section
def PtC (e:Nat):Nat→List (Nat×Nat)→Prop
 | p,[]=>p=e
 | p,b::r=>b.1=p∧1≤b.2∧b.2≤4∧PtC e (p+1+2 ^ b.2) r
theorem pw_b {c:Nat} (h1:1≤c) (h2:c≤4):2≤2 ^ c∧2 ^ c≤16:=by
 have:c=1∨c=2∨c=3∨c=4:=by omega
 rcases this with rfl | rfl | rfl | rfl <;> omega
theorem PtC.le {e:Nat}:∀ {cs:List (Nat×Nat)} {p:Nat},PtC e p cs→p≤e
 | [],p,h=>by simp only [PtC] at h; omega
 | b::r,p,h=>by have:=PtC.le h.2.2.2; have:=pw_b h.2.1 h.2.2.1; omega
theorem PtC.mem {e:Nat}:∀ {cs:List (Nat×Nat)} {p:Nat},PtC e p cs→∀ b∈cs,p≤b.1∧1≤b.2∧b.2≤4∧b.1+1+2 ^ b.2≤e
 | [],p,_,b,hb=>by cases hb
 | a::r,p,h,b,hb=>by
   rcases List.mem_cons.1 hb with rfl | hb
   ·have:=h.2.2.2.le; rw [h.1]; exact⟨Nat.le_refl _,h.2.1,h.2.2.1,this⟩
   ·have:=PtC.mem h.2.2.2 b hb; have:=pw_b h.2.1 h.2.2.1; omega
theorem PtC.sep {e:Nat}:∀ {cs:List (Nat×Nat)} {p:Nat},PtC e p cs→∀ a∈cs,∀ b∈cs,a=b∨a.1+1+2 ^ a.2≤b.1∨b.1+1+2 ^ b.2≤a.1
 | [],p,_,b,hb,_,_=>by cases hb
 | x::r,p,h,a,ha,b,hb=>by
   rcases List.mem_cons.1 ha with rfl | ha' <;> rcases List.mem_cons.1 hb with rfl | hb'
   ·exact .inl rfl
   ·have:=PtC.mem h.2.2.2 b hb'; rw [h.1]; exact .inr (.inl this.1)
   ·have:=PtC.mem h.2.2.2 a ha'; rw [h.1]; exact .inr (.inr this.1)
   ·exact PtC.sep h.2.2.2 a ha' b hb'
theorem PtC.push {e c:Nat} (h1:1≤c) (h2:c≤4):∀ {cs:List (Nat×Nat)} {p:Nat},PtC e p cs→PtC (e+1+2 ^ c) p (cs++[(e,c)])
 | [],p,h=>by simp only [PtC] at h; subst h; exact⟨rfl,h1,h2,rfl⟩
 | b::r,p,h=>⟨h.1,h.2.1,h.2.2.1,PtC.push h1 h2 h.2.2.2⟩
def Chn (ws:List Int):Int→List Nat→Prop
 | a,[]=>a=0
 | a,x::r=>a=x∧Chn ws (ws.getD x 0) r
theorem Chn.congr {ws vs:List Int}:∀ {l:List Nat} {a:Int},Chn ws a l→(∀ x∈l,vs.getD x 0=ws.getD x 0)→Chn vs a l
 | [],a,h,_=>h
 | x::r,a,h,k=>⟨h.1,by rw [k x (by simp)]; exact Chn.congr h.2 fun y hy=>k y (by simp [hy])⟩
structure PI (ws st:List Int) (e:Nat) (cs:List (Nat×Nat)) (R:Nat→List Nat):Prop where
 n1:32≤ws.length
 n2:ws.length≤256
 sl:st.length=257
 e5:ws.getD 5 0=(e:Int)
 el:e≤ws.length
 pt:PtC e 14 cs
 hd:∀ q c,(q,c)∈cs→(ws.getD q 0=(c:Int)+8∧st.getD (q+1) 0=1∧q+1 ∉ R c)∨(ws.getD q 0=(c:Int)∧st.getD (q+1) 0=2∧q+1 ∉ R c)∨(ws.getD q 0=(c:Int)∧st.getD (q+1) 0=3∧q+1∈R c)
 st0:∀ x,st.getD x 0≠0→∃ q c,(q,c)∈cs∧x=q+1
 ch:∀ c,1≤c→c≤4→Chn ws (ws.getD c 0) (R c)
 rc:∀ c x,1≤c→c≤4→x∈R c→∃ q,(q,c)∈cs∧x=q+1
 nd:∀ c,1≤c→c≤4→(R c).Nodup
 oth:∀ i,14≤i→i < ws.length→(∀ c,(i,c) ∉ cs)→ws.getD i 0=0∨15≤ws.getD i 0
theorem set_gt {l:List Int} {i j:Nat} {y:Int} (h:i < l.length):(l.set i y).getD j 0=if i=j then y else l.getD j 0:=by
 by_cases e:i=j
 ·subst e; simp [List.getD_eq_getElem?_getD,h]
 ·simp [List.getD_eq_getElem?_getD,List.getElem?_set_ne e,e]
section
variable {ws vs st:List Int} {e:Nat} {cs:List (Nat×Nat)} {R:Nat→List Nat}
theorem PI.uq (I:PI ws st e cs R) {q c q' c':Nat} (h:(q,c)∈cs) (k:(q',c')∈cs):(q=q'∧c=c')∨q+1+2 ^ c≤q'∨q'+1+2 ^ c'≤q:=by
 rcases I.pt.sep _ h _ k with e | e
 ·cases e; exact .inl ⟨rfl,rfl⟩
 ·exact .inr e
theorem PI.bd (I:PI ws st e cs R) {q c:Nat} (h:(q,c)∈cs):14≤q∧1≤c∧c≤4∧q+1+2 ^ c≤e∧2≤2 ^ c∧2 ^ c≤16:=by
 obtain⟨h1,h2,h3,h4⟩:=I.pt.mem _ h
 have:=pw_b h2 h3
 exact⟨h1,h2,h3,h4,this⟩
theorem PI.same (I:PI ws st e cs R) (hl:vs.length=ws.length) (g:∀ i,1≤i→i < ws.length→vs.getD i 0=ws.getD i 0):PI vs st e cs R:=by
 have n1:=I.n1; have el:=I.el
 refine⟨by omega,by have:=I.n2; omega,I.sl,by rw [g 5 (by omega) (by omega)]; exact I.e5,by omega,I.pt,fun q c h=>?_,I.st0,fun c h1 h2=>?_,I.rc,I.nd,fun i h1 h2 h3=>by rw [g i (by omega) (by omega)]; exact I.oth i h1 (by omega) h3⟩
 ·have:=I.bd h
  rw [g q (by omega) (by omega)]; exact I.hd q c h
 ·rw [g c (by omega) (by omega)]
  refine(I.ch c h1 h2).congr fun x hx=>?_
  obtain⟨q,hq,rfl⟩:=I.rc c x h1 h2 hx
  have:=I.bd hq
  exact g _ (by omega) (by omega)
theorem PI.bump (I:PI ws st e cs R) {c:Nat} (h1:1≤c) (h2:c≤4) (hr:e+1+2 ^ c≤ws.length) (hl:vs.length=ws.length) (g:∀ i,1≤i→i < ws.length→vs.getD i 0=if i=5 then((e+1+2 ^ c:Nat):Int) else if i=e then(c:Int)+8 else ws.getD i 0):PI vs (st.set (e+1) 1) (e+1+2 ^ c) (cs++[(e,c)]) R:=by
 have n1:=I.n1; have n2:=I.n2; have el:=I.el; have sl:=I.sl
 have hp:=pw_b h1 h2
 have he:14≤e:=I.pt.le
 have nR:∀ k,1≤k→k≤4→e+1 ∉ R k:=fun k k1 k2 hx=>by
  obtain⟨q,hq,e'⟩:=I.rc k _ k1 k2 hx
  have:=I.bd hq; omega
 refine⟨by omega,by omega,by simpa using sl,by rw [g 5 (by omega) (by omega),if_pos rfl],by omega,I.pt.push h1 h2,fun q k h=>?_,fun x hx=>?_,fun k k1 k2=>?_,fun k x k1 k2 hx=>?_,I.nd,fun i i1 i2 i3=>?_⟩
 ·rcases List.mem_append.1 h with h | h
  ·have:=I.bd h
   rw [g q (by omega) (by omega),if_neg (by omega),if_neg (by omega),set_gt (by omega),if_neg (by omega)]; exact I.hd q k h
  ·simp only [List.mem_singleton,Prod.mk.injEq] at h
   obtain⟨rfl,rfl⟩:=h
   rw [g q (by omega) (by omega),if_neg (by omega),if_pos rfl,set_gt (by omega),if_pos rfl]
   exact .inl ⟨rfl,rfl,nR k h1 h2⟩
 ·rw [set_gt (by omega)] at hx
  by_cases c':e+1=x
  ·exact⟨e,c,by simp,c'.symm⟩
  ·rw [if_neg c'] at hx
   obtain⟨q,k,h,rfl⟩:=I.st0 x hx
   exact⟨q,k,by simp [h],rfl⟩
 ·rw [g k (by omega) (by omega),if_neg (by omega),if_neg (by omega)]
  refine(I.ch k k1 k2).congr fun x hx=>?_
  obtain⟨q,hq,rfl⟩:=I.rc k x k1 k2 hx
  have:=I.bd hq
  rw [g _ (by omega) (by omega),if_neg (by omega),if_neg (by omega)]
 ·obtain⟨q,hq,rfl⟩:=I.rc k x k1 k2 hx
  exact⟨q,by simp [hq],rfl⟩
 ·have ne:i≠e:=fun e'=>i3 c (by simp [e'])
  rw [g i (by omega) (by omega),if_neg (by omega),if_neg ne]
  exact I.oth i i1 (by omega) fun k hk=>i3 k (by simp [hk])
theorem PI.free (I:PI ws st e cs R) {q c:Nat} (hq:(q,c)∈cs) (hw:ws.getD q 0=(c:Int)+8) (hl:vs.length=ws.length) (g:∀ i,1≤i→i < ws.length→vs.getD i 0=if i=q then(c:Int) else ws.getD i 0):PI vs (st.set (q+1) 2) e cs R:=by
 have n1:=I.n1; have n2:=I.n2; have el:=I.el; have sl:=I.sl
 obtain⟨b1,b2,b3,b4,b5,b6⟩:=I.bd hq
 refine⟨by omega,by omega,by simpa using sl,by rw [g 5 (by omega) (by omega),if_neg (by omega)]; exact I.e5,by omega,I.pt,fun q' k h=>?_,fun x hx=>?_,fun k k1 k2=>?_,I.rc,I.nd,fun i i1 i2 i3=>?_⟩
 ·obtain⟨d1,d2,d3,d4,d5,d6⟩:=I.bd h
  rcases I.uq hq h with⟨rfl,rfl⟩ | hs
  ·rw [g q (by omega) (by omega),if_pos rfl,set_gt (by omega),if_pos rfl]
   refine .inr (.inl ⟨rfl,rfl,?_⟩)
   rcases I.hd q c hq with h | h | h
   ·exact h.2.2
   ·exact h.2.2
   ·omega
  ·rw [g q' (by omega) (by omega),if_neg (by omega),set_gt (by omega),if_neg (by omega)]; exact I.hd q' k h
 ·rw [set_gt (by omega)] at hx
  by_cases c':q+1=x
  ·exact⟨q,c,hq,c'.symm⟩
  ·rw [if_neg c'] at hx; exact I.st0 x hx
 ·rw [g k (by omega) (by omega),if_neg (by omega)]
  refine(I.ch k k1 k2).congr fun x hx=>?_
  obtain⟨q',hq',rfl⟩:=I.rc k x k1 k2 hx
  have:=I.bd hq'
  have:=I.uq hq hq'
  rw [g _ (by omega) (by omega),if_neg (by omega)]
 ·have ne:i≠q:=fun e'=>i3 c (by rw [e']; exact hq)
  rw [g i (by omega) (by omega),if_neg ne]; exact I.oth i i1 (by omega) i3
theorem PI.give (I:PI ws st e cs R) {q c:Nat} (hq:(q,c)∈cs) (hs:st.getD (q+1) 0=2) (hl:vs.length=ws.length) (g:∀ i,1≤i→i < ws.length→vs.getD i 0=if i=c then((q+1:Nat):Int) else if i=q+1 then ws.getD c 0 else ws.getD i 0):PI vs (st.set (q+1) 3) e cs (fun k=>if k=c then(q+1)::R k else R k):=by
 have n1:=I.n1; have n2:=I.n2; have el:=I.el; have sl:=I.sl
 obtain⟨b1,b2,b3,b4,b5,b6⟩:=I.bd hq
 have hh:ws.getD q 0=(c:Int)∧q+1 ∉ R c:=by
  rcases I.hd q c hq with h | h | h
  ·omega
  ·exact⟨h.1,h.2.2⟩
  ·omega
 refine⟨by omega,by omega,by simpa using sl,by rw [g 5 (by omega) (by omega),if_neg (by omega),if_neg (by omega)]; exact I.e5,by omega,I.pt,fun q' k h=>?_,fun x hx=>?_,fun k k1 k2=>?_,fun k x k1 k2 hx=>?_,fun k k1 k2=>?_,fun i i1 i2 i3=>?_⟩
 ·obtain⟨d1,d2,d3,d4,d5,d6⟩:=I.bd h
  rcases I.uq hq h with⟨rfl,rfl⟩ | hs'
  ·rw [g q (by omega) (by omega),if_neg (by omega),if_neg (by omega),set_gt (by omega),if_pos rfl,if_pos rfl]
   exact .inr (.inr ⟨hh.1,rfl,by simp⟩)
  ·rw [g q' (by omega) (by omega),if_neg (by omega),if_neg (by omega),set_gt (by omega),if_neg (by omega)]
   have key:q'+1∈(if k=c then(q+1)::R k else R k)↔q'+1∈R k:=by
    split
    ·simp only [List.mem_cons]; exact⟨fun h=>by rcases h with h | h; omega; exact h,fun h=>.inr h⟩
    ·exact Iff.rfl
   rw [key]; exact I.hd q' k h
 ·rw [set_gt (by omega)] at hx
  by_cases c':q+1=x
  ·exact⟨q,c,hq,c'.symm⟩
  ·rw [if_neg c'] at hx; exact I.st0 x hx
 ·have tail:∀ a,q+1 ∉ R k→Chn ws a (R k)→Chn vs a (R k):=fun a hn h=>h.congr fun x hx=>by
   obtain⟨q',hq',rfl⟩:=I.rc k x k1 k2 hx
   have:=I.bd hq'
   rw [g (q'+1) (by omega) (by omega),if_neg (by omega),if_neg (fun e'=>hn (by rw [← e']; exact hx))]
  by_cases e':k=c
  ·subst e'
   rw [g k (by omega) (by omega),if_pos rfl,if_pos rfl]
   refine⟨rfl,?_⟩
   rw [g (q+1) (by omega) (by omega),if_neg (by omega),if_pos rfl]
   exact tail _ hh.2 (I.ch k k1 k2)
  ·rw [g k (by omega) (by omega),if_neg e',if_neg (by omega),if_neg e']
   refine tail _ (fun hx=>?_) (I.ch k k1 k2)
   obtain⟨q',hq',e''⟩:=I.rc k _ k1 k2 hx
   have:=I.uq hq hq'
   have:=I.bd hq'
   omega
 ·split at hx
  ·rename_i e'; subst e'
   rcases List.mem_cons.1 hx with rfl | hx
   ·exact⟨q,hq,rfl⟩
   ·exact I.rc k x k1 k2 hx
  ·exact I.rc k x k1 k2 hx
 ·split
  ·rename_i e'; subst e'; exact List.nodup_cons.2 ⟨hh.2,I.nd k k1 k2⟩
  ·exact I.nd k k1 k2
 ·have:i=q+1∨i≠q+1:=by omega
  rcases this with rfl | ne
  ·rw [g (q+1) (by omega) (by omega),if_neg (by omega),if_pos rfl]
   have:=I.ch c b2 b3
   cases hRc:R c with
   | nil=>rw [hRc] at this; exact .inl this
   | cons x r =>
     rw [hRc] at this
     obtain⟨q',hq',rfl⟩:=I.rc c x b2 b3 (by rw [hRc]; simp)
     have hb:=I.bd hq'
     have:=this.1; omega
  ·rw [g i (by omega) (by omega),if_neg (by omega),if_neg ne]; exact I.oth i i1 (by omega) i3
theorem PI.live (I:PI ws st e cs R) {b:Nat} (h:st.getD b 0=1):∃ q c,(q,c)∈cs∧b=q+1∧ws.getD q 0=(c:Int)+8:=by
 obtain⟨q,c,hq,rfl⟩:=I.st0 b (by omega)
 refine⟨q,c,hq,rfl,?_⟩
 rcases I.hd q c hq with h' | h' | h' <;> omega
theorem PI.dead (I:PI ws st e cs R) {b:Nat} (h:st.getD b 0≠1) (h1:15≤b) (h2:b < ws.length):¬ (9≤ws.getD (b - 1) 0∧ws.getD (b - 1) 0≤12):=by
 by_cases k:∃ c,(b - 1,c)∈cs
 ·obtain⟨c,hc⟩:=k
  have:=I.bd hc
  rcases I.hd _ c hc with h' | h' | h'
  ·rw [show b - 1+1=b by omega] at h'; omega
  ·omega
  ·omega
 ·have:=I.oth (b - 1) (by omega) (by omega) fun c hc=>k ⟨c,hc⟩
  omega
theorem PI.rest (I:PI ws st e cs R) {b:Nat} (h:st.getD b 0=2):∃ q c,(q,c)∈cs∧b=q+1∧ws.getD q 0=(c:Int):=by
 obtain⟨q,c,hq,rfl⟩:=I.st0 b (by omega)
 refine⟨q,c,hq,rfl,?_⟩
 rcases I.hd q c hq with h' | h' | h' <;> omega
theorem PI.first (I:PI ws st e cs R) {c:Nat} (h1:1≤c) (h2:c≤4) (h:ws.getD c 0≠0):∃ q r,(q,c)∈cs∧R c=(q+1)::r∧ws.getD c 0=((q+1:Nat):Int)∧st.getD (q+1) 0=3:=by
 have:=I.ch c h1 h2
 cases hRc:R c with
 | nil=>rw [hRc] at this; exact absurd this h
 | cons x r =>
   rw [hRc] at this
   obtain⟨q,hq,rfl⟩:=I.rc c x h1 h2 (by rw [hRc]; simp)
   refine⟨q,r,hq,rfl,this.1,?_⟩
   rcases I.hd q c hq with h' | h' | h'
   ·exact absurd (by rw [hRc]; simp) h'.2.2
   ·exact absurd (by rw [hRc]; simp) h'.2.2
   ·exact h'.2.1
theorem PI.unused (I:PI ws st e cs R):st.getD (e+1) 0=0:=by
 by_cases h:st.getD (e+1) 0=0
 ·exact h
 ·obtain⟨q,c,hq,e'⟩:=I.st0 _ h
  have:=I.bd hq; omega
end
def bkOf (ws:List Int) (b:Nat×Nat):Blk:=(((b.1+1:Nat):Int),(b.2:Int),decide (8 < ws.getD b.1 0))
theorem hd_cl {c:Nat} {h:Int} (h1:1≤c) (h2:c≤4) (h3:h=(c:Int)+8∨h=c):hdOk h∧hdC h=c∧hdN h=2 ^ c:=by
 have e:hdC h=c:=by unfold hdC; split <;> omega
 exact⟨by unfold hdOk; omega,e,by rw [hdN,e]; rfl⟩
theorem PtC.bk {ws:List Int} {e:Nat}:∀ {cs:List (Nat×Nat)} {p:Nat},PtC e p cs→(∀ q c,(q,c)∈cs→ws.getD q 0=(c:Int)+8∨ws.getD q 0=c)→∀ acc,bkW ws e p acc=some (acc++cs.map (bkOf ws))
 | [],p,h,_,acc=>by simp only [PtC] at h; rw [bkW_end (by omega)]; simp
 | (q,c)::r,p,h,k,acc=>by
   obtain⟨rfl,h1,h2,h3⟩:=h
   dsimp only at h1 h2 h3 ⊢
   have hp:=pw_b h1 h2
   have hle:=h3.le
   obtain⟨g1,g2,g3⟩:=hd_cl h1 h2 (k q c (by simp))
   rw [bkW_go (by omega) g1 (by rw [g3]; exact hle),g3,PtC.bk h3 (fun q' c' h'=>k q' c' (by simp [h']))]
   have:hdB q (ws.getD q 0)=bkOf ws (q,c):=by rw [hdB,bkOf,g2]
   rw [this]; simp
theorem PI.bkF {ws st:List Int} {e:Nat} {cs:List (Nat×Nat)} {R:Nat→List Nat} (I:PI ws st e cs R):bkF ws=some (cs.map (bkOf ws)):=by
 have n1:=I.n1; have n2:=I.n2; have el:=I.el; have he:14≤e:=I.pt.le
 rw [Go.Lev.bkF,if_pos (by rw [I.e5]; omega),I.e5,show((e:Nat):Int).toNat=e from rfl]
 exact I.pt.bk (fun q c h=>by rcases I.hd q c h with h' | h' | h' <;> omega) []
theorem lsW_chn {ws:List Int} {bs:List Blk} {c:Int}:∀ (l:List Nat) (a:Int) (row:List Int),Chn ws a l→(∀ x∈l,isBk bs c (x:Int)∧x≠0)→(∀ x∈l,((x:Nat):Int) ∉ row)→l.Nodup→lsW ws bs c a row=some (row++l.map Int.ofNat)
 | [],a,row,h,_,_,_=>by simp only [Chn] at h; subst h; rw [lsW_end]; simp
 | x::r,a,row,h,hb,hn,nd=>by
   obtain⟨rfl,h2⟩:=h
   obtain⟨b1,b2⟩:=hb x (by simp)
   rw [lsW_go (by omega) ⟨b1,hn x (by simp)⟩,show((x:Nat):Int).toNat=x from rfl,lsW_chn r _ _ h2 (fun y hy=>hb y (by simp [hy])) (fun y hy hm=>?_) (List.nodup_cons.1 nd).2]
   ·simp
   ·rcases List.mem_append.1 hm with hm | hm
    ·exact hn y (by simp [hy]) hm
    ·have e:y=x:=by simp at hm; omega
     subst e; exact(List.nodup_cons.1 nd).1 hy
theorem PI.ls {ws st:List Int} {e:Nat} {cs:List (Nat×Nat)} {R:Nat→List Nat} (I:PI ws st e cs R) {c:Nat} (h1:1≤c) (h2:c≤4):ls1 ws (cs.map (bkOf ws)) c=some ((R c).map Int.ofNat):=by
 rw [ls1,lsW_chn (R c) _ [] (I.ch c h1 h2) (fun x hx=>?_) (fun x _ h=>by cases h) (I.nd c h1 h2)]
 ·simp
 ·obtain⟨q,hq,rfl⟩:=I.rc c x h1 h2 hx
  refine⟨⟨bkOf ws (q,c),List.mem_map.2 ⟨_,hq,rfl⟩,rfl,rfl,?_⟩,by omega⟩
  rcases I.hd q c hq with h | h | h
  ·exact absurd hx h.2.2
  ·exact absurd hx h.2.2
  ·show decide (8 < ws.getD q 0)=false
   rw [h.1]; simp; omega
theorem PI.lsAll {ws st:List Int} {e:Nat} {cs:List (Nat×Nat)} {R:Nat→List Nat} (I:PI ws st e cs R):lsAll ws=some ((R 1).map Int.ofNat,(R 2).map Int.ofNat,(R 3).map Int.ofNat,(R 4).map Int.ofNat):=by
 rw [Go.Lev.lsAll,I.bkF]
 simp [I.ls]
def wdQ (x:Int):Int:=if wdA x then 1 else if wdB x then 3 else 2
theorem PI.wst {ws st:List Int} {p:Nat} {cs:List (Nat×Nat)} {R:Nat→List Nat} (I:PI ws st p cs R) (x:Int) (hr:p+1+2 ^ wdc x≤ws.length):∃ st' R',PI (wst ws p x) st' (p+1+2 ^ wdc x) (cs++[(p,wdc x)]) R'∧∀ y,st'.getD y 0=if y=p+1 then wdQ x else st.getD y 0:=by
 obtain⟨c1,c2⟩:=wdc_b x
 have hp:=pw_b c1 (by omega:wdc x≤4)
 have he:14≤p:=I.pt.le
 have n1:=I.n1; have n2:=I.n2; have sl:=I.sl
 have hl:=wst_len ws p x
 have sg:∀ (s:Int) y,(st.set (p+1) s).getD y 0=if y=p+1 then s else st.getD y 0:=fun s y=>by
  rw [set_gt (by omega)]
  by_cases e:y=p+1
  ·rw [if_pos e.symm,if_pos e]
  ·rw [if_neg (by omega),if_neg e]
 have I1:=I.bump (vs:=(ws.set p ((wdc x:Int)+8)).set 5 ((p+1+2 ^ wdc x:Nat):Int)) c1 (by omega) hr (by simp) fun i h1 h2=>by
  rw [set_gt (by simp; omega),set_gt (by omega)]
  by_cases e5:i=5
  ·rw [if_pos e5.symm,if_pos e5]
  ·rw [if_neg (by omega),if_neg e5]
   by_cases ep:i=p
   ·rw [if_pos ep.symm,if_pos ep]
   ·rw [if_neg (by omega),if_neg ep]
 by_cases hA:wdA x=true
 ·refine⟨_,R,I1.same (by rw [hl]; simp) fun i h1 h2=>?_,fun y=>by rw [sg,wdQ,if_pos hA]⟩
  rw [Go.Lev.wst,if_pos hA,set_gt (by simp; omega),set_gt (by simp; omega),set_gt (by omega),set_gt (by simp; omega),set_gt (by omega)]
  by_cases e5:5=i
  ·rw [if_pos e5,if_pos e5]
  ·rw [if_neg e5,if_neg e5]
   by_cases ep:p=i
   ·rw [if_pos ep,if_pos ep]
   ·rw [if_neg ep,if_neg ep,if_neg ep]
 ·have hq:(p,wdc x)∈cs++[(p,wdc x)]:=by simp
  have I2:=I1.free (vs:=(ws.set p (wdc x)).set 5 ((p+1+2 ^ wdc x:Nat):Int)) hq (by rw [set_gt (by simp; omega),if_neg (by omega),set_gt (by omega),if_pos rfl]) (by simp) fun i h1 h2=>by
   rw [set_gt (by simp; omega),set_gt (by omega),set_gt (by simp; omega),set_gt (by omega)]
   by_cases e5:5=i
   ·rw [if_pos e5,if_neg (by omega),if_pos e5]
   ·rw [if_neg e5,if_neg e5]
    by_cases ep:p=i
    ·rw [if_pos ep,if_pos ep.symm]
    ·rw [if_neg ep,if_neg (by omega),if_neg ep]
  have ss:(st.set (p+1) 1).set (p+1) 2=st.set (p+1) 2:=by rw [List.set_set]
  rw [ss] at I2
  by_cases hB:wdB x=true
  ·have I3:=I2.give (vs:=Go.Lev.wst ws p x) hq (by rw [sg,if_pos rfl]) (by rw [hl]; simp) fun i h1 h2=>by
    have h2':i < ws.length:=by simpa using h2
    rw [Go.Lev.wst,if_neg hA,if_pos hB]
    simp (disch:=first | omega | (simp only [List.length_set]; omega)) only [set_gt]
    simp only [show ¬ p=wdc x by omega,show ¬ 5=wdc x by omega,if_false]
    repeat' split
    all_goals first | rfl | omega
   refine⟨_,_,I3,fun y=>?_⟩
   rw [List.set_set,sg,wdQ,if_neg hA,if_pos hB]
  ·refine⟨_,R,I2.same (by rw [hl]; simp) fun i h1 h2=>?_,fun y=>by rw [sg,wdQ,if_neg hA,if_neg hB]⟩
   rw [Go.Lev.wst,if_neg hA,if_neg hB]
def gdR (N:Nat):List Int→Nat→List Nat
 | [],_=>[]
 | x::r,p=>if p+1+2 ^ wdc x≤N then(if wdQ x=2 then [p+1] else [])++gdR N r (p+1+2 ^ wdc x) else []
theorem gdR_gt (N:Nat):∀ (bs:List Int) (p:Nat),∀ y∈gdR N bs p,p < y
 | [],p,y,h=>by simp [gdR] at h
 | x::r,p,y,h=>by
   rw [gdR] at h
   split at h
   ·rcases List.mem_append.1 h with h | h
    ·split at h
     ·simp at h; omega
     ·cases h
    ·have:=gdR_gt N r _ y h; have:=Nat.two_pow_pos (wdc x); omega
   ·cases h
theorem PI.wsR:∀ (bs:List Int) {ws st:List Int} {p:Nat} {cs:List (Nat×Nat)} {R:Nat→List Nat},PI ws st p cs R→∃ st' cs' R',PI (wsR bs ws p).1 st' (wsR bs ws p).2 cs' R'∧∀ y,st'.getD y 0=2↔(y∈gdR ws.length bs p∨(y≤p∧st.getD y 0=2))
 | [],ws,st,p,cs,R,I=>⟨st,cs,R,I,fun y=>by
   simp only [gdR,List.not_mem_nil,false_or]
   refine⟨fun h=>⟨?_,h⟩,fun h=>h.2⟩
   obtain⟨q,c,hq,rfl⟩:=I.st0 y (by omega)
   have:=I.bd hq; omega⟩
 | x::r,ws,st,p,cs,R,I=>by
   have he:14≤p:=I.pt.le
   rw [Go.Lev.wsR,gdR]
   by_cases hr:p+1+2 ^ wdc x≤ws.length
   ·obtain⟨s1,R1,I1,g1⟩:=I.wst x hr
    obtain⟨s2,c2,R2,I2,g2⟩:=PI.wsR r I1
    rw [if_pos hr,if_pos hr]
    refine⟨s2,c2,R2,I2,fun y=>?_⟩
    rw [g2,wst_len,List.mem_append,g1]
    have hz:st.getD (p+1) 0=0:=I.unused
    have hp2:=Nat.two_pow_pos (wdc x)
    have hgt:=gdR_gt ws.length r (p+1+2 ^ wdc x) y
    constructor
    ·rintro(h | ⟨h1,h2⟩)
     ·exact .inl (.inr h)
     ·by_cases e:y=p+1
      ·subst e; rw [if_pos rfl] at h2; exact .inl (.inl (by rw [if_pos h2]; simp))
      ·rw [if_neg e] at h2
       obtain⟨q,c,hq,rfl⟩:=I.st0 y (by omega)
       have:=I.bd hq; exact .inr ⟨by omega,h2⟩
    ·rintro((h | h) | ⟨h1,h2⟩)
     ·split at h
      ·rename_i hw; simp at h; subst h; exact .inr ⟨by omega,by rw [if_pos rfl]; exact hw⟩
      ·cases h
     ·exact .inl h
     ·exact .inr ⟨by omega,by rw [if_neg (by omega)]; exact h2⟩
   ·rw [if_neg hr,if_neg hr]
    refine⟨st,cs,R,I,fun y=>?_⟩
    simp only [List.not_mem_nil,false_or]
    refine⟨fun h=>⟨?_,h⟩,fun h=>h.2⟩
    obtain⟨q,c,hq,rfl⟩:=I.st0 y (by omega)
    have:=I.bd hq; omega
theorem bsK_bk {ws:List Int} {cs:List (Nat×Nat)} {p:Nat} {v:Bool}:(p,v)∈bsK (cs.map (bkOf ws))↔∃ q c,(q,c)∈cs∧p=q+1∧v=decide (8 < ws.getD q 0):=by
 unfold bsK
 rw [List.map_map,List.mem_map]
 constructor
 ·rintro⟨⟨q,c⟩,h,e⟩
  simp only [Function.comp,bkOf,Prod.mk.injEq] at e
  exact⟨q,c,h,by omega,e.2.symm⟩
 ·rintro⟨q,c,h,rfl,rfl⟩
  exact⟨(q,c),h,by simp only [Function.comp,bkOf,Prod.mk.injEq]; exact⟨by omega,trivial⟩⟩
theorem toNat_of (l:List Nat):(l.map Int.ofNat).map Int.toNat=l:=by
 rw [List.map_map]
 induction l with
 | nil=>rfl
 | cons x r ih=>rw [List.map_cons,ih]; rfl
theorem PI.good {ws st:List Int} {e:Nat} {cs:List (Nat×Nat)} {R:Nat→List Nat} (I:PI ws st e cs R) (w:WfB (cs.map (bkOf ws)) ws.length) {gd:List Nat} (hd:gd.Nodup) (hg:∀ y,y∈gd↔st.getD y 0=2)
  (h1:ls1 ws (cs.map (bkOf ws)) 1=some ((R 1).map Int.ofNat)) (h2:ls1 ws (cs.map (bkOf ws)) 2=some ((R 2).map Int.ofNat)) (h3:ls1 ws (cs.map (bkOf ws)) 3=some ((R 3).map Int.ofNat)) (h4:ls1 ws (cs.map (bkOf ws)) 4=some ((R 4).map Int.ofNat)) :
  JP.partsR (bsK (cs.map (bkOf ws))) (((R 1).map Int.ofNat++(R 2).map Int.ofNat++(R 3).map Int.ofNat++(R 4).map Int.ofNat).map Int.toNat) (gd.map Int.ofNat)=true:=by
 obtain⟨nd,hm⟩:=lists_ok w h1 h2 h3 h4
 have nd':=map_nd (fun x hx=>by obtain⟨b,hb,e,_⟩:=hm x hx; have:=w.at' b hb; omega) nd
 rw [List.map_append,List.map_append,List.map_append,toNat_of,toNat_of,toNat_of,toNat_of] at nd' ⊢
 have hF:∀ p,p∈R 1++R 2++R 3++R 4↔∃ c,1≤c∧c≤4∧p∈R c:=fun p=>by
  simp only [List.mem_append]
  constructor
  ·rintro(((h | h) | h) | h)
   ·exact⟨1,by omega,by omega,h⟩
   ·exact⟨2,by omega,by omega,h⟩
   ·exact⟨3,by omega,by omega,h⟩
   ·exact⟨4,by omega,by omega,h⟩
  ·rintro⟨c,g1,g2,h⟩
   have:c=1∨c=2∨c=3∨c=4:=by omega
   rcases this with rfl | rfl | rfl | rfl
   ·exact .inl (.inl (.inl h))
   ·exact .inl (.inl (.inr h))
   ·exact .inl (.inr h)
   ·exact .inr h
 have cl:∀ {q c},(q,c)∈cs→1≤c∧c≤4:=fun h=>by
  have:=w.cl _ (List.mem_map.2 ⟨_,h,rfl⟩)
  simp only [bkOf] at this; omega
 have inF:∀ {q c},(q,c)∈cs→(q+1∈R 1++R 2++R 3++R 4↔q+1∈R c):=fun {q c} h=>by
  rw [hF]
  refine⟨fun⟨c',g1,g2,k⟩=>?_,fun k=>⟨c,(cl h).1,(cl h).2,k⟩⟩
  obtain⟨q',hq',e'⟩:=I.rc c' _ g1 g2 k
  have p1:=Nat.two_pow_pos c; have p2:=Nat.two_pow_pos c'
  rcases I.uq h hq' with⟨_,rfl⟩ | g | g
  ·exact k
  ·omega
  ·omega
 refine JP.partsR_true (bsK_nd w) nd' (fun p hp=>?_) ?_ (fun r hr=>?_) fun p hp hn=>?_
 ·obtain⟨c,g1,g2,k⟩:=(hF p).1 hp
  obtain⟨q,hq,rfl⟩:=I.rc c _ g1 g2 k
  rw [bsK_bk]
  refine⟨q,c,hq,rfl,?_⟩
  rcases I.hd q c hq with⟨a1,a2,a3⟩ | ⟨a1,a2,a3⟩ | ⟨a1,a2,a3⟩
  ·exact absurd k a3
  ·exact absurd k a3
  ·symm; rw [decide_eq_false_iff_not]; omega
 ·clear hg
  induction gd with
  | nil=>exact List.nodup_nil
  | cons x r ih =>
    rw [List.nodup_cons] at hd
    rw [List.map_cons,List.nodup_cons]
    refine⟨fun k=>hd.1 ?_,ih hd.2⟩
    obtain⟨y,hy,e'⟩:=List.mem_map.1 k
    have:y=x:=Int.ofNat.inj e'
    exact this▸hy
 ·obtain⟨y,hy,rfl⟩:=List.mem_map.1 hr
  have h2':=(hg y).1 hy
  obtain⟨q,c,hq,rfl⟩:=I.st0 y (by omega)
  refine⟨q+1,rfl,?_,?_⟩
  ·rw [bsK_bk]
   refine⟨q,c,hq,rfl,?_⟩
   have:=cl hq
   rcases I.hd q c hq with⟨a1,a2,a3⟩ | ⟨a1,a2,a3⟩ | ⟨a1,a2,a3⟩
   ·omega
   ·symm; rw [decide_eq_false_iff_not]; omega
   ·omega
  ·rw [inF hq]
   rcases I.hd q c hq with⟨a1,a2,a3⟩ | ⟨a1,a2,a3⟩ | ⟨a1,a2,a3⟩
   ·exact a3
   ·exact a3
   ·omega
 ·rw [bsK_bk] at hp
  obtain⟨q,c,hq,rfl,e'⟩:=hp
  rw [inF hq] at hn
  have:=cl hq
  refine List.mem_map.2 ⟨q+1,(hg _).2 ?_,rfl⟩
  rcases I.hd q c hq with⟨a1,a2,a3⟩ | ⟨a1,a2,a3⟩ | ⟨a1,a2,a3⟩
  ·have e2:decide (8 < ws.getD q 0)=true:=by rw [decide_eq_true_eq]; omega
   rw [e2] at e'; cases e'
  ·exact a2
  ·exact absurd a3 hn
theorem pi_wd0 {k:Nat} (h1:32≤k) (h2:k≤256):PI (wd0 k) (List.replicate 257 0) 14 [] (fun _=>[]):=by
 have l:(wd0 k).length=k:=wd0_len k
 have gt:∀ i,(wd0 k).getD i 0=if 5=i then 14 else 0:=fun i=>by
  unfold wd0
  rw [set_gt (by simp; omega)]
  split
  ·rfl
  ·simp only [List.getD_eq_getElem?_getD,List.getElem?_replicate]; split <;> rfl
 refine⟨by omega,by omega,by simp,by rw [gt]; rfl,by omega,rfl,fun q c h=>(by cases h),fun x hx=>?_,fun c h1 h2=>?_,fun c x _ _ h=>(by cases h),fun c _ _=>List.nodup_nil,fun i i1 i2 _=>?_⟩
 ·exact absurd (by simp only [List.getD_eq_getElem?_getD,List.getElem?_replicate]; split <;> rfl) hx
 ·show(wd0 k).getD c 0=0
  rw [gt,if_neg (by omega)]
 ·rw [gt,if_neg (by omega)]; exact .inl rfl
def gdC:List Int→Nat→Nat→Nat→List (Int×Int)
 | [],_,_,_=>[]
 | x::r,p,i,e=>if p < e then(if wdQ x=2 then [(((p+1:Nat):Int),(i:Int))] else [])++gdC r (p+1+2 ^ wdc x) (i+1) e else []
theorem wsR_ge:∀ (bs ws:List Int) (p:Nat),p≤(wsR bs ws p).2
 | [],ws,p=>Nat.le_refl _
 | x::r,ws,p=>by
   rw [wsR]
   split
   ·have:=wsR_ge r (wst ws p x) (p+1+2 ^ wdc x); have:=Nat.two_pow_pos (wdc x); omega
   ·exact Nat.le_refl _
theorem gdC_eq:∀ (bs ws:List Int) (p i:Nat),(gdC bs p i (wsR bs ws p).2).map (·.1)=(gdR ws.length bs p).map Int.ofNat
 | [],ws,p,i=>rfl
 | x::r,ws,p,i=>by
   rw [wsR,gdC,gdR]
   by_cases c:p+1+2 ^ wdc x≤ws.length
   ·rw [if_pos c,if_pos c]
    have h:=wsR_ge r (wst ws p x) (p+1+2 ^ wdc x); have:=Nat.two_pow_pos (wdc x)
    rw [if_pos (by omega),List.map_append,List.map_append,gdC_eq r (wst ws p x) (p+1+2 ^ wdc x) (i+1),wst_len]
    split <;> rfl
   ·rw [if_neg c,if_neg c,if_neg (by omega)]; rfl
theorem wst5 {ws:List Int} {p:Nat} {x:Int} (h:5 < ws.length):(wst ws p x).getD 5 0=((p+1+2 ^ wdc x:Nat):Int):=by
 unfold wst
 rw [set_gt (by split <;> (try split) <;> simp <;> omega),if_pos rfl]
theorem wsR5:∀ (bs ws:List Int) (p:Nat),5 < ws.length→ws.getD 5 0=(p:Int)→(wsR bs ws p).1.getD 5 0=((wsR bs ws p).2:Int)
 | [],ws,p,_,h=>h
 | x::r,ws,p,hl,h=>by
   rw [wsR]
   split
   ·exact wsR5 r _ _ (by rw [wst_len]; exact hl) (wst5 hl)
   ·exact h
def wdE (N:Nat) (bs:List Int):Nat:=(wsR (bs.take 8) (wd0 N) 14).2
theorem wdF5 {N:Nat} (bs:List Int) (h:32≤N):(wdF N bs).getD 5 0=(wdE N bs:Int):=by
 unfold wdF wdE
 refine wsR5 _ _ _ (by rw [wd0_len]; omega) ?_
 unfold wd0
 rw [set_gt (by simp; omega),if_pos rfl]; rfl
theorem wsR_le:∀ (bs ws:List Int) (p:Nat),p≤ws.length→(wsR bs ws p).2≤ws.length
 | [],ws,p,h=>h
 | x::r,ws,p,h=>by
   rw [wsR]
   split
   ·have:=wsR_le r (wst ws p x) (p+1+2 ^ wdc x) (by rw [wst_len]; assumption); rwa [wst_len] at this
   ·exact h
theorem wdE_le {N:Nat} (bs:List Int) (h:32≤N):wdE N bs≤N:=by
 have:=wsR_le (bs.take 8) (wd0 N) 14 (by rw [wd0_len]; omega)
 rwa [wd0_len] at this
theorem draw_good {N:Nat} (bs:List Int) (h1:32≤N) (h2:N≤80) {v:Value} {rs:List RR} (hr:flat rs=(gdC (bs.take 8) 14 0 (wdE N bs)).map (·.1)):ptV (wdF N bs) rs=true:=by
 obtain⟨st,cs,R,I,hst⟩:=(pi_wd0 h1 (by omega)).wsR (bs.take 8)
 have eg:=gdC_eq (bs.take 8) (wd0 N) 14 0
 rw [show(wsR (bs.take 8) (wd0 N) 14).2=wdE N bs from rfl] at eg
 rw [eg,wd0_len] at hr
 rw [show(wsR (bs.take 8) (wd0 N) 14).1=wdF N bs from rfl] at I
 have hb:=I.bkF
 have hA:=I.lsAll
 obtain⟨wf,_⟩:=bkF_wf hb
 obtain⟨g1,g2,g3,g4⟩:=ls_of hb hA
 rw [ptV_g hb hA,parts_words wf g1 g2 g3 g4,hr]
 refine I.good wf ?_ (fun y=>?_) g1 g2 g3 g4
 ·have:∀ (l:List Int) (p:Nat),(gdR N l p).Nodup:=fun l=>by
   induction l with
   | nil=>intro p; exact List.nodup_nil
   | cons x r ih =>
     intro p
     rw [gdR]
     split
     ·rw [List.nodup_append]
      refine⟨by split <;> simp,ih _,fun a ha b hb e=>?_⟩
      have hb':=gdR_gt N r _ b hb
      have:=Nat.two_pow_pos (wdc x)
      split at ha
      ·simp at ha; omega
      ·cases ha
     ·exact List.nodup_nil
  exact this _ _
 ·rw [hst,wd0_len]
  constructor
  ·exact fun h=>.inl h
  ·rintro(h | ⟨_,h⟩)
   ·exact h
   ·exact absurd h (by simp only [List.getD_eq_getElem?_getD,List.getElem?_replicate]; split <;> simp)
end
end Go.Lev
