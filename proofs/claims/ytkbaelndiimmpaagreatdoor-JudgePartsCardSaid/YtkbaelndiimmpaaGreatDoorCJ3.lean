/- chapter 30: Parts of the code -/
import Derived.Test.YtkbaelndiimmpaaGreatDoorCJ2
import Derived.Test.YtkbaelndiimmpaaGreatDoorLc
import Derived.Test.YtkbaelndiimmpaaGreatDoorChecked
import Derived.KernelRfl
namespace JP
set_option linter.unusedSimpArgs false
set_option linter.unusedVariables false
def inc (ov:List Int) (p:Nat):List Int:=ov.set p (ov.getD p 0+1)
def ovB:List (Nat×Bool)→List Int→List Int
 | [],ov=>ov
 | b::r,ov=>ovB r (ov.set b.1 (if b.2 then 0 else -1))
def ovF:List Nat→List Int→List Int
 | [],ov=>ov
 | p::r,ov=>ovF r (inc ov p)
def ovR:List Int→List Int→Option (List Int)
 | [],ov=>some ov
 | r::rs,ov=>if r < 0∨(ov.length:Int)≤r then none else if 0 < (inc ov r.toNat).getD r.toNat 0 then none else ovR rs (inc ov r.toNat)
def partsC (N:Nat) (bs:List (Nat×Bool)) (F:List Nat) (R:List Int):Bool:=match ovR R (ovF F (ovB bs (List.replicate N 1))) with
 | none=>false
 | some ov=>!ov.contains (-1)
def cnt (F:List Nat) (R:List Int) (b:Nat×Bool):Nat:=(if b.2 then 1 else 0)+F.count b.1+R.count (b.1:Int)
def partsR (bs:List (Nat×Bool)) (F:List Nat) (R:List Int):Bool:=bs.all (fun b=>decide (cnt F R b=1)) && decide ((bs.map fun b=>R.count (b.1:Int)).sum=R.length)
theorem set_getD (l:List Int) (p q:Nat) (x:Int):(l.set p x).getD q 0=if p=q∧p < l.length then x else l.getD q 0:=by
 simp only [List.getD_eq_getElem?_getD,List.getElem?_set]
 by_cases h:p=q
 ·subst h
  by_cases k:p < l.length
  ·simp [k]
  ·simp [k]
 ·simp [h]
theorem inc_len (l:List Int) (p:Nat):(inc l p).length=l.length:=by simp [inc]
theorem ovB_len:∀ bs l,(ovB bs l).length=l.length
 | [],l=>rfl
 | b::r,l=>by rw [ovB,ovB_len r]; simp
theorem ovF_len:∀ F l,(ovF F l).length=l.length
 | [],l=>rfl
 | b::r,l=>by rw [ovF,ovF_len r,inc_len]
theorem ovB_get:∀ (bs:List (Nat×Bool)) (l:List Int) (p:Nat),(bs.map (·.1)).Nodup→(∀ b∈bs,b.1 < l.length)→(ovB bs l).getD p 0=if(p,true)∈bs then 0 else if(p,false)∈bs then -1 else l.getD p 0
 | [],l,p,_,_=>by simp [ovB]
 | (q,v)::r,l,p,hd,hl=>by
   simp only [List.map_cons,List.nodup_cons] at hd
   rw [ovB,ovB_get r _ p hd.2 (fun b hb=>by simpa using hl b (by simp [hb]))]
   simp only [List.mem_cons,Prod.mk.injEq]
   rw [set_getD]
   have hq:=hl (q,v) (by simp)
   have nq:∀ w,(q,w) ∉ r:=fun w hw=>hd.1 (List.mem_map.2 ⟨_,hw,rfl⟩)
   by_cases e:p=q
   ·subst e
    simp only [nq,hq,and_self,if_true,or_false,true_and,if_false]
    cases v <;> simp
   ·have e':¬ q=p:=fun k=>e k.symm
    simp [e,e']
theorem ovF_get:∀ (F:List Nat) (l:List Int) (p:Nat),(∀ q∈F,q < l.length)→(ovF F l).getD p 0=l.getD p 0+(F.count p:Int)
 | [],l,p,_=>by simp [ovF]
 | q::r,l,p,h=>by
   rw [ovF,ovF_get r _ p (fun x hx=>by rw [inc_len]; exact h x (by simp [hx]))]
   unfold inc
   rw [set_getD,List.count_cons]
   have hq:=h q (by simp)
   by_cases e:q=p
   ·subst e; simp [hq]; omega
   ·simp [e]
theorem ovR_spec:∀ (R:List Int) (ov:List Int),(∀ p,p < ov.length → -1≤ov.getD p 0) →
  (ovR R ov=none∧¬ (R.Nodup∧∀ r∈R,0≤r∧r < ov.length∧ov.getD r.toNat 0 = -1)) ∨
  (∃ ov',ovR R ov=some ov'∧(R.Nodup∧∀ r∈R,0≤r∧r < ov.length∧ov.getD r.toNat 0 = -1)∧ov'.length=ov.length∧∀ p,p < ov.length→ov'.getD p 0=if(p:Int)∈R then 0 else ov.getD p 0)
 | [],ov,_=>.inr ⟨ov,rfl,⟨List.nodup_nil,fun r hr=>by cases hr⟩,rfl,fun p _=>by simp⟩
 | r::rs,ov,hv=>by
   by_cases c1:r < 0∨(ov.length:Int)≤r
   ·refine .inl ⟨by rw [ovR,if_pos c1],fun⟨_,h⟩=>?_⟩
    have:=h r (by simp); omega
   ·have hr:r.toNat < ov.length:=by omega
    have er:(r.toNat:Int)=r:=by omega
    have eg:(inc ov r.toNat).getD r.toNat 0=ov.getD r.toNat 0+1:=by unfold inc; rw [set_getD]; simp [hr]
    have en:∀ q,q≠r.toNat→(inc ov r.toNat).getD q 0=ov.getD q 0:=fun q hq=>by unfold inc; rw [set_getD,if_neg (fun k=>hq k.1.symm)]
    by_cases c2:0 < (inc ov r.toNat).getD r.toNat 0
    ·refine .inl ⟨by rw [ovR,if_neg c1,if_pos c2],fun⟨_,h⟩=>?_⟩
     have:=(h r (by simp)).2.2
     omega
    ·have h1:ov.getD r.toNat 0 = -1:=by have:=hv r.toNat hr; omega
     have hv':∀ p,p < (inc ov r.toNat).length → -1≤(inc ov r.toNat).getD p 0:=fun p hp=>by
      rw [inc_len] at hp
      by_cases e:p=r.toNat
      ·subst e; omega
      ·rw [en p e]; exact hv p hp
     rcases ovR_spec rs _ hv' with⟨k1,k2⟩ | ⟨ov',k1,⟨k2,k3⟩,k4,k5⟩
     ·refine .inl ⟨by rw [ovR,if_neg c1,if_neg c2]; exact k1,fun⟨d,h⟩=>k2 ?_⟩
      rw [List.nodup_cons] at d
      refine⟨d.2,fun x hx=>?_⟩
      obtain⟨g1,g2,g3⟩:=h x (by simp [hx])
      refine⟨g1,by rw [inc_len]; exact g2,?_⟩
      rw [en _ (fun k=>d.1 (by have:x=r:=by omega
                               exact this▸hx))]
      exact g3
     ·refine .inr ⟨ov',by rw [ovR,if_neg c1,if_neg c2]; exact k1,⟨?_,?_⟩,by rw [k4,inc_len],fun p hp=>?_⟩
      ·rw [List.nodup_cons]
       refine⟨fun hx=>?_,k2⟩
       have:=(k3 r hx).2.2
       omega
      ·intro x hx
       rcases List.mem_cons.1 hx with rfl | hx
       ·exact⟨by omega,by omega,h1⟩
       ·obtain⟨g1,g2,g3⟩:=k3 x hx
        rw [inc_len] at g2
        refine⟨g1,g2,?_⟩
        by_cases e:x.toNat=r.toNat
        ·rw [e] at g3 ⊢; omega
        ·rw [en _ e] at g3; exact g3
      ·rw [k5 p (by rw [inc_len]; exact hp)]
       simp only [List.mem_cons]
       by_cases e:(p:Int)=r
       ·have e2:p=r.toNat:=by omega
        simp only [e,true_or,if_true]
        by_cases m:r∈rs
        ·have:=(k3 r m).2.2; omega
        ·rw [if_neg m,e2,eg,h1]; rfl
       ·have e2:p≠r.toNat:=by omega
        simp only [e,false_or]
        rw [en p e2]
theorem sum_count (K R:List Int):(K.map fun k=>R.count k).sum=(R.map fun r=>K.count r).sum:=by
 induction R with
 | nil=>induction K with
   | nil=>rfl
   | cons k K ih=>simpa using ih
 | cons r R ih =>
   have h:(K.map fun k=>(r::R).count k).sum=(K.map fun k=>R.count k).sum+K.count r:=by
    clear ih
    induction K with
    | nil=>simp
    | cons k K ih =>
      have e1:(r::R).count k=R.count k+(if r=k then 1 else 0):=by simp [List.count_cons]
      have e2:(k::K).count r=K.count r+(if r=k then 1 else 0):=by
       rw [List.count_cons]
       by_cases e:r=k
       ·simp [e]
       ·have e':¬ k=r:=fun h=>e h.symm
        simp [e,e']
      simp only [List.map_cons,List.sum_cons]
      rw [ih,e1,e2]; omega
   rw [h,ih,List.map_cons,List.sum_cons]; omega
theorem sum_le {R K:List Int} (hK:K.Nodup):(R.map fun r=>K.count r).sum≤R.length∧((R.map fun r=>K.count r).sum=R.length↔∀ r∈R,r∈K):=by
 induction R with
 | nil=>simp
 | cons r R ih =>
   simp only [List.map_cons,List.sum_cons,List.length_cons,List.mem_cons,forall_eq_or_imp]
   have h1:K.count r≤1:=List.nodup_iff_count.1 hK r
   have h2:K.count r=1↔r∈K:=by
    rw [← List.count_pos_iff]; omega
   obtain⟨i1,i2⟩:=ih
   refine⟨by omega,?_⟩
   rw [← h2,← i2]; omega
theorem key_uniq:∀ {bs:List (Nat×Bool)},(bs.map (·.1)).Nodup→∀ {p:Nat} {v w:Bool},(p,v)∈bs→(p,w)∈bs→v=w
 | [],_,_,_,_,h,_=>by cases h
 | b::r,hd,p,v,w,h1,h2=>by
   simp only [List.map_cons,List.nodup_cons] at hd
   have no:∀ x,(p,x)∈r→b.1≠p:=fun x hx e=>hd.1 (List.mem_map.2 ⟨_,hx,e.symm⟩)
   rcases List.mem_cons.1 h1 with e1 | k1
   ·rcases List.mem_cons.1 h2 with e2 | k2
    ·exact(Prod.mk.inj (e1.trans e2.symm)).2
    ·exact absurd (by rw [← e1]) (no _ k2)
   ·rcases List.mem_cons.1 h2 with e2 | k2
    ·exact absurd (by rw [← e2]) (no _ k1)
    ·exact key_uniq hd.2 k1 k2
theorem keys_nodup:∀ {bs:List (Nat×Bool)},(bs.map (·.1)).Nodup→(bs.map fun b=>(b.1:Int)).Nodup
 | [],_=>List.nodup_nil
 | b::r,h=>by
   simp only [List.map_cons,List.nodup_cons] at h ⊢
   refine⟨fun k=>h.1 ?_,keys_nodup h.2⟩
   obtain⟨x,hx,e⟩:=List.mem_map.1 k
   exact List.mem_map.2 ⟨x,hx,by omega⟩
theorem parts_eq {N:Nat} {bs:List (Nat×Bool)} {F:List Nat} {R:List Int} (hN:∀ b∈bs,b.1 < N) (hd:(bs.map (·.1)).Nodup) (hF:F.Nodup) (hFb:∀ p∈F,(p,false)∈bs):partsC N bs F R=partsR bs F R:=by
 unfold partsC
 have hl:(ovF F (ovB bs (List.replicate N 1))).length=N:=by rw [ovF_len,ovB_len,List.length_replicate]
 have hv:∀ p,p < N→(ovF F (ovB bs (List.replicate N 1))).getD p 0=(if(p,true)∈bs then 0 else if(p,false)∈bs then -1 else 1)+(F.count p:Int):=fun p hp=>by
  rw [ovF_get _ _ _ (fun q hq=>by rw [ovB_len,List.length_replicate]; exact hN _ (hFb q hq)),ovB_get _ _ _ hd (fun b hb=>by rw [List.length_replicate]; exact hN b hb)]
  simp [List.getD_eq_getElem?_getD,hp]
 have hp:∀ {p v w},(p,v)∈bs→(p,w)∈bs→v=w:=fun h1 h2=>key_uniq hd h1 h2
 have hc:∀ p,F.count p≤1:=List.nodup_iff_count.1 hF
 generalize ovF F (ovB bs (List.replicate N 1))=ov at hl hv
 have hu:∀ p,p < N→(ov.getD p 0 = -1↔(p,false)∈bs∧F.count p=0):=fun p h=>by
  rw [hv p h]
  by_cases c1:(p,true)∈bs
  ·rw [if_pos c1]
   exact⟨fun k=>by omega,fun k=>by cases hp c1 k.1⟩
  ·rw [if_neg c1]
   by_cases c2:(p,false)∈bs
   ·rw [if_pos c2]; exact⟨fun k=>⟨c2,by omega⟩,fun k=>by rw [k.2]; rfl⟩
   ·rw [if_neg c2]; exact⟨fun k=>by omega,fun k=>absurd k.1 c2⟩
 have hlo:∀ p,p < ov.length → -1≤ov.getD p 0:=fun p h=>by
  rw [hv p (by omega)]; split
  ·omega
  ·split <;> omega
 have key:partsR bs F R=true↔(R.Nodup∧∀ r∈R,0≤r∧r < ov.length∧ov.getD r.toNat 0 = -1)∧∀ p,p < N→ov.getD p 0 = -1→(p:Int)∈R:=by
  have hs:=(sum_le (R:=R) (keys_nodup hd)).2
  rw [← sum_count,List.map_map] at hs
  unfold partsR
  rw [Bool.and_eq_true,List.all_eq_true,decide_eq_true_eq]
  simp only [decide_eq_true_eq]
  constructor
  ·rintro⟨h1,h2⟩
   have h3:=hs.1 h2
   have hr:∀ r∈R,∃ p v,(p,v)∈bs∧(p:Int)=r:=fun r hr=>by
    obtain⟨b,hb,e⟩:=List.mem_map.1 (h3 r hr)
    exact⟨b.1,b.2,hb,e⟩
   refine⟨⟨List.nodup_iff_count.2 fun r=>?_,fun r hr'=>?_⟩,fun p hp' he=>?_⟩
   ·by_cases m:r∈R
    ·obtain⟨p,v,hb,rfl⟩:=hr r m
     have:=h1 _ hb
     unfold cnt at this
     dsimp only at this
     omega
    ·rw [List.count_eq_zero.2 m]; omega
   ·obtain⟨p,v,hb,rfl⟩:=hr r hr'
    have h4:=h1 _ hb
    have h5:=List.count_pos_iff.2 hr'
    have h6:=hN _ hb
    unfold cnt at h4
    dsimp only at h4 h6
    cases v with
    | true=>simp at h4; omega
    | false =>
      simp only [Bool.false_eq_true,if_false] at h4
      refine⟨by omega,by omega,?_⟩
      rw [Int.toNat_natCast]
      exact(hu p h6).2 ⟨hb,by omega⟩
   ·obtain⟨k1,k2⟩:=(hu p hp').1 he
    have h4:=h1 _ k1
    unfold cnt at h4
    dsimp only at h4
    simp only [Bool.false_eq_true,if_false,k2] at h4
    exact List.count_pos_iff.1 (by omega)
  ·rintro⟨⟨h1,h2⟩,h3⟩
   have h1':=List.nodup_iff_count.1 h1
   have no:∀ p:Nat,(p:Int)∈R→(p,false)∈bs∧F.count p=0:=fun p hm=>by
    obtain⟨_,g2,g3⟩:=h2 _ hm
    rw [Int.toNat_natCast] at g3
    exact(hu p (by omega)).1 g3
   refine⟨fun⟨p,v⟩ hb=>?_,hs.2 fun r hr=>?_⟩
   ·have hpN:=hN _ hb
    unfold cnt
    dsimp only at hpN ⊢
    cases v with
    | true =>
      have f0:F.count p=0:=List.count_eq_zero.2 fun k=>by cases hp hb (hFb p k)
      have r0:R.count (p:Int)=0:=List.count_eq_zero.2 fun k=>by cases hp hb (no p k).1
      rw [f0,r0]; rfl
    | false =>
      simp only [Bool.false_eq_true,if_false]
      have c1:=hc p
      have c2:=h1' (p:Int)
      by_cases c0:F.count p=0
      ·have:=List.count_pos_iff.2 (h3 p hpN ((hu p hpN).2 ⟨hb,c0⟩))
       omega
      ·have r0:R.count (p:Int)=0:=List.count_eq_zero.2 fun k=>c0 (no p k).2
       omega
   ·have g:=h2 r hr
    have e:((r.toNat:Nat):Int)=r:=by omega
    have k:=(no r.toNat (by rw [e]; exact hr)).1
    exact List.mem_map.2 ⟨_,k,e⟩
 rw [Bool.eq_iff_iff,key]
 rcases ovR_spec R ov hlo with⟨k1,k2⟩ | ⟨ov',k1,k2,k3,k4⟩
 ·rw [k1]
  exact⟨fun h=>by(first | cases h),fun h=>absurd h.1 k2⟩
 ·rw [k1]
  refine Iff.trans (b:=∀ p,p < N→ov.getD p 0 = -1→(p:Int)∈R) ?_ ⟨fun h=>⟨k2,h⟩,fun h=>h.2⟩
  show(!ov'.contains (-1))=true↔_
  rw [Bool.not_eq_true']
  have hm:ov'.contains (-1)=true↔∃ p,p < N∧ov'.getD p 0 = -1:=by
   rw [List.contains_iff_mem,List.mem_iff_getElem]
   constructor
   ·rintro⟨p,h,e⟩
    refine⟨p,by omega,?_⟩
    rw [List.getD_eq_getElem?_getD,List.getElem?_eq_getElem h,e]; rfl
   ·rintro⟨p,h,e⟩
    have h':p < ov'.length:=by omega
    refine⟨p,h',?_⟩
    rw [List.getD_eq_getElem?_getD,List.getElem?_eq_getElem h'] at e
    exact e
  rw [← Bool.not_eq_true,hm]
  constructor
  ·intro h p hp' he
   refine Classical.byContradiction fun m=>h ⟨p,hp',?_⟩
   rw [k4 p (by omega),if_neg m]; exact he
  ·rintro h ⟨p,hp',he⟩
   rw [k4 p (by omega)] at he
   by_cases m:(p:Int)∈R
   ·rw [if_pos m] at he; cases he
   ·rw [if_neg m] at he; exact m (h p hp' he)
theorem partsR_true {bs:List (Nat×Bool)} {F:List Nat} {R:List Int} (hd:(bs.map (·.1)).Nodup) (hF:F.Nodup) (hFb:∀ p∈F,(p,false)∈bs) (hR:R.Nodup) (hm:∀ r∈R,∃ p:Nat,(p:Int)=r∧(p,false)∈bs∧p ∉ F) (hc:∀ p:Nat,(p,false)∈bs→p ∉ F→(p:Int)∈R):partsR bs F R=true:=by
 have hs:=(sum_le (R:=R) (keys_nodup hd)).2
 rw [← sum_count,List.map_map] at hs
 have h1:=List.nodup_iff_count.1 hR
 have hcF:=List.nodup_iff_count.1 hF
 have no:∀ p:Nat,(p:Int)∈R→(p,false)∈bs∧p ∉ F:=fun p k=>by
  obtain⟨q,e,g1,g2⟩:=hm _ k
  have:q=p:=by omega
  subst this; exact⟨g1,g2⟩
 unfold partsR
 rw [Bool.and_eq_true,List.all_eq_true,decide_eq_true_eq]
 simp only [decide_eq_true_eq]
 refine⟨fun⟨p,v⟩ hb=>?_,hs.2 fun r hr=>?_⟩
 ·unfold cnt
  dsimp only
  cases v with
  | true =>
    have f0:F.count p=0:=List.count_eq_zero.2 fun k=>by cases key_uniq hd hb (hFb p k)
    have r0:R.count (p:Int)=0:=List.count_eq_zero.2 fun k=>by cases key_uniq hd hb (no p k).1
    rw [f0,r0]; rfl
  | false =>
    simp only [Bool.false_eq_true,if_false]
    have c1:=hcF p
    have c2:=h1 (p:Int)
    by_cases c0:p∈F
    ·have r0:R.count (p:Int)=0:=List.count_eq_zero.2 fun k=>(no p k).2 c0
     have:=List.count_pos_iff.2 c0
     omega
    ·have f0:F.count p=0:=List.count_eq_zero.2 c0
     have:=List.count_pos_iff.2 (hc p hb c0)
     omega
 ·obtain⟨p,e,k,_⟩:=hm r hr
  exact List.mem_map.2 ⟨_,k,e⟩
end JP
namespace Go.Lev
open Go.RowKit
open Go.Proofs.Tryz (prog)
set_option maxRecDepth 100000
noncomputable section
theorem lsW_nd {ws:List Int} {bs:List Blk} {c a:Int} {row r:List Int} (hr:row.Nodup) (h:lsW ws bs c a row=some r):r.Nodup:=by
 by_cases e:a=0
 ·subst e; rw [lsW_end] at h; cases h; exact hr
 ·by_cases k:isBk bs c a∧a ∉ row
  ·rw [lsW_go e k] at h
   refine lsW_nd ?_ h
   rw [List.nodup_append]
   exact⟨hr,by simp,fun x hx y hy=>by rw [List.mem_singleton.1 hy]; exact fun e=>k.2 (e▸hx)⟩
  ·rw [lsW_bad e k] at h; cases h
termination_by lft bs row
decreasing_by exact lft_lt k.1 k.2
theorem lists_ok {ws:List Int} {bs:List Blk} {e:Nat} (w:WfB bs e) {r1 r2 r3 r4:List Int} (h1:ls1 ws bs 1=some r1) (h2:ls1 ws bs 2=some r2) (h3:ls1 ws bs 3=some r3) (h4:ls1 ws bs 4=some r4) :
  (r1++r2++r3++r4).Nodup∧∀ x∈r1++r2++r3++r4,∃ b∈bs,b.1=x∧b.2.2=false:=by
 have c1:∀ x∈r1,isBk bs (1:Nat) x:=lsW_cl (fun x hx=>by cases hx) h1
 have c2:∀ x∈r2,isBk bs (2:Nat) x:=lsW_cl (fun x hx=>by cases hx) h2
 have c3:∀ x∈r3,isBk bs (3:Nat) x:=lsW_cl (fun x hx=>by cases hx) h3
 have c4:∀ x∈r4,isBk bs (4:Nat) x:=lsW_cl (fun x hx=>by cases hx) h4
 have d1:=lsW_nd List.nodup_nil h1
 have d2:=lsW_nd List.nodup_nil h2
 have d3:=lsW_nd List.nodup_nil h3
 have d4:=lsW_nd List.nodup_nil h4
 have ne:∀ {c d:Int} {x y:Int},isBk bs c x→isBk bs d y→c≠d→x≠y:=fun k1 k2 h e=>h (isBk_uniq w k1 (e▸k2))
 refine⟨?_,fun x hx=>?_⟩
 ·simp only [List.nodup_append,List.mem_append]
  refine⟨⟨⟨d1,d2,fun x hx y hy=>ne (c1 x hx) (c2 y hy) (by decide)⟩,d3,fun x hx y hy=>?_⟩,d4,fun x hx y hy=>?_⟩
  ·rcases hx with hx | hx
   ·exact ne (c1 x hx) (c3 y hy) (by decide)
   ·exact ne (c2 x hx) (c3 y hy) (by decide)
  ·rcases hx with(hx | hx) | hx
   ·exact ne (c1 x hx) (c4 y hy) (by decide)
   ·exact ne (c2 x hx) (c4 y hy) (by decide)
   ·exact ne (c3 x hx) (c4 y hy) (by decide)
 ·have:∃ c,isBk bs c x:=by
   simp only [List.mem_append] at hx
   rcases hx with((hx | hx) | hx) | hx
   ·exact⟨_,c1 x hx⟩
   ·exact⟨_,c2 x hx⟩
   ·exact⟨_,c3 x hx⟩
   ·exact⟨_,c4 x hx⟩
  obtain⟨c,b,hb,e1,_,e3⟩:=this
  exact⟨b,hb,e1,e3⟩
def bsK (bs:List Blk):List (Nat×Bool):=bs.map fun b=>(b.1.toNat,b.2.2)
theorem map_nd:∀ {l:List Int},(∀ x∈l,0≤x)→l.Nodup→(l.map Int.toNat).Nodup
 | [],_,_=>List.nodup_nil
 | x::r,h,d=>by
   rw [List.nodup_cons] at d
   rw [List.map_cons,List.nodup_cons]
   refine⟨fun k=>d.1 ?_,map_nd (fun y hy=>h y (by simp [hy])) d.2⟩
   obtain⟨y,hy,e⟩:=List.mem_map.1 k
   have:=h y (by simp [hy]); have:=h x (by simp)
   have:y=x:=by omega
   exact this▸hy
theorem bsK_nd {bs:List Blk} {e:Nat} (w:WfB bs e):((bsK bs).map (·.1)).Nodup:=by
 have h:=w.inc
 have h0:=w.at'
 clear w
 unfold bsK
 rw [List.map_map]
 induction bs with
 | nil=>exact List.nodup_nil
 | cons b r ih =>
   rw [List.pairwise_cons] at h
   rw [List.map_cons,List.nodup_cons]
   refine⟨fun k=>?_,ih h.2 fun x hx=>h0 x (by simp [hx])⟩
   obtain⟨x,hx,e1⟩:=List.mem_map.1 k
   have g1:=h.1 x hx
   have g2:=h0 b (by simp); have g3:=h0 x (by simp [hx])
   simp only [Function.comp] at e1
   omega
theorem parts_words {ws:List Int} {bs:List Blk} {N:Nat} (w:WfB bs N) {r1 r2 r3 r4:List Int} (h1:ls1 ws bs 1=some r1) (h2:ls1 ws bs 2=some r2) (h3:ls1 ws bs 3=some r3) (h4:ls1 ws bs 4=some r4) (R:List Int) :
  JP.partsC N (bsK bs) ((r1++r2++r3++r4).map Int.toNat) R=JP.partsR (bsK bs) ((r1++r2++r3++r4).map Int.toNat) R:=by
 obtain⟨nd,hm⟩:=lists_ok w h1 h2 h3 h4
 refine JP.parts_eq (fun b hb=>?_) (bsK_nd w) (map_nd (fun x hx=>?_) nd) fun p hp=>?_
 ·obtain⟨x,hx,rfl⟩:=List.mem_map.1 hb
  have:=w.at' x hx
  show x.1.toNat < N
  omega
 ·obtain⟨b,hb,e,_⟩:=hm x hx
  have:=w.at' b hb; omega
 ·obtain⟨x,hx,rfl⟩:=List.mem_map.1 hp
  obtain⟨b,hb,e,f⟩:=hm x hx
  exact List.mem_map.2 ⟨b,hb,by rw [e,f]⟩
abbrev cell:Int×Int→List LV:=cII .i64 .u64
theorem cell_len (x:Int×Int):(cell x).length=2:=rfl
theorem cell_0 {xs:List (Int×Int)} {i:Nat} (h:i < xs.length):nthD (encL cell xs) (i * 2)=.int .i64 xs[i].1:=encL_nth cell_len (j:=0) h (by omega)
theorem cell_1 {xs:List (Int×Int)} {i:Nat} (h:i < xs.length):nthD (encL cell xs) (i * 2+1)=.int .u64 xs[i].2:=encL_nth cell_len (j:=1) h (by omega)
theorem cell_n (xs:List (Int×Int)):(encL cell xs).length=xs.length * 2:=encL_length cell_len xs
theorem cell_push (xs:List (Int×Int)) (a z:Int):xcat (xcut (encL cell xs) 0 (xs.length * 2)) [.int .i64 a,.int .u64 z]=encL cell (xs++[(a,z)]):=by
 rw [xcut_all (by rw [cell_n]; omega),encL_append]; rfl
theorem noids_c (xs:List (Int×Int)):noIds (encL cell xs)=true:=noIds_encL (fun _=>rfl) xs
def decC:List LV→List (Int×Int)
 | .int _ a::.int _ b::r=>(a,b)::decC r
 | _=>[]
theorem decC_enc:∀ xs,decC (encL cell xs)=xs
 | []=>rfl
 | x::r=>by simp [encL,cell,cII,decC,decC_enc r]
def okC (cs:List LV) (n:Nat):Bool:=@decide (cs=encL cell (decC cs)∧(decC cs).length=n∧n≤9223372036854775807) (Classical.propDecidable _)
theorem cxpG_ok:CtrOk prog (ctrOf cxpG):=cxl_ok ⟨wrapG_ok blkG_ok,wrapG_ok ligG_ok,wrapG_ok rpG_ok,wrapG_ok coG_ok,trivial⟩
theorem cxpB_ok:CtrOk prog (ctrOf cxpB):=cxl_ok ⟨wrapG_ok blkG_ok,wrapG_ok libG_ok,trivial⟩
abbrev RR:Type:=Value×List (Int×Int)
abbrev valC (v:Value):List LV:=[.val v]
theorem valC_len (v:Value):(valC v).length=1:=rfl
theorem val_nth {vs:List Value} {i:Nat} (h:i < vs.length):nthD (encL valC vs) i=.val vs[i]:=by
 have:=encL_nth valC_len (j:=0) h (by omega)
 simp only [Nat.mul_one,Nat.add_zero] at this
 exact this
theorem val_len (vs:List Value):(encL valC vs).length=vs.length:=by rw [encL_length valC_len]; omega
theorem noids_val (vs:List Value):noIds (encL valC vs)=true:=noIds_encL (fun _=>rfl) vs
theorem can_c (xs:List (Int×Int)):(encL cell xs).all lvCan=true:=by
 induction xs with
 | nil=>rfl
 | cons x r ih=>rw [encL,List.all_append,ih]; rfl
theorem cell_cut {xs:List (Int×Int)} {j:Nat} (h:j < xs.length):((encL cell xs).drop (j * 2)).take 2=[.int .i64 xs[j].1,.int .u64 xs[j].2]:=by
 have l:=cell_n xs
 refine List.ext_getElem? fun i=>?_
 rw [List.getElem?_take]
 match i with
 | 0 =>
   rw [if_pos (by omega),List.getElem?_drop]
   have:=cell_0 h
   unfold nthD at this
   rw [nth_eq] at this
   simp only [Nat.add_zero]
   rw [List.getElem?_eq_getElem (by omega)] at this ⊢
   simp only at this
   rw [this]; rfl
 | 1 =>
   rw [if_pos (by omega),List.getElem?_drop]
   have:=cell_1 h
   unfold nthD at this
   rw [nth_eq] at this
   rw [List.getElem?_eq_getElem (by omega)] at this ⊢
   simp only at this
   rw [this]; rfl
 | i+2=>rw [if_neg (by omega)]; simp
def flat (rs:List RR):List Int:=rs.flatMap fun x=>x.2.map (·.1)
theorem flat_succ {rs:List RR} {i:Nat} (h:i < rs.length):flat (rs.take (i+1))=flat (rs.take i)++rs[i].2.map (·.1):=by
 unfold flat
 rw [List.take_add_one,List.getElem?_eq_getElem h,Option.toList_some,List.flatMap_append,List.flatMap_cons,List.flatMap_nil,List.append_nil]
theorem flat_split {rs:List RR} {i j:Nat} (hi:i < rs.length) (hj:j < rs[i].2.length):∃ tl,flat rs=(flat (rs.take i)++(rs[i].2.take j).map (·.1))++rs[i].2[j].1::tl:=by
 refine⟨(rs[i].2.drop (j+1)).map (·.1)++flat (rs.drop (i+1)),?_⟩
 have e1:rs=rs.take i++rs[i]::rs.drop (i+1):=by rw [← List.drop_eq_getElem_cons hi,List.take_append_drop]
 have e2:rs[i].2.map (·.1)=(rs[i].2.take j).map (·.1)++rs[i].2[j].1::(rs[i].2.drop (j+1)).map (·.1):=by
  rw [← List.map_cons (f:=fun x:Int×Int=>x.1),← List.drop_eq_getElem_cons hj,← List.map_append,List.take_append_drop]
 have e3:flat rs=flat (rs.take i)++(rs[i].2.map (·.1)++flat (rs.drop (i+1))):=by
  have q:=congrArg flat e1
  rw [q]; unfold flat
  rw [List.flatMap_append,List.flatMap_cons]
 rw [e3,e2]; simp
theorem ovB_snoc:∀ (l:List (Nat×Bool)) (b:Nat×Bool) (ov:List Int),JP.ovB (l++[b]) ov=(JP.ovB l ov).set b.1 (if b.2 then 0 else -1)
 | [],b,ov=>rfl
 | x::r,b,ov=>by rw [List.cons_append,JP.ovB,JP.ovB,ovB_snoc r]
theorem ovF_app:∀ (a b:List Nat) (ov:List Int),JP.ovF (a++b) ov=JP.ovF b (JP.ovF a ov)
 | [],b,ov=>rfl
 | x::r,b,ov=>by rw [List.cons_append,JP.ovF,JP.ovF,ovF_app r]
theorem ovR_app:∀ (a b:List Int) (ov:List Int),JP.ovR (a++b) ov=(JP.ovR a ov).bind (JP.ovR b)
 | [],b,ov=>rfl
 | x::r,b,ov=>by
   rw [List.cons_append,JP.ovR,JP.ovR]
   split
   ·rfl
   ·split
    ·rfl
    ·exact ovR_app r b _
abbrev okM (ov:List Int) (M:Int):Prop:=∀ x∈ov,-1≤x∧x≤M
theorem okM_get {ov:List Int} {M:Int} (h:okM ov M) (hM:0≤M) (p:Nat) : -1≤ov.getD p 0∧ov.getD p 0≤M:=by
 rw [List.getD_eq_getElem?_getD]
 cases e:ov[p]? with
 | none=>simp; omega
 | some v=>exact h v (List.mem_of_getElem? e)
theorem okM_set {ov:List Int} {M:Int} (h:okM ov M) {p:Nat} {y:Int} (k : -1≤y∧y≤M):okM (ov.set p y) M:=fun x hx=>by
 rcases List.mem_or_eq_of_mem_set hx with hx | rfl
 ·exact h x hx
 ·exact k
theorem okM_inc {ov:List Int} {M:Int} (h:okM ov M) (hM:0≤M) (p:Nat):okM (JP.inc ov p) (M+1):=by
 have g:=okM_get h hM p
 exact okM_set (fun x hx=>by have:=h x hx; omega) (by omega)
theorem okM_ovB:∀ (l:List (Nat×Bool)) (ov:List Int),okM ov 1→okM (JP.ovB l ov) 1
 | [],ov,h=>h
 | b::r,ov,h=>by rw [JP.ovB]; exact okM_ovB r _ (okM_set h (by split <;> omega))
theorem okM_ovF:∀ (F:List Nat) (ov:List Int) (M:Int),0≤M→okM ov M→okM (JP.ovF F ov) (M+F.length)
 | [],ov,M,hM,h=>by simpa [JP.ovF] using h
 | b::r,ov,M,hM,h=>by
   rw [JP.ovF]
   have:=okM_ovF r _ (M+1) (by omega) (okM_inc h hM b)
   rw [List.length_cons]
   intro x hx
   have:=this x hx
   omega
theorem ovR_len:∀ (R:List Int) (ov ov':List Int),JP.ovR R ov=some ov'→ov'.length=ov.length
 | [],ov,ov',h=>by cases h; rfl
 | r::rs,ov,ov',h=>by
   rw [JP.ovR] at h
   split at h
   ·cases h
   ·split at h
    ·cases h
    ·rw [ovR_len rs _ _ h,JP.inc_len]
theorem okM_ovR {M:Int} (hM:0≤M):∀ (R:List Int) (ov ov':List Int),okM ov M→JP.ovR R ov=some ov'→okM ov' M
 | [],ov,ov',k,h=>by cases h; exact k
 | r::rs,ov,ov',k,h=>by
   rw [JP.ovR] at h
   split at h
   ·cases h
   ·rename_i c1
    split at h
    ·cases h
    ·rename_i c2
     refine okM_ovR hM rs _ _ ?_ h
     have e:(JP.inc ov r.toNat).getD r.toNat 0=ov.getD r.toNat 0+1:=by unfold JP.inc; rw [JP.set_getD,if_pos ⟨rfl,by omega⟩]
     rw [e] at c2
     have g:=okM_get k hM r.toNat
     exact okM_set k (by omega)
theorem ovR_fail {A tl:List Int} {a:Int} {base ov:List Int} (h:JP.ovR A base=some ov) (hf:a < 0∨(ov.length:Int)≤a∨0 < ov.getD a.toNat 0+1):JP.ovR (A++a::tl) base=none:=by
 rw [ovR_app,h,Option.bind_some,JP.ovR]
 by_cases c1:a < 0∨(ov.length:Int)≤a
 ·rw [if_pos c1]
 ·rw [if_neg c1,if_pos]
  have e:(JP.inc ov a.toNat).getD a.toNat 0=ov.getD a.toNat 0+1:=by unfold JP.inc; rw [JP.set_getD,if_pos ⟨rfl,by omega⟩]
  omega
theorem ovR_snoc {A:List Int} {a:Int} {base ov:List Int} (h:JP.ovR A base=some ov) (h1:0≤a) (h2:a < (ov.length:Int)) (h3:ov.getD a.toNat 0+1≤0):JP.ovR (A++[a]) base=some (JP.inc ov a.toNat):=by
 have e:(JP.inc ov a.toNat).getD a.toNat 0=ov.getD a.toNat 0+1:=by unfold JP.inc; rw [JP.set_getD,if_pos ⟨rfl,by omega⟩]
 rw [ovR_app,h,Option.bind_some,JP.ovR,if_neg (by omega),if_neg (by omega),JP.ovR]
theorem os_set {us:List Int} {i:Nat} (y:Int) (h:i < us.length):xlay (encL (cI .i64) us) i [.int .i64 y]=encL (cI .i64) (us.set i y):=by
 have:=encL_set (cI_len .i64) us i y h
 rwa [Nat.mul_one] at this
theorem o_nth {us:List Int} {i:Nat} (h:i < us.length):nthD (encL (cI .i64) us) i=.int .i64 (us.getD i 0):=by
 rw [encIi64_nth h,List.getD_eq_getElem?_getD,List.getElem?_eq_getElem h]; rfl
def ptV (us:Row) (rs:List RR):Bool:=match bkF us,lsAll us with
 | some bs,some (r1,r2,r3,r4)=>JP.partsC us.length (bsK bs) ((r1++r2++r3++r4).map Int.toNat) (flat rs)
 | _,_=>false
theorem ptV_b {us:Row} {rs:List RR} (h:lsAll us=none):ptV us rs=false:=by rw [ptV,h]; cases bkF us <;> rfl
theorem ptV_g {us:Row} {rs:List RR} {bs:List Blk} {r1 r2 r3 r4:Row} (hb:bkF us=some bs) (h:lsAll us=some (r1,r2,r3,r4)):ptV us rs=JP.partsC us.length (bsK bs) ((r1++r2++r3++r4).map Int.toNat) (flat rs):=by rw [ptV,hb,h]
theorem ls_of {us:Row} {bs:List Blk} {r1 r2 r3 r4:Row} (hb:bkF us=some bs) (h:lsAll us=some (r1,r2,r3,r4)):ls1 us bs 1=some r1∧ls1 us bs 2=some r2∧ls1 us bs 3=some r3∧ls1 us bs 4=some r4:=by
 rw [lsAll,hb] at h
 simp only [Option.bind_some,Option.bind_eq_some_iff] at h
 obtain⟨s1,e1,s2,e2,s3,e3,s4,e4,e5⟩:=h
 cases e5
 exact⟨e1,e2,e3,e4⟩
def J5.L (r1 r2 r3 r4:Row):J5→Row
 | .a0=>[]
 | .a1=>r1
 | .a2=>r1++r2
 | .a3=>r1++r2++r3
 | .a4=>r1++r2++r3++r4
theorem co_eq (ov:List Int):coW (encL (cI .i64) ov) ov.length (-1)=ov.contains (-1):=by
 rw [coW,idxW,decIi64_enc,List.take_length,idxI]
 cases h:idxOf ov (-1) with
 | some i =>
   obtain⟨hi,e⟩:=idxOf_lt h
   rw [show xcm .geq ((i:Nat):Int) 0=true from t_geq (by omega)]
   symm; rw [List.contains_iff_mem,← e]; exact List.getElem_mem hi
 | none =>
   rw [show xcm .geq (-1) 0=false from f_geq (by omega)]
   symm; rw [Bool.eq_false_iff]; intro k
   rw [List.contains_iff_mem] at k
   obtain⟨i,hi,e⟩:=List.mem_iff_getElem.1 k
   have:∀ {xs:List Int},idxOf xs (-1)=none→∀ x∈xs,x ≠ -1:=fun {xs}=>by
    induction xs with
    | nil=>intro _ x hx; cases hx
    | cons y r ih =>
      intro q x hx
      rw [idxOf] at q
      split at q
      ·cases q
      ·rename_i hy
       rcases List.mem_cons.1 hx with rfl | hx
       ·exact hy
       ·refine ih ?_ x hx
        cases hr:idxOf r (-1) with
        | none=>rfl
        | some w=>rw [hr] at q; cases q
   exact this h _ k rfl
abbrev jd9:List Src:=[.id 0,.id 1,.id 2,.id 3,.id 4,.id 5,.id 6,.id 7,.id 8]
set_option maxHeartbeats 8000000 in
theorem pr_ok (us:Row) (hu:inU us) (hn:us.length≤100000) (rs:List RR) (F:World→Prop) (hs:∃ W,F W) (hF:∀ W,F W→∀ x∈rs,RowArg W x.1 x.2.length (encL cell x.2)) (hk:rs.length≤1000) (hl:∀ x∈rs,x.2.length≤1000) :
  SFun prog 10 [.slo 0 0 us.length 0,.slo 1 0 rs.length 0] (mkS [.ro (encL (cI .u64) us),.ro (encL valC (rs.map (·.1)))] (factG F)) fun l _=>l=.bool (ptV us rs):=by
 refine SFun.mono (SFun.pieces (Q:=fun l _=>l=.bool (ptV us rs)) 114 2 prL [4] (by kernel_rfl) rfl rfl rfl ?_) fun l s' ⟨b0,h1,_⟩=>h1
 have nu:=noIds_Iu64 us; have lu:=encIu64_len us
 have nv:=noids_val (rs.map (·.1)); have lv:=val_len (rs.map (·.1))
 have o1:okU (encL (cI .u64) us) us.length=true:=okU_iff.2 ⟨us,rfl,rfl,by omega,hu⟩
 have eE:bkE (encL (cI .u64) us)=bkEr us:=by rw [bkE,decIu64_enc]; rfl
 have eN:bkN (encL (cI .u64) us)=(bkL us).length:=by rw [bkN,decIu64_enc]; rfl
 have eC:bkC (encL (cI .u64) us)=encL cB3 (bkL us):=by rw [bkC,decIu64_enc]; rfl
 cases hA:lsAll us with
 | none =>
   have o2:lbW (encL (cI .u64) us) us.length=true:=lbW_iff.2 ⟨us,rfl,rfl,hn,hu,hA⟩
   refine SSp.to cxpB_ok (n:=60) (g:=factG F) 7 7 rfl (σ:=Empty) (fun _=>[]) (fun _=>[]) (mkS_le (Nat.le_of_ble_eq_true rfl)) (by kernel_rfl) ?_ fun z=>nomatch z
   rw [pr_b,ptV_b hA]
   simp only [o1,o2,eE,eN,eC,cond_true]
   cases hb:bkF us with
   | none =>
     rw [(bk_bad hb).2.1]
     (refine zR ?_)
     exact⟨trivial,rfl,_,[.ro _,.ro _],[.id 0,.id 1],rfl,by(exact zC)⟩
   | some bs =>
     rw [(bk_good hb).2.1]
     (refine zR ?_)
     exact⟨trivial,rfl,_,[.ro _,.ro _],[.id 0,.id 1],rfl,by(exact zC)⟩
 | some p =>
   obtain⟨r1,r2,r3,r4⟩:=p
   have o2:lgW (encL (cI .u64) us) us.length=true:=lgW_iff.2 ⟨us,rfl,rfl,hn,hu,by rw [hA]; rfl⟩
   have eD:lsD (encL (cI .u64) us)=(r1,r2,r3,r4):=by rw [lsD,decIu64_enc,hA]; rfl
   have n1:=noIds_Ii64 r1; have n2:=noIds_Ii64 r2; have n3:=noIds_Ii64 r3; have n4:=noIds_Ii64 r4
   obtain⟨h1,h2,h3,h4⟩:=ls_lens2 hA
   cases hb:bkF us with
   | none=>rw [lsAll_b hb] at hA; cases hA
   | some bs =>
   obtain⟨wf,hN⟩:=bkF_wf hb
   obtain⟨g1,g2,g3,g4⟩:=ls_of hb hA
   obtain⟨lnd,lin⟩:=lists_ok wf g1 g2 g3 g4
   have eL:=(bk_good hb).1
   have nb:=noids_b3 bs; have lb:=b3_n bs
   have bn:bs.length≤256:=bkF_n hb
   have eV:=ptV_g (rs:=rs) hb hA
   have hN1:1≤us.length:=by
    by_cases e:us.length=0
    ·have:us=[]:=List.length_eq_zero_iff.1 e
     subst this; cases hb
    ·omega
   have eRk:okRp (us.length:Int)=true:=by simp only [okRp,decide_eq_true_eq]; omega
   have eRn:rpN (us.length:Int)=us.length:=by simp [rpN]
   have eRw:rpW (us.length:Int)=encL (cI .i64) (List.replicate us.length 1):=by simp [rpW]
   have hNl:(List.replicate us.length (1:Int)).length=us.length:=by simp
   generalize hNN:us.length=N at *
   generalize encL (cI .u64) us=wx at *
   have hvn:∀ {i:Nat} (h:i < rs.length),nthD (encL valC (rs.map (·.1))) i=.val rs[i].1:=fun {i} h=>by rw [val_nth (by simpa using h)]; simp
   have hvl:(rs.map (·.1)).length=rs.length:=by simp
   rw [hvl] at lv
   generalize encL valC (rs.map (·.1))=vx at *
   have base1:okM (List.replicate N 1) 1:=fun x hx=>by rw [List.eq_of_mem_replicate hx]; omega
   have nO:=fun xs:List Int=>noIds_Ii64 xs
   have at':∀ b∈bs,∃ p:Nat,b.1=(p:Int)∧p < N:=fun b hb=>by have:=wf.at' b hb; exact⟨b.1.toNat,by omega,by omega⟩
   refine SSp.to cxpG_ok (n:=60) (g:=factG F) 8 8 rfl (σ:=Unit) (fun _=>prA rs.length bs.length N) (fun _=>prH wx vx (encL cB3 bs) r1.length r2.length r3.length r4.length (encL (cI .i64) r1) (encL (cI .i64) r2) (encL (cI .i64) r3) (encL (cI .i64) r4) (encL (cI .i64) (List.replicate N 1))) (mkS_le (Nat.le_of_ble_eq_true rfl)) (by kernel_rfl) ?_ fun _=>?_
   ·rw [pr_a]
    simp only [o1,o2,eE,eN,eC,(bk_good hb).2.1,eL,eRk,eRn,eRw,ln1,ln2,ln3,ln4,lc1,lc2,lc3,lc4,eD,cond_true]
    have nR:=nO (List.replicate N 1)
    (refine zR ?_)
    exact⟨rfl,(),[.id 0,.id 1,.id 2,.id 3,.id 4,.id 5,.id 6,.id 7,.id 9],by(exact zC)⟩
   try dsimp only
   refine SSp.to cxpG_ok (n:=60) (g:=factG F) 1 9 rfl (σ:=Unit) (fun _=>prT rs.length bs.length N 0) (fun _=>prH wx vx (encL cB3 bs) r1.length r2.length r3.length r4.length (encL (cI .i64) r1) (encL (cI .i64) r2) (encL (cI .i64) r3) (encL (cI .i64) r4) (encL (cI .i64) (List.replicate N 1))) (mkS_le (Nat.le_of_ble_eq_true rfl)) (by kernel_rfl) ?_ fun _=>?_
   ·rw [pr_c]
    have nR:=nO (List.replicate N 1)
    exact⟨rfl,(),jd9,by(exact zC)⟩
   try dsimp only
   refine SSp.code_to (g:=factG F) 10 rfl (σ:=Unit) (fun _=>prT rs.length bs.length N bs.length) (fun _=>prH wx vx (encL cB3 bs) r1.length r2.length r3.length r4.length (encL (cI .i64) r1) (encL (cI .i64) r2) (encL (cI .i64) r3) (encL (cI .i64) r4) (encL (cI .i64) (JP.ovB (bsK bs) (List.replicate N 1)))) (by kernel_rfl) ?_ fun _=>?_
   ·refine SCode.loop_vc cxpG_ok (n:=60) (n0:=2) 0 (by kernel_rfl) (σ:={i:Nat // i≤bs.length}) (fun i=>prT rs.length bs.length N i.1) (fun i=>prH wx vx (encL cB3 bs) r1.length r2.length r3.length r4.length (encL (cI .i64) r1) (encL (cI .i64) r2) (encL (cI .i64) r3) (encL (cI .i64) r4) (encL (cI .i64) (JP.ovB (bsK (bs.take i.1)) (List.replicate N 1)))) (fun i=>bs.length - i.1) (fun _=>Nat.le_of_ble_eq_true rfl) (fun⟨i,hi⟩=>?_) ⟨0,Nat.zero_le _⟩
    dsimp only
    rw [pr_d,wd_lss]
    have nR:=nO (JP.ovB (bsK (bs.take i)) (List.replicate N 1))
    refine ite_way (fun h0=>?_) (fun h0=>?_)
    ·have e3:xar .add .i64 (i:Int) 1=((i+1:Nat):Int):=inc_i64 h0 (by omega)
     obtain⟨p,ep,hp⟩:=at' bs[i] (List.getElem_mem h0)
     have eb:bsK (bs.take (i+1))=bsK (bs.take i)++[(p,bs[i].2.2)]:=by
      unfold bsK; rw [List.take_add_one,List.getElem?_eq_getElem h0,Option.toList_some,List.map_append,List.map_cons,List.map_nil,ep,Int.toNat_natCast]
     have oL:(JP.ovB (bsK (bs.take i)) (List.replicate N 1)).length=N:=by rw [JP.ovB_len]; simp
     have s1:=os_set (us:=JP.ovB (bsK (bs.take i)) (List.replicate N 1)) (i:=p) (-1) (by omega)
     have lO:=encIi64_len (JP.ovB (bsK (bs.take i)) (List.replicate N 1))
     have lO2:=encIi64_len ((JP.ovB (bsK (bs.take i)) (List.replicate N 1)).set p (-1))
     have s2:=os_set (us:=(JP.ovB (bsK (bs.take i)) (List.replicate N 1)).set p (-1)) (i:=p) 0 (by simp; omega)
     have eF:=ovB_snoc (bsK (bs.take i)) (p,bs[i].2.2) (List.replicate N 1)
     rw [← eb] at eF
     have nR2:=nO (JP.ovB (bsK (bs.take (i+1))) (List.replicate N 1))
     have sl:((JP.ovB (bsK (bs.take i)) (List.replicate N 1)).set p (-1)).length=N:=by rw [List.length_set,oL]
     cases hv:bs[i].2.2 with
     | true =>
       rw [hv,if_pos rfl] at eF
       rw [List.set_set,← eF] at s2
       simp only [b3_0 h0,b3_1 h0,b3_2' h0,lb,e3,ep,hv,wd_nat,wd_ix,wd_mul,wd_add,Nat.zero_add,Nat.mul_one,wd_asI,wd_isI,wd_asB,wd_isB,s1,s2,wd_ln,lO,lO2,oL,sl,decide_true,cond_true]
       (refine zR ?_)
       exact⟨rfl,⟨i+1,h0⟩,by simp only; omega,jd9,by(exact zC)⟩
     | false =>
       rw [hv,if_neg (by simp)] at eF
       rw [← eF] at s1
       simp only [b3_0 h0,b3_1 h0,b3_2' h0,lb,e3,ep,hv,wd_nat,wd_ix,wd_mul,wd_add,Nat.zero_add,Nat.mul_one,wd_asI,wd_isI,wd_asB,wd_isB,s1,wd_ln,lO,oL,decide_true,cond_true,cond_false]
       (refine zR ?_)
       exact⟨rfl,⟨i+1,h0⟩,by simp only; omega,jd9,by(exact zC)⟩
    ·have ei:i=bs.length:=by omega
     subst ei
     rw [List.take_length] at nR ⊢
     exact⟨rfl,(),jd9,by(exact zC)⟩
   try dsimp only
   obtain⟨base,hbase⟩:∃ base,base=JP.ovB (bsK bs) (List.replicate N 1):=⟨_,rfl⟩
   have bL:base.length=N:=by rw [hbase,JP.ovB_len]; simp
   have bM:okM base 1:=by rw [hbase]; exact okM_ovB _ _ base1
   rw [← hbase]
   refine SSp.to cxpG_ok (n:=60) (g:=factG F) 1 11 rfl (σ:=Unit) (fun _=>prU rs.length N 0) (fun _=>prH wx vx (encL cB3 bs) r1.length r2.length r3.length r4.length (encL (cI .i64) r1) (encL (cI .i64) r2) (encL (cI .i64) r3) (encL (cI .i64) r4) (encL (cI .i64) base)) (mkS_le (Nat.le_of_ble_eq_true rfl)) (by kernel_rfl) ?_ fun _=>?_
   ·rw [pr_e]
    have nR:=nO base
    exact⟨rfl,(),jd9,by(exact zC)⟩
   try dsimp only
   have okF:∀ {x:Int},x∈r1++r2++r3++r4→∃ p:Nat,x=(p:Int)∧p < N:=fun {x} hx=>by
    obtain⟨b,hb',e,_⟩:=lin x hx
    obtain⟨p,e1,e2⟩:=at' b hb'
    exact⟨p,by rw [← e,e1],e2⟩
   refine SSp.code_to (g:=factG F) 12 rfl (σ:=Unit) (fun _=>prU rs.length N 4) (fun _=>prH wx vx (encL cB3 bs) r1.length r2.length r3.length r4.length (encL (cI .i64) r1) (encL (cI .i64) r2) (encL (cI .i64) r3) (encL (cI .i64) r4) (encL (cI .i64) (JP.ovF ((r1++r2++r3++r4).map Int.toNat) base))) (by kernel_rfl) ?_ fun _=>?_
   ·refine SCode.loop_sp 2 (by kernel_rfl) (σ:=J5) (fun p=>prU rs.length N p.v) (fun p=>prH wx vx (encL cB3 bs) r1.length r2.length r3.length r4.length (encL (cI .i64) r1) (encL (cI .i64) r2) (encL (cI .i64) r3) (encL (cI .i64) r4) (encL (cI .i64) (JP.ovF ((p.L r1 r2 r3 r4).map Int.toNat) base))) (fun p=>p.m) (fun _=>Nat.le_of_ble_eq_true rfl) (fun p=>?_) .a0
    cases p <;> dsimp only [J5.v,J5.L]
    ·have nR:=nO (JP.ovF (([]:Row).map Int.toNat) base)
     refine SSp.to cxpG_ok (n:=60) (g:=factG F) 2 2 rfl (σ:=Unit) (fun _=>prU rs.length N 0) (fun _=>prH wx vx (encL cB3 bs) r1.length r2.length r3.length r4.length (encL (cI .i64) r1) (encL (cI .i64) r2) (encL (cI .i64) r3) (encL (cI .i64) r4) (encL (cI .i64) (JP.ovF (([]:Row).map Int.toNat) base))) (mkS_le (Nat.le_of_ble_eq_true rfl)) (by kernel_rfl) ?_ fun _=>?_
     ·rw [pr_o0]
      (refine zR ?_)
      exact⟨rfl,(),jd9,by(exact zC)⟩
     try dsimp only
     refine SSp.code_to (g:=factG F) 3 rfl (σ:=Unit) (fun _=>prU rs.length N 0) (fun _=>prH wx vx (encL cB3 bs) r1.length r2.length r3.length r4.length (encL (cI .i64) r1) (encL (cI .i64) r2) (encL (cI .i64) r3) (encL (cI .i64) r4) (encL (cI .i64) (JP.ovF (r1.map Int.toNat) base))) (by kernel_rfl) ?_ fun _=>?_
     ·refine SCode.block_sp 3 (by kernel_rfl) ?_
      refine SSp.to cxpG_ok (n:=60) (g:=factG F) 2 2 rfl (σ:=Unit) (fun _=>prV rs.length N 0 4 r1.length 0) (fun _=>prH wx vx (encL cB3 bs) r1.length r2.length r3.length r4.length (encL (cI .i64) r1) (encL (cI .i64) r2) (encL (cI .i64) r3) (encL (cI .i64) r4) (encL (cI .i64) (JP.ovF (([]:Row).map Int.toNat) base))) (mkS_le (Nat.le_of_ble_eq_true rfl)) (by kernel_rfl) ?_ fun _=>?_
      ·rw [pr_p0]
       (refine zR ?_)
       exact⟨rfl,(),jd9,by(exact zC)⟩
      try dsimp only
      refine SSp.code_last (by kernel_rfl) ?_
      have e0:JP.ovF (([]:Row).map Int.toNat) base=JP.ovF ((r1.take 0).map Int.toNat) base:=by simp
      rw [e0]
      refine SCode.loop_vc cxpG_ok (n:=60) (n0:=2) 4 (by kernel_rfl) (σ:={j:Nat // j≤r1.length}) (fun j=>prV rs.length N 0 4 r1.length j.1) (fun j=>prH wx vx (encL cB3 bs) r1.length r2.length r3.length r4.length (encL (cI .i64) r1) (encL (cI .i64) r2) (encL (cI .i64) r3) (encL (cI .i64) r4) (encL (cI .i64) (JP.ovF ((r1.take j.1).map Int.toNat) base))) (fun j=>r1.length - j.1) (fun _=>Nat.le_of_ble_eq_true rfl) (fun⟨j,hj⟩=>?_) ⟨0,Nat.zero_le _⟩
      dsimp only
      have nR3:=nO (JP.ovF ((r1.take j).map Int.toNat) base)
      rw [pr_l0,wd_lss]
      refine ite_way (fun h0=>?_) (fun h0=>?_)
      ·have e3:xar .add .i64 (j:Int) 1=((j+1:Nat):Int):=inc_i64 h0 (by omega)
       obtain⟨p,ep,hp⟩:=okF (x:=r1[j]) (List.mem_append_left _ (List.mem_append_left _ (List.mem_append_left _ (List.getElem_mem h0))))
       have oL:(JP.ovF ((r1.take j).map Int.toNat) base).length=N:=by rw [JP.ovF_len,bL]
       have oM:=okM_ovF ((r1.take j).map Int.toNat) base 1 (by omega) bM
       have oB:=okM_get oM (by omega) p
       have oN:(((r1.take j).map Int.toNat).length:Int)≤2000:=by simp; omega
       have eS:JP.ovF ((r1.take (j+1)).map Int.toNat) base=(JP.ovF ((r1.take j).map Int.toNat) base).set p ((JP.ovF ((r1.take j).map Int.toNat) base).getD p 0+1):=by
        have:(r1.take (j+1)).map Int.toNat=(r1.take j).map Int.toNat++[p]:=by
         rw [List.take_add_one,List.getElem?_eq_getElem h0,ep]; simp
        rw [this,ovF_app]; rfl
       generalize JP.ovF ((r1.take j).map Int.toNat) base=ov at *
       have eA:xar .add .i64 (ov.getD p 0) 1=ov.getD p 0+1:=add_i64 (by omega) (by omega)
       have s1:=os_set (us:=ov) (i:=p) (ov.getD p 0+1) (by omega)
       rw [← eS] at s1
       have nR4:=nO (JP.ovF ((r1.take (j+1)).map Int.toNat) base)
       simp only [encIi64_nth h0,encIi64_len,e3,ep,wd_nat,wd_ix,wd_mul,wd_add,Nat.zero_add,Nat.mul_one,wd_asI,wd_isI,o_nth (us:=ov) (i:=p) (by omega),eA,s1,wd_ln,oL,decide_true,cond_true]
       (refine zR ?_)
       exact⟨rfl,⟨j+1,h0⟩,by simp only; omega,jd9,by(exact zC)⟩
      ·have ej:j=r1.length:=by omega
       subst ej
       rw [List.take_length] at nR3 ⊢
       exact⟨rfl,(),jd9,by(exact zC)⟩
     try dsimp only
     have nR2:=nO (JP.ovF (r1.map Int.toNat) base)
     refine zE cxpG_ok ?_
     rw [pr_q0]
     exact⟨rfl,.a1,by simp only [J5.m]; omega,jd9,by dsimp only [J5.v,J5.L]; (exact zC)⟩
    ·have nR:=nO (JP.ovF (r1.map Int.toNat) base)
     refine SSp.to cxpG_ok (n:=60) (g:=factG F) 2 2 rfl (σ:=Unit) (fun _=>prU rs.length N 1) (fun _=>prH wx vx (encL cB3 bs) r1.length r2.length r3.length r4.length (encL (cI .i64) r1) (encL (cI .i64) r2) (encL (cI .i64) r3) (encL (cI .i64) r4) (encL (cI .i64) (JP.ovF (r1.map Int.toNat) base))) (mkS_le (Nat.le_of_ble_eq_true rfl)) (by kernel_rfl) ?_ fun _=>?_
     ·rw [pr_o1]
      (refine zR ?_)
      exact⟨rfl,(),jd9,by(exact zC)⟩
     try dsimp only
     refine SSp.code_to (g:=factG F) 3 rfl (σ:=Unit) (fun _=>prU rs.length N 1) (fun _=>prH wx vx (encL cB3 bs) r1.length r2.length r3.length r4.length (encL (cI .i64) r1) (encL (cI .i64) r2) (encL (cI .i64) r3) (encL (cI .i64) r4) (encL (cI .i64) (JP.ovF ((r1++r2).map Int.toNat) base))) (by kernel_rfl) ?_ fun _=>?_
     ·refine SCode.block_sp 3 (by kernel_rfl) ?_
      refine SSp.to cxpG_ok (n:=60) (g:=factG F) 2 2 rfl (σ:=Unit) (fun _=>prV rs.length N 1 5 r2.length 0) (fun _=>prH wx vx (encL cB3 bs) r1.length r2.length r3.length r4.length (encL (cI .i64) r1) (encL (cI .i64) r2) (encL (cI .i64) r3) (encL (cI .i64) r4) (encL (cI .i64) (JP.ovF (r1.map Int.toNat) base))) (mkS_le (Nat.le_of_ble_eq_true rfl)) (by kernel_rfl) ?_ fun _=>?_
      ·rw [pr_p1]
       (refine zR ?_)
       exact⟨rfl,(),jd9,by(exact zC)⟩
      try dsimp only
      refine SSp.code_last (by kernel_rfl) ?_
      have e0:JP.ovF (r1.map Int.toNat) base=JP.ovF ((r1++r2.take 0).map Int.toNat) base:=by simp
      rw [e0]
      refine SCode.loop_vc cxpG_ok (n:=60) (n0:=2) 4 (by kernel_rfl) (σ:={j:Nat // j≤r2.length}) (fun j=>prV rs.length N 1 5 r2.length j.1) (fun j=>prH wx vx (encL cB3 bs) r1.length r2.length r3.length r4.length (encL (cI .i64) r1) (encL (cI .i64) r2) (encL (cI .i64) r3) (encL (cI .i64) r4) (encL (cI .i64) (JP.ovF ((r1++r2.take j.1).map Int.toNat) base))) (fun j=>r2.length - j.1) (fun _=>Nat.le_of_ble_eq_true rfl) (fun⟨j,hj⟩=>?_) ⟨0,Nat.zero_le _⟩
      dsimp only
      have nR3:=nO (JP.ovF ((r1++r2.take j).map Int.toNat) base)
      rw [pr_l1,wd_lss]
      refine ite_way (fun h0=>?_) (fun h0=>?_)
      ·have e3:xar .add .i64 (j:Int) 1=((j+1:Nat):Int):=inc_i64 h0 (by omega)
       obtain⟨p,ep,hp⟩:=okF (x:=r2[j]) (List.mem_append_left _ (List.mem_append_left _ (List.mem_append_right _ (List.getElem_mem h0))))
       have oL:(JP.ovF ((r1++r2.take j).map Int.toNat) base).length=N:=by rw [JP.ovF_len,bL]
       have oM:=okM_ovF ((r1++r2.take j).map Int.toNat) base 1 (by omega) bM
       have oB:=okM_get oM (by omega) p
       have oN:(((r1++r2.take j).map Int.toNat).length:Int)≤2000:=by simp; omega
       have eS:JP.ovF ((r1++r2.take (j+1)).map Int.toNat) base=(JP.ovF ((r1++r2.take j).map Int.toNat) base).set p ((JP.ovF ((r1++r2.take j).map Int.toNat) base).getD p 0+1):=by
        have:(r1++r2.take (j+1)).map Int.toNat=(r1++r2.take j).map Int.toNat++[p]:=by
         rw [List.take_add_one,List.getElem?_eq_getElem h0,ep]; simp
        rw [this,ovF_app]; rfl
       generalize JP.ovF ((r1++r2.take j).map Int.toNat) base=ov at *
       have eA:xar .add .i64 (ov.getD p 0) 1=ov.getD p 0+1:=add_i64 (by omega) (by omega)
       have s1:=os_set (us:=ov) (i:=p) (ov.getD p 0+1) (by omega)
       rw [← eS] at s1
       have nR4:=nO (JP.ovF ((r1++r2.take (j+1)).map Int.toNat) base)
       simp only [encIi64_nth h0,encIi64_len,e3,ep,wd_nat,wd_ix,wd_mul,wd_add,Nat.zero_add,Nat.mul_one,wd_asI,wd_isI,o_nth (us:=ov) (i:=p) (by omega),eA,s1,wd_ln,oL,decide_true,cond_true]
       (refine zR ?_)
       exact⟨rfl,⟨j+1,h0⟩,by simp only; omega,jd9,by(exact zC)⟩
      ·have ej:j=r2.length:=by omega
       subst ej
       rw [List.take_length] at nR3 ⊢
       exact⟨rfl,(),jd9,by(exact zC)⟩
     try dsimp only
     have nR2:=nO (JP.ovF ((r1++r2).map Int.toNat) base)
     refine zE cxpG_ok ?_
     rw [pr_q1]
     exact⟨rfl,.a2,by simp only [J5.m]; omega,jd9,by dsimp only [J5.v,J5.L]; (exact zC)⟩
    ·have nR:=nO (JP.ovF ((r1++r2).map Int.toNat) base)
     refine SSp.to cxpG_ok (n:=60) (g:=factG F) 2 2 rfl (σ:=Unit) (fun _=>prU rs.length N 2) (fun _=>prH wx vx (encL cB3 bs) r1.length r2.length r3.length r4.length (encL (cI .i64) r1) (encL (cI .i64) r2) (encL (cI .i64) r3) (encL (cI .i64) r4) (encL (cI .i64) (JP.ovF ((r1++r2).map Int.toNat) base))) (mkS_le (Nat.le_of_ble_eq_true rfl)) (by kernel_rfl) ?_ fun _=>?_
     ·rw [pr_o2]
      (refine zR ?_)
      exact⟨rfl,(),jd9,by(exact zC)⟩
     try dsimp only
     refine SSp.code_to (g:=factG F) 3 rfl (σ:=Unit) (fun _=>prU rs.length N 2) (fun _=>prH wx vx (encL cB3 bs) r1.length r2.length r3.length r4.length (encL (cI .i64) r1) (encL (cI .i64) r2) (encL (cI .i64) r3) (encL (cI .i64) r4) (encL (cI .i64) (JP.ovF ((r1++r2++r3).map Int.toNat) base))) (by kernel_rfl) ?_ fun _=>?_
     ·refine SCode.block_sp 3 (by kernel_rfl) ?_
      refine SSp.to cxpG_ok (n:=60) (g:=factG F) 2 2 rfl (σ:=Unit) (fun _=>prV rs.length N 2 6 r3.length 0) (fun _=>prH wx vx (encL cB3 bs) r1.length r2.length r3.length r4.length (encL (cI .i64) r1) (encL (cI .i64) r2) (encL (cI .i64) r3) (encL (cI .i64) r4) (encL (cI .i64) (JP.ovF ((r1++r2).map Int.toNat) base))) (mkS_le (Nat.le_of_ble_eq_true rfl)) (by kernel_rfl) ?_ fun _=>?_
      ·rw [pr_p2]
       (refine zR ?_)
       exact⟨rfl,(),jd9,by(exact zC)⟩
      try dsimp only
      refine SSp.code_last (by kernel_rfl) ?_
      have e0:JP.ovF ((r1++r2).map Int.toNat) base=JP.ovF ((r1++r2++r3.take 0).map Int.toNat) base:=by simp
      rw [e0]
      refine SCode.loop_vc cxpG_ok (n:=60) (n0:=2) 4 (by kernel_rfl) (σ:={j:Nat // j≤r3.length}) (fun j=>prV rs.length N 2 6 r3.length j.1) (fun j=>prH wx vx (encL cB3 bs) r1.length r2.length r3.length r4.length (encL (cI .i64) r1) (encL (cI .i64) r2) (encL (cI .i64) r3) (encL (cI .i64) r4) (encL (cI .i64) (JP.ovF ((r1++r2++r3.take j.1).map Int.toNat) base))) (fun j=>r3.length - j.1) (fun _=>Nat.le_of_ble_eq_true rfl) (fun⟨j,hj⟩=>?_) ⟨0,Nat.zero_le _⟩
      dsimp only
      have nR3:=nO (JP.ovF ((r1++r2++r3.take j).map Int.toNat) base)
      rw [pr_l2,wd_lss]
      refine ite_way (fun h0=>?_) (fun h0=>?_)
      ·have e3:xar .add .i64 (j:Int) 1=((j+1:Nat):Int):=inc_i64 h0 (by omega)
       obtain⟨p,ep,hp⟩:=okF (x:=r3[j]) (List.mem_append_left _ (List.mem_append_right _ (List.getElem_mem h0)))
       have oL:(JP.ovF ((r1++r2++r3.take j).map Int.toNat) base).length=N:=by rw [JP.ovF_len,bL]
       have oM:=okM_ovF ((r1++r2++r3.take j).map Int.toNat) base 1 (by omega) bM
       have oB:=okM_get oM (by omega) p
       have oN:(((r1++r2++r3.take j).map Int.toNat).length:Int)≤2000:=by simp; omega
       have eS:JP.ovF ((r1++r2++r3.take (j+1)).map Int.toNat) base=(JP.ovF ((r1++r2++r3.take j).map Int.toNat) base).set p ((JP.ovF ((r1++r2++r3.take j).map Int.toNat) base).getD p 0+1):=by
        have:(r1++r2++r3.take (j+1)).map Int.toNat=(r1++r2++r3.take j).map Int.toNat++[p]:=by
         rw [List.take_add_one,List.getElem?_eq_getElem h0,ep]; simp
        rw [this,ovF_app]; rfl
       generalize JP.ovF ((r1++r2++r3.take j).map Int.toNat) base=ov at *
       have eA:xar .add .i64 (ov.getD p 0) 1=ov.getD p 0+1:=add_i64 (by omega) (by omega)
       have s1:=os_set (us:=ov) (i:=p) (ov.getD p 0+1) (by omega)
       rw [← eS] at s1
       have nR4:=nO (JP.ovF ((r1++r2++r3.take (j+1)).map Int.toNat) base)
       simp only [encIi64_nth h0,encIi64_len,e3,ep,wd_nat,wd_ix,wd_mul,wd_add,Nat.zero_add,Nat.mul_one,wd_asI,wd_isI,o_nth (us:=ov) (i:=p) (by omega),eA,s1,wd_ln,oL,decide_true,cond_true]
       (refine zR ?_)
       exact⟨rfl,⟨j+1,h0⟩,by simp only; omega,jd9,by(exact zC)⟩
      ·have ej:j=r3.length:=by omega
       subst ej
       rw [List.take_length] at nR3 ⊢
       exact⟨rfl,(),jd9,by(exact zC)⟩
     try dsimp only
     have nR2:=nO (JP.ovF ((r1++r2++r3).map Int.toNat) base)
     refine zE cxpG_ok ?_
     rw [pr_q2]
     exact⟨rfl,.a3,by simp only [J5.m]; omega,jd9,by dsimp only [J5.v,J5.L]; (exact zC)⟩
    ·have nR:=nO (JP.ovF ((r1++r2++r3).map Int.toNat) base)
     refine SSp.to cxpG_ok (n:=60) (g:=factG F) 2 2 rfl (σ:=Unit) (fun _=>prU rs.length N 3) (fun _=>prH wx vx (encL cB3 bs) r1.length r2.length r3.length r4.length (encL (cI .i64) r1) (encL (cI .i64) r2) (encL (cI .i64) r3) (encL (cI .i64) r4) (encL (cI .i64) (JP.ovF ((r1++r2++r3).map Int.toNat) base))) (mkS_le (Nat.le_of_ble_eq_true rfl)) (by kernel_rfl) ?_ fun _=>?_
     ·rw [pr_o3]
      (refine zR ?_)
      exact⟨rfl,(),jd9,by(exact zC)⟩
     try dsimp only
     refine SSp.code_to (g:=factG F) 3 rfl (σ:=Unit) (fun _=>prU rs.length N 3) (fun _=>prH wx vx (encL cB3 bs) r1.length r2.length r3.length r4.length (encL (cI .i64) r1) (encL (cI .i64) r2) (encL (cI .i64) r3) (encL (cI .i64) r4) (encL (cI .i64) (JP.ovF ((r1++r2++r3++r4).map Int.toNat) base))) (by kernel_rfl) ?_ fun _=>?_
     ·refine SCode.block_sp 3 (by kernel_rfl) ?_
      refine SSp.to cxpG_ok (n:=60) (g:=factG F) 2 2 rfl (σ:=Unit) (fun _=>prV rs.length N 3 7 r4.length 0) (fun _=>prH wx vx (encL cB3 bs) r1.length r2.length r3.length r4.length (encL (cI .i64) r1) (encL (cI .i64) r2) (encL (cI .i64) r3) (encL (cI .i64) r4) (encL (cI .i64) (JP.ovF ((r1++r2++r3).map Int.toNat) base))) (mkS_le (Nat.le_of_ble_eq_true rfl)) (by kernel_rfl) ?_ fun _=>?_
      ·rw [pr_p3]
       (refine zR ?_)
       exact⟨rfl,(),jd9,by(exact zC)⟩
      try dsimp only
      refine SSp.code_last (by kernel_rfl) ?_
      have e0:JP.ovF ((r1++r2++r3).map Int.toNat) base=JP.ovF ((r1++r2++r3++r4.take 0).map Int.toNat) base:=by simp
      rw [e0]
      refine SCode.loop_vc cxpG_ok (n:=60) (n0:=2) 4 (by kernel_rfl) (σ:={j:Nat // j≤r4.length}) (fun j=>prV rs.length N 3 7 r4.length j.1) (fun j=>prH wx vx (encL cB3 bs) r1.length r2.length r3.length r4.length (encL (cI .i64) r1) (encL (cI .i64) r2) (encL (cI .i64) r3) (encL (cI .i64) r4) (encL (cI .i64) (JP.ovF ((r1++r2++r3++r4.take j.1).map Int.toNat) base))) (fun j=>r4.length - j.1) (fun _=>Nat.le_of_ble_eq_true rfl) (fun⟨j,hj⟩=>?_) ⟨0,Nat.zero_le _⟩
      dsimp only
      have nR3:=nO (JP.ovF ((r1++r2++r3++r4.take j).map Int.toNat) base)
      rw [pr_l3,wd_lss]
      refine ite_way (fun h0=>?_) (fun h0=>?_)
      ·have e3:xar .add .i64 (j:Int) 1=((j+1:Nat):Int):=inc_i64 h0 (by omega)
       obtain⟨p,ep,hp⟩:=okF (x:=r4[j]) (List.mem_append_right _ (List.getElem_mem h0))
       have oL:(JP.ovF ((r1++r2++r3++r4.take j).map Int.toNat) base).length=N:=by rw [JP.ovF_len,bL]
       have oM:=okM_ovF ((r1++r2++r3++r4.take j).map Int.toNat) base 1 (by omega) bM
       have oB:=okM_get oM (by omega) p
       have oN:(((r1++r2++r3++r4.take j).map Int.toNat).length:Int)≤2000:=by simp; omega
       have eS:JP.ovF ((r1++r2++r3++r4.take (j+1)).map Int.toNat) base=(JP.ovF ((r1++r2++r3++r4.take j).map Int.toNat) base).set p ((JP.ovF ((r1++r2++r3++r4.take j).map Int.toNat) base).getD p 0+1):=by
        have:(r1++r2++r3++r4.take (j+1)).map Int.toNat=(r1++r2++r3++r4.take j).map Int.toNat++[p]:=by
         rw [List.take_add_one,List.getElem?_eq_getElem h0,ep]; simp
        rw [this,ovF_app]; rfl
       generalize JP.ovF ((r1++r2++r3++r4.take j).map Int.toNat) base=ov at *
       have eA:xar .add .i64 (ov.getD p 0) 1=ov.getD p 0+1:=add_i64 (by omega) (by omega)
       have s1:=os_set (us:=ov) (i:=p) (ov.getD p 0+1) (by omega)
       rw [← eS] at s1
       have nR4:=nO (JP.ovF ((r1++r2++r3++r4.take (j+1)).map Int.toNat) base)
       simp only [encIi64_nth h0,encIi64_len,e3,ep,wd_nat,wd_ix,wd_mul,wd_add,Nat.zero_add,Nat.mul_one,wd_asI,wd_isI,o_nth (us:=ov) (i:=p) (by omega),eA,s1,wd_ln,oL,decide_true,cond_true]
       (refine zR ?_)
       exact⟨rfl,⟨j+1,h0⟩,by simp only; omega,jd9,by(exact zC)⟩
      ·have ej:j=r4.length:=by omega
       subst ej
       rw [List.take_length] at nR3 ⊢
       exact⟨rfl,(),jd9,by(exact zC)⟩
     try dsimp only
     have nR2:=nO (JP.ovF ((r1++r2++r3++r4).map Int.toNat) base)
     refine zE cxpG_ok ?_
     rw [pr_q3]
     exact⟨rfl,.a4,by simp only [J5.m]; omega,jd9,by dsimp only [J5.v,J5.L]; (exact zC)⟩
    ·have nR:=nO (JP.ovF ((r1++r2++r3++r4).map Int.toNat) base)
     refine SSp.to cxpG_ok (n:=60) (g:=factG F) 2 2 rfl (σ:=Empty) (fun _=>[]) (fun _=>[]) (mkS_le (Nat.le_of_ble_eq_true rfl)) (by kernel_rfl) ?_ fun z=>nomatch z
     rw [pr_o4]
     (refine zR ?_)
     exact⟨rfl,(),jd9,by(exact zC)⟩
   try dsimp only
   have base2:okM (JP.ovF ((r1++r2++r3++r4).map Int.toNat) base) 2000:=fun x hx=>by
    have:=okM_ovF _ _ 1 (by omega) bM x hx
    simp at this; omega
   have b2L:(JP.ovF ((r1++r2++r3++r4).map Int.toNat) base).length=N:=by rw [JP.ovF_len,bL]
   have eP:JP.partsC N (bsK bs) ((r1++r2++r3++r4).map Int.toNat) (flat rs)=(match JP.ovR (flat rs) (JP.ovF ((r1++r2++r3++r4).map Int.toNat) base) with | none=>false | some ov=>!ov.contains (-1)):=by rw [hbase]; rfl
   rw [eP] at eV
   clear eP
   generalize JP.ovF ((r1++r2++r3++r4).map Int.toNat) base=base' at *
   refine SSp.to cxpG_ok (n:=60) (g:=factG F) 1 13 rfl (σ:=Unit) (fun _=>prX rs.length N 0) (fun _=>prI wx vx (encL (cI .i64) base')) (mkS_le (Nat.le_of_ble_eq_true rfl)) (by kernel_rfl) ?_ fun _=>?_
   ·rw [pr_f]
    have nR:=nO base'
    exact⟨rfl,(),[.id 0,.id 1,.id 8],by(exact zC)⟩
   try dsimp only
   refine SSp.code_to (g:=factG F) 14 rfl (σ:={ov:List Int // JP.ovR (flat rs) base'=some ov}) (fun _=>prZ N) (fun ov=>prI wx vx (encL (cI .i64) ov.1)) (by kernel_rfl) ?_ fun⟨ov,ho⟩=>?_
   ·refine SCode.loop_sp 6 (by kernel_rfl) (σ:={q:Nat×List Int // q.1≤rs.length∧JP.ovR (flat (rs.take q.1)) base'=some q.2}) (fun q=>prX rs.length N q.1.1) (fun q=>prI wx vx (encL (cI .i64) q.1.2)) (fun q=>rs.length - q.1.1) (fun _=>Nat.le_of_ble_eq_true rfl) (fun⟨⟨i,ov⟩,hi,ho⟩=>?_) ⟨(0,base'),Nat.zero_le _,rfl⟩
    dsimp only at hi ho ⊢
    have nR:=nO ov
    refine SSp.to cxpG_ok (n:=60) (g:=factG F) 2 2 rfl (σ:={_u:Unit // i < rs.length}) (fun _=>prX rs.length N i) (fun _=>prI wx vx (encL (cI .i64) ov)) (mkS_le (Nat.le_of_ble_eq_true rfl)) (by kernel_rfl) ?_ fun⟨_,h0⟩=>?_
    ·rw [pr_g,wd_lss]
     refine ite_way (fun h0=>⟨rfl,⟨(),h0⟩,[.id 0,.id 1,.id 2],by(exact zC)⟩) (fun h0=>?_)
     have ei:i=rs.length:=by omega
     subst ei
     rw [List.take_length] at ho
     exact⟨rfl,⟨ov,ho⟩,[.id 0,.id 1,.id 2],by(exact zC)⟩
    try dsimp only
    have hm:=List.getElem_mem h0
    have hrow:=fun W hW=>hF W hW rs[i] hm
    have hlen:=hl rs[i] hm
    obtain⟨W1,hW1⟩:=hs
    have evl:xvl rs[i].1=rs[i].2.length:=vlen_row (hrow W1 hW1)
    refine SSp.code_to (g:=factG F) 3 rfl (σ:={ov':List Int // JP.ovR (flat (rs.take (i+1))) base'=some ov'}) (fun _=>prX rs.length N i) (fun ov'=>prI wx vx (encL (cI .i64) ov'.1)) (by kernel_rfl) ?_ fun⟨ov',ho'⟩=>?_
    ·refine SCode.block_sp 7 (by kernel_rfl) ?_
     refine SSp.to cxpG_ok (n:=60) (g:=factG F) 2 2 rfl (σ:=Unit) (fun _=>prY rs.length N i rs[i].1 rs[i].2.length 0) (fun _=>prI wx vx (encL (cI .i64) ov)) (mkS_le (Nat.le_of_ble_eq_true rfl)) (by kernel_rfl) ?_ fun _=>?_
     ·rw [pr_h]
      simp only [wd_nat,wd_ix,wd_mul,wd_add,wd_ln,Nat.zero_add,Nat.mul_one,hvn h0,wd_asV,wd_isV,evl,lv,cond_true]
      (refine zR ?_)
      exact⟨rfl,(),[.id 0,.id 1,.id 2],by(exact zC)⟩
     try dsimp only
     refine SSp.code_last (by kernel_rfl) ?_
     refine SCode.loop_vc cxpG_ok (n:=60) (n0:=2) 8 (by kernel_rfl) (σ:={q:Nat×List Int // q.1≤rs[i].2.length∧JP.ovR (flat (rs.take i)++(rs[i].2.take q.1).map (·.1)) base'=some q.2}) (fun q=>prY rs.length N i rs[i].1 rs[i].2.length q.1.1) (fun q=>prI wx vx (encL (cI .i64) q.1.2)) (fun q=>rs[i].2.length - q.1.1) (fun _=>Nat.le_of_ble_eq_true rfl) (fun⟨⟨j,ov⟩,hj,hq⟩=>?_) ⟨(0,ov),Nat.zero_le _,by simpa using ho⟩
     dsimp only at hj hq ⊢
     have nR:=nO ov
     rw [pr_i]; simp only [pr_i_b1]; rw [wd_lss]
     refine ite_way (fun g0=>?_) (fun g0=>?_)
     ·have e3:xar .add .i64 (j:Int) 1=((j+1:Nat):Int):=inc_i64 g0 (by omega)
      obtain⟨tl,efl⟩:=flat_split h0 g0
      obtain⟨k1,k2⟩:=vrow_eq ⟨W1,hW1⟩ hrow (can_c rs[i].2) (k:=j * 2) (m:=2) (by rw [cell_n]; omega) (by omega)
      rw [cell_cut g0] at k2
      have kx:=vidx_row (hrow W1 hW1) g0
      have c0:nthD [LV.int .i64 rs[i].2[j].1,LV.int .u64 rs[i].2[j].2] 0=.int .i64 rs[i].2[j].1:=rfl
      have c1:nthD [LV.int .i64 rs[i].2[j].1,LV.int .u64 rs[i].2[j].2] 1=.int .u64 rs[i].2[j].2:=rfl
      have c2:xln [LV.int .i64 rs[i].2[j].1,LV.int .u64 rs[i].2[j].2]=2:=rfl
      have oL:ov.length=N:=by rw [ovR_len _ _ _ hq,b2L]
      have oM:=okM_ovR (by omega) _ _ _ base2 hq
      have enext:(rs[i].2.take (j+1)).map (·.1)=(rs[i].2.take j).map (·.1)++[rs[i].2[j].1]:=by
       rw [List.take_add_one,List.getElem?_eq_getElem g0,Option.toList_some,List.map_append,List.map_cons,List.map_nil]
      generalize rs[i].2[j].2=st at *
      generalize rs[i].2[j].1=a at *
      by_cases ca:a < 0
      ·have eT:ptV us rs=false:=by rw [eV,efl,ovR_fail hq (.inl ca)]
       rw [eT]
       simp only [kx,k1,k2,c0,c1,c2,wd_nat,wd_mul,wd_asI,wd_isI,decide_true,cond_true]
       (refine zR ?_)
       exact⟨trivial,rfl,_,[.ro _,.ro _],[.id 0,.id 1],rfl,by(exact zC)⟩
      by_cases cb:(N:Int)≤a
      ·have eT:ptV us rs=false:=by rw [eV,efl,ovR_fail hq (.inr (.inl (by omega)))]
       rw [eT]
       simp only [kx,k1,k2,c0,c1,c2,wd_nat,wd_mul,wd_asI,wd_isI,decide_true,cond_true]
       (refine zR ?_)
       exact⟨trivial,rfl,_,[.ro _,.ro _],[.id 0,.id 1],rfl,by(exact zC)⟩
      obtain⟨p,rfl⟩:∃ p:Nat,a=(p:Int):=⟨a.toNat,by omega⟩
      have hp:p < ov.length:=by omega
      have oB:=okM_get oM (by omega) p
      have eA:xar .add .i64 (ov.getD p 0) 1=ov.getD p 0+1:=add_i64 (by omega) (by omega)
      have s1:=os_set (us:=ov) (i:=p) (ov.getD p 0+1) hp
      have eI:ov.set p (ov.getD p 0+1)=JP.inc ov p:=rfl
      rw [eI] at s1
      have gI:nthD (encL (cI .i64) (JP.inc ov p)) p=.int .i64 (ov.getD p 0+1):=by
       rw [o_nth (by rw [JP.inc_len]; exact hp)]
       congr 1
       unfold JP.inc; rw [JP.set_getD,if_pos ⟨rfl,hp⟩]
      have nR4:=nO (JP.inc ov p)
      have lI:(encL (cI .i64) (JP.inc ov p)).length=N:=by rw [encIi64_len,JP.inc_len,oL]
      have lO:(encL (cI .i64) ov).length=N:=by rw [encIi64_len,oL]
      by_cases cc:0 < ov.getD p 0+1
      ·have eT:ptV us rs=false:=by rw [eV,efl,ovR_fail hq (.inr (.inr (by rw [Int.toNat_natCast]; exact cc)))]
       rw [eT]
       simp only [kx,k1,k2,c0,c1,c2,wd_nat,wd_mul,wd_ix,wd_add,Nat.zero_add,Nat.mul_one,wd_asI,wd_isI,o_nth hp,eA,s1,gI,wd_ln,lI,lO,decide_true,cond_true]
       (refine zR ?_)
       exact⟨trivial,rfl,_,[.ro _,.ro _],[.id 0,.id 1],rfl,by(exact zC)⟩
      ·have hS:=ovR_snoc hq (a:=(p:Int)) (by omega) (by omega) (by rw [Int.toNat_natCast]; omega)
       rw [Int.toNat_natCast] at hS
       simp only [kx,k1,k2,c0,c1,c2,wd_nat,wd_mul,wd_ix,wd_add,Nat.zero_add,Nat.mul_one,wd_asI,wd_isI,o_nth hp,eA,s1,gI,wd_ln,lI,lO,e3,decide_true,cond_true]
       (refine zR ?_)
       exact⟨rfl,⟨(j+1,JP.inc ov p),g0,by dsimp only; rw [enext,← List.append_assoc]; exact hS⟩,by simp only; omega,[.id 0,.id 1,.id 2],by(exact zC)⟩
     ·have ej:j=rs[i].2.length:=by omega
      subst ej
      rw [List.take_length,← flat_succ h0] at hq
      exact⟨rfl,⟨ov,hq⟩,[.id 0,.id 1,.id 2],by(exact zC)⟩
    try dsimp only
    have nR2:=nO ov'
    refine zE cxpG_ok ?_
    rw [pr_j]
    have e3:xar .add .i64 (i:Int) 1=((i+1:Nat):Int):=inc_i64 h0 (by omega)
    rw [e3]
    exact⟨rfl,⟨(i+1,ov'),h0,ho'⟩,by simp only; omega,[.id 0,.id 1,.id 2],by(exact zC)⟩
   try dsimp only
   have nR:=nO ov
   have oL:ov.length=N:=by rw [ovR_len _ _ _ ho,b2L]
   have okx:okX (encL (cI .i64) ov) N=true:=okX_iff.2 ⟨ov,rfl,by omega,by omega⟩
   have eCo:=co_eq ov
   rw [oL] at eCo
   refine zE cxpG_ok ?_
   rw [pr_z,eV,ho]
   simp only [okx,eCo,cond_true]
   exact⟨trivial,rfl,_,[.ro _,.ro _],[.id 0,.id 1],rfl,by(exact zC)⟩
end
end Go.Lev
