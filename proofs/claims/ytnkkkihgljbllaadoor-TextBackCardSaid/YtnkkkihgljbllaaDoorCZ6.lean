/- strings.Builder: its contracts over any state -/
import Derived.Test.YtnkkkihgljbllaaDoorCZ5
namespace Go.Lev
set_option linter.unusedSimpArgs false
set_option linter.unusedVariables false
open Go.RowKit
open Go.Proofs.Tryd (prog)
theorem st_fun {F:OP} (hF:F.isBld=true) (l:List UInt8) (hl:l.length≤1000000) (g:Glb):SFun prog 28 [.ptr 0 0] (mkS (bld0 F l 63 5) g)
  fun a s'=>a=.str l∧s'=mkS [.dead,.dead] g:=by
 intro W0 r w us hI hv
 obtain⟨x,p,v,h1,hx0,hox,hA,hov⟩:=bld_look hF hI
 simp only [VRs,VR] at hv
 obtain⟨u1,us1,rfl,⟨B,w1,c,hr,rfl⟩,rfl⟩:=hv
 rw [h1] at hr; cases hr
 have e0:w1=0:=hx0
 subst e0
 have hg0:(mkS (bld0 F l 63 5) g).h.get 0=some (.obj F (bldL l 63 5) 1):=by rw [mkS_get]; rfl
 have hid:∀ B,Own r 1 B→Hid r (mkS (bld0 F l 63 5) g) B:=fun B h=>⟨0,F,_,1,hg0,h⟩
 have hn:(mkS (bld0 F l 63 5) g).n=2:=by rw [mkS_n]; rfl
 have hn':(mkS [.dead,.dead] g).n=2:=by rw [mkS_n]; rfl
 have hget:∀ t L,(mkS [.dead,.dead] g).h.get t=some L→L=.dead:=fun t L h=>by
  rw [mkS_get] at h
  match t,h with
  | 0,h=>simp at h; exact h.symm
  | 1,h=>simp at h; exact h.symm
  | t+2,h=>simp at h
 have hst:Calls prog 28 #[.pointer (some ⟨B,0,none⟩)] w fun e w'=>e=.returned (.string ⟨l.toArray⟩)∧w.grownBy w' v.ownBlock:=by
  cases l with
  | nil=>exact st_nil hA
  | cons y r=>exact st_any hA (by simp) hl
 refine hst.mono fun e w' ⟨he,hG⟩=>?_
 have hfr':∀ B,B < w.heap.size→¬ Own r 1 B→w'.heap[B]? = w.heap[B]?:=fun B hB hn=>hG.block B hB fun e=>hn (hov B e.symm)
 have hWin:∀ B,Own r 1 B→W0.heap.size≤B∧B < w.heap.size:=fun B h=>hI.ob.inside B (hid B h)
 have hbl:Below W0.heap.size W0 w':=by
  refine hI.below.trans ⟨hG.os,hG.tape,hG.output,hG.size,fun k hk=>?_⟩
  have:=hI.below.size
  exact hfr' k (by omega) fun h=>by have:=(hWin k h).1; omega
 have hlive:∀ b,¬ (mkS [.dead,.dead] g).lives b:=fun b ⟨L,q1,q2⟩=>by rw [hget b L q1] at q2; cases q2
 have hnob:∀ b F cs g',(mkS [.dead,.dead] g).h.get b≠some (.obj F cs g'):=fun b F cs g' h=>by cases hget b _ h
 refine⟨_,_,_,r,⟨rfl,rfl⟩,he,by simp only [VR],⟨hbl,fun b z hz=>?_,fun b z hb=>absurd hb (hlive b),fun b hb=>?_,fun b b' z z' hb=>absurd hb (hlive b),fun b cs op hb=>?_,fun b t p hb=>?_,hI.gl,fun b cs hb=>?_,OInv.none hnob⟩,⟨r.le_refl,by rw [hn,hn']; omega,hG.size,fun B hB ho=>?_,fun B hB hno=>hfr' B hB fun h=>hno (.inr (hid B h))⟩⟩
 ·have:=hI.dom b z hz
  rw [hn] at this
  rw [hn']; exact⟨this.1,Nat.lt_of_lt_of_le this.2 hG.size⟩
 ·rw [hn'] at hb; rw [mkS_get]; exact List.getElem?_eq_none hb
 ·cases hget b _ hb
 ·cases hget b _ hb
 ·cases hget b _ hb
 ·rcases ho with⟨b,z,q1,_⟩ | ⟨b,F',cs',g',q1,_⟩
  ·exact absurd q1 (hlive b)
  ·exact absurd q1 (hnob _ _ _ _)
def isBd (F:OP):Bool:=F.isBld
def wrS (T e:Nat):Gc:=fun args s=>match args with
 | [.ptr b 0,.str t]=>(match s.h.get b with
   | some (.obj F [.str l,.int .i64 (.ofNat T'),.int .i64 (.ofNat e')] γ)=>cond (Nat.beq T' T && Nat.beq e' e) (match s.h.get γ with
     | some .dead=>(match s.put b (.obj F [.str (xscat l t),.int .i64 (.ofNat T),.int .i64 (.ofNat e)] s.n) with
       | some s1=>(match s1.new .dead with
         | some s2=>some ([isBd F,xle (xadd (xsln l) (xsln t)) 1000000],.tup [.int .i64 (xsln t:Nat),.nilIface],s2)
         | none=>none)
       | none=>none)
     | _=>none) none
   | _=>none)
 | _=>none
def stS (T e:Nat):Gc:=fun args s=>match args with
 | [.ptr b 0]=>(match s.h.get b with
   | some (.obj F [.str l,.int .i64 (.ofNat T'),.int .i64 (.ofNat e')] γ)=>cond (Nat.beq T' T && Nat.beq e' e) (match s.h.get γ with
     | some .dead=>(match s.put b .dead with
       | some s1=>some ([isBd F,xle (xsln l) 1000000],.str l,s1)
       | none=>none)
     | _=>none) none
   | _=>none)
 | _=>none
theorem wrS_ok:GOk prog 25 (wrS 63 5):=by
 intro args s bs l0 s' hg hb hfr
 unfold wrS at hg
 split at hg
 ·rename_i b t
  split at hg
  ·rename_i F l T' e' γ hb1
   cases hc:(Nat.beq T' 63 && Nat.beq e' 5) with
   | false=>rw [hc] at hg; cases hg
   | true =>
     rw [hc] at hg
     simp only [cond_true] at hg
     simp only [Bool.and_eq_true] at hc
     obtain⟨e1,e2⟩:=hc
     have e1:=Nat.eq_of_beq_eq_true e1
     have e2:=Nat.eq_of_beq_eq_true e2
     subst e1 e2
     split at hg
     ·rename_i hγ
      cases hp:s.put b (.obj F [.str (xscat l t),.int .i64 (.ofNat 63),.int .i64 (.ofNat 5)] s.n) with
      | none=>rw [hp] at hg; cases hg
      | some s1 =>
      rw [hp] at hg
      simp only at hg
      cases hw:s1.new .dead with
      | none=>rw [hw] at hg; cases hg
      | some s2 =>
      rw [hw] at hg
      simp only [Option.some.injEq,Prod.mk.injEq] at hg
      obtain⟨rfl,rfl,rfl⟩:=hg
      have hF:F.isBld=true:=(allT_cons.1 hb).1
      have k1:xle (l.length+t.length) 1000000=true:=(allT_cons.1 (allT_cons.1 hb).2).1
      rw [wd_le,decide_eq_true_eq] at k1
      obtain⟨p1,p2⟩:=St.put_spec hp
      obtain⟨m1,m2⟩:=St.new_spec hw
      have hlb:=there hfr hb1
      have hlγ:=there hfr hγ
      have hne:b≠γ:=fun e=>by subst e; rw [hb1] at hγ; cases hγ
      have hget:∀ c,s2.h.get c=if c=s.n then some .dead else if c=b then some (.obj F [.str (xscat l t),.int .i64 (.ofNat 63),.int .i64 (.ofNat 5)] s.n) else s.h.get c:=fun c=>by rw [m2,p2,p1]
      refine SFun.lift (ρ:=[b,γ]) (bs:=bld0 F l 63 5) (bs':=bld1 F (l++t) 63 5) (args0:=[.ptr 0 0,.str t]) (v0:=.tup [.int .i64 t.length,.nilIface]) hfr (by simp [hne]) ⟨⟨hlb,_,hb1,?_,fun κ hκ=>?_⟩,⟨hlγ,_,hγ,?_,fun κ hκ=>?_⟩,trivial⟩ ?_ (ws_fun hF l t k1 _) (by simp) ⟨?_,?_,?_,?_,?_,?_⟩ ?_
      ·simp only [LBW]; exact⟨trivial,trivial,rfl⟩
      ·simp only [LBW]; exact⟨trivial,trivial,hκ 1 γ rfl⟩
      ·simp only [LBW]
      ·simp only [LBW]
      ·simp [LVWs,LVW,lsrc]
      ·simp [m1,p1]
      ·rw [St.new_g hw,St.put_g hp]
      ·intro c hc hcb
       simp only [List.mem_cons,List.not_mem_nil,or_false,not_or] at hcb
       rw [hget,if_neg (by omega),if_neg hcb.1]
      ·intro c hc; rw [hget,if_neg (by omega),if_neg (by omega)]; exact hfr c (by omega)
      ·intro i c L' hi hL
       match i,hi with
       | 0,hi =>
         simp at hi; subst hi
         rw [hget,if_neg (by omega),if_pos rfl] at hL; cases hL
         show LBW _ (.id 0) _ (some (.obj F (bldL (l++t) 63 5) 2))
         simp only [LBW]
         refine⟨trivial,rfl,?_⟩
         simp [liftK]
       | 1,hi =>
         simp at hi; subst hi
         rw [hget,if_neg (by omega),if_neg (Ne.symm hne),hγ] at hL; cases hL
         simp only [LBW]
       | i+2,hi=>simp at hi
      ·intro j L' hj hL
       have hj:j < 1:=by simpa using hj
       obtain rfl:j=0:=by omega
       rw [hget,if_pos (by omega)] at hL; cases hL
       simp only [LBW]
      ·simp only [LVW,LVWs]; exact⟨⟨trivial,rfl⟩,trivial,trivial⟩
     ·cases hg
  ·cases hg
 ·cases hg
theorem stS_ok:GOk prog 28 (stS 63 5):=by
 intro args s bs l0 s' hg hb hfr
 unfold stS at hg
 split at hg
 ·rename_i b
  split at hg
  ·rename_i F l T' e' γ hb1
   cases hc:(Nat.beq T' 63 && Nat.beq e' 5) with
   | false=>rw [hc] at hg; cases hg
   | true =>
     rw [hc] at hg
     simp only [cond_true] at hg
     simp only [Bool.and_eq_true] at hc
     obtain⟨e1,e2⟩:=hc
     have e1:=Nat.eq_of_beq_eq_true e1
     have e2:=Nat.eq_of_beq_eq_true e2
     subst e1 e2
     split at hg
     ·rename_i hγ
      cases hp:s.put b .dead with
      | none=>rw [hp] at hg; cases hg
      | some s1 =>
      rw [hp] at hg
      simp only [Option.some.injEq,Prod.mk.injEq] at hg
      obtain⟨rfl,rfl,rfl⟩:=hg
      have hF:F.isBld=true:=(allT_cons.1 hb).1
      have k2:xle l.length 1000000=true:=(allT_cons.1 (allT_cons.1 hb).2).1
      rw [wd_le,decide_eq_true_eq] at k2
      obtain⟨p1,p2⟩:=St.put_spec hp
      have hlb:=there hfr hb1
      have hlγ:=there hfr hγ
      have hne:b≠γ:=fun e=>by subst e; rw [hb1] at hγ; cases hγ
      refine SFun.lift (ρ:=[b,γ]) (bs:=bld0 F l 63 5) (bs':=[.dead,.dead]) (args0:=[.ptr 0 0]) (v0:=.str l) hfr (by simp [hne]) ⟨⟨hlb,_,hb1,?_,fun κ hκ=>?_⟩,⟨hlγ,_,hγ,?_,fun κ hκ=>?_⟩,trivial⟩ ?_ (st_fun hF l k2 _) (by simp) ⟨?_,?_,?_,?_,?_,?_⟩ ?_
      ·simp only [LBW]; exact⟨trivial,trivial,rfl⟩
      ·simp only [LBW]; exact⟨trivial,trivial,hκ 1 γ rfl⟩
      ·simp only [LBW]
      ·simp only [LBW]
      ·simp [LVWs,LVW,lsrc]
      ·simp [p1]
      ·rw [St.put_g hp]
      ·intro c hc hcb
       simp only [List.mem_cons,List.not_mem_nil,or_false,not_or] at hcb
       rw [p2,if_neg hcb.1]
      ·intro c hc; rw [p2,if_neg (by omega)]; exact hfr c (by omega)
      ·intro i c L' hi hL
       match i,hi with
       | 0,hi =>
         simp at hi; subst hi
         rw [p2,if_pos rfl] at hL; cases hL
         simp only [LBW]
       | 1,hi =>
         simp at hi; subst hi
         rw [p2,if_neg (Ne.symm hne),hγ] at hL; cases hL
         simp only [LBW]
       | i+2,hi=>simp at hi
      ·intro j L' hj hL
       simp at hj
      ·simp only [LVW]
     ·cases hg
  ·cases hg
 ·cases hg
end Go.Lev
