/- strings.Builder: WriteString and String as contracts -/
import Derived.Test.YtnkkkihgljbllaaDoorCZ4
namespace Go.Lev
set_option linter.unusedSimpArgs false
set_option linter.unusedVariables false
open Go.RowKit
open Go.Proofs.Tryd (prog)
abbrev bldL (l:List UInt8) (T e:Nat):List LV:=[.str l,.int .i64 (.ofNat T),.int .i64 (.ofNat e)]
abbrev bld0 (F:OP) (l:List UInt8) (T e:Nat):List LB:=[.obj F (bldL l T e) 1,.dead]
abbrev bld1 (F:OP) (l:List UInt8) (T e:Nat):List LB:=[.obj F (bldL l T e) 2,.dead,.dead]
theorem bld_look {F:OP} (hF:F.isBld=true) {W0:World} {r:Ren} {l:List UInt8} {T e:Nat} {g:Glb} {w:World} (hI:Inv W0 r (mkS (bld0 F l T e) g) w) :
  ∃ x p v,r 0=some x∧x.2.1=0∧Own r 1 x.1∧BldA T e x.1 p v l w∧∀ k,v.ownBlock=some k→Own r 1 k:=by
 have hg0:(mkS (bld0 F l T e) g).h.get 0=some (.obj F (bldL l T e) 1):=by rw [mkS_get]; rfl
 obtain⟨x,h1,h2,h3⟩:=hI.ob.holds 0 _ _ _ hg0
 have hb:=h3 w hI.below (Nat.le_refl _) fun _ _=>rfl
 have hf:=OP.isBld_eq hF
 simp only [hf] at hb
 obtain⟨l',T',e',hcs,hx0,hox,p,v,hbk,hp,hrow⟩:=hb
 simp only [bldL,List.cons.injEq,LV.str.injEq,LV.int.injEq,true_and,and_true] at hcs
 obtain⟨rfl,e1,e2⟩:=hcs
 have e1:T=T':=Int.ofNat.inj e1
 have e2:e=e':=Int.ofNat.inj e2
 subst e1 e2
 refine⟨x,p,v,h1,hx0,hox,⟨hbk,hp,?_,?_⟩,?_⟩
 ·rcases hrow with h | ⟨g,cap,cur,q0,q1,q2,q3,q4,q5,q6,q7⟩
  ·exact .inl h
  ·exact .inr ⟨g,cap,cur,q0,q1,q4,q5,q6,q7⟩
 ·rcases hrow with⟨rfl,_⟩ | ⟨g,cap,cur,_,rfl,q2,_⟩
  ·intro k; cases k
  ·intro k; simp only [Value.ownBlock,Option.some.injEq] at k; exact q2 k
 ·intro k hk
  rcases hrow with⟨rfl,_⟩ | ⟨g,cap,cur,_,rfl,q2,q3,_⟩
  ·cases hk
  ·simp only [Value.ownBlock,Option.some.injEq] at hk; subst hk; exact q3
def bldM (b:Nat) (v:Value):Nat:=match v.ownBlock with
 | some g=>2 ^ b ||| 2 ^ g
 | none=>2 ^ b
theorem bldM_bit {b:Nat} {v:Value} {B:Nat}:(bldM b v).testBit B=true↔B=b∨v.ownBlock=some B:=by
 unfold bldM
 split
 ·rename_i g hg
  rw [Nat.testBit_or,Bool.or_eq_true,Nat.testBit_two_pow,Nat.testBit_two_pow,decide_eq_true_eq,decide_eq_true_eq,hg]
  simp only [Option.some.injEq]
  exact⟨fun h=>h.imp (fun h=>h.symm) id,fun h=>h.imp (fun h=>h.symm) id⟩
 ·rename_i hg
  rw [Nat.testBit_two_pow,decide_eq_true_eq,hg]
  simp only [reduceCtorEq,or_false]
  exact⟨fun h=>h.symm,fun h=>h.symm⟩
theorem bld_put {F:OP} (hF:F.isBld=true) {W0:World} {r:Ren} {l l':List UInt8} {T e:Nat} {g:Glb} {w w':World} (hI:Inv W0 r (mkS (bld0 F l T e) g) w) {x:Nat×Nat×Nat} {v:Value} (h1:r 0=some x) (hx0:x.2.1=0) (hox:Own r 1 x.1)
  (hov:∀ k,v.ownBlock=some k→Own r 1 k) (hW:Wrote T e x.1 v l' w w') :
  ∃ r',Inv W0 r' (mkS (bld1 F l' T e) g) w'∧Ext r (mkS (bld0 F l T e) g) w r' (mkS (bld1 F l' T e) g) w':=by
 obtain⟨⟨v',hA,hvo⟩,hos,htp,hout,hsz,hkp⟩:=hW
 have hg0:(mkS (bld0 F l T e) g).h.get 0=some (.obj F (bldL l T e) 1):=by rw [mkS_get]; rfl
 have hid:∀ B,Own r 1 B→Hid r (mkS (bld0 F l T e) g) B:=fun B h=>⟨0,F,_,1,hg0,h⟩
 have hn:(mkS (bld0 F l T e) g).n=2:=by rw [mkS_n]; rfl
 have hn':(mkS (bld1 F l' T e) g).n=3:=by rw [mkS_n]; rfl
 have hget:∀ t L,(mkS (bld1 F l' T e) g).h.get t=some L→(t=0∧L=.obj F (bldL l' T e) 2)∨L=.dead:=fun t L h=>by
  rw [mkS_get] at h
  match t,h with
  | 0,h=>simp at h; exact .inl ⟨rfl,h.symm⟩
  | 1,h=>simp at h; exact .inr h.symm
  | 2,h=>simp at h; exact .inr h.symm
  | t+3,h=>simp at h
 have hfr':∀ B,B < w.heap.size→¬ Own r 1 B→w'.heap[B]? = w.heap[B]?:=fun B hB hn=>hkp B hB (fun e=>hn (by rw [e]; exact hox)) fun e=>hn (hov B e)
 have hWin:∀ B,Own r 1 B→W0.heap.size≤B∧B < w.heap.size:=fun B h=>hI.ob.inside B (hid B h)
 have hx1:=hWin _ hox
 have hlt':x.1 < w'.heap.size:=(Array.getElem?_eq_some_iff.1 hA.1).1
 have hbl:Below W0.heap.size W0 w':=by
  refine hI.below.trans ⟨hos,htp,hout,hsz,fun k hk=>?_⟩
  have:=hI.below.size
  exact hfr' k (by omega) fun h=>by have:=(hWin k h).1; omega
 let y:Nat×Nat×Nat:=(x.1,0,bldM x.1 v')
 have hle:r.le (r.put 2 y):=by have:=Ren.put_le hI y; rw [hn] at this; exact this
 have hO:∀ B,Own (r.put 2 y) 2 B↔B=x.1∨v'.ownBlock=some B:=fun B=>by
  rw [← bldM_bit]
  constructor
  ·rintro⟨z,q1,q2⟩
   simp only [Ren.put,if_true,Option.some.injEq] at q1
   subst q1; exact q2
  ·intro h; exact⟨y,by simp [Ren.put],h⟩
 have hv'in:∀ B,v'.ownBlock=some B→W0.heap.size≤B∧B < w'.heap.size:=fun B hB=>by
  refine⟨?_,hA.2.2.1.lt hB⟩
  rcases hvo with q | ⟨g0,q,q2⟩
  ·rw [q] at hB; exact(hWin B (hov B hB)).1
  ·rw [q] at hB; cases hB; have:=hI.below.size; omega
 have hdom:∀ b z,r.put 2 y b=some z→b < 3∧z.1 < w'.heap.size:=fun b z hz=>by
  by_cases e:b=2
  ·simp [Ren.put,e] at hz; subst hz; exact⟨by omega,hlt'⟩
  ·simp only [Ren.put,if_neg e] at hz
   have:=hI.dom b z hz
   rw [hn] at this
   exact⟨by omega,by omega⟩
 have h0':r.put 2 y 0=some x:=by simp [Ren.put,h1]
 have hlive:∀ b,(mkS (bld1 F l' T e) g).lives b→b=0:=fun b ⟨L,q1,q2⟩=>by
  rcases hget b L q1 with⟨q,_⟩ | q
  ·exact q
  ·subst q; cases q2
 have hobj:∀ b F' cs' g',(mkS (bld1 F l' T e) g).h.get b=some (.obj F' cs' g')→b=0∧F'=F∧cs'=bldL l' T e∧g'=2:=fun b F' cs' g' h=>by
  rcases hget b _ h with⟨q1,q2⟩ | q
  ·simp only [LB.obj.injEq] at q2; exact⟨q1,q2⟩
  ·cases q
 have hf:=OP.isBld_eq hF
 refine⟨r.put 2 y,⟨hbl,fun b z hz=>by rw [hn']; exact hdom b z hz,fun b z hb hz=>?_,fun b hb=>?_,fun b b' z z' hb hb' _ _ _=>by rw [hlive b hb,hlive b' hb'],fun b cs op hb=>?_,fun b t p hb=>?_,hI.gl,fun b cs hb=>?_,?_⟩,⟨hle,by rw [hn,hn']; omega,hsz,fun B hB ho=>?_,fun B hB hno=>hfr' B hB fun h=>hno (.inr (hid B h))⟩⟩
 ·have:=hlive b hb; subst this
  rw [h0'] at hz; cases hz; exact hx1.1
 ·rw [hn'] at hb; rw [mkS_get]; exact List.getElem?_eq_none hb
 ·rcases hget b _ hb with⟨_,q⟩ | q <;> cases q
 ·rcases hget b _ hb with⟨_,q⟩ | q <;> cases q
 ·rcases hget b _ hb with⟨_,q⟩ | q <;> cases q
 ·refine⟨fun b F' cs' g' hb=>?_,fun B ⟨b,F',cs',g',hb,hB⟩=>?_,fun b F' cs' g' b' x' hb hb' hx' hO'=>?_,fun b F1 c1 g1 b2 F2 c2 g2 B hb hb' _ _=>?_⟩
  ·obtain⟨rfl,rfl,rfl,rfl⟩:=hobj _ _ _ _ hb
   refine⟨x,h0',(hO _).2 (.inl rfl),fun w2 k1 k2 k3=>?_⟩
   rw [hf]
   obtain⟨a1,a2,a3,a4⟩:=hA
   refine⟨l',T,e,rfl,hx0,(hO _).2 (.inl rfl),_,v',by rw [k3 _ ((hO _).2 (.inl rfl))]; exact a1,a2,?_⟩
   rcases a3 with q | ⟨g0,cap,cur,q0,rfl,q1,q2,q3,q4,q5⟩
   ·exact .inl q
   ·exact .inr ⟨g0,cap,cur,q0,rfl,fun e=>a4 (by rw [← e]; rfl),(hO _).2 (.inr rfl),by rw [k3 _ ((hO _).2 (.inr rfl))]; exact q1,q2,q3,q4,q5⟩
  ·obtain⟨rfl,rfl,rfl,rfl⟩:=hobj _ _ _ _ hb
   rcases(hO B).1 hB with rfl | q
   ·exact⟨hx1.1,hlt'⟩
   ·exact hv'in B q
  ·rw [hlive _ hb',(hobj _ _ _ _ hb).1]
  ·rw [(hobj _ _ _ _ hb).1,(hobj _ _ _ _ hb').1]
 ·rcases ho with⟨b,z,q1,q2,rfl⟩ | ⟨b,F',cs',g',q1,q2⟩
  ·have:=hlive b q1; subst this
   rw [h0'] at q2; cases q2
   exact .inr (hid _ hox)
  ·obtain⟨rfl,rfl,rfl,rfl⟩:=hobj _ _ _ _ q1
   rcases(hO B).1 q2 with rfl | q
   ·exact .inr (hid _ hox)
   ·rcases hvo with k | ⟨g0,k,k2⟩
    ·rw [k] at q; exact .inr (hid _ (hov B q))
    ·rw [k] at q; cases q; omega
theorem ws_fun {F:OP} (hF:F.isBld=true) (l t:List UInt8) (hl:l.length+t.length≤1000000) (g:Glb):SFun prog 25 [.ptr 0 0,.str t] (mkS (bld0 F l 63 5) g)
  fun a s'=>a=.tup [.int .i64 t.length,.nilIface]∧s'=mkS (bld1 F (l++t) 63 5) g:=by
 intro W0 r w us hI hv
 obtain⟨x,p,v,h1,hx0,hox,hA,hov⟩:=bld_look hF hI
 simp only [VRs,VR] at hv
 obtain⟨u1,us1,rfl,⟨B,w1,c,hr,rfl⟩,u2,us2,rfl,rfl,rfl⟩:=hv
 rw [h1] at hr; cases hr
 have e0:w1=0:=hx0
 subst e0
 refine(ws_any hA ⟨t.toArray⟩ (by simpa [ByteArray.size] using hl)).mono fun e w' ⟨he,hW⟩=>?_
 obtain⟨r',k1,k2⟩:=bld_put hF hI h1 hx0 hox hov hW
 refine⟨_,_,_,r',⟨rfl,rfl⟩,he,?_,k1,k2⟩
 simp only [VR,VRs]
 exact⟨[_,_],rfl,_,_,rfl,rfl,_,_,rfl,rfl,rfl⟩
end Go.Lev
