/- strings.Builder: a new one; a closed run around it -/
import Derived.Test.YtnkkkihgljbllaaDoorCZ6
namespace Go.Lev
set_option linter.unusedSimpArgs false
set_option linter.unusedVariables false
open Go.RowKit
open Go.Proofs.Tryd (prog)
def renB (r:Ren) (n B:Nat):Ren:=fun b=>if b=n then some (B,0,0) else if b=n+1 then some (B,0,2 ^ B) else r b
theorem Inv.newBld {W0:World} {r:Ren} {s s1 s2:St} {w:World} (h:Inv W0 r s w) {T e:Nat} (h1:s.new (.obj bldP (bldL [] T e) (s.n+1))=some s1) (h2:s1.new .dead=some s2) :
  Inv W0 (renB r s.n w.heap.size) s2 { w with heap:=w.heap.push (.cells #[.pointer none,.slice none 0 0] T (0,0)) }∧Ext r s w (renB r s.n w.heap.size) s2 { w with heap:=w.heap.push (.cells #[.pointer none,.slice none 0 0] T (0,0)) }:=by
 obtain⟨n1,g1⟩:=St.new_spec h1
 obtain⟨n2,g2⟩:=St.new_spec h2
 have hg:∀ m,s2.h.get m=if m=s.n+1 then some .dead else if m=s.n then some (.obj bldP (bldL [] T e) (s.n+1)) else s.h.get m:=fun m=>by rw [g2,g1,n1]
 have hn:s2.n=s.n+2:=by omega
 have hdom:∀ b x,r b=some x→b≠s.n∧b≠s.n+1:=fun b x hb=>by have:=(h.dom b x hb).1; omega
 have hle:r.le (renB r s.n w.heap.size):=fun b x hb=>by
  obtain⟨e1,e2⟩:=hdom b x hb
  simp only [renB,if_neg e1,if_neg e2]; exact hb
 have hback:∀ b x,b≠s.n→b≠s.n+1→renB r s.n w.heap.size b=some x→r b=some x:=fun b x e1 e2 hb=>by
  simpa only [renB,if_neg e1,if_neg e2] using hb
 have hheap:∀ (o:Obj) B,B < w.heap.size→(w.heap.push o)[B]? = w.heap[B]?:=fun o B hB=>by rw [Array.getElem?_push,if_neg (by omega)]
 have hW:=h.below.size
 have old:∀ b L,s2.h.get b=some L→L.live=true→b≠s.n→s.h.get b=some L∧b≠s.n+1:=fun b L hb hl hne=>by
  rw [hg] at hb
  by_cases e:b=s.n+1
  ·rw [if_pos e] at hb; cases hb; cases hl
  ·rw [if_neg e,if_neg hne] at hb; exact⟨hb,e⟩
 have old2:∀ b L,s2.h.get b=some L→(∀ F cs g,L≠.obj F cs g)→L≠.dead→s.h.get b=some L∧b≠s.n∧b≠s.n+1:=fun b L hb ho hd=>by
  rw [hg] at hb
  by_cases e:b=s.n+1
  ·rw [if_pos e] at hb; cases hb; exact absurd rfl hd
  ·rw [if_neg e] at hb
   by_cases e':b=s.n
   ·rw [if_pos e'] at hb; cases hb; exact absurd rfl (ho _ _ _)
   ·rw [if_neg e'] at hb; exact⟨hb,e',e⟩
 have lives:∀ b,s2.lives b→b≠s.n→s.lives b∧b≠s.n+1:=fun b ⟨L,q1,q2⟩ hb=>let ⟨k1,k2⟩:=old b L q1 q2 hb; ⟨⟨L,k1,q2⟩,k2⟩
 have hnn:renB r s.n w.heap.size s.n=some (w.heap.size,0,0):=by simp [renB]
 have hng:renB r s.n w.heap.size (s.n+1)=some (w.heap.size,0,2 ^ w.heap.size):=by simp [renB]
 have hobj:∀ b F cs g,s2.h.get b=some (.obj F cs g)→(b=s.n∧F=bldP∧cs=bldL [] T e∧g=s.n+1)∨(s.h.get b=some (.obj F cs g)∧b≠s.n∧b≠s.n+1):=fun b F cs g hb=>by
  by_cases e:b=s.n
  ·rw [hg,if_neg (by omega),if_pos e] at hb
   simp only [Option.some.injEq,LB.obj.injEq] at hb
   exact .inl ⟨e,hb.1.symm,hb.2.1.symm,hb.2.2.symm⟩
  ·obtain⟨k1,k2⟩:=old b _ hb rfl e
   exact .inr ⟨k1,e,k2⟩
 have hOn:∀ B,Own (renB r s.n w.heap.size) (s.n+1) B↔B=w.heap.size:=fun B=>by
  constructor
  ·rintro⟨y,q1,q2⟩
   rw [hng] at q1; cases q1
   rw [Nat.testBit_two_pow,decide_eq_true_eq] at q2; exact q2.symm
  ·rintro rfl; exact⟨_,hng,by rw [Nat.testBit_two_pow,decide_eq_true_eq]⟩
 have hOo:∀ b F cs g B,s.h.get b=some (.obj F cs g)→(Own (renB r s.n w.heap.size) g B↔Own r g B):=fun b F cs g B hb=>by
  obtain⟨x,k1,k2,_⟩:=h.ob.holds b F cs g hb
  exact⟨k2.back hle,Own.mono hle⟩
 refine⟨⟨h.below.trans ⟨rfl,rfl,rfl,by simp,fun B hB=>hheap _ B (by omega)⟩,fun b x hb=>?_,fun b x hl hb=>?_,fun b hb=>?_,fun b b' x x' hb hb' hx hx' he=>?_,fun b cs op hb=>?_,fun b t p hb=>?_,by rw [St.new_g h2,St.new_g h1]; exact h.gl,fun b cs hb=>?_,?_⟩,
  ⟨hle,by omega,by simp,fun B hB ho=>?_,fun B hB _=>hheap _ B hB⟩⟩
 ·rw [hn]
  by_cases e:b=s.n
  ·subst e; rw [hnn] at hb; cases hb; simp
  ·by_cases e':b=s.n+1
   ·subst e'; rw [hng] at hb; cases hb; simp
   ·have:=h.dom b x (hback b x e e' hb)
    simp; omega
 ·by_cases e:b=s.n
  ·subst e; rw [hnn] at hb; cases hb; exact hW
  ·obtain⟨k1,k2⟩:=lives b hl e
   exact h.own b x k1 (hback b x e k2 hb)
 ·rw [hg,if_neg (by omega),if_neg (by omega)]; exact h.fresh b (by omega)
 ·by_cases e:b=s.n <;> by_cases e':b'=s.n
  ·omega
  ·obtain⟨k1,k2⟩:=lives b' hb' e'
   have:=(h.dom b' x' (hback b' x' e' k2 hx')).2
   subst e; rw [hnn] at hx; cases hx; simp at he; omega
  ·obtain⟨k1,k2⟩:=lives b hb e
   have:=(h.dom b x (hback b x e k2 hx)).2
   subst e'; rw [hnn] at hx'; cases hx'; simp at he; omega
  ·obtain⟨k1,k2⟩:=lives b hb e
   obtain⟨k1',k2'⟩:=lives b' hb' e'
   exact h.inj b b' x x' k1 k1' (hback b x e k2 hx) (hback b' x' e' k2' hx') he
 ·obtain⟨k1,e1,e2⟩:=old2 b _ hb (fun _ _ _ q=>by cases q) (fun q=>by cases q)
  rcases h.cells b cs op k1 with⟨q1,q2⟩ | ⟨x,q1,q2⟩
  ·exact .inl ⟨q1,by simp only [renB,if_neg e1,if_neg e2]; exact q2⟩
  ·exact .inr ⟨x,hle _ _ q1,q2.mono hle (hheap _ _ (h.dom _ _ q1).2)⟩
 ·obtain⟨k1,e1,e2⟩:=old2 b _ hb (fun _ _ _ q=>by cases q) (fun q=>by cases q)
  obtain⟨x,q1,q0,q2⟩:=h.iter b t p k1
  exact⟨x,hle _ _ q1,q0,by rw [← q2]; exact hheap _ _ (h.dom _ _ q1).2⟩
 ·obtain⟨k1,e1,e2⟩:=old2 b _ hb (fun _ _ _ q=>by cases q) (fun q=>by cases q)
  rcases h.ro b cs k1 with⟨q1,q2⟩ | ⟨x,q1,c,e',f,q2,q3⟩
  ·exact .inl ⟨q1,by simp only [renB,if_neg e1,if_neg e2]; exact q2⟩
  ·exact .inr ⟨x,hle _ _ q1,c,e',f,q2,fun i l hl=>let ⟨k1,u,k2,k3⟩:=q3 i l hl; ⟨k1,u,k2,k3.mono hle⟩⟩
 ·refine⟨fun b F cs g hb=>?_,fun B ⟨b,F,cs,g,hb,hB⟩=>?_,fun b F cs g b' x' hb hb' hx' hO'=>?_,fun b F cs g b' F' cs' g' B hb hb' hB hB'=>?_⟩
  ·rcases hobj b F cs g hb with⟨rfl,rfl,rfl,rfl⟩ | ⟨k1,e1,e2⟩
   ·refine⟨_,hnn,(hOn _).2 rfl,fun w2 q1 q2 q3=>?_⟩
    exact⟨[],T,e,rfl,rfl,(hOn _).2 rfl,.pointer none,.slice none 0 0,by rw [q3 _ ((hOn _).2 rfl)]; simp,.inl rfl,.inl ⟨rfl,rfl⟩⟩
   ·obtain⟨x,q1,q2,q3⟩:=h.ob.holds b F cs g k1
    refine⟨x,hle _ _ q1,q2.mono hle,fun w2 p1 p2 p3=>?_⟩
    have eO:Own (renB r s.n w.heap.size) g=Own r g:=funext fun B=>propext (hOo b F cs g B k1)
    rw [eO] at p3 ⊢
    refine q3 w2 p1 (by simp at p2; omega) fun B hB=>?_
    rw [p3 B hB]
    exact hheap _ B (h.ob.inside B ⟨b,F,cs,g,k1,hB⟩).2
  ·rcases hobj b F cs g hb with⟨rfl,rfl,rfl,rfl⟩ | ⟨k1,e1,e2⟩
   ·rw [(hOn B).1 hB]; exact⟨hW,by simp⟩
   ·have:=h.ob.inside B ⟨b,F,cs,g,k1,(hOo b F cs g B k1).1 hB⟩
    simp; omega
  ·rcases hobj b F cs g hb with⟨rfl,rfl,rfl,rfl⟩ | ⟨k1,e1,e2⟩
   ·by_cases e:b'=s.n
    ·exact e
    ·obtain⟨p1,p2⟩:=lives b' hb' e
     have:=(h.dom b' x' (hback b' x' e p2 hx')).2
     rw [(hOn _).1 hO'] at this; omega
   ·have hO:=(hOo b F cs g _ k1).1 hO'
    by_cases e:b'=s.n
    ·subst e
     rw [hnn] at hx'; cases hx'
     have:=(h.ob.inside _ ⟨b,F,cs,g,k1,hO⟩).2
     simp at this
    ·obtain⟨p1,p2⟩:=lives b' hb' e
     exact h.ob.apart b F cs g b' x' k1 p1 (hback b' x' e p2 hx') hO
  ·rcases hobj b F cs g hb with⟨rfl,rfl,rfl,rfl⟩ | ⟨k1,e1,e2⟩ <;> rcases hobj b' F' cs' g' hb' with⟨rfl,rfl,rfl,rfl⟩ | ⟨k1',e1',e2'⟩
   ·rfl
   ·have:=(h.ob.inside _ ⟨b',F',cs',g',k1',(hOo _ _ _ _ B k1').1 hB'⟩).2
    rw [(hOn B).1 hB] at this; omega
   ·have:=(h.ob.inside _ ⟨b,F,cs,g,k1,(hOo _ _ _ _ B k1).1 hB⟩).2
    rw [(hOn B).1 hB'] at this; omega
   ·exact h.ob.two b F cs g b' F' cs' g' B k1 k1' ((hOo _ _ _ _ B k1).1 hB) ((hOo _ _ _ _ B k1').1 hB')
 ·rcases ho with⟨b,x,q1,q2,rfl⟩ | ⟨b,F,cs,g,q1,q2⟩
  ·by_cases e:b=s.n
   ·subst e; rw [hnn] at q2; cases q2; simp at hB
   ·obtain⟨k1,k2⟩:=lives b q1 e
    exact .inl ⟨b,x,k1,hback b x e k2 q2,rfl⟩
  ·rcases hobj b F cs g q1 with⟨rfl,rfl,rfl,rfl⟩ | ⟨k1,e1,e2⟩
   ·rw [(hOn B).1 q2] at hB; omega
   ·exact .inr ⟨b,F,cs,g,k1,(hOo _ _ _ _ B k1).1 q2⟩
end Go.Lev
