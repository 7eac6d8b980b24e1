import Derived.Test.YtnkkkihgljbllaaDoorCPA
import Derived.Test.YtnkkkihgljbllaaDoorCX9
import Derived.Test.YtnkkkihgljbllaaDoorLc
import Derived.Test.YtnkkkihgljbllaaDoorChecked
import Derived.KernelRfl
import Derived.Test.YtnkkkihgljbllaaDoorCPD
import Derived.Test.YtnkkkihgljbllaaDoorCXA
/- text: words of the code and of the reference; an instruction of both -/
namespace Go.Lev
set_option linter.unusedSimpArgs false
set_option linter.unusedVariables false
open Go.RowKit
open Go.Proofs.Tryd (prog)
set_option maxRecDepth 100000
noncomputable section
theorem d0i {s:List UInt8} {p:Nat} (h:p < s.length):rnF s p=xrn s p::rnF s (p+xrw s p):=by rw [rnF,dif_pos h]
theorem c0t {s:List UInt8} {p:Nat} (h:s.length≤p):rnF s p=[]:=by rw [rnF,dif_neg (by omega)]
theorem d8r {s:List UInt8}:∀ (n p:Nat) (k:Int),s.length - p≤n→nmF s p k=true→(65533:Int) ∉ rnF s p
 | 0,p,k,hn,h=>by rw [c0t (by omega)]; simp
 | n+1,p,k,hn,h=>by
   by_cases hp:p < s.length
   ·have hw:=b1o hp
    rw [nmF,dif_pos hp] at h
    rw [d0i hp]
    intro hm
    have hl:ltB (65533:Int)=false:=by decide
    rcases List.mem_cons.1 hm with hm | hm
    ·rw [← hm,hl,if_neg (by simp)] at h
     split at h
     ·cases h
     ·rw [if_neg (by omega),if_pos (by omega)] at h; cases h
    ·split at h
     ·exact d8r n _ _ (by omega) h hm
     ·split at h
      ·cases h
      ·split at h
       ·cases h
       ·split at h
        ·cases h
        ·exact d8r n _ _ (by omega) h hm
   ·rw [c0t (by omega)]; simp
theorem a9p {f:Nat→List UInt8} {s:List UInt8}:∀ k,a5a f k s≠0→∃ j,1≤j∧j≤k∧f j=s∧a5a f k s=(j:Int)
 | 0,h=>absurd rfl h
 | k+1,h=>by
   rw [a5a] at h ⊢
   cases hq:f (k+1) == s with
   | true=>exact⟨k+1,by omega,Nat.le_refl _,eq_of_beq hq,rfl⟩
   | false =>
     rw [hq] at h
     obtain⟨j,h1,h2,h3,h4⟩:=a9p k h
     exact⟨j,h1,by omega,h3,h4⟩
theorem f3j:∀ j:Fin 24,(nmN j.1).all (fun b=>decide (b.toNat < 128))=true:=by decide
theorem f5m:∀ j:Fin 13,(clN j.1).all (fun b=>decide (b.toNat < 128))=true:=by decide
theorem d8m {s:List UInt8} (h:opB s=true):asc s:=by
 obtain⟨j,h1,h2,h3,_⟩:=a9p 23 (by simpa [opB] using h)
 have:=f3j ⟨j,by omega⟩
 rw [h3,List.all_eq_true] at this
 exact fun b hb=>by simpa using this b hb
theorem d7j {s:List UInt8} (h:whB s=true):asc s:=by
 obtain⟨j,h1,h2,h3,_⟩:=a9p 12 (by simpa [whB] using h)
 have:=f5m ⟨j,by omega⟩
 rw [h3,List.all_eq_true] at this
 exact fun b hb=>by simpa using this b hb
def d3i (x:List UInt8):Prop:=(65533:Int)∈rnF x 0
theorem b9v {x:List UInt8} (h:d3i x):¬ asc x:=fun k=>f5w k 0 h
theorem c5i {x:List UInt8} (h:d3i x):a9l x=false:=by
 cases hb:a9l x with
 | false=>rfl
 | true=>exact absurd h (d8r _ 0 0 (Nat.le_refl _) hb)
theorem d7a {x:List UInt8} (h:d3i x):opB x=false:=by
 cases hb:opB x with
 | false=>rfl
 | true=>exact absurd (d8m hb) (b9v h)
theorem f5t {x:List UInt8} (h:d3i x):whB x=false:=by
 cases hb:whB x with
 | false=>rfl
 | true=>exact absurd (d7j hb) (b9v h)
theorem d7b {x:List UInt8} {m:Int} (hm:0≤m∧m≤18446744073709551615) (h:d3i x):drB x m=false:=by
 cases hb:drB x m with
 | false=>rfl
 | true=>exact absurd (d2t hm hb) (b9v h)
theorem f5u {x:List UInt8} (h:d3i x) (k:Int):rvB k x=false:=by
 unfold rvB rvV
 split
 ·split
  ·rfl
  ·split
   ·rfl
   ·rename_i h1 h2
    dsimp only
    cases hb:drB (a0v x 1 x.length) (xwr .u64 (a6l k)) with
    | false=>rfl
    | true =>
      exfalso
      apply b9v h
      have h2:a1i x 0=114:=Decidable.byContradiction h2
      have ha:=d2t (d7i _) hb
      cases x with
      | nil=>intro b hb; cases hb
      | cons a r =>
        have e:a0v (a::r) 1 (a::r).length=r:=by simp [a0v]
        rw [e] at ha
        intro b hb
        rcases List.mem_cons.1 hb with hb | hb
        ·have:a1i (a::r) 0=(a.toNat:Int):=rfl
         rw [hb]; omega
        ·exact ha b hb
 ·split
  ·exact f5t h
  ·split
   ·exact d7b ⟨by omega,by omega⟩ h
   ·exact d7b (d7i _) h
theorem f5v {x:List UInt8} (h:d3i x) (k:Int):rfB k x=false:=by
 unfold rfB
 cases decide (k=4)
 ·exact f5u h k
 ·exact c5i h
theorem f3p {x:List UInt8} {q:Nat} (h:q < x.length) (hr:xrn x q=65533) (he:q+xrw x q=x.length):a1i x (x.length - 1)≠58:=by
 intro hb
 rw [c8z] at he
 rw [c7m] at hr
 have hr:(b3q (byD x q) (x.length - q)).1=65533:=by omega
 have hl:byD x q (x.length - 1 - q)=58:=by
  have e:q+(x.length - 1 - q)=x.length - 1:=by omega
  unfold byD; rw [e]
  unfold a1i at hb; omega
 rcases b3p (byD x q) (x.length - q) (d3f x q) (by omega) with⟨e,e1,e2⟩ | ⟨v,e,w1,w2⟩
 ·rw [e] at he
  have:x.length - 1 - q=0:=by simp only at he; omega
  rw [this] at hl; omega
 ·rw [hr] at e
  have e' : [239,191,189]=(List.range (b3q (byD x q) (x.length - q)).2).map (byD x q):=e
  have hlen:=congrArg List.length e'
  simp at hlen
  rw [← hlen] at e' he
  simp only [List.range,List.range.loop,List.map,List.cons.injEq,and_true] at e'
  have:x.length - 1 - q=2:=by omega
  rw [this] at hl; omega
theorem d3h {x:List UInt8} (hb:a1i x (x.length - 1)=58):∀ (n p:Nat),x.length - p≤n→(65533:Int)∈rnF x p→(65533:Int)∈rnF (a0v x 0 (x.length - 1)) p
 | 0,p,hn,h=>by rw [c0t (by omega)] at h; cases h
 | n+1,p,hn,h=>by
   by_cases hp:p < x.length
   ·have hw:=b1o hp
    rw [d0i hp] at h
    by_cases he:p+xrw x p=x.length
    ·rcases List.mem_cons.1 h with h | h
     ·exact absurd hb (f3p hp h.symm he)
     ·rw [he,c0t (Nat.le_refl _)] at h; cases h
    ·obtain⟨e1,e2⟩:=d2x (t:=x) (s:=0) (p:=x.length - 1) (q:=p) (Nat.zero_le _) (by omega) (by omega) hp
     rw [Nat.sub_zero] at e1 e2
     rw [d0i (by rw [b9q (by omega)]; omega),e1,e2]
     rcases List.mem_cons.1 h with h | h
     ·exact List.mem_cons.2 (.inl h)
     ·exact List.mem_cons.2 (.inr (d3h hb n _ (by omega) h))
   ·rw [c0t (by omega)] at h; cases h
structure Wr (ln:Int) (w:RW) (x:Wd):Prop where
 cl:w.cl=x.2
 ln:w.ln=ln
 tx:(w.bd=false∧w.s=x.1)∨(w.bd=true∧d3i x.1)
inductive Al (ln:Int):List RW→List Wd→Prop
 | nil:Al ln [] []
 | cons {w:RW} {x:Wd} {ws:List RW} {xs:List Wd} (h:Wr ln w x) (r:Al ln ws xs):Al ln (w::ws) (x::xs)
theorem Al.snoc {ln:Int} {ws:List RW} {xs:List Wd} (h:Al ln ws xs) {w:RW} {x:Wd} (k:Wr ln w x):Al ln (ws++[w]) (xs++[x]):=by
 induction h with
 | nil=>exact .cons k .nil
 | cons a r ih=>exact .cons a ih
/- a field of both -/
def kd (op f:Int):Int:=if f=0 then fA op else if f=1 then fB op else if f=2 then fC op else fD op
def moF (op f:Int):Int:=if f=0 then rA op else if f=1 then rB op else rC op
abbrev KP (op f k:Int):Prop :=
 (b6u op f=decide (k≠0))∧(c3b op f=decide (k=4)) ∧
 (k=1∨k=2→f≠3∧¬ (op=23∧f=0)∧¬ (((op=8∨op=9)∧f=2)∨(op=23∧f=1))∧moF op f=a6l k) ∧
 (k=3∨k=5→f≠3∧¬ (op=23∧f=0)∧(((op=8∨op=9)∧f=2)∨(op=23∧f=1))∧moF op f=a6l k) ∧
 (k=6→f≠3∧op=23∧f=0)∧(k=7→f=3)∧(f=3→k=0∨k=7)∧(0≤k∧k≤7)
theorem g6v:∀ i:Fin 24,∀ f:Fin 4,1≤i.1→b6u (i.1:Int) (f.1:Int)=decide (kd (i.1:Int) (f.1:Int)≠0):=by decide
theorem g6u:∀ i:Fin 24,∀ f:Fin 4,1≤i.1→c3b (i.1:Int) (f.1:Int)=decide (kd (i.1:Int) (f.1:Int)=4):=by decide
theorem f9i:∀ i:Fin 24,∀ f:Fin 4,1≤i.1→(kd (i.1:Int) (f.1:Int)=1∨kd (i.1:Int) (f.1:Int)=2)→(f.1:Int)≠3:=by decide
theorem f9h:∀ i:Fin 24,∀ f:Fin 4,1≤i.1→(kd (i.1:Int) (f.1:Int)=1∨kd (i.1:Int) (f.1:Int)=2)→¬ ((i.1:Int)=23∧(f.1:Int)=0):=by decide
theorem f9g:∀ i:Fin 24,∀ f:Fin 4,1≤i.1→(kd (i.1:Int) (f.1:Int)=1∨kd (i.1:Int) (f.1:Int)=2)→¬ ((((i.1:Int)=8∨(i.1:Int)=9)∧(f.1:Int)=2)∨((i.1:Int)=23∧(f.1:Int)=1)):=by decide
theorem f9f:∀ i:Fin 24,∀ f:Fin 4,1≤i.1→(kd (i.1:Int) (f.1:Int)=1∨kd (i.1:Int) (f.1:Int)=2)→moF (i.1:Int) (f.1:Int)=a6l (kd (i.1:Int) (f.1:Int)):=by decide
theorem f9e:∀ i:Fin 24,∀ f:Fin 4,1≤i.1→(kd (i.1:Int) (f.1:Int)=3∨kd (i.1:Int) (f.1:Int)=5)→(f.1:Int)≠3:=by decide
theorem f9d:∀ i:Fin 24,∀ f:Fin 4,1≤i.1→(kd (i.1:Int) (f.1:Int)=3∨kd (i.1:Int) (f.1:Int)=5)→¬ ((i.1:Int)=23∧(f.1:Int)=0):=by decide
theorem f9c:∀ i:Fin 24,∀ f:Fin 4,1≤i.1→(kd (i.1:Int) (f.1:Int)=3∨kd (i.1:Int) (f.1:Int)=5)→((((i.1:Int)=8∨(i.1:Int)=9)∧(f.1:Int)=2)∨((i.1:Int)=23∧(f.1:Int)=1)):=by decide
theorem f9b:∀ i:Fin 24,∀ f:Fin 4,1≤i.1→(kd (i.1:Int) (f.1:Int)=3∨kd (i.1:Int) (f.1:Int)=5)→moF (i.1:Int) (f.1:Int)=a6l (kd (i.1:Int) (f.1:Int)):=by decide
theorem g6t:∀ i:Fin 24,∀ f:Fin 4,1≤i.1→(kd (i.1:Int) (f.1:Int)=6→(f.1:Int)≠3∧(i.1:Int)=23∧(f.1:Int)=0)∧(kd (i.1:Int) (f.1:Int)=7→(f.1:Int)=3):=by decide
theorem g6s:∀ i:Fin 24,∀ f:Fin 4,1≤i.1→((f.1:Int)=3→kd (i.1:Int) (f.1:Int)=0∨kd (i.1:Int) (f.1:Int)=7)∧(0≤kd (i.1:Int) (f.1:Int)∧kd (i.1:Int) (f.1:Int)≤7):=by decide
theorem kp {op f:Int} (h1:1≤op) (h2:op≤23) (h3:0≤f) (h4:f≤3):KP op f (kd op f):=by
 have e1:((op.toNat:Nat):Int)=op:=by omega
 have e2:((f.toNat:Nat):Int)=f:=by omega
 have a:=g6v ⟨op.toNat,by omega⟩ ⟨f.toNat,by omega⟩ (by simp only; omega)
 have b:=g6u ⟨op.toNat,by omega⟩ ⟨f.toNat,by omega⟩ (by simp only; omega)
 have ca:=f9i ⟨op.toNat,by omega⟩ ⟨f.toNat,by omega⟩ (by simp only; omega)
 have cb:=f9h ⟨op.toNat,by omega⟩ ⟨f.toNat,by omega⟩ (by simp only; omega)
 have cc:=f9g ⟨op.toNat,by omega⟩ ⟨f.toNat,by omega⟩ (by simp only; omega)
 have cd:=f9f ⟨op.toNat,by omega⟩ ⟨f.toNat,by omega⟩ (by simp only; omega)
 have da:=f9e ⟨op.toNat,by omega⟩ ⟨f.toNat,by omega⟩ (by simp only; omega)
 have db:=f9d ⟨op.toNat,by omega⟩ ⟨f.toNat,by omega⟩ (by simp only; omega)
 have dc:=f9c ⟨op.toNat,by omega⟩ ⟨f.toNat,by omega⟩ (by simp only; omega)
 have dd:=f9b ⟨op.toNat,by omega⟩ ⟨f.toNat,by omega⟩ (by simp only; omega)
 have e:=g6t ⟨op.toNat,by omega⟩ ⟨f.toNat,by omega⟩ (by simp only; omega)
 have g:=g6s ⟨op.toNat,by omega⟩ ⟨f.toNat,by omega⟩ (by simp only; omega)
 simp only [e1,e2] at a b ca cb cc cd da db dc dd e g
 exact⟨a,b,fun h=>⟨ca h,cb h,cc h,cd h⟩,fun h=>⟨da h,db h,dc h,dd h⟩,e.1,e.2,g.1,g.2⟩
theorem f4z {y:List UInt8} {m:Int} (hm:0≤m∧m≤9):drV y m=if y.length=1∧48≤a1i y 0∧a1i y 0 - 48≤m then some (a1i y 0 - 48) else none:=by
 have hm2:0≤m∧m≤18446744073709551615:=by omega
 unfold drV
 by_cases h0:y.length=0
 ·have:y=[]:=List.length_eq_zero_iff.1 h0
  subst this
  rw [if_pos (by rfl),if_neg (by simp)]
 by_cases hq:drQ y=true
 ·rw [if_pos hq]
  have hl:1 < y.length:=by
   by_cases q:1 < y.length
   ·exact q
   ·exfalso
    have e:a3h .eql y []=false:=by
     cases y with
     | nil=>simp at h0
     | cons a r=>rfl
    simp [drQ,q,e] at hq
  rw [if_neg (by omega)]
 ·rw [if_neg hq,b0o (by omega) hm2 ⟨by omega,by omega⟩]
  by_cases h1:y.length=1
  ·by_cases hc:48≤a1i y 0∧a1i y 0≤57∧a1i y 0 - 48≤m∧(0:Int)≤(m - (a1i y 0 - 48)) / 10
   ·rw [if_pos hc,if_pos ⟨h1,hc.1,hc.2.2.1⟩,drF,dif_neg (by omega)]
    congr 1; omega
   ·rw [if_neg hc,if_neg (by omega)]
  ·rw [if_neg (c:=y.length=1∧_) (by omega)]
   split
   ·rename_i c
    rw [b0o (by omega) hm2 ⟨by omega,by omega⟩]
    rw [if_neg]
    intro c2
    have h48:a1i y 0≠48:=by
     intro e
     apply hq
     unfold drQ
     rw [show xcm .eql (a1i y 0) 48=true from a2i e]
     simp; omega
    omega
   ·rfl
theorem d6a {s:List UInt8} {k M:Int} (hk:k=1∨k=2) (hM:M=a6l k):decide (0≤c2z s M)=rvB k s∧(rvB k s=true→c2z s M=xwr .i64 (rvN k s)):=by
 have hM9:0≤M∧M≤9:=by rw [hM]; rcases hk with rfl | rfl <;> decide
 have hx:xwr .u64 (a6l k)=M:=by rw [← hM]; exact a4x (by omega) (by omega)
 have key:=f4z (y:=a0v s 1 s.length) hM9
 have hlen:(a0v s 1 s.length).length=s.length - 1:=by simp [a0v]
 have hby:a1i (a0v s 1 s.length) 0=a1i s 1:=by
  unfold a1i a0v
  cases s with
  | nil=>rfl
  | cons a r=>cases r <;> simp
 rw [hlen,hby] at key
 unfold rvB rvN rvV
 rw [if_pos hk,hx]
 by_cases h1:s.length < 1
 ·rw [if_pos h1]
  have:c2z s M = -1:=by unfold c2z; rw [if_neg (by omega)]
  rw [this]; exact⟨rfl,fun h=>by cases h⟩
 rw [if_neg h1]
 by_cases h2:a1i s 0=114
 ·rw [if_neg (fun q=>q h2)]
  dsimp only
  by_cases hc:s.length - 1=1∧48≤a1i s 1∧a1i s 1 - 48≤M
  ·rw [if_pos hc] at key
   have er:c2z s M=a1i s 1 - 48:=by unfold c2z; rw [if_pos (by omega)]
   have hb:drB (a0v s 1 s.length) M=true:=by unfold drB; rw [key]; rfl
   have hn:drN (a0v s 1 s.length) M=a1i s 1 - 48:=by unfold drN; rw [key]; rfl
   rw [hb,hn,er]
   refine⟨by simp; omega,fun _=>?_⟩
   have:=d5i s 1
   exact(b0c (by omega) (by omega)).symm
  ·rw [if_neg hc] at key
   have er:c2z s M = -1:=by unfold c2z; rw [if_neg (by omega)]
   have hb:drB (a0v s 1 s.length) M=false:=by unfold drB; rw [key]; rfl
   rw [hb,er]; exact⟨rfl,fun h=>by cases h⟩
 ·rw [if_pos h2]
  have:c2z s M = -1:=by unfold c2z; rw [if_neg (by omega)]
  rw [this]; exact⟨rfl,fun h=>by cases h⟩
theorem d6v {s:List UInt8} {m v:Int} (hm:0≤m∧m≤18446744073709551615):∀ (k p:Nat) (n:Int),s.length - p≤k→0≤n→n≤m→drF s m p n=some v→0≤v∧v≤m
 | 0,p,n,hk,h0,hn,h=>by rw [drF,dif_neg (by omega)] at h; cases h; omega
 | k+1,p,n,hk,h0,hn,h=>by
   by_cases hp:p < s.length
   ·rw [b0o hp hm ⟨by omega,by omega⟩] at h
    split at h
    ·rename_i c
     exact d6v hm k (p+1) _ (by omega) (by omega) (by omega) h
    ·cases h
   ·rw [drF,dif_neg hp] at h; cases h; omega
theorem f5b {s:List UInt8} {m:Int} (hm:0≤m∧m≤18446744073709551615) (h:drB s m=true):0≤drN s m∧drN s m≤m:=by
 unfold drB at h; unfold drN
 obtain⟨v,hv⟩:=Option.isSome_iff_exists.1 h
 rw [hv]
 unfold drV at hv
 split at hv
 ·cases hv
 ·exact d6v hm s.length 0 0 (by omega) (by omega) (by omega) hv
theorem d6f {s:List UInt8} {k M:Int} (hk:k=3∨k=5) (hM:M=a6l k):decide (0≤d4m s M)=rvB k s∧(rvB k s=true→d4m s M=xwr .i64 (rvN k s)):=by
 have hM9:0≤M∧M≤15:=by rw [hM]; rcases hk with rfl | rfl <;> decide
 have hx:xwr .u64 M=M:=a4x (by omega) (by omega)
 unfold rvB rvN rvV
 rw [if_neg (by omega),if_neg (by omega),if_neg (by omega),← hM,hx]
 try dsimp only
 unfold d4m
 rw [hx]
 cases hb:drB s M with
 | true =>
   have:=f5b (by omega) hb
   rw [if_pos rfl]
   refine⟨?_,fun _=>rfl⟩
   rw [show xwr .i64 (drN s M)=drN s M from b0c (by omega) (by omega)]
   simp; omega
 | false=>rw [if_neg (by simp)]; exact⟨rfl,fun h=>by cases h⟩
theorem f5o (s:List UInt8):decide (0≤d3s s 12)=rvB 6 s∧(rvB 6 s=true→d3s s 12=xwr .i64 (rvN 6 s)):=by
 unfold rvB rvN rvV
 rw [if_neg (by omega),if_pos rfl]
 try dsimp only
 unfold d3s whB whW
 by_cases h:a5a clN 12 s=0
 ·rw [if_pos h]; simp [h]
 ·obtain⟨j,h1,h2,_,h4⟩:=a9p 12 h
  rw [if_neg h,h4]
  refine⟨by simp; omega,fun _=>?_⟩
  rw [show xwr .u64 (j:Int)=(j:Int) from a4x (by omega) (by omega)]
  exact(b0c (by omega) (by omega)).symm
theorem f4p {op f:Int} (hp:KP op f (kd op f)) (hf:f=0∨f=1∨f=2∨f=3) (h0:kd op f≠0) (h4:kd op f≠4) {w:RW} (hb:w.bd=false) (x:InX) :
  c3a op f w=rfB (kd op f) w.s∧(c3a op f w=true→∀ (c:Int),b5o op f w x=rsX f (kd op f) (w.s,c) x):=by
 obtain⟨_,_,p12,p35,p6,p7,p3,pb⟩:=hp
 generalize hk:kd op f=k at *
 have er:rfB k w.s=rvB k w.s:=by unfold rfB; rw [show decide (k=4)=false from by simp [h4]]; rfl
 rw [er]
 by_cases h3:f=3
 ·subst h3
  obtain rfl:k=7:=by rcases p3 rfl with q | q <;> omega
  have e1:c3a op 3 w=drB w.s 18446744073709551615:=by simp [c3a,fiO,hb]
  refine⟨e1,fun _ c=>?_⟩
  simp [b5o,rsX,fiX,rfX,hb,rvN,rvV]
 have hfn:∀ v,c0a op f w.s (moF op f)=v→fnV op f w.s (rA op) (rB op) (rC op)=v:=fun v h=>h
 have fin:∀ v,c0a op f w.s (moF op f)=v→decide (0≤v)=rvB k w.s∧(rvB k w.s=true→v=xwr .i64 (rvN k w.s))→c3a op f w=rvB k w.s∧(c3a op f w=true→∀ (c:Int),b5o op f w x=rsX f k (w.s,c) x):=fun v hv ⟨q1,q2⟩=>by
  have e1:c3a op f w=decide (0≤v):=by simp [c3a,fiO,hb,h3,hfn v hv]
  refine⟨by rw [e1,q1],fun ho c=>?_⟩
  rw [e1] at ho
  have ev:=q2 (by rw [← q1]; exact ho)
  have ho:0≤v:=by simpa using ho
  have h4':decide (k=4)=false:=by simp [h4]
  rcases hf with rfl | rfl | rfl | rfl
  ·simp [b5o,rsX,fiX,rfX,hb,hfn v hv,ho,h4',ev.symm]
  ·simp [b5o,rsX,fiX,rfX,hb,hfn v hv,ho,h4',ev.symm]
  ·simp [b5o,rsX,fiX,rfX,hb,hfn v hv,ho,h4',ev.symm]
  ·exact absurd rfl h3
 have hk':k=1∨k=2∨k=3∨k=5∨k=6∨k=7:=by omega
 rcases hk' with q | q | q | q | q | q
 ·obtain⟨_,a,b,c⟩:=p12 (.inl q)
  exact fin _ (by rw [c0a,if_neg a,if_neg b]) (d6a (.inl q) c)
 ·obtain⟨_,a,b,c⟩:=p12 (.inr q)
  exact fin _ (by rw [c0a,if_neg a,if_neg b]) (d6a (.inr q) c)
 ·obtain⟨_,a,b,c⟩:=p35 (.inl q)
  exact fin _ (by rw [c0a,if_neg a,if_pos b]) (d6f (.inl q) c)
 ·obtain⟨_,a,b,c⟩:=p35 (.inr q)
  exact fin _ (by rw [c0a,if_neg a,if_pos b]) (d6f (.inr q) c)
 ·obtain⟨_,a⟩:=p6 q
  subst q
  exact fin _ (by rw [c0a,if_pos a]) (f5o w.s)
 ·exact absurd (p7 q) h3
def jrX (j:MkX):RW:=⟨j.nm,j.ln,j.cl,false⟩
def JR (J0 J:List MkX) (ni:Nat) (j:RW):Bool→Prop
 | false=>J=J0∧j=rwZ
 | true=>∃ m:MkX,J=J0++[m]∧j=jrX m∧m.nm≠[]∧m.pl=(ni:Int)
def f6n:List Int→Bool→Prop
 | [],_=>True
 | k::r,p=>(k=4→p=false)∧f6n r (p || decide (k=4))
theorem f6r {op e ln:Int} {ni:Nat} {J0:List MkX} (hop:1≤op∧op≤23):∀ (L:List Int),(∀ f∈L,f=0∨f=1∨f=2∨f=3)→∀ (ws:List RW) (ys:List Wd) (x:InX) (j:RW) (J:List MkX) (p:Bool),f6n (L.map (kd op)) p→Al ln ws ys→JR J0 J ni j p →
  (∃ c a b a' b' a2 b2,b4x e op L ws x j=(some c,a,b,a2)∧riS e ln ni (L.map fun f=>(f,kd op f)) ys x J=(some c,a',b',b2)) ∨
  (∃ ws' ys' x' j' J' p',b4x e op L ws x j=(none,ws',x',j')∧riS e ln ni (L.map fun f=>(f,kd op f)) ys x J=(none,ys',x',J')∧Al ln ws' ys'∧JR J0 J' ni j' p')
 | [],_,ws,ys,x,j,J,p,_,hA,hJ=>.inr ⟨ws,ys,x,j,J,p,rfl,rfl,hA,hJ⟩
 | f::L,hL,ws,ys,x,j,J,p,h4,hA,hJ=>by
   have hf:=hL f (by simp)
   have hL':∀ g∈L,g=0∨g=1∨g=2∨g=3:=fun g hg=>hL g (by simp [hg])
   have hp:=kp (op:=op) (f:=f) hop.1 hop.2 (by omega) (by omega)
   have hp':=hp
   obtain⟨pa,pj,_⟩:=hp'
   obtain⟨o1,o2⟩:=h4
   simp only [List.map_cons]
   by_cases k0:kd op f=0
   ·rw [c2c (by rw [pa]; simp [k0]),c7y k0]
    have:(p || decide (kd op f=4))=p:=by simp [k0]
    rw [this] at o2
    exact f6r hop L hL' ws ys x j J p o2 hA hJ
   have ha:b6u op f=true:=by rw [pa]; simp [k0]
   cases hA with
   | nil=>rw [c2d ha,c7w k0]; exact .inl ⟨e,_,_,_,_,_,_,rfl,rfl⟩
   | @cons w y ws ys hw hA =>
     rw [c2e ha,c7x k0]
     by_cases k4:kd op f=4
     ·have hpf:=o1 k4
      subst hpf
      obtain⟨rfl,rfl⟩:=hJ
      rw [if_pos (by rw [pj]; simp [k4])]
      have er:rfB (kd op f) y.1=a9l y.1:=by rw [k4]; rfl
      rcases hw.tx with⟨t1,t2⟩ | ⟨t1,t2⟩
      ·have eo:c8s w=a9l y.1:=by simp [c8s,t1,t2]
       rw [eo,er]
       cases hn:a9l y.1 with
       | false=>rw [if_neg (by simp),if_neg (by simp)]; exact .inl ⟨y.2,_,_,_,_,_,_,by rw [hw.cl],rfl⟩
       | true =>
         rw [if_pos rfl,if_pos rfl]
         have ex:rsX f (kd op f) y x=x:=by rw [k4]; rfl
         have eJ:rsJ (kd op f) y ni ln J=J++[⟨y.1,ni,ln,y.2⟩]:=by rw [k4]; rfl
         rw [ex,eJ]
         have o2':f6n (L.map (kd op)) true:=by simpa [k4] using o2
         refine f6r hop L hL' ws ys x w _ true o2' hA ⟨⟨y.1,ni,ln,y.2⟩,rfl,?_,?_,rfl⟩
         ·obtain⟨s,l,c,b⟩:=w
          have q1:=hw.cl; have q2:=hw.ln
          simp only at q1 q2 t1 t2
          subst q1 q2 t1 t2
          rfl
         ·intro hz
          have hz:y.1=[]:=hz
          rw [hz] at hn
          have:a9l []=false:=by unfold a9l; rw [nmF,dif_neg (by simp)]; rfl
          rw [this] at hn; cases hn
      ·have eo:c8s w=false:=by simp [c8s,t1]
       rw [eo,er,c5i t2,if_neg (by simp),if_neg (by simp)]
       exact .inl ⟨y.2,_,_,_,_,_,_,by rw [hw.cl],rfl⟩
     ·rw [if_neg (by rw [pj]; simp [k4])]
      have:(p || decide (kd op f=4))=p:=by simp [k4]
      rw [this] at o2
      rcases hw.tx with⟨t1,t2⟩ | ⟨t1,t2⟩
      ·obtain⟨q1,q2⟩:=f4p hp hf k0 k4 t1 x
       rw [q1,t2]
       cases hr:rfB (kd op f) y.1 with
       | false=>rw [if_neg (by simp),if_neg (by simp)]; exact .inl ⟨y.2,_,_,_,_,_,_,by rw [hw.cl],rfl⟩
       | true =>
         rw [if_pos rfl,if_pos rfl]
         have ex:b5o op f w x=rsX f (kd op f) y x:=by rw [q2 (by rw [q1,t2,hr]) y.2,t2]
         have eJ:rsJ (kd op f) y ni ln J=J:=by unfold rsJ; rw [if_neg k4]
         rw [ex,eJ]
         exact f6r hop L hL' ws ys _ j J p o2 hA hJ
      ·have eo:c3a op f w=false:=by simp [c3a,fiO,t1]
       rw [eo,f5v t2,if_neg (by simp),if_neg (by simp)]
       exact .inl ⟨y.2,_,_,_,_,_,_,by rw [hw.cl],rfl⟩
theorem d8n:∀ i:Fin 24,fA (i.1:Int)≠4∧fB (i.1:Int)≠4∧fD (i.1:Int)≠4:=by decide
theorem f4b {e ln:Int} {v:RW} {ws:List RW} {y:Wd} {ys:List Wd} (hv:Wr ln v y) (hA:Al ln ws ys) (I:List InX) (J:List MkX) :
  (c8h e ln (I.length:Int) (v::ws)).2.2=(riZ y.1 y.2 ys e ln I J).1∧((riZ y.1 y.2 ys e ln I J).1.2.2=0→(riZ y.1 y.2 ys e ln I J).2.1=I++[(c8h e ln (I.length:Int) (v::ws)).1]∧∃ p,JR J (riZ y.1 y.2 ys e ln I J).2.2 I.length (c8h e ln (I.length:Int) (v::ws)).2.1 p):=by
 have hO:rOk (opX v)=opB y.1∧(opB y.1=true→opX v=opW y.1):=by
  rcases hv.tx with⟨t1,t2⟩ | ⟨t1,t2⟩
  ·have ex:opX v=opW y.1:=by simp [opX,t1,t2]
   refine⟨?_,fun _=>ex⟩
   rw [ex]
   unfold opB opW
   by_cases h:a5a nmN 23 y.1=0
   ·rw [h]; rfl
   ·obtain⟨j,h1,h2,_,h4⟩:=a9p 23 h
    rw [h4]
    have e1:rOk (j:Int)=true:=by simp only [rOk]; exact decide_eq_true (by omega)
    rw [e1]; simp; omega
  ·rw [d7a t2]
   exact⟨by simp [opX,t1]; rfl,fun h=>by cases h⟩
 unfold c8h riZ
 dsimp only
 cases ho:opB y.1 with
 | false =>
   rw [if_pos (by rw [hO.1,ho]),if_pos rfl]
   exact⟨by rw [hv.cl],fun h=>by cases h⟩
 | true =>
   have ex:=hO.2 ho
   obtain⟨o1,o2⟩:=d6d ho
   rw [if_neg (c:=rOk (opX v)=false) (by rw [hO.1,ho]; simp),if_neg (c:=true=false) (by simp),ex]
   by_cases h40:40≤I.length
   ·rw [if_pos (by omega),if_pos h40]
    exact⟨by rw [hv.cl],fun h=>by cases h⟩
   rw [if_neg (by omega),if_neg h40]
   generalize opW y.1=op at *
   have h4:f6n (([0,1,2,3]:List Int).map (kd op)) false:=by
    have:=d8n ⟨op.toNat,by omega⟩
    simp only [show((op.toNat:Nat):Int)=op by omega] at this
    obtain⟨n1,n2,n3⟩:=this
    refine⟨fun _=>rfl,fun _=>?_,fun _=>?_,fun q=>absurd q n3,trivial⟩
    ·show(false || decide (fA op=4))=false
     simp [n1]
    ·show(false || decide (fA op=4) || decide (fB op=4))=false
     simp [n1,n2]
   have F:=f6r (J0:=J) (ni:=I.length) (e:=e) ⟨o1,o2⟩ [0,1,2,3] (by simp) ws ys ⟨op,0,0,0,0⟩ rwZ J false h4 hA ⟨rfl,rfl⟩
   change (∃ c a b a' b' a2 b2,b4x e op [0,1,2,3] ws ⟨op,0,0,0,0⟩ rwZ=(some c,a,b,a2)∧riS e ln I.length (riK op) ys ⟨op,0,0,0,0⟩ J=(some c,a',b',b2)) ∨
    (∃ ws' ys' x' j' J' p',b4x e op [0,1,2,3] ws ⟨op,0,0,0,0⟩ rwZ=(none,ws',x',j')∧riS e ln I.length (riK op) ys ⟨op,0,0,0,0⟩ J=(none,ys',x',J')∧Al ln ws' ys'∧JR J J' I.length j' p') at F
   rcases F with⟨c,a,b,a',b',a2,b2,e1,e2⟩ | ⟨ws',ys',x',j',J',p',e1,e2,hA',hJ'⟩
   ·rw [e1,e2]
    exact⟨rfl,fun h=>by cases h⟩
   ·rw [e1,e2]
    cases hA' with
    | nil=>exact⟨rfl,fun _=>⟨rfl,p',hJ'⟩⟩
    | cons hw r=>exact⟨by dsimp only [f4h]; rw [hw.cl],fun h=>by cases h⟩
end
end Go.Lev
/- text: a line's words of both -/
namespace Go.Lev
set_option linter.unusedSimpArgs false
set_option linter.unusedVariables false
open Go.RowKit
open Go.Proofs.Tryd (prog)
set_option maxRecDepth 100000
noncomputable section
theorem d4y (l:List Tk) (x:Tk):cuE (l++[x])=if cuE l=l then(if x.1=59 then l else l++[x]) else cuE l:=by
 induction l with
 | nil =>
   by_cases h:x.1=59 <;> simp [cuE,h]
 | cons a r ih =>
   unfold cuE at ih ⊢
   rw [List.cons_append,List.takeWhile_cons,List.takeWhile_cons]
   by_cases h:a.1=59
   ·simp [h]
   ·have hd:decide (a.1≠59)=true:=by simp [h]
    rw [if_pos hd,if_pos hd,ih]
    by_cases hr:List.takeWhile (fun x=>decide (x.1≠59)) r=r
    ·rw [if_pos hr,hr,if_pos (c:=a::r=a::r) rfl]
     split <;> rfl
    ·rw [if_neg hr,if_neg (by simpa using hr)]
theorem d9x (ln:Int) (l:List Tk) (x:Tk):cuR ln (l++[x])=cuS ln (cuR ln l) x:=by
 unfold cuR; rw [List.foldl_append]; rfl
def Cur (t:List UInt8) (p:Nat) (C:CS) (S:SpS):Prop:=(C.l=[]∧S.s = -1)∨(C.l≠[]∧∃ s:Nat,S.s=(s:Int)∧s≤t.length∧c3f t s p C.l∧S.f=C.f)
theorem d9h {t:List UInt8} {p:Nat} {ln:Int} {C:CS} {S:SpS} (h:Cur t p C S) (hA:Al ln C.ws S.ws):Al ln (cuW ln C) (spW t S p):=by
 unfold cuW spW
 rcases h with⟨h1,h2⟩ | ⟨h1,s,h2,h3,h4,h5⟩
 ·rw [if_pos h1,if_pos h2]; exact hA
 ·rw [if_neg h1,if_neg (by omega)]
  refine hA.snoc ⟨h5.symm,rfl,?_⟩
  rw [h2,show a0c (s:Int)=s from Int.toNat_natCast s]
  show((C.l.any (·.2))=false∧b4z (C.l.map (·.1))=a0v t s p)∨((C.l.any (·.2))=true∧d3i (a0v t s p))
  cases hb:C.l.any (·.2) with
  | false =>
    refine .inl ⟨rfl,h4.good h3 fun x hx=>?_⟩
    rw [List.any_eq_false] at hb
    simpa using hb x hx
  | true =>
    refine .inr ⟨rfl,h4.bad h3 ?_ h4.wr⟩
    obtain⟨x,hx,h⟩:=List.any_eq_true.1 hb
    exact⟨x,hx,h⟩
structure Sim (t:List UInt8) (ln:Int) (p:Nat) (l:List Tk) (S:SpS):Prop where
 hp:p≤t.length
 c:S.c=(l.length:Int)+1
 st:(cuE l≠l∧S.m=true∧Al ln (cuF ln l) S.ws∧S.e=((cuE l).length:Int)+1)∨(cuE l=l∧S.m=false∧(cuR ln l).c=(l.length:Int)+1∧Al ln (cuR ln l).ws S.ws∧Cur t p (cuR ln l) S)
theorem Sim.fresh {t:List UInt8} {ln f:Int} {p:Nat} (h:p≤t.length):Sim t ln p [] ⟨[],0,1,-1,f,false⟩ :=
 ⟨h,rfl,.inr ⟨rfl,rfl,rfl,.nil,.inl ⟨rfl,rfl⟩⟩⟩
theorem Sim.line {t:List UInt8} {ln:Int} {p:Nat} {l:List Tk} {S:SpS} (h:Sim t ln p l S):Al ln (cuF ln l) (spL t S p).ws∧(spL t S p).e=((cuE l).length:Int)+1:=by
 unfold spL
 rcases h.st with⟨h1,h2,h3,h4⟩ | ⟨h1,h2,h3,h4,h5⟩
 ·rw [if_pos h2]; exact⟨h3,h4⟩
 ·rw [if_neg (by rw [h2]; simp)]
  refine⟨?_,by rw [h1]; exact h.c⟩
  unfold cuF; rw [h1]; exact d9h h5 h4
theorem Sim.next {t:List UInt8} {ln:Int} {p:Nat} {l:List Tk} {S:SpS} (h:Sim t ln p l S) (hp:p < t.length):Sim t ln (p+xrw t p) (l++[(xrn t p,wrB t p)]) (spR t S p (xrn t p)):=by
 have hw:=b1o hp
 have hlen:(l++[(xrn t p,wrB t p)]).length=l.length+1:=by simp
 have hE:=d4y l (xrn t p,wrB t p)
 have hseg:∀ s C,c3f t s p C→c3f t s (p+xrw t p) (C++[(xrn t p,wrB t p)]):=fun s C q=>q.snoc hp
 generalize xrn t p=r at *
 refine⟨hw.2,?_,?_⟩
 ·rw [hlen]
  have:=h.c
  unfold spR
  repeat' split
  all_goals (simp only; omega)
 ·rcases h.st with⟨h1,h2,h3,h4⟩ | ⟨h1,h2,h3,h4,h5⟩
  ·left
   rw [if_neg h1] at hE
   unfold spR
   rw [if_pos h2]
   refine⟨?_,h2,?_,by rw [hE]; exact h4⟩
   ·intro q
    rw [q] at hE
    have q1:=congrArg List.length hE
    have q2:=d2z l
    rw [hlen] at q1; omega
   ·unfold cuF; rw [hE]; exact h3
  ·rw [if_pos h1] at hE
   unfold spR
   rw [if_neg (by rw [h2]; simp)]
   by_cases r59:r=59
   ·left
    rw [if_pos r59] at hE ⊢
    refine⟨?_,rfl,?_,?_⟩
    ·intro q
     rw [q] at hE
     have q1:=congrArg List.length hE
     rw [hlen] at q1; omega
    ·unfold cuF; rw [hE]; exact d9h h5 h4
    ·rw [hE]; exact h.c
   ·right
    rw [if_neg r59] at hE ⊢
    refine⟨hE,?_⟩
    rw [d9x,hlen]
    unfold cuS
    by_cases hb:r=32∨r=9
    ·have hbl:c0c r=true:=by rcases hb with rfl | rfl <;> rfl
     rw [if_pos hb,if_pos (c:=c0c (r,wrB t p).1=true) hbl]
     exact⟨rfl,by dsimp only; omega,d9h h5 h4,.inl ⟨rfl,rfl⟩⟩
    ·have hbl:c0c r=false:=by simp [c0c]; omega
     rw [if_neg hb,if_neg (c:=c0c (r,wrB t p).1=true) (by dsimp only; rw [hbl]; simp)]
     rcases h5 with⟨k1,k2⟩ | ⟨k1,s,k2,k3,k4,k5⟩
     ·rw [if_pos k2]
      refine⟨rfl,by dsimp only; omega,h4,.inr ⟨by simp,p,rfl,Nat.le_of_lt hp,?_,?_⟩⟩
      ·dsimp only
       rw [k1]
       exact hseg p [] .nil
      ·dsimp only
       rw [if_pos k1,h3]; exact h.c
     ·rw [if_neg (by omega)]
      refine⟨h2,by dsimp only; omega,h4,.inr ⟨by simp,s,k2,k3,?_,?_⟩⟩
      ·exact hseg s _ k4
      ·dsimp only
       rw [if_neg k1]; exact k5
end
end Go.Lev
/- text: the reference's Parse reads as the code's -/
namespace Go.Lev
set_option linter.unusedSimpArgs false
set_option linter.unusedVariables false
open Go.RowKit
open Go.Proofs.Tryd (prog)
set_option maxRecDepth 100000
noncomputable section
theorem d1i {ρ : a2o} {b c n:Nat} (h : ρ b=some (.drop c 4 1)):LVW ρ (.slo b 0 n 0) (.slo c 4 n 1):=by simp [LVW,h]
theorem d8x {ρ : a2o} {c:Nat} {cs0 cs:List LV} (h1:4+cs0.length≤cs.length) (h2:cs0=a3o cs 4 cs0.length) (h3:a1q cs0=true):LBW ρ (.drop c 4 1) (.cells cs0 (some 4)) (some (.cells cs (some 4))):=⟨rfl,rfl,h1,.inl ⟨h2,h3⟩,b2i h3⟩
def lbX (j:MkX):LbX:=(j.nm,j.pl)
theorem d5h (B:List MkX) (s:List UInt8):xfF (B.map lbX) s=match b0v B s with | none => -1 | some pl=>pl:=by
 induction B with
 | nil=>rfl
 | cons b r ih =>
   show(if b.nm == s then b.pl else xfF (r.map lbX) s)=_
   unfold b0v
   split
   ·rfl
   ·exact ih
theorem d2k {B:List MkX} {s:List UInt8} {pl:Int} (h:b0v B s=some pl):∃ b∈B,b.pl=pl:=by
 induction B with
 | nil=>cases h
 | cons b r ih =>
   unfold b0v at h
   split at h
   ·cases h; exact⟨b,by simp,rfl⟩
   ·obtain⟨c,h1,h2⟩:=ih h
    exact⟨c,by simp [h1],h2⟩
theorem d9m (r:Int):(Utf8.encode r).data.toList.length≤4∧1≤(Utf8.encode r).data.toList.length:=by
 unfold Utf8.encode
 simp only
 repeat' split
 all_goals simp
theorem b9k:∀ l:List Int,(b4z l).length≤4 * l.length
 | []=>by simp [b4z]
 | x::r=>by
   have:=d9m x; have:=b9k r
   simp only [b4z,List.length_append,List.length_cons]; omega
theorem d9w {ln:Int} {C:CS} {x:Tk} {N:Nat} (h1:∀ w∈C.ws,w.s.length≤4 * N) (h2:C.l.length≤N) (h3:C.ws.length+C.l.length≤N):(∀ w∈(cuS ln C x).ws,w.s.length≤4 * (N+1))∧(cuS ln C x).l.length≤N+1∧(cuS ln C x).ws.length+(cuS ln C x).l.length≤N+1:=by
 have hw:∀ w∈cuW ln C,w.s.length≤4 * (N+1):=fun w hw=>by
  unfold cuW at hw
  split at hw
  ·have:=h1 w hw; omega
  ·rcases List.mem_append.1 hw with hw | hw
   ·have:=h1 w hw; omega
   ·rw [List.mem_singleton.1 hw]
    have:=b9k (C.l.map (·.1))
    rw [List.length_map] at this
    show(b4z (C.l.map (·.1))).length≤_
    omega
 have hwl:(cuW ln C).length≤N+1:=by
  unfold cuW
  split
  ·omega
  ·rename_i hne
   have:1≤C.l.length:=by rcases hC:C.l with _ | ⟨a,b⟩; exact absurd hC hne; simp
   rw [List.length_append]; simp; omega
 unfold cuS
 split
 ·exact⟨hw,by simp,by simpa using hwl⟩
 ·refine⟨fun w hw=>?_,?_,?_⟩
  ·have:=h1 w hw; omega
  ·simp only [List.length_append,List.length_singleton]; omega
  ·simp only [List.length_append,List.length_singleton]; omega
theorem c2g {ln:Int}:∀ (l:List Tk) (C:CS) (N:Nat),(∀ w∈C.ws,w.s.length≤4 * N)→C.l.length≤N→C.ws.length+C.l.length≤N→(∀ w∈(l.foldl (cuS ln) C).ws,w.s.length≤4 * (N+l.length))∧(l.foldl (cuS ln) C).l.length≤N+l.length∧(l.foldl (cuS ln) C).ws.length+(l.foldl (cuS ln) C).l.length≤N+l.length
 | [],C,N,h1,h2,h3=>⟨h1,h2,h3⟩
 | x::r,C,N,h1,h2,h3=>by
   obtain⟨a,b,c⟩:=d9w (x:=x) (ln:=ln) h1 h2 h3
   have:=c2g (ln:=ln) r (cuS ln C x) (N+1) a b c
   rw [List.foldl_cons,List.length_cons,show N+(r.length+1)=N+1+r.length by omega]
   exact this
theorem d9z (ln:Int) (l:List Tk):(∀ w∈cuF ln l,w.s.length≤4 * l.length)∧(cuF ln l).length≤l.length:=by
 obtain⟨a,b,c⟩:=c2g (ln:=ln) (cuE l) ⟨[],[],1,0⟩ 0 (by simp) (by simp) (by simp)
 have hE:=d2z l
 rw [Nat.zero_add] at a b c
 unfold cuF cuR
 generalize List.foldl (cuS ln) ⟨[],[],1,0⟩ (cuE l)=C at *
 unfold cuW
 split
 ·exact⟨fun w hw=>by have:=a w hw; omega,by omega⟩
 ·rename_i hne
  have:1≤C.l.length:=by rcases hC:C.l with _ | ⟨x,y⟩; exact absurd hC hne; simp
  refine⟨fun w hw=>?_,by rw [List.length_append]; simp; omega⟩
  rcases List.mem_append.1 hw with hw | hw
  ·have:=a w hw; omega
  ·rw [List.mem_singleton.1 hw]
   have:=b9k (C.l.map (·.1))
   rw [List.length_map] at this
   show(b4z (C.l.map (·.1))).length≤_
   omega
/- a line of both -/
def Lab (z:(Int×Int×Int)×List InX×List MkX×List MkX) (e ln:Int) (I:List InX) (J B':List MkX) (W:List RW):Prop :=
 (W=[]∧z=((0,0,0),I,B',J))∨(∃ v ws y ys,W=v::ws∧Wr ln v y∧Al ln ws ys∧z=((riZ y.1 y.2 ys e ln I J).1,(riZ y.1 y.2 ys e ln I J).2.1,B',(riZ y.1 y.2 ys e ln I J).2.2))
def d3q (v:RW):Bool:=decide (0 < v.s.length) && decide (a1i v.s (v.s.length - 1)=58)
theorem d0k {x:List UInt8} (h:d3i x) (c:Int) (ys:List Wd) (e ln:Int) (I:List InX) (J:List MkX):riZ x c ys e ln I J=((ln,c,12),I,J):=by
 unfold riZ; rw [if_pos (d7a h)]
theorem d1x {x:List UInt8} (h:d3i x) (hl:isL x=true):a9l (rlS x)=false:=by
 refine c5i (d3h ?_ _ 0 (Nat.le_refl _) h)
 unfold isL at hl
 rw [a9o] at hl
 simpa using hl
theorem d6p {L:LnS} {e ln:Int} {v:RW} {ws:List RW} (hA:Al ln (v::ws) L.ws) (he:L.e=e) (I:List InX) (B J:List MkX) (hl:d3q v=false):Lab (rnZ L ln I B J) e ln I J B (v::ws):=by
 obtain⟨lw,le⟩:=L
 simp only at hA he
 subst he
 cases hA with
 | @cons _ y _ ys hw hA =>
   refine .inr ⟨v,ws,y,ys,rfl,hw,hA,?_⟩
   unfold rnZ
   dsimp only
   rcases hw.tx with⟨t1,t2⟩ | ⟨t1,t2⟩
   ·have:isL y.1=false:=by
     cases hq:isL y.1 with
     | false=>rfl
     | true =>
       exfalso
       unfold isL at hq
       rw [a9o,← t2] at hq
       have hq:a1i v.s (v.s.length - 1)=58:=by simpa using hq
       have h0:¬ v.s.length=0:=by
        intro h0
        have:v.s=[]:=List.length_eq_zero_iff.1 h0
        rw [this] at hq; revert hq; decide
       simp [d3q,hq] at hl
       exact h0 (by rw [hl]; rfl)
    rw [this,if_neg (by simp)]
   ·cases hq:isL y.1 with
    | false=>rw [if_neg (by simp)]
    | true =>
      have:rlB (a0f mkC B) y.1=false:=by unfold rlB; rw [d1x t2 hq]; rfl
      rw [if_pos rfl,if_pos this,d0k t2]
theorem d9a {L:LnS} {e ln:Int} {v:RW} {ws:List RW} (hA:Al ln (v::ws) L.ws) (he:L.e=e) (I:List InX) (B J:List MkX) (hl:d3q v=true) :
  (v.bd=true→(rnZ L ln I B J).1=(ln,v.cl,12))∧(v.bd=false→(a9l (rlS v.s)=false→(rnZ L ln I B J).1=(ln,v.cl,12))∧(a9l (rlS v.s)=true→b0v B (rlS v.s)≠none→(rnZ L ln I B J).1=(ln,v.cl,12)) ∧
  (a9l (rlS v.s)=true→b0v B (rlS v.s)=none→Lab (rnZ L ln I B J) e ln I J (B++[⟨rlS v.s,I.length,0,0⟩]) ws)):=by
 obtain⟨lw,le⟩:=L
 simp only at hA he
 subst he
 simp only [d3q,Bool.and_eq_true,decide_eq_true_eq] at hl
 cases hA with
 | @cons _ y _ ys hw hA =>
   have hcl:=hw.cl
   refine⟨fun hb=>?_,fun hb=>?_⟩
   ·rcases hw.tx with⟨t1,t2⟩ | ⟨t1,t2⟩
    ·rw [hb] at t1; cases t1
    ·unfold rnZ
     dsimp only
     rw [hcl]
     cases hq:isL y.1 with
     | false=>rw [if_neg (by simp),d0k t2]
     | true =>
       have:rlB (a0f mkC B) y.1=false:=by unfold rlB; rw [d1x t2 hq]; rfl
       rw [if_pos rfl,if_pos this]
   ·rcases hw.tx with⟨t1,t2⟩ | ⟨t1,t2⟩
    ·have hL:isL y.1=true:=by unfold isL; rw [a9o,← t2]; exact decide_eq_true hl.2
     have hr:rlB (a0f mkC B) y.1=(a9l (rlS v.s) && !(b0v B (rlS v.s)).isSome):=by unfold rlB d2m; rw [a5q,t2]
     refine⟨fun h=>?_,fun h1 h2=>?_,fun h1 h2=>?_⟩
     ·unfold rnZ
      dsimp only
      rw [hL,if_pos rfl,if_pos (by rw [hr,h]; rfl),hcl]
     ·unfold rnZ
      dsimp only
      have:(b0v B (rlS v.s)).isSome=true:=by cases hq:b0v B (rlS v.s); exact absurd hq h2; rfl
      rw [hL,if_pos rfl,if_pos (by rw [hr,h1,this]; rfl),hcl]
     ·unfold rnZ Lab
      dsimp only
      rw [hL,if_pos rfl,if_neg (by rw [hr,h1,h2]; simp),← t2]
      cases hA with
      | nil=>exact .inl ⟨rfl,rfl⟩
      | @cons w y2 ws2 ys2 h r=>exact .inr ⟨w,ws2,y2,ys2,rfl,h,r,rfl⟩
    ·rw [hb] at t1; cases t1
end
end Go.Lev
