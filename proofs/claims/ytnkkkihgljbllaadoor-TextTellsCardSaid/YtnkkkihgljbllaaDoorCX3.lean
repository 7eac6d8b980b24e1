import Derived.Test.YtnkkkihgljbllaaDoorLc
import Derived.Test.YtnkkkihgljbllaaDoorChecked
import Derived.KernelRfl
import Derived.Test.YtnkkkihgljbllaaDoorCP5
/- text: runes and their bytes -/
namespace Go.Lev
set_option linter.unusedSimpArgs false
set_option linter.unusedVariables false
open Go.RowKit
open Go.Proofs.Tryd (prog)
set_option maxRecDepth 100000
noncomputable section
/- ==== one rune's bytes ==== -/
def cnD (b:Nat→Nat) (n k:Nat):Bool:=decide (k < n) && b k / 64 == 2
def b3q (b:Nat→Nat) (n:Nat):Nat×Nat :=
 if b 0 < 0x80 then(b 0,1)
 else if(b 0 / 32 == 6 && cnD b n 1)=true then
  if(b 0 % 32) * 64+b 1 % 64≥0x80 then((b 0 % 32) * 64+b 1 % 64,2) else(Utf8.runeError,1)
 else if(b 0 / 16 == 14 && cnD b n 1 && cnD b n 2)=true then
  if(decide ((b 0 % 16) * 4096+(b 1 % 64) * 64+b 2 % 64≥0x800) && Utf8.valid ((b 0 % 16) * 4096+(b 1 % 64) * 64+b 2 % 64:Nat))=true then((b 0 % 16) * 4096+(b 1 % 64) * 64+b 2 % 64,3) else(Utf8.runeError,1)
 else if(b 0 / 8 == 30 && cnD b n 1 && cnD b n 2 && cnD b n 3)=true then
  if(decide ((b 0 % 8) * 262144+(b 1 % 64) * 4096+(b 2 % 64) * 64+b 3 % 64≥0x10000) && Utf8.valid ((b 0 % 8) * 262144+(b 1 % 64) * 4096+(b 2 % 64) * 64+b 3 % 64:Nat))=true then((b 0 % 8) * 262144+(b 1 % 64) * 4096+(b 2 % 64) * 64+b 3 % 64,4) else(Utf8.runeError,1)
 else(Utf8.runeError,1)
abbrev byD (l:List UInt8) (p:Nat):Nat→Nat:=fun k=>(l.getD (p+k) 0).toNat
theorem f9s (l:List UInt8) (i:Nat):(⟨l.toArray⟩:ByteArray).get! i=l.getD i 0:=by
 simp only [ByteArray.get!]
 by_cases h:i < l.length
 ·rw [getElem!_pos l.toArray i (by simpa using h)]; simp [List.getD,h]
 ·rw [getElem!_neg l.toArray i (by simpa using h)]; simp [List.getD,h]; rfl
theorem f5f (l:List UInt8) (p:Nat):Utf8.decode ⟨l.toArray⟩ p=b3q (byD l p) (l.length - p):=by
 have hs:(⟨l.toArray⟩:ByteArray).size=l.length:=rfl
 have hc:∀ k,decide (p+k < l.length)=decide (k < l.length - p):=fun k=>decide_eq_decide.2 (by omega)
 unfold Utf8.decode
 simp only [f9s,hs,hc]
 rfl
theorem c7m (l:List UInt8) (p:Nat):xrn l p=((b3q (byD l p) (l.length - p)).1:Int):=by unfold xrn; rw [f5f]; rfl
theorem c8z (l:List UInt8) (p:Nat):xrw l p=(b3q (byD l p) (l.length - p)).2:=by unfold xrw; rw [f5f]
theorem b4n {b:Nat→Nat} {n k:Nat} (h:cnD b n k=true):k < n∧b k / 64=2:=by simpa [cnD] using h
theorem b8b {b:Nat→Nat} {m n k:Nat} (h:m≤n) (hk:k < m):cnD b m k=cnD b n k:=by simp [cnD,hk,Nat.lt_of_lt_of_le hk h]
theorem c8l {b:Nat→Nat} {m k:Nat} (hk:m≤k):cnD b m k=false:=by simp [cnD]; omega
theorem d9n {b:Nat→Nat} {m n:Nat} (h:m≤n) (h1:1≤m) (h2:(b3q b n).2≤m):b3q b m=b3q b n:=by
 by_cases k1:1 < m
 ·by_cases k2:2 < m
  ·by_cases k3:3 < m
   ·unfold b3q; rw [b8b h k1,b8b h k2,b8b h k3]
   ·unfold b3q at h2 ⊢
    rw [b8b h k1,b8b h k2,c8l (k:=3) (by omega)]
    simp only [Bool.and_false,Bool.false_eq_true,if_false]
    by_cases a:b 0 < 128
    ·rw [if_pos a,if_pos a]
    rw [if_neg a,if_neg a] at *
    by_cases a1:(b 0 / 32 == 6 && cnD b n 1)=true
    ·rw [if_pos a1,if_pos a1]
    rw [if_neg a1] at h2; rw [if_neg a1,if_neg a1]
    by_cases a2:(b 0 / 16 == 14 && cnD b n 1 && cnD b n 2)=true
    ·rw [if_pos a2,if_pos a2]
    rw [if_neg a2] at h2; rw [if_neg a2,if_neg a2]
    by_cases a3:(b 0 / 8 == 30 && cnD b n 1 && cnD b n 2 && cnD b n 3)=true
    ·rw [if_pos a3] at h2; rw [if_pos a3]
     split at h2
     ·simp only at h2; omega
     ·rename_i z; rw [if_neg z]
    ·rw [if_neg a3]
  ·unfold b3q at h2 ⊢
   rw [b8b h k1,c8l (m:=m) (k:=2) (by omega),c8l (m:=m) (k:=3) (by omega)]
   simp only [Bool.and_false,Bool.false_eq_true,if_false]
   by_cases a:b 0 < 128
   ·rw [if_pos a,if_pos a]
   rw [if_neg a,if_neg a] at *
   by_cases a1:(b 0 / 32 == 6 && cnD b n 1)=true
   ·rw [if_pos a1,if_pos a1]
   rw [if_neg a1] at h2; rw [if_neg a1,if_neg a1]
   by_cases a2:(b 0 / 16 == 14 && cnD b n 1 && cnD b n 2)=true
   ·rw [if_pos a2] at h2; rw [if_pos a2]
    split at h2
    ·simp only at h2; omega
    ·rename_i z; rw [if_neg z]
   rw [if_neg a2] at h2; rw [if_neg a2]
   by_cases a3:(b 0 / 8 == 30 && cnD b n 1 && cnD b n 2 && cnD b n 3)=true
   ·rw [if_pos a3] at h2; rw [if_pos a3]
    split at h2
    ·simp only at h2; omega
    ·rename_i z; rw [if_neg z]
   ·rw [if_neg a3]
 ·unfold b3q at h2 ⊢
  rw [c8l (m:=m) (k:=1) (by omega),c8l (m:=m) (k:=2) (by omega),c8l (m:=m) (k:=3) (by omega)]
  simp only [Bool.and_false,Bool.false_and,Bool.false_eq_true,if_false]
  by_cases a:b 0 < 128
  ·rw [if_pos a,if_pos a]
  rw [if_neg a,if_neg a] at *
  by_cases a1:(b 0 / 32 == 6 && cnD b n 1)=true
  ·rw [if_pos a1] at h2; rw [if_pos a1]
   split at h2
   ·simp only at h2; omega
   ·rename_i z; rw [if_neg z]
  rw [if_neg a1] at h2; rw [if_neg a1]
  by_cases a2:(b 0 / 16 == 14 && cnD b n 1 && cnD b n 2)=true
  ·rw [if_pos a2] at h2; rw [if_pos a2]
   split at h2
   ·simp only at h2; omega
   ·rename_i z; rw [if_neg z]
  rw [if_neg a2] at h2; rw [if_neg a2]
  by_cases a3:(b 0 / 8 == 30 && cnD b n 1 && cnD b n 2 && cnD b n 3)=true
  ·rw [if_pos a3] at h2; rw [if_pos a3]
   split at h2
   ·simp only at h2; omega
   ·rename_i z; rw [if_neg z]
  ·rw [if_neg a3]
def d6u (c:Nat):List Nat :=
 if c < 0x80 then [c]
 else if c < 0x800 then [0xC0+c / 64,0x80+c % 64]
 else if c < 0x10000 then [0xE0+c / 4096,0x80+c / 64 % 64,0x80+c % 64]
 else [0xF0+c / 262144,0x80+c / 4096 % 64,0x80+c / 64 % 64,0x80+c % 64]
theorem g1k {c:Nat} (h:Utf8.valid c=true):(Utf8.encode c).data.toList=(d6u c).map UInt8.ofNat:=by
 unfold Utf8.encode d6u
 simp only [h,if_true,Int.toNat_natCast]
 split
 ·rfl
 ·split
  ·rfl
  ·split <;> rfl
theorem d5p {c:Nat} (h:c < 0xD800):Utf8.valid c=true:=by simp [Utf8.valid]; omega
theorem b3p (b:Nat→Nat) (n:Nat) (hb:∀ k,b k < 256) (hn:1≤n) :
  (b3q b n=(65533,1)∧128≤b 0∧¬ (3≤n∧b 0=239∧b 1=191∧b 2=189)) ∨
  (Utf8.valid (b3q b n).1=true∧d6u (b3q b n).1=(List.range (b3q b n).2).map b∧1≤(b3q b n).2∧(b3q b n).2≤n):=by
 have h0:=hb 0; have h1:=hb 1; have h2:=hb 2; have h3:=hb 3
 unfold b3q
 by_cases a:b 0 < 128
 ·rw [if_pos a]
  refine .inr ⟨d5p (by simp only; omega),?_,Nat.le_refl _,hn⟩
  simp only [d6u,if_pos a]; rfl
 rw [if_neg a]
 by_cases a1:(b 0 / 32 == 6 && cnD b n 1)=true
 ·rw [if_pos a1]
  simp only [Bool.and_eq_true,beq_iff_eq] at a1
  obtain⟨a1,a2⟩:=a1
  obtain⟨c1,c2⟩:=b4n a2
  by_cases z:(b 0 % 32) * 64+b 1 % 64≥0x80
  ·rw [if_pos z]
   refine .inr ⟨d5p (by simp only; omega),?_,by simp,by simp only; omega⟩
   simp only [d6u]
   rw [if_neg (by omega),if_pos (by omega)]
   simp only [List.range,List.range.loop,List.map]
   congr 1
   ·omega
   ·congr 1; omega
  ·rw [if_neg z]; exact .inl ⟨rfl,by omega,by omega⟩
 rw [if_neg a1]
 by_cases a2:(b 0 / 16 == 14 && cnD b n 1 && cnD b n 2)=true
 ·rw [if_pos a2]
  simp only [Bool.and_eq_true,beq_iff_eq] at a2
  obtain⟨⟨b1,b2⟩,b3⟩:=a2
  obtain⟨c1,c2⟩:=b4n b2
  obtain⟨c3,c4⟩:=b4n b3
  generalize hc:(b 0 % 16) * 4096+(b 1 % 64) * 64+b 2 % 64=c
  by_cases z:(decide (c≥0x800) && Utf8.valid c)=true
  ·rw [if_pos z]
   simp only [Bool.and_eq_true,decide_eq_true_eq] at z
   refine .inr ⟨z.2,?_,by simp,by simp only; omega⟩
   simp only [d6u]
   rw [if_neg (by omega),if_neg (by omega),if_pos (by omega)]
   simp only [List.range,List.range.loop,List.map]
   congr 1
   ·omega
   ·congr 1
    ·omega
    ·congr 1; omega
  ·rw [if_neg z]
   refine .inl ⟨rfl,by omega,fun⟨_,e0,e1,e2⟩=>z ?_⟩
   rw [e0,e1,e2] at hc
   subst hc
   rfl
 rw [if_neg a2]
 have nf:¬ (3≤n∧b 0=239∧b 1=191∧b 2=189):=fun⟨e,e0,e1,e2⟩=>a2 (by
  have q1:cnD b n 1=true:=by simp [cnD,e1]; omega
  have q2:cnD b n 2=true:=by simp [cnD,e2]; omega
  rw [q1,q2,e0]; rfl)
 by_cases a3:(b 0 / 8 == 30 && cnD b n 1 && cnD b n 2 && cnD b n 3)=true
 ·rw [if_pos a3]
  simp only [Bool.and_eq_true,beq_iff_eq] at a3
  obtain⟨⟨⟨b1,b2⟩,b3⟩,b4⟩:=a3
  obtain⟨c1,c2⟩:=b4n b2
  obtain⟨c3,c4⟩:=b4n b3
  obtain⟨c5,c6⟩:=b4n b4
  generalize hc:(b 0 % 8) * 262144+(b 1 % 64) * 4096+(b 2 % 64) * 64+b 3 % 64=c
  by_cases z:(decide (c≥0x10000) && Utf8.valid c)=true
  ·rw [if_pos z]
   simp only [Bool.and_eq_true,decide_eq_true_eq] at z
   refine .inr ⟨z.2,?_,by simp,by simp only; omega⟩
   simp only [d6u]
   rw [if_neg (by omega),if_neg (by omega),if_neg (by omega)]
   simp only [List.range,List.range.loop,List.map]
   congr 1
   ·omega
   ·congr 1
    ·omega
    ·congr 1
     ·omega
     ·congr 1; omega
  ·rw [if_neg z]; exact .inl ⟨rfl,by omega,nf⟩
 ·rw [if_neg a3]; exact .inl ⟨rfl,by omega,nf⟩
/- ==== runes of a text ==== -/
theorem c8k {b b':Nat→Nat} {m:Nat} (h:∀ k,k < m→b k=b' k) (h1:1≤m):b3q b m=b3q b' m:=by
 have e0:=h 0 (by omega)
 have c1:cnD b m 1=cnD b' m 1:=by unfold cnD; by_cases k:1 < m; (· rw [h 1 k]); (· simp [k])
 have c2:cnD b m 2=cnD b' m 2:=by unfold cnD; by_cases k:2 < m; (· rw [h 2 k]); (· simp [k])
 have c3:cnD b m 3=cnD b' m 3:=by unfold cnD; by_cases k:3 < m; (· rw [h 3 k]); (· simp [k])
 unfold b3q
 rw [e0,c1,c2,c3]
 by_cases a:b' 0 < 128
 ·rw [if_pos a,if_pos a]
 rw [if_neg a,if_neg a]
 by_cases a1:(b' 0 / 32 == 6 && cnD b' m 1)=true
 ·rw [if_pos a1,if_pos a1]
  rw [h 1 (b4n (Bool.and_eq_true _ _▸a1).2).1]
 rw [if_neg a1,if_neg a1]
 by_cases a2:(b' 0 / 16 == 14 && cnD b' m 1 && cnD b' m 2)=true
 ·rw [if_pos a2,if_pos a2]
  simp only [Bool.and_eq_true] at a2
  rw [h 1 (b4n a2.1.2).1,h 2 (b4n a2.2).1]
 rw [if_neg a2,if_neg a2]
 by_cases a3:(b' 0 / 8 == 30 && cnD b' m 1 && cnD b' m 2 && cnD b' m 3)=true
 ·rw [if_pos a3,if_pos a3]
  simp only [Bool.and_eq_true] at a3
  rw [h 1 (b4n a3.1.1.2).1,h 2 (b4n a3.1.2).1,h 3 (b4n a3.2).1]
 ·rw [if_neg a3,if_neg a3]
abbrev Tk:=Int×Bool
def wrB (t:List UInt8) (p:Nat):Bool:=decide (xrn t p=65533) && !(decide (p+3≤t.length) && a3h .eql (a0v t p (p+3)) [239,191,189])
theorem f1l {t:List UInt8} {p:Nat} (h:wrB t p=true):xrn t p=65533:=by simp [wrB] at h; exact h.1
theorem d3f (l:List UInt8) (p k:Nat):byD l p k < 256:=(l.getD (p+k) 0).toNat_lt
theorem d2w {t:List UInt8} {p w:Nat} (h:p+w≤t.length):(List.range w).map (fun k=>UInt8.ofNat (byD t p k))=a0v t p (p+w):=by
 unfold a0v
 apply List.ext_getElem
 ·simp; omega
 ·intro i h1 h2
  simp at h1
  simp [byD,List.getD,List.getElem?_eq_getElem (show p+i < t.length by omega)]
theorem d3z {t:List UInt8} {p:Nat} (h:p < t.length) (hw:wrB t p=false):(Utf8.encode (xrn t p)).data.toList=a0v t p (p+xrw t p):=by
 rw [c7m,c8z]
 rcases b3p (byD t p) (t.length - p) (d3f t p) (by omega) with⟨e,e1,e2⟩ | ⟨v,e,w1,w2⟩
 ·exfalso
  have hr:xrn t p=65533:=by rw [c7m,e]; rfl
  simp only [wrB,hr,decide_true,Bool.true_and,Bool.not_eq_false',Bool.and_eq_true,decide_eq_true_eq] at hw
  obtain⟨h3,h4⟩:=hw
  have h4:(a0v t p (p+3) == [239,191,189])=true:=h4
  have h4:a0v t p (p+3)=[239,191,189]:=by simpa using h4
  rw [← d2w h3] at h4
  simp only [List.range,List.range.loop,List.map,List.cons.injEq,and_true] at h4
  obtain⟨q0,q1,q2⟩:=h4
  refine e2 ⟨by omega,?_,?_,?_⟩
  ·have:=congrArg UInt8.toNat q0; simpa [byD] using this
  ·have:=congrArg UInt8.toNat q1; simpa [byD] using this
  ·have:=congrArg UInt8.toNat q2; simpa [byD] using this
 ·rw [g1k v,e,List.map_map,← d2w (show p+(b3q (byD t p) (t.length - p)).2≤t.length by omega)]
  rfl
def tkF (t:List UInt8) (p:Nat):List Tk :=
 if h:p < t.length then(xrn t p,wrB t p)::tkF t (p+xrw t p) else []
termination_by t.length - p
decreasing_by all_goals (have:=b1o h; omega)
theorem c0l {t:List UInt8} {p:Nat} (h:p < t.length):tkF t p=(xrn t p,wrB t p)::tkF t (p+xrw t p):=by rw [tkF,dif_pos h]
theorem b7g {t:List UInt8} {p:Nat} (h:t.length≤p):tkF t p=[]:=by rw [tkF,dif_neg (by omega)]
theorem c0s (t:List UInt8):∀ (k i:Nat),t.length - i≤k→b3v t k i=(tkF t i).map (·.1)
 | 0,i,h=>by rw [b3v,b7g (by omega)]; rfl
 | k+1,i,h=>by
   rw [b3v]
   by_cases hi:i < t.length
   ·have:=b1o hi
    rw [if_pos hi,c0l hi,List.map_cons,← c0s t k (i+xrw t i) (by omega)]; rfl
   ·rw [if_neg hi,b7g (by omega)]; rfl
theorem c0r (t:List UInt8):b1z t=(tkF t 0).map (·.1):=c0s t _ 0 (by omega)
theorem c9t (t:List UInt8):∀ (p:Nat),(tkF t p).length≤t.length - p:=by
 suffices ∀ n p,t.length - p≤n→(tkF t p).length≤t.length - p from fun p=>this _ p (Nat.le_refl _)
 intro n
 induction n with
 | zero=>intro p h; rw [b7g (by omega)]; simp
 | succ n ih =>
   intro p h
   by_cases hp:p < t.length
   ·have hw:=b1o hp
    rw [c0l hp]
    have:=ih (p+xrw t p) (by omega)
    simp only [List.length_cons]; omega
   ·rw [b7g (by omega)]; simp
inductive c3f (t:List UInt8) (s:Nat):Nat→List Tk→Prop
 | nil:c3f t s s []
 | snoc {p:Nat} {l:List Tk} (h:c3f t s p l) (hp:p < t.length):c3f t s (p+xrw t p) (l++[(xrn t p,wrB t p)])
theorem c3f.le {t:List UInt8} {s p:Nat} {l:List Tk} (h:c3f t s p l) (hs:s≤t.length):s≤p∧p≤t.length:=by
 induction h with
 | nil=>exact⟨Nat.le_refl _,hs⟩
 | snoc h hp ih=>have:=b1o hp; omega
theorem c7a:∀ a b:List Int,b4z (a++b)=b4z a++b4z b
 | [],b=>rfl
 | x::a,b=>by simp [b4z,c7a a b]
theorem d9v {t:List UInt8} {s p q:Nat} (h1:s≤p) (h2:p≤q) (h3:q≤t.length):a0v t s q=a0v t s p++a0v t p q:=by
 unfold a0v
 rw [show q - s=(p - s)+(q - p) by omega,List.take_add]
 congr 1
 rw [List.drop_drop]; congr 2; omega
theorem c3f.good {t:List UInt8} {s p:Nat} {l:List Tk} (h:c3f t s p l) (hs:s≤t.length) (hg:∀ x∈l,x.2=false):b4z (l.map (·.1))=a0v t s p:=by
 induction h with
 | nil=>simp [b4z,a0v]
 | @snoc p l h hp ih =>
   have:=b1o hp
   have hl:=h.le hs
   rw [List.map_append,c7a,ih (fun x hx=>hg x (List.mem_append.2 (.inl hx))),d9v hl.1 (show p≤p+xrw t p by omega) this.2,← d3z hp (hg (xrn t p,wrB t p) (by simp))]
   simp [b4z]
def rnF (t:List UInt8) (p:Nat):List Int :=
 if h:p < t.length then xrn t p::rnF t (p+xrw t p) else []
termination_by t.length - p
decreasing_by all_goals (have:=b1o h; omega)
theorem b9q {t:List UInt8} {s p:Nat} (h2:p≤t.length):(a0v t s p).length=p - s:=by simp [a0v]; omega
theorem d2x {t:List UInt8} {s p q:Nat} (h1:s≤q) (h2:q+xrw t q≤p) (h3:p≤t.length) (h4:q < t.length):xrn (a0v t s p) (q - s)=xrn t q∧xrw (a0v t s p) (q - s)=xrw t q:=by
 have hw:=b1o h4
 have e:b3q (byD (a0v t s p) (q - s)) ((a0v t s p).length - (q - s))=b3q (byD t q) (t.length - q):=by
  rw [b9q h3,show p - s - (q - s)=p - q by omega,← d9n (b:=byD t q) (m:=p - q) (n:=t.length - q) (by omega) (by omega) (by rw [← c8z]; omega)]
  refine c8k (fun k hk=>?_) (by omega)
  simp only [byD,List.getD,a0v]
  rw [List.getElem?_take_of_lt (by omega),List.getElem?_drop]
  congr 3; omega
 rw [c7m,c8z,e,← c7m,← c8z]; exact⟨rfl,rfl⟩
theorem c3f.run {t:List UInt8} {s q:Nat} {l:List Tk} (h:c3f t s q l) {p:Nat} (hs:s≤t.length) (hq:q≤p) (hp:p≤t.length):rnF (a0v t s p) 0=l.map (·.1)++rnF (a0v t s p) (q - s):=by
 induction h with
 | nil=>simp
 | @snoc q l h hq' ih =>
   have:=b1o hq'
   have hl:=h.le hs
   obtain⟨e1,e2⟩:=d2x hl.1 hq hp hq'
   rw [ih (by omega),rnF,dif_pos (show q - s < (a0v t s p).length by rw [b9q hp]; omega),e1,e2,List.map_append,List.append_assoc]
   simp only [List.map,List.cons_append,List.nil_append]
   rw [show q - s+xrw t q=q+xrw t q - s by omega]
theorem c3f.bad {t:List UInt8} {s p:Nat} {l:List Tk} (h:c3f t s p l) (hs:s≤t.length) (hg:∃ x∈l,x.2=true) (hw:∀ x∈l,x.2=true→x.1=65533):(65533:Int)∈rnF (a0v t s p) 0:=by
 obtain⟨x,hx,h2⟩:=hg
 rw [h.run hs (Nat.le_refl _) (h.le hs).2]
 exact List.mem_append.2 (.inl (List.mem_map.2 ⟨x,hx,hw x hx h2⟩))
theorem c3f.wr {t:List UInt8} {s p:Nat} {l:List Tk} (h:c3f t s p l):∀ x∈l,x.2=true→x.1=65533:=by
 induction h with
 | nil=>intro x hx; simp at hx
 | @snoc p l h hp ih =>
   intro x hx hb
   rcases List.mem_append.1 hx with hx | hx
   ·exact ih x hx hb
   ·rw [List.mem_singleton.1 hx] at hb ⊢; exact f1l hb
theorem f8k {l:List UInt8} {p:Nat} (h:p < l.length) (hr:xrn l p < 128):(l[p]'h).toNat < 128:=by
 by_cases hb:(l[p]'h).toNat < 128
 ·exact hb
 exfalso
 have e0:byD l p 0=(l[p]'h).toNat:=by simp [byD,List.getD,h]
 rw [c7m] at hr
 rcases b3p (byD l p) (l.length - p) (d3f l p) (by omega) with⟨e,e1,e2⟩ | ⟨v,e,w1,w2⟩
 ·rw [e] at hr; simp only at hr; omega
 ·have hr:(b3q (byD l p) (l.length - p)).1 < 128:=by omega
  rw [d6u,if_pos hr] at e
  obtain⟨w,hw⟩:∃ w,(b3q (byD l p) (l.length - p)).2=w+1:=⟨_,(Nat.sub_add_cancel w1).symm⟩
  rw [hw,List.range_succ_eq_map,List.map_cons,List.cons.injEq] at e
  omega
def asc (s:List UInt8):Prop:=∀ b∈s,b.toNat < 128
theorem f5w {s:List UInt8} (h:asc s):∀ (p:Nat),(65533:Int) ∉ rnF s p:=by
 suffices ∀ n p,s.length - p≤n→(65533:Int) ∉ rnF s p from fun p=>this _ p (Nat.le_refl _)
 intro n
 induction n with
 | zero=>intro p hp; rw [rnF,dif_neg (by omega)]; simp
 | succ n ih =>
   intro p hn
   by_cases hp:p < s.length
   ·have hw:=b1o hp
    obtain⟨a,b⟩:=c6b (List.getElem?_eq_getElem hp) (h _ (List.getElem_mem hp))
    have hb:=h _ (List.getElem_mem hp)
    rw [rnF,dif_pos hp]
    intro hm
    rcases List.mem_cons.1 hm with hm | hm
    ·omega
    ·exact ih _ (by omega) hm
   ·rw [rnF,dif_neg hp]; simp
end
end Go.Lev
/- text: the reference's runes, Number, name, find: their trees -/
namespace Go.Lev
set_option linter.unusedSimpArgs false
set_option linter.unusedVariables false
open Go.RowKit
open Go.Proofs.Tryd (prog)
set_option maxRecDepth 100000
noncomputable section
abbrev ruL:List Nat:=[0,2,3,7]
abbrev ruT (s:List UInt8) (k:Nat):List (Nat×LV):=[(0,.str s),(2,.nils),(3,.slo 1 0 k 0),(7,.ptr 0 0)]
abbrev xnL:List Nat:=[2,3,8]
abbrev xnT (k:Int):List (Nat×LV):=[(2,.bool false),(3,.int .i64 k),(8,.ptr 0 0)]
abbrev xfL:List Nat:=[0,1,4,5]
abbrev xfT (s:List UInt8) (n i:Nat):List (Nat×LV):=[(0,.slo 0 0 n 0),(1,.str s),(4,.int .i64 0),(5,.int .i64 i)]
abbrev xuL:List Nat:=[0,1,4,5,6,7,25]
abbrev xuT (s:List UInt8) (m n:Int) (i:Nat):List (Nat×LV):=[(0,.str s),(1,.int .u64 m),(4,.int .u64 0),(5,.bool false),(6,.int .u64 n),(7,.int .i64 i)]
theorem g4v (s:List UInt8) (K:Pk):(xsp prog (fun _=>none) 40 34 (seg (sp prog 33) 0 3) (tm0 [.str s]) (mkS [] []) (vK ruL K))=(
 K .normal [.str s,.nils,.nils,.ptr 0 0] [some (.iter s 0)] []):=by kernel_rfl
theorem g4u (s:List UInt8) (p k:Nat) (bx:List LV) (K:Pk):(a1h prog (fun _=>none) 40 34 (a1w (a4i (sp prog 33) 3)) (a1p 34 (ruT s k)) (mkS [.iter s p,.cells bx (some 1)] []) (vK ruL K))=(
 bif xle (a0a p 1) (a0z s) then(
 bif xcm .eql (xrn s p) 65533 then(
 bif xcm .leq (xar .add .i64 (Int.ofNat p) 3) ↑(a0z s) then(
 ck (xnn (xar .add .i64 (Int.ofNat p) 3)) <|
 ck (xle p (a0c (xar .add .i64 (Int.ofNat p) 3))) <|
 ck (xle (a0c (xar .add .i64 (Int.ofNat p) 3)) (a0z s)) <|
 ck (xle (a0a k 1) 1000000) <|
 ck (xle (a0a 0 (a1t k 1)) (xln bx)) <|
 K .normal [.str s,.nils,.slo 3 0 (a0a k 1) 0,.ptr 0 0] [some (.iter s (a0a p (xrw s p))),sD,sN [.bool (a3i (a3h .eql (a0v s p (a0c (xar .add .i64 (Int.ofNat p) 3))) [239,191,189]))],sC (a6n (a3o bx 0 (a1t k 1)) [.bool (a3i (a3h .eql (a0v s p (a0c (xar .add .i64 (Int.ofNat p) 3))) [239,191,189]))]) 1] [])
 else(
 ck (xle (a0a k 1) 1000000) <|
 ck (xle (a0a 0 (a1t k 1)) (xln bx)) <|
 K .normal [.str s,.nils,.slo 3 0 (a0a k 1) 0,.ptr 0 0] [some (.iter s (a0a p (xrw s p))),sD,sN [.bool true],sC (a6n (a3o bx 0 (a1t k 1)) [.bool true]) 1] []))
 else(
 ck (xle (a0a k 1) 1000000) <|
 ck (xle (a0a 0 (a1t k 1)) (xln bx)) <|
 K .normal [.str s,.nils,.slo 3 0 (a0a k 1) 0,.ptr 0 0] [some (.iter s (a0a p (xrw s p))),sD,sN [.bool false],sC (a6n (a3o bx 0 (a1t k 1)) [.bool false]) 1] []))
 else(
 K (.exit 0) [.str s,.nils,.slo 1 0 k 0,.ptr 0 0] [some (.iter s p),sC bx 1] [])):=by kernel_rfl
theorem g4t (s:List UInt8) (p k:Nat) (bx:List LV) (K:Pk):(xsp prog (fun _=>none) 40 34 ((sp prog 33).drop 4) (a1p 34 (ruT s k)) (mkS [.iter s p,.cells bx (some 1)] []) (vK ruL K))=(
 K .ret [.str s,.slo 1 0 k 0,.slo 1 0 k 0,.ptr 0 0] [some (.iter s p),sC bx 1] []):=by kernel_rfl
theorem g3k (s:List UInt8) (K:Pk):(xsp prog (fun _=>none) 60 64 (seg (sp prog 35) 0 3) (tm0 [.str s]) (mkS [] []) (vK xnL K))=(
 K .normal [.bool false,.int .i64 0,.ptr 0 0] [some (.iter s 0)] []):=by kernel_rfl
theorem g3j (s:List UInt8) (p:Nat) (k:Int) (K:Pk):(a1h prog (fun _=>none) 60 64 (a1w (a4i (sp prog 35) 3)) (a1p 64 (xnT k)) (mkS [.iter s p] []) (vK xnL K))=(
 bif xle (a0a p 1) (a0z s) then(
 bif xcm .geq (xrn s p) 97 then(
 bif xcm .leq (xrn s p) 122 then(
 K .normal [.bool false,.int .i64 (xar .add .i64 k 1),.ptr 0 0] [some (.iter s (a0a p (xrw s p)))] [])
 else(
 bif xcm .geq (xrn s p) 65 then(
 bif xcm .leq (xrn s p) 90 then(
 K .normal [.bool false,.int .i64 (xar .add .i64 k 1),.ptr 0 0] [some (.iter s (a0a p (xrw s p)))] [])
 else(
 bif xcm .geq (xrn s p) 192 then(
 bif xcm .leq (xrn s p) 591 then(
 bif xcm .neq (xrn s p) 215 then(
 bif a3i (xcm .neq (xrn s p) 247) then(
 bif xcm .eql k 0 then(
 K .ret [.bool false,.int .i64 k,.ptr 0 0] [some (.iter s (a0a p (xrw s p)))] [])
 else(
 bif xcm .lss (xrn s p) 48 then(
 K .ret [.bool false,.int .i64 k,.ptr 0 0] [some (.iter s (a0a p (xrw s p)))] [])
 else(
 bif xcm .gtr (xrn s p) 57 then(
 K .ret [.bool false,.int .i64 k,.ptr 0 0] [some (.iter s (a0a p (xrw s p)))] [])
 else(
 K .normal [.bool false,.int .i64 (xar .add .i64 k 1),.ptr 0 0] [some (.iter s (a0a p (xrw s p)))] []))))
 else(
 K .normal [.bool false,.int .i64 (xar .add .i64 k 1),.ptr 0 0] [some (.iter s (a0a p (xrw s p)))] []))
 else(
 bif xcm .eql k 0 then(
 K .ret [.bool false,.int .i64 k,.ptr 0 0] [some (.iter s (a0a p (xrw s p)))] [])
 else(
 bif xcm .lss (xrn s p) 48 then(
 K .ret [.bool false,.int .i64 k,.ptr 0 0] [some (.iter s (a0a p (xrw s p)))] [])
 else(
 bif xcm .gtr (xrn s p) 57 then(
 K .ret [.bool false,.int .i64 k,.ptr 0 0] [some (.iter s (a0a p (xrw s p)))] [])
 else(
 K .normal [.bool false,.int .i64 (xar .add .i64 k 1),.ptr 0 0] [some (.iter s (a0a p (xrw s p)))] [])))))
 else(
 bif xcm .eql k 0 then(
 K .ret [.bool false,.int .i64 k,.ptr 0 0] [some (.iter s (a0a p (xrw s p)))] [])
 else(
 bif xcm .lss (xrn s p) 48 then(
 K .ret [.bool false,.int .i64 k,.ptr 0 0] [some (.iter s (a0a p (xrw s p)))] [])
 else(
 bif xcm .gtr (xrn s p) 57 then(
 K .ret [.bool false,.int .i64 k,.ptr 0 0] [some (.iter s (a0a p (xrw s p)))] [])
 else(
 K .normal [.bool false,.int .i64 (xar .add .i64 k 1),.ptr 0 0] [some (.iter s (a0a p (xrw s p)))] [])))))
 else(
 bif xcm .eql k 0 then(
 K .ret [.bool false,.int .i64 k,.ptr 0 0] [some (.iter s (a0a p (xrw s p)))] [])
 else(
 bif xcm .lss (xrn s p) 48 then(
 K .ret [.bool false,.int .i64 k,.ptr 0 0] [some (.iter s (a0a p (xrw s p)))] [])
 else(
 bif xcm .gtr (xrn s p) 57 then(
 K .ret [.bool false,.int .i64 k,.ptr 0 0] [some (.iter s (a0a p (xrw s p)))] [])
 else(
 K .normal [.bool false,.int .i64 (xar .add .i64 k 1),.ptr 0 0] [some (.iter s (a0a p (xrw s p)))] []))))))
 else(
 bif xcm .geq (xrn s p) 192 then(
 bif xcm .leq (xrn s p) 591 then(
 bif xcm .neq (xrn s p) 215 then(
 bif a3i (xcm .neq (xrn s p) 247) then(
 bif xcm .eql k 0 then(
 K .ret [.bool false,.int .i64 k,.ptr 0 0] [some (.iter s (a0a p (xrw s p)))] [])
 else(
 bif xcm .lss (xrn s p) 48 then(
 K .ret [.bool false,.int .i64 k,.ptr 0 0] [some (.iter s (a0a p (xrw s p)))] [])
 else(
 bif xcm .gtr (xrn s p) 57 then(
 K .ret [.bool false,.int .i64 k,.ptr 0 0] [some (.iter s (a0a p (xrw s p)))] [])
 else(
 K .normal [.bool false,.int .i64 (xar .add .i64 k 1),.ptr 0 0] [some (.iter s (a0a p (xrw s p)))] []))))
 else(
 K .normal [.bool false,.int .i64 (xar .add .i64 k 1),.ptr 0 0] [some (.iter s (a0a p (xrw s p)))] []))
 else(
 bif xcm .eql k 0 then(
 K .ret [.bool false,.int .i64 k,.ptr 0 0] [some (.iter s (a0a p (xrw s p)))] [])
 else(
 bif xcm .lss (xrn s p) 48 then(
 K .ret [.bool false,.int .i64 k,.ptr 0 0] [some (.iter s (a0a p (xrw s p)))] [])
 else(
 bif xcm .gtr (xrn s p) 57 then(
 K .ret [.bool false,.int .i64 k,.ptr 0 0] [some (.iter s (a0a p (xrw s p)))] [])
 else(
 K .normal [.bool false,.int .i64 (xar .add .i64 k 1),.ptr 0 0] [some (.iter s (a0a p (xrw s p)))] [])))))
 else(
 bif xcm .eql k 0 then(
 K .ret [.bool false,.int .i64 k,.ptr 0 0] [some (.iter s (a0a p (xrw s p)))] [])
 else(
 bif xcm .lss (xrn s p) 48 then(
 K .ret [.bool false,.int .i64 k,.ptr 0 0] [some (.iter s (a0a p (xrw s p)))] [])
 else(
 bif xcm .gtr (xrn s p) 57 then(
 K .ret [.bool false,.int .i64 k,.ptr 0 0] [some (.iter s (a0a p (xrw s p)))] [])
 else(
 K .normal [.bool false,.int .i64 (xar .add .i64 k 1),.ptr 0 0] [some (.iter s (a0a p (xrw s p)))] [])))))
 else(
 bif xcm .eql k 0 then(
 K .ret [.bool false,.int .i64 k,.ptr 0 0] [some (.iter s (a0a p (xrw s p)))] [])
 else(
 bif xcm .lss (xrn s p) 48 then(
 K .ret [.bool false,.int .i64 k,.ptr 0 0] [some (.iter s (a0a p (xrw s p)))] [])
 else(
 bif xcm .gtr (xrn s p) 57 then(
 K .ret [.bool false,.int .i64 k,.ptr 0 0] [some (.iter s (a0a p (xrw s p)))] [])
 else(
 K .normal [.bool false,.int .i64 (xar .add .i64 k 1),.ptr 0 0] [some (.iter s (a0a p (xrw s p)))] [])))))))
 else(
 bif xcm .geq (xrn s p) 65 then(
 bif xcm .leq (xrn s p) 90 then(
 K .normal [.bool false,.int .i64 (xar .add .i64 k 1),.ptr 0 0] [some (.iter s (a0a p (xrw s p)))] [])
 else(
 bif xcm .geq (xrn s p) 192 then(
 bif xcm .leq (xrn s p) 591 then(
 bif xcm .neq (xrn s p) 215 then(
 bif a3i (xcm .neq (xrn s p) 247) then(
 bif xcm .eql k 0 then(
 K .ret [.bool false,.int .i64 k,.ptr 0 0] [some (.iter s (a0a p (xrw s p)))] [])
 else(
 bif xcm .lss (xrn s p) 48 then(
 K .ret [.bool false,.int .i64 k,.ptr 0 0] [some (.iter s (a0a p (xrw s p)))] [])
 else(
 bif xcm .gtr (xrn s p) 57 then(
 K .ret [.bool false,.int .i64 k,.ptr 0 0] [some (.iter s (a0a p (xrw s p)))] [])
 else(
 K .normal [.bool false,.int .i64 (xar .add .i64 k 1),.ptr 0 0] [some (.iter s (a0a p (xrw s p)))] []))))
 else(
 K .normal [.bool false,.int .i64 (xar .add .i64 k 1),.ptr 0 0] [some (.iter s (a0a p (xrw s p)))] []))
 else(
 bif xcm .eql k 0 then(
 K .ret [.bool false,.int .i64 k,.ptr 0 0] [some (.iter s (a0a p (xrw s p)))] [])
 else(
 bif xcm .lss (xrn s p) 48 then(
 K .ret [.bool false,.int .i64 k,.ptr 0 0] [some (.iter s (a0a p (xrw s p)))] [])
 else(
 bif xcm .gtr (xrn s p) 57 then(
 K .ret [.bool false,.int .i64 k,.ptr 0 0] [some (.iter s (a0a p (xrw s p)))] [])
 else(
 K .normal [.bool false,.int .i64 (xar .add .i64 k 1),.ptr 0 0] [some (.iter s (a0a p (xrw s p)))] [])))))
 else(
 bif xcm .eql k 0 then(
 K .ret [.bool false,.int .i64 k,.ptr 0 0] [some (.iter s (a0a p (xrw s p)))] [])
 else(
 bif xcm .lss (xrn s p) 48 then(
 K .ret [.bool false,.int .i64 k,.ptr 0 0] [some (.iter s (a0a p (xrw s p)))] [])
 else(
 bif xcm .gtr (xrn s p) 57 then(
 K .ret [.bool false,.int .i64 k,.ptr 0 0] [some (.iter s (a0a p (xrw s p)))] [])
 else(
 K .normal [.bool false,.int .i64 (xar .add .i64 k 1),.ptr 0 0] [some (.iter s (a0a p (xrw s p)))] [])))))
 else(
 bif xcm .eql k 0 then(
 K .ret [.bool false,.int .i64 k,.ptr 0 0] [some (.iter s (a0a p (xrw s p)))] [])
 else(
 bif xcm .lss (xrn s p) 48 then(
 K .ret [.bool false,.int .i64 k,.ptr 0 0] [some (.iter s (a0a p (xrw s p)))] [])
 else(
 bif xcm .gtr (xrn s p) 57 then(
 K .ret [.bool false,.int .i64 k,.ptr 0 0] [some (.iter s (a0a p (xrw s p)))] [])
 else(
 K .normal [.bool false,.int .i64 (xar .add .i64 k 1),.ptr 0 0] [some (.iter s (a0a p (xrw s p)))] []))))))
 else(
 bif xcm .geq (xrn s p) 192 then(
 bif xcm .leq (xrn s p) 591 then(
 bif xcm .neq (xrn s p) 215 then(
 bif a3i (xcm .neq (xrn s p) 247) then(
 bif xcm .eql k 0 then(
 K .ret [.bool false,.int .i64 k,.ptr 0 0] [some (.iter s (a0a p (xrw s p)))] [])
 else(
 bif xcm .lss (xrn s p) 48 then(
 K .ret [.bool false,.int .i64 k,.ptr 0 0] [some (.iter s (a0a p (xrw s p)))] [])
 else(
 bif xcm .gtr (xrn s p) 57 then(
 K .ret [.bool false,.int .i64 k,.ptr 0 0] [some (.iter s (a0a p (xrw s p)))] [])
 else(
 K .normal [.bool false,.int .i64 (xar .add .i64 k 1),.ptr 0 0] [some (.iter s (a0a p (xrw s p)))] []))))
 else(
 K .normal [.bool false,.int .i64 (xar .add .i64 k 1),.ptr 0 0] [some (.iter s (a0a p (xrw s p)))] []))
 else(
 bif xcm .eql k 0 then(
 K .ret [.bool false,.int .i64 k,.ptr 0 0] [some (.iter s (a0a p (xrw s p)))] [])
 else(
 bif xcm .lss (xrn s p) 48 then(
 K .ret [.bool false,.int .i64 k,.ptr 0 0] [some (.iter s (a0a p (xrw s p)))] [])
 else(
 bif xcm .gtr (xrn s p) 57 then(
 K .ret [.bool false,.int .i64 k,.ptr 0 0] [some (.iter s (a0a p (xrw s p)))] [])
 else(
 K .normal [.bool false,.int .i64 (xar .add .i64 k 1),.ptr 0 0] [some (.iter s (a0a p (xrw s p)))] [])))))
 else(
 bif xcm .eql k 0 then(
 K .ret [.bool false,.int .i64 k,.ptr 0 0] [some (.iter s (a0a p (xrw s p)))] [])
 else(
 bif xcm .lss (xrn s p) 48 then(
 K .ret [.bool false,.int .i64 k,.ptr 0 0] [some (.iter s (a0a p (xrw s p)))] [])
 else(
 bif xcm .gtr (xrn s p) 57 then(
 K .ret [.bool false,.int .i64 k,.ptr 0 0] [some (.iter s (a0a p (xrw s p)))] [])
 else(
 K .normal [.bool false,.int .i64 (xar .add .i64 k 1),.ptr 0 0] [some (.iter s (a0a p (xrw s p)))] [])))))
 else(
 bif xcm .eql k 0 then(
 K .ret [.bool false,.int .i64 k,.ptr 0 0] [some (.iter s (a0a p (xrw s p)))] [])
 else(
 bif xcm .lss (xrn s p) 48 then(
 K .ret [.bool false,.int .i64 k,.ptr 0 0] [some (.iter s (a0a p (xrw s p)))] [])
 else(
 bif xcm .gtr (xrn s p) 57 then(
 K .ret [.bool false,.int .i64 k,.ptr 0 0] [some (.iter s (a0a p (xrw s p)))] [])
 else(
 K .normal [.bool false,.int .i64 (xar .add .i64 k 1),.ptr 0 0] [some (.iter s (a0a p (xrw s p)))] [])))))))
 else(
 K (.exit 0) [.bool false,.int .i64 k,.ptr 0 0] [some (.iter s p)] [])):=by kernel_rfl
theorem g3h (s:List UInt8) (p:Nat) (k:Int) (K:Pk):(xsp prog (fun _=>none) 60 64 ((sp prog 35).drop 4) (a1p 64 (xnT k)) (mkS [.iter s p] []) (vK xnL K))=(
 bif xcm .geq k 1 then(
 K .ret [.bool (xcm .leq k 8),.int .i64 k,.ptr 0 0] [some (.iter s p)] [])
 else(
 K .ret [.bool false,.int .i64 k,.ptr 0 0] [some (.iter s p)] [])):=by kernel_rfl
theorem g3o (s:List UInt8) (n:Nat) (bx:List LV) (K:Pk):(xsp prog (fun _=>none) 40 24 (seg (sp prog 36) 0 2) (tm0 [.slo 0 0 n 0,.str s]) (mkS [.cells bx (some 2)] []) (vK xfL K))=(
 K .normal [.slo 0 0 n 0,.str s,.int .i64 0,.int .i64 0] [sC bx 2] []):=by kernel_rfl
theorem g3m (s:List UInt8) (n i:Nat) (bx:List LV) (K:Pk):(a1h prog (fun _=>none) 40 24 (a1w (a4i (sp prog 36) 2)) (a1p 24 (xfT s n i)) (mkS [.cells bx (some 2)] []) (vK xfL K))=(
 bif xcm .lss ↑i ↑n then(
 ck (xle (a0a (a0c ↑i) 1) n) <|
 ck (xle (a0a (xix 0 (a0c ↑i) 2) 1) (xln bx)) <|
 ck (isS (a0b bx (xix 0 (a0c ↑i) 2))) <|
 bif a3h .eql (asS (a0b bx (xix 0 (a0c ↑i) 2))) s then(
 ck (xle (a0a (a0c ↑i) 1) n) <|
 ck (xle (a0a (a0a (xix 0 (a0c ↑i) 2) 1) 1) (xln bx)) <|
 ck (isI .i64 (a0b bx (a0a (xix 0 (a0c ↑i) 2) 1))) <|
 K .ret [.slo 0 0 n 0,.str s,.int .i64 (asI (a0b bx (a0a (xix 0 (a0c ↑i) 2) 1))),.int .i64 ↑i] [sC bx 2] [])
 else(
 K .normal [.slo 0 0 n 0,.str s,.int .i64 0,.int .i64 (xar .add .i64 (↑i) 1)] [sC bx 2] []))
 else(
 K (.exit 0) [.slo 0 0 n 0,.str s,.int .i64 0,.int .i64 ↑i] [sC bx 2] [])):=by kernel_rfl
theorem g3l (s:List UInt8) (n i:Nat) (bx:List LV) (K:Pk):(xsp prog (fun _=>none) 40 24 ((sp prog 36).drop 3) (a1p 24 (xfT s n i)) (mkS [.cells bx (some 2)] []) (vK xfL K))=(
 K .ret [.slo 0 0 n 0,.str s,.int .i64 (-1),.int .i64 ↑i] [sC bx 2] []):=by kernel_rfl
theorem g3e (s:List UInt8) (m:Int) (K:Pk):(xsp prog (fun _=>none) 40 63 (seg (sp prog 63) 0 2) (tm0 [.str s,.int .u64 m]) (mkS [] []) (vK xuL K))=(
 bif a3h .eql s [] then(
 K .normal [.str s,.int .u64 m,.int .u64 0,.bool false,.tup [],.tup [],.bool true] [] [])
 else(
 bif xcm .gtr (↑(a0z s)) 20 then(
 K .normal [.str s,.int .u64 m,.int .u64 0,.bool false,.tup [],.tup [],.bool true] [] [])
 else(
 ck (xle 1 (a0z s)) <|
 bif xcm .eql (a1i s 0) 48 then(
 K .normal [.str s,.int .u64 m,.int .u64 0,.bool false,.tup [],.tup [],.bool (xcm .gtr (↑(a0z s)) 1)] [] [])
 else(
 K .normal [.str s,.int .u64 m,.int .u64 0,.bool false,.tup [],.tup [],.bool false] [] [])))):=by kernel_rfl
theorem g3d (s:List UInt8) (m:Int) (q:Bool) (K:Pk):(xsp prog (fun _=>none) 40 63 (seg (sp prog 63) 2 3) (a1p 63 [(0,.str s),(1,.int .u64 m),(4,.int .u64 0),(5,.bool false),(25,.bool q)]) (mkS [] []) (vK xuL K))=(
 bif q then(
 K .ret [.str s,.int .u64 m,.int .u64 0,.bool false,.any,.any,.bool q] [] [])
 else(
 K .normal [.str s,.int .u64 m,.int .u64 0,.bool false,.int .u64 0,.int .i64 0,.bool q] [] [])):=by kernel_rfl
theorem g3c (s:List UInt8) (i:Nat) (m n:Int) (K:Pk):(a1h prog (fun _=>none) 40 63 (a1w (a4i (sp prog 63) 5)) (a1p 63 (xuT s m n i)) (mkS [] []) (vK xuL K))=(
 bif xcm .lss ↑i ↑(a0z s) then(
 ck (xle (a0a (a0c ↑i) 1) (a0z s)) <|
 bif xcm .lss (a1i s (a0c ↑i)) 48 then(
 K .ret [.str s,.int .u64 m,.int .u64 0,.bool false,.int .u64 n,.int .i64 ↑i,.any] [] [])
 else(
 ck (xle (a0a (a0c ↑i) 1) (a0z s)) <|
 bif xcm .gtr (a1i s (a0c ↑i)) 57 then(
 K .ret [.str s,.int .u64 m,.int .u64 0,.bool false,.int .u64 n,.int .i64 ↑i,.any] [] [])
 else(
 ck (xle (a0a (a0c ↑i) 1) (a0z s)) <|
 bif xcm .gtr n (xar .quo .u64 (xar .sub .u64 m (xwr .u64 (xar .sub .u8 (a1i s (a0c ↑i)) 48))) 10) then(
 K .ret [.str s,.int .u64 m,.int .u64 0,.bool false,.int .u64 n,.int .i64 ↑i,.any] [] [])
 else(
 bif xcm .gtr (xwr .u64 (xar .sub .u8 (a1i s (a0c ↑i)) 48)) m then(
 K .ret [.str s,.int .u64 m,.int .u64 0,.bool false,.int .u64 n,.int .i64 ↑i,.any] [] [])
 else(
 K .normal [.str s,.int .u64 m,.int .u64 0,.bool false,.int .u64 (xar .add .u64 (xar .mul .u64 n 10) (xwr .u64 (xar .sub .u8 (a1i s (a0c ↑i)) 48))),.int .i64 (xar .add .i64 (↑i) 1),.any] [] [])))))
 else(
 K (.exit 0) [.str s,.int .u64 m,.int .u64 0,.bool false,.int .u64 n,.int .i64 ↑i,.any] [] [])):=by kernel_rfl
theorem g3b (s:List UInt8) (i:Nat) (m n:Int) (K:Pk):(xsp prog (fun _=>none) 40 63 ((sp prog 63).drop 6) (a1p 63 (xuT s m n i)) (mkS [] []) (vK xuL K))=(
 K .ret [.str s,.int .u64 m,.int .u64 n,.bool true,.int .u64 n,.int .i64 ↑i,.any] [] []):=by kernel_rfl
end
end Go.Lev
/- text: the reference's runes, Number, name, find -/
namespace Go.Lev
set_option linter.unusedSimpArgs false
set_option linter.unusedVariables false
open Go.RowKit
open Go.Proofs.Tryd (prog)
set_option maxRecDepth 100000
noncomputable section
abbrev bdC (x:Bool):List LV:=[.bool x]
theorem f0k (x:Bool):(bdC x).length=1:=rfl
theorem g2x (xs:List Bool):(a0f bdC xs).length=xs.length:=by rw [a1v f0k]; omega
theorem b0h (xs:List Bool):a1q (a0f bdC xs)=true:=a1y (fun _=>rfl) xs
theorem f0i (xs:List Bool) (a:Bool):a6n (a3o (a0f bdC xs) 0 (a1t xs.length 1)) [.bool a]=a0f bdC (xs++[a]):=by
 rw [a3r (by rw [g2x]; show xs.length≤xs.length * 1; omega),a1r]; rfl
def bdL (s:List UInt8) (p:Nat):List Bool:=(tkF s p).map (·.2)
def bdN (s:List UInt8):Nat:=(bdL s 0).length
def bdW (s:List UInt8):List LV:=a0f bdC (bdL s 0)
theorem f5r {s:List UInt8} {p:Nat} (h:p < s.length):bdL s p=wrB s p::bdL s (p+xrw s p):=by unfold bdL; rw [c0l h]; rfl
theorem f5s {s:List UInt8} {p:Nat} (h:s.length≤p):bdL s p=[]:=by unfold bdL; rw [b7g h]; rfl
theorem f0j (s:List UInt8) (p:Nat):(bdL s p).length≤s.length - p:=by unfold bdL; rw [List.length_map]; exact c9t s p
theorem f7t (s:List UInt8) (hs:s.length≤900000):a0k prog 33 [.str s] (mkS [] []) fun l st=>l=.slo 0 0 (bdN s) 0∧st=mkS [.cells (bdW s) (some 1)] []:=by
 refine a0k.mono (a0k.g9n (Q:=fun l b=>l=.slo 0 0 (bdN s) 0∧b=[.cells (bdW s) (some 1)]) 34 0 ruL [2] (by kernel_rfl) rfl rfl rfl ?_) fun l s' ⟨b0,⟨h1,h2⟩,h3⟩=>⟨h1,by rw [h3,h2]⟩
 refine SSp.to a0j (n:=40) (g:=[]) 3 3 rfl (σ:=Unit) (fun _=>ruT s 0) (fun _=>[.iter s 0,.cells [] (some 1)]) (a0y (Nat.zero_le _)) (by kernel_rfl) ?_ fun _=>?_
 ·rw [g4v]; exact⟨rfl,(),[.id 0,.none],by(exact zC)⟩
 refine SSp.code_to (g:=[]) 4 rfl (σ:=Unit) (fun _=>ruT s (bdN s)) (fun _=>[.iter s s.length,.cells (bdW s) (some 1)]) (by kernel_rfl) ?_ fun _=>?_
 ·refine a0p.g9s a0j (n:=40) (n0:=0) 0 (by kernel_rfl) (σ:={x:Nat×List Bool // x.1≤s.length∧x.2++bdL s x.1=bdL s 0}) (fun x=>ruT s x.1.2.length) (fun x=>[.iter s x.1.1,.cells (a0f bdC x.1.2) (some 1)]) (fun x=>s.length - x.1.1) (fun _=>Nat.zero_le _) (fun⟨⟨p,xs⟩,hp,hN⟩=>?_) ⟨(0,[]),Nat.zero_le _,rfl⟩
  dsimp only at hp hN ⊢
  rw [g4u]
  have hl:xs.length≤s.length:=by have:=f0j s 0; rw [← hN,List.length_append] at this; omega
  have nx:=b0h xs
  have y1:xle (a0a xs.length 1) 1000000=true:=a1n (by show xs.length+1≤_; omega)
  have y2:xle (a0a 0 (a1t xs.length 1)) (xln (a0f bdC xs))=true:=a1n (by show 0+xs.length * 1≤(a0f bdC xs).length; rw [g2x]; omega)
  by_cases h:p < s.length
  ·have hw:=b1o h
   rw [f5r h] at hN
   have y0:xle (a0a p 1) (a0z s)=true:=a1n (show p+1≤s.length by omega)
   have fin:∀ b,b=wrB s p→(xs++[b])++bdL s (p+xrw s p)=bdL s 0:=fun b hb=>by rw [hb,List.append_assoc]; exact hN
   have e3:xar .add .i64 (Int.ofNat p) 3=((p+3:Nat):Int):=by rw [a5c (by simp only [Int.ofNat_eq_natCast]; omega) (by simp only [Int.ofNat_eq_natCast]; omega)]; rfl
   simp only [y0,y1,y2,e3,f0i,cond_true]
   have lenA:∀ b:Bool,a0a xs.length 1=(xs++[b]).length:=fun b=>by rw [List.length_append]; rfl
   cases h1:xcm .eql (xrn s p) 65533 with
   | false =>
     have hr:xrn s p≠65533:=fun e=>by rw [a2i e] at h1; cases h1
     have nb:=b0h (xs++[false])
     simp only [cond_false]
     rw [lenA false]
     exact⟨rfl,⟨(p+xrw s p,xs++[false]),hw.2,fin _ (by simp [wrB,hr])⟩,by dsimp only; omega,[.id 0,.id 3],by(exact zC)⟩
   | true =>
     have hr:xrn s p=65533:=by rw [a9o] at h1; simpa using h1
     simp only [cond_true]
     by_cases h2:p+3≤s.length
     ·simp only [show xcm .leq ((p+3:Nat):Int) ((a0z s:Nat):Int)=true from a9k (show((p+3:Nat):Int)≤((s.length:Nat):Int) by omega),show xnn ((p+3:Nat):Int)=true from rfl,show xle p (p+3)=true from a1n (show p≤p+3 by omega),show xle (p+3) (a0z s)=true from a1n (show p+3≤s.length from h2),show a0c ((p+3:Nat):Int)=p+3 from rfl,cond_true]
      have nb:=b0h (xs++[a3i (a3h .eql (a0v s p (p+3)) [239,191,189])])
      rw [lenA (a3i (a3h .eql (a0v s p (p+3)) [239,191,189]))]
      exact⟨rfl,⟨(p+xrw s p,xs++[a3i (a3h .eql (a0v s p (p+3)) [239,191,189])]),hw.2,fin _ (by simp [wrB,hr,h2,a3i])⟩,by dsimp only; omega,[.id 0,.id 3],by(exact zC)⟩
     ·simp only [show xcm .leq ((p+3:Nat):Int) ((a0z s:Nat):Int)=false from c5a (show((s.length:Nat):Int) < ((p+3:Nat):Int) by omega),cond_false]
      have nb:=b0h (xs++[true])
      rw [lenA true]
      exact⟨rfl,⟨(p+xrw s p,xs++[true]),hw.2,fin _ (by simp [wrB,hr,h2])⟩,by dsimp only; omega,[.id 0,.id 3],by(exact zC)⟩
  ·have y0:xle (a0a p 1) (a0z s)=false:=d9k (show s.length < p+1 by omega)
   simp only [y0,cond_false]
   rw [f5s (by omega),List.append_nil] at hN
   have hM:=hN
   obtain rfl:p=s.length:=by omega
   subst hM
   exact⟨rfl,(),[.id 0,.id 1],by(exact zC)⟩
 refine SSp.last a0j (n:=40) (a0y (Nat.zero_le _)) ?_
 rw [g4t]
 have nb:a1q (bdW s)=true:=b0h _
 exact⟨trivial,rfl,.slo 0 0 (bdN s) 0,[.cells (bdW s) (some 1)],[.id 1],⟨rfl,rfl⟩,by(exact zC)⟩
def ruG:Gc:=fun args s=>match args,s.g with
 | [.str x],[]=>(match s.lay [] [] [.cells (bdW x) (some 1)] with
   | some s'=>some ([xle (a0z x) 900000],.slo s.n 0 (bdN x) 0,s')
   | none=>none)
 | _,_=>none
theorem f2i:GOk prog 33 ruG:=by
 intro args s bs l s' hg hb hfr
 unfold ruG at hg
 split at hg
 ·rename_i x hgl
  split at hg
  ·rename_i s1 hs1
   simp only [Option.some.injEq,Prod.mk.injEq] at hg
   obtain⟨rfl,rfl,rfl⟩:=hg
   simp only [a0g] at hb
   obtain⟨k1,_⟩:=hb
   have n1:a1q (bdW x)=true:=b0h _
   refine a0k.lay (bs:=[]) (args0:=[.str x]) (bs':=[.cells (bdW x) (some 1)]) (v0:=.slo 0 0 (bdN x) 0) hfr hs1 (by simp)
    trivial (by(exact zTl)) ?_
    fun κ h1 h2=>⟨⟨a0e (by(exact zId)),trivial⟩,a0n (h2 0 (by simp))⟩
   rw [hgl]; exact(f7t x (show x.length≤900000 from a2a.1 k1))
  ·cases hg
 ·cases hg
/- name: the code's isName -/
theorem g3i (s:List UInt8) (p:Nat) (k:Int) (K:Pk):(a1h prog (fun _=>none) 60 64 (a1w (a4i (sp prog 35) 3)) (a1p 64 (xnT k)) (mkS [.iter s p] []) (vK xnL K))=(
 bif xle (a0a p 1) (a0z s) then
  bif ltB (xrn s p) then K .normal [.bool false,.int .i64 (xar .add .i64 k 1),.ptr 0 0] [some (.iter s (a0a p (xrw s p)))] []
  else bif xcm .eql k 0 then K .ret [.bool false,.int .i64 k,.ptr 0 0] [some (.iter s (a0a p (xrw s p)))] []
  else bif xcm .lss (xrn s p) 48 then K .ret [.bool false,.int .i64 k,.ptr 0 0] [some (.iter s (a0a p (xrw s p)))] []
  else bif xcm .gtr (xrn s p) 57 then K .ret [.bool false,.int .i64 k,.ptr 0 0] [some (.iter s (a0a p (xrw s p)))] []
  else K .normal [.bool false,.int .i64 (xar .add .i64 k 1),.ptr 0 0] [some (.iter s (a0a p (xrw s p)))] []
 else K (.exit 0) [.bool false,.int .i64 k,.ptr 0 0] [some (.iter s p)] []):=by
  rw [g3j]
  unfold ltB
  generalize K .normal [.bool false,.int .i64 (xar .add .i64 k 1),.ptr 0 0] [some (.iter s (a0a p (xrw s p)))] []=A
  generalize K .ret [.bool false,.int .i64 k,.ptr 0 0] [some (.iter s (a0a p (xrw s p)))] []=B
  generalize xcm .eql k 0=c0
  generalize xcm .lss (xrn s p) 48=c1
  generalize xcm .gtr (xrn s p) 57=c2
  generalize xcm .geq (xrn s p) 97=d1
  generalize xcm .leq (xrn s p) 122=d2
  generalize xcm .geq (xrn s p) 65=d3
  generalize xcm .leq (xrn s p) 90=d4
  generalize xcm .geq (xrn s p) 192=d5
  generalize xcm .leq (xrn s p) 591=d6
  generalize xcm .neq (xrn s p) 215=d7
  generalize xcm .neq (xrn s p) 247=d8
  cases xle (a0a p 1) (a0z s)
  ·rfl
  ·cases d1 <;> cases d2 <;> cases d3 <;> cases d4 <;> cases d5 <;> cases d6 <;> cases d7 <;> cases d8 <;> first | rfl | (cases c0 <;> first | rfl | (cases c1 <;> first | rfl | (cases c2 <;> rfl)))
theorem f6z (s:List UInt8) (hs:s.length≤1000000000):a0k prog 35 [.str s] (mkS [] []) fun l st=>l=.bool (a9l s)∧st=mkS [] []:=by
 refine a0k.mono (a0k.g9n (Q:=fun l b=>l=.bool (a9l s)∧b=[]) 64 0 xnL [2] (by kernel_rfl) rfl rfl rfl ?_) fun l s' ⟨b0,⟨h1,h2⟩,h3⟩=>⟨h1,by rw [h3,h2]⟩
 refine SSp.to a0j (n:=60) (g:=[]) 3 3 rfl (σ:=Unit) (fun _=>xnT 0) (fun _=>[.iter s 0]) (a0y (Nat.zero_le _)) (by kernel_rfl) ?_ fun _=>?_
 ·rw [g3k]; exact⟨rfl,(),[.id 0],by(exact zC)⟩
 refine SSp.code_to (g:=[]) 4 rfl (σ:={k:Int // (decide (1≤k) && decide (k≤8))=a9l s}) (fun k=>xnT k.1) (fun _=>[.iter s s.length]) (by kernel_rfl) ?_ fun⟨k,hk⟩=>?_
 ·refine a0p.g9s a0j (n:=60) (n0:=0) 0 (by kernel_rfl) (σ:={x:Nat×Int // x.1≤s.length∧0≤x.2∧x.2≤x.1∧nmF s x.1 x.2=a9l s}) (fun x=>xnT x.1.2) (fun x=>[.iter s x.1.1]) (fun x=>s.length - x.1.1) (fun _=>Nat.zero_le _) (fun⟨⟨p,k⟩,hp,hk0,hk,hN⟩=>?_) ⟨(0,0),Nat.zero_le _,Int.le_refl _,Int.le_refl _,rfl⟩
  dsimp only at hp hk0 hk hN ⊢
  rw [g3i]
  have e1:xar .add .i64 k 1=k+1:=a5c (by omega) (by omega)
  rw [nmF] at hN
  by_cases h:p < s.length
  ·have hw:=b1o h
   rw [dif_pos h] at hN
   have y0:xle (a0a p 1) (a0z s)=true:=a1n (show p+1≤s.length by omega)
   simp only [y0,cond_true]
   cases hl:ltB (xrn s p) with
   | true =>
     rw [if_pos hl] at hN
     simp only [e1,cond_true]
     exact⟨rfl,⟨(p+xrw s p,k+1),hw.2,by dsimp only; omega,by dsimp only; omega,hN⟩,by dsimp only; omega,[.id 0],by(exact zC)⟩
   | false =>
     rw [if_neg (by rw [hl]; simp)] at hN
     simp only [e1,cond_false]
     by_cases h1:k=0
     ·rw [if_pos h1] at hN
      simp only [show xcm .eql k 0=true from a2i h1,cond_true]
      exact⟨trivial,rfl,.bool false,[],[],⟨by rw [← hN],rfl⟩,by(exact zC)⟩
     ·rw [if_neg h1] at hN
      simp only [show xcm .eql k 0=false from a2c h1,cond_false]
      by_cases h2:xrn s p < 48
      ·rw [if_pos h2] at hN
       simp only [show xcm .lss (xrn s p) 48=true from a6j h2,cond_true]
       exact⟨trivial,rfl,.bool false,[],[],⟨by rw [← hN],rfl⟩,by(exact zC)⟩
      ·rw [if_neg h2] at hN
       simp only [show xcm .lss (xrn s p) 48=false from a6h (by omega),cond_false]
       by_cases h3:57 < xrn s p
       ·rw [if_pos h3] at hN
        simp only [show xcm .gtr (xrn s p) 57=true from a7w h3,cond_true]
        exact⟨trivial,rfl,.bool false,[],[],⟨by rw [← hN],rfl⟩,by(exact zC)⟩
       ·rw [if_neg h3] at hN
        simp only [show xcm .gtr (xrn s p) 57=false from a7e (by omega),cond_false]
        exact⟨rfl,⟨(p+xrw s p,k+1),hw.2,by dsimp only; omega,by dsimp only; omega,hN⟩,by dsimp only; omega,[.id 0],by(exact zC)⟩
  ·rw [dif_neg h] at hN
   have y0:xle (a0a p 1) (a0z s)=false:=d9k (show s.length < p+1 by omega)
   simp only [y0,cond_false]
   have hM:=hN
   obtain rfl:p=s.length:=by omega
   exact⟨rfl,⟨k,hM⟩,[.id 0],by(exact zC)⟩
 dsimp only at hk ⊢
 refine SSp.last a0j (n:=60) (a0y (Nat.zero_le _)) ?_
 rw [g3h]
 by_cases h:1≤k
 ·simp only [show xcm .geq k 1=true from b3a h,cond_true]
  refine⟨trivial,rfl,.bool (xcm .leq k 8),[],[],⟨?_,rfl⟩,by(exact zC)⟩
  rw [← hk]
  congr 1
  by_cases h2:k≤8
  ·rw [a9k h2]; simp [h,h2]
  ·rw [c5a (by omega)]; simp [h2]
 ·simp only [show xcm .geq k 1=false from b6o (by omega),cond_false]
  refine⟨trivial,rfl,.bool false,[],[],⟨?_,rfl⟩,by(exact zC)⟩
  rw [← hk]; simp [h]
def xnG:Gc:=fun args s=>match args,s.g with
 | [.str x],[]=>(match s.lay [] [] [] with
   | some s'=>some ([xle (a0z x) 1000000000],.bool (a9l x),s')
   | none=>none)
 | _,_=>none
theorem d5g:GOk prog 35 xnG:=by
 intro args s bs l s' hg hb hfr
 unfold xnG at hg
 split at hg
 ·rename_i x hgl
  split at hg
  ·rename_i s1 hs1
   simp only [Option.some.injEq,Prod.mk.injEq] at hg
   obtain⟨rfl,rfl,rfl⟩:=hg
   simp only [a0g] at hb
   obtain⟨k1,_⟩:=hb
   refine a0k.lay (bs:=[]) (args0:=[.str x]) (bs':=[]) (v0:=.bool (a9l x)) hfr hs1 (by simp)
    trivial (by(exact zTl)) ?_
    fun κ h1 h2=>⟨trivial,a5r⟩
   rw [hgl]; exact(f6z x (show x.length≤1000000000 from a2a.1 k1))
  ·cases hg
 ·cases hg
/- find: a label's place,or -1 -/
abbrev LbX:=List UInt8×Int
abbrev lbC (x:LbX):List LV:=[.str x.1,.int .i64 x.2]
theorem c4v (x:LbX):(lbC x).length=2:=rfl
theorem f9a (xs:List LbX):(a0f lbC xs).length=xs.length * 2:=a1v c4v xs
theorem a8s (xs:List LbX):a1q (a0f lbC xs)=true:=a1y (fun _=>rfl) xs
theorem g6r {xs:List LbX} {i:Nat} (h:i < xs.length):a0b (a0f lbC xs) (i * 2)=.str xs[i].1:=a2s c4v (j:=0) h (by omega)
theorem g6q {xs:List LbX} {i:Nat} (h:i < xs.length):a0b (a0f lbC xs) (i * 2+1)=.int .i64 xs[i].2:=a2s c4v (j:=1) h (by omega)
def lbD:List LV→List LbX
 | .str a::.int _ b::r=>(a,b)::lbD r
 | _=>[]
theorem b9d:∀ xs,lbD (a0f lbC xs)=xs
 | []=>rfl
 | x::r=>by simp [a0f,lbC,lbD,b9d r]
def xfF:List LbX→List UInt8→Int
 | [],_ => -1
 | x::r,s=>if x.1 == s then x.2 else xfF r s
theorem d3u {L:List LbX} {s:List UInt8} {i:Nat} (h:i < L.length):xfF (L.drop i) s=if L[i].1 == s then L[i].2 else xfF (L.drop (i+1)) s:=by
 rw [List.drop_eq_getElem_cons h]; rfl
def xfW (bx:List LV) (s:List UInt8):Int:=xfF (lbD bx) s
def d4l (n:Nat) (c:List LV):Bool:=@decide (∃ L,c=a0f lbC L∧L.length=n∧n≤100000) (Classical.propDecidable _)
theorem b4s {n:Nat} {c:List LV}:d4l n c=true↔∃ L,c=a0f lbC L∧L.length=n∧n≤100000:=by simp only [d4l,decide_eq_true_eq]
theorem d8p {n:Nat} {c:List LV} (h:d4l n c=true):a1q c=true:=by obtain⟨L,rfl,_⟩:=b4s.1 h; exact a8s L
theorem f7b (s:List UInt8) (L:List LbX) (hL:L.length≤100000):a0k prog 36 [.slo 0 0 L.length 0,.str s] (mkS [.cells (a0f lbC L) (some 2)] []) fun l st=>l=.int .i64 (xfF L s)∧st=mkS [.cells (a0f lbC L) (some 2)] []:=by
 refine a0k.mono (a0k.g9n (Q:=fun l b=>l=.int .i64 (xfF L s)∧b=[.cells (a0f lbC L) (some 2)]) 24 1 xfL [4] (by kernel_rfl) rfl rfl rfl ?_) fun l s' ⟨b0,⟨h1,h2⟩,h3⟩=>⟨h1,by rw [h3,h2]⟩
 have nm:=a8s L; have lm:=f9a L
 have g0:=fun {i:Nat} (h:i < L.length)=>g6r h
 have g1:=fun {i:Nat} (h:i < L.length)=>g6q h
 generalize a0f lbC L=bx at *
 refine SSp.to a0j (n:=40) (g:=[]) 2 2 rfl (σ:=Unit) (fun _=>xfT s L.length 0) (fun _=>[.cells bx (some 2)]) (a0y (Nat.le_of_ble_eq_true rfl)) (by kernel_rfl) ?_ fun _=>?_
 ·rw [g3o]; exact⟨rfl,(),[.id 0],by(exact zC)⟩
 refine SSp.code_to (g:=[]) 3 rfl (σ:={_u:Unit // xfF L s = -1}) (fun _=>xfT s L.length L.length) (fun _=>[.cells bx (some 2)]) (by kernel_rfl) ?_ fun⟨_,hN⟩=>?_
 ·refine a0p.g9s a0j (n:=40) (n0:=1) 0 (by kernel_rfl) (σ:={i:Nat // i≤L.length∧xfF (L.drop i) s=xfF L s}) (fun i=>xfT s L.length i.1) (fun _=>[.cells bx (some 2)]) (fun i=>L.length - i.1) (fun _=>Nat.le_of_ble_eq_true rfl) (fun⟨i,hi,hN⟩=>?_) ⟨0,Nat.zero_le _,rfl⟩
  dsimp only at hi hN ⊢
  rw [g3m]
  by_cases h:i < L.length
  ·have wS:∀ x,asS (.str x)=x:=fun _=>rfl
   have wB:∀ x,isS (.str x)=true:=fun _=>rfl
   have v0:=g0 h; have v1:=g1 h
   have hM:=hN
   rw [d3u h] at hM
   have x0:xle (i+1) L.length=true:=a1n (by omega)
   have x1:xle (i * 2+1) (L.length * 2)=true:=a1n (by omega)
   have x2:xle (i * 2+1+1) (L.length * 2)=true:=a1n (by omega)
   have e3:xar .add .i64 (i:Int) 1=((i+1:Nat):Int):=a7t h (by omega)
   simp only [show xcm .lss ((i:Nat):Int) ((L.length:Nat):Int)=true from a6j (by omega),a2w,a5j,a1o,a2g,a3e,Nat.zero_add,lm,x0,x1,x2,v0,v1,e3,a2q,a3d,wS,wB,decide_true,cond_true]
   cases hb:L[i].1 == s with
   | true =>
     rw [hb,if_pos rfl] at hM
     simp only [show a3h .eql L[i].1 s=true from hb,cond_true]
     exact⟨trivial,rfl,.int .i64 L[i].2,_,[.id 0],⟨by rw [← hM],rfl⟩,by(exact zC)⟩
   | false =>
     rw [hb,if_neg (by simp)] at hM
     simp only [show a3h .eql L[i].1 s=false from hb,cond_false]
     exact⟨rfl,⟨i+1,by omega,hM⟩,by dsimp only; omega,[.id 0],by(exact zC)⟩
  ·simp only [show xcm .lss ((i:Nat):Int) ((L.length:Nat):Int)=false from a6h (by omega),cond_false]
   have ei:i=L.length:=by omega
   have hM:=hN
   rw [ei,List.drop_length] at hM
   subst ei
   exact⟨rfl,⟨(),hM.symm⟩,[.id 0],by(exact zC)⟩
 refine SSp.last a0j (n:=40) (a0y (Nat.le_of_ble_eq_true rfl)) ?_
 rw [g3l]
 exact⟨trivial,rfl,.int .i64 (-1),_,[.id 0],⟨by rw [hN],rfl⟩,by(exact zC)⟩
theorem g3n (n:Nat) (bx:List LV) (s:List UInt8) (k1:d4l n bx=true):a0k prog 36 [.slo 0 0 n 0,.str s] (mkS [.cells bx (some 2)] []) fun l st=>l=.int .i64 (xfW bx s)∧st=mkS [.cells bx (some 2)] []:=by
 obtain⟨L,rfl,rfl,hL⟩:=b4s.1 k1
 rw [xfW,b9d]
 exact f7b s L hL
def xfG:Gc:=fun args s=>match args,s.g with
 | [.slo b 0 n 0,.str x],[]=>(match s.h.get b with
   | some (.cells bx (some 2))=>(match s.lay [b] [.cells bx (some 2)] [] with
     | some s'=>some ([d4l n bx],.int .i64 (xfW bx x),s')
     | none=>none)
   | _=>none)
 | _,_=>none
theorem f1h:GOk prog 36 xfG:=by
 intro args s bs l s' hg hb hfr
 unfold xfG at hg
 split at hg
 ·rename_i b n x hgl
  split at hg
  ·rename_i bx hb0
   split at hg
   ·rename_i s1 hs1
    simp only [Option.some.injEq,Prod.mk.injEq] at hg
    obtain⟨rfl,rfl,rfl⟩:=hg
    simp only [a0g] at hb
    obtain⟨k1,_⟩:=hb
    have n1:=d8p k1
    refine a0k.lay (bs:=[.cells bx (some 2)]) (args0:=[.slo 0 0 n 0,.str x]) (bs':=[.cells bx (some 2)]) (v0:=.int .i64 (xfW bx x)) hfr hs1 (by simp)
     ⟨⟨a3j hfr hb0,_,hb0,a0e (by(exact zId)),fun κ hκ=>a0e (by(exact zId))⟩,trivial⟩ (by(exact zTl)) ?_
     fun κ h1 h2=>⟨⟨a0e (by(exact zId)),trivial⟩,a1u⟩
    rw [hgl]; exact(g3n n bx x k1)
   ·cases hg
  ·cases hg
 ·cases hg
end
end Go.Lev
/- text: the reference's Number: the code's digits -/
namespace Go.Lev
set_option linter.unusedSimpArgs false
set_option linter.unusedVariables false
open Go.RowKit
open Go.Proofs.Tryd (prog)
set_option maxRecDepth 100000
noncomputable section
theorem c3o {s:List UInt8} {p:Nat} (h:p < s.length):a1i s p=((s[p].toNat:Nat):Int):=by simp [a1i,List.getD,h]
theorem g1m:∀ k:Fin 10,xwr .u64 (xar .sub .u8 ((48+k.1:Nat):Int) 48)=(k.1:Int):=by decide
theorem f5e:∀ k:Fin 10,xwr .u64 (xar .sub .i32 ((48+k.1:Nat):Int) 48)=(k.1:Int):=by decide
theorem d0n {x:Int} (h1:0≤x) (h2:x≤18446744073709551615):xar .quo .u64 x 10=x / 10:=by
 rw [c9j _ _ _ (by omega),Int.tdiv_eq_ediv_of_nonneg (by omega)]
 exact a4x (by omega) (by omega)
theorem b0o {s:List UInt8} {m n:Int} {p:Nat} (h:p < s.length) (hm:0≤m∧m≤18446744073709551615) (hn:0≤n∧n≤18446744073709551615) :
  drF s m p n=if 48≤a1i s p∧a1i s p≤57∧a1i s p - 48≤m∧n≤(m - (a1i s p - 48)) / 10 then drF s m (p+1) (n * 10+(a1i s p - 48)) else none:=by
 rw [drF,dif_pos h,c3o h]
 by_cases ha:s[p].toNat < 128
 ·obtain⟨k1,k2⟩:=c6b (List.getElem?_eq_getElem h) ha
  rw [k1,k2]
  by_cases h1:((s[p].toNat:Nat):Int) < 48
  ·rw [if_pos h1,if_neg (by omega)]
  rw [if_neg h1]
  by_cases h2:57 < ((s[p].toNat:Nat):Int)
  ·rw [if_pos h2,if_neg (by omega)]
  rw [if_neg h2]
  have ed:drD s p=((s[p].toNat:Nat):Int) - 48:=by
   have:=f5e ⟨s[p].toNat - 48,by omega⟩
   rw [drD,k1,show((s[p].toNat:Nat):Int)=((48+(s[p].toNat - 48):Nat):Int) by omega]
   rw [this]; simp only; omega
  rw [ed,d0n hm.1 hm.2]
  generalize hd:((s[p].toNat:Nat):Int) - 48=d
  have hd0:0≤d∧d≤9:=by omega
  have e1:48≤((s[p].toNat:Nat):Int)∧((s[p].toNat:Nat):Int)≤57:=by omega
  by_cases h3:m / 10 < n
  ·rw [if_pos h3,if_neg (by omega)]
  rw [if_neg h3]
  have hmu:xar .mul .u64 n 10=n * 10:=by rw [c9k]; exact a4x (by omega) (by omega)
  rw [hmu]
  by_cases h5:d≤m
  ·have hsu:xar .sub .u64 m d=m - d:=by rw [c3p]; exact a4x (by omega) (by omega)
   rw [hsu]
   by_cases h4:m - d < n * 10
   ·rw [if_pos h4,if_neg (by omega)]
   ·have had:xar .add .u64 (n * 10) d=n * 10+d:=by rw [c3q]; exact a4x (by omega) (by omega)
    rw [if_neg h4,if_neg (by omega),had,if_pos (by omega)]
  ·rw [if_neg (c:=_∧_) (by omega)]
   split
   ·rfl
   ·rw [if_pos (by omega)]
 ·have hr:¬ xrn s p < 128:=fun k=>ha (f8k h k)
  rw [if_neg (by omega),if_pos (by omega),if_neg (by omega)]
theorem c5b {s:List UInt8} {m v:Int} (hm:0≤m∧m≤18446744073709551615):∀ (k p:Nat) (n:Int),s.length - p≤k→0≤n∧n≤18446744073709551615→drF s m p n=some v→n * 10 ^ (s.length - p)≤v∧v≤18446744073709551615∧asc (s.drop p)
 | 0,p,n,hk,hn,h=>by
   rw [drF,dif_neg (by omega)] at h
   cases h
   rw [show s.length - p=0 by omega]
   exact⟨by omega,hn.2,by rw [List.drop_of_length_le (by omega)]; intro b hb; cases hb⟩
 | k+1,p,n,hk,hn,h=>by
   by_cases hp:p < s.length
   ·rw [b0o hp hm hn] at h
    split at h
    ·rename_i c
     obtain⟨c1,c2,c3,c4⟩:=c
     have ih:=c5b hm k (p+1) _ (by omega) ⟨by omega,by omega⟩ h
     refine⟨Int.le_trans ?_ ih.1,ih.2.1,?_⟩
     ·rw [show s.length - p=(s.length - (p+1))+1 by omega,Int.pow_succ,Int.mul_comm (10 ^ _) 10,← Int.mul_assoc]
      exact Int.mul_le_mul_of_nonneg_right (by omega) (Int.le_of_lt (Int.pow_pos (by omega)))
     ·rw [List.drop_eq_getElem_cons hp]
      rw [c3o hp] at c1 c2
      intro b hb
      rcases List.mem_cons.1 hb with hb | hb
      ·subst hb; omega
      ·exact ih.2.2 b hb
    ·cases h
   ·rw [drF,dif_neg hp] at h
    cases h
    rw [show s.length - p=0 by omega]
    exact⟨by omega,hn.2,by rw [List.drop_of_length_le (by omega)]; intro b hb; cases hb⟩
theorem d2t {s:List UInt8} {m:Int} (hm:0≤m∧m≤18446744073709551615) (h:drB s m=true):asc s:=by
 unfold drB drV at h
 split at h
 ·simp at h
 ·obtain⟨v,hv⟩:=Option.isSome_iff_exists.1 h
  have:=(c5b hm s.length 0 0 (by omega) ⟨by omega,by omega⟩ hv).2.2
  simpa using this
theorem f5a {s:List UInt8} {m:Int} (hm:0≤m∧m≤18446744073709551615) (hl:20 < s.length):drV s m=none:=by
 unfold drV
 split
 ·rfl
 ·rename_i hq
  cases hv:drF s m 0 0 with
  | none=>rfl
  | some v =>
    exfalso
    have hp:0 < s.length:=by omega
    rw [b0o hp hm ⟨by omega,by omega⟩] at hv
    split at hv
    ·rename_i c
     obtain⟨c1,c2,c3,c4⟩:=c
     have h48:a1i s 0≠48:=by
      intro e
      apply hq
      unfold drQ
      rw [show xcm .eql (a1i s 0) 48=true from a2i e]
      simp; omega
     have:=c5b hm s.length 1 _ (by omega) ⟨by omega,by omega⟩ hv
     have p1:(10:Int) ^ 20≤10 ^ (s.length - 1):=by
      have:=Nat.pow_le_pow_right (n:=10) (by omega) (show 20≤s.length - 1 by omega)
      exact_mod_cast this
     have p2:(1:Int) * 10 ^ (s.length - 1)≤(0 * 10+(a1i s 0 - 48)) * 10 ^ (s.length - 1):=Int.mul_le_mul_of_nonneg_right (by omega) (by omega)
     have p3:(10:Int) ^ 20=100000000000000000000:=by decide
     omega
    ·cases hv
theorem f6x (s:List UInt8) (m:Int) (hm:0≤m∧m≤18446744073709551615):a0k prog 63 [.str s,.int .u64 m] (mkS [] []) fun l st=>l=.tup [.int .u64 (drN s m),.bool (drB s m)]∧st=mkS [] []:=by
 refine a0k.mono (a0k.g9n (Q:=fun l b=>l=.tup [.int .u64 (drN s m),.bool (drB s m)]∧b=[]) 63 0 xuL [4,5] (by kernel_rfl) rfl rfl rfl ?_) fun l s' ⟨b0,⟨h1,h2⟩,h3⟩=>⟨h1,by rw [h3,h2]⟩
 have bad:drV s m=none→(LV.tup [.int .u64 0,.bool false])=.tup [.int .u64 (drN s m),.bool (drB s m)]:=fun e=>by simp [drN,drB,e]
 refine SSp.to a0j (n:=40) (g:=[]) 2 2 rfl (σ:={q:Bool // (q=true→drV s m=none)∧(q=false→s.length≤20∧drQ s=false)}) (fun q=>[(0,.str s),(1,.int .u64 m),(4,.int .u64 0),(5,.bool false),(25,.bool q.1)]) (fun _=>[]) (a0y (Nat.zero_le _)) (by kernel_rfl) ?_ fun⟨q,hq1,hq2⟩=>?_
 ·rw [g3e]
  cases h0:a3h .eql s [] with
  | true =>
    simp only [cond_true]
    exact⟨rfl,⟨true,fun _=>by unfold drV; rw [if_pos (by simp [drQ,h0])],fun e=>by cases e⟩,[],by(exact zC)⟩
  | false =>
    simp only [cond_false]
    by_cases h1:20 < s.length
    ·simp only [show xcm .gtr ((a0z s:Nat):Int) 20=true from a7w (show(20:Int) < ((s.length:Nat):Int) by omega),cond_true]
     exact⟨rfl,⟨true,fun _=>f5a hm h1,fun e=>by cases e⟩,[],by(exact zC)⟩
    ·have hs:1≤s.length:=by
      rcases s with _ | ⟨a,r⟩
      ·cases h0
      ·simp
     simp only [show xcm .gtr ((a0z s:Nat):Int) 20=false from a7e (show((s.length:Nat):Int)≤(20:Int) by omega),show xle 1 (a0z s)=true from a1n hs,cond_true,cond_false]
     by_cases h2:a1i s 0=48
     ·simp only [show xcm .eql (a1i s 0) 48=true from a2i h2,cond_true]
      by_cases h3:1 < s.length
      ·rw [show xcm .gtr ((a0z s:Nat):Int) 1=true from a7w (show(1:Int) < ((s.length:Nat):Int) by omega)]
       exact⟨rfl,⟨true,fun _=>by unfold drV; rw [if_pos (by simp [drQ,h3,a2i h2])],fun e=>by cases e⟩,[],by(exact zC)⟩
      ·rw [show xcm .gtr ((a0z s:Nat):Int) 1=false from a7e (show((s.length:Nat):Int)≤(1:Int) by omega)]
       exact⟨rfl,⟨false,fun e=>by(cases e),fun _=>⟨by omega,by simp [drQ,h0,h3]⟩⟩,[],by(exact zC)⟩
     ·simp only [show xcm .eql (a1i s 0) 48=false from a2c h2,cond_false]
      exact⟨rfl,⟨false,fun e=>by(cases e),fun _=>⟨by omega,by simp [drQ,h0,a2c h2]⟩⟩,[],by(exact zC)⟩
 refine SSp.to a0j (n:=40) (g:=[]) 3 5 rfl (σ:={_u:Unit // s.length≤20∧drQ s=false}) (fun _=>xuT s m 0 0) (fun _=>[]) (a0y (Nat.zero_le _)) (by kernel_rfl) ?_ fun⟨_,hl,hq⟩=>?_
 ·rw [g3d]
  cases q with
  | true =>
    simp only [cond_true]
    exact⟨trivial,rfl,.tup [.int .u64 0,.bool false],[],[],⟨bad (hq1 rfl),rfl⟩,by(exact zC)⟩
  | false =>
    simp only [cond_false]
    exact⟨rfl,⟨(),hq2 rfl⟩,[],by(exact zC)⟩
 refine SSp.code_to (g:=[]) 6 rfl (σ:={n:Int // some n=drV s m}) (fun n=>xuT s m n.1 s.length) (fun _=>[]) (by kernel_rfl) ?_ fun⟨n,hn⟩=>?_
 ·refine a0p.g9s a0j (n:=40) (n0:=0) 0 (by kernel_rfl) (σ:={x:Nat×Int // x.1≤s.length∧(0≤x.2∧x.2≤18446744073709551615)∧drF s m x.1 x.2=drV s m}) (fun x=>xuT s m x.1.2 x.1.1) (fun x=>[]) (fun x=>s.length - x.1.1) (fun _=>Nat.zero_le _) (fun⟨⟨i,n⟩,hi,hb,hN⟩=>?_) ⟨(0,0),Nat.zero_le _,⟨by simp,by simp⟩,by simp [drV,hq]⟩
  dsimp only at hi hb hN ⊢
  rw [g3c]
  by_cases h:i < s.length
  ·rw [b0o h hm hb] at hN
   have x0:xle (i+1) (a0z s)=true:=a1n (show i+1≤s.length by omega)
   have e3:xar .add .i64 (i:Int) 1=((i+1:Nat):Int):=a7t h (by omega)
   simp only [show xcm .lss ((i:Nat):Int) ((a0z s:Nat):Int)=true from a6j (show((i:Nat):Int) < ((s.length:Nat):Int) by omega),a2w,a1o,x0,e3,cond_true]
   by_cases h1:a1i s i < 48
   ·rw [if_neg (by omega)] at hN
    simp only [show xcm .lss (a1i s i) 48=true from a6j h1,cond_true]
    exact⟨trivial,rfl,.tup [.int .u64 0,.bool false],[],[],⟨bad hN.symm,rfl⟩,by(exact zC)⟩
   simp only [show xcm .lss (a1i s i) 48=false from a6h (by omega),cond_false]
   by_cases h2:57 < a1i s i
   ·rw [if_neg (by omega)] at hN
    simp only [show xcm .gtr (a1i s i) 57=true from a7w h2,cond_true]
    exact⟨trivial,rfl,.tup [.int .u64 0,.bool false],[],[],⟨bad hN.symm,rfl⟩,by(exact zC)⟩
   simp only [show xcm .gtr (a1i s i) 57=false from a7e (by omega),cond_false]
   have ed:xwr .u64 (xar .sub .u8 (a1i s i) 48)=a1i s i - 48:=by
    have q:=c3o h
    have:=g1m ⟨s[i].toNat - 48,by omega⟩
    rw [q,show((s[i].toNat:Nat):Int)=((48+(s[i].toNat - 48):Nat):Int) by omega]
    rw [this]; simp only; omega
   rw [ed]
   generalize hd:a1i s i - 48=d at *
   by_cases h5:d≤m
   ·have hsu:xar .sub .u64 m d=m - d:=by rw [c3p]; exact a4x (by omega) (by omega)
    rw [hsu,d0n (by omega) (by omega)]
    by_cases h4:(m - d) / 10 < n
    ·rw [if_neg (by omega)] at hN
     simp only [show xcm .gtr n ((m - d) / 10)=true from a7w h4,cond_true]
     exact⟨trivial,rfl,.tup [.int .u64 0,.bool false],[],[],⟨bad hN.symm,rfl⟩,by(exact zC)⟩
    ·rw [if_pos (by omega)] at hN
     have hmu:xar .mul .u64 n 10=n * 10:=by rw [c9k]; exact a4x (by omega) (by omega)
     have had:xar .add .u64 (n * 10) d=n * 10+d:=by rw [c3q]; exact a4x (by omega) (by omega)
     simp only [show xcm .gtr n ((m - d) / 10)=false from a7e (by omega),show xcm .gtr d m=false from a7e (by omega),hmu,had,cond_false]
     exact⟨rfl,⟨(i+1,n * 10+d),by dsimp only; omega,⟨by dsimp only; omega,by dsimp only; omega⟩,hN⟩,by dsimp only; omega,[],by(exact zC)⟩
   ·rw [if_neg (by omega)] at hN
    cases hc:xcm .gtr n (xar .quo .u64 (xar .sub .u64 m d) 10) with
    | true =>
      simp only [cond_true]
      exact⟨trivial,rfl,.tup [.int .u64 0,.bool false],[],[],⟨bad hN.symm,rfl⟩,by(exact zC)⟩
    | false =>
      simp only [show xcm .gtr d m=true from a7w (by omega),cond_true,cond_false]
      exact⟨trivial,rfl,.tup [.int .u64 0,.bool false],[],[],⟨bad hN.symm,rfl⟩,by(exact zC)⟩
  ·simp only [show xcm .lss ((i:Nat):Int) ((a0z s:Nat):Int)=false from a6h (show((s.length:Nat):Int)≤((i:Nat):Int) by omega),cond_false]
   rw [drF,dif_neg h] at hN
   have hM:=hN
   obtain rfl:i=s.length:=by omega
   exact⟨rfl,⟨n,hM⟩,[],by(exact zC)⟩
 dsimp only at hn ⊢
 refine SSp.last a0j (n:=40) (a0y (Nat.zero_le _)) ?_
 rw [g3b]
 refine⟨trivial,rfl,.tup [.int .u64 n,.bool true],[],[],⟨?_,rfl⟩,by(exact zC)⟩
 simp [drN,drB,← hn]
def xuG:Gc:=fun args s=>match args,s.g with
 | [.str x,.int .u64 m],[]=>(match s.lay [] [] [] with
   | some s'=>some ([xcm .leq 0 m,xcm .leq m 18446744073709551615],.tup [.int .u64 (drN x m),.bool (drB x m)],s')
   | none=>none)
 | _,_=>none
theorem f1e:GOk prog 63 xuG:=by
 intro args s bs l s' hg hb hfr
 unfold xuG at hg
 split at hg
 ·rename_i x m hgl
  split at hg
  ·rename_i s1 hs1
   simp only [Option.some.injEq,Prod.mk.injEq] at hg
   obtain⟨rfl,rfl,rfl⟩:=hg
   simp only [a0g] at hb
   obtain⟨k1,k2,_⟩:=hb
   refine a0k.lay (bs:=[]) (args0:=[.str x,.int .u64 m]) (bs':=[]) (v0:=.tup [.int .u64 (drN x m),.bool (drB x m)]) hfr hs1 (by simp)
    trivial (by(exact zTl)) ?_
    fun κ h1 h2=>⟨trivial,a1b rfl⟩
   rw [hgl]; exact(f6x x m ⟨by have:=k1; rw [a7q,decide_eq_true_eq] at this; exact this,by have:=k2; rw [a7q,decide_eq_true_eq] at this; exact this⟩)
  ·cases hg
 ·cases hg
end
end Go.Lev
