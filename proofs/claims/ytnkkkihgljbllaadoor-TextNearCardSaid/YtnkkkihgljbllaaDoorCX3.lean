import Derived.Test.YtnkkkihgljbllaaDoorCP5
/- text: runes and their bytes -/
namespace Go.Lev
set_option linter.unusedSimpArgs false
set_option linter.unusedVariables false
open Go.RowKit
open Go.Proofs.Tryd (prog)
set_option maxRecDepth 100000
noncomputable section
/- ==== one rune's bytes ==== -/
def cE (b:Nat→Nat) (n k:Nat):Bool:=decide (k < n) && b k / 64 == 2
def f8 (b:Nat→Nat) (n:Nat):Nat×Nat :=
 if b 0 < 0x80 then(b 0,1)
 else if(b 0 / 32 == 6 && cE b n 1)=true then
  if(b 0 % 32) * 64+b 1 % 64≥0x80 then((b 0 % 32) * 64+b 1 % 64,2) else(Utf8.runeError,1)
 else if(b 0 / 16 == 14 && cE b n 1 && cE b n 2)=true then
  if(decide ((b 0 % 16) * 4096+(b 1 % 64) * 64+b 2 % 64≥0x800) && Utf8.valid ((b 0 % 16) * 4096+(b 1 % 64) * 64+b 2 % 64:Nat))=true then((b 0 % 16) * 4096+(b 1 % 64) * 64+b 2 % 64,3) else(Utf8.runeError,1)
 else if(b 0 / 8 == 30 && cE b n 1 && cE b n 2 && cE b n 3)=true then
  if(decide ((b 0 % 8) * 262144+(b 1 % 64) * 4096+(b 2 % 64) * 64+b 3 % 64≥0x10000) && Utf8.valid ((b 0 % 8) * 262144+(b 1 % 64) * 4096+(b 2 % 64) * 64+b 3 % 64:Nat))=true then((b 0 % 8) * 262144+(b 1 % 64) * 4096+(b 2 % 64) * 64+b 3 % 64,4) else(Utf8.runeError,1)
 else(Utf8.runeError,1)
abbrev gf (l:ap) (p:Nat):Nat→Nat:=fun k=>(l.getD (p+k) 0).toNat
theorem QZ (l:ap) (i:Nat):(⟨l.toArray⟩:ByteArray).get! i=l.getD i 0:=by
 simp only [ByteArray.get!];by_cases h:i < l.length
 ·rw [getElem!_pos l.toArray i pN]; simp [List.getD,h]
 ·rw [getElem!_neg l.toArray i pN]; simp [List.getD,h]; rfl
theorem HH (l:ap) (p:Nat):Utf8.decode ⟨l.toArray⟩ p=f8 (gf l p) (l.length - p):=by
 have hs:(⟨l.toArray⟩:ByteArray).size=l.length:=rfl;have hc:∀ k,decide (p+k < l.length)=decide (k < l.length - p):=fun k=>decide_eq_decide.2 ab
 unfold Utf8.decode;simp only [QZ,hs,hc];rfl
theorem vd (l:ap) (p:Nat):aM l p=((f8 (gf l p) (l.length - p)).1:Int):=by unfold aM; rw [HH]; rfl
theorem xD (l:ap) (p:Nat):aP l p=(f8 (gf l p) (l.length - p)).2:=by unfold aP; rw [HH]
theorem mJ {b:Nat→Nat} {n k:Nat} (h:cE b n k=true):k < n∧b k / 64=2:=by simpa [cE] using h
theorem vh {b:Nat→Nat} {m n k:Nat} (h:m≤n) (hk:k < m):cE b m k=cE b n k:=by simp [cE,hk,mt hk h]
theorem uU {b:Nat→Nat} {m k:Nat} (hk:m≤k):cE b m k=false:=by simp [cE]; omega
theorem U4 {b:Nat→Nat} {m n:Nat} (h:m≤n) (h1:1≤m) (h2:(f8 b n).2≤m):f8 b m=f8 b n:=by
 by_cases k1:1 < m
 ·by_cases k2:2 < m
  ·by_cases k3:3 < m
   ·unfold f8; rw [vh h k1,vh h k2,vh h k3]
   ·unfold f8 at h2 ⊢;rw [vh h k1,vh h k2,uU (k:=3) ab];simp only [Bool.and_false,gd,dn];by_cases a:b 0 < 128
    ·rw [aB a,aB a]
    rw [av a,av a] at *;by_cases a1:(b 0 / 32 == 6 && cE b n 1)=true
    ·rw [aB a1,aB a1]
    rw [av a1] at h2; rw [av a1,av a1];by_cases a2:(b 0 / 16 == 14 && cE b n 1 && cE b n 2)=true
    ·rw [aB a2,aB a2]
    rw [av a2] at h2; rw [av a2,av a2];by_cases a3:(b 0 / 8 == 30 && cE b n 1 && cE b n 2 && cE b n 3)=true
    ·rw [aB a3] at h2; rw [aB a3];split at h2
     ·exact t9
     ·rename_i z; rw [av z]
    ·rw [av a3]
  ·unfold f8 at h2 ⊢;rw [vh h k1,uU (m:=m) (k:=2) ab,uU (m:=m) (k:=3) ab];simp only [Bool.and_false,gd,dn];by_cases a:b 0 < 128
   ·rw [aB a,aB a]
   rw [av a,av a] at *;by_cases a1:(b 0 / 32 == 6 && cE b n 1)=true
   ·rw [aB a1,aB a1]
   rw [av a1] at h2; rw [av a1,av a1];by_cases a2:(b 0 / 16 == 14 && cE b n 1 && cE b n 2)=true
   ·rw [aB a2] at h2; rw [aB a2];split at h2
    ·exact t9
    ·rename_i z; rw [av z]
   rw [av a2] at h2; rw [av a2];by_cases a3:(b 0 / 8 == 30 && cE b n 1 && cE b n 2 && cE b n 3)=true
   ·rw [aB a3] at h2; rw [aB a3];split at h2
    ·exact t9
    ·rename_i z; rw [av z]
   ·rw [av a3]
 ·unfold f8 at h2 ⊢;rw [uU (m:=m) (k:=1) ab,uU (m:=m) (k:=2) ab,uU (m:=m) (k:=3) ab];simp only [Bool.and_false,Bool.false_and,gd,dn];by_cases a:b 0 < 128
  ·rw [aB a,aB a]
  rw [av a,av a] at *;by_cases a1:(b 0 / 32 == 6 && cE b n 1)=true
  ·rw [aB a1] at h2; rw [aB a1];split at h2
   ·exact t9
   ·rename_i z; rw [av z]
  rw [av a1] at h2; rw [av a1];by_cases a2:(b 0 / 16 == 14 && cE b n 1 && cE b n 2)=true
  ·rw [aB a2] at h2; rw [aB a2];split at h2
   ·exact t9
   ·rename_i z; rw [av z]
  rw [av a2] at h2; rw [av a2];by_cases a3:(b 0 / 8 == 30 && cE b n 1 && cE b n 2 && cE b n 3)=true
  ·rw [aB a3] at h2; rw [aB a3];split at h2
   ·exact t9
   ·rename_i z; rw [av z]
  ·rw [av a3]
def rf (c:Nat):List Nat :=
 if c < 0x80 then [c]
 else if c < 0x800 then [0xC0+c / 64,0x80+c % 64]
 else if c < 0x10000 then [0xE0+c / 4096,0x80+c / 64 % 64,0x80+c % 64]
 else [0xF0+c / 262144,0x80+c / 4096 % 64,0x80+c / 64 % 64,0x80+c % 64]
theorem Qd {c:Nat} (h:Utf8.valid c=true):(Utf8.encode c).data.toList=(rf c).map UInt8.ofNat:=by
 unfold Utf8.encode rf;simp only [h,eR,kI];split
 ·rfl
 ·split
  ·rfl
  ·split <;> rfl
theorem IB {c:Nat} (h:c < 0xD800):Utf8.valid c=true:=by simp [Utf8.valid]; omega
theorem Fv (b:Nat→Nat) (n:Nat) (hb:∀ k,b k < 256) (hn:1≤n) :
  (f8 b n=(65533,1)∧128≤b 0∧¬ (3≤n∧b 0=239∧b 1=191∧b 2=189)) ∨
  (Utf8.valid (f8 b n).1=true∧rf (f8 b n).1=(List.range (f8 b n).2).map b∧1≤(f8 b n).2∧(f8 b n).2≤n):=by
 have h0:=hb 0; have h1:=hb 1; have h2:=hb 2; have h3:=hb 3;unfold f8;by_cases a:b 0 < 128
 ·rw [aB a];refine .inr ⟨IB lr,?_,aR _,hn⟩;simp only [rf,aB a]; rfl
 rw [av a];by_cases a1:(b 0 / 32 == 6 && cE b n 1)=true
 ·rw [aB a1];simp only [bg,beq_iff_eq] at a1;obtain⟨a1,a2⟩:=a1;obtain⟨c1,c2⟩:=mJ a2;by_cases z:(b 0 % 32) * 64+b 1 % 64≥0x80
  ·rw [aB z];refine .inr ⟨IB lr,?_,aC,by simp only; omega⟩;simp only [rf];rw [av ab,aB ab];simp only [List.range,List.range.loop,List.map]
   congr 1
   ·omega
   ·congr 1; omega
  ·rw [av z]; exact .inl ⟨rfl,ab,ab⟩
 rw [av a1];by_cases a2:(b 0 / 16 == 14 && cE b n 1 && cE b n 2)=true
 ·rw [aB a2];simp only [bg,beq_iff_eq] at a2;obtain⟨⟨b1,b2⟩,b3⟩:=a2;obtain⟨c1,c2⟩:=mJ b2;obtain⟨c3,c4⟩:=mJ b3;generalize hc:(b 0 % 16) * 4096+(b 1 % 64) * 64+b 2 % 64=c;by_cases z:(decide (c≥0x800) && Utf8.valid c)=true
  ·rw [aB z];simp only [bg,cu] at z;refine .inr ⟨z.2,?_,aC,by simp only; omega⟩;simp only [rf];rw [av ab,av ab,aB ab];simp only [List.range,List.range.loop,List.map]
   congr 1
   ·omega
   ·congr 1
    ·omega
    ·congr 1; omega
  ·rw [av z];refine .inl ⟨rfl,ab,fun⟨_,e0,e1,e2⟩=>z ?_⟩;rw [e0,e1,e2] at hc;subst hc;rfl
 rw [av a2];have nf:¬ (3≤n∧b 0=239∧b 1=191∧b 2=189):=fun⟨e,e0,e1,e2⟩=>a2 (by
  have q1:cE b n 1=true:=by simp [cE,e1]; omega
  have q2:cE b n 2=true:=by simp [cE,e2]; omega
  rw [q1,q2,e0]; rfl)
 by_cases a3:(b 0 / 8 == 30 && cE b n 1 && cE b n 2 && cE b n 3)=true
 ·rw [aB a3];simp only [bg,beq_iff_eq] at a3;obtain⟨⟨⟨b1,b2⟩,b3⟩,b4⟩:=a3;obtain⟨c1,c2⟩:=mJ b2;obtain⟨c3,c4⟩:=mJ b3;obtain⟨c5,c6⟩:=mJ b4;generalize hc:(b 0 % 8) * 262144+(b 1 % 64) * 4096+(b 2 % 64) * 64+b 3 % 64=c;by_cases z:(decide (c≥0x10000) && Utf8.valid c)=true
  ·rw [aB z];simp only [bg,cu] at z;refine .inr ⟨z.2,?_,aC,by simp only; omega⟩;simp only [rf];rw [av ab,av ab,av ab];simp only [List.range,List.range.loop,List.map]
   congr 1
   ·omega
   ·congr 1
    ·omega
    ·congr 1
     ·omega
     ·congr 1; omega
  ·rw [av z]; exact .inl ⟨rfl,ab,nf⟩
 ·rw [av a3]; exact .inl ⟨rfl,ab,nf⟩
/- ==== runes of a text ==== -/
theorem WT {b b':Nat→Nat} {m:Nat} (h:∀ k,k < m→b k=b' k) (h1:1≤m):f8 b m=f8 b' m:=by
 have e0:=h 0 ab;have c1:cE b m 1=cE b' m 1:=by unfold cE; by_cases k:1 < m; (· rw [h 1 k]); (· simp [k])
 have c2:cE b m 2=cE b' m 2:=by unfold cE; by_cases k:2 < m; (· rw [h 2 k]); (· simp [k])
 have c3:cE b m 3=cE b' m 3:=by unfold cE; by_cases k:3 < m; (· rw [h 3 k]); (· simp [k])
 unfold f8;rw [e0,c1,c2,c3];by_cases a:b' 0 < 128
 ·rw [aB a,aB a]
 rw [av a,av a];by_cases a1:(b' 0 / 32 == 6 && cE b' m 1)=true
 ·rw [aB a1,aB a1,h 1 (mJ (bg _ _▸a1).2).1]
 rw [av a1,av a1];by_cases a2:(b' 0 / 16 == 14 && cE b' m 1 && cE b' m 2)=true
 ·rw [aB a2,aB a2];simp only [bg] at a2;rw [h 1 (mJ a2.1.2).1,h 2 (mJ a2.2).1]
 rw [av a2,av a2];by_cases a3:(b' 0 / 8 == 30 && cE b' m 1 && cE b' m 2 && cE b' m 3)=true
 ·rw [aB a3,aB a3];simp only [bg] at a3;rw [h 1 (mJ a3.1.1.2).1,h 2 (mJ a3.1.2).1,h 3 (mJ a3.2).1]
 ·rw [av a3,av a3]
abbrev Tk:=Int×Bool
def fw (t:ap) (p:Nat):Bool:=decide (aM t p=65533) && !(decide (p+3≤t.length) && bA .eql (aY t p (p+3)) [239,191,189])
theorem Ui {t:ap} {p:Nat} (h:fw t p=true):aM t p=65533:=by simp [fw] at h; exact h.1
theorem DM (l:ap) (p k:Nat):gf l p k < 256:=(l.getD (p+k) 0).toNat_lt
theorem IS {t:ap} {p w:Nat} (h:p+w≤t.length):(List.range w).map (fun k=>UInt8.ofNat (gf t p k))=aY t p (p+w):=by
 unfold aY;apply List.ext_getElem
 ·simp; omega
 ·intro i h1 h2;simp at h1;simp [gf,List.getD,cq (show p+i < t.length by omega)]
theorem Wh {t:ap} {p:Nat} (h:p < t.length) (hw:fw t p=false):(Utf8.encode (aM t p)).data.toList=aY t p (p+aP t p):=by
 rw [vd,xD];rcases Fv (gf t p) (t.length - p) (DM t p) ab with⟨e,e1,e2⟩ | ⟨v,e,w1,w2⟩
 ·exfalso;have hr:aM t p=65533:=by rw [vd,e]; rfl
  simp only [fw,hr,bD,li,Bool.not_eq_false',bg,cu] at hw;obtain⟨h3,h4⟩:=hw;have h4:(aY t p (p+3) == [239,191,189])=true:=h4;have h4:aY t p (p+3)=[239,191,189]:=by simpa using h4
  rw [← IS h3] at h4;simp only [List.range,List.range.loop,List.map,iJ,kG] at h4;obtain⟨q0,q1,q2⟩:=h4;refine e2 ⟨ab,?_,?_,?_⟩
  ·have:=congrArg UInt8.toNat q0; simpa [gf] using this
  ·have:=congrArg UInt8.toNat q1; simpa [gf] using this
  ·have:=congrArg UInt8.toNat q2; simpa [gf] using this
 ·rw [Qd v,e,List.map_map,← IS (show p+(f8 (gf t p) (t.length - p)).2≤t.length by omega)];rfl
def dg (t:ap) (p:Nat):List Tk :=
 if h:p < t.length then(aM t p,fw t p)::dg t (p+aP t p) else []
termination_by t.length - p
decreasing_by all_goals (have:=fF h; omega)
theorem xT {t:ap} {p:Nat} (h:p < t.length):dg t p=(aM t p,fw t p)::dg t (p+aP t p):=by rw [dg,dif_pos h]
theorem vr {t:ap} {p:Nat} (h:t.length≤p):dg t p=[]:=by rw [dg,dif_neg ab]
theorem K8 (t:ap):∀ (k i:Nat),t.length - i≤k→rS t k i=(dg t i).map (·.1)
 | 0,i,h=>by rw [rS,vr ab]; rfl
 | k+1,i,h=>by
   rw [rS];by_cases hi:i < t.length
   ·have:=fF hi;rw [aB hi,xT hi,lp,← K8 t k (i+aP t i) ab]; rfl
   ·rw [av hi,vr ab]; rfl
theorem K9 (t:ap):qr t=(dg t 0).map (·.1):=K8 t _ 0 ab
theorem JH (t:ap):∀ (p:Nat),(dg t p).length≤t.length - p:=by
 suffices ∀ n p,t.length - p≤n→(dg t p).length≤t.length - p from fun p=>this _ p (aR _)
 intro n
 induction n with
 | zero=>intro p h; rw [vr ab]; simp
 | succ n ih =>
   intro p h;by_cases hp:p < t.length
   ·have hw:=fF hp;rw [xT hp];have:=ih (p+aP t p) ab;simp only [cZ]; omega
   ·rw [vr ab]; simp
inductive c7w (t:ap) (s:Nat):Nat→List Tk→Prop
 | nil:c7w t s s []
 | snoc {p:Nat} {l:List Tk} (h:c7w t s p l) (hp:p < t.length):c7w t s (p+aP t p) (l++[(aM t p,fw t p)])
theorem c7w.le {t:ap} {s p:Nat} {l:List Tk} (h:c7w t s p l) (hs:s≤t.length):s≤p∧p≤t.length:=by
 induction h with
 | nil=>exact⟨aR _,hs⟩
 | snoc h hp ih=>have:=fF hp; omega
theorem JV:∀ a b:List Int,gY (a++b)=gY a++gY b
 | [],b=>rfl
 | x::a,b=>by simp [gY,JV a b]
theorem UT {t:ap} {s p q:Nat} (h1:s≤p) (h2:p≤q) (h3:q≤t.length):aY t s q=aY t s p++aY t p q:=by
 unfold aY;rw [show q - s=(p - s)+(q - p) by omega,List.take_add]
 congr 1
 rw [List.drop_drop]; congr 2; omega
theorem c7w.good {t:ap} {s p:Nat} {l:List Tk} (h:c7w t s p l) (hs:s≤t.length) (hg:∀ x∈l,x.2=false):gY (l.map (·.1))=aY t s p:=by
 induction h with
 | nil=>simp [gY,aY]
 | @snoc p l h hp ih =>
   have:=fF hp;have hl:=h.le hs;rw [List.map_append,JV,ih (fun x hx=>hg x (gz.2 (.inl hx))),UT hl.1 (show p≤p+aP t p by omega) this.2,← Wh hp (hg (aM t p,fw t p) aC)];simp [gY]
def iL (t:ap) (p:Nat):List Int :=
 if h:p < t.length then aM t p::iL t (p+aP t p) else []
termination_by t.length - p
decreasing_by all_goals (have:=fF h; omega)
theorem Aq {t:ap} {s p:Nat} (h2:p≤t.length):(aY t s p).length=p - s:=by simp [aY]; omega
theorem IR {t:ap} {s p q:Nat} (h1:s≤q) (h2:q+aP t q≤p) (h3:p≤t.length) (h4:q < t.length):aM (aY t s p) (q - s)=aM t q∧aP (aY t s p) (q - s)=aP t q:=by
 have hw:=fF h4;have e:f8 (gf (aY t s p) (q - s)) ((aY t s p).length - (q - s))=f8 (gf t q) (t.length - q):=by
  rw [Aq h3,show p - s - (q - s)=p - q by omega,← U4 (b:=gf t q) (m:=p - q) (n:=t.length - q) ab ab (by rw [← xD]; omega)];refine WT (fun k hk=>?_) ab;simp only [gf,List.getD,aY];rw [List.getElem?_take_of_lt ab,sB]
  congr 3; omega
 rw [vd,xD,e,← vd,← xD]; exact⟨rfl,rfl⟩
theorem c7w.run {t:ap} {s q:Nat} {l:List Tk} (h:c7w t s q l) {p:Nat} (hs:s≤t.length) (hq:q≤p) (hp:p≤t.length):iL (aY t s p) 0=l.map (·.1)++iL (aY t s p) (q - s):=by
 induction h with
 | nil=>simp
 | @snoc q l h hq' ih =>
   have:=fF hq';have hl:=h.le hs;obtain⟨e1,e2⟩:=IR hl.1 hq hp hq';rw [ih ab,iL,dif_pos (show q - s < (aY t s p).length by rw [Aq hp]; omega),e1,e2,List.map_append,mW];simp only [List.map,lq,lU];rw [show q - s+aP t q=q+aP t q - s by omega]
theorem c7w.bad {t:ap} {s p:Nat} {l:List Tk} (h:c7w t s p l) (hs:s≤t.length) (hg:∃ x∈l,x.2=true) (hw:∀ x∈l,x.2=true→x.1=65533):(65533:Int)∈iL (aY t s p) 0:=by
 obtain⟨x,hx,h2⟩:=hg;rw [h.run hs (aR _) (h.le hs).2];exact gz.2 (.inl (List.mem_map.2 ⟨x,hx,hw x hx h2⟩))
theorem c7w.wr {t:ap} {s p:Nat} {l:List Tk} (h:c7w t s p l):∀ x∈l,x.2=true→x.1=65533:=by
 induction h with
 | nil=>intro x hx; simp at hx
 | @snoc p l h hp ih =>
   intro x hx hb;rcases gz.1 hx with hx | hx
   ·exact ih x hx hb
   ·rw [k_.1 hx] at hb ⊢; exact Ui hb
theorem RO {l:ap} {p:Nat} (h:p < l.length) (hr:aM l p < 128):(l[p]'h).toNat < 128:=by
 by_cases hb:(l[p]'h).toNat < 128
 ·exact hb
 exfalso;have e0:gf l p 0=(l[p]'h).toNat:=by simp [gf,List.getD,h]
 rw [vd] at hr;rcases Fv (gf l p) (l.length - p) (DM l p) ab with⟨e,e1,e2⟩ | ⟨v,e,w1,w2⟩
 ·rw [e] at hr; simp only at hr; omega
 ·have hr:(f8 (gf l p) (l.length - p)).1 < 128:=ab;rw [rf,aB hr] at e;obtain⟨w,hw⟩:∃ w,(f8 (gf l p) (l.length - p)).2=w+1:=⟨_,(Nat.sub_add_cancel w1).symm⟩;rw [hw,List.range_succ_eq_map,lp,iJ] at e;omega
def vY (s:ap):Prop:=∀ b∈s,b.toNat < 128
theorem Sa {s:ap} (h:vY s):∀ (p:Nat),(65533:Int) ∉ iL s p:=by
 suffices ∀ n p,s.length - p≤n→(65533:Int) ∉ iL s p from fun p=>this _ p (aR _)
 intro n
 induction n with
 | zero=>intro p hp; rw [iL,dif_neg ab]; simp
 | succ n ih =>
   intro p hn;by_cases hp:p < s.length
   ·have hw:=fF hp;obtain⟨a,b⟩:=Kr (cq hp) (h _ (iw hp));have hb:=h _ (iw hp);rw [iL,dif_pos hp];intro hm;rcases eT.1 hm with hm | hm
    ·omega
    ·exact ih _ ab hm
   ·rw [iL,dif_neg hp]; simp
abbrev yX:List Nat:=[0,2,3,7]
abbrev wC (s:ap) (k:Nat):List (Nat×LV):=[(0,.str s),(2,.nils),(3,.slo 1 0 k 0),(7,.ptr 0 0)]
abbrev wy:List Nat:=[2,3,8]
abbrev ud (k:Int):List (Nat×LV):=[(2,.b false),(3,.z k),(8,.ptr 0 0)]
abbrev yU:List Nat:=[0,1,4,5]
abbrev wz (s:ap) (n i:Nat):List (Nat×LV):=[(0,.slo 0 0 n 0),(1,.str s),(4,.z 0),(5,.z i)]
abbrev ww:List Nat:=[0,1,4,5,6,7,25]
abbrev wv (s:ap) (m n:Int) (i:Nat):List (Nat×LV):=[(0,.str s),(1,.int .u64 m),(4,.int .u64 0),(5,.b false),(6,.int .u64 n),(7,.z i)]
theorem PB (s:ap) (K:Pk):(bc prog (fun _=>none) 40 34 (bS (sp prog 33) 0 3) (cO [.str s]) (ai [] []) (vK yX K))=(
 K .normal [.str s,.nils,.nils,.ptr 0 0] [some (.iter s 0)] []):=ak
theorem PC (s:ap) (p k:Nat) (bx:al) (K:Pk):(aX prog (fun _=>none) 40 34 (ce (bi (sp prog 33) 3)) (aF 34 (wC s k)) (ai [.iter s p,.cells bx (some 1)] []) (vK yX K))=(
 cond (ag (aa p 1) (am s)) (cond (ad .eql (aM s p) 65533) (cond (ad .leq (au .add .i64 (Int.ofNat p) 3) ↑(am s)) (ck (b9 (au .add .i64 (Int.ofNat p) 3)) <|
 ck (ag p (ae (au .add .i64 (Int.ofNat p) 3))) <|
 ck (ag (ae (au .add .i64 (Int.ofNat p) 3)) (am s)) <|
 ck (ag (aa k 1) 1000000) <|
 ck (ag (aa 0 (aJ k 1)) (aG bx)) <|
 K .normal [.str s,.nils,.slo 3 0 (aa k 1) 0,.ptr 0 0] [some (.iter s (aa p (aP s p))),sD,sN [.b (bu (bA .eql (aY s p (ae (au .add .i64 (Int.ofNat p) 3))) [239,191,189]))],sC (bM (bf bx 0 (aJ k 1)) [.b (bu (bA .eql (aY s p (ae (au .add .i64 (Int.ofNat p) 3))) [239,191,189]))]) 1] []) (ck (ag (aa k 1) 1000000) <|
 ck (ag (aa 0 (aJ k 1)) (aG bx)) <|
 K .normal [.str s,.nils,.slo 3 0 (aa k 1) 0,.ptr 0 0] [some (.iter s (aa p (aP s p))),sD,sN [.b true],sC (bM (bf bx 0 (aJ k 1)) [.b true]) 1] [])) (ck (ag (aa k 1) 1000000) <|
 ck (ag (aa 0 (aJ k 1)) (aG bx)) <|
 K .normal [.str s,.nils,.slo 3 0 (aa k 1) 0,.ptr 0 0] [some (.iter s (aa p (aP s p))),sD,sN [.b false],sC (bM (bf bx 0 (aJ k 1)) [.b false]) 1] [])) (K (.exit 0) [.str s,.nils,.slo 1 0 k 0,.ptr 0 0] [some (.iter s p),sC bx 1] [])):=ak
theorem PD (s:ap) (p k:Nat) (bx:al) (K:Pk):(bc prog (fun _=>none) 40 34 ((sp prog 33).drop 4) (aF 34 (wC s k)) (ai [.iter s p,.cells bx (some 1)] []) (vK yX K))=(
 K .ret [.str s,.slo 1 0 k 0,.slo 1 0 k 0,.ptr 0 0] [some (.iter s p),sC bx 1] []):=ak
theorem PY (s:ap) (K:Pk):(bc prog (fun _=>none) 60 64 (bS (sp prog 35) 0 3) (cO [.str s]) (ai [] []) (vK wy K))=(
 K .normal [.b false,.z 0,.ptr 0 0] [some (.iter s 0)] []):=ak
theorem PZ (s:ap) (p:Nat) (k:Int) (K:Pk):(aX prog (fun _=>none) 60 64 (ce (bi (sp prog 35) 3)) (aF 64 (ud k)) (ai [.iter s p] []) (vK wy K))=(
 cond (ag (aa p 1) (am s)) (cond (ad .geq (aM s p) 97) (cond (ad .leq (aM s p) 122) (K .normal [.b false,.z (au .add .i64 k 1),.ptr 0 0] [some (.iter s (aa p (aP s p)))] []) (cond (ad .geq (aM s p) 65) (cond (ad .leq (aM s p) 90) (K .normal [.b false,.z (au .add .i64 k 1),.ptr 0 0] [some (.iter s (aa p (aP s p)))] []) (cond (ad .geq (aM s p) 192) (cond (ad .leq (aM s p) 591) (cond (ad .neq (aM s p) 215) (cond (bu (ad .neq (aM s p) 247)) (cond (ad .eql k 0) (K .ret [.b false,.z k,.ptr 0 0] [some (.iter s (aa p (aP s p)))] []) (cond (ad .lss (aM s p) 48) (K .ret [.b false,.z k,.ptr 0 0] [some (.iter s (aa p (aP s p)))] []) (cond (ad .gtr (aM s p) 57) (K .ret [.b false,.z k,.ptr 0 0] [some (.iter s (aa p (aP s p)))] []) (K .normal [.b false,.z (au .add .i64 k 1),.ptr 0 0] [some (.iter s (aa p (aP s p)))] [])))) (K .normal [.b false,.z (au .add .i64 k 1),.ptr 0 0] [some (.iter s (aa p (aP s p)))] [])) (cond (ad .eql k 0) (K .ret [.b false,.z k,.ptr 0 0] [some (.iter s (aa p (aP s p)))] []) (cond (ad .lss (aM s p) 48) (K .ret [.b false,.z k,.ptr 0 0] [some (.iter s (aa p (aP s p)))] []) (cond (ad .gtr (aM s p) 57) (K .ret [.b false,.z k,.ptr 0 0] [some (.iter s (aa p (aP s p)))] []) (K .normal [.b false,.z (au .add .i64 k 1),.ptr 0 0] [some (.iter s (aa p (aP s p)))] []))))) (cond (ad .eql k 0) (K .ret [.b false,.z k,.ptr 0 0] [some (.iter s (aa p (aP s p)))] []) (cond (ad .lss (aM s p) 48) (K .ret [.b false,.z k,.ptr 0 0] [some (.iter s (aa p (aP s p)))] []) (cond (ad .gtr (aM s p) 57) (K .ret [.b false,.z k,.ptr 0 0] [some (.iter s (aa p (aP s p)))] []) (K .normal [.b false,.z (au .add .i64 k 1),.ptr 0 0] [some (.iter s (aa p (aP s p)))] []))))) (cond (ad .eql k 0) (K .ret [.b false,.z k,.ptr 0 0] [some (.iter s (aa p (aP s p)))] []) (cond (ad .lss (aM s p) 48) (K .ret [.b false,.z k,.ptr 0 0] [some (.iter s (aa p (aP s p)))] []) (cond (ad .gtr (aM s p) 57) (K .ret [.b false,.z k,.ptr 0 0] [some (.iter s (aa p (aP s p)))] []) (K .normal [.b false,.z (au .add .i64 k 1),.ptr 0 0] [some (.iter s (aa p (aP s p)))] [])))))) (cond (ad .geq (aM s p) 192) (cond (ad .leq (aM s p) 591) (cond (ad .neq (aM s p) 215) (cond (bu (ad .neq (aM s p) 247)) (cond (ad .eql k 0) (K .ret [.b false,.z k,.ptr 0 0] [some (.iter s (aa p (aP s p)))] []) (cond (ad .lss (aM s p) 48) (K .ret [.b false,.z k,.ptr 0 0] [some (.iter s (aa p (aP s p)))] []) (cond (ad .gtr (aM s p) 57) (K .ret [.b false,.z k,.ptr 0 0] [some (.iter s (aa p (aP s p)))] []) (K .normal [.b false,.z (au .add .i64 k 1),.ptr 0 0] [some (.iter s (aa p (aP s p)))] [])))) (K .normal [.b false,.z (au .add .i64 k 1),.ptr 0 0] [some (.iter s (aa p (aP s p)))] [])) (cond (ad .eql k 0) (K .ret [.b false,.z k,.ptr 0 0] [some (.iter s (aa p (aP s p)))] []) (cond (ad .lss (aM s p) 48) (K .ret [.b false,.z k,.ptr 0 0] [some (.iter s (aa p (aP s p)))] []) (cond (ad .gtr (aM s p) 57) (K .ret [.b false,.z k,.ptr 0 0] [some (.iter s (aa p (aP s p)))] []) (K .normal [.b false,.z (au .add .i64 k 1),.ptr 0 0] [some (.iter s (aa p (aP s p)))] []))))) (cond (ad .eql k 0) (K .ret [.b false,.z k,.ptr 0 0] [some (.iter s (aa p (aP s p)))] []) (cond (ad .lss (aM s p) 48) (K .ret [.b false,.z k,.ptr 0 0] [some (.iter s (aa p (aP s p)))] []) (cond (ad .gtr (aM s p) 57) (K .ret [.b false,.z k,.ptr 0 0] [some (.iter s (aa p (aP s p)))] []) (K .normal [.b false,.z (au .add .i64 k 1),.ptr 0 0] [some (.iter s (aa p (aP s p)))] []))))) (cond (ad .eql k 0) (K .ret [.b false,.z k,.ptr 0 0] [some (.iter s (aa p (aP s p)))] []) (cond (ad .lss (aM s p) 48) (K .ret [.b false,.z k,.ptr 0 0] [some (.iter s (aa p (aP s p)))] []) (cond (ad .gtr (aM s p) 57) (K .ret [.b false,.z k,.ptr 0 0] [some (.iter s (aa p (aP s p)))] []) (K .normal [.b false,.z (au .add .i64 k 1),.ptr 0 0] [some (.iter s (aa p (aP s p)))] []))))))) (cond (ad .geq (aM s p) 65) (cond (ad .leq (aM s p) 90) (K .normal [.b false,.z (au .add .i64 k 1),.ptr 0 0] [some (.iter s (aa p (aP s p)))] []) (cond (ad .geq (aM s p) 192) (cond (ad .leq (aM s p) 591) (cond (ad .neq (aM s p) 215) (cond (bu (ad .neq (aM s p) 247)) (cond (ad .eql k 0) (K .ret [.b false,.z k,.ptr 0 0] [some (.iter s (aa p (aP s p)))] []) (cond (ad .lss (aM s p) 48) (K .ret [.b false,.z k,.ptr 0 0] [some (.iter s (aa p (aP s p)))] []) (cond (ad .gtr (aM s p) 57) (K .ret [.b false,.z k,.ptr 0 0] [some (.iter s (aa p (aP s p)))] []) (K .normal [.b false,.z (au .add .i64 k 1),.ptr 0 0] [some (.iter s (aa p (aP s p)))] [])))) (K .normal [.b false,.z (au .add .i64 k 1),.ptr 0 0] [some (.iter s (aa p (aP s p)))] [])) (cond (ad .eql k 0) (K .ret [.b false,.z k,.ptr 0 0] [some (.iter s (aa p (aP s p)))] []) (cond (ad .lss (aM s p) 48) (K .ret [.b false,.z k,.ptr 0 0] [some (.iter s (aa p (aP s p)))] []) (cond (ad .gtr (aM s p) 57) (K .ret [.b false,.z k,.ptr 0 0] [some (.iter s (aa p (aP s p)))] []) (K .normal [.b false,.z (au .add .i64 k 1),.ptr 0 0] [some (.iter s (aa p (aP s p)))] []))))) (cond (ad .eql k 0) (K .ret [.b false,.z k,.ptr 0 0] [some (.iter s (aa p (aP s p)))] []) (cond (ad .lss (aM s p) 48) (K .ret [.b false,.z k,.ptr 0 0] [some (.iter s (aa p (aP s p)))] []) (cond (ad .gtr (aM s p) 57) (K .ret [.b false,.z k,.ptr 0 0] [some (.iter s (aa p (aP s p)))] []) (K .normal [.b false,.z (au .add .i64 k 1),.ptr 0 0] [some (.iter s (aa p (aP s p)))] []))))) (cond (ad .eql k 0) (K .ret [.b false,.z k,.ptr 0 0] [some (.iter s (aa p (aP s p)))] []) (cond (ad .lss (aM s p) 48) (K .ret [.b false,.z k,.ptr 0 0] [some (.iter s (aa p (aP s p)))] []) (cond (ad .gtr (aM s p) 57) (K .ret [.b false,.z k,.ptr 0 0] [some (.iter s (aa p (aP s p)))] []) (K .normal [.b false,.z (au .add .i64 k 1),.ptr 0 0] [some (.iter s (aa p (aP s p)))] [])))))) (cond (ad .geq (aM s p) 192) (cond (ad .leq (aM s p) 591) (cond (ad .neq (aM s p) 215) (cond (bu (ad .neq (aM s p) 247)) (cond (ad .eql k 0) (K .ret [.b false,.z k,.ptr 0 0] [some (.iter s (aa p (aP s p)))] []) (cond (ad .lss (aM s p) 48) (K .ret [.b false,.z k,.ptr 0 0] [some (.iter s (aa p (aP s p)))] []) (cond (ad .gtr (aM s p) 57) (K .ret [.b false,.z k,.ptr 0 0] [some (.iter s (aa p (aP s p)))] []) (K .normal [.b false,.z (au .add .i64 k 1),.ptr 0 0] [some (.iter s (aa p (aP s p)))] [])))) (K .normal [.b false,.z (au .add .i64 k 1),.ptr 0 0] [some (.iter s (aa p (aP s p)))] [])) (cond (ad .eql k 0) (K .ret [.b false,.z k,.ptr 0 0] [some (.iter s (aa p (aP s p)))] []) (cond (ad .lss (aM s p) 48) (K .ret [.b false,.z k,.ptr 0 0] [some (.iter s (aa p (aP s p)))] []) (cond (ad .gtr (aM s p) 57) (K .ret [.b false,.z k,.ptr 0 0] [some (.iter s (aa p (aP s p)))] []) (K .normal [.b false,.z (au .add .i64 k 1),.ptr 0 0] [some (.iter s (aa p (aP s p)))] []))))) (cond (ad .eql k 0) (K .ret [.b false,.z k,.ptr 0 0] [some (.iter s (aa p (aP s p)))] []) (cond (ad .lss (aM s p) 48) (K .ret [.b false,.z k,.ptr 0 0] [some (.iter s (aa p (aP s p)))] []) (cond (ad .gtr (aM s p) 57) (K .ret [.b false,.z k,.ptr 0 0] [some (.iter s (aa p (aP s p)))] []) (K .normal [.b false,.z (au .add .i64 k 1),.ptr 0 0] [some (.iter s (aa p (aP s p)))] []))))) (cond (ad .eql k 0) (K .ret [.b false,.z k,.ptr 0 0] [some (.iter s (aa p (aP s p)))] []) (cond (ad .lss (aM s p) 48) (K .ret [.b false,.z k,.ptr 0 0] [some (.iter s (aa p (aP s p)))] []) (cond (ad .gtr (aM s p) 57) (K .ret [.b false,.z k,.ptr 0 0] [some (.iter s (aa p (aP s p)))] []) (K .normal [.b false,.z (au .add .i64 k 1),.ptr 0 0] [some (.iter s (aa p (aP s p)))] []))))))) (K (.exit 0) [.b false,.z k,.ptr 0 0] [some (.iter s p)] [])):=ak
theorem P1 (s:ap) (p:Nat) (k:Int) (K:Pk):(bc prog (fun _=>none) 60 64 ((sp prog 35).drop 4) (aF 64 (ud k)) (ai [.iter s p] []) (vK wy K))=(
 cond (ad .geq k 1) (K .ret [.b (ad .leq k 8),.z k,.ptr 0 0] [some (.iter s p)] []) (K .ret [.b false,.z k,.ptr 0 0] [some (.iter s p)] [])):=ak
theorem PU (s:ap) (n:Nat) (bx:al) (K:Pk):(bc prog (fun _=>none) 40 24 (bS (sp prog 36) 0 2) (cO [.slo 0 0 n 0,.str s]) (ai [.cells bx (some 2)] []) (vK yU K))=(
 K .normal [.slo 0 0 n 0,.str s,.z 0,.z 0] [sC bx 2] []):=ak
theorem PW (s:ap) (n i:Nat) (bx:al) (K:Pk):(aX prog (fun _=>none) 40 24 (ce (bi (sp prog 36) 2)) (aF 24 (wz s n i)) (ai [.cells bx (some 2)] []) (vK yU K))=(
 cond (ad .lss ↑i ↑n) (ck (ag (aa (ae ↑i) 1) n) <|
 ck (ag (aa (ah 0 (ae ↑i) 2) 1) (aG bx)) <|
 ck (cW (af bx (ah 0 (ae ↑i) 2))) <|
 cond (bA .eql (aK (af bx (ah 0 (ae ↑i) 2))) s) (ck (ag (aa (ae ↑i) 1) n) <|
 ck (ag (aa (aa (ah 0 (ae ↑i) 2) 1) 1) (aG bx)) <|
 ck (a7 .i64 (af bx (aa (ah 0 (ae ↑i) 2) 1))) <|
 K .ret [.slo 0 0 n 0,.str s,.z (ar (af bx (aa (ah 0 (ae ↑i) 2) 1))),.z ↑i] [sC bx 2] []) (K .normal [.slo 0 0 n 0,.str s,.z 0,.z (au .add .i64 (↑i) 1)] [sC bx 2] [])) (K (.exit 0) [.slo 0 0 n 0,.str s,.z 0,.z ↑i] [sC bx 2] [])):=ak
theorem PX (s:ap) (n i:Nat) (bx:al) (K:Pk):(bc prog (fun _=>none) 40 24 ((sp prog 36).drop 3) (aF 24 (wz s n i)) (ai [.cells bx (some 2)] []) (vK yU K))=(
 K .ret [.slo 0 0 n 0,.str s,.z (-1),.z ↑i] [sC bx 2] []):=ak
theorem P3 (s:ap) (m:Int) (K:Pk):(bc prog (fun _=>none) 40 63 (bS (sp prog 63) 0 2) (cO [.str s,.int .u64 m]) (ai [] []) (vK ww K))=(
 cond (bA .eql s []) (K .normal [.str s,.int .u64 m,.int .u64 0,.b false,.tup [],.tup [],.b true] [] []) (cond (ad .gtr (↑(am s)) 20) (K .normal [.str s,.int .u64 m,.int .u64 0,.b false,.tup [],.tup [],.b true] [] []) (ck (ag 1 (am s)) <|
 cond (ad .eql (bz s 0) 48) (K .normal [.str s,.int .u64 m,.int .u64 0,.b false,.tup [],.tup [],.b (ad .gtr (↑(am s)) 1)] [] []) (K .normal [.str s,.int .u64 m,.int .u64 0,.b false,.tup [],.tup [],.b false] [] [])))):=ak
theorem P4 (s:ap) (m:Int) (q:Bool) (K:Pk):(bc prog (fun _=>none) 40 63 (bS (sp prog 63) 2 3) (aF 63 [(0,.str s),(1,.int .u64 m),(4,.int .u64 0),(5,.b false),(25,.b q)]) (ai [] []) (vK ww K))=(
 cond q (K .ret [.str s,.int .u64 m,.int .u64 0,.b false,.any,.any,.b q] [] []) (K .normal [.str s,.int .u64 m,.int .u64 0,.b false,.int .u64 0,.z 0,.b q] [] [])):=ak
theorem P5 (s:ap) (i:Nat) (m n:Int) (K:Pk):(aX prog (fun _=>none) 40 63 (ce (bi (sp prog 63) 5)) (aF 63 (wv s m n i)) (ai [] []) (vK ww K))=(
 cond (ad .lss ↑i ↑(am s)) (ck (ag (aa (ae ↑i) 1) (am s)) <|
 cond (ad .lss (bz s (ae ↑i)) 48) (K .ret [.str s,.int .u64 m,.int .u64 0,.b false,.int .u64 n,.z ↑i,.any] [] []) (ck (ag (aa (ae ↑i) 1) (am s)) <|
 cond (ad .gtr (bz s (ae ↑i)) 57) (K .ret [.str s,.int .u64 m,.int .u64 0,.b false,.int .u64 n,.z ↑i,.any] [] []) (ck (ag (aa (ae ↑i) 1) (am s)) <|
 cond (ad .gtr n (au .quo .u64 (au .sub .u64 m (ay .u64 (au .sub .u8 (bz s (ae ↑i)) 48))) 10)) (K .ret [.str s,.int .u64 m,.int .u64 0,.b false,.int .u64 n,.z ↑i,.any] [] []) (cond (ad .gtr (ay .u64 (au .sub .u8 (bz s (ae ↑i)) 48)) m) (K .ret [.str s,.int .u64 m,.int .u64 0,.b false,.int .u64 n,.z ↑i,.any] [] []) (K .normal [.str s,.int .u64 m,.int .u64 0,.b false,.int .u64 (au .add .u64 (au .mul .u64 n 10) (ay .u64 (au .sub .u8 (bz s (ae ↑i)) 48))),.z (au .add .i64 (↑i) 1),.any] [] []))))) (K (.exit 0) [.str s,.int .u64 m,.int .u64 0,.b false,.int .u64 n,.z ↑i,.any] [] [])):=ak
theorem P6 (s:ap) (i:Nat) (m n:Int) (K:Pk):(bc prog (fun _=>none) 40 63 ((sp prog 63).drop 6) (aF 63 (wv s m n i)) (ai [] []) (vK ww K))=(
 K .ret [.str s,.int .u64 m,.int .u64 n,.b true,.int .u64 n,.z ↑i,.any] [] []):=ak
abbrev qm (x:Bool):al:=[.b x]
theorem Uq (x:Bool):(qm x).length=1:=rfl
theorem G3 (xs:List Bool):(aj qm xs).length=xs.length:=by rw [iW Uq]; omega
theorem vO (xs:List Bool):a1u (aj qm xs)=true:=iu (fun _=>rfl) xs
theorem Us (xs:List Bool) (a:Bool):bM (bf (aj qm xs) 0 (aJ xs.length 1)) [.b a]=aj qm (xs++[a]):=by
 rw [j0 (by rw [G3]; show xs.length≤xs.length * 1; omega),g9]; rfl
def kT (s:ap) (p:Nat):List Bool:=(dg s p).map (·.2)
def ql (s:ap):Nat:=(kT s 0).length
def od (s:ap):al:=aj qm (kT s 0)
theorem Sf {s:ap} {p:Nat} (h:p < s.length):kT s p=fw s p::kT s (p+aP s p):=by unfold kT; rw [xT h]; rfl
theorem Se {s:ap} {p:Nat} (h:s.length≤p):kT s p=[]:=by unfold kT; rw [vr h]; rfl
theorem Ur (s:ap) (p:Nat):(kT s p).length≤s.length - p:=by unfold kT; rw [ii]; exact JH s p
theorem RQ (s:ap) (hs:s.length≤900000):a0j prog 33 [.str s] (ai [] []) fun l st=>l=.slo 0 0 (ql s) 0∧st=ai [.cells (od s) (some 1)] []:=by
 refine a0j.mono (a0j.i3y (Q:=fun l b=>l=.slo 0 0 (ql s) 0∧b=[.cells (od s) (some 1)]) 34 0 yX [2] ak rfl rfl rfl ?_) fun l s' ⟨b0,⟨h1,h2⟩,h3⟩=>⟨h1,by rw [h3,h2]⟩
 refine SSp.to cJ (n:=40) (g:=[]) 3 3 rfl (σ:=Unit) (fun _=>wC s 0) (fun _=>[.iter s 0,.cells [] (some 1)]) (bh (bk _)) ak ?_ fun _=>?_
 ·rw [PB]; exact⟨rfl,(),[.id 0,.none],by(exact zC)⟩
 refine SSp.code_to (g:=[]) 4 rfl (σ:=Unit) (fun _=>wC s (ql s)) (fun _=>[.iter s s.length,.cells (od s) (some 1)]) ak ?_ fun _=>?_
 ·refine a0n.i3g cJ (n:=40) (n0:=0) 0 ak (σ:={x:Nat×List Bool // x.1≤s.length∧x.2++kT s x.1=kT s 0}) (fun x=>wC s x.1.2.length) (fun x=>[.iter s x.1.1,.cells (aj qm x.1.2) (some 1)]) (fun x=>s.length - x.1.1) (fun _=>bk _) (fun⟨⟨p,xs⟩,hp,hN⟩=>?_) ⟨(0,[]),bk _,rfl⟩;dsimp only at hp hN ⊢;rw [PC];have hl:xs.length≤s.length:=by have:=Ur s 0; rw [← hN,cg] at this; omega
  have nx:=vO xs;have y1:ag (aa xs.length 1) 1000000=true:=aO (by show xs.length+1≤_; omega);have y2:ag (aa 0 (aJ xs.length 1)) (aG (aj qm xs))=true:=aO (by show 0+xs.length * 1≤(aj qm xs).length; rw [G3]; omega);by_cases h:p < s.length
  ·have hw:=fF h;rw [Sf h] at hN;have y0:ag (aa p 1) (am s)=true:=aO (show p+1≤s.length by omega);have fin:∀ b,b=fw s p→(xs++[b])++kT s (p+aP s p)=kT s 0:=fun b hb=>by rw [hb,mW]; exact hN
   have e3:au .add .i64 (Int.ofNat p) 3=((p+3:Nat):Int):=by rw [gb BM BM]; rfl
   simp only [y0,y1,y2,e3,Us,aw];have lenA:∀ b:Bool,aa xs.length 1=(xs++[b]).length:=fun b=>by rw [cg]; rfl
   cases h1:ad .eql (aM s p) 65533 with
   | false =>
     have hr:aM s p≠65533:=fun e=>by rw [cD e] at h1; cases h1
     have nb:=vO (xs++[false]);simp only [aD];rw [lenA false];exact⟨rfl,⟨(p+aP s p,xs++[false]),hw.2,fin _ (by simp [fw,hr])⟩,by dsimp only; omega,[.id 0,.id 3],by(exact zC)⟩
   | true =>
     have hr:aM s p=65533:=by rw [lQ] at h1; simpa using h1
     simp only [aw];by_cases h2:p+3≤s.length
     ·simp only [show ad .leq ((p+3:Nat):Int) ((am s:Nat):Int)=true from dX (show((p+3:Nat):Int)≤((s.length:Nat):Int) by omega),show b9 ((p+3:Nat):Int)=true from rfl,show ag p (p+3)=true from aO (show p≤p+3 by omega),show ag (p+3) (am s)=true from aO (show p+3≤s.length from h2),show ae ((p+3:Nat):Int)=p+3 from rfl,aw];have nb:=vO (xs++[bu (bA .eql (aY s p (p+3)) [239,191,189])]);rw [lenA (bu (bA .eql (aY s p (p+3)) [239,191,189]))];exact⟨rfl,⟨(p+aP s p,xs++[bu (bA .eql (aY s p (p+3)) [239,191,189])]),hw.2,fin _ (by simp [fw,hr,h2,bu])⟩,by dsimp only; omega,[.id 0,.id 3],by(exact zC)⟩
     ·simp only [show ad .leq ((p+3:Nat):Int) ((am s:Nat):Int)=false from tn (show((s.length:Nat):Int) < ((p+3:Nat):Int) by omega),aD];have nb:=vO (xs++[true]);rw [lenA true];exact⟨rfl,⟨(p+aP s p,xs++[true]),hw.2,fin _ (by simp [fw,hr,h2])⟩,by dsimp only; omega,[.id 0,.id 3],by(exact zC)⟩
  ·have y0:ag (aa p 1) (am s)=false:=uS (show s.length < p+1 by omega);simp only [y0,aD];rw [Se ab,fR] at hN;have hM:=hN;obtain rfl:p=s.length:=ab;subst hM;exact⟨rfl,(),[.id 0,.id 1],by(exact zC)⟩
 refine SSp.last cJ (n:=40) (bh (bk _)) ?_;rw [PD];have nb:a1u (od s)=true:=vO _;exact⟨trivial,rfl,.slo 0 0 (ql s) 0,[.cells (od s) (some 1)],[.id 1],⟨rfl,rfl⟩,by(exact zC)⟩
def B6:Gc:=fun args s=>match args,s.g with
 | [.str x],[]=>(match s.lay [] [] [.cells (od x) (some 1)] with
   | some s'=>some ([ag (am x) 900000],.slo s.n 0 (ql x) 0,s')
   | none=>none)
 | _,_=>none
theorem T0:bX prog 33 B6:=by
 intro args s bs l s' hg hb hfr;unfold B6 at hg;split at hg
 ·rename_i x hgl;split at hg
  ·rename_i s1 hs1;simp only [a8,bn] at hg;obtain⟨rfl,rfl,rfl⟩:=hg;simp only [bv] at hb;obtain⟨k1,_⟩:=hb;have n1:a1u (od x)=true:=vO _;refine a0j.lay (bs:=[]) (args0:=[.str x]) (bs':=[.cells (od x) (some 1)]) (v0:=.slo 0 0 (ql x) 0) hfr hs1 aC
    trivial fv ?_
    fun κ h1 h2=>⟨⟨be bF,trivial⟩,bC (h2 0 aC)⟩
   rw [hgl]; exact(RQ x (show x.length≤900000 from eC.1 k1))
  ·cases hg
 ·cases hg
/- name: the code's isName -/
theorem P0 (s:ap) (p:Nat) (k:Int) (K:Pk):(aX prog (fun _=>none) 60 64 (ce (bi (sp prog 35) 3)) (aF 64 (ud k)) (ai [.iter s p] []) (vK wy K))=(
 bif ag (aa p 1) (am s) then
  bif lZ (aM s p) then K .normal [.b false,.z (au .add .i64 k 1),.ptr 0 0] [some (.iter s (aa p (aP s p)))] []
  else bif ad .eql k 0 then K .ret [.b false,.z k,.ptr 0 0] [some (.iter s (aa p (aP s p)))] []
  else bif ad .lss (aM s p) 48 then K .ret [.b false,.z k,.ptr 0 0] [some (.iter s (aa p (aP s p)))] []
  else bif ad .gtr (aM s p) 57 then K .ret [.b false,.z k,.ptr 0 0] [some (.iter s (aa p (aP s p)))] []
  else K .normal [.b false,.z (au .add .i64 k 1),.ptr 0 0] [some (.iter s (aa p (aP s p)))] []
 else K (.exit 0) [.b false,.z k,.ptr 0 0] [some (.iter s p)] []):=by
  rw [PZ];unfold lZ;generalize K .normal [.b false,.z (au .add .i64 k 1),.ptr 0 0] [some (.iter s (aa p (aP s p)))] []=A;generalize K .ret [.b false,.z k,.ptr 0 0] [some (.iter s (aa p (aP s p)))] []=B;generalize ad .eql k 0=c0;generalize ad .lss (aM s p) 48=c1;generalize ad .gtr (aM s p) 57=c2;generalize ad .geq (aM s p) 97=d1;generalize ad .leq (aM s p) 122=d2;generalize ad .geq (aM s p) 65=d3;generalize ad .leq (aM s p) 90=d4;generalize ad .geq (aM s p) 192=d5;generalize ad .leq (aM s p) 591=d6;generalize ad .neq (aM s p) 215=d7;generalize ad .neq (aM s p) 247=d8;cases ag (aa p 1) (am s)
  ·rfl
  ·cases d1 <;> cases d2 <;> cases d3 <;> cases d4 <;> cases d5 <;> cases d6 <;> cases d7 <;> cases d8 <;> first | rfl | (cases c0 <;> first | rfl | (cases c1 <;> first | rfl | (cases c2 <;> rfl)))
theorem R5 (s:ap) (hs:s.length≤1000000000):a0j prog 35 [.str s] (ai [] []) fun l st=>l=.b (dW s)∧st=ai [] []:=by
 refine a0j.mono (a0j.i3y (Q:=fun l b=>l=.b (dW s)∧b=[]) 64 0 wy [2] ak rfl rfl rfl ?_) fun l s' ⟨b0,⟨h1,h2⟩,h3⟩=>⟨h1,by rw [h3,h2]⟩
 refine SSp.to cJ (n:=60) (g:=[]) 3 3 rfl (σ:=Unit) (fun _=>ud 0) (fun _=>[.iter s 0]) (bh (bk _)) ak ?_ fun _=>?_
 ·rw [PY]; exact⟨rfl,(),[.id 0],by(exact zC)⟩
 refine SSp.code_to (g:=[]) 4 rfl (σ:={k:Int // (decide (1≤k) && decide (k≤8))=dW s}) (fun k=>ud k.1) (fun _=>[.iter s s.length]) ak ?_ fun⟨k,hk⟩=>?_
 ·refine a0n.i3g cJ (n:=60) (n0:=0) 0 ak (σ:={x:Nat×Int // x.1≤s.length∧0≤x.2∧x.2≤x.1∧oW s x.1 x.2=dW s}) (fun x=>ud x.1.2) (fun x=>[.iter s x.1.1]) (fun x=>s.length - x.1.1) (fun _=>bk _) (fun⟨⟨p,k⟩,hp,hk0,hk,hN⟩=>?_) ⟨(0,0),bk _,Int.le_refl _,Int.le_refl _,rfl⟩;dsimp only at hp hk0 hk hN ⊢;rw [P0];have e1:au .add .i64 k 1=k+1:=gb ab ab;rw [oW] at hN;by_cases h:p < s.length
  ·have hw:=fF h;rw [dif_pos h] at hN;have y0:ag (aa p 1) (am s)=true:=aO (show p+1≤s.length by omega);simp only [y0,aw];cases hl:lZ (aM s p) with
   | true =>
     rw [aB hl] at hN;simp only [e1,aw];exact⟨rfl,⟨(p+aP s p,k+1),hw.2,by dsimp only; omega,by dsimp only; omega,hN⟩,by dsimp only; omega,[.id 0],by(exact zC)⟩
   | false =>
     rw [av (by rw [hl]; simp)] at hN;simp only [e1,aD];by_cases h1:k=0
     ·exact GB
     ·rw [av h1] at hN;simp only [show ad .eql k 0=false from cF h1,aD];by_cases h2:aM s p < 48
      ·exact GA
      ·rw [av h2] at hN;simp only [show ad .lss (aM s p) 48=false from f_ ab,aD];by_cases h3:57 < aM s p
       ·exact Gz
       ·exact Gy
  ·exact Gx
 dsimp only at hk ⊢;refine SSp.last cJ (n:=60) (bh (bk _)) ?_;rw [P1];by_cases h:1≤k
 ·simp only [show ad .geq k 1=true from qn h,aw];refine⟨trivial,rfl,.b (ad .leq k 8),[],[],⟨?_,rfl⟩,by(exact zC)⟩;rw [← hk]
  congr 1
  by_cases h2:k≤8
  ·rw [dX h2]; simp [h,h2]
  ·rw [tn ab]; simp [h2]
 ·exact Gw
def yT:Gc:=fun args s=>match args,s.g with
 | [.str x],[]=>(match s.lay [] [] [] with
   | some s'=>some ([ag (am x) 1000000000],.b (dW x),s')
   | none=>none)
 | _,_=>none
theorem IK:bX prog 35 yT:=by
 intro args s bs l s' hg hb hfr;unfold yT at hg;split at hg
 ·rename_i x hgl;split at hg
  ·rename_i s1 hs1;simp only [a8,bn] at hg;obtain⟨rfl,rfl,rfl⟩:=hg;simp only [bv] at hb;obtain⟨k1,_⟩:=hb;refine a0j.lay (bs:=[]) (args0:=[.str x]) (bs':=[]) (v0:=.b (dW x)) hfr hs1 aC
    trivial fv ?_
    fun κ h1 h2=>⟨trivial,ir⟩
   rw [hgl]; exact(R5 x (show x.length≤1000000000 from eC.1 k1))
  ·cases hg
 ·cases hg
/- find: a label's place,or -1 -/
abbrev oK:=ap×Int
abbrev kN (x:oK):al:=[.str x.1,.z x.2]
theorem Ez (x:oK):(kN x).length=2:=rfl
theorem CJ (xs:List oK):(aj kN xs).length=xs.length * 2:=iW Ez xs
theorem tV (xs:List oK):a1u (aj kN xs)=true:=iu (fun _=>rfl) xs
theorem NU {xs:List oK} {i:Nat} (h:i < xs.length):af (aj kN xs) (i * 2)=.str xs[i].1:=gc Ez (j:=0) h ab
theorem NV {xs:List oK} {i:Nat} (h:i < xs.length):af (aj kN xs) (i * 2+1)=.z xs[i].2:=gc Ez (j:=1) h ab
def zj:al→List oK
 | .str a::.int _ b::r=>(a,b)::zj r
 | _=>[]
theorem Au:∀ xs,zj (aj kN xs)=xs
 | []=>rfl
 | x::r=>by simp [aj,kN,zj,Au r]
def m9:List oK→ap→Int
 | [],_ => -1
 | x::r,s=>if x.1 == s then x.2 else m9 r s
theorem Wm {L:List oK} {s:ap} {i:Nat} (h:i < L.length):m9 (L.drop i) s=if L[i].1 == s then L[i].2 else m9 (L.drop (i+1)) s:=by
 rw [jG h]; rfl
def mZ (bx:al) (s:ap):Int:=m9 (zj bx) s
def qa (n:Nat) (c:al):Bool:=@decide (∃ L,c=aj kN L∧L.length=n∧n≤100000) (Classical.propDecidable _)
theorem AS {n:Nat} {c:al}:qa n c=true↔∃ L,c=aj kN L∧L.length=n∧n≤100000:=by simp only [qa,cu]
theorem Vi {n:Nat} {c:al} (h:qa n c=true):a1u c=true:=by obtain⟨L,rfl,_⟩:=AS.1 h; exact tV L
theorem R4 (s:ap) (L:List oK) (hL:L.length≤100000):a0j prog 36 [.slo 0 0 L.length 0,.str s] (ai [.cells (aj kN L) (some 2)] []) fun l st=>l=.z (m9 L s)∧st=ai [.cells (aj kN L) (some 2)] []:=by
 refine a0j.mono (a0j.i3y (Q:=fun l b=>l=.z (m9 L s)∧b=[.cells (aj kN L) (some 2)]) 24 1 yU [4] ak rfl rfl rfl ?_) fun l s' ⟨b0,⟨h1,h2⟩,h3⟩=>⟨h1,by rw [h3,h2]⟩
 have nm:=tV L; have lm:=CJ L;have g0:=fun {i:Nat} (h:i < L.length)=>NU h
 have g1:=fun {i:Nat} (h:i < L.length)=>NV h
 generalize aj kN L=bx at *;refine SSp.to cJ (n:=40) (g:=[]) 2 2 rfl (σ:=Unit) (fun _=>wz s L.length 0) (fun _=>[.cells bx (some 2)]) (bh (aS rfl)) ak ?_ fun _=>?_
 ·rw [PU]; exact⟨rfl,(),[.id 0],by(exact zC)⟩
 refine SSp.code_to (g:=[]) 3 rfl (σ:={_u:Unit // m9 L s = -1}) (fun _=>wz s L.length L.length) (fun _=>[.cells bx (some 2)]) ak ?_ fun⟨_,hN⟩=>?_
 ·refine a0n.i3g cJ (n:=40) (n0:=1) 0 ak (σ:={i:Nat // i≤L.length∧m9 (L.drop i) s=m9 L s}) (fun i=>wz s L.length i.1) (fun _=>[.cells bx (some 2)]) (fun i=>L.length - i.1) (fun _=>aS rfl) (fun⟨i,hi,hN⟩=>?_) ⟨0,bk _,rfl⟩;dsimp only at hi hN ⊢;rw [PW];by_cases h:i < L.length
  ·have wS:∀ x,aK (.str x)=x:=fun _=>rfl
   have wB:∀ x,cW (.str x)=true:=fun _=>rfl
   have v0:=g0 h; have v1:=g1 h;have hM:=hN;rw [Wm h] at hM;have x0:ag (i+1) L.length=true:=aO ab;have x1:ag (i * 2+1) (L.length * 2)=true:=aO ab;have x2:ag (i * 2+1+1) (L.length * 2)=true:=aO ab;have e3:au .add .i64 (i:Int) 1=((i+1:Nat):Int):=kE h ab;simp only [show ad .lss ((i:Nat):Int) ((L.length:Nat):Int)=true from ga ab,ct,cC,bP,cm,b_,bV,lm,x0,x1,x2,v0,v1,e3,cf,cz,wS,wB,bD,aw];cases hb:L[i].1 == s with
   | true =>
     rw [hb,aB rfl] at hM;simp only [show bA .eql L[i].1 s=true from hb,aw];exact⟨trivial,rfl,.z L[i].2,_,[.id 0],⟨by rw [← hM],rfl⟩,by(exact zC)⟩
   | false =>
     rw [hb,av aC] at hM;simp only [show bA .eql L[i].1 s=false from hb,aD];exact⟨rfl,⟨i+1,ab,hM⟩,by dsimp only; omega,[.id 0],by(exact zC)⟩
  ·simp only [show ad .lss ((i:Nat):Int) ((L.length:Nat):Int)=false from f_ ab,aD];have ei:i=L.length:=ab;have hM:=hN;rw [ei,List.drop_length] at hM;subst ei;exact⟨rfl,⟨(),hM.symm⟩,[.id 0],by(exact zC)⟩
 refine SSp.last cJ (n:=40) (bh (aS rfl)) ?_;rw [PX];exact⟨trivial,rfl,.z (-1),_,[.id 0],⟨by rw [hN],rfl⟩,by(exact zC)⟩
theorem PV (n:Nat) (bx:al) (s:ap) (k1:qa n bx=true):a0j prog 36 [.slo 0 0 n 0,.str s] (ai [.cells bx (some 2)] []) fun l st=>l=.z (mZ bx s)∧st=ai [.cells bx (some 2)] []:=by
 obtain⟨L,rfl,rfl,hL⟩:=AS.1 k1;rw [mZ,Au];exact R4 s L hL
def BT:Gc:=fun args s=>match args,s.g with
 | [.slo b 0 n 0,.str x],[]=>(match s.h.get b with
   | some (.cells bx (some 2))=>(match s.lay [b] [.cells bx (some 2)] [] with
     | some s'=>some ([qa n bx],.z (mZ bx x),s')
     | none=>none)
   | _=>none)
 | _,_=>none
theorem Ul:bX prog 36 BT:=by
 intro args s bs l s' hg hb hfr;unfold BT at hg;split at hg
 ·rename_i b n x hgl;split at hg
  ·rename_i bx hb0;split at hg
   ·rename_i s1 hs1;simp only [a8,bn] at hg;obtain⟨rfl,rfl,rfl⟩:=hg;simp only [bv] at hb;obtain⟨k1,_⟩:=hb;have n1:=Vi k1;refine a0j.lay (bs:=[.cells bx (some 2)]) (args0:=[.slo 0 0 n 0,.str x]) (bs':=[.cells bx (some 2)]) (v0:=.z (mZ bx x)) hfr hs1 aC
     ⟨⟨df hfr hb0,_,hb0,be bF,fun κ hκ=>be bF⟩,trivial⟩ fv ?_
     fun κ h1 h2=>⟨⟨be bF,trivial⟩,cH⟩
    rw [hgl]; exact(PV n bx x k1)
   ·cases hg
  ·cases hg
 ·cases hg
theorem EU {s:ap} {p:Nat} (h:p < s.length):bz s p=((s[p].toNat:Nat):Int):=by simp [bz,List.getD,h]
theorem Qb:∀ k:Fin 10,ay .u64 (au .sub .u8 ((48+k.1:Nat):Int) 48)=(k.1:Int):=by decide
theorem SI:∀ k:Fin 10,ay .u64 (au .sub .i32 ((48+k.1:Nat):Int) 48)=(k.1:Int):=by decide
theorem Jr {x:Int} (h1:0≤x) (h2:x≤18446744073709551615):au .quo .u64 x 10=x / 10:=by
 rw [JM _ _ _ ab,Int.tdiv_eq_ediv_of_nonneg ab];exact lS ab ab
theorem vI {s:ap} {m n:Int} {p:Nat} (h:p < s.length) (hm:0≤m∧m≤18446744073709551615) (hn:0≤n∧n≤18446744073709551615) :
  jP s m p n=if 48≤bz s p∧bz s p≤57∧bz s p - 48≤m∧n≤(m - (bz s p - 48)) / 10 then jP s m (p+1) (n * 10+(bz s p - 48)) else none:=by
 rw [jP,dif_pos h,EU h];by_cases ha:s[p].toNat < 128
 ·obtain⟨k1,k2⟩:=Kr (cq h) ha;rw [k1,k2];by_cases h1:((s[p].toNat:Nat):Int) < 48
  ·rw [aB h1,av ab]
  rw [av h1];by_cases h2:57 < ((s[p].toNat:Nat):Int)
  ·rw [aB h2,av ab]
  rw [av h2];have ed:ti s p=((s[p].toNat:Nat):Int) - 48:=by
   have:=SI ⟨s[p].toNat - 48,ab⟩;rw [ti,k1,show((s[p].toNat:Nat):Int)=((48+(s[p].toNat - 48):Nat):Int) by omega];rw [this]; simp only; omega
  rw [ed,Jr hm.1 hm.2];generalize hd:((s[p].toNat:Nat):Int) - 48=d;have hd0:0≤d∧d≤9:=ab;have e1:48≤((s[p].toNat:Nat):Int)∧((s[p].toNat:Nat):Int)≤57:=ab;by_cases h3:m / 10 < n
  ·rw [aB h3,av ab]
  rw [av h3];have hmu:au .mul .u64 n 10=n * 10:=by rw [JL]; exact lS ab ab
  rw [hmu];by_cases h5:d≤m
  ·have hsu:au .sub .u64 m d=m - d:=by rw [ET]; exact lS ab ab
   rw [hsu];by_cases h4:m - d < n * 10
   ·rw [aB h4,av ab]
   ·have had:au .add .u64 (n * 10) d=n * 10+d:=by rw [ES]; exact lS ab ab
    rw [av h4,av ab,had,aB ab]
  ·rw [av (c:=_∧_) ab];split
   ·rfl
   ·rw [aB ab]
 ·have hr:¬ aM s p < 128:=fun k=>ha (RO h k)
  rw [av ab,aB ab,av ab]
theorem Eu {s:ap} {m v:Int} (hm:0≤m∧m≤18446744073709551615):∀ (k p:Nat) (n:Int),s.length - p≤k→0≤n∧n≤18446744073709551615→jP s m p n=some v→n * 10 ^ (s.length - p)≤v∧v≤18446744073709551615∧vY (s.drop p)
 | 0,p,n,hk,hn,h=>by
   rw [jP,dif_neg ab] at h;cases h;rw [show s.length - p=0 by omega];exact⟨ab,hn.2,by rw [mo ab]; intro b hb; cases hb⟩
 | k+1,p,n,hk,hn,h=>by
   by_cases hp:p < s.length
   ·rw [vI hp hm hn] at h;split at h
    ·rename_i c;obtain⟨c1,c2,c3,c4⟩:=c;have ih:=Eu hm k (p+1) _ ab ⟨ab,ab⟩ h;refine⟨Int.le_trans ?_ ih.1,ih.2.1,?_⟩
     ·rw [show s.length - p=(s.length - (p+1))+1 by omega,Int.pow_succ,Int.mul_comm (10 ^ _) 10,← Int.mul_assoc];exact Int.mul_le_mul_of_nonneg_right ab (Int.le_of_lt (Int.pow_pos ab))
     ·rw [jG hp];rw [EU hp] at c1 c2;intro b hb;rcases eT.1 hb with hb | hb
      ·subst hb; omega
      ·exact ih.2.2 b hb
    ·cases h
   ·rw [jP,dif_neg hp] at h;cases h;rw [show s.length - p=0 by omega];exact⟨ab,hn.2,by rw [mo ab]; intro b hb; cases hb⟩
theorem IX {s:ap} {m:Int} (hm:0≤m∧m≤18446744073709551615) (h:c_ s m=true):vY s:=by
 unfold c_ iC at h;split at h
 ·simp at h
 ·obtain⟨v,hv⟩:=Option.isSome_iff_exists.1 h;have:=(Eu hm s.length 0 0 ab ⟨ab,ab⟩ hv).2.2;simpa using this
theorem SL {s:ap} {m:Int} (hm:0≤m∧m≤18446744073709551615) (hl:20 < s.length):iC s m=none:=by
 unfold iC;split
 ·rfl
 ·rename_i hq;cases hv:jP s m 0 0 with
  | none=>rfl
  | some v =>
    exfalso;have hp:0 < s.length:=ab;rw [vI hp hm ⟨ab,ab⟩] at hv;split at hv
    ·rename_i c;obtain⟨c1,c2,c3,c4⟩:=c;have h48:bz s 0≠48:=by
      intro e;apply hq;unfold kn;rw [show ad .eql (bz s 0) 48=true from cD e];simp; omega
     have:=Eu hm s.length 1 _ ab ⟨ab,ab⟩ hv;have p1:(10:Int) ^ 20≤10 ^ (s.length - 1):=by
      have:=Nat.pow_le_pow_right (n:=10) ab (show 20≤s.length - 1 by omega)
      exact_mod_cast this
     have p2:(1:Int) * 10 ^ (s.length - 1)≤(0 * 10+(bz s 0 - 48)) * 10 ^ (s.length - 1):=Int.mul_le_mul_of_nonneg_right ab ab;have p3:(10:Int) ^ 20=100000000000000000000:=by decide
     omega
    ·cases hv
theorem R6 (s:ap) (m:Int) (hm:0≤m∧m≤18446744073709551615):a0j prog 63 [.str s,.int .u64 m] (ai [] []) fun l st=>l=.tup [.int .u64 (dL s m),.b (c_ s m)]∧st=ai [] []:=by
 refine a0j.mono (a0j.i3y (Q:=fun l b=>l=.tup [.int .u64 (dL s m),.b (c_ s m)]∧b=[]) 63 0 ww [4,5] ak rfl rfl rfl ?_) fun l s' ⟨b0,⟨h1,h2⟩,h3⟩=>⟨h1,by rw [h3,h2]⟩
 have bad:iC s m=none→(LV.tup [.int .u64 0,.b false])=.tup [.int .u64 (dL s m),.b (c_ s m)]:=fun e=>by simp [dL,c_,e]
 refine SSp.to cJ (n:=40) (g:=[]) 2 2 rfl (σ:={q:Bool // (q=true→iC s m=none)∧(q=false→s.length≤20∧kn s=false)}) (fun q=>[(0,.str s),(1,.int .u64 m),(4,.int .u64 0),(5,.b false),(25,.b q.1)]) (fun _=>[]) (bh (bk _)) ak ?_ fun⟨q,hq1,hq2⟩=>?_
 ·rw [P3];cases h0:bA .eql s [] with
  | true =>
    simp only [aw];exact⟨rfl,⟨true,fun _=>by unfold iC; rw [aB (by simp [kn,h0])],fun e=>by cases e⟩,[],by(exact zC)⟩
  | false =>
    simp only [aD];by_cases h1:20 < s.length
    ·simp only [show ad .gtr ((am s:Nat):Int) 20=true from iR (show(20:Int) < ((s.length:Nat):Int) by omega),aw];exact⟨rfl,⟨true,fun _=>SL hm h1,fun e=>by cases e⟩,[],by(exact zC)⟩
    ·have hs:1≤s.length:=by
      rcases s with _ | ⟨a,r⟩
      ·cases h0
      ·simp
     simp only [show ad .gtr ((am s:Nat):Int) 20=false from ia (show((s.length:Nat):Int)≤(20:Int) by omega),show ag 1 (am s)=true from aO hs,aw,aD];by_cases h2:bz s 0=48
     ·simp only [show ad .eql (bz s 0) 48=true from cD h2,aw];by_cases h3:1 < s.length
      ·rw [show ad .gtr ((am s:Nat):Int) 1=true from iR (show(1:Int) < ((s.length:Nat):Int) by omega)];exact⟨rfl,⟨true,fun _=>by unfold iC; rw [aB (by simp [kn,h3,cD h2])],fun e=>by cases e⟩,[],by(exact zC)⟩
      ·rw [show ad .gtr ((am s:Nat):Int) 1=false from ia (show((s.length:Nat):Int)≤(1:Int) by omega)];exact⟨rfl,⟨false,fun e=>by(cases e),fun _=>⟨ab,by simp [kn,h0,h3]⟩⟩,[],by(exact zC)⟩
     ·simp only [show ad .eql (bz s 0) 48=false from cF h2,aD];exact⟨rfl,⟨false,fun e=>by(cases e),fun _=>⟨ab,by simp [kn,h0,cF h2]⟩⟩,[],by(exact zC)⟩
 refine SSp.to cJ (n:=40) (g:=[]) 3 5 rfl (σ:={_u:Unit // s.length≤20∧kn s=false}) (fun _=>wv s m 0 0) (fun _=>[]) (bh (bk _)) ak ?_ fun⟨_,hl,hq⟩=>?_
 ·rw [P4];cases q with
  | true =>
    simp only [aw];exact⟨trivial,rfl,.tup [.int .u64 0,.b false],[],[],⟨bad (hq1 rfl),rfl⟩,by(exact zC)⟩
  | false =>
    simp only [aD];exact⟨rfl,⟨(),hq2 rfl⟩,[],by(exact zC)⟩
 refine SSp.code_to (g:=[]) 6 rfl (σ:={n:Int // some n=iC s m}) (fun n=>wv s m n.1 s.length) (fun _=>[]) ak ?_ fun⟨n,hn⟩=>?_
 ·refine a0n.i3g cJ (n:=40) (n0:=0) 0 ak (σ:={x:Nat×Int // x.1≤s.length∧(0≤x.2∧x.2≤18446744073709551615)∧jP s m x.1 x.2=iC s m}) (fun x=>wv s m x.1.2 x.1.1) (fun x=>[]) (fun x=>s.length - x.1.1) (fun _=>bk _) (fun⟨⟨i,n⟩,hi,hb,hN⟩=>?_) ⟨(0,0),bk _,⟨aC,aC⟩,by simp [iC,hq]⟩;dsimp only at hi hb hN ⊢;rw [P5];by_cases h:i < s.length
  ·rw [vI h hm hb] at hN;have x0:ag (i+1) (am s)=true:=aO (show i+1≤s.length by omega);have e3:au .add .i64 (i:Int) 1=((i+1:Nat):Int):=kE h ab;simp only [show ad .lss ((i:Nat):Int) ((am s:Nat):Int)=true from ga (show((i:Nat):Int) < ((s.length:Nat):Int) by omega),ct,bP,x0,e3,aw];by_cases h1:bz s i < 48
   ·rw [av ab] at hN;simp only [show ad .lss (bz s i) 48=true from ga h1,aw];exact⟨trivial,rfl,.tup [.int .u64 0,.b false],[],[],⟨bad hN.symm,rfl⟩,by(exact zC)⟩
   simp only [show ad .lss (bz s i) 48=false from f_ ab,aD];by_cases h2:57 < bz s i
   ·rw [av ab] at hN;simp only [show ad .gtr (bz s i) 57=true from iR h2,aw];exact⟨trivial,rfl,.tup [.int .u64 0,.b false],[],[],⟨bad hN.symm,rfl⟩,by(exact zC)⟩
   simp only [show ad .gtr (bz s i) 57=false from ia ab,aD];have ed:ay .u64 (au .sub .u8 (bz s i) 48)=bz s i - 48:=by
    have q:=EU h;have:=Qb ⟨s[i].toNat - 48,ab⟩;rw [q,show((s[i].toNat:Nat):Int)=((48+(s[i].toNat - 48):Nat):Int) by omega];rw [this]; simp only; omega
   rw [ed];generalize hd:bz s i - 48=d at *;by_cases h5:d≤m
   ·have hsu:au .sub .u64 m d=m - d:=by rw [ET]; exact lS ab ab
    rw [hsu,Jr ab ab];by_cases h4:(m - d) / 10 < n
    ·rw [av ab] at hN;simp only [show ad .gtr n ((m - d) / 10)=true from iR h4,aw];exact⟨trivial,rfl,.tup [.int .u64 0,.b false],[],[],⟨bad hN.symm,rfl⟩,by(exact zC)⟩
    ·rw [aB ab] at hN;have hmu:au .mul .u64 n 10=n * 10:=by rw [JL]; exact lS ab ab
     have had:au .add .u64 (n * 10) d=n * 10+d:=by rw [ES]; exact lS ab ab
     simp only [show ad .gtr n ((m - d) / 10)=false from ia ab,show ad .gtr d m=false from ia ab,hmu,had,aD];exact⟨rfl,⟨(i+1,n * 10+d),by dsimp only; omega,⟨by dsimp only; omega,by dsimp only; omega⟩,hN⟩,by dsimp only; omega,[],by(exact zC)⟩
   ·rw [av ab] at hN;cases hc:ad .gtr n (au .quo .u64 (au .sub .u64 m d) 10) with
    | true =>
      simp only [aw];exact⟨trivial,rfl,.tup [.int .u64 0,.b false],[],[],⟨bad hN.symm,rfl⟩,by(exact zC)⟩
    | false =>
      simp only [show ad .gtr d m=true from iR ab,aw,aD];exact⟨trivial,rfl,.tup [.int .u64 0,.b false],[],[],⟨bad hN.symm,rfl⟩,by(exact zC)⟩
  ·simp only [show ad .lss ((i:Nat):Int) ((am s:Nat):Int)=false from f_ (show((s.length:Nat):Int)≤((i:Nat):Int) by omega),aD];rw [jP,dif_neg h] at hN;have hM:=hN;obtain rfl:i=s.length:=ab;exact⟨rfl,⟨n,hM⟩,[],by(exact zC)⟩
 dsimp only at hn ⊢;refine SSp.last cJ (n:=40) (bh (bk _)) ?_;rw [P6];refine⟨trivial,rfl,.tup [.int .u64 n,.b true],[],[],⟨?_,rfl⟩,by(exact zC)⟩;simp [dL,c_,← hn]
def BQ:Gc:=fun args s=>match args,s.g with
 | [.str x,.int .u64 m],[]=>(match s.lay [] [] [] with
   | some s'=>some ([ad .leq 0 m,ad .leq m 18446744073709551615],.tup [.int .u64 (dL x m),.b (c_ x m)],s')
   | none=>none)
 | _,_=>none
theorem Un:bX prog 63 BQ:=by
 intro args s bs l s' hg hb hfr;unfold BQ at hg;split at hg
 ·rename_i x m hgl;split at hg
  ·rename_i s1 hs1;simp only [a8,bn] at hg;obtain⟨rfl,rfl,rfl⟩:=hg;simp only [bv] at hb;obtain⟨k1,k2,_⟩:=hb;refine a0j.lay (bs:=[]) (args0:=[.str x,.int .u64 m]) (bs':=[]) (v0:=.tup [.int .u64 (dL x m),.b (c_ x m)]) hfr hs1 aC
    trivial fv ?_
    fun κ h1 h2=>⟨trivial,cY rfl⟩
   rw [hgl]; exact(R6 x m ⟨by have:=k1; rw [iq,cu] at this; exact this,by have:=k2; rw [iq,cu] at this; exact this⟩)
  ·cases hg
 ·cases hg
end
end Go.Lev
