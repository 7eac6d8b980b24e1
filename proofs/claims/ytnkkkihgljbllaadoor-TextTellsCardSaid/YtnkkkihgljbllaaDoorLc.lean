/- A local evaluator of runs, third part: open values, told states, contracts, rows. No condition. -/
import Derived.Test.YtnkkkihgljbllaaDoorLb
import Derived.Deep.Slices
import Derived.Lib.SmallJoins
import Derived.KernelRfl
import Derived.Deep.Fields
import Derived.OpenShut
import Derived.ChangeArms
import Derived.FnData
namespace Go.Lev
set_option linter.unusedSimpArgs false
set_option linter.unusedVariables false
section
open Go.RowKit
variable {P:Program}
theorem b4i {t:TypeId} {x v:LV} {f:Nat} (h:b2w P t x f=some v):a5s P t x f=some v:=by
 unfold b2w at h
 split at h
 ·rename_i e; unfold a5s; rw [e]; exact h
 ·rename_i e; unfold a5s; rw [e]; exact h
 ·exact h
theorem b6k {n:Int} (h:xnn n=true):n=.ofNat (a0c n):=by
 obtain⟨m,rfl,e⟩:=c9e (a4z.1 h)
 rw [e]
theorem b4h {t:TypeId} {x ix v:LV} {bs:List Bool} (h:b2v P t x ix=some (bs,v)) (hb:a4b bs):a8c P t x ix=some v:=by
 unfold b2v at h
 split at h
 all_goals first | (simp at h; done) | skip
 all_goals
  rename_i e
  split at h
  case h_2=>simp at h
  rename_i z hz
  simp only [Option.some.injEq,Prod.mk.injEq] at h
  obtain⟨rfl,rfl⟩:=h
  rw [a0g,a0g] at hb
  obtain⟨m,rfl,e2⟩:=c9e (a4z.1 hb.1)
  have h2:=hb.2.1
  simp only [a2a,a0a,b7a,e2] at h2
  unfold a8c
  rw [e]
  try simp only [hz,e2,xix,a1t,h2,cond_true]
  try simp only [hz,e2,xix,a1t,Nat.ble_eq_true_of_le h2,cond_true]
theorem c5h {s:List UInt8} {i:Nat} (h:i < s.length):b6t s i=some (s.getD i 0):=by
 rw [b6s,List.getElem?_eq_getElem h]
 simp [List.getD,List.getElem?_eq_getElem h]
theorem c0j {t:TypeId} {x ix v:LV} {bs:List Bool} (h:c9f P t x ix=some (bs,v)) (hb:a4b bs):b7u P t x ix=some v:=by
 unfold c9f at h
 split at h
 ·rename_i len elem cs k n e
  split at h
  case h_2=>simp at h
  rename_i z hz
  split at h
  case h_2=>simp at h
  rename_i bs' v' hp
  simp only [Option.some.injEq,Prod.mk.injEq] at h
  obtain⟨rfl,rfl⟩:=h
  rw [a0g,a0g] at hb
  have h1:=b6k hb.1
  have h2:=a2a.1 hb.2.1
  have h3:=a8i hp hb.2.2
  unfold b7u
  rw [e,h1]
  simp only [a0a] at h2
  simp only [hz,Nat.ble_eq_true_of_le h2,cond_true]
  exact h3
 ·rename_i s k n e
  simp only [Option.some.injEq,Prod.mk.injEq] at h
  obtain⟨rfl,rfl⟩:=h
  rw [a0g,a0g] at hb
  have h1:=b6k hb.1
  have h2:=a2a.1 hb.2.1
  simp only [a0a,a0z] at h2
  unfold b7u
  rw [e,h1]
  simp only [c5h (show a0c n < s.length by omega)]
  have:a0c (Int.ofNat (a0c n))=a0c n:=rfl
  simp only [a1i,this]
 ·simp at h
theorem a2t {d:Nat} {x:Option LV} {bs:List Bool} {n:Nat} (h:b1t d x=some (bs,n)) (hb:a4b bs):a3n d x=some n:=by
 unfold b1t at h
 split at h
 ·simp at h; obtain⟨rfl,rfl⟩:=h; rfl
 ·simp at h; obtain⟨rfl,rfl⟩:=h
  rw [a0g] at hb
  rw [b6k hb.1]; rfl
 ·simp at h
theorem c0g {t:TypeId} {x v:LV} {lo hi mx:Option LV} {bs:List Bool} (h:c8x P t x lo hi mx=some (bs,v)) (hb:a4b bs):b0u P t x lo hi mx=some v:=by
 unfold c8x at h
 split at h
 ·rename_i s e
  split at h
  case h_2=>simp at h
  rename_i p l q hh h1 h2
  simp only [Option.some.injEq,Prod.mk.injEq] at h
  obtain⟨rfl,rfl⟩:=h
  rw [a1k,a1k,a0g,a0g] at hb
  unfold b0u
  rw [e]
  simp only [a2t h1 hb.1,show a3n s.length hi=some hh from a2t h2 hb.2.1,a0v]
  have k1:=a2a.1 hb.2.2.1
  have k2:=a2a.1 hb.2.2.2.1
  simp only [a0z] at k2
  simp [Nat.ble_eq_true_of_le k1,Nat.ble_eq_true_of_le k2]
 ·rename_i elem b o len d e
  split at h
  case h_2=>simp at h
  rename_i p l q hh n h1 h2 hn
  unfold b0u
  rw [e]
  cases lo with
  | none =>
    simp only [Option.some.injEq,Prod.mk.injEq] at h
    obtain⟨rfl,rfl⟩:=h
    rw [a1k,a1k,a0g] at hb
    have k2:=a2a.1 hb.2.2.1
    have hl:=a2t h1 hb.1
    simp only [hl,a2t h2 hb.2.1,hn]
    simp only [a3n,Option.some.injEq] at hl; subst hl
    simp [Nat.ble_eq_true_of_le k2,Nat.ble_eq_true_of_le (Nat.zero_le hh),a0t,xix,c3g,a0a]
  | some lo =>
    simp only [Option.some.injEq,Prod.mk.injEq] at h
    obtain⟨rfl,rfl⟩:=h
    rw [a1k,a1k,a0g,a0g] at hb
    have k1:=a2a.1 hb.2.2.1
    have k2:=a2a.1 hb.2.2.2.1
    simp only [a2t h1 hb.1,a2t h2 hb.2.1,hn]
    simp [Nat.ble_eq_true_of_le k2,Nat.ble_eq_true_of_le k1,xix,c3g,a0a]
 ·rename_i elem b o len cap e
  split at h
  case h_2=>simp at h
  rename_i p l q hh n h1 h2 hn
  unfold b0u
  rw [e]
  cases lo with
  | none =>
    simp only [Option.some.injEq,Prod.mk.injEq] at h
    obtain⟨rfl,rfl⟩:=h
    rw [a1k,a1k,a0g] at hb
    have k2:=a2a.1 hb.2.2.1
    have hl:=a2t h1 hb.1
    simp only [hl,a2t h2 hb.2.1,hn]
    simp only [a3n,Option.some.injEq] at hl; subst hl
    have hm:∀ m:Nat,(bif Nat.beq m 0 then o else o+0 * n)=o:=fun m=>by cases Nat.beq m 0 <;> simp
    simp [a3n,Nat.ble_eq_true_of_le k2,Nat.ble_eq_true_of_le (Nat.zero_le hh),Nat.ble_eq_true_of_le (Nat.le_refl cap)]
  | some lo =>
    simp only [Option.some.injEq,Prod.mk.injEq] at h
    obtain⟨rfl,rfl⟩:=h
    rw [a1k,a1k,a0g,a0g,a0g] at hb
    have k0:=a2a.1 hb.2.2.1
    have k1:=a2a.1 hb.2.2.2.1
    have k2:=a2a.1 hb.2.2.2.2.1
    simp only [a0a] at k0
    simp only [a2t h1 hb.1,a2t h2 hb.2.1,hn]
    simp [a3n,a0t,show ¬ cap=l by omega,Nat.ble_eq_true_of_le k2,Nat.ble_eq_true_of_le k1,Nat.ble_eq_true_of_le (Nat.le_refl cap),xix,c3g]
 ·rename_i n elem b o e
  split at h
  case h_2=>simp at h
  rename_i hk
  simp only [Option.some.injEq,Prod.mk.injEq] at h
  obtain⟨rfl,rfl⟩:=h
  unfold b0u
  rw [e]
  simp [a3n,hk,a0t,Nat.ble_eq_true_of_le (Nat.zero_le n),Nat.ble_eq_true_of_le (Nat.le_refl n)]
 ·rename_i elem v0 e
  split at h
  case h_2=>simp at h
  rename_i p l n h1 hn
  simp only [Option.some.injEq,Prod.mk.injEq] at h
  obtain⟨rfl,rfl⟩:=h
  rw [a1k,a0g] at hb
  unfold b0u
  rw [e]
  simp only [a2t h1 hb.1,hn,show f1u v0 l=true from hb.2.1,cond_true]
  rfl
 ·split at h
  ·rename_i h1; simp at h; obtain⟨rfl,rfl⟩:=h; exact h1
  ·simp at h
theorem a4s {s:St} {size:Nat} {y:LV} {bs:List Bool} {cs:List LV} (h:a5w s size y=some (bs,cs)) (hb:a4b bs):a1j s size y=some cs:=by
 unfold a5w at h
 unfold a1j
 split at h
 ·simp at h; rw [← h.2]
 ·simp at h; rw [← h.2]
 all_goals first | (simp at h; done) | skip
 all_goals
  rename_i b o len c
  cases hl:s.look b with
  | none=>simp [hl] at h
  | some ds =>
    simp only [hl,Option.some.injEq,Prod.mk.injEq] at h ⊢
    obtain⟨rfl,rfl⟩:=h
    rw [a0g] at hb
    have h1:=a2a.1 hb.1
    simp only [a0a,a1t,xln] at h1
    exact b7z _ _ _ h1
theorem b5e:∀ {cs:List LV},d5f cs=true→a1c cs=some (b5f cs)
 | [],h=>rfl
 | c::cs,h=>by
   simp only [d5f,List.all_cons,Bool.and_eq_true] at h
   have ih:=b5e (cs:=cs) h.2
   cases c <;> simp [isI] at h
   rename_i k n
   obtain⟨rfl,_⟩:=h
   simp [a1c,ih,b5f,asI]
theorem b5b {s:St} {src dst:TypeId} {x v:LV} {bs:List Bool} (h:b5c P s src dst x=some (bs,v)) (hb:a4b bs):a3m P s src dst x=some v:=by
 unfold b5c at h
 split at h
 ·rename_i e1 e2; unfold a3m; rw [e1,e2]; simp at h; rw [← h.2]; rfl
 ·rename_i e1 e2; unfold a3m; rw [e1,e2]; simp at h; rw [← h.2]
 ·rename_i e b o l c e1 e2
  cases hu:c3c P e with
  | false=>simp [hu] at h
  | true =>
    simp only [hu,cond_true] at h
    cases hc:a5w s 1 (.sl b o l c) with
    | none=>simp [hc] at h
    | some p =>
      obtain⟨p,cs⟩:=p
      simp only [hc,Option.some.injEq,Prod.mk.injEq] at h
      obtain⟨rfl,rfl⟩:=h
      rw [a1k,a0g] at hb
      unfold a3m
      rw [e1,e2]
      simp only [hu,cond_true,a4s hc hb.1,b5e hb.2.1]
 ·rename_i e b o l c e1 e2
  cases hu:c3c P e with
  | false=>simp [hu] at h
  | true =>
    simp only [hu,cond_true] at h
    cases hc:a5w s 1 (.slo b o l c) with
    | none=>simp [hc] at h
    | some p =>
      obtain⟨p,cs⟩:=p
      simp only [hc,Option.some.injEq,Prod.mk.injEq] at h
      obtain⟨rfl,rfl⟩:=h
      rw [a1k,a0g] at hb
      unfold a3m
      rw [e1,e2]
      simp only [hu,cond_true,a4s hc hb.1,b5e hb.2.1]
 ·rename_i e e1 e2
  cases hu:c3c P e with
  | false=>simp [hu] at h
  | true =>
    simp only [hu,cond_true,Option.some.injEq,Prod.mk.injEq] at h
    obtain⟨rfl,rfl⟩:=h
    unfold a3m; rw [e1,e2]; simp [hu]
 ·rename_i e e1 e2
  cases hu:c3c P e with
  | false=>simp [hu] at h
  | true =>
    simp only [hu,cond_true,Option.some.injEq,Prod.mk.injEq] at h
    obtain⟨rfl,rfl⟩:=h
    unfold a3m; rw [e1,e2]; simp [hu]
 ·simp at h
theorem c5o:∀ {cs:List LV},c7r cs=true→a5x cs=some (cs.map asI)
 | [],h=>rfl
 | c::cs,h=>by
   simp only [c7r,List.all_cons,Bool.and_eq_true] at h
   have ih:=c5o (cs:=cs) h.2
   cases c <;> simp [isI] at h
   rename_i k n
   obtain⟨rfl,_⟩:=h
   simp [a5x,ih,asI]
theorem d6r {e:TypeId} (h:b6i P e=true):c3c P e=false:=by
 have:=b3l h
 unfold c3c
 rw [this]
theorem c3h {s:St} {src dst:TypeId} {x v:LV} {bs:List Bool} (h:d7d P s src dst x=some (bs,v)) (hb:a4b bs):a5m P s src dst x=some v:=by
 unfold d7d at h
 split at h
 ·rename_i e b o l c e1 e2
  cases hu:b6i P e with
  | false=>simp [hu] at h
  | true =>
    simp only [hu,cond_true] at h
    cases hc:a5w s 1 (.slo b o l c) with
    | none=>simp [hc] at h
    | some p =>
      obtain⟨p,cs⟩:=p
      simp only [hc,Option.some.injEq,Prod.mk.injEq] at h
      obtain⟨rfl,rfl⟩:=h
      rw [a1k,a0g] at hb
      have h0:a3m P s src dst (.slo b o l c)=none:=by
       unfold a3m
       rw [e1,e2]
       simp only [d6r hu,cond_false]
      unfold a5m
      rw [h0]
      unfold d1n
      rw [e1,e2]
      simp only [hu,cond_true,a4s hc hb.1,c5o hb.2.1]
      rfl
 ·cases h
theorem b0r {s:St} {src dst:TypeId} {x v:LV} {bs:List Bool} (h:b4o P s src dst x=some (bs,v)) (hb:a4b bs):a5m P s src dst x=some v:=by
 unfold b4o at h
 split at h
 ·rename_i p e
  simp at h; subst h
  unfold a5m
  rw [b5b e hb]
 ·exact c3h h hb
theorem c7q {ts:List TypeId} {x v:LV} (h:f7a P ts x=some v):d6n P ts x=some v:=by
 unfold f7a at h
 split at h
 ·split at h
  ·rename_i e; unfold d6n; simp only; rw [e]; exact h
  ·rename_i e; unfold d6n; simp only; rw [e]; exact h
  ·exact h
 ·simp at h
theorem a8j {mx:Bool}:∀ {ls:List LV} {x v:LV},a9n mx x ls=some v→a6z mx x ls=some v
 | [],x,v,h=>by cases x <;> simpa [a9n,a6z] using h
 | y::ls,x,v,h=>by
   cases x <;> try (simp [a9n] at h; done)
   cases y <;> try (simp [a9n] at h; done)
   simp only [a9n] at h
   have:=a8j h
   cases mx <;> simpa [a6z,xmn,xmx,f3n,f3l] using this
theorem c0e {s:St} {t:TypeId} {x:Value} {k:Nat} {bs:List Bool} {v:LV} (h:c8u P s t x k=some (bs,v)) (hb:a4b bs):c1g P s t x k=some v:=by
 unfold c8u at h
 unfold c1g
 split at h
 ·rename_i F n hF hn
  split at h
  ·rename_i bs' l hp
   simp only [Option.some.injEq,Prod.mk.injEq] at h
   obtain⟨rfl,rfl⟩:=h
   rw [a0g] at hb
   rw [hF,hn]
   simp only
   rw [show d5o F x k n=true from hb.1,cond_true]
   exact a8i hp hb.2
  ·cases h
 ·cases h
theorem b7b {ev:Operand→Option LV} {o:Op} {s:St} {bs:List Bool} {v:LV} (h:f6c P ev o s=some (bs,v)) (hb:a4b bs) (hL:a1a o=true∨∃ a b x,o=.convert a b x):b0t P ev o s=some v:=by
 unfold f6c at h
 split at h
 ·rename_i x; cases he:ev x <;> simp [he] at h; simp [b0t,he,h.2]
 ·rename_i x; cases he:ev x <;> simp [he] at h; simp [b0t,he,h.2]
 ·rename_i t a
  split at h
  ·rename_i he; simp only [b0t,he]; exact b5a h hb
  ·rename_i g o he
   simp only [b0t,he]
   split at h
   ·rename_i hg; simp at h; rw [← h.2]; exact hg
   ·simp at h
  ·rename_i x k he
   simp only [b0t,he]
   exact c0e h hb
  ·simp at h
 ·split at h
  ·rename_i h1 h2; simp only [b0t,h1,h2]; exact c7t h hb
  ·simp at h
 ·split at h
  ·rename_i h1
   split at h
   ·rename_i h2; simp at h; simp only [b0t,h1]; rw [← h.2]; exact c8v h2
   ·simp at h
  ·simp at h
 ·split at h
  ·rename_i h1; simp only [b0t,h1]; exact b0r h hb
  ·simp at h
 ·split at h
  ·rename_i h1 h2 h3 h4; simp only [b0t,h1,h2,h3,h4]; exact c0g h hb
  ·simp at h
 ·split at h
  ·rename_i h1
   split at h
   ·rename_i h2; simp at h; simp only [b0t,h1]; rw [← h.2]; exact b4i h2
   ·simp at h
  ·simp at h
 ·split at h
  ·rename_i h1 h2; simp only [b0t,h1,h2]; exact b4h h hb
  ·simp at h
 ·split at h
  ·rename_i h1 h2; simp only [b0t,h1,h2]; exact c0j h hb
  ·simp at h
 ·rename_i c
  split at h
  ·rename_i h1 h2
   simp only [b0t,h1,h2]
   split at h
   ·rename_i h3; simp at h; rw [← h.2]; exact c7q h3
   ·simp at h
  ·rename_i h1 h2
   simp only [b0t,h1,h2]
   split at h
   ·rename_i h3; simp at h; rw [← h.2]; exact a8j h3
   ·simp at h
  ·rename_i h1 h2
   simp only [b0t,h1,h2]
   split at h
   ·rename_i h3; simp at h; rw [← h.2]; exact a8j h3
   ·simp at h
  ·simp at h
 ·simp at h
 ·split at h
  ·rename_i h1; simp at h; rw [← h.2]; exact h1
  ·simp at h
end
section
open Go.RowKit
variable {P:Program}
theorem b8f {s:St} {ts:List TypeId} {x y:LV} {K:LV→St→Prop} (h:c3r P s ts x y K):∃ v s',b3k P s ts x y=some (v,s')∧K v s':=by
 unfold c3r at h
 unfold b3k
 split at h
 case h_2=>exact h.elim
 rename_i t u
 split at h
 case h_2=>exact h.elim
 rename_i elem du ht hu
 simp only [ht,hu]
 cases hd:c2a du with
 | true=>rw [hd] at h; exact h.elim
 | false =>
   rw [hd] at h
   simp only [cond_false] at h ⊢
   split at h
   case h_2=>exact h.elim
   rename_i es zero bytes n hes hz hb hn
   simp only [hes,hz,hb,hn]
   rw [a4g] at h
   obtain⟨hc,h⟩:=h
   simp only [hc,cond_true]
   split at h
   case h_2=>exact h.elim
   rename_i bs new hx
   rw [a3y] at h
   obtain⟨hbs,h⟩:=h
   simp only [a4s hx hbs]
   split at h
   ·rw [a4g] at h
    obtain⟨h1,h⟩:=h
    rw [a4g] at h
    obtain⟨h2,h⟩:=h
    have e1:(Nat.ble (n * bytes) 140737488355328 && Nat.ble n 140737488355328)=true:=by rw [show Nat.ble (n * bytes) 140737488355328=true from h1,show Nat.ble n 140737488355328=true from h2]; rfl
    simp only [e1,cond_true]
    split at h
    ·rename_i s' hs; simp only [hs]; exact⟨_,_,rfl,h⟩
    ·exact h.elim
   ·cases hzn:xz n with
    | true =>
      have e:Nat.beq n 0=true:=hzn
      simp only [hzn,cond_true] at h
      simp only [e,cond_true]; exact⟨_,_,rfl,h⟩
    | false =>
      have e:Nat.beq n 0=false:=hzn
      simp only [hzn,cond_false] at h
      rw [a4g] at h
      obtain⟨h1,h⟩:=h
      have e1:Nat.ble n 1000000=true:=h1
      simp only [e,cond_false,e1,cond_true]
      split at h
      ·rename_i s' hs; simp only [hs]; exact⟨_,_,rfl,h⟩
      ·exact h.elim
   ·rename_i b o len cap
    split at h
    case h_2=>exact h.elim
    rename_i cs op hb'
    simp only [hb']
    cases hcap:xle (a0a len n) cap with
    | true =>
      have e:Nat.ble (len+n) cap=true:=hcap
      simp only [hcap,cond_true] at h
      rw [a4g] at h
      obtain⟨h1,h⟩:=h
      have h1:=a2a.1 h1
      simp only [a0a,xix,xln] at h1
      simp only [e,cond_true,b4c cs (o+len * es) new h1]
      split at h
      ·rename_i s' hs
       have hs':s.put b (.cells (b7d cs (o+len * es) new) op)=some s':=hs
       simp only [hs']; exact⟨_,_,rfl,h⟩
      ·exact h.elim
    | false =>
      have e:Nat.ble (len+n) cap=false:=hcap
      simp only [hcap,cond_false] at h
      rw [a4g,a4g] at h
      obtain⟨h1,h2,h⟩:=h
      have e1:Nat.ble (len+n) 1000000=true:=h1
      have h2:=a2a.1 h2
      simp only [a0a,a1t,xln] at h2
      simp only [e,cond_false,e1,cond_true,b7z cs o (len * es) h2]
      split at h
      ·rename_i s' hs
       have hs':s.new (.cells (a3o cs o (len * es)++new) (some es))=some s':=hs
       simp only [hs']; exact⟨_,_,rfl,h⟩
      ·exact h.elim
   ·rename_i b o len d
    split at h
    case h_2=>exact h.elim
    rename_i cs es' hb'
    simp only [hb']
    rw [a4g,a3y] at h
    obtain⟨h0,h1,h⟩:=h
    have h1:=(show a4b _ from h1)
    rw [a0g,a0g,a0g] at h1
    obtain⟨k1,k2,k3,_⟩:=h1
    have e1:Nat.beq (d * es) o=true:=k1
    have e2:Nat.ble (len+n) 1000000=true:=k2
    have h2:=a2a.1 k3
    simp only [a0a,a1t,xln] at h2
    simp only [h0,e1,e2,Bool.and_self,cond_true,b7z cs o (len * es) h2]
    split at h
    ·rename_i s1 hs1
     simp only [hs1]
     split at h
     ·rename_i s' hs
      have hs':s1.new (.cells (a3o cs o (len * es)++new) (some es))=some s':=hs
      simp only [hs']; exact⟨_,_,rfl,h⟩
     ·exact h.elim
    ·exact h.elim
   ·exact h.elim
theorem c0f {s:St} {t:TypeId} {b o:Nat} {v:LV} {K:St→Prop} (h:c8w P s t b o v K):∃ s',b7q P s t b o v=some s'∧K s':=by
 unfold c8w at h
 unfold b7q
 split at h
 ·rename_i cs op vs n h1 h2 h3
  simp only [h1,h2,h3]
  rw [a4g,a4g] at h
  obtain⟨k1,k2,h⟩:=h
  have k2:=a2a.1 k2
  simp only [a0a,xln] at k2
  have hl:vs.length=n:=by simpa [a0t] using k1
  simp only [k1,cond_true,b4c cs o vs (by omega)]
  split at h
  ·rename_i s' hs; simp only [hs]; exact⟨_,rfl,h⟩
  ·exact h.elim
 ·exact h.elim
theorem c3l {s:St} {ts:List TypeId} {x y:LV} {K:LV→St→Prop} (h:d7g P s ts x y K):∃ v s',c8d P s ts x y=some (v,s')∧K v s':=by
 unfold d7g at h
 unfold c8d
 split at h
 case h_2=>exact h.elim
 rename_i t ts'
 split at h
 case h_2=>exact h.elim
 rename_i elem ht
 simp only [ht]
 split at h
 case h_2=>exact h.elim
 rename_i es dl sl hes hdl hsl
 simp only [hes,hdl,hsl]
 split at h
 case h_2=>exact h.elim
 rename_i y' hy
 have hy2:b7i y (Nat.min sl dl)=some y':=hy
 simp only [hy2]
 split at h
 case h_2=>exact h.elim
 rename_i bs new hx
 rw [a3y] at h
 obtain⟨hbs,h⟩:=h
 simp only [a4s hx hbs]
 split at h
 case h_2=>exact h.elim
 split at h
 case h_2=>exact h.elim
 rename_i cs op hcs
 simp only [hcs]
 rw [a4g] at h
 obtain⟨h1,h⟩:=h
 have h1':=a2a.1 h1
 simp only [a0a,xln] at h1'
 rw [b4c cs _ new h1']
 simp only []
 split at h
 case h_2=>exact h.elim
 rename_i s' hs
 simp only [hs]
 exact⟨_,_,rfl,h⟩
theorem c0h {s:St} {src dst:TypeId} {x:LV} {K:LV→St→Prop} (h:c9a P s src dst x K):∃ v s',a5m P s src dst x=none∧b7t P s src dst x=some (v,s')∧K v s':=by
 unfold c9a at h
 split at h
 ·rename_i d e t e1 e2
  cases hu:b6i P e with
  | false=>simp [hu] at h
  | true =>
    simp only [hu,cond_true] at h
    rw [a3y] at h
    obtain⟨hb,h⟩:=h
    have hb:=(show a4b _ from hb)
    rw [a0g] at hb
    have q1:Nat.ble t.length 1000000=true:=hb.1
    split at h
    ·rename_i s' hs
     refine⟨_,_,?_,?_,h⟩
     ·unfold a5m a3m d1n
      rw [e1,e2]
      cases d <;> rfl
     ·have h0:c1v P s src dst (.str t)=none:=by
       unfold c1v
       rw [e1,e2]
       simp only [d6r hu,Bool.false_and,cond_false]
      unfold b7t
      rw [h0]
      unfold c6g
      rw [e1,e2]
      simp only [hu,q1,Bool.and_self,cond_true]
      rw [show((b1z t).map fun n=>LV.int .i32 n)=f1g t from rfl,hs]
      rfl
    ·exact h.elim
 ·exact h.elim
theorem b4g {s:St} {t:TypeId} {l c:LV} {K:LV→St→Prop} (h:b2u P s t l c K):∃ v s',a5e P s t l c=some (v,s')∧K v s':=by
 unfold b2u at h
 split at h
 ·rename_i elem k n k' m hu
  split at h
  ·rename_i size zero bytes h1 h2 h3
   rw [a4g,a3y] at h
   obtain⟨h0,hb,h⟩:=h
   have hb:=(show a4b _ from hb)
   rw [a0g,a0g,a0g,a0g] at hb
   obtain⟨q1,q2,q3,q4,_⟩:=hb
   have e1:=b6k q1
   have e2:=b6k q2
   have q3:Nat.ble (a0c n) (a0c m)=true:=q3
   have q4:Nat.ble (a0c m) 100000=true:=q4
   simp only [Bool.and_eq_true] at h0
   unfold a5e
   rw [hu,e1,e2]
   simp only [h1,h2,h3,h0.1.1,h0.1.2,h0.2,q3,q4,Bool.and_self,cond_true]
   split at h
   ·rename_i s' hs
    have hs':s.new (.cells (rep (a0c m) zero) none)=some s':=hs
    simp only [hs']; exact⟨_,_,rfl,h⟩
   ·exact h.elim
  ·exact h.elim
 ·exact h.elim
theorem c9d {ev:Operand→Option LV} {o:Op} {s:St} {K:LN→St→Prop} (h:xop P ev o s K):∃ n s',lop P ev o s=some (n,s')∧K n s':=by
 unfold xop at h
 unfold lop
 cases hL:a1a o with
 | true =>
   simp only [hL] at h ⊢
   split at h
   ·rename_i c a b
    split at h
    ·rename_i q x y h1 h2 h3
     cases q with
     | true=>exact⟨_,_,by simp only [b0t,h1,h2],h⟩
     | false=>exact⟨_,_,by simp only [b0t,h1,h3],h⟩
    ·exact h.elim
   ·split at h
    ·rename_i bs v hv
     rw [a3y] at h
     exact⟨_,_,by rw [b7b hv h.1 (.inl hL)],h.2⟩
    ·exact h.elim
 | false =>
   simp only [hL] at h ⊢
   split at h
   ·split at h
    ·rename_i h1 h2
     obtain⟨s',k1,k2⟩:=c0f h
     exact⟨_,_,by simp only [h1,h2,k1],k2⟩
    ·exact h.elim
   ·split at h
    ·rename_i h1 h2
     obtain⟨v,s',k1,k2⟩:=b4g h
     exact⟨_,_,by simp only [h1,h2,k1],k2⟩
    ·exact h.elim
   ·split at h
    ·rename_i h1
     split at h
     ·rename_i h2
      rw [a3y] at h
      exact⟨_,_,by simp only [h1,b0r h2 h.1],h.2⟩
     ·obtain⟨v,s',k1,k2,k3⟩:=c0h h
      exact⟨_,_,by simp only [h1,k1,k2],k3⟩
    ·exact h.elim
   ·rename_i c
    split at h
    ·rename_i hc
     split at h
     ·rename_i h1
      obtain⟨v,s',k1,k2⟩:=b8f h
      exact⟨_,_,by simp only [c1t,h1,hc,k1],k2⟩
     ·exact h.elim
    ·rename_i hc
     split at h
     ·rename_i h1
      obtain⟨v,s',k1,k2⟩:=c3l h
      exact⟨_,_,by simp only [c1t,h1,hc,k1],k2⟩
     ·exact h.elim
    ·exact h.elim
    ·split at h
     ·rename_i h1; exact⟨_,_,h1,h⟩
     ·exact h.elim
   ·split at h
    ·rename_i h1
     split at h
     ·rename_i l pos hb
      simp only [hL,h1,hb]
      cases hc:xle (a0a pos 1) (a0z l) with
      | true =>
        rw [hc] at h
        have hc':Nat.ble (pos+1) l.length=true:=hc
        rw [hc']
        simp only [cond_true] at h ⊢
        split at h
        ·rename_i s' hs
         have hs':s.put _ (.iter l (pos+(Utf8.decode ⟨l.toArray⟩ pos).2))=some s':=hs
         simp only [hs']
         exact⟨_,_,rfl,h⟩
        ·exact h.elim
      | false =>
        rw [hc] at h
        have hc':Nat.ble (pos+1) l.length=false:=hc
        rw [hc']
        simp only [cond_false] at h ⊢
        exact⟨_,_,rfl,h⟩
     ·exact h.elim
    ·exact h.elim
   ·rename_i n1 n2 n3 n4 n5
    split at h
    ·rename_i n s' h1
     refine⟨n,s',?_,h⟩
     unfold lop at h1
     simp only [hL] at h1
     exact h1
    ·exact h.elim
def d2i (ops:Array Oper) (o:Oper):Option (Option Nat×Bool) :=
 match o.guard with
 | none=>none
 | some (j,want)=>match ops[j]? with
   | some g=>some (g.dst,want)
   | none=>some (none,want)
def f6d (call:Nat→List LV→St→(LV→St→Prop)→Prop) (P:Program) (tm:Tm) (o:Oper) (s:St) (K:LV→St→Prop):Prop :=
 xop P (b3o (a0q tm)) o.op s fun n s'=>match n with
  | .val v=>K v s'
  | .skip=>K .undef s'
  | .enter f args=>call f args s' K
def f6y (call:Nat→List LV→St→(LV→St→Prop)→Prop) (P:Program) (ops:Array Oper) (tm:Tm) (o:Oper) (s:St) (K:Tm→LV→St→Prop):Prop :=
 match d2i ops o with
 | none=>f6d call P tm o s (K tm)
 | some (none,_)=>K tm .undef s
 | some (some d,want)=>match a0q tm d with
   | .bool b=>cond b
     (match tm.set 16 d (.bool true) with | some tm'=>(match want with | true=>f6d call P tm' o s (K tm') | false=>K tm' .undef s) | none=>False)
     (match tm.set 16 d (.bool false) with | some tm'=>(match want with | false=>f6d call P tm' o s (K tm') | true=>K tm' .undef s) | none=>False)
   | .any=>False
   | .unb=>False
   | _=>K tm .undef s
def d7f (call:Nat→List LV→St→(LV→St→Prop)→Prop) (P:Program) (nt:Nat) (ops:Array Oper):List Oper→Tm→St→List Rc→(Tm→St→List Rc→Prop)→Prop
 | [],tm,s,rs,K=>K tm s rs
 | o::rest,tm,s,rs,K=>f6y call P ops tm o s fun tm v s' =>
   match b3e nt tm o.dst v with
   | some tm'=>d7f call P nt ops rest tm' s' (⟨tm,s,v⟩::rs) K
   | none=>False
theorem Tr.g9r {α : Type}:∀ (d:Nat) (t t':Tr α) (n:Nat) (b : α),Tr.set d t n b=some t'→t.get n=some b→t'=t
 | 0,t,t',n,b,h,hg=>by simp [Tr.set] at h
 | d+1,.leaf,t',n,b,h,hg=>by simp [Tr.g9l] at hg
 | d+1,.node l v r,t',n,b,h,hg=>by
   have e0:Nat.beq n 0=decide (n=0):=a0t n 0
   have e1:Nat.beq (Nat.mod n 2) 1=decide (n % 2=1):=by
    have:Nat.mod n 2=n % 2:=rfl
    rw [this]; exact a0t _ _
   have e2:Nat.div (Nat.sub n 1) 2=(n - 1) / 2:=rfl
   rw [Tr.g9j] at hg
   simp only [Tr.set,e0,e1,e2] at h
   by_cases h0:n=0
   ·simp [h0] at h hg; subst h; rw [hg]
   ·rw [if_neg h0] at hg
    simp only [h0,decide_false,cond_false] at h
    by_cases h1:n % 2=1
    ·rw [if_pos h1] at hg
     simp only [h1,decide_true,cond_true] at h
     cases hs:Tr.set d l ((n - 1) / 2) b with
     | none=>simp [hs] at h
     | some u=>simp [hs] at h; subst h; rw [Tr.g9r d l u _ b hs hg]
    ·rw [if_neg h1] at hg
     simp only [h1,decide_false,cond_false] at h
     cases hs:Tr.set d r ((n - 1) / 2) b with
     | none=>simp [hs] at h
     | some u=>simp [hs] at h; subst h; rw [Tr.g9r d r u _ b hs hg]
theorem b7f {tm:Tm} {d:Nat} {v:LV} (h:a0q tm d=v) (hv:v≠.undef):tm.get d=some v:=by
 unfold a0q at h
 cases hg:tm.get d with
 | none=>rw [hg] at h; exact absurd h.symm hv
 | some u=>rw [hg] at h; simpa using h
def d3k (xcall:Nat→List LV→St→(LV→St→Prop)→Prop) (call:Nat→List LV→St→Option (LV×St)):Prop :=
 ∀ f args s K,xcall f args s K→∃ v s',call f args s=some (v,s')∧K v s'
theorem b2t {xcall:Nat→List LV→St→(LV→St→Prop)→Prop} {call:Nat→List LV→St→Option (LV×St)} (hc:d3k xcall call) {tm:Tm} {o:Oper} {s:St} {K:LV→St→Prop} (h:f6d xcall P tm o s K) :
  ∃ v s',(match lop P (b3o (a0q tm)) o.op s with
  | some (.val v,s')=>some (v,s')
  | some (.skip,s')=>some (.undef,s')
  | some (.enter f args,s')=>call f args s'
  | none=>none)=some (v,s')∧K v s':=by
 obtain⟨n,s',h1,h2⟩:=c9d h
 rw [h1]
 cases n with
 | val v=>exact⟨v,s',rfl,h2⟩
 | skip=>exact⟨_,s',rfl,h2⟩
 | enter f args =>
   obtain⟨v,s2,k1,k2⟩:=hc f args s' K h2
   exact⟨v,s2,k1,k2⟩
theorem c7o {xcall:Nat→List LV→St→(LV→St→Prop)→Prop} {call:Nat→List LV→St→Option (LV×St)} (hc:d3k xcall call) {ops:Array Oper} {tm:Tm} {o:Oper} {s:St} {K:Tm→LV→St→Prop} (h:f6y xcall P ops tm o s K) :
  ∃ v s',a3p call P ops (a0q tm) o s=some (v,s')∧K tm v s':=by
 unfold f6y d2i at h
 unfold a3p a4p a5k
 cases hg:o.guard with
 | none =>
   simp only [hg] at h ⊢
   exact b2t hc h
 | some jw =>
   obtain⟨j,want⟩:=jw
   simp only [hg] at h ⊢
   cases hj:ops[j]? with
   | none=>simp only [hj] at h ⊢; exact⟨_,_,rfl,h⟩
   | some g =>
     simp only [hj] at h ⊢
     cases hd:g.dst with
     | none=>simp only [hd] at h ⊢; exact⟨_,_,rfl,h⟩
     | some d =>
       simp only [hd] at h ⊢
       split at h
       ·rename_i b hb
        simp only [hb]
        cases b with
        | true =>
          simp only [cond_true] at h
          split at h
          ·rename_i tm' ht
           have:=Tr.g9r _ _ _ _ _ ht (b7f hb (by simp [LV.undef]))
           subst this
           cases want with
           | true=>exact b2t hc h
           | false=>exact⟨_,_,rfl,h⟩
          ·exact h.elim
        | false =>
          simp only [cond_false] at h
          split at h
          ·rename_i tm' ht
           have:=Tr.g9r _ _ _ _ _ ht (b7f hb (by simp [LV.undef]))
           subst this
           cases want with
           | false=>exact b2t hc h
           | true=>exact⟨_,_,rfl,h⟩
          ·exact h.elim
       ·exact h.elim
       ·exact h.elim
       ·rename_i n1 n2 n3
        split
        ·rename_i e; first | (cases e; done) | (split at e <;> simp_all)
        ·split
         ·exact⟨_,_,rfl,h⟩
         ·rename_i e; first | (cases e; done) | (split at e <;> simp_all)
theorem a7v {xcall:Nat→List LV→St→(LV→St→Prop)→Prop} {call:Nat→List LV→St→Option (LV×St)} (hc:d3k xcall call) {nt:Nat} {ops:Array Oper}:∀ {l:List Oper} {tm:Tm} {s:St} {rs:List Rc} {K:Tm→St→List Rc→Prop},d7f xcall P nt ops l tm s rs K →
  ∃ tm' s' rs',b9z call P nt ops l tm s rs=some (tm',s',rs')∧K tm' s' rs'
 | [],tm,s,rs,K,h=>⟨tm,s,rs,rfl,h⟩
 | o::l,tm,s,rs,K,h=>by
   simp only [d7f] at h
   obtain⟨v,s',h1,h2⟩:=c7o hc h
   simp only [b9z,h1]
   split at h2
   ·rename_i tm' ht
    simp only [ht]
    exact a7v hc h2
   ·exact h2.elim
end
section
open Go.RowKit
noncomputable section
variable {P:Program}
mutual
def b1s:LV→LV→List Bool
 | .bool a,.bool b=>[xbq a b]
 | .int j a,.int k b=>[decide (j=k),xcm .eql a b]
 | .str a,.str b=>[a3h .eql a b]
 | .nilp,.nilp=>[]
 | .ptr a b,.ptr c d=>[Nat.beq a c,xeq b d]
 | .gptr a b,.gptr c d=>[Nat.beq a c,xeq b d]
 | .nils,.nils=>[]
 | .sle,.sle=>[]
 | .sl a b c d,.sl a' b' c' d'=>[Nat.beq a a',xeq b b',xeq c c',xeq d d']
 | .slo a b c d,.slo a' b' c' d'=>[Nat.beq a a',xeq b b',xeq c c',xeq d d']
 | .nilFunc,.nilFunc=>[]
 | .nilIface,.nilIface=>[]
 | .iface t a,.iface u b=>Nat.beq t u::b1s a b
 | .agg a,.agg b=>c3k a b
 | .tup a,.tup b=>c3k a b
 | .val a,.val b=>[g1u a b]
 | _,_=>[false]
def c3k:List LV→List LV→List Bool
 | [],[]=>[]
 | a::as,b::bs=>b1s a b++c3k as bs
 | _,_=>[false]
end
mutual
theorem b2x:∀ {a b:LV},a4b (b1s a b)→LV.eqb a b=true
 | .bool a,b,h=>by cases b <;> simp [b1s,a4b] at h; simpa [LV.eqb,xbq] using h
 | .int j a,b,h=>by cases b <;> simp [b1s,a4b] at h; simpa [LV.eqb,xcm,d3p] using h
 | .str a,b,h=>by cases b <;> simp [b1s,a4b] at h; simpa [LV.eqb,a3h,c4o] using h
 | .nilp,b,h=>by cases b <;> simp [b1s,a4b] at h; rfl
 | .ptr a c,b,h=>by cases b <;> simp [b1s,a4b] at h; simpa [LV.eqb,xeq] using h
 | .gptr a c,b,h=>by cases b <;> simp [b1s,a4b] at h; simpa [LV.eqb,xeq] using h
 | .nils,b,h=>by cases b <;> simp [b1s,a4b] at h; rfl
 | .sle,b,h=>by cases b <;> simp [b1s,a4b] at h; rfl
 | .any,b,h=>by cases b <;> simp [b1s,a4b] at h
 | .unb,b,h=>by cases b <;> simp [b1s,a4b] at h
 | .val _,b,h=>by cases b <;> simp [b1s,a4b] at h; simpa [LV.eqb,g1u] using h
 | .sln _,b,h=>by cases b <;> simp [b1s,a4b] at h
 | .vp _ _,b,h=>by cases b <;> simp [b1s,a4b] at h
 | .fact _,b,h=>by cases b <;> simp [b1s,a4b] at h
 | .sl _ _ _ _,b,h=>by cases b <;> simp [b1s,a4b] at h; simpa [LV.eqb,xeq,and_assoc] using h
 | .slo _ _ _ _,b,h=>by cases b <;> simp [b1s,a4b] at h; simpa [LV.eqb,xeq,and_assoc] using h
 | .fn _ _,b,h=>by cases b <;> simp [b1s,a4b] at h
 | .nilFunc,b,h=>by cases b <;> simp [b1s,a4b] at h; rfl
 | .nilIface,b,h=>by cases b <;> simp [b1s,a4b] at h; rfl
 | .iface t a,.iface u b,h=>by
   simp only [b1s,a0g] at h
   simp only [LV.eqb,h.1,b2x h.2,Bool.and_self]
 | .agg a,.agg b,h=>by simp only [b1s] at h; simp only [LV.eqb]; exact b0z h
 | .tup a,.tup b,h=>by simp only [b1s] at h; simp only [LV.eqb]; exact b0z h
 | .iface _ _,.bool _,h | .iface _ _,.int _ _,h | .iface _ _,.str _,h | .iface _ _,.nilp,h | .iface _ _,.ptr _ _,h | .iface _ _,.gptr _ _,h | .iface _ _,.nils,h | .iface _ _,.sle,h | .iface _ _,.any,h | .iface _ _,.unb,h | .iface _ _,.val _,h | .iface _ _,.sln _,h | .iface _ _,.vp _ _,h | .iface _ _,.fact _,h | .iface _ _,.sl _ _ _ _,h | .iface _ _,.slo _ _ _ _,h | .iface _ _,.fn _ _,h | .iface _ _,.nilFunc,h | .iface _ _,.nilIface,h | .iface _ _,.agg _,h | .iface _ _,.tup _,h=>by simp [b1s,a4b] at h
 | .agg _,.bool _,h | .agg _,.int _ _,h | .agg _,.str _,h | .agg _,.nilp,h | .agg _,.ptr _ _,h | .agg _,.gptr _ _,h | .agg _,.nils,h | .agg _,.sle,h | .agg _,.any,h | .agg _,.unb,h | .agg _,.val _,h | .agg _,.sln _,h | .agg _,.vp _ _,h | .agg _,.fact _,h | .agg _,.sl _ _ _ _,h | .agg _,.slo _ _ _ _,h | .agg _,.fn _ _,h | .agg _,.nilFunc,h | .agg _,.nilIface,h | .agg _,.iface _ _,h | .agg _,.tup _,h=>by simp [b1s,a4b] at h
 | .tup _,.bool _,h | .tup _,.int _ _,h | .tup _,.str _,h | .tup _,.nilp,h | .tup _,.ptr _ _,h | .tup _,.gptr _ _,h | .tup _,.nils,h | .tup _,.sle,h | .tup _,.any,h | .tup _,.unb,h | .tup _,.val _,h | .tup _,.sln _,h | .tup _,.vp _ _,h | .tup _,.fact _,h | .tup _,.sl _ _ _ _,h | .tup _,.slo _ _ _ _,h | .tup _,.fn _ _,h | .tup _,.nilFunc,h | .tup _,.nilIface,h | .tup _,.iface _ _,h | .tup _,.agg _,h=>by simp [b1s,a4b] at h
theorem b0z:∀ {a b:List LV},a4b (c3k a b)→a2x a b=true
 | [],[],h=>rfl
 | a::as,b::bs,h=>by
   simp only [c3k,a1k] at h
   simp only [a2x,b2x h.1,b0z h.2,Bool.and_self]
 | [],_::_,h=>by simp [c3k,a4b] at h
 | _::_,[],h=>by simp [c3k,a4b] at h
end
def b0a (P:Program) (ops:Array Oper) (o:Oper) (tm:Nat→LV) (v:LV) (s:St):List Bool :=
 match a5k ops tm o with
 | false=>[]
 | true=>match f6c P (b3o tm) o.op s with
   | some (bs,u)=>bs++b1s u v
   | none=>[false]
theorem a5v {ops:Array Oper} {o:Oper} {tm:Nat→LV} {v:LV} {s:St} (hL:a1a o.op=true) (h:a4b (b0a P ops o tm v s)):a3a P ops o tm v s=true:=by
 unfold b0a at h
 unfold a3a
 split at h
 ·rename_i e; rw [e]
 ·rename_i e
  rw [e]
  split at h
  ·rename_i bs u hv
   rw [a1k] at h
   simp only [b7b hv h.1 (.inl hL)]
   exact b2x h.2
  ·simp [a4b] at h
def b0y (P:Program) (ops:Array Oper) (b:Array Nat) (o:Oper) (k:Nat) (tm:Nat→LV) (v:LV):Nat→List Oper→List St→List Bool
 | j,h::hs,s::s'::ss =>
   cond (a1a h.op || (b.getD j 0).testBit k || (b.getD k 0).testBit j) (b0y P ops b o k tm v (j+1) hs (s'::ss))
    (b0a P ops o tm v s++(b0a P ops o tm v s'++b0y P ops b o k tm v (j+1) hs (s'::ss)))
 | _,[],_=>[]
 | _,_,_=>[false]
theorem a8k {ops:Array Oper} {b:Array Nat} {o:Oper} {k:Nat} {tm:Nat→LV} {v:LV} (hL:a1a o.op=true):∀ {hs:List Oper} {j:Nat} {ss:List St},a4b (b0y P ops b o k tm v j hs ss)→a9v P ops b o k tm v j hs ss=true
 | [],j,ss,h=>by cases ss <;> simp [a9v]
 | x::hs,j,[],h=>by simp [b0y,a4b] at h
 | x::hs,j,[_],h=>by simp [b0y,a4b] at h
 | x::hs,j,s::s'::ss,h=>by
   simp only [b0y] at h
   simp only [a9v]
   cases hc:(a1a x.op || (b.getD j 0).testBit k || (b.getD k 0).testBit j) with
   | true =>
     simp only [hc,cond_true] at h
     simp only [Bool.true_or,Bool.true_and]
     exact a8k hL h
   | false =>
     simp only [hc,cond_false,a1k] at h
     simp only [Bool.false_or,a5v hL h.1,a5v hL h.2.1,Bool.and_self,Bool.true_and]
     exact a8k hL h.2.2
def c3j (P:Program) (ops:Array Oper) (b:Array Nat) (ss:List St):Nat→List Oper→List Rc→List Bool
 | k,o::rest,r::rs=>cond (a5n o.op) (b0y P ops b o k (a0q r.tm) r.v 0 ops.toList ss++c3j P ops b ss (k+1) rest rs) (c3j P ops b ss (k+1) rest rs)
 | _,[],[]=>[]
 | _,_,_=>[false]
theorem b4e {o:Op} (h:a5n o=true):a1a o=true:=by cases o <;> simp [a5n] at h <;> rfl
theorem b0x {ops:Array Oper} {b:Array Nat} {ss:List St}:∀ {l:List Oper} {k:Nat} {rs:List Rc},a4b (c3j P ops b ss k l rs)→b3w P ops b ss k l rs=true
 | [],k,[],h=>rfl
 | [],k,_::_,h=>by simp [c3j,a4b] at h
 | _::_,k,[],h=>by simp [c3j,a4b] at h
 | o::l,k,r::rs,h=>by
   simp only [c3j] at h
   simp only [b3w]
   cases hl:a5n o.op with
   | true =>
     simp only [hl,cond_true,a1k] at h
     simp only [Bool.not_true,Bool.false_or,a8k (b4e hl) h.1,Bool.true_and]
     exact b0x h.2
   | false =>
     simp only [hl,cond_false] at h
     simp only [Bool.not_false,Bool.true_or,Bool.true_and]
     exact b0x h
def a8l (P:Program) (ops:Array Oper) (b:Array Nat) (o:Oper) (k:Nat) (tm:Nat→LV) (v:LV):List (Oper×Nat)→List St→List Bool
 | h::hs,s::s'::ss =>
   cond (a1a h.1.op || a4a b h.2 k || a4a b k h.2) (a8l P ops b o k tm v hs (s'::ss))
    (b0a P ops o tm v s++(b0a P ops o tm v s'++a8l P ops b o k tm v hs (s'::ss)))
 | [],_=>[]
 | _,_=>[false]
theorem a7p {ops:Array Oper} {b:Array Nat} {o:Oper} {k:Nat} {tm:Nat→LV} {v:LV} (hL:a1a o.op=true):∀ {hs:List (Oper×Nat)} {ss:List St},a4b (a8l P ops b o k tm v hs ss)→a7k P ops b o k tm v hs ss=true
 | [],ss,h=>by cases ss <;> simp [a7k]
 | x::hs,[],h=>by simp [a8l,a4b] at h
 | x::hs,[_],h=>by simp [a8l,a4b] at h
 | x::hs,s::s'::ss,h=>by
   simp only [a8l] at h
   simp only [a7k]
   cases hc:(a1a x.1.op || a4a b x.2 k || a4a b k x.2) with
   | true =>
     simp only [hc,cond_true] at h
     simp only [Bool.true_or,Bool.true_and]
     exact a7p hL h
   | false =>
     simp only [hc,cond_false,a1k] at h
     simp only [Bool.false_or,a5v hL h.1,a5v hL h.2.1,Bool.and_self,Bool.true_and]
     exact a7p hL h.2.2
def b3r (P:Program) (ops:Array Oper) (b:Array Nat) (W:List (Oper×Nat)) (ss:List St):List (Oper×Nat)→List Rc→List Bool
 | u::rest,r::rs=>cond (a5n u.1.op) (a8l P ops b u.1 u.2 (a0q r.tm) r.v W ss++b3r P ops b W ss rest rs) (b3r P ops b W ss rest rs)
 | [],[]=>[]
 | _,_=>[false]
theorem a7i {ops:Array Oper} {b:Array Nat} {W:List (Oper×Nat)} {ss:List St}:∀ {l:List (Oper×Nat)} {rs:List Rc},a4b (b3r P ops b W ss l rs)→a8o P ops b W ss l rs=true
 | [],[],h=>rfl
 | [],_::_,h=>by simp [b3r,a4b] at h
 | _::_,[],h=>by simp [b3r,a4b] at h
 | o::l,r::rs,h=>by
   simp only [b3r] at h
   simp only [a8o]
   cases hl:a5n o.1.op with
   | true =>
     simp only [hl,cond_true,a1k] at h
     simp only [Bool.not_true,Bool.false_or,a7p (b4e hl) h.1,Bool.true_and]
     exact a7i h.2
   | false =>
     simp only [hl,cond_false] at h
     simp only [Bool.not_false,Bool.true_or,Bool.true_and]
     exact a7i h
def c5n (call:Nat→List LV→St→(LV→St→Prop)→Prop) (P:Program) (nt:Nat) (ops:Array Oper) (tm:Tm) (s:St) (K:Tm→St→Prop):Prop :=
 match a6g (CheckFast.beforeF ops) ops.toList.zipIdx ops.toList.zipIdx with
 | none=>False
 | some (A0,x,B0)=>match a7j (CheckFast.beforeF ops) x.2 B0 with
   | (B1,B2) =>
     cond (P.follows .mixedOrders && b2m ops && Region.noSelect ops && a8y x.1.op && x.1.guard.isNone && x.1.dst.isSome && a8q ops (CheckFast.beforeF ops) x.2 ((A0++B1)++x::B2) && b6n (CheckFast.beforeF ops) x.2 (A0++B1) B2)
      (d7f call P nt ops (((A0++B1)++x::B2).map (·.1)) tm s [] fun tm' s' rs =>
       c3e (b3r P ops (CheckFast.beforeF ops) ((A0++B1)++x::B2) ((s'::rs.map (·.s)).reverse) ((A0++B1)++x::B2) rs.reverse) (K tm' s')) False
def c3i (call:Nat→List LV→St→(LV→St→Prop)→Prop) (P:Program) (nt:Nat) (ops:Array Oper) (draw:Bool) (tm:Tm) (s:St) (K:Tm→St→Prop):Prop :=
 match draw with
 | false=>d7f call P nt ops ops.toList tm s [] fun tm' s' _=>K tm' s'
 | true=>cond (P.follows .mixedOrders && b3g ops)
   (d7f call P nt ops ops.toList tm s [] fun tm' s' rs=>c3e (c3j P ops (Go.CheckFast.beforeF ops) ((s'::rs.map (·.s)).reverse) 0 ops.toList rs.reverse) (K tm' s'))
   (c5n call P nt ops tm s K)
theorem b8d {xcall:Nat→List LV→St→(LV→St→Prop)→Prop} {call:Nat→List LV→St→Option (LV×St)} (hc:d3k xcall call) {nt:Nat} {ops:Array Oper} {d:Bool} {tm:Tm} {s:St} {K:Tm→St→Prop} (h:c3i xcall P nt ops d tm s K) :
  ∃ tm' s',b3i call P nt ops d tm s=some (tm',s')∧K tm' s':=by
 unfold c3i at h
 unfold b3i
 cases d with
 | false =>
   simp only at h ⊢
   obtain⟨tm',s',rs,h1,h2⟩:=a7v hc h
   exact⟨tm',s',by simp only [h1],h2⟩
 | true =>
   simp only at h ⊢
   cases ho:(P.follows .mixedOrders && b3g ops) with
   | true =>
     simp only [ho,cond_true] at h ⊢
     obtain⟨tm',s',rs,h1,h2⟩:=a7v hc h
     rw [a3y] at h2
     exact⟨tm',s',by simp only [h1,b0x h2.1,cond_true],h2.2⟩
   | false =>
     simp only [ho,cond_false] at h ⊢
     unfold c5n at h
     unfold b2l
     split at h
     ·exact h.elim
     ·rename_i A0 x B0 hf
      split at h
      rename_i B1 B2 hs
      rw [a4g] at h
      obtain⟨hk,h⟩:=h
      obtain⟨tm',s',rs,h1,h2⟩:=a7v hc h
      rw [a3y] at h2
      refine⟨tm',s',?_,h2.2⟩
      simp only [hf,hs,h1,hk,a7i h2.1,Bool.and_self,cond_true]
abbrev Cx:=Nat→Option (List LV→St→Option (List Bool×LV×St))
def f0z:List Bool→Bool
 | []=>true
 | b::bs=>b && f0z bs
theorem b9w:∀ {bs:List Bool},f0z bs=true↔a4b bs
 | []=>by simp [f0z,a4b]
 | b::bs=>by simp [f0z,a0g,b9w]
def a2z (cx:Cx):Ctr:=fun f=>match cx f with
 | some g=>some fun args s=>match g args s with
   | some (bs,v,s')=>(match f0z bs with | true=>some (v,s') | false=>none)
   | none=>none
 | none=>none
def a7h (P:Program) (tm:Nat→LV) (s:St):List ResultVar→Option (List Bool×List LV)
 | []=>some ([],[])
 | .tmp t::rest=>(match a7h P tm s rest with | some (bs,vs)=>some (bs,tm t::vs) | none=>none)
 | .cell a t::rest=>(match tm a,a7h P tm s rest with
   | .ptr b o,some (bs,vs)=>(match d3t P s t b o with | some (cs,v)=>some (cs++bs,v::vs) | none=>none)
   | _,_=>none)
theorem a5u {tm:Nat→LV} {s:St}:∀ {l:List ResultVar} {bs:List Bool} {vs:List LV},a7h P tm s l=some (bs,vs)→a4b bs→a2f P tm s l=some vs
 | [],bs,vs,h,hb=>by simp [a7h] at h; simp [a2f,h.2]
 | .tmp t::l,bs,vs,h,hb=>by
   simp only [a7h] at h
   cases hr:a7h P tm s l with
   | none=>simp [hr] at h
   | some p =>
     obtain⟨cs,us⟩:=p
     simp only [hr,Option.some.injEq,Prod.mk.injEq] at h
     obtain⟨rfl,rfl⟩:=h
     simp only [a2f,a5u hr hb]
 | .cell a t::l,bs,vs,h,hb=>by
   simp only [a7h] at h
   split at h
   ·rename_i b o cs us ha hr
    split at h
    ·rename_i ds v hv
     simp only [Option.some.injEq,Prod.mk.injEq] at h
     obtain⟨rfl,rfl⟩:=h
     rw [a1k] at hb
     simp only [a2f,ha,a5u hr hb.2,b5a hv hb.1]
    ·simp at h
   ·simp at h
mutual
def a1h (P:Program) (cx:Cx):Nat→Nat→Code→Tm→St→(LX→Tm→St→Prop)→Prop
 | 0,_,_,_,_,_=>False
 | n+1,nt,c,tm,s,K =>
   match c with
   | .skip=>K .normal tm s
   | .label _=>K .normal tm s
   | .region _ ops d=>c3i (a4w P cx n) P nt ops d tm s fun tm' s'=>K .normal tm' s'
   | .seq a b=>a1h P cx n nt a tm s fun x tm' s'=>match x with
     | .normal=>a1h P cx n nt b tm' s' K
     | x=>K x tm' s'
   | .cond x a b=>(match b3o (a0q tm) x with
     | some (.bool q)=>cond q (a1h P cx n nt a tm s K) (a1h P cx n nt b tm s K)
     | _=>False)
   | .block id b=>a1h P cx n nt b tm s fun x tm' s'=>match x with
     | .exit k=>cond (Nat.beq k id) (K .normal tm' s') (K (.exit k) tm' s')
     | x=>K x tm' s'
   | .loop b=>a1h P cx n nt b tm s fun x tm' s'=>match x with
     | .normal=>a1h P cx n nt (.loop b) tm' s' K
     | x=>K x tm' s'
   | .exit id=>K (.exit id) tm s
   | .ret=>K .ret tm s
   | _=>False
def a4w (P:Program) (cx:Cx):Nat→Nat→List LV→St→(LV→St→Prop)→Prop
 | 0,_,_,_,_=>False
 | n+1,f,args,s,K =>
   match cx f with
   | some g=>(match g args s with | some (bs,v,s')=>c3e bs (K v s') | none=>False)
   | none =>
   match P.funcs[f]? with
   | none=>False
   | some fn=>match fn.body,a4q args 0 .leaf with
     | some c,some tm=>cond (Nat.ble args.length fn.ntmps) (a1h P cx n fn.ntmps c tm s fun x tm' s'=>match x with
       | .exit _=>False
       | _=>match a7h P (a0q tm') s' fn.results.toList with | some (bs,vs)=>c3e bs (K (a4l vs) s') | none=>False) False
     | _,_=>False
end
theorem c9i {cx:Cx}:∀ n,(∀ nt c tm s K,a1h P cx n nt c tm s K→∃ x tm' s',a3f P (a2z cx) n nt c tm s=some (x,tm',s')∧K x tm' s')∧d3k (a4w P cx n) (d1q P (a2z cx) n):=by
 intro n
 induction n with
 | zero=>exact⟨fun nt c tm s K h=>by simp [a1h] at h,fun f args s K h=>by simp [a4w] at h⟩
 | succ n ih =>
   obtain⟨ihc,ihf⟩:=ih
   constructor
   ·intro nt c tm s K h
    cases c with
    | skip=>exact⟨_,_,_,rfl,by simpa [a1h] using h⟩
    | label l=>exact⟨_,_,_,rfl,by simpa [a1h] using h⟩
    | exit id=>exact⟨_,_,_,rfl,by simpa [a1h] using h⟩
    | ret=>exact⟨_,_,_,rfl,by simpa [a1h] using h⟩
    | region id ops d =>
      simp only [a1h] at h
      obtain⟨tm',s',h1,h2⟩:=b8d ihf h
      exact⟨_,_,_,by simp only [a3f,h1],h2⟩
    | seq a b =>
      simp only [a1h] at h
      obtain⟨x,tm',s',h1,h2⟩:=ihc _ _ _ _ _ h
      cases x with
      | normal =>
        obtain⟨y,tm2,s2,k1,k2⟩:=ihc _ _ _ _ _ h2
        exact⟨y,tm2,s2,by simp only [a3f,h1]; exact k1,k2⟩
      | exit id=>exact⟨_,_,_,by simp only [a3f,h1],h2⟩
      | ret=>exact⟨_,_,_,by simp only [a3f,h1],h2⟩
    | cond o a b =>
      simp only [a1h] at h
      split at h
      ·rename_i q he
       cases q with
       | true =>
         obtain⟨x,tm',s',h1,h2⟩:=ihc _ _ _ _ _ h
         exact⟨x,tm',s',by simp only [a3f,he]; exact h1,h2⟩
       | false =>
         obtain⟨x,tm',s',h1,h2⟩:=ihc _ _ _ _ _ h
         exact⟨x,tm',s',by simp only [a3f,he]; exact h1,h2⟩
      ·exact h.elim
    | block id b =>
      simp only [a1h] at h
      obtain⟨x,tm',s',h1,h2⟩:=ihc _ _ _ _ _ h
      cases x with
      | normal=>exact⟨_,_,_,by simp only [a3f,h1],h2⟩
      | ret=>exact⟨_,_,_,by simp only [a3f,h1],h2⟩
      | exit k =>
        simp only at h2
        cases hk:Nat.beq k id with
        | true=>rw [hk] at h2; exact⟨_,_,_,by simp only [a3f,h1,hk,cond_true],h2⟩
        | false=>rw [hk] at h2; exact⟨_,_,_,by simp only [a3f,h1,hk,cond_false],h2⟩
    | loop b =>
      simp only [a1h] at h
      obtain⟨x,tm',s',h1,h2⟩:=ihc _ _ _ _ _ h
      cases x with
      | normal =>
        obtain⟨y,tm2,s2,k1,k2⟩:=ihc _ _ _ _ _ h2
        exact⟨y,tm2,s2,by simp only [a3f,h1]; exact k1,k2⟩
      | exit id=>exact⟨_,_,_,by simp only [a3f,h1],h2⟩
      | ret=>exact⟨_,_,_,by simp only [a3f,h1],h2⟩
    | rangeFunc=>simp [a1h] at h
    | scope=>simp [a1h] at h
    | goto=>simp [a1h] at h
    | refuse=>simp [a1h] at h
   ·intro f args s K h
    simp only [a4w] at h
    simp only [d1q,a2z]
    cases hx:cx f with
    | some g =>
      simp only [hx] at h ⊢
      split at h
      ·rename_i bs v s' hg
       rw [a3y] at h
       exact⟨v,s',by simp only [hg,b9w.2 h.1],h.2⟩
      ·exact h.elim
    | none =>
      simp only [hx] at h ⊢
      cases hf:P.funcs[f]? with
      | none=>simp [hf] at h
      | some fn =>
        simp only [hf] at h ⊢
        split at h
        ·rename_i c tm hb ht
         simp only [hb,ht]
         rw [a4g] at h
         obtain⟨hle,h⟩:=h
         simp only [hle,cond_true]
         obtain⟨x,tm',s',h1,h2⟩:=ihc _ _ _ _ _ h
         cases x with
         | exit id=>exact h2.elim
         | normal =>
           simp only at h2
           split at h2
           ·rename_i bs vs hr
            rw [a3y] at h2
            exact⟨_,_,by simp only [h1]; simp only [a5u hr h2.1],h2.2⟩
           ·exact h2.elim
         | ret =>
           simp only at h2
           split at h2
           ·rename_i bs vs hr
            rw [a3y] at h2
            exact⟨_,_,by simp only [h1]; simp only [a5u hr h2.1],h2.2⟩
           ·exact h2.elim
        ·exact h.elim
end
end
section
open Go.RowKit
variable {P:Program}
structure b6z (n0:Nat) (r:Ren) (s:St) (w:World) (r':Ren) (s':St) (w':World):Prop where
 le:∀ b x,b < n0→r b=some x→r' b=some x
 n:n0≤s'.n
 size:w.heap.size≤w'.heap.size
 img:∀ B,B < w.heap.size→a2u r' s' B→a2u r s B
 keep:∀ B,B < w.heap.size→¬ a2u r s B→w'.heap[B]? = w.heap[B]?
theorem b6z.of {n0:Nat} {r r':Ren} {s s':St} {w w':World} (h:Ext r s w r' s' w') (hn:n0≤s.n):b6z n0 r s w r' s' w' :=
 ⟨fun b x _ hb=>h.le b x hb,Nat.le_trans hn h.n,h.size,h.img,h.keep⟩
theorem b6z.trans {n0:Nat} {r r' r'':Ren} {s s' s'':St} {w w' w'':World} (h:b6z n0 r s w r' s' w') (k:b6z n0 r' s' w' r'' s'' w''):b6z n0 r s w r'' s'' w'':=by
 refine⟨fun b x hn hb=>k.le b x hn (h.le b x hn hb),k.n,Nat.le_trans h.size k.size,fun B hB ho=>h.img B hB (k.img B (Nat.lt_of_lt_of_le hB h.size) ho),fun B hB hno=>?_⟩
 rw [k.keep B (Nat.lt_of_lt_of_le hB h.size) fun ho=>hno (h.img B hB ho),h.keep B hB hno]
theorem b6z.ext {W0:World} {r r':Ren} {s s':St} {w w':World} (hI:Inv W0 r s w) (h:b6z s.n r s w r' s' w'):Ext r s w r' s' w' :=
 ⟨fun b x hb=>h.le b x (hI.dom b x hb).1 hb,h.n,h.size,h.img,h.keep⟩
def a0p (P:Program) (nt:Nat) (c:Code) (n0:Nat) (tm:Tm) (s:St) (Q:LX→Tm→St→Prop):Prop :=
 ∀ (W0:World) (r:Ren) (a:Act) (w:World),Inv W0 r s w→AR r (a0q tm) nt a→∀ K:Exit→Act→World→Prop,
   (∀ x tm' s' r' a' w',Q x tm' s'→Inv W0 r' s' w'→b6z n0 r s w r' s' w'→AR r' (a0q tm') nt a'→K (b6p x) a' w')→c.wp P K a w
def Conv (n0 nt:Nat) (tm:Tm) (s:St) (tm0:Tm) (s0:St):Prop :=
 ∀ (W0:World) (r:Ren) (a:Act) (w:World),Inv W0 r s w→AR r (a0q tm) nt a→∃ r0,Inv W0 r0 s0 w∧AR r0 (a0q tm0) nt a∧b6z n0 r s w r0 s0 w
theorem a0p.mono {nt n0:Nat} {c:Code} {tm:Tm} {s:St} {Q Q':LX→Tm→St→Prop} (h:a0p P nt c n0 tm s Q) (hq:∀ x tm s,Q x tm s→Q' x tm s):a0p P nt c n0 tm s Q' :=
 fun W0 r a w hI hA K hK=>h W0 r a w hI hA K fun x tm' s' r' a' w' q=>hK x tm' s' r' a' w' (hq _ _ _ q)
theorem a0p.of_x {cx:Cx} (hcx:a3w P (a2z cx)) {n nt n0:Nat} {c:Code} {tm:Tm} {s:St} {Q:LX→Tm→St→Prop} (hn:n0≤s.n) (h:a1h P cx n nt c tm s Q):a0p P nt c n0 tm s Q:=by
 intro W0 r a w hI hA K hK
 obtain⟨x,tm',s',h1,h2⟩:=(c9i (P:=P) (cx:=cx) n).1 _ _ _ _ _ h
 exact(a5f hcx n).1 W0 nt c tm tm' s s' x h1 r a w hI hA K fun r' a' w' k1 k2 k3=>hK x tm' s' r' a' w' h2 k1 (b6z.of k2 hn) k3
theorem a0p.conv {nt n0:Nat} {c:Code} {tm tm0:Tm} {s s0:St} {Q:LX→Tm→St→Prop} (h:Conv n0 nt tm s tm0 s0) (k:a0p P nt c n0 tm0 s0 Q):a0p P nt c n0 tm s Q:=by
 intro W0 r a w hI hA K hK
 obtain⟨r0,h1,h2,h3⟩:=h W0 r a w hI hA
 exact k W0 r0 a w h1 h2 K fun x tm' s' r' a' w' q1 q2 q3 q4=>hK x tm' s' r' a' w' q1 q2 (h3.trans q3) q4
theorem a0p.seq {nt n0:Nat} {c d:Code} {tm:Tm} {s:St} {Q:LX→Tm→St→Prop} (h:a0p P nt c n0 tm s fun x tm' s'=>match x with
  | .normal=>a0p P nt d n0 tm' s' Q
  | x=>Q x tm' s'):a0p P nt (.seq c d) n0 tm s Q:=by
 intro W0 r a w hI hA K hK
 refine wp_seq (h W0 r a w hI hA _ fun x tm' s' r' a' w' q1 q2 q3 q4=>?_)
 cases x with
 | normal=>exact q1 W0 r' a' w' q2 q4 K fun y tm2 s2 r2 a2 w2 p1 p2 p3 p4=>hK y tm2 s2 r2 a2 w2 p1 p2 (q3.trans p3) p4
 | exit id=>exact hK _ tm' s' r' a' w' q1 q2 q3 q4
 | ret=>exact hK _ tm' s' r' a' w' q1 q2 q3 q4
theorem a0p.block {nt n0 id:Nat} {c:Code} {tm:Tm} {s:St} {Q:LX→Tm→St→Prop} (h:a0p P nt c n0 tm s fun x tm' s'=>match x with
  | .exit k=>cond (Nat.beq k id) (Q .normal tm' s') (Q (.exit k) tm' s')
  | x=>Q x tm' s'):a0p P nt (.block id c) n0 tm s Q:=by
 intro W0 r a w hI hA K hK
 refine wp_block (h W0 r a w hI hA _ fun x tm' s' r' a' w' q1 q2 q3 q4=>?_)
 cases x with
 | normal=>exact hK .normal tm' s' r' a' w' q1 q2 q3 q4
 | ret=>exact hK .ret tm' s' r' a' w' q1 q2 q3 q4
 | exit k =>
   simp only [b6p,Exit.inBlock]
   simp only [a0t] at q1
   by_cases hk:k=id
   ·simp only [hk,decide_true,cond_true] at q1
    rw [if_pos hk]; exact hK .normal tm' s' r' a' w' q1 q2 q3 q4
   ·simp only [hk,decide_false,cond_false] at q1
    rw [if_neg hk]; exact hK (.exit k) tm' s' r' a' w' q1 q2 q3 q4
theorem a0p.loop {nt n0:Nat} {b:Code} {Q:LX→Tm→St→Prop} {σ : Type} (T : σ→Tm) (H : σ→St) (μ : σ→Nat) (hn:∀ a,n0≤(H a).n)
  (hr:∀ a,a0p P nt b n0 (T a) (H a) fun x tm s=>match x with
   | .normal=>∃ a',μ a' < μ a∧Conv n0 nt tm s (T a') (H a')
   | x=>Q x tm s) (a : σ):a0p P nt (.loop b) n0 (T a) (H a) Q:=by
 intro W0 r act w hI hA K hK
 refine wp_loop_ghost (fun m a1 w1=>∃ a',μ a'=m∧∃ r1,Inv W0 r1 (H a') w1∧b6z n0 r (H a) w r1 (H a') w1∧AR r1 (a0q (T a')) nt a1) (μ a) ⟨a,rfl,r,hI,?_,hA⟩ ?_
 ·exact⟨fun b x _ hb=>hb,hn a,Nat.le_refl _,fun _ _ h=>h,fun _ _ _=>rfl⟩
 ·rintro m a1 w1 ⟨a',rfl,r1,hI1,hE1,hA1⟩
  refine hr a' W0 r1 a1 w1 hI1 hA1 _ fun x tm s r2 a2 w2 q1 q2 q3 q4=>?_
  cases x with
  | normal =>
    obtain⟨a2',hlt,hc⟩:=q1
    obtain⟨r3,g1,g2,g3⟩:=hc W0 r2 a2 w2 q2 q4
    exact⟨_,hlt,a2',rfl,r3,g1,(hE1.trans q3).trans g3,g2⟩
  | exit id=>exact hK _ tm s r2 a2 w2 q1 q2 (hE1.trans q3) q4
  | ret=>exact hK _ tm s r2 a2 w2 q1 q2 (hE1.trans q3) q4
end
section
open Go.RowKit
variable {P:Program}
inductive Src where
 | id (b:Nat)
 | none
 | cap (b o k:Nat)
 | drop (b o d:Nat)
def Src.under:Src→Option Nat
 | .id b=>some b
 | .none=>Option.none
 | .cap b _ _=>some b
 | .drop b _ _=>some b
def Src.ren (r:Ren):Src→Option (Nat×Nat×Nat)
 | .id b=>r b
 | .none=>Option.none
 | .cap b o k=>match r b with | some (B,w,_)=>some (B,w+o,k) | Option.none=>Option.none
 | .drop b o d=>match r b with | some (B,w,c)=>some (B,w+o,c - d) | Option.none=>Option.none
abbrev a2o:=Nat→Option Src
def a2o.ren (ρ : a2o) (r:Ren):Ren:=fun b=>match ρ b with | some s=>s.ren r | none=>none
mutual
def LVW (ρ : a2o):LV→LV→Prop
 | .any,_=>True
 | .unb,.unb=>True
 | .unb,.bool _=>True
 | .bool a,.bool b=>a=b
 | .int k a,.int j b=>k=j∧a=b
 | .str a,.str b=>a=b
 | .val a,.val b=>a=b
 | .val a,.nils=>a=.slice none 0 0
 | .sln n,.sln m=>n=m
 | .sln n,.slo _ _ m _=>n=m
 | .sln n,.sl _ _ m _=>n=m
 | .sln n,.nils=>n=0
 | .nilp,.nilp=>True
 | .vp a k,.vp b j=>a=b∧k=j
 | .gptr g o,.gptr g' o'=>g=g'∧o=o'
 | .ptr b o,.ptr b' o'=>(match ρ b with
   | some (.id c)=>c=b'∧o=o'
   | some (.cap c o1 _)=>c=b'∧o1+o=o'
   | some (.drop c o1 _)=>c=b'∧o1+o=o'
   | _=>False)
 | .nils,.nils=>True
 | .sle,.sle=>True
 | .sle,.nils=>True
 | .sl b o len cap,.sl b' o' len' cap'=>(match ρ b with
   | some (.id c)=>c=b'∧o=o'∧len=len'∧cap=cap'
   | _=>False)
 | .slo b o len d,.slo b' o' len' d'=>(match ρ b with
   | some (.id c)=>c=b'∧o=o'∧len=len'∧d=d'
   | some (.drop c o1 d1)=>c=b'∧o1+o=o'∧len=len'∧d1+d=d'
   | _=>False)
 | .slo b o len d,.sl b' o' len' cap'=>(match ρ b with
   | some (.cap c o1 k)=>c=b'∧o1+o=o'∧len=len'∧d+len≤k∧cap'=k - d
   | _=>False)
 | .slo _ _ len _,.nils=>len=0
 | .slo _ _ len _,.sle=>len=0
 | .nilFunc,.nilFunc=>True
 | .nilIface,.nilIface=>True
 | .iface t a,.iface u b=>t=u∧LVW ρ a b
 | .fn f a,.fn g b=>f=g∧a5i ρ a b
 | .agg a,.agg b=>a5i ρ a b
 | .tup a,.tup b=>a5i ρ a b
 | _,_=>False
def a5i (ρ : a2o):List LV→List LV→Prop
 | [],[]=>True
 | a::as,b::bs=>LVW ρ a b∧a5i ρ as bs
 | _,_=>False
end
mutual
theorem LVW.sound {ρ : a2o} {r:Ren}:∀ {l0 l:LV} {v:Value},LVW ρ l0 l→VR r l v→VR (ρ.ren r) l0 v
 | .any,l,v,h,hv=>by simp only [VR]
 | .val a,l,v,h,hv=>by
   cases l <;> simp only [LVW] at h
   ·subst h; simp only [VR] at hv ⊢; subst hv; exact⟨by first | rfl | trivial,_,_,_,rfl⟩
   ·subst h; simpa only [VR] using hv
 | .fact a,l,v,h,hv=>by cases l <;> simp only [LVW] at h
 | .vp a k,l,v,h,hv=>by cases l <;> simp only [LVW] at h; obtain⟨rfl,rfl⟩:=h; simpa only [VR] using hv
 | .sln n,l,v,h,hv=>by
   cases l <;> simp only [LVW] at h <;> simp only [VR] at hv ⊢
   ·subst h; exact⟨none,0,hv⟩
   ·subst h; exact hv
   ·subst h; obtain⟨B,w,c,_,rfl⟩:=hv; exact⟨_,_,rfl⟩
   ·subst h; rcases hv with⟨B,w,c,_,_,rfl⟩ | ⟨h0,rfl | ⟨a,rfl⟩⟩
    ·exact⟨_,_,rfl⟩
    ·subst h0; exact⟨_,_,rfl⟩
    ·subst h0; exact⟨_,_,rfl⟩
 | .unb,l,v,h,hv=>by
   cases l <;> simp only [LVW] at h <;> simp only [VR] at hv ⊢
   ·rename_i b; cases b <;> simp [hv]
   ·exact hv
 | .bool a,l,v,h,hv=>by cases l <;> simp only [LVW] at h; subst h; simpa only [VR] using hv
 | .int k a,l,v,h,hv=>by cases l <;> simp only [LVW] at h; obtain⟨rfl,rfl⟩:=h; simpa only [VR] using hv
 | .str a,l,v,h,hv=>by cases l <;> simp only [LVW] at h; subst h; simpa only [VR] using hv
 | .nilp,l,v,h,hv=>by cases l <;> simp only [LVW] at h; simpa only [VR] using hv
 | .gptr g o,l,v,h,hv=>by cases l <;> simp only [LVW] at h; obtain⟨rfl,rfl⟩:=h; simpa only [VR] using hv
 | .nils,l,v,h,hv=>by cases l <;> simp only [LVW] at h; simpa only [VR] using hv
 | .sle,l,v,h,hv=>by
   cases l <;> simp only [LVW] at h
   ·simp only [VR] at hv ⊢; exact .inl hv
   ·simpa only [VR] using hv
 | .nilFunc,l,v,h,hv=>by cases l <;> simp only [LVW] at h; simpa only [VR] using hv
 | .nilIface,l,v,h,hv=>by cases l <;> simp only [LVW] at h; simpa only [VR] using hv
 | .fn f cs,l,v,h,hv=>by
   cases l <;> simp only [LVW] at h
   obtain⟨rfl,h⟩:=h
   simp only [VR] at hv ⊢
   obtain⟨us,rfl,hv⟩:=hv
   exact⟨us,rfl,a5i.sound h hv⟩
 | .ptr b o,l,v,h,hv=>by
   cases l <;> simp only [LVW] at h
   rename_i b' o'
   simp only [VR] at hv ⊢
   obtain⟨B,w,c,hr,rfl⟩:=hv
   split at h
   ·rename_i c' e; obtain⟨rfl,rfl⟩:=h; exact⟨B,w,c,by simp [a2o.ren,e,Src.ren,hr],rfl⟩
   ·rename_i c' o1 k e; obtain⟨rfl,rfl⟩:=h; exact⟨B,w+o1,k,by simp [a2o.ren,e,Src.ren,hr],by rw [Nat.add_assoc]⟩
   ·rename_i c' o1 k e; obtain⟨rfl,rfl⟩:=h; exact⟨B,w+o1,c - k,by simp [a2o.ren,e,Src.ren,hr],by rw [Nat.add_assoc]⟩
   ·exact h.elim
 | .sl b o len cap,l,v,h,hv=>by
   cases l <;> simp only [LVW] at h
   simp only [VR] at hv ⊢
   obtain⟨B,w,c,hr,rfl⟩:=hv
   split at h
   ·rename_i c' e; obtain⟨rfl,rfl,rfl,rfl⟩:=h; exact⟨B,w,c,by simp [a2o.ren,e,Src.ren,hr],rfl⟩
   ·exact h.elim
 | .slo b o len d,l,v,h,hv=>by
   cases l <;> simp only [LVW] at h
   ·simp only [VR] at hv ⊢; exact .inr ⟨h,.inl hv⟩
   ·simp only [VR] at hv ⊢; exact .inr ⟨h,hv⟩
   ·rename_i b' o' len' cap'
    simp only [VR] at hv ⊢
    obtain⟨B,w,c,hr,rfl⟩:=hv
    split at h
    ·rename_i c' o1 k e
     obtain⟨rfl,rfl,rfl,h1,rfl⟩:=h
     exact .inl ⟨B,w+o1,k,by simp [a2o.ren,e,Src.ren,hr],h1,by rw [Nat.add_assoc]⟩
    ·exact h.elim
   ·rename_i b' o' len' d'
    simp only [VR] at hv ⊢
    split at h
    ·rename_i c' e
     obtain⟨rfl,rfl,rfl,rfl⟩:=h
     rcases hv with⟨B,w,c,hr,hle,rfl⟩ | hv
     ·exact .inl ⟨B,w,c,by simp [a2o.ren,e,Src.ren,hr],hle,rfl⟩
     ·exact .inr hv
    ·rename_i c' o1 d1 e
     obtain⟨rfl,rfl,rfl,rfl⟩:=h
     rcases hv with⟨B,w,c,hr,hle,rfl⟩ | hv
     ·exact .inl ⟨B,w+o1,c - d1,by simp [a2o.ren,e,Src.ren,hr],by omega,by rw [Nat.add_assoc,Nat.sub_sub]⟩
     ·exact .inr hv
    ·exact h.elim
 | .iface t a,l,v,h,hv=>by
   cases l <;> simp only [LVW] at h
   obtain⟨rfl,h⟩:=h
   simp only [VR] at hv ⊢
   obtain⟨u,rfl,hv⟩:=hv
   exact⟨u,rfl,LVW.sound h hv⟩
 | .agg a,l,v,h,hv=>by
   cases l <;> simp only [LVW] at h
   simp only [VR] at hv ⊢
   obtain⟨us,rfl,hv⟩:=hv
   exact⟨us,rfl,a5i.sound h hv⟩
 | .tup a,l,v,h,hv=>by
   cases l <;> simp only [LVW] at h
   simp only [VR] at hv ⊢
   obtain⟨us,rfl,hv⟩:=hv
   exact⟨us,rfl,a5i.sound h hv⟩
theorem a5i.sound {ρ : a2o} {r:Ren}:∀ {a b:List LV} {vs:List Value},a5i ρ a b→VRs r b vs→VRs (ρ.ren r) a vs
 | [],[],vs,h,hv=>by simpa only [VRs] using hv
 | a::as,b::bs,vs,h,hv=>by
   simp only [a5i] at h
   simp only [VRs] at hv ⊢
   obtain⟨u,us,rfl,h1,h2⟩:=hv
   exact⟨u,us,rfl,LVW.sound h.1 h1,a5i.sound h.2 h2⟩
 | [],_::_,vs,h,hv=>by simp only [a5i] at h
 | _::_,[],vs,h,hv=>by simp only [a5i] at h
end
theorem a5i.length {ρ : a2o}:∀ {a b:List LV},a5i ρ a b→a.length=b.length
 | [],[],h=>rfl
 | a::as,b::bs,h=>by simp only [a5i] at h; simp [a5i.length h.2]
 | [],_::_,h=>by simp only [a5i] at h
 | _::_,[],h=>by simp only [a5i] at h
theorem a5i.get {ρ : a2o}:∀ {a b:List LV} {i:Nat} {x:LV},a5i ρ a b→a[i]? = some x→∃ y,b[i]? = some y∧LVW ρ x y
 | [],b,i,x,h,hi=>by simp at hi
 | a::as,[],i,x,h,hi=>by simp only [a5i] at h
 | a::as,b::bs,0,x,h,hi=>by simp only [a5i] at h; simp at hi; subst hi; exact⟨b,rfl,h.1⟩
 | a::as,b::bs,i+1,x,h,hi=>by simp only [a5i] at h; simp at hi ⊢; exact a5i.get h.2 hi
mutual
def b2j:LV→Bool
 | .bool _=>true
 | .int _ _=>true
 | .str _=>true
 | .nilp=>true
 | .gptr _ _=>true
 | .nils=>true
 | .nilFunc=>true
 | .nilIface=>true
 | .unb=>true
 | .val _=>true
 | .sln _=>true
 | .vp _ _=>true
 | .iface _ a=>b2j a
 | .agg a=>a1q a
 | .tup a=>a1q a
 | _=>false
def a1q:List LV→Bool
 | []=>true
 | a::as=>b2j a && a1q as
end
mutual
theorem b2j.sound {r r':Ren}:∀ {l:LV} {v:Value},b2j l=true→VR r l v→VR r' l v
 | .bool a,v,h,hv | .int _ _,v,h,hv | .str _,v,h,hv | .nilp,v,h,hv | .gptr _ _,v,h,hv | .nils,v,h,hv | .nilFunc,v,h,hv | .nilIface,v,h,hv | .unb,v,h,hv | .val _,v,h,hv | .sln _,v,h,hv | .vp _ _,v,h,hv=>by simpa only [VR] using hv
 | .fact _,v,h,hv | .sle,v,h,hv | .any,v,h,hv | .ptr _ _,v,h,hv | .sl _ _ _ _,v,h,hv | .slo _ _ _ _,v,h,hv | .fn _ _,v,h,hv=>by simp [b2j] at h
 | .iface t a,v,h,hv=>by
   simp only [b2j] at h
   simp only [VR] at hv ⊢
   obtain⟨u,rfl,hv⟩:=hv
   exact⟨u,rfl,b2j.sound h hv⟩
 | .agg a,v,h,hv=>by
   simp only [b2j] at h
   simp only [VR] at hv ⊢
   obtain⟨u,rfl,hv⟩:=hv
   exact⟨u,rfl,a1q.sound h hv⟩
 | .tup a,v,h,hv=>by
   simp only [b2j] at h
   simp only [VR] at hv ⊢
   obtain⟨u,rfl,hv⟩:=hv
   exact⟨u,rfl,a1q.sound h hv⟩
theorem a1q.sound {r r':Ren}:∀ {a:List LV} {vs:List Value},a1q a=true→VRs r a vs→VRs r' a vs
 | [],vs,h,hv=>by simpa only [VRs] using hv
 | a::as,vs,h,hv=>by
   simp only [a1q,Bool.and_eq_true] at h
   simp only [VRs] at hv ⊢
   obtain⟨u,us,rfl,h1,h2⟩:=hv
   exact⟨u,us,rfl,b2j.sound h.1 h1,a1q.sound h.2 h2⟩
end
theorem a4c:∀ {a:List LV},a1q a=true↔∀ l∈a,b2j l=true
 | []=>by simp [a1q]
 | a::as=>by simp [a1q,a4c]
def CW (ρ : a2o) (cs0 cs:List LV):Prop:=(cs0=cs∧a1q cs0=true)∨a5i ρ cs0 cs
theorem CW.length {ρ : a2o} {a b:List LV} (h:CW ρ a b):a.length=b.length:=h.elim (fun h=>by rw [h.1]) a5i.length
theorem CW.get {ρ : a2o} {r:Ren} {a b:List LV} (h:CW ρ a b) {i:Nat} {x:LV} (hi:a[i]? = some x):∃ y,b[i]? = some y∧∀ v,VR r y v→VR (ρ.ren r) x v:=by
 rcases h with⟨rfl,h⟩ | h
 ·exact⟨x,hi,fun v hv=>b2j.sound (a4c.1 h x (List.mem_of_getElem? hi)) hv⟩
 ·obtain⟨y,h1,h2⟩:=h.get hi
  exact⟨y,h1,fun v hv=>h2.sound hv⟩
theorem VR.plain_of {r:Ren} {l:LV} {v:Value} (h:VR r l v) (ho:v.oneCell'=true) (ha:l≠.any):l.plain=true:=by
 cases l <;> simp only [VR] at h <;> first
  | rfl
  | (exact absurd rfl ha)
  | (obtain⟨us,rfl,_⟩:=h; simp [Value.oneCell'] at ho)
def LBW (ρ : a2o) (src:Src) (L0:LB) (L:Option LB):Prop :=
 match src,L0,L with
 | _,.dead,_=>True
 | .id _,.cells cs0 op0,some (.cells cs op)=>op0=op∧CW ρ cs0 cs∧LV.any ∉ cs0
 | .id _,.ro cs0,some (.ro cs)=>CW ρ cs0 cs∧LV.any ∉ cs0
 | .id _,.iter t p,some (.iter t' p')=>t=t'∧p=p'
 | .id _,.obj F0 cs0 g0,some (.obj F cs g)=>F0=F∧cs0=cs∧ρ g0=some (.id g)
 | .none,.cells cs0 _,_=>cs0=[]
 | .cap _ o k,.cells cs0 (some es),some (.cells cs none)=>cs0.length≤k * es∧o+k * es≤cs.length∧CW ρ cs0 (a3o cs o cs0.length)∧LV.any ∉ cs0
 | .drop _ o d,.cells cs0 (some es),some (.cells cs (some es'))=>es=es'∧o=d * es∧o+cs0.length≤cs.length∧CW ρ cs0 (a3o cs o cs0.length)∧LV.any ∉ cs0
 | _,_,_=>False
structure Sub (n0:Nat) (ρ : a2o) (s s0:St):Prop where
 n:n0≤s0.n
 old:∀ b,b < n0→ρ b=some (.id b)
 dom:∀ b src,ρ b=some src→b < s0.n
 fresh:∀ b,s0.n≤b→s0.h.get b=none
 blk:∀ b L0,s0.h.get b=some L0→∃ src,ρ b=some src∧LBW ρ src L0 (match src.under with | some c=>s.h.get c | none=>none)
 inj:∀ b b' src src' c,s0.lives b→s0.lives b'→ρ b=some src→ρ b'=some src'→src.under=some c→src'.under=some c→b=b'
 g:s0.g=s.g
theorem LBW.lives {ρ : a2o} {src:Src} {L0:LB} {L:Option LB} (h:LBW ρ src L0 L) (hl:L0.live=true) (hc:src.under≠Option.none):∃ M,L=some M∧M.live=true:=by
 unfold LBW at h
 split at h
 ·cases hl
 ·exact⟨_,rfl,rfl⟩
 ·cases hl
 ·exact⟨_,rfl,rfl⟩
 ·exact⟨_,rfl,rfl⟩
 ·exact absurd rfl hc
 ·exact⟨_,rfl,rfl⟩
 ·exact⟨_,rfl,rfl⟩
 ·exact h.elim
theorem Src.h0e {r:Ren} {src:Src} {x:Nat×Nat×Nat} (h:src.ren r=some x):∃ c y,src.under=some c∧r c=some y∧y.1=x.1:=by
 cases src with
 | id b=>exact⟨b,x,rfl,h,rfl⟩
 | none=>simp [Src.ren] at h
 | cap b o k =>
   simp only [Src.ren] at h
   split at h
   ·rename_i B w c e; simp at h; subst h; exact⟨b,_,rfl,e,rfl⟩
   ·simp at h
 | drop b o d =>
   simp only [Src.ren] at h
   split at h
   ·rename_i B w c e; simp at h; subst h; exact⟨b,_,rfl,e,rfl⟩
   ·simp at h
theorem c5p {cs:List LV} {o n i:Nat} (h:i < n):(a3o cs o n)[i]? = cs[o+i]?:=by
 simp only [a3o,List.getElem?_take_of_lt h,List.getElem?_drop]
theorem Inv.sub {W0:World} {r:Ren} {s s0:St} {w:World} (hI:Inv W0 r s w) {n0:Nat} {ρ : a2o} (h:Sub n0 ρ s s0):Inv W0 (ρ.ren r) s0 w∧b6z n0 r s w (ρ.ren r) s0 w:=by
 have hren:∀ b x,ρ.ren r b=some x→∃ src c y,ρ b=some src∧src.under=some c∧r c=some y∧y.1=x.1∧src.ren r=some x:=fun b x hb=>by
  simp only [a2o.ren] at hb
  cases hs : ρ b with
  | none=>simp [hs] at hb
  | some src =>
    simp only [hs] at hb
    obtain⟨c,y,h1,h2,h3⟩:=Src.h0e hb
    exact⟨src,c,y,rfl,h1,h2,h3,hb⟩
 have hlives:∀ b x,s0.lives b→ρ.ren r b=some x→∃ src c y,ρ b=some src∧src.under=some c∧s.lives c∧r c=some y∧y.1=x.1:=fun b x ⟨L,hL,hl⟩ hb=>by
  obtain⟨src,c,y,h1,h2,h3,h4,_⟩:=hren b x hb
  obtain⟨src',k1,k2⟩:=h.blk b L hL
  rw [h1] at k1; cases k1
  simp only [h2] at k2
  obtain⟨M,m1,m2⟩:=k2.lives hl (by rw [h2]; simp)
  exact⟨src,c,y,h1,h2,⟨M,m1,m2⟩,h3,h4⟩
 have hobj:∀ b F cs g0,s0.h.get b=some (.obj F cs g0)→∃ c g,ρ b=some (.id c)∧s.h.get c=some (.obj F cs g)∧∀ B,Own (ρ.ren r) g0 B↔Own r g B:=fun b F cs g0 hb=>by
  obtain⟨src,h1,h2⟩:=h.blk b _ hb
  cases src <;> simp only [Src.under] at h2 <;> try (simp [LBW] at h2; done)
  rename_i c
  cases hc:s.h.get c with
  | none=>rw [hc] at h2; simp [LBW] at h2
  | some L =>
    rw [hc] at h2
    cases L <;> simp only [LBW] at h2
    rename_i F' cs' g
    obtain⟨rfl,rfl,h3⟩:=h2
    exact⟨c,g,h1,hc,fun B=>by simp only [Own,a2o.ren,h3,Src.ren]⟩
 refine⟨⟨hI.below,fun b x hb=>?_,fun b x hl hb=>?_,h.fresh,fun b b' x x' hl hl' hb hb' he=>?_,fun b cs0 op0 hb=>?_,fun b t p hb=>?_,by rw [h.g]; exact hI.gl,fun b cs0 hb=>?_,fun b F cs g0 hb=>?_,fun B hB=>?_,fun b F cs g0 b' x' hb hl' hx' hO=>?_,fun b F cs g0 b' F' cs' g0' B hb hb' h1 h2=>?_⟩,⟨fun b x hn hb=>?_,h.n,Nat.le_refl _,fun B hlt hB=>?_,fun _ _ _=>rfl⟩⟩
 ·obtain⟨src,c,y,h1,h2,h3,h4,_⟩:=hren b x hb
  exact⟨h.dom b src h1,by rw [← h4]; exact(hI.dom c y h3).2⟩
 ·obtain⟨src,c,y,h1,h2,h3,h4,h5⟩:=hlives b x hl hb
  rw [← h5]; exact hI.own c y h3 h4
 ·obtain⟨src,c,y,h1,h2,h3,h4,h5⟩:=hlives b x hl hb
  obtain⟨src',c',y',h1',h2',h3',h4',h5'⟩:=hlives b' x' hl' hb'
  have:c=c':=hI.inj c c' y y' h3 h3' h4 h4' (by rw [h5,h5']; exact he)
  subst this
  exact h.inj b b' src src' c hl hl' h1 h1' h2 h2'
 ·obtain⟨src,h1,h2⟩:=h.blk b _ hb
  cases src with
  | none =>
    simp only [LBW,Src.under] at h2
    exact .inl ⟨h2,by simp [a2o.ren,h1,Src.ren]⟩
  | id c =>
    simp only [Src.under] at h2
    cases hc:s.h.get c with
    | none=>rw [hc] at h2; simp [LBW] at h2
    | some L =>
      rw [hc] at h2
      cases L <;> simp only [LBW] at h2
      rename_i cs op
      obtain⟨rfl,h2,hna⟩:=h2
      have hren' : ρ.ren r b=r c:=by simp [a2o.ren,h1,Src.ren]
      rcases hI.cells c cs op0 hc with⟨rfl,hr⟩ | ⟨x,hx,⟨cc,e,lo,hi,k1,k2,k3,k4,k5⟩,k6⟩
      ·exact .inl ⟨List.length_eq_zero_iff.1 (by rw [h2.length]; rfl),by rw [hren',hr]⟩
      ·have hlen:=h2.length
       refine .inr ⟨x,by rw [hren',hx],⟨cc,e,lo,hi,k1,fun i l hl=>?_,?_,?_,k5⟩,?_⟩
       ·obtain⟨y,q1,q2⟩:=h2.get (r:=r) hl
        obtain⟨g1,u,g2,g3⟩:=k2 i y q1
        have hv:=q2 u g3
        exact⟨hv.plain_of (g3.one g1) fun e=>hna (by rw [← e]; exact List.mem_of_getElem? hl),u,g2,hv⟩
       ·rw [a6o hlen]; exact k3
       ·rw [a6o hlen]; exact k4
       ·rw [hlen,a6o hlen]; exact k6
  | cap c o k =>
    simp only [Src.under] at h2
    cases hc:s.h.get c with
    | none=>rw [hc] at h2; cases op0 <;> simp [LBW] at h2
    | some L =>
      rw [hc] at h2
      cases L <;> cases op0 <;> simp only [LBW] at h2
      rename_i cs op es
      cases op <;> simp only [LBW] at h2
      obtain⟨h3,h4,h5,hna⟩:=h2
      rcases hI.cells c cs none hc with⟨rfl,hr⟩ | ⟨x,hx,⟨cc,e,lo,hi,k1,k2,k3,k4,k5⟩,k6⟩
      ·have hke:o+k * es≤0:=h4
       refine .inl ⟨List.length_eq_zero_iff.1 (by omega),by simp [a2o.ren,h1,Src.ren,hr]⟩
      ·obtain⟨B,q,cp⟩:=x
       simp only [a7u] at k3 k4 k6
       refine .inr ⟨(B,q+o,k),by simp [a2o.ren,h1,Src.ren,hx],⟨cc,e,lo,hi,k1,fun i l hl=>?_,fun i hi'=>?_,?_,k5⟩,by simpa [a7u] using h3⟩
       ·have hi0:=(List.getElem?_eq_some_iff.1 hl).1
        obtain⟨y,q1,q2⟩:=h5.get (r:=r) hl
        rw [c5p hi0] at q1
        obtain⟨g1,u,g2,g3⟩:=k2 (o+i) y q1
        have hv:=q2 u g3
        exact⟨hv.plain_of (g3.one g1) fun e=>hna (by rw [← e]; exact List.mem_of_getElem? hl),u,by rw [Nat.add_assoc]; exact g2,hv⟩
       ·simp only [a7u] at hi'
        have:=k3 (o+i) (by omega)
        simp only; omega
       ·simp only [a7u]; omega
  | drop c o d =>
    simp only [Src.under] at h2
    cases hc:s.h.get c with
    | none=>rw [hc] at h2; cases op0 <;> simp [LBW] at h2
    | some L =>
      rw [hc] at h2
      cases L <;> cases op0 <;> simp only [LBW] at h2
      rename_i cs op es
      cases op <;> simp only [LBW] at h2
      rename_i es'
      obtain⟨rfl,rfl,h4,h5,hna⟩:=h2
      rcases hI.cells c cs (some es) hc with⟨rfl,hr⟩ | ⟨x,hx,⟨cc,e,lo,hi,k1,k2,k3,k4,k5⟩,k6⟩
      ·have hke:d * es+cs0.length≤0:=h4
       refine .inl ⟨List.length_eq_zero_iff.1 (by omega),by simp [a2o.ren,h1,Src.ren,hr]⟩
      ·obtain⟨B,q,cp⟩:=x
       simp only [a7u] at k3 k4 k6
       have hmul:(cp - d) * es=cp * es - d * es:=Nat.sub_mul _ _ _
       refine .inr ⟨(B,q+d * es,cp - d),by simp [a2o.ren,h1,Src.ren,hx],⟨cc,e,lo,hi,k1,fun i l hl=>?_,fun i hi'=>?_,?_,k5⟩,by simp only [a7u]; omega⟩
       ·have hi0:=(List.getElem?_eq_some_iff.1 hl).1
        obtain⟨y,q1,q2⟩:=h5.get (r:=r) hl
        rw [c5p hi0] at q1
        obtain⟨g1,u,g2,g3⟩:=k2 (d * es+i) y q1
        have hv:=q2 u g3
        exact⟨hv.plain_of (g3.one g1) fun e=>hna (by rw [← e]; exact List.mem_of_getElem? hl),u,by rw [Nat.add_assoc]; exact g2,hv⟩
       ·simp only [a7u] at hi'
        have:=k3 (d * es+i) (by omega)
        simp only; omega
       ·simp only [a7u]; omega
 ·obtain⟨src,h1,h2⟩:=h.blk b _ hb
  cases src <;> simp only [Src.under] at h2 <;> try (simp [LBW] at h2; done)
  rename_i c
  cases hc:s.h.get c with
  | none=>rw [hc] at h2; simp [LBW] at h2
  | some L =>
    rw [hc] at h2
    cases L <;> simp only [LBW] at h2
    obtain⟨rfl,rfl⟩:=h2
    obtain⟨x,k1,k2,k3⟩:=hI.iter c _ _ hc
    exact⟨x,by simp [a2o.ren,h1,Src.ren,k1],k2,k3⟩
 ·obtain⟨src,h1,h2⟩:=h.blk b _ hb
  cases src <;> simp only [Src.under] at h2 <;> try (simp [LBW] at h2; done)
  rename_i c
  cases hc:s.h.get c with
  | none=>rw [hc] at h2; simp [LBW] at h2
  | some L =>
    rw [hc] at h2
    cases L <;> simp only [LBW] at h2
    rename_i cs
    obtain⟨h2,hna⟩:=h2
    rcases hI.ro c cs hc with⟨rfl,k1⟩ | ⟨x,k1,cc,e,f,k2,k3⟩
    ·exact .inl ⟨List.length_eq_zero_iff.1 (by rw [h2.length]; rfl),by simp [a2o.ren,h1,Src.ren,k1]⟩
    refine .inr ⟨x,by simp [a2o.ren,h1,Src.ren,k1],cc,e,f,k2,fun i l hl=>?_⟩
    obtain⟨y,q1,q2⟩:=h2.get (r:=r) hl
    obtain⟨g1,u,g2,g3⟩:=k3 i y q1
    have hv:=q2 u g3
    exact⟨hv.plain_of (g3.one g1) fun e=>hna (by rw [← e]; exact List.mem_of_getElem? hl),u,g2,hv⟩
 ·obtain⟨c,g,h1,h2,h3⟩:=hobj b F cs g0 hb
  obtain⟨x,k1,k2,k3⟩:=hI.ob.holds c F cs g h2
  have e:Own (ρ.ren r) g0=Own r g:=funext fun B=>propext (h3 B)
  exact⟨x,by simp [a2o.ren,h1,Src.ren,k1],(h3 _).2 k2,fun w' q1 q2 q3=>by rw [e]; exact k3 w' q1 q2 fun B hB=>q3 B ((h3 B).2 hB)⟩
 ·obtain⟨b,F,cs,g0,h1,h2⟩:=hB
  obtain⟨c,g,k1,k2,k3⟩:=hobj b F cs g0 h1
  exact hI.ob.inside B ⟨c,F,cs,g,k2,(k3 B).1 h2⟩
 ·obtain⟨c,g,k1,k2,k3⟩:=hobj b F cs g0 hb
  obtain⟨src,c',y,h1,h2,h3,h4,h5⟩:=hlives b' x' hl' hx'
  have:=hI.ob.apart c F cs g c' y k2 h3 h4 (by rw [h5]; exact(k3 _).1 hO)
  subst this
  exact h.inj b' b src (.id c') c' hl' ⟨_,hb,rfl⟩ h1 k1 h2 rfl
 ·obtain⟨c,g,k1,k2,k3⟩:=hobj b F cs g0 hb
  obtain⟨c',g',k1',k2',k3'⟩:=hobj b' F' cs' g0' hb'
  have:=hI.ob.two c F cs g c' F' cs' g' B k2 k2' ((k3 B).1 h1) ((k3' B).1 h2)
  subst this
  exact h.inj b b' (.id c) (.id c) c ⟨_,hb,rfl⟩ ⟨_,hb',rfl⟩ k1 k1' rfl rfl
 ·simp [a2o.ren,h.old b hn,Src.ren,hb]
 ·rcases hB with⟨b,x,hl,hb,rfl⟩ | ⟨b,F,cs,g0,h1,h2⟩
  ·obtain⟨src,c,y,h1,h2,h3,h4,h5⟩:=hlives b x hl hb
   exact .inl ⟨c,y,h3,h4,h5⟩
  ·obtain⟨c,g,k1,k2,k3⟩:=hobj b F cs g0 h1
   exact .inr ⟨c,F,cs,g,k2,(k3 B).1 h2⟩
end
section
open Go.RowKit
variable {P:Program}
section
variable {α : Type}
def evs:List α→List α
 | []=>[]
 | [x]=>[x]
 | x::_::r=>x::evs r
def ods:List α→List α
 | []=>[]
 | [_]=>[]
 | _::y::r=>y::ods r
theorem d2p:∀ (l:List α) (i:Nat),(evs l)[i]? = l[2 * i]?
 | [],i=>by simp [evs]
 | [x],0=>rfl
 | [x],i+1=>by simp [evs]
 | x::y::r,0=>rfl
 | x::y::r,i+1=>by simp only [evs,List.getElem?_cons_succ,d2p r i]; rw [show 2 * (i+1)=2 * i+1+1 by omega]; simp
theorem d1c:∀ (l:List α) (i:Nat),(ods l)[i]? = l[2 * i+1]?
 | [],i=>by simp [ods]
 | [x],i=>by simp [ods]
 | x::y::r,0=>rfl
 | x::y::r,i+1=>by simp only [ods,List.getElem?_cons_succ,d1c r i]; rw [show 2 * (i+1)=2 * i+1+1 by omega]; simp
theorem b7y:∀ (l:List α),(evs l).length≤l.length
 | []=>Nat.le_refl _
 | [x]=>Nat.le_refl _
 | x::y::r=>by have:=b7y r; simp [evs]; omega
theorem b7o:∀ (l:List α),(ods l).length≤l.length
 | []=>Nat.le_refl _
 | [x]=>by simp [ods]
 | x::y::r=>by have:=b7o r; simp [ods]; omega
def d6h:Nat→List (Option α)→Tr α
 | 0,_=>.leaf
 | _+1,[]=>.leaf
 | d+1,v::r=>.node (d6h d (evs r)) v (d6h d (ods r))
theorem b4v:∀ (d:Nat) (l:List (Option α)) (n:Nat),l.length≤d→(d6h d l).get n=(l[n]?).join
 | 0,l,n,h=>by have:l=[]:=List.length_eq_zero_iff.1 (by omega); subst this; simp [d6h,Tr.g9l]
 | d+1,[],n,h=>by simp [d6h,Tr.g9l]
 | d+1,v::r,n,h=>by
   simp only [List.length_cons] at h
   simp only [d6h,Tr.g9j]
   by_cases h0:n=0
   ·subst h0; simp
   ·rw [if_neg h0]
    obtain⟨m,rfl⟩:∃ m,n=m+1:=⟨n - 1,by omega⟩
    simp only [Nat.add_sub_cancel,List.getElem?_cons_succ]
    by_cases h1:(m+1) % 2=1
    ·rw [if_pos h1,b4v d _ _ (Nat.le_trans (b7y r) (by omega)),d2p,show 2 * (m / 2)=m by omega]
    ·rw [if_neg h1,b4v d _ _ (Nat.le_trans (b7o r) (by omega)),d1c,show 2 * (m / 2)+1=m by omega]
end
def c3y:List LB→List (Option LB)
 | []=>[]
 | b::bs=>some b::c3y bs
theorem c0p:∀ (l:List LB) (n:Nat),(c3y l)[n]? = (l[n]?).map some
 | [],n=>by simp [c3y]
 | b::bs,0=>rfl
 | b::bs,n+1=>by simpa [c3y] using c0p bs n
theorem b3t:∀ (l:List LB),(c3y l).length=l.length
 | []=>rfl
 | b::bs=>by simp [c3y,b3t bs]
def d8w:List LB→Nat
 | []=>0
 | _::l=>Nat.succ (d8w l)
theorem b6g:∀ l:List LB,d8w l=l.length
 | []=>rfl
 | _::l=>by simp [d8w,b6g l]
def mkS (bs:List LB) (g:List (Nat×List LV):=[]):St:=⟨d6h (d8w bs) (c3y bs),d8w bs,g⟩
theorem a0s (bs:List LB) (g:List (Nat×List LV)) (b:Nat):(mkS bs g).h.get b=bs[b]?:=by
 simp only [mkS]
 rw [b4v _ _ _ (by rw [b3t,b6g]; exact Nat.le_refl _),c0p]
 cases bs[b]? <;> rfl
theorem a2p (bs:List LB) (g:List (Nat×List LV)):(mkS bs g).n=bs.length:=b6g bs
def a6v:List (Nat×LV)→Nat→LV
 | [],_=>.any
 | (t,v)::r,n=>cond (Nat.beq t n) v (a6v r n)
def a6d (as:List (Nat×LV)):Nat→Nat→List (Option LV)
 | 0,_=>[]
 | k+1,t=>some (a6v as t)::a6d as k (Nat.succ t)
theorem b1x (as:List (Nat×LV)):∀ (k t i:Nat),(a6d as k t)[i]? = if i < k then some (some (a6v as (t+i))) else none
 | 0,t,i=>by simp [a6d]
 | k+1,t,0=>by simp [a6d]
 | k+1,t,i+1=>by
   simp only [a6d,List.getElem?_cons_succ,b1x as k (Nat.succ t) i,Nat.add_lt_add_iff_right]
   rw [show Nat.succ t+i=t+(i+1) by omega]
theorem a9h (as:List (Nat×LV)):∀ (k t:Nat),(a6d as k t).length=k
 | 0,t=>rfl
 | k+1,t=>by simp [a6d,a9h as k]
def a1p (nt:Nat) (as:List (Nat×LV)):Tm:=d6h nt (a6d as nt 0)
theorem a6a (nt:Nat) (as:List (Nat×LV)) (t:Nat):a0q (a1p nt as) t=if t < nt then a6v as t else .undef:=by
 simp only [a0q,a1p]
 rw [b4v _ _ _ (by rw [a9h]; exact Nat.le_refl _),b1x]
 by_cases h:t < nt <;> simp [h]
def a5b:List Nat→Tm→List LV
 | [],_=>[]
 | t::ts,tm=>a0q tm t::a5b ts tm
def b0p (s:St):Nat→Nat→List (Option LB)
 | 0,_=>[]
 | k+1,b=>s.h.get b::b0p s k (Nat.succ b)
def a5g (s:St):List (Option LB):=b0p s s.n 0
theorem a7l (s:St):∀ (k b i:Nat),(b0p s k b)[i]? = if i < k then some (s.h.get (b+i)) else none
 | 0,b,i=>by simp [b0p]
 | k+1,b,0=>by simp [b0p]
 | k+1,b,i+1=>by
   simp only [b0p,List.getElem?_cons_succ,a7l s k (Nat.succ b) i,Nat.add_lt_add_iff_right]
   rw [show Nat.succ b+i=b+(i+1) by omega]
def b1j (ρ : List Src):a2o:=fun b=>ρ[b]?
def c2v (bs:List (Option LB)) (c:Nat):Option LB:=match bs[c]? with | some b=>b | none=>none
def a9u (ρ : List Src) (bs:List (Option LB)):List Src→List LB→Prop
 | [],[]=>True
 | s::ss,L::Ls=>LBW (b1j ρ) s L (match s.under with | some c=>c2v bs c | none=>none)∧a9u ρ bs ss Ls
 | _,_=>False
def c0y:Nat→Nat→List Src→Bool
 | 0,_,_=>true
 | k+1,b,.id c::ss=>Nat.beq b c && c0y k (Nat.succ b) ss
 | _+1,_,_=>false
def a5l:List Src→List LB→List Nat
 | s::ss,L::Ls=>(match L.live,s.under with | true,some c=>c::a5l ss Ls | _,_=>a5l ss Ls)
 | _,_=>[]
def b2f (c:Nat):List Nat→Bool
 | []=>true
 | x::xs=>!Nat.beq c x && b2f c xs
def a3q:List Nat→Bool
 | []=>true
 | x::xs=>b2f x xs && a3q xs
def b1b:List Nat→List LV→Nat→LV
 | t::ts,v::vs,n=>cond (Nat.beq t n) v (b1b ts vs n)
 | _,_,_=>.any
def b5u (ρ : List Src) (nt:Nat) (L:List Nat) (vs:List LV):List (Nat×LV)→Prop
 | []=>True
 | (t,l)::as=>LVW (b1j ρ) l (b1b L vs t)∧b5u ρ nt L vs as
def a4f (n0 nt:Nat) (L:List Nat) (vs:List LV) (bs:List (Option LB)) (ρ : List Src) (as:List (Nat×LV)) (b0:List LB):Prop :=
 (Nat.beq (d8w b0) ρ.length && Nat.ble n0 (d8w b0) && c0y n0 0 ρ && a3q (a5l ρ b0))=true∧b5u ρ nt L vs as∧a9u ρ bs ρ b0
theorem b7m:∀ {k b:Nat} {ss:List Src},c0y k b ss=true→∀ i,i < k→ss[i]? = some (.id (b+i))
 | 0,b,ss,h,i,hi=>absurd hi (by omega)
 | k+1,b,.id c::ss,h,i,hi=>by
   simp only [c0y,Bool.and_eq_true,a0t,decide_eq_true_eq] at h
   cases i with
   | zero=>simp [h.1]
   | succ i=>simp only [List.getElem?_cons_succ]; rw [b7m h.2 i (by omega)]; congr 2; omega
 | k+1,b,[],h,i,hi=>by simp [c0y] at h
 | k+1,b,.none::ss,h,i,hi=>by simp [c0y] at h
 | k+1,b,.cap _ _ _::ss,h,i,hi=>by simp [c0y] at h
 | k+1,b,.drop _ _ _::ss,h,i,hi=>by simp [c0y] at h
theorem b5w {ρ : List Src} {bs:List (Option LB)}:∀ {ss:List Src} {Ls:List LB},a9u ρ bs ss Ls→ss.length=Ls.length∧∀ (i:Nat) (L:LB),Ls[i]? = some L→∃ s,ss[i]? = some s∧LBW (b1j ρ) s L (match s.under with | some c=>c2v bs c | none=>none)
 | [],[],h=>⟨rfl,fun i L hi=>by simp at hi⟩
 | s::ss,L::Ls,h=>by
   simp only [a9u] at h
   obtain⟨h1,h2⟩:=b5w h.2
   refine⟨by simp [h1],fun i M hi=>?_⟩
   cases i with
   | zero=>simp at hi; subst hi; exact⟨s,rfl,h.1⟩
   | succ i=>simp at hi ⊢; exact h2 i M hi
 | [],_::_,h=>by simp only [a9u] at h
 | _::_,[],h=>by simp only [a9u] at h
theorem b0g {c:Nat}:∀ {xs:List Nat},b2f c xs=true→c ∉ xs
 | [],h=>by simp
 | x::xs,h=>by
   simp only [b2f,Bool.and_eq_true,Bool.not_eq_true',a0t,decide_eq_false_iff_not] at h
   simp only [List.mem_cons,not_or]
   exact⟨h.1,b0g h.2⟩
theorem a9q:∀ {ss:List Src} {Ls:List LB} {i:Nat} {s:Src} {L:LB} {c:Nat},ss[i]? = some s→Ls[i]? = some L→L.live=true→s.under=some c→c∈a5l ss Ls
 | s::ss,L::Ls,0,s',L',c,h1,h2,h3,h4=>by
   simp at h1 h2; subst h1 h2
   simp [a5l,h3,h4]
 | s::ss,L::Ls,i+1,s',L',c,h1,h2,h3,h4=>by
   simp at h1 h2
   have:=a9q h1 h2 h3 h4
   simp only [a5l]
   split <;> simp [this]
 | [],_,i,s',L',c,h1,h2,h3,h4=>by simp at h1
 | _::_,[],i,s',L',c,h1,h2,h3,h4=>by simp at h2
theorem b3s:∀ {ss:List Src} {Ls:List LB},a3q (a5l ss Ls)=true→∀ {i j:Nat} {s s':Src} {L L':LB} {c:Nat},ss[i]? = some s→Ls[i]? = some L→L.live=true→s.under=some c →
  ss[j]? = some s'→Ls[j]? = some L'→L'.live=true→s'.under=some c→i=j
 | [],_,h,i,j,s,s',L,L',c,h1,h2,h3,h4,k1,k2,k3,k4=>by simp at h1
 | _::_,[],h,i,j,s,s',L,L',c,h1,h2,h3,h4,k1,k2,k3,k4=>by simp at h2
 | s0::ss,L0::Ls,h,i,j,s,s',L,L',c,h1,h2,h3,h4,k1,k2,k3,k4=>by
   have htail:a3q (a5l ss Ls)=true:=by
    simp only [a5l] at h
    split at h
    ·simp only [a3q,Bool.and_eq_true] at h; exact h.2
    ·exact h
   cases i with
   | zero =>
     cases j with
     | zero=>rfl
     | succ j =>
       simp at h1 h2 k1 k2; subst h1 h2
       simp only [a5l,h3,h4,a3q,Bool.and_eq_true] at h
       exact absurd (a9q k1 k2 k3 k4) (b0g h.1)
   | succ i =>
     cases j with
     | zero =>
       simp at h1 h2 k1 k2; subst k1 k2
       simp only [a5l,k3,k4,a3q,Bool.and_eq_true] at h
       exact absurd (a9q h1 h2 h3 h4) (b0g h.1)
     | succ j =>
       simp at h1 h2 k1 k2
       rw [b3s htail h1 h2 h3 h4 k1 k2 k3 k4]
theorem b5h {tm:Tm}:∀ (L:List Nat) (t:Nat),b1b L (a5b L tm) t=a0q tm t∨b1b L (a5b L tm) t=.any
 | [],t=>.inr rfl
 | x::L,t=>by
   simp only [a5b,b1b,a0t]
   by_cases h:x=t
   ·subst h; simp
   ·simp only [h,decide_false,cond_false]; exact b5h L t
theorem f0n {ρ : a2o} {l:LV} (h:LVW ρ l .any):l=.any:=by cases l <;> simp only [LVW] at h; rfl
theorem b7l {ρ : List Src} {nt:Nat} {L:List Nat} {tm:Tm}:∀ {as:List (Nat×LV)},b5u ρ nt L (a5b L tm) as→∀ t,LVW (b1j ρ) (a6v as t) (a0q tm t)
 | [],h,t=>by simp only [a6v,LVW]
 | (u,l)::as,h,t=>by
   simp only [b5u] at h
   simp only [a6v,a0t]
   by_cases e:u=t
   ·subst e
    simp only [decide_true,cond_true]
    rcases b5h (tm:=tm) L u with h1 | h1
    ·rw [← h1]; exact h.1
    ·rw [h1] at h; rw [f0n h.1]; simp only [LVW]
   ·simp only [e,decide_false,cond_false]; exact b7l h.2 t
theorem d5d (s:St) (hf:∀ b,s.n≤b→s.h.get b=none) (c:Nat):c2v (a5g s) c=s.h.get c:=by
 simp only [c2v,a5g,a7l,Nat.zero_add]
 by_cases h:c < s.n
 ·simp [h]
 ·simp [h,hf c (by omega)]
theorem Sub.of_ok {n0 nt:Nat} {L:List Nat} {vs:List LV} {ρ : List Src} {as:List (Nat×LV)} {b0:List LB} {s:St} (hf:∀ b,s.n≤b→s.h.get b=none) (h:a4f n0 nt L vs (a5g s) ρ as b0):Sub n0 (b1j ρ) s (mkS b0 s.g):=by
 obtain⟨h1,h2,h3⟩:=h
 simp only [Bool.and_eq_true,a0t,decide_eq_true_eq] at h1
 obtain⟨⟨⟨g1,g2⟩,g3⟩,g4⟩:=h1
 have g2:=Nat.le_of_ble_eq_true g2
 obtain⟨k1,k2⟩:=b5w h3
 refine⟨by rw [a2p]; rw [b6g] at g2; exact g2,fun b hb=>?_,fun b src hb=>?_,fun b hb=>?_,fun b L0 hb=>?_,fun b b' src src' c hl hl' hs hs' hu hu'=>?_,rfl⟩
 ·have:=b7m g3 b hb; simpa [b1j] using this
 ·rw [a2p,← b6g,g1]; exact(List.getElem?_eq_some_iff.1 hb).1
 ·rw [a2p] at hb; rw [a0s]; exact List.getElem?_eq_none hb
 ·rw [a0s] at hb
  obtain⟨src,q1,q2⟩:=k2 b L0 hb
  refine⟨src,q1,?_⟩
  cases hu:src.under with
  | none=>simpa [hu] using q2
  | some c=>simp only [hu] at q2 ⊢; rw [d5d s hf] at q2; exact q2
 ·obtain⟨M,m1,m2⟩:=hl
  obtain⟨M',m1',m2'⟩:=hl'
  rw [a0s] at m1 m1'
  exact b3s g4 hs m1 m2 hu hs' m1' m2' hu'
theorem Conv.of_ok {n0 nt:Nat} {L:List Nat} {tm:Tm} {s:St} {ρ : List Src} {as:List (Nat×LV)} {b0:List LB} (h:a4f n0 nt L (a5b L tm) (a5g s) ρ as b0):Conv n0 nt tm s (a1p nt as) (mkS b0 s.g):=by
 intro W0 r a w hI hA
 have hs:=Sub.of_ok hI.fresh h
 obtain⟨h1,h2⟩:=hI.sub hs
 refine⟨_,h1,⟨hA.size,hA.defers,fun t ht=>?_,fun t ht=>?_⟩,h2⟩
 ·obtain⟨v,q1,q2⟩:=hA.get t ht
  refine⟨v,q1,?_⟩
  rw [a6a,if_pos ht]
  exact(b7l h.2.1 t).sound q2
 ·rw [a6a,if_neg (by omega)]
abbrev g2z:=LX→List LV→List (Option LB)→Prop
def g2z.at(Φ : g2z) (L:List Nat) (g:List (Nat×List LV)):LX→Tm→St→Prop:=fun x tm s=>s.g=g∧Φ x (a5b L tm) (a5g s)
theorem a0p.g9z {nt n0:Nat} {c:Code} {tm:Tm} {s:St} {Q:LX→Tm→St→Prop} {L:List Nat} {ρ : List Src} {as:List (Nat×LV)} {b0:List LB} {g:List (Nat×List LV)} (hg:s.g=g)
  (h:a4f n0 nt L (a5b L tm) (a5g s) ρ as b0) (k:a0p P nt c n0 (a1p nt as) (mkS b0 g) Q):a0p P nt c n0 tm s Q:=by
 subst hg; exact a0p.conv (Conv.of_ok h) k
theorem a0p.g9y {nt n0:Nat} {b:Code} {Q:LX→Tm→St→Prop} {σ : Type} (L:List Nat) (g:List (Nat×List LV)) (T : σ→List (Nat×LV)) (H : σ→List LB) (μ : σ→Nat) (hn:∀ a,n0≤(H a).length)
  (hr:∀ a,a0p P nt b n0 (a1p nt (T a)) (mkS (H a) g) fun x tm s=>match x with
   | .normal=>s.g=g∧∃ a',μ a' < μ a∧∃ ρ,a4f n0 nt L (a5b L tm) (a5g s) ρ (T a') (H a')
   | x=>Q x tm s) (a : σ):a0p P nt (.loop b) n0 (a1p nt (T a)) (mkS (H a) g) Q:=by
 refine a0p.loop (fun a=>a1p nt (T a)) (fun a=>mkS (H a) g) μ (fun a=>by rw [a2p]; exact hn a) (fun a=>(hr a).mono fun x tm s h=>?_) a
 cases x with
 | normal =>
   obtain⟨hg,a',h1,ρ,h2⟩:=h
   exact⟨a',h1,by rw [← hg]; exact Conv.of_ok h2⟩
 | exit id=>exact h
 | ret=>exact h
def a0k (P:Program) (f:Nat) (args:List LV) (s:St) (Q:LV→St→Prop):Prop :=
 ∀ (W0:World) (r:Ren) (w:World) (us:List Value),Inv W0 r s w→VRs r args us→Calls P f us.toArray w fun e w'=>∃ l s' v r',Q l s'∧e=.returned v∧VR r' l v∧Inv W0 r' s' w'∧Ext r s w r' s' w'
theorem a0k.mono {f:Nat} {args:List LV} {s:St} {Q Q':LV→St→Prop} (h:a0k P f args s Q) (hq:∀ l s',Q l s'→Q' l s'):a0k P f args s Q' :=
 fun W0 r w us hI hv=>(h W0 r w us hI hv).mono fun e w' ⟨l,s',v,r',q,k⟩=>⟨l,s',v,r',hq l s' q,k⟩
def c8g:LX→Prop
 | .exit _=>False
 | _=>True
theorem a0k.body {f:Nat} {fn:Func} {c:Code} {args:List LV} {tm:Tm} {s:St} {Q:LV→St→Prop} (hf:P.funcs[f]? = some fn) (hb:fn.body=some c) (ht:a4q args 0 .leaf=some tm) (hle:Nat.ble args.length fn.ntmps=true)
  (h:a0p P fn.ntmps c s.n tm s fun x tm' s'=>c8g x∧∃ vs,a2f P (a0q tm') s' fn.results.toList=some vs∧Q (a4l vs) s'):a0k P f args s Q:=by
 intro W0 r w us hI hv
 have hle':=Nat.le_of_ble_eq_true hle
 have hul:=hv.length
 have hA:AR r (a0q tm) fn.ntmps { tmps:=us.toArray++Array.replicate (fn.ntmps - us.toArray.size) undef,defers:=[] }:=by
  have hg:=a8z args 0 .leaf tm ht
  refine⟨by simp; omega,rfl,fun t htt=>?_,fun t htt=>?_⟩
  ·rw [hg]
   by_cases h1:t < args.length
   ·rw [if_pos (by omega)]
    obtain⟨u,q1,q2⟩:=hv.get (List.getElem?_eq_getElem h1)
    refine⟨u,?_,?_⟩
    ·rw [Array.getElem?_append_left (by simp; omega)]; simpa using q1
    ·simpa [h1] using q2
   ·rw [if_neg (by omega)]
    refine⟨undef,?_,?_⟩
    ·rw [Array.getElem?_append_right (by simp; omega)]
     simp only [List.size_toArray,Array.getElem?_replicate]
     rw [if_pos (by omega)]
    ·simp only [a0q,Tr.g9l]; exact a7n
  ·rw [hg,if_neg (by omega)]; simp [a0q,Tr.g9l]
 refine calls_of_wp hf hb (h W0 r _ w hI hA _ fun x tm1 s1 r1 a1 w1 hq hI1 hE1 hA1=>?_)
 obtain⟨he,vs,hr,hq⟩:=hq
 cases x with
 | exit id=>exact he.elim
 | normal =>
   obtain⟨v,q1,q2⟩:=a6p (P:=P) hI1 hA1 hr
   exact⟨hA1.defers,v,q1,a4l vs,s1,v,r1,hq,rfl,q2,hI1,hE1.ext hI⟩
 | ret =>
   obtain⟨v,q1,q2⟩:=a6p (P:=P) hI1 hA1 hr
   exact⟨hA1.defers,v,q1,a4l vs,s1,v,r1,hq,rfl,q2,hI1,hE1.ext hI⟩
theorem a0k.conv {f:Nat} {args:List LV} {s:St} {Q Q':LV→St→Prop} (h:a0k P f args s Q)
  (hq:∀ l s',Q l s'→∃ l0 b0 ρ,Q' l0 (mkS b0 s'.g)∧a4f s.n 1 [0] [l] (a5g s') ρ [(0,l0)] b0):a0k P f args s Q':=by
 intro W0 r w us hI hv
 refine(h W0 r w us hI hv).mono fun e w' ⟨l,s',v,r',q,he,hv',hI',hE'⟩=>?_
 obtain⟨l0,b0,ρ,q1,q2⟩:=hq l s' q
 obtain⟨k1,k2⟩:=hI'.sub (Sub.of_ok hI'.fresh q2)
 have hl:LVW (b1j ρ) l0 l:=by
  have:=q2.2.1
  simp only [b5u,b1b] at this
  exact this.1
 exact⟨l0,_,v,_,q1,he,hl.sound hv',k1,((b6z.of hE' (Nat.le_refl _)).trans k2).ext hI⟩
end
section
open Go.RowKit
variable {P:Program}
theorem LBW.id_cells {W0:World} {r:Ren} {s:St} {w:World} (hI:Inv W0 r s w) {ρ : a2o} {c:Nat} {cs0:List LV} {op0:Option Nat} (h2:LBW ρ (.id c) (.cells cs0 op0) (s.h.get c)) :
  (cs0=[]∧r c=none)∨∃ x,r c=some x∧c5k (ρ.ren r) w x cs0 op0:=by
 cases hc:s.h.get c with
 | none=>rw [hc] at h2; simp [LBW] at h2
 | some L =>
   rw [hc] at h2
   cases L <;> simp only [LBW] at h2
   rename_i cs op
   obtain⟨rfl,h2,hna⟩:=h2
   rcases hI.cells c cs op0 hc with⟨rfl,hr⟩ | ⟨x,hx,⟨cc,e,lo,hi,k1,k2,k3,k4,k5⟩,k6⟩
   ·exact .inl ⟨List.length_eq_zero_iff.1 (by rw [h2.length]; rfl),hr⟩
   ·have hlen:=h2.length
    refine .inr ⟨x,hx,⟨cc,e,lo,hi,k1,fun i l hl=>?_,?_,?_,k5⟩,?_⟩
    ·obtain⟨y,q1,q2⟩:=h2.get (r:=r) hl
     obtain⟨g1,u,g2,g3⟩:=k2 i y q1
     have hv:=q2 u g3
     exact⟨hv.plain_of (g3.one g1) fun e=>hna (by rw [← e]; exact List.mem_of_getElem? hl),u,g2,hv⟩
    ·rw [a6o hlen]; exact k3
    ·rw [a6o hlen]; exact k4
    ·rw [hlen,a6o hlen]; exact k6
theorem LBW.id_ro {W0:World} {r:Ren} {s:St} {w:World} (hI:Inv W0 r s w) {ρ : a2o} {c:Nat} {cs0:List LV} (h2:LBW ρ (.id c) (.ro cs0) (s.h.get c)) :
  (cs0=[]∧r c=none)∨∃ x,r c=some x∧∃ cc e f,W0.heap[x.1]? = some (.cells cc e f)∧∀ (i:Nat) l,cs0[i]? = some l→l.plain=true∧∃ u,cc[x.2.1+i]? = some u∧VR (ρ.ren r) l u:=by
 cases hc:s.h.get c with
 | none=>rw [hc] at h2; simp [LBW] at h2
 | some L =>
   rw [hc] at h2
   cases L <;> simp only [LBW] at h2
   rename_i cs
   obtain⟨h2,hna⟩:=h2
   rcases hI.ro c cs hc with⟨rfl,k1⟩ | ⟨x,k1,cc,e,f,k2,k3⟩
   ·exact .inl ⟨List.length_eq_zero_iff.1 (by rw [h2.length]; rfl),k1⟩
   refine .inr ⟨x,k1,cc,e,f,k2,fun i l hl=>?_⟩
   obtain⟨y,q1,q2⟩:=h2.get (r:=r) hl
   obtain⟨g1,u,g2,g3⟩:=k3 i y q1
   have hv:=q2 u g3
   exact⟨hv.plain_of (g3.one g1) fun e=>hna (by rw [← e]; exact List.mem_of_getElem? hl),u,g2,hv⟩
theorem LBW.id_iter {W0:World} {r:Ren} {s:St} {w:World} (hI:Inv W0 r s w) {ρ : a2o} {c:Nat} {t:List UInt8} {p:Nat} (h2:LBW ρ (.id c) (.iter t p) (s.h.get c)) :
  ∃ x,r c=some x∧x.2.1=0∧w.heap[x.1]? = some (.stringIter ⟨t.toArray⟩ p):=by
 cases hc:s.h.get c with
 | none=>rw [hc] at h2; simp [LBW] at h2
 | some L =>
   rw [hc] at h2
   cases L <;> simp only [LBW] at h2
   obtain⟨rfl,rfl⟩:=h2
   exact hI.iter c _ _ hc
structure f6a (ρ : List Nat) (κ : Nat→Option Nat) (s s1 s':St):Prop where
 n:s.n≤s'.n
 old:∀ (i b:Nat),ρ[i]? = some b→b < s.n∧κ b=some i
 back:∀ b i,b < s.n→κ b=some i→ρ[i]? = some b
 new:∀ b i,κ b=some i→b < s'.n∧(s.n≤b→ρ.length≤i)
 inj:∀ b b' i,κ b=some i→κ b'=some i→b=b'
 blk:∀ b i L',κ b=some i→s'.h.get b=some L'→LBW (fun b=>(κ b).map .id) (.id i) L' (s1.h.get i)
 frame:∀ b,κ b=none→s'.h.get b=s.h.get b
 fresh:∀ b,s'.n≤b→s'.h.get b=none
 g:s'.g=s.g
theorem Inv.mix {W0:World} {r r1:Ren} {s s1 s':St} {w w':World} {κ : Nat→Option Nat} (hI:Inv W0 r s w) (hI1:Inv W0 r1 s1 w') (hsz:w.heap.size≤w'.heap.size)
  (hrle:r.le (fun b=>match κ b with | some i=>r1 i | none=>r b)) (hn:s.n≤s'.n) (hnew:∀ b i,κ b=some i→∀ x,r1 i=some x→b < s'.n) (hinj:∀ b b' i,κ b=some i→κ b'=some i→b=b')
  (hblk:∀ b i L',κ b=some i→s'.h.get b=some L'→LBW (fun b=>(κ b).map .id) (.id i) L' (s1.h.get i)) (hframe:∀ b,κ b=none→s'.h.get b=s.h.get b) (hfresh:∀ b,s'.n≤b→s'.h.get b=none) (hg:s'.g=s.g)
  (hfar:∀ b B,κ b=none→a1s r s b B→w'.heap[B]? = w.heap[B]?∧¬ a2u r1 s1 B) :
  Inv W0 (fun b=>match κ b with | some i=>r1 i | none=>r b) s' w'∧(∀ B,a2u (fun b=>match κ b with | some i=>r1 i | none=>r b) s' B→a2u r s B∨a2u r1 s1 B) ∧
   ∀ b x,a2o.ren (fun b=>(κ b).map .id) r1 b=some x→(match κ b with | some i=>r1 i | none=>r b)=some x:=by
 have hle:∀ b x,a2o.ren (fun b=>(κ b).map .id) r1 b=some x→(match κ b with | some i=>r1 i | none=>r b)=some x:=fun b x hb=>by
  simp only [a2o.ren] at hb
  cases hk : κ b with
  | none=>simp [hk] at hb
  | some i=>simpa [hk,Src.ren] using hb
 have hlv:∀ b i,κ b=some i→s'.lives b→s1.lives i:=fun b i hk ⟨L,h1,h2⟩=>by
  have:=hblk b i L hk h1
  obtain⟨M,m1,m2⟩:=this.lives h2 (by simp [Src.under])
  exact⟨M,m1,m2⟩
 have hlf:∀ b,κ b=none→s'.lives b→s.lives b:=fun b hk ⟨L,h1,h2⟩=>⟨L,by rw [← hframe b hk]; exact h1,h2⟩
 have hobn:∀ b F cs g,κ b=none→s'.h.get b=some (.obj F cs g)→s.h.get b=some (.obj F cs g)∧∀ B,Own (fun b=>match κ b with | some i=>r1 i | none=>r b) g B↔Own r g B:=fun b F cs g hk hb=>by
  rw [hframe b hk] at hb
  obtain⟨x,k1,k2,_⟩:=hI.ob.holds b F cs g hb
  exact⟨hb,fun B=>⟨fun k=>k2.back hrle k,fun k=>k.mono hrle⟩⟩
 have hobs:∀ b i F cs g,κ b=some i→s'.h.get b=some (.obj F cs g)→∃ g1,s1.h.get i=some (.obj F cs g1)∧∀ B,Own (fun b=>match κ b with | some i=>r1 i | none=>r b) g B↔Own r1 g1 B:=fun b i F cs g hk hb=>by
  have:=hblk b i _ hk hb
  cases hc:s1.h.get i with
  | none=>rw [hc] at this; simp [LBW] at this
  | some L =>
    rw [hc] at this
    cases L <;> simp only [LBW] at this
    rename_i F' cs' g1
    obtain⟨rfl,rfl,h3⟩:=this
    have hkg : κ g=some g1:=by
     cases hq : κ g with
     | none=>simp [hq] at h3
     | some j=>simp [hq] at h3; rw [h3]
    exact⟨g1,rfl,fun B=>by simp only [Own,hkg]⟩
 have hby:∀ b B,a1s (fun b=>match κ b with | some i=>r1 i | none=>r b) s' b B→(κ b=none∧a1s r s b B)∨∃ i,κ b=some i∧a1s r1 s1 i B:=fun b B ho=>by
  cases hk : κ b with
  | none =>
    refine .inl ⟨rfl,?_⟩
    rcases ho with⟨h1,x,h2,h3⟩ | ⟨F,cs,g,h1,h2⟩
    ·simp only [hk] at h2; exact .inl ⟨hlf b hk h1,x,h2,h3⟩
    ·obtain⟨k1,k2⟩:=hobn b F cs g hk h1
     exact .inr ⟨F,cs,g,k1,(k2 B).1 h2⟩
  | some i =>
    refine .inr ⟨i,rfl,?_⟩
    rcases ho with⟨h1,x,h2,h3⟩ | ⟨F,cs,g,h1,h2⟩
    ·simp only [hk] at h2; exact .inl ⟨hlv b i hk h1,x,h2,h3⟩
    ·obtain⟨g1,k1,k2⟩:=hobs b i F cs g hk h1
     exact .inr ⟨F,cs,g1,k1,(k2 B).1 h2⟩
 have huq:∀ b b' B,a1s (fun b=>match κ b with | some i=>r1 i | none=>r b) s' b B→a1s (fun b=>match κ b with | some i=>r1 i | none=>r b) s' b' B→b=b':=fun b b' B k k'=>by
  rcases hby b B k with⟨k1,k2⟩ | ⟨i,k1,k2⟩ <;> rcases hby b' B k' with⟨k1',k2'⟩ | ⟨i',k1',k2'⟩
  ·exact hI.one_owner k2 k2'
  ·exact absurd k2'.owned (hfar b B k1 k2).2
  ·exact absurd k2.owned (hfar b' B k1' k2').2
  ·have:=hI1.one_owner k2 k2'
   subst this
   exact hinj b b' i k1 k1'
 refine⟨⟨hI1.below,fun b x hb=>?_,fun b x hl hb=>?_,hfresh,fun b b' x x' hl hl' hb hb' he=>huq b b' x.1 (.inl ⟨hl,x,hb,rfl⟩) (.inl ⟨hl',x',hb',he.symm⟩),fun b cs op hb=>?_,fun b t p hb=>?_,by rw [hg]; exact hI.gl,fun b cs hb=>?_,fun b F cs g hb=>?_,fun B hB=>?_,fun b F cs g b' x' hb hl hb' ho=>(huq b b' x'.1 (.inr ⟨F,cs,g,hb,ho⟩) (.inl ⟨hl,x',hb',rfl⟩)).symm,fun b F cs g b' F' cs' g' B hb hb' k k'=>huq b b' B (.inr ⟨F,cs,g,hb,k⟩) (.inr ⟨F',cs',g',hb',k'⟩)⟩,fun B ho=>?_,hle⟩
 ·cases hk : κ b with
  | none=>simp only [hk] at hb; exact⟨Nat.lt_of_lt_of_le (hI.dom b x hb).1 hn,Nat.lt_of_lt_of_le (hI.dom b x hb).2 hsz⟩
  | some i=>simp only [hk] at hb; exact⟨hnew b i hk x hb,(hI1.dom i x hb).2⟩
 ·cases hk : κ b with
  | none=>simp only [hk] at hb; exact hI.own b x (hlf b hk hl) hb
  | some i=>simp only [hk] at hb; exact hI1.own i x (hlv b i hk hl) hb
 ·cases hk : κ b with
  | none =>
    rw [hframe b hk] at hb
    rcases hI.cells b cs op hb with⟨q1,q2⟩ | ⟨x,q1,q2⟩
    ·exact .inl ⟨q1,by simp only [hk,q2]⟩
    ·exact .inr ⟨x,by simp only [hk,q1],q2.mono hrle (hfar b x.1 hk (.inl ⟨⟨_,hb,rfl⟩,x,q1,rfl⟩)).1⟩
  | some i =>
    have:=hblk b i _ hk hb
    rcases this.id_cells hI1 with⟨q1,q2⟩ | ⟨x,q1,q2⟩
    ·exact .inl ⟨q1,by simp only [hk,q2]⟩
    ·exact .inr ⟨x,by simp only [hk,q1],q2.mono (fun b x hb=>hle b x hb) rfl⟩
 ·cases hk : κ b with
  | none =>
    rw [hframe b hk] at hb
    obtain⟨x,q1,q2,q3⟩:=hI.iter b t p hb
    refine⟨x,by simp only [hk,q1],q2,?_⟩
    rw [(hfar b x.1 hk (.inl ⟨⟨_,hb,rfl⟩,x,q1,rfl⟩)).1]
    exact q3
  | some i =>
    have:=hblk b i _ hk hb
    obtain⟨x,q1,q2,q3⟩:=this.id_iter hI1
    exact⟨x,by simp only [hk,q1],q2,q3⟩
 ·cases hk : κ b with
  | none =>
    rw [hframe b hk] at hb
    rcases hI.ro b cs hb with⟨q1,q2⟩ | ⟨x,q1,cc,e,f,q2,q3⟩
    ·exact .inl ⟨q1,by simp only [hk,q2]⟩
    exact .inr ⟨x,by simp only [hk,q1],cc,e,f,q2,fun i l hl=>let ⟨g1,u,g2,g3⟩:=q3 i l hl; ⟨g1,u,g2,g3.mono hrle⟩⟩
  | some i =>
    have:=hblk b i _ hk hb
    rcases this.id_ro hI1 with⟨q1,q2⟩ | ⟨x,q1,cc,e,f,q2,q3⟩
    ·exact .inl ⟨q1,by simp only [hk,q2]⟩
    exact .inr ⟨x,by simp only [hk,q1],cc,e,f,q2,fun i l hl=>let ⟨g1,u,g2,g3⟩:=q3 i l hl; ⟨g1,u,g2,g3.mono fun b x hb=>hle b x hb⟩⟩
 ·cases hk : κ b with
  | none =>
    obtain⟨k1,k2⟩:=hobn b F cs g hk hb
    obtain⟨x,q1,q2,q3⟩:=hI.ob.holds b F cs g k1
    refine⟨x,by simp only [hk,q1],(k2 _).2 q2,fun w2 g1 g2 g3=>?_⟩
    rw [funext fun B=>propext (k2 B)]
    refine q3 w2 g1 (Nat.le_trans hsz g2) fun B hB=>?_
    rw [g3 B ((k2 B).2 hB)]
    exact(hfar b B hk (.inr ⟨F,cs,g,k1,hB⟩)).1
  | some i =>
    obtain⟨g1,k1,k2⟩:=hobs b i F cs g hk hb
    obtain⟨x,q1,q2,q3⟩:=hI1.ob.holds i F cs g1 k1
    refine⟨x,by simp only [hk,q1],(k2 _).2 q2,fun w2 p1 p2 p3=>?_⟩
    rw [funext fun B=>propext (k2 B)]
    exact q3 w2 p1 p2 fun B hB=>p3 B ((k2 B).2 hB)
 ·obtain⟨b,F,cs,g,h1,h2⟩:=hB
  rcases hby b B (.inr ⟨F,cs,g,h1,h2⟩) with⟨k1,k2⟩ | ⟨i,k1,k2⟩
  ·have:=hI.owned_in k2.owned; exact⟨this.1,Nat.lt_of_lt_of_le this.2 hsz⟩
  ·exact hI1.owned_in k2.owned
 ·obtain⟨b,ho⟩:=ho.by
  rcases hby b B ho with⟨k1,k2⟩ | ⟨i,k1,k2⟩
  ·exact .inl k2.owned
  ·exact .inr k2.owned
theorem Inv.graft {W0:World} {r r1:Ren} {s s0 s1 s':St} {w w':World} {ρ : List Nat} {κ : Nat→Option Nat} (hI:Inv W0 r s w) (h0:Sub 0 (b1j (ρ.map .id)) s s0) (hn:s0.n = ρ.length)
  (hI1:Inv W0 r1 s1 w') (hE:Ext (a2o.ren (b1j (ρ.map .id)) r) s0 w r1 s1 w') (h:f6a ρ κ s s1 s') :
  Inv W0 (fun b=>match κ b with | some i=>r1 i | none=>r b) s' w'∧Ext r s w (fun b=>match κ b with | some i=>r1 i | none=>r b) s' w' ∧
   ∀ b x,a2o.ren (fun b=>(κ b).map .id) r1 b=some x→(match κ b with | some i=>r1 i | none=>r b)=some x:=by
 have hr0:∀ i b,ρ[i]? = some b→a2o.ren (b1j (ρ.map .id)) r i=r b:=fun i b hi=>by simp [a2o.ren,b1j,hi,Src.ren]
 have hsub:∀ B,B < w.heap.size→a2u (a2o.ren (b1j (ρ.map .id)) r) s0 B→∃ i c,ρ[i]? = some c∧a1s r s c B:=fun B hB ho=>by
  rcases ho with⟨b0,x0,⟨L0,q4,q5⟩,q2,rfl⟩ | ⟨b0,F,cs,g0,q1,q2⟩
  ·obtain⟨src,p1,p2⟩:=h0.blk b0 L0 q4
   simp only [b1j,List.getElem?_map] at p1
   cases hρ : ρ[b0]? with
   | none=>simp [hρ] at p1
   | some c =>
     simp [hρ] at p1; subst p1
     rw [hr0 b0 c hρ] at q2
     obtain⟨M,m1,m2⟩:=p2.lives q5 (by simp [Src.under])
     exact⟨b0,c,hρ,.inl ⟨⟨M,m1,m2⟩,x0,q2,rfl⟩⟩
  ·obtain⟨src,p1,p2⟩:=h0.blk b0 _ q1
   simp only [b1j,List.getElem?_map] at p1
   cases hρ : ρ[b0]? with
   | none=>simp [hρ] at p1
   | some c =>
     simp [hρ] at p1; subst p1
     simp only [Src.under] at p2
     cases hc:s.h.get c with
     | none=>rw [hc] at p2; simp [LBW] at p2
     | some L =>
       rw [hc] at p2
       cases L <;> simp only [LBW] at p2
       rename_i F' cs' g
       obtain⟨rfl,rfl,h3⟩:=p2
       refine⟨b0,c,hρ,.inr ⟨F,cs,g,hc,?_⟩⟩
       simpa only [Own,a2o.ren,h3,Src.ren] using q2
 have hfar:∀ b B,κ b=none→a1s r s b B→¬ a2u (a2o.ren (b1j (ρ.map .id)) r) s0 B:=fun b B hk ho h2=>by
  obtain⟨i,c,q1,q2⟩:=hsub B (hI.owned_in ho.owned).2 h2
  have:=hI.one_owner ho q2
  subst this
  rw [(h.old i b q1).2] at hk; cases hk
 have hrle:r.le (fun b=>match κ b with | some i=>r1 i | none=>r b):=fun b x hb=>by
  cases hk : κ b with
  | none=>simpa [hk] using hb
  | some i =>
    simp only [hk]
    have hbn:=(hI.dom b x hb).1
    exact hE.le i x (by rw [hr0 i b (h.back b i hbn hk)]; exact hb)
 obtain⟨m1,m2,m3⟩:=hI.mix hI1 hE.size hrle h.n (fun b i k x _=>(h.new b i k).1) h.inj h.blk h.frame h.fresh h.g fun b B hk ho =>
  have hB:=(hI.owned_in ho.owned).2
  ⟨hE.keep B hB (hfar b B hk ho),fun k=>hfar b B hk ho (hE.img B hB k)⟩
 refine⟨m1,⟨hrle,h.n,hE.size,fun B hB ho=>?_,fun B hB hno=>hE.keep B hB fun ho=>?_⟩,m3⟩
 ·rcases m2 B ho with k | k
  ·exact k
  ·obtain⟨_,c,_,q⟩:=hsub B hB (hE.img B hB k)
   exact q.owned
 ·obtain⟨_,c,_,q⟩:=hsub B hB ho
  exact hno q.owned
theorem a0k.graft {f:Nat} {args args0:List LV} {s s0:St} {ρ : List Nat} {Q Q':LV→St→Prop} (h0:Sub 0 (b1j (ρ.map .id)) s s0) (hn:s0.n = ρ.length) (ha:a5i (b1j (ρ.map .id)) args0 args) (h:a0k P f args0 s0 Q)
  (hG:∀ l1 s1,Q l1 s1→∃ l s' κ,Q' l s'∧f6a ρ κ s s1 s'∧LVW (fun b=>(κ b).map .id) l l1):a0k P f args s Q':=by
 intro W0 r w us hI hv
 obtain⟨k1,k2⟩:=hI.sub h0
 refine(h W0 _ w us k1 (ha.sound hv)).mono fun e w' ⟨l1,s1,v,r1,q,he,hv',hI1,hE1⟩=>?_
 obtain⟨l,s',κ,g1,g2,g3⟩:=hG l1 s1 q
 obtain⟨m1,m2,m3⟩:=hI.graft h0 hn hI1 hE1 g2
 exact⟨l,s',v,_,g1,he,(g3.sound hv').mono fun b x hb=>m3 b x hb,m1,m2⟩
end
section
open Go.RowKit
noncomputable section
variable {P:Program}
theorem a0p.g9k {nt n0:Nat} {o:Operand} {c d:Code} {tm:Tm} {s:St} {Q:LX→Tm→St→Prop} (ho:b3o (a0q tm) o=some .unb) (h1:a0p P nt c n0 tm s Q) (h2:a0p P nt d n0 tm s Q):a0p P nt (.cond o c d) n0 tm s Q:=by
 intro W0 r a w hI hA K hK
 have:=hA.eval _ _ ho
 simp only [VR] at this
 rcases this with h | h
 ·exact wp_cond_true h (h1 W0 r a w hI hA K hK)
 ·exact wp_cond_false h (h2 W0 r a w hI hA K hK)
theorem a0p.cnd {nt n0:Nat} {o:Operand} {q:Bool} {c d:Code} {tm:Tm} {s:St} {Q:LX→Tm→St→Prop} (ho:b3o (a0q tm) o=some (.bool q)) (h1:q=true→a0p P nt c n0 tm s Q) (h2:q=false→a0p P nt d n0 tm s Q):a0p P nt (.cond o c d) n0 tm s Q:=by
 intro W0 r a w hI hA K hK
 have:=hA.eval _ _ ho
 simp only [VR] at this
 cases q with
 | true=>exact wp_cond_true this (h1 rfl W0 r a w hI hA K hK)
 | false=>exact wp_cond_false this (h2 rfl W0 r a w hI hA K hK)
def a3l:Code→List Code
 | .seq a b=>a3l a++a3l b
 | c=>[c]
def SSp (P:Program) (nt:Nat):List Code→Nat→Tm→St→(LX→Tm→St→Prop)→Prop
 | [],_,tm,s,Q=>Q .normal tm s
 | c::l,n0,tm,s,Q=>a0p P nt c n0 tm s fun x tm' s'=>match x with
   | .normal=>SSp P nt l n0 tm' s' Q
   | x=>Q x tm' s'
theorem SSp.mono {nt n0:Nat} {Q Q':LX→Tm→St→Prop} (hq:∀ x tm s,Q x tm s→Q' x tm s):∀ {l:List Code} {tm:Tm} {s:St},SSp P nt l n0 tm s Q→SSp P nt l n0 tm s Q'
 | [],tm,s,h=>hq _ _ _ h
 | c::l,tm,s,h=>a0p.mono h fun x tm' s' h'=>by
   cases x with
   | normal=>exact SSp.mono hq h'
   | exit id=>exact hq _ _ _ h'
   | ret=>exact hq _ _ _ h'
theorem SSp.append {nt n0:Nat} {Q:LX→Tm→St→Prop}:∀ {l m:List Code} {tm:Tm} {s:St},SSp P nt (l++m) n0 tm s Q→SSp P nt l n0 tm s fun x tm' s'=>match x with
  | .normal=>SSp P nt m n0 tm' s' Q
  | x=>Q x tm' s'
 | [],m,tm,s,h=>h
 | c::l,m,tm,s,h=>a0p.mono h fun x tm' s' h'=>by
   cases x with
   | normal=>exact SSp.append h'
   | exit id=>exact h'
   | ret=>exact h'
theorem SSp.join {nt n0:Nat} {Q:LX→Tm→St→Prop}:∀ {l m:List Code} {tm:Tm} {s:St},(SSp P nt l n0 tm s fun x tm' s'=>match x with
  | .normal=>SSp P nt m n0 tm' s' Q
  | x=>Q x tm' s')→SSp P nt (l++m) n0 tm s Q
 | [],m,tm,s,h=>h
 | c::l,m,tm,s,h=>a0p.mono h fun x tm' s' h'=>by
   cases x with
   | normal=>exact SSp.join h'
   | exit id=>exact h'
   | ret=>exact h'
theorem a0p.h0l {nt n0:Nat}:∀ {c:Code} {tm:Tm} {s:St} {Q:LX→Tm→St→Prop},SSp P nt (a3l c) n0 tm s Q→a0p P nt c n0 tm s Q:=by
 intro c
 induction c with
 | seq a b iha ihb =>
   intro tm s Q h
   refine a0p.seq (iha ?_)
   refine SSp.mono (fun x tm' s' h'=>?_) (SSp.append (l:=a3l a) (m:=a3l b) h)
   cases x with
   | normal=>exact ihb h'
   | exit id=>exact h'
   | ret=>exact h'
 | _ =>
   intro tm s Q h
   refine a0p.mono h fun x tm' s' h'=>?_
   cases x <;> exact h'
def xsp (P:Program) (cx:Cx) (n nt:Nat):List Code→Tm→St→(LX→Tm→St→Prop)→Prop
 | [],tm,s,K=>K .normal tm s
 | c::l,tm,s,K=>a1h P cx n nt c tm s fun x tm' s'=>match x with
   | .normal=>xsp P cx n nt l tm' s' K
   | x=>K x tm' s'
theorem SSp.of_x {cx:Cx} (hcx:a3w P (a2z cx)) {n nt n0:Nat}:∀ {l:List Code} {tm:Tm} {s:St} {Q:LX→Tm→St→Prop},n0≤s.n→xsp P cx n nt l tm s (fun x tm' s'=>n0≤s'.n→Q x tm' s')→SSp P nt l n0 tm s Q
 | [],tm,s,Q,hn,h=>h hn
 | c::l,tm,s,Q,hn,h=>by
   intro W0 r a w hI hA K hK
   obtain⟨x,tm',s',h1,h2⟩:=(c9i (P:=P) (cx:=cx) n).1 _ _ _ _ _ h
   refine(a5f hcx n).1 W0 nt c tm tm' s s' x h1 r a w hI hA K fun r' a' w' k1 k2 k3=>hK x tm' s' r' a' w' ?_ k1 (b6z.of k2 hn) k3
   cases x with
   | normal=>exact SSp.of_x hcx (Nat.le_trans hn k2.n) h2
   | exit id=>exact h2 (Nat.le_trans hn k2.n)
   | ret=>exact h2 (Nat.le_trans hn k2.n)
def c7g (P:Program) (f:Nat):Code:=match P.funcs[f]? with | some fn=>(match fn.body with | some c=>c | none=>.skip) | none=>.skip
def d4n (P:Program) (f:Nat):Nat:=match P.funcs[f]? with | some fn=>fn.ntmps | none=>0
def b8p (P:Program) (f:Nat):List ResultVar:=match P.funcs[f]? with | some fn=>fn.results.toList | none=>[]
def sp (P:Program) (f:Nat):List Code:=a3l (c7g P f)
def seg (l:List Code) (i j:Nat):List Code:=(l.drop i).take j
def a1w:Code→Code
 | .block _ (.loop b)=>b
 | .loop b=>b
 | _=>.skip
def a4i:List Code→Nat→Code
 | [],_=>.skip
 | c::_,0=>c
 | _::l,n+1=>a4i l n
theorem a0p.h0g {nt n0 id:Nat} {b:Code} {Q:LX→Tm→St→Prop} {σ : Type} (L:List Nat) (g:List (Nat×List LV)) (T : σ→List (Nat×LV)) (H : σ→List LB) (μ : σ→Nat) (hn:∀ a,n0≤(H a).length)
  (hr:∀ a,a0p P nt b n0 (a1p nt (T a)) (mkS (H a) g) fun x tm s=>match x with
   | .normal=>s.g=g∧∃ a',μ a' < μ a∧∃ ρ,a4f n0 nt L (a5b L tm) (a5g s) ρ (T a') (H a')
   | .exit k=>cond (Nat.beq k id) (Q .normal tm s) (Q (.exit k) tm s)
   | .ret=>Q .ret tm s) (a : σ):a0p P nt (.block id (.loop b)) n0 (a1p nt (T a)) (mkS (H a) g) Q:=by
 refine a0p.block (a0p.g9y L g T H μ hn (fun a=>(hr a).mono fun x tm s h=>?_) a)
 cases x with
 | normal=>exact h
 | exit k=>exact h
 | ret=>exact h
theorem a0k.h0m {f:Nat} {args:List LV} {tm:Tm} {bs:List LB} {g:List (Nat×List LV)} {Q:LV→St→Prop} (hf:∃ fn c,P.funcs[f]? = some fn∧fn.body=some c∧Nat.ble args.length fn.ntmps=true) (ht:a4q args 0 .leaf=some tm)
  (h:SSp P (d4n P f) (sp P f) bs.length tm (mkS bs g) fun x tm' s'=>c8g x∧∃ vs,a2f P (a0q tm') s' (b8p P f)=some vs∧Q (a4l vs) s'):a0k P f args (mkS bs g) Q:=by
 obtain⟨fn,c,h1,h2,h3⟩:=hf
 have e1:d4n P f=fn.ntmps:=by simp [d4n,h1]
 have e2:b8p P f=fn.results.toList:=by simp [b8p,h1]
 have e3:c7g P f=c:=by simp [c7g,h1,h2]
 rw [e1,e2] at h
 simp only [sp,e3] at h
 refine a0k.body h1 h2 ht h3 ?_
 rw [a2p]
 exact a0p.h0l h
mutual
theorem b4u {ρ : a2o}:∀ {l:LV},b2j l=true→LVW ρ l l
 | .bool _,h | .str _,h=>by simp only [LVW]
 | .int _ _,h=>by simp only [LVW]; exact⟨trivial,trivial⟩
 | .gptr _ _,h=>by simp only [LVW]; exact⟨trivial,trivial⟩
 | .vp _ _,h=>by simp only [LVW]; exact⟨trivial,trivial⟩
 | .nilp,h | .nils,h | .nilFunc,h | .nilIface,h | .unb,h | .val _,h | .sln _,h=>by simp only [LVW]
 | .fact _,h | .sle,h | .any,h | .ptr _ _,h | .sl _ _ _ _,h | .slo _ _ _ _,h | .fn _ _,h=>by simp [b2j] at h
 | .iface _ a,h=>by simp only [b2j] at h; simp only [LVW]; exact⟨trivial,b4u h⟩
 | .agg a,h=>by simp only [b2j] at h; simp only [LVW]; exact a7z h
 | .tup a,h=>by simp only [b2j] at h; simp only [LVW]; exact a7z h
theorem a7z {ρ : a2o}:∀ {a:List LV},a1q a=true→a5i ρ a a
 | [],h=>by simp only [a5i]
 | a::as,h=>by
   simp only [a1q,Bool.and_eq_true] at h
   simp only [a5i]; exact⟨b4u h.1,a7z h.2⟩
end
def a9w (ρ : List Nat) (s:St):List Nat→List LB→Prop
 | [],[]=>True
 | b::bs,L::Ls=>(b < s.n∧∃ M,s.h.get b=some M∧LBW (b1j (ρ.map .id)) (.id b) L (some M)∧∀ κ : a2o,(∀ i c,ρ[i]? = some c→κ c=some (.id i))→LBW κ (.id 0) M (some L))∧a9w ρ s bs Ls
 | _,_=>False
theorem a7a {ρ : List Nat} {s:St}:∀ {bs:List Nat} {Ls:List LB},a9w ρ s bs Ls→bs.length=Ls.length∧∀ (i:Nat) (b:Nat) (L:LB),bs[i]? = some b→Ls[i]? = some L →
  (b < s.n∧∃ M,s.h.get b=some M∧LBW (b1j (ρ.map .id)) (.id b) L (some M)∧∀ κ : a2o,(∀ i c,ρ[i]? = some c→κ c=some (.id i))→LBW κ (.id 0) M (some L))
 | [],[],h=>⟨rfl,fun i b L h1=>by simp at h1⟩
 | b::bs,L::Ls,h=>by
   simp only [a9w] at h
   obtain⟨h1,h2⟩:=a7a h.2
   refine⟨by simp [h1],fun i b' L' k1 k2=>?_⟩
   cases i with
   | zero=>simp at k1 k2; subst k1 k2; exact h.1
   | succ i=>simp at k1 k2; exact h2 i b' L' k1 k2
 | [],_::_,h=>by simp only [a9w] at h
 | _::_,[],h=>by simp only [a9w] at h
theorem LBW.id_any {ρ : a2o} {a b:Nat} {L:LB} {M:Option LB} (h:LBW ρ (.id a) L M):LBW ρ (.id b) L M:=by
 unfold LBW at h ⊢
 cases L <;> cases M <;> first | exact h | (rename_i x; cases x <;> exact h)
theorem Sub.lift {ρ : List Nat} {s:St} {bs:List LB} (hnd : ρ.Nodup) (h:a9w ρ s ρ bs):Sub 0 (b1j (ρ.map .id)) s (mkS bs s.g):=by
 obtain⟨h1,h2⟩:=a7a h
 refine⟨Nat.zero_le _,fun b hb=>absurd hb (Nat.not_lt_zero _),fun b src hb=>?_,fun b hb=>?_,fun b L0 hb=>?_,fun b b' src src' c hl hl' hs hs' hu hu'=>?_,rfl⟩
 ·simp only [b1j,List.getElem?_map] at hb
  cases hρ : ρ[b]? with
  | none=>simp [hρ] at hb
  | some c=>rw [a2p,← h1]; exact(List.getElem?_eq_some_iff.1 hρ).1
 ·rw [a2p] at hb; rw [a0s]; exact List.getElem?_eq_none hb
 ·rw [a0s] at hb
  have hlt:=(List.getElem?_eq_some_iff.1 hb).1
  have hρ : ρ[b]? = some (ρ[b]'(by omega)):=List.getElem?_eq_getElem (by omega)
  obtain⟨q1,M,q2,q3,q4⟩:=h2 b _ L0 hρ hb
  exact⟨.id (ρ[b]'(by omega)),by simp [b1j,hρ],by simp only [Src.under,q2]; exact q3⟩
 ·simp only [b1j,List.getElem?_map] at hs hs'
  cases hρ : ρ[b]? with
  | none=>simp [hρ] at hs
  | some x =>
    cases hρ' : ρ[b']? with
    | none=>simp [hρ'] at hs'
    | some y =>
      simp [hρ] at hs; simp [hρ'] at hs'; subst hs hs'
      simp [Src.under] at hu hu'; subst hu hu'
      have i1:=(List.getElem?_eq_some_iff.1 hρ).1
      have i2:=(List.getElem?_eq_some_iff.1 hρ').1
      exact(List.getElem?_inj i1 hnd).1 (hρ.trans hρ'.symm)
def b9g:List Nat→Nat→Option Nat
 | [],_=>none
 | x::xs,b=>if x=b then some 0 else(b9g xs b).map (· + 1)
theorem a4o:∀ {l:List Nat} {b i:Nat},b9g l b=some i→l[i]? = some b
 | [],b,i,h=>by simp [b9g] at h
 | x::xs,b,i,h=>by
   simp only [b9g] at h
   by_cases e:x=b
   ·simp [e] at h; subst h; subst e; rfl
   ·simp only [e,if_false,Option.map_eq_some_iff] at h
    obtain⟨j,h1,rfl⟩:=h
    simpa using a4o h1
theorem b0k:∀ {l:List Nat} {b i:Nat},l.Nodup→l[i]? = some b→b9g l b=some i
 | [],b,i,hn,h=>by simp at h
 | x::xs,b,0,hn,h=>by simp at h; subst h; simp [b9g]
 | x::xs,b,i+1,hn,h=>by
   simp at h
   rw [List.nodup_cons] at hn
   have:x≠b:=fun e=>hn.1 (by rw [e]; exact List.mem_of_getElem? h)
   simp only [b9g,this,if_false,b0k hn.2 h,Option.map_some]
theorem a0k.h0f {f:Nat} {args args0:List LV} {s:St} (hfr:∀ b,s.n≤b→s.h.get b=none) {bs:List LB} {ρ : List Nat} {v:LV} (hnd : ρ.Nodup) (hl:a9w ρ s ρ bs) (ha:a5i (b1j (ρ.map .id)) args0 args) (hv:b2j v=true)
  (h:a0k P f args0 (mkS bs s.g) fun l s'=>l=v∧s'=mkS bs s.g):a0k P f args s fun l s'=>l=v∧s'=s:=by
 obtain⟨h1,h2⟩:=a7a hl
 refine a0k.graft (Sub.lift hnd hl) (by rw [a2p,h1]) ha h fun l1 s1 ⟨e1,e2⟩=>?_
 subst e1 e2
 refine⟨l1,s,b9g ρ,⟨rfl,rfl⟩,⟨Nat.le_refl _,fun i b hi=>?_,fun b i hb hk=>a4o hk,fun b i hk=>?_,fun b b' i hk hk'=>?_,fun b i L' hk hb=>?_,fun b _=>rfl,hfr,rfl⟩,?_⟩
 ·have hlt:=(List.getElem?_eq_some_iff.1 hi).1
  obtain⟨q1,_⟩:=h2 i b (bs[i]'(by omega)) hi (List.getElem?_eq_getElem (by omega))
  exact⟨q1,b0k hnd hi⟩
 ·have hi:=a4o hk
  have hlt:=(List.getElem?_eq_some_iff.1 hi).1
  obtain⟨q1,_⟩:=h2 i b (bs[i]'(by omega)) hi (List.getElem?_eq_getElem (by omega))
  exact⟨q1,fun hb=>absurd q1 (by omega)⟩
 ·have e1:=a4o hk
  have e2:=a4o hk'
  rw [e1] at e2; simpa using e2
 ·have hi:=a4o hk
  have hlt:=(List.getElem?_eq_some_iff.1 hi).1
  have hL:bs[i]? = some (bs[i]'(by omega)):=List.getElem?_eq_getElem (by omega)
  obtain⟨q1,M,q2,q3,q4⟩:=h2 i b _ hi hL
  rw [hb] at q2; cases q2
  rw [a0s,hL]
  refine(q4 _ fun j c hj=>?_).id_any
  simp only [b0k hnd hj,Option.map_some]
 ·have:∀ {r:a2o} {l:LV},b2j l=true→LVW r l l:=by
   intro r l
   exact b4u
  exact this hv
end
end
section
open Go.RowKit
variable {P:Program}
theorem ways {c:Bool} {A B:Prop} (h1:c=true→A) (h2:c=false→B):cond c A B:=by cases c; exact h2 rfl; exact h1 rfl
theorem g9e {c:Bool} {A:Prop} (h1:c=true) (h2:A):cond c A False:=by rw [h1]; exact h2
theorem b5g {c:Bool} {A B:Prop} (h1:c=true) (h2:A):cond c A B:=by rw [h1]; exact h2
theorem b6v {c:Bool} {A B:Prop} (h1:c=false) (h2:B):cond c A B:=by rw [h1]; exact h2
theorem a9o (x y:Int):xcm .eql x y=decide (x=y):=by simp only [xcm,d3p]; rw [Bool.eq_iff_iff]; simp
theorem c3m (x y:Int):xcm .neq x y = !decide (x=y):=by simp only [xcm,d3p]; rw [Bool.eq_iff_iff]; simp
theorem c3n (x y:Int):xcm .lss x y=decide (x < y):=rfl
theorem a7q (x y:Int):xcm .leq x y=decide (x≤y):=rfl
theorem c9g (x y:Int):xcm .gtr x y=decide (y < x):=rfl
theorem c9h (x y:Int):xcm .geq x y=decide (y≤x):=rfl
theorem c3q (k:IntKind) (x y:Int):xar .add k x y=a8a k (x+y):=rfl
theorem c3p (k:IntKind) (x y:Int):xar .sub k x y=a8a k (x - y):=rfl
theorem c9k (k:IntKind) (x y:Int):xar .mul k x y=a8a k (x * y):=rfl
theorem c9j (k:IntKind) (x y:Int) (h:y≠0):xar .quo k x y=a8a k (x.tdiv y):=by
 have:(y == 0)=false:=by simp [h]
 simp [xar,b2o,this]
theorem d7h (k:IntKind) (x y:Int) (h:y≠0):xar .rem k x y=x.tmod y:=by
 have:(y == 0)=false:=by simp [h]
 simp [xar,b2o,this]
theorem b0c {n:Int} (h1 : -9223372036854775808≤n) (h2:n≤9223372036854775807):a8a .i64 n=n:=by
 rw [a8t]
 by_cases hn:0≤n
 ·have:n % (18446744073709551616:Int)=n:=Int.emod_eq_of_lt hn (by omega)
  simp only [IntKind.wrap,IntKind.bits,IntKind.signed,Int.reducePow,Nat.reduceSub,this]
  rw [if_neg]
  simp; omega
 ·have:n % (18446744073709551616:Int)=n+18446744073709551616:=by omega
  simp only [IntKind.wrap,IntKind.bits,IntKind.signed,Int.reducePow,Nat.reduceSub,this]
  rw [if_pos]
  ·omega
  ·simp; omega
theorem a4x {n:Int} (h1:0≤n) (h2:n≤18446744073709551615):a8a .u64 n=n:=by
 rw [a8t]
 have:n % (18446744073709551616:Int)=n:=Int.emod_eq_of_lt h1 (by omega)
 simp only [IntKind.wrap,IntKind.bits,IntKind.signed,Int.reducePow,this]
 simp
theorem c9l {n:Int} (h1:0≤n) (h2:n≤255):a8a .u8 n=n:=by
 rw [a8t]
 have:n % (256:Int)=n:=Int.emod_eq_of_lt h1 (by omega)
 simp only [IntKind.wrap,IntKind.bits,IntKind.signed,Int.reducePow,this]
 simp
variable {α : Type}
def a0f (f : α→List LV):List α→List LV
 | []=>[]
 | x::r=>f x++a0f f r
theorem a1v {f : α→List LV} {w:Nat} (hw:∀ x,(f x).length=w):∀ xs:List α,(a0f f xs).length=xs.length * w
 | []=>by simp [a0f]
 | x::r=>by simp only [a0f,List.length_append,hw,a1v hw r,List.length_cons]; rw [Nat.succ_mul]; omega
theorem d1d {l:List LV} {i:Nat} {v:LV} (h:l[i]? = some v):a0b l i=v:=by simp only [a0b,b0s,h]
theorem b9l {f : α→List LV} {w:Nat} (hw:∀ x,(f x).length=w):∀ (xs:List α) (i j:Nat) (h:i < xs.length),j < w→(a0f f xs)[i * w+j]? = (f xs[i])[j]?
 | x::r,0,j,h,hj=>by simp only [a0f,Nat.zero_mul,Nat.zero_add]; rw [List.getElem?_append_left (by rw [hw]; exact hj)]; rfl
 | x::r,i+1,j,h,hj=>by
   simp only [a0f]
   rw [List.getElem?_append_right (by rw [hw,Nat.succ_mul]; omega),hw,show(i+1) * w+j - w=i * w+j by rw [Nat.succ_mul]; omega]
   simpa using b9l hw r i j (by simpa using h) hj
theorem a2s {f : α→List LV} {w:Nat} (hw:∀ x,(f x).length=w) {xs:List α} {i j:Nat} (h:i < xs.length) (hj:j < w):a0b (a0f f xs) (i * w+j)=a0b (f xs[i]) j:=by
 have h1:=b9l hw xs i j h hj
 have h2:j < (f xs[i]).length:=by rw [hw]; exact hj
 rw [List.getElem?_eq_getElem h2] at h1
 rw [d1d h1,d1d (List.getElem?_eq_getElem h2)]
theorem a1r (f : α→List LV):∀ (xs ys:List α),a0f f (xs++ys)=a0f f xs++a0f f ys
 | [],ys=>rfl
 | x::r,ys=>by simp [a0f,a1r f r ys]
theorem c7b {f : α→List LV} {w:Nat} (hw:∀ x,(f x).length=w):∀ (xs:List α) (i:Nat) (y : α),i < xs.length→b7d (a0f f xs) (i * w) (f y)=a0f f (xs.set i y)
 | x::r,0,y,h=>by
   simp only [b7d,a0f,Nat.zero_mul,List.take_zero,List.nil_append,Nat.zero_add,List.set_cons_zero,hw]
   rw [List.drop_append,List.drop_of_length_le (by rw [hw]; exact Nat.le_refl _),hw]
   simp
 | x::r,i+1,y,h=>by
   have ih:=c7b hw r i y (by simpa using h)
   simp only [b7d,hw] at ih
   simp only [b7d,a0f,List.set_cons_succ,hw,← ih]
   rw [List.take_append,List.take_of_length_le (by rw [hw,Nat.succ_mul]; omega),hw,List.drop_append,List.drop_of_length_le (by rw [hw,Nat.succ_mul]; omega),hw,
    show(i+1) * w - w=i * w by rw [Nat.succ_mul]; omega,show(i+1) * w+w - w=i * w+w by rw [Nat.succ_mul]; omega]
   simp
theorem d2s {f : α→List LV} {w:Nat} (hw:∀ x,(f x).length=w) {xs:List α} {i j:Nat} {v:LV} {y : α} (h:i < xs.length) (hj:j < w) (hy:b7d (f xs[i]) j [v]=f y):b7d (a0f f xs) (i * w+j) [v]=a0f f (xs.set i y):=by
 rw [← c7b hw xs i y h]
 have hlen:=a1v hw xs
 have hin:i * w+w≤(a0f f xs).length:=by rw [hlen,← Nat.succ_mul]; exact Nat.mul_le_mul_right _ h
 apply List.ext_getElem?
 intro k
 have e1:=b4d _ _ _ _ (b4c (a0f f xs) (i * w+j) [v] (by simp; omega))
 have e2:=b4d _ _ _ _ (b4c (a0f f xs) (i * w) (f y) (by rw [hw]; exact hin))
 have e3:=b4d _ _ _ _ (b4c (f xs[i]) j [v] (by rw [hw]; simp; omega))
 have hl:(b7d (f xs[i]) j [v]).length=w:=by rw [hy,hw]
 simp only [← hy] at e2
 rw [hl] at e2
 have E1:=e1.2.2 k
 have E2:=e2.2.2 k
 simp only [List.length_singleton] at E1
 rw [← hy,E1,E2]
 by_cases hk:i * w≤k∧k < i * w+w
 ·obtain⟨m,rfl⟩:∃ m,k=i * w+m:=⟨k - i * w,by omega⟩
  have E3:=e3.2.2 m
  simp only [List.length_singleton] at E3
  have E4:=b9l hw xs i m h (by omega)
  have:i * w+m - i * w=m:=by omega
  rw [if_pos hk,this,E3]
  by_cases hm:m=j
  ·subst hm
   rw [if_pos (by omega),if_pos (by omega)]
   simp
  ·rw [if_neg (by omega),if_neg (by omega),E4]
 ·rw [if_neg hk,if_neg (by omega)]
theorem a1y {f : α→List LV} (hf:∀ x,a1q (f x)=true):∀ xs:List α,a1q (a0f f xs)=true
 | []=>rfl
 | x::r=>by
   have h1:=a4c.1 (hf x)
   have h2:=a4c.1 (a1y hf r)
   exact a4c.2 fun l hl=>by simp only [a0f,List.mem_append] at hl; exact hl.elim (h1 l) (h2 l)
theorem b2i {cs:List LV} (h:a1q cs=true):LV.any ∉ cs:=fun hm=>by have:=a4c.1 h _ hm; simp [b2j] at this
end
section
open Go.RowKit
variable {P:Program}
abbrev b8y:Ren:=fun _=>none
def a3b (W:World) (v:Value) (len:Nat) (cs:List LV):Prop :=
 (Emp v∧len=0∧cs=[])∨∃ B o cap c e f,v=.slice (some ⟨B,o,none⟩) len cap∧len≤cap∧W.heap[B]? = some (.cells c e f)∧∀ (i:Nat) l,cs[i]? = some l→l.plain=true∧∃ u,c[o+i]? = some u∧VR b8y l u
def c6a (W:World):List (Value×Nat×List LV)→Prop
 | []=>True
 | x::r=>a3b W x.1 x.2.1 x.2.2∧c6a W r
def places:List (Value×Nat×List LV)→List (Option (Nat×Nat×Nat))
 | []=>[]
 | (.slice (some ⟨B,o,none⟩) len (cap+1),_)::r=>some (B,o,cap+1)::places r
 | _::r=>none::places r
theorem b3d {W:World}:∀ {rows:List (Value×Nat×List LV)},c6a W rows→∃ xs:List (Option (Nat×Nat×Nat)),xs.length=rows.length∧∀ (i:Nat) v n cs,rows[i]? = some (v,n,cs)→∃ x,xs[i]? = some x ∧
  ((x=none∧cs=[]∧n=0∧Emp v)∨∃ B o c cc e f,x=some (B,o,c)∧v=.slice (some ⟨B,o,none⟩) n c∧n≤c∧W.heap[B]? = some (.cells cc e f)∧∀ (i:Nat) l,cs[i]? = some l→l.plain=true∧∃ u,cc[o+i]? = some u∧VR b8y l u)
 | [],_=>⟨[],rfl,fun i v n cs h=>by simp at h⟩
 | (v0,n0,cs0)::r,h=>by
   obtain⟨h1,h2⟩:=h
   obtain⟨xs,k1,k2⟩:=b3d h2
   rcases h1 with⟨q1,q2,q3⟩ | ⟨B,o,cap,c,e,f,q1,q2,q3,q4⟩
   ·refine⟨none::xs,by simp [k1],fun i v n cs hi=>?_⟩
    cases i with
    | zero=>simp at hi; obtain⟨rfl,rfl,rfl⟩:=hi; exact⟨none,rfl,.inl ⟨rfl,q3,q2,q1⟩⟩
    | succ i=>simp only [List.getElem?_cons_succ] at hi ⊢; exact k2 i v n cs hi
   ·refine⟨some (B,o,cap)::xs,by simp [k1],fun i v n cs hi=>?_⟩
    cases i with
    | zero=>simp at hi; obtain⟨rfl,rfl,rfl⟩:=hi; exact⟨_,rfl,.inr ⟨B,o,cap,c,e,f,rfl,q1,q2,q3,q4⟩⟩
    | succ i=>simp only [List.getElem?_cons_succ] at hi ⊢; exact k2 i v n cs hi
def a4r (rows:List (Value×Nat×List LV)):List LB:=rows.map fun x=>.ro x.2.2
theorem a0k.top {f:Nat} {rows:List (Value×Nat×List LV)} {g:List (Nat×List LV)} {W:World} {args:List LV} {us:List Value} (hr:c6a W rows) (hg:Gl W g)
  (hv:∀ r:Ren,(∀ (i:Nat) v n cs,rows[i]? = some (v,n,cs)→VR r (.slo i 0 n 0) v)→VRs r args us)
  (h:a0k P f args (mkS (a4r rows) g) fun l _=>l=.bool true):Calls P f us.toArray W fun e W'=>e=.returned (.bool true)∧Below W.heap.size W W':=by
 obtain⟨xs,hl,hx⟩:=b3d hr
 have hnl:∀ b,¬ (mkS (a4r rows) g).lives b:=fun b ⟨L,h1,h2⟩=>by
  rw [a0s] at h1
  simp only [a4r,List.getElem?_map,Option.map_eq_some_iff] at h1
  obtain⟨a,_,rfl⟩:=h1
  cases h2
 have hI:Inv W (fun b=>match xs[b]? with | some x=>x | none=>none) (mkS (a4r rows) g) W:=by
  refine⟨Below.refl _ _,fun b x hb=>?_,fun b x hlv=>absurd hlv (hnl b),fun b hb=>?_,fun b b' x x' hlv=>absurd hlv (hnl b),fun b cs op hb=>?_,fun b t p hb=>?_,hg,fun b cs hb=>?_,c0d.none fun b F cs g hb=>hnl b ⟨_,hb,rfl⟩⟩
  ·cases hxb:xs[b]? with
   | none=>simp [hxb] at hb
   | some y =>
     simp only [hxb] at hb
     subst hb
     have hlt:=(List.getElem?_eq_some_iff.1 hxb).1
     obtain⟨⟨v,n,cs⟩,hrow⟩:∃ q,rows[b]? = some q:=⟨_,List.getElem?_eq_getElem (by omega)⟩
     obtain⟨y,k1,k2⟩:=hx b v n cs hrow
     rw [hxb] at k1; simp at k1; subst k1
     rcases k2 with⟨e,_⟩ | ⟨B,o,c,cc,e,f,k3,k4,k5,k6,k7⟩
     ·cases e
     ·simp at k3; subst k3
      exact⟨by rw [a2p]; simp [a4r]; omega,(Array.getElem?_eq_some_iff.1 k6).1⟩
  ·rw [a0s,List.getElem?_eq_none (by rw [a2p] at hb; exact hb)]
  ·rw [a0s] at hb; simp [a4r] at hb
  ·rw [a0s] at hb; simp [a4r] at hb
  ·rw [a0s] at hb
   simp only [a4r,List.getElem?_map,Option.map_eq_some_iff] at hb
   obtain⟨⟨v,n,ds⟩,hrow,e⟩:=hb
   simp at e; subst e
   obtain⟨y,k1,k2⟩:=hx b v n ds hrow
   simp only [k1]
   rcases k2 with⟨e1,e2,_⟩ | ⟨B,o,c,cc,e,f,k3,k4,k5,k6,k7⟩
   ·exact .inl ⟨e2,e1⟩
   ·exact .inr ⟨_,k3,cc,e,f,k6,fun i l hi=>let ⟨q1,u,q2,q3⟩:=k7 i l hi; ⟨q1,u,q2,q3.mono fun b x hb=>by cases hb⟩⟩
 refine(h W _ W us hI (hv _ fun i v n cs hi=>?_)).mono fun e w' ⟨l,s',v,r',q,he,hu,hi,_⟩=>?_
 ·obtain⟨y,k1,k2⟩:=hx i v n cs hi
  simp only [VR,k1]
  rcases k2 with⟨e1,e2,e3,e4⟩ | ⟨B,o,c,cc,e,f,k3,k4,k5,k6,k7⟩
  ·exact .inr ⟨e3,e4⟩
  ·exact .inl ⟨B,o,c,k3,by omega,by simp [k4]⟩
 ·subst q
  simp only [VR] at hu; subst hu
  exact⟨he,hi.below⟩
theorem c5z {α : Type} {f : α→List LV} {w:Nat} (hw:∀ x,(f x).length=w) {ok : α→Prop} {c:Array Value} {off:Nat}:∀ (len:Nat) (h:∀ i,i < len→∃ x,ok x∧∀ (j:Nat) l,(f x)[j]? = some l→l.plain=true∧∃ u,c[off+i * w+j]? = some u∧VR b8y l u),
  ∃ xs:List α,xs.length=len∧(∀ x∈xs,ok x)∧∀ (k:Nat) l,(a0f f xs)[k]? = some l→l.plain=true∧∃ u,c[off+k]? = some u∧VR b8y l u
 | 0,h=>⟨[],rfl,fun x hx=>by simp at hx,fun k l hk=>by simp [a0f] at hk⟩
 | n+1,h=>by
   obtain⟨xs,h1,h2,h3⟩:=c5z hw n fun i hi=>h i (by omega)
   obtain⟨y,k1,k2⟩:=h n (by omega)
   refine⟨xs++[y],by simp [h1],fun x hx=>?_,fun k l hk=>?_⟩
   ·rcases List.mem_append.1 hx with hx | hx
    ·exact h2 x hx
    ·simp at hx; subst hx; exact k1
   ·rw [a1r] at hk
    have hlen:=a1v hw xs
    by_cases hlt:k < (a0f f xs).length
    ·rw [List.getElem?_append_left hlt] at hk; exact h3 k l hk
    ·rw [List.getElem?_append_right (by omega)] at hk
     simp only [a0f,List.append_nil] at hk
     obtain⟨q1,u,q2,q3⟩:=k2 _ _ hk
     rw [hlen,h1] at q2
     exact⟨q1,u,by rw [← q2]; congr 1; rw [hlen,h1] at hlt; omega,q3⟩
theorem d7u {H:Type} {enc:TypeId×Value→H} {W:World} {t e:TypeId} {a:Option Addr} {len cap:Nat} {d:DataW H} {ps:List MemPlace} {α : Type} {f : α→List LV} {w:Nat} (hw:∀ x,(f x).length=w) (hp:0 < w) {ok : α→Prop}
  (ht:P.underlying t=some (.slice e)) (hC:P.cellsOf e=w) (h:DataW.Trod enc P W 0 (fun _=>true) true t (.slice a len cap) d ps)
  (hel:∀ cs n x,cs.length=w→DataW.trod enc P W 0 (fun _=>true) true n e cs=some x→∃ y,ok y∧∀ (j:Nat) l,(f y)[j]? = some l→l.plain=true∧∃ u,cs[j]? = some u∧VR b8y l u) :
  ∃ xs:List α,xs.length=len∧len≤9223372036854775807∧(∀ x∈xs,ok x)∧a3b W (.slice a len cap) len (a0f f xs):=by
 obtain⟨fuel,hf⟩:=h
 rcases Go.Deep.open_slice ht hf with⟨hcs,_⟩ | ⟨a',len',cap',m,n,D,Pl,hcs,_,hl,hm,hmm,_,hi⟩
 ·simp [Value.cells] at hcs
  obtain⟨rfl,rfl,rfl⟩:=hcs
  exact⟨[],rfl,by omega,fun x hx=>by simp at hx,.inl ⟨.inl rfl,rfl,rfl⟩⟩
 ·simp [Value.cells] at hcs
  obtain⟨rfl,rfl,rfl⟩:=hcs
  have hmc:m=cap:=by simpa using hmm
  have hm':cap≤9223372036854775807:=hm
  by_cases hz:cap=0
  ·subst hz
   obtain rfl:len=0:=by omega
   exact⟨[],rfl,by omega,fun x hx=>by simp at hx,.inl ⟨.inr ⟨_,rfl⟩,rfl,rfl⟩⟩
  have key:∀ i,i < cap→∃ cs' x n',cs'.length=w∧DataW.trod enc P W 0 (fun _=>true) true n' e cs'=some x∧∀ j,j < w→W.cell? (a'.add (i * w+j))=cs'[j]?:=by
   intro i hil
   obtain⟨cs',hc,ht'⟩:=hi i (by omega)
   rw [hC] at hc
   obtain⟨_,hlen,hat⟩:=World.cells?_some hc
   exact⟨cs',_,_,by omega,ht',fun j hj=>by rw [← Go.Deep.add_add]; exact hat j (by omega)⟩
  obtain⟨b,off,spot⟩:=a'
  obtain⟨cs0,x0,n0,l0,_,at0⟩:=key 0 (by omega)
  have hv:=at0 0 hp
  rw [List.getElem?_eq_getElem (by omega)] at hv
  have hspot:spot=none:=by simpa [Addr.add] using World.cell?_spot hv
  subst hspot
  have hadd:∀ k,(⟨b,off,none⟩:Addr).add k=⟨b,off+k,none⟩:=fun k=>by unfold Addr.add; split <;> simp_all
  rw [hadd] at hv
  cases hB:W.heap[b]? with
  | none=>simp [World.cell?,hB] at hv
  | some o =>
    cases o with
    | cells c e1 f1 =>
      obtain⟨xs,k1,k2,k3⟩:=c5z (c:=c) (off:=off) (ok:=ok) hw len fun i hil=>by
       obtain⟨cs',x,n',q1,q2,q3⟩:=key i (by omega)
       obtain⟨y,o1,o2⟩:=hel cs' n' x q1 q2
       refine⟨y,o1,fun j l hj=>?_⟩
       obtain⟨p1,u,p2,p3⟩:=o2 j l hj
       have hjw:j < w:=by have:=(List.getElem?_eq_some_iff.1 hj).1; rw [hw] at this; exact this
       have:=q3 j hjw
       rw [hadd,p2] at this
       exact⟨p1,u,by simpa [World.cell?,hB,Nat.add_assoc] using this,p3⟩
      exact⟨xs,k1,by omega,k2,.inr ⟨b,off,cap,c,e1,f1,rfl,hl,hB,k3⟩⟩
    | _=>simp [World.cell?,hB] at hv
theorem f4y {H:Type} {enc:TypeId×Value→H} {W:World} {e:TypeId} {k:IntKind} (he:P.underlying e=some (.int k)):∀ cs n (x:DataW H×List MemPlace),cs.length=1→DataW.trod enc P W 0 (fun _=>true) true n e cs=some x →
  ∃ y:Int,(k.min≤y∧y≤k.max)∧∀ (j:Nat) l,([LV.int k y]:List LV)[j]? = some l→l.plain=true∧∃ u,cs[j]? = some u∧VR b8y l u:=by
 intro cs n x hl hx
 obtain⟨y,h1,h2,h3⟩:=DataW.trod_int he hx
 subst h1
 refine⟨y,by simpa [Lit.wf] using h3,fun j l hj=>?_⟩
 cases j with
 | zero=>simp at hj; subst hj; exact⟨rfl,_,rfl,by simp only [VR]⟩
 | succ j=>simp at hj
theorem d4z {cx:Cx} (h:∀ f g,cx f=some g→∀ args s bs l s',g args s=some (bs,l,s')→a4b bs→(∀ b,s.n≤b→s.h.get b=none)→a0k P f args s fun l1 s1=>l1=l∧s1=s'):a3w P (a2z cx):=by
 intro f g hf W0 r args s s' l w us hg hI hv
 simp only [a2z] at hf
 cases hc:cx f with
 | none=>simp [hc] at hf
 | some g0 =>
   simp only [hc,Option.some.injEq] at hf
   subst hf
   cases hq:g0 args s with
   | none=>simp [hq] at hg
   | some q =>
     obtain⟨bs,v,s1⟩:=q
     simp only [hq] at hg
     cases ha:f0z bs with
     | false=>simp [ha] at hg
     | true =>
       simp only [ha,Option.some.injEq,Prod.mk.injEq] at hg
       obtain⟨rfl,rfl⟩:=hg
       exact(h f g0 hc args s bs v s1 hq (b9w.1 ha) hI.fresh W0 r w us hI hv).mono fun e w' ⟨l,s',u,r',⟨e1,e2⟩,k⟩=>by subst e1 e2; exact⟨u,r',k⟩
theorem a0k.g9o {fuel f:Nat} {s:St} (hfr:∀ b,s.n≤b→s.h.get b=none) (h:isTrue (lrun P fuel f s.g)=true):a0k P f [] s fun l s'=>l=.bool true∧s'=s:=by
 unfold lrun at h
 cases hf:d1q P d8q fuel f [] ⟨.leaf,0,s.g⟩ with
 | none=>simp [hf,isTrue] at h
 | some p =>
   obtain⟨v,s1⟩:=p
   simp only [hf] at h
   have hv:v=.bool true:=by
    unfold isTrue at h
    split at h
    ·rename_i e; simpa using e
    ·cases h
   subst hv
   have h0:a0k P f [] (mkS [] s.g) fun l s'=>l=.bool true∧s'=s1:=by
    intro W0 r w us hI hu
    have:=(a5f (P:=P) d4o fuel).2 W0 r f [] ⟨.leaf,0,s.g⟩ s1 (.bool true) w us hf hI hu
    exact this.mono fun e w' ⟨u,r',he,k⟩=>⟨_,_,u,r',⟨rfl,rfl⟩,he,k⟩
   refine a0k.graft (ρ:=[]) (Sub.lift (List.nodup_nil) (by simp only [a9w])) (by rw [a2p]; rfl) (by simp [a5i]) h0 fun l1 s2 ⟨e1,e2⟩=>?_
   subst e1
   exact⟨.bool true,s,fun _=>none,⟨rfl,rfl⟩,⟨Nat.le_refl _,fun i b hi=>by simp at hi,fun b i hb hk=>by simp at hk,fun b i hk=>by simp at hk,fun b b' i hk=>by simp at hk,fun b i L' hk=>by simp at hk,fun b _=>rfl,hfr,rfl⟩,by simp only [LVW]⟩
end
section
open Go.RowKit
variable {P:Program}
theorem a3d (k j:IntKind) (n:Int):isI k (.int j n)=decide (j=k):=rfl
theorem a2q (k:IntKind) (n:Int):asI (.int k n)=n:=rfl
theorem d5l (b:Bool):isB (.bool b)=true:=rfl
theorem d5n (b:Bool):asB (.bool b)=b:=rfl
theorem a2w (n:Nat):a0c (n:Int)=n:=Int.toNat_natCast n
theorem c9p (n:Nat):xnn (n:Int)=true:=by simp [xnn]
theorem d5j (n:Int):xnn n=decide (0≤n):=rfl
theorem c9q (a b:Nat):xle a b=decide (a≤b):=by rw [Bool.eq_iff_iff]; simp [xle]
theorem g1w (a:Nat):xz a=decide (a=0):=by rw [Bool.eq_iff_iff]; simp [xz]
theorem f1o (a b:Nat):xeq a b=decide (a=b):=by rw [Bool.eq_iff_iff]; simp [xeq]
theorem a1o (a b:Nat):a0a a b=a+b:=rfl
theorem a5j (o i n:Nat):xix o i n=o+i * n:=rfl
theorem a2g (a b:Nat):a1t a b=a * b:=rfl
theorem f1p (a b:Bool):c5q a b=(a && b):=rfl
theorem a3e (cs:List LV):xln cs=cs.length:=rfl
end
section
open Go.RowKit
variable {P:Program}
theorem a0j:a3w P (a2z fun _=>none):=fun f g h=>by simp [a2z] at h
abbrev Glb:=List (Nat×List LV)
abbrev Pk:=LX→List LV→List (Option LB)→Glb→Prop
def vK (L:List Nat) (K:Pk):LX→Tm→St→Prop:=fun x tm s=>K x (a5b L tm) (a5g s) s.g
variable {σ : Type}
def toK (n0 nt:Nat) (L:List Nat) (g:Glb) (T : σ→List (Nat×LV)) (H : σ→List LB) (Φ : Pk):Pk:=fun x vs bs g'=>match x with
 | .normal=>g'=g∧∃ a ρ,a4f n0 nt L vs bs ρ (T a) (H a)
 | .exit k=>Φ (.exit k) vs bs g'
 | .ret=>Φ .ret vs bs g'
def f3q (n0 nt id:Nat) (L:List Nat) (g:Glb) (T : σ→List (Nat×LV)) (H : σ→List LB) (μ : σ→Nat) (a : σ) (Φ : Pk):Pk:=fun x vs bs g'=>match x with
 | .normal=>g'=g∧∃ a',μ a' < μ a∧∃ ρ,a4f n0 nt L vs bs ρ (T a') (H a')
 | .exit k=>cond (Nat.beq k id) (Φ .normal vs bs g') (Φ (.exit k) vs bs g')
 | .ret=>Φ .ret vs bs g'
def d9l (n0:Nat) (ts:List Nat) (L:List Nat) (g:Glb) (Q:LV→List LB→Prop):Pk:=fun x vs bs g'=>c8g x∧g'=g∧∃ l0 b0 ρ,Q l0 b0∧a4f n0 1 [0] [a4l (ts.map (b1b L vs))] bs ρ [(0,l0)] b0
theorem a0p.vc {cx:Cx} (hcx:a3w P (a2z cx)) {n nt n0:Nat} {c:Code} {tm:Tm} {s:St} {L:List Nat} {Φ : Pk} (hn:n0≤s.n) (h:a1h P cx n nt c tm s (vK L Φ)):a0p P nt c n0 tm s (vK L Φ):=a0p.of_x hcx hn h
theorem SSp.vc {cx:Cx} (hcx:a3w P (a2z cx)) {n nt n0:Nat}:∀ {l:List Code} {tm:Tm} {s:St} {Q:LX→Tm→St→Prop},n0≤s.n→xsp P cx n nt l tm s Q→SSp P nt l n0 tm s Q
 | [],tm,s,Q,hn,h=>h
 | c::l,tm,s,Q,hn,h=>by
   intro W0 r a w hI hA K hK
   obtain⟨x,tm',s',h1,h2⟩:=(c9i (P:=P) (cx:=cx) n).1 _ _ _ _ _ h
   refine(a5f hcx n).1 W0 nt c tm tm' s s' x h1 r a w hI hA K fun r' a' w' k1 k2 k3=>hK x tm' s' r' a' w' ?_ k1 (b6z.of k2 hn) k3
   cases x with
   | normal=>exact SSp.vc hcx (Nat.le_trans hn k2.n) h2
   | exit id=>exact h2
   | ret=>exact h2
theorem d5q {nt n0:Nat} {l:List Code} {L:List Nat} {g:Glb} {T : σ→List (Nat×LV)} {H : σ→List LB} {Φ : Pk} (hl:l≠[]) (h:∀ a,SSp P nt l n0 (a1p nt (T a)) (mkS (H a) g) (vK L Φ)) {x:LX} {tm:Tm} {s:St} (k:vK L (toK n0 nt L g T H Φ) x tm s) :
  match x with | .normal=>SSp P nt l n0 tm s (vK L Φ) | x=>vK L Φ x tm s:=by
 cases x with
 | normal =>
   obtain⟨hg,a,ρ,hc⟩:=k
   have hh:=h a
   cases l with
   | nil=>exact absurd rfl hl
   | cons c l=>exact a0p.g9z hg hc hh
 | exit id=>exact k
 | ret=>exact k
theorem b9m (l:List Code) (i j:Nat):l.drop i=seg l i j++l.drop (i+j):=by
 simp only [seg,← List.drop_drop]
 exact(List.take_append_drop j _).symm
theorem a6b:∀ (l:List Code) (k:Nat),k < l.length→l.drop k=a4i l k::l.drop (k+1)
 | [],k,h=>absurd h (by simp)
 | c::l,0,h=>rfl
 | c::l,k+1,h=>by simpa [a4i] using a6b l k (by simpa using h)
theorem SSp.to {cx:Cx} (hcx:a3w P (a2z cx)) {n nt n0:Nat} {l:List Code} {i:Nat} (j k:Nat) (hk:i+j=k:=by rfl) {tm:Tm} {s:St} {L:List Nat} {g:Glb} {Φ : Pk} (T : σ→List (Nat×LV)) (H : σ→List LB) (hn:n0≤s.n) (hl:Nat.blt k l.length=true)
  (h1:xsp P cx n nt (seg l i j) tm s (vK L (toK n0 nt L g T H Φ))) (h2:∀ a,SSp P nt (l.drop k) n0 (a1p nt (T a)) (mkS (H a) g) (vK L Φ)):SSp P nt (l.drop i) n0 tm s (vK L Φ):=by
 subst hk
 rw [b9m l i j]
 have:=Nat.le_of_ble_eq_true hl
 refine SSp.join (SSp.mono (fun x tm s h=>?_) (SSp.vc hcx hn h1))
 have k:=d5q (fun e=>by have h3:=congrArg List.length e; simp at h3; omega) h2 h
 cases x <;> exact k
theorem SSp.code_to {nt n0:Nat} {l:List Code} {i:Nat} (k:Nat) (hk:i+1=k:=by rfl) {tm:Tm} {s:St} {L:List Nat} {g:Glb} {Φ : Pk} (T : σ→List (Nat×LV)) (H : σ→List LB) (hl:Nat.blt k l.length=true)
  (h1:a0p P nt (a4i l i) n0 tm s (vK L (toK n0 nt L g T H Φ))) (h2:∀ a,SSp P nt (l.drop k) n0 (a1p nt (T a)) (mkS (H a) g) (vK L Φ)):SSp P nt (l.drop i) n0 tm s (vK L Φ):=by
 subst hk
 have:=Nat.le_of_ble_eq_true hl
 rw [a6b l i (by omega)]
 refine a0p.mono h1 fun x tm s h=>?_
 have k:=d5q (fun e=>by have h3:=congrArg List.length e; simp at h3; omega) h2 h
 cases x <;> exact k
theorem SSp.last {cx:Cx} (hcx:a3w P (a2z cx)) {n nt n0:Nat} {l:List Code} {i:Nat} {tm:Tm} {s:St} {L:List Nat} {Φ : Pk} (hn:n0≤s.n) (h:xsp P cx n nt (l.drop i) tm s (vK L Φ)):SSp P nt (l.drop i) n0 tm s (vK L Φ):=SSp.vc hcx hn h
def d1w (id:Nat):Code→Bool
 | .block i (.loop _)=>Nat.beq i id
 | _=>false
theorem c1z {id:Nat}:∀ {c:Code},d1w id c=true→c=.block id (.loop (a1w c))
 | .block i (.loop b),h=>by
   have:=Nat.eq_of_beq_eq_true h
   subst this; rfl
theorem a0p.g9s {cx:Cx} (hcx:a3w P (a2z cx)) {n nt n0:Nat} (id:Nat) {c:Code} (hc:d1w id c=true) {L:List Nat} {g:Glb} {Φ : Pk} (T : σ→List (Nat×LV)) (H : σ→List LB) (μ : σ→Nat) (hn:∀ a,n0≤(H a).length)
  (hr:∀ a,a1h P cx n nt (a1w c) (a1p nt (T a)) (mkS (H a) g) (vK L (f3q n0 nt id L g T H μ a Φ))) (a : σ):a0p P nt c n0 (a1p nt (T a)) (mkS (H a) g) (vK L Φ):=by
 rw [c1z hc]
 refine a0p.h0g L g T H μ hn (fun a=>a0p.mono (a0p.vc hcx (by rw [a2p]; exact hn a) (hr a)) fun x tm s h=>?_) a
 cases x with
 | normal=>exact h
 | exit k=>exact h
 | ret=>exact h
theorem a0p.g9t {nt n0:Nat} (id:Nat) {c:Code} (hc:d1w id c=true) {L:List Nat} {g:Glb} {Φ : Pk} (T : σ→List (Nat×LV)) (H : σ→List LB) (μ : σ→Nat) (hn:∀ a,n0≤(H a).length)
  (hr:∀ a,SSp P nt ((a3l (a1w c)).drop 0) n0 (a1p nt (T a)) (mkS (H a) g) (vK L (f3q n0 nt id L g T H μ a Φ))) (a : σ):a0p P nt c n0 (a1p nt (T a)) (mkS (H a) g) (vK L Φ):=by
 rw [c1z hc]
 refine a0p.h0g L g T H μ hn (fun a=>a0p.mono (a0p.h0l (hr a)) fun x tm s h=>?_) a
 cases x with
 | normal=>exact h
 | exit k=>exact h
 | ret=>exact h
def tmps:List Nat→List ResultVar
 | []=>[]
 | t::ts=>.tmp t::tmps ts
theorem b2k {tm:Nat→LV} {s:St}:∀ (ts:List Nat),a2f P tm s (tmps ts)=some (ts.map tm)
 | []=>rfl
 | t::ts=>by
   have:=b2k (tm:=tm) (s:=s) ts
   simp only [tmps,a2f,this,List.map_cons]
def b6y:List Nat→List Nat→Bool
 | [],_=>true
 | t::ts,L=>!b2f t L && b6y ts L
theorem b1u {tm:Tm}:∀ {L:List Nat} {t:Nat},b2f t L=false→b1b L (a5b L tm) t=a0q tm t
 | [],t,h=>by simp [b2f] at h
 | x::L,t,h=>by
   simp only [a5b,b1b,a0t]
   by_cases e:x=t
   ·subst e; simp
   ·simp only [e,decide_false,cond_false]
    refine b1u ?_
    simp only [b2f,a0t] at h
    simpa [Ne.symm e] using h
theorem c3s {tm:Tm} {L:List Nat}:∀ {ts:List Nat},b6y ts L=true→ts.map (b1b L (a5b L tm))=ts.map (a0q tm)
 | [],h=>rfl
 | t::ts,h=>by
   simp only [b6y,Bool.and_eq_true,Bool.not_eq_true'] at h
   simp only [List.map_cons,c3s h.2,b1u h.1]
def tm0 (args:List LV):Tm:=match a4q args 0 .leaf with | some tm=>tm | none=>.leaf
def fnOk (P:Program) (f nt:Nat) (ts:List Nat) (na:Nat):Bool:=match P.funcs[f]? with
 | some fn=>(match fn.body with | some _=>Nat.beq fn.ntmps nt && Nat.ble na nt && resEq fn.results.toList ts | none=>false)
 | none=>false
where
 resEq:List ResultVar→List Nat→Bool
  | [],[]=>true
  | .tmp t::r,u::us=>Nat.beq t u && resEq r us
  | _,_=>false
theorem b8q:∀ {r:List ResultVar} {us:List Nat},fnOk.resEq r us=true→r=tmps us
 | [],[],h=>rfl
 | .tmp t::r,u::us,h=>by
   simp only [fnOk.resEq,Bool.and_eq_true] at h
   rw [tmps,← b8q h.2,Nat.eq_of_beq_eq_true h.1]
 | [],_::_,h=>by simp [fnOk.resEq] at h
 | .tmp _::_,[],h=>by simp [fnOk.resEq] at h
 | .cell _ _::_,_,h=>by simp [fnOk.resEq] at h
theorem a0k.g9n {f:Nat} {args:List LV} {bs:List LB} {g:Glb} {Q:LV→List LB→Prop} (nt n0:Nat) (L ts:List Nat) (hf:fnOk P f nt ts args.length=true) (hn0:bs.length=n0) (ht:(a4q args 0 .leaf).isSome=true)
  (hin:b6y ts L=true) (h:SSp P nt ((sp P f).drop 0) n0 (tm0 args) (mkS bs g) (vK L (d9l n0 ts L g Q))):a0k P f args (mkS bs g) fun l s'=>∃ b0,Q l b0∧s'=mkS b0 g:=by
 have ht':a4q args 0 .leaf=some (tm0 args):=by
  unfold tm0
  cases hi:a4q args 0 .leaf with
  | none=>rw [hi] at ht; cases ht
  | some t=>rfl
 obtain⟨fn,c,h1,h2,h3,h4,h5⟩:∃ fn c,P.funcs[f]? = some fn∧fn.body=some c∧fn.ntmps=nt∧args.length≤nt∧fn.results.toList=tmps ts:=by
  unfold fnOk at hf
  split at hf
  ·rename_i fn h1
   split at hf
   ·rename_i c h2
    simp only [Bool.and_eq_true] at hf
    exact⟨fn,c,h1,h2,Nat.eq_of_beq_eq_true hf.1.1,Nat.le_of_ble_eq_true hf.1.2,b8q hf.2⟩
   ·cases hf
  ·cases hf
 have hnt:d4n P f=nt:=by simp only [d4n,h1,h3]
 have hres:b8p P f=tmps ts:=by simp only [b8p,h1,h5]
 have h1':a0k P f args (mkS bs g) fun l s'=>s'.g=g∧∃ l0 b0 ρ,Q l0 b0∧a4f (mkS bs g).n 1 [0] [l] (a5g s') ρ [(0,l0)] b0:=by
  refine a0k.h0m ⟨fn,c,h1,h2,Nat.ble_eq_true_of_le (by omega)⟩ ht' ?_
  rw [List.drop_zero] at h
  rw [hnt,hn0]
  refine SSp.mono (fun x tm' s' k=>?_) h
  obtain⟨k1,k2,l0,b0,ρ,k3,k4⟩:=k
  rw [c3s hin] at k4
  exact⟨k1,_,by rw [hres]; exact b2k ts,k2,l0,b0,ρ,k3,by rw [a2p,hn0]; exact k4⟩
 refine a0k.conv h1' fun l s' ⟨e,l0,b0,ρ,q,k⟩=>?_
 exact⟨l0,b0,ρ,⟨b0,q,by rw [e]⟩,k⟩
theorem a0y {bs:List LB} {g:Glb} {n:Nat} (h:n≤bs.length):n≤(mkS bs g).n:=by rw [a2p]; exact h
abbrev Gc:=List LV→St→Option (List Bool×LV×St)
def GOk (P:Program) (f:Nat) (g:Gc):Prop:=∀ args s bs l s',g args s=some (bs,l,s')→a4b bs→(∀ b,s.n≤b→s.h.get b=none)→a0k P f args s fun l1 s1=>l1=l∧s1=s'
def cxl:List (Nat×Gc)→Cx
 | [],_=>none
 | (f,g)::r,k=>cond (Nat.beq k f) (some g) (cxl r k)
def g1t (P:Program):List (Nat×Gc)→Prop
 | []=>True
 | x::r=>GOk P x.1 x.2∧g1t P r
theorem d6w:∀ {l:List (Nat×Gc)} {f:Nat} {g:Gc},g1t P l→cxl l f=some g→GOk P f g
 | [],f,g,h,e=>by cases e
 | (f0,g0)::r,f,g,h,e=>by
   simp only [cxl] at e
   cases hb:Nat.beq f f0 with
   | true =>
     rw [hb] at e
     simp only [cond_true,Option.some.injEq] at e
     subst e
     rw [Nat.eq_of_beq_eq_true hb]; exact h.1
   | false=>rw [hb] at e; exact d6w h.2 e
theorem a6i {l:List (Nat×Gc)} (h:g1t P l):a3w P (a2z (cxl l)):=d4z fun f g hf=>d6w h hf
theorem a3j {s:St} (hfr:∀ b,s.n≤b→s.h.get b=none) {b:Nat} {L:LB} (h:s.h.get b=some L):b < s.n:=by
 rcases Nat.lt_or_ge b s.n with k | k
 ·exact k
 ·rw [hfr b k] at h; cases h
end
section
open Go.RowKit
variable {P:Program}
theorem c1d {ρ : a2o} {v:LV}:LVW ρ .any v:=by simp only [LVW]
theorem a1u {ρ : a2o} {k:IntKind} {n:Int}:LVW ρ (.int k n) (.int k n):=by simp only [LVW]; exact⟨trivial,trivial⟩
theorem a5r {ρ : a2o} {b:Bool}:LVW ρ (.bool b) (.bool b):=by simp only [LVW]
theorem d6j {ρ : a2o} {b:List UInt8}:LVW ρ (.str b) (.str b):=by simp only [LVW]
theorem d1j {ρ : a2o}:LVW ρ .nilp .nilp:=by simp only [LVW]
theorem b6b {ρ : a2o}:LVW ρ .nils .nils:=by simp only [LVW]
theorem d6i {ρ : a2o} {b:Bool}:LVW ρ .unb (.bool b):=by simp only [LVW]
theorem a1b {ρ : a2o} {l:LV} (h:b2j l=true):LVW ρ l l:=b4u h
theorem a2v {ρ : a2o} {b c o:Nat} (h : ρ b=some (.id c)):LVW ρ (.ptr b o) (.ptr c o):=by simp only [LVW,h]; exact⟨trivial,trivial⟩
theorem d1h {ρ : a2o}:LVW ρ (.val (.slice none 0 0)) .nils:=by simp only [LVW]
theorem d1k {ρ : a2o} {b o:Nat}:LVW ρ (.gptr b o) (.gptr b o):=by simp only [LVW]; exact⟨trivial,trivial⟩
theorem d8s {ρ : a2o} {b c o n m:Nat} (h : ρ b=some (.id c)):LVW ρ (.sl b o n m) (.sl c o n m):=by simp only [LVW,h]; exact⟨trivial,trivial,trivial,trivial⟩
theorem a0n {ρ : a2o} {b c o n m:Nat} (h : ρ b=some (.id c)):LVW ρ (.slo b o n m) (.slo c o n m):=by simp only [LVW,h]; exact⟨trivial,trivial,trivial,trivial⟩
theorem a6y {ρ : a2o} {b o m:Nat}:LVW ρ (.slo b o 0 m) .nils:=by simp only [LVW]
theorem b7p {ρ : a2o} {b o m:Nat}:LVW ρ (.slo b o 0 m) .sle:=by simp only [LVW]
theorem c1c {ρ : a2o} {b c o1 n k:Nat} (h : ρ b=some (.cap c o1 k)) (hn:n≤k):LVW ρ (.slo b 0 n 0) (.sl c o1 n k):=by simp only [LVW,h]; exact⟨trivial,rfl,trivial,by omega,rfl⟩
theorem a0u {ρ : a2o}:a5i ρ [] []:=by simp only [a5i]
theorem a0d {ρ : a2o} {a b:LV} {as bs:List LV} (h:LVW ρ a b) (k:a5i ρ as bs):a5i ρ (a::as) (b::bs):=by simp only [a5i]; exact⟨h,k⟩
theorem a1d {ρ : List Src} {nt:Nat} {L:List Nat} {vs:List LV}:b5u ρ nt L vs []:=by simp only [b5u]
theorem a0w {ρ : List Src} {nt:Nat} {L:List Nat} {vs:List LV} {t:Nat} {l:LV} {as:List (Nat×LV)} (h:LVW (b1j ρ) l (b1b L vs t)) (k:b5u ρ nt L vs as):b5u ρ nt L vs ((t,l)::as):=by simp only [b5u]; exact⟨h,k⟩
theorem a0x {ρ : List Src} {bs:List (Option LB)}:a9u ρ bs [] []:=by simp only [a9u]
theorem a0r {ρ : List Src} {bs:List (Option LB)} {s:Src} {ss:List Src} {L:LB} {Ls:List LB} (h:LBW (b1j ρ) s L (match s.under with | some c=>c2v bs c | none=>none)) (k:a9u ρ bs ss Ls):a9u ρ bs (s::ss) (L::Ls):=by simp only [a9u]; exact⟨h,k⟩
theorem a1e {ρ : a2o} {s:Src} {M:Option LB}:LBW ρ s .dead M:=by simp only [LBW]
theorem a0e {ρ : a2o} {c:Nat} {cs:List LV} {op:Option Nat} (h:a1q cs=true):LBW ρ (.id c) (.cells cs op) (some (.cells cs op)):=by simp only [LBW]; exact⟨trivial,.inl ⟨rfl,h⟩,b2i h⟩
theorem a0o {ρ : a2o} {c:Nat} {cs0 cs:List LV} {op:Option Nat} (h:a5i ρ cs0 cs) (k:LV.any ∉ cs0):LBW ρ (.id c) (.cells cs0 op) (some (.cells cs op)):=by simp only [LBW]; exact⟨trivial,.inr h,k⟩
theorem f8z {ρ : a2o} {c:Nat} {cs:List LV} (h:a1q cs=true):LBW ρ (.id c) (.ro cs) (some (.ro cs)):=by simp only [LBW]; exact⟨.inl ⟨rfl,h⟩,b2i h⟩
theorem c4u {ρ : a2o} {M:Option LB} {op:Option Nat}:LBW ρ .none (.cells [] op) M:=by simp only [LBW]
theorem f3x {ρ : a2o} {c o k es:Nat} {cs0 cs:List LV} (h1:cs0.length≤k * es) (h2:o+k * es≤cs.length) (h3:cs0=a3o cs o cs0.length) (h:a1q cs0=true):LBW ρ (.cap c o k) (.cells cs0 (some es)) (some (.cells cs none)):=by simp only [LBW]; exact⟨h1,h2,.inl ⟨h3,h⟩,b2i h⟩
theorem a2e {ρ : a2o} {c:Nat} {t:List UInt8} {p:Nat}:LBW ρ (.id c) (.iter t p) (some (.iter t p)):=by simp only [LBW]; exact⟨trivial,trivial⟩
end
section
open Go.RowKit
variable {P:Program} {α : Type}
def tab (f : α→List LV) (n:Nat) (g:Nat→α):List LV:=a0f f ((List.range n).map g)
theorem c3t {f : α→List LV} {w:Nat} (hw:∀ x,(f x).length=w) (n:Nat) (g:Nat→α):(tab f n g).length=n * w:=by
 rw [tab,a1v hw]; simp
theorem b2h {f : α→List LV} (hf:∀ x,a1q (f x)=true) (n:Nat) (g:Nat→α):a1q (tab f n g)=true:=a1y hf _
def cI (k:IntKind) (x:Int):List LV:=[.int k x]
def cB (b:Bool):List LV:=[.bool b]
def cII (k j:IntKind) (x:Int×Int):List LV:=[.int k x.1,.int j x.2]
theorem c7e (k:IntKind) (x:Int):(cI k x).length=1:=rfl
theorem f5p (x:Bool):(cB x).length=1:=rfl
theorem f0d (k j:IntKind) (x:Int×Int):(cII k j x).length=2:=rfl
theorem d3b (k:IntKind) (n:Nat) (g:Nat→Int):(tab (cI k) n g).length=n:=by rw [c3t (c7e k)]; omega
theorem d3c (n:Nat) (g:Nat→Bool):(tab cB n g).length=n:=by rw [c3t f5p]; omega
theorem c7f (k j:IntKind) (n:Nat) (g:Nat→Int×Int):(tab (cII k j) n g).length=n * 2:=c3t (f0d k j) n g
end
section
open Go.RowKit
variable {P:Program}
theorem a5c {x y:Int} (h1 : -9223372036854775808≤x+y) (h2:x+y≤9223372036854775807):xar .add .i64 x y=x+y:=b0c h1 h2
theorem c3u {x y:Int} (h1 : -9223372036854775808≤x - y) (h2:x - y≤9223372036854775807):xar .sub .i64 x y=x - y:=b0c h1 h2
theorem a7t {k n:Nat} (h:k < n) (hn:n≤9223372036854775807):xar .add .i64 (k:Int) 1=((k+1:Nat):Int):=by rw [a5c (by omega) (by omega)]; omega
theorem f1n {a b:Nat}:xcm .lss (a:Int) (b:Int)=decide (a < b):=by rw [c3n]; simp
theorem f1m {a b:Nat}:xcm .neq (a:Int) (b:Int) = !decide (a=b):=by
 rw [c3m]; congr 1; rw [Bool.eq_iff_iff]; simp only [decide_eq_true_eq]; omega
theorem d9e {c:Prop} [Decidable c] {A B:Prop} (h1:c→A) (h2:¬ c→B):cond (decide c) A B:=by
 by_cases h:c
 ·simp only [h,decide_true,cond_true]; exact h1 h
 ·simp only [h,decide_false,cond_false]; exact h2 h
theorem b8h:a3i true=false:=rfl
theorem b8i:a3i false=true:=rfl
theorem c5r (b:Bool):c5q true b=b:=rfl
theorem c5s (b:Bool):c5q false b=false:=rfl
theorem a1n {a b:Nat} (h:a≤b):xle a b=true:=by rw [c9q]; simpa using h
theorem d9k {a b:Nat} (h:b < a):xle a b=false:=by rw [c9q]; simpa using h
theorem c2x {a b:Nat} (h:a=b):xeq a b=true:=by rw [f1o]; simpa using h
theorem g8e {a b:Nat} (h:a≠b):xeq a b=false:=by rw [f1o]; simpa using h
theorem t_z {a:Nat} (h:a=0):xz a=true:=by rw [g1w]; simpa using h
theorem f_z {a:Nat} (h:a≠0):xz a=false:=by rw [g1w]; simpa using h
theorem g3t {n:Int} (h:0≤n):xnn n=true:=by rw [d5j]; simpa using h
theorem a6j {x y:Int} (h:x < y):xcm .lss x y=true:=by rw [c3n]; simpa using h
theorem a6h {x y:Int} (h:y≤x):xcm .lss x y=false:=by rw [c3n]; simpa using h
theorem a9k {x y:Int} (h:x≤y):xcm .leq x y=true:=by rw [a7q]; simpa using h
theorem c5a {x y:Int} (h:y < x):xcm .leq x y=false:=by rw [a7q]; simpa using h
theorem a7w {x y:Int} (h:y < x):xcm .gtr x y=true:=by rw [c9g]; simpa using h
theorem a7e {x y:Int} (h:x≤y):xcm .gtr x y=false:=by rw [c9g]; simpa using h
theorem b3a {x y:Int} (h:y≤x):xcm .geq x y=true:=by rw [c9h]; simpa using h
theorem b6o {x y:Int} (h:x < y):xcm .geq x y=false:=by rw [c9h]; simpa using h
theorem a2i {x y:Int} (h:x=y):xcm .eql x y=true:=by rw [a9o]; simpa using h
theorem a2c {x y:Int} (h:x≠y):xcm .eql x y=false:=by rw [a9o]; simpa using h
theorem a8n {x y:Int} (h:x≠y):xcm .neq x y=true:=by rw [c3m]; simpa using h
theorem a9b {x y:Int} (h:x=y):xcm .neq x y=false:=by rw [c3m]; simpa using h
end
section
open Go.RowKit
variable {P:Program}
def b1k (ρ : List Nat) (n k:Nat) (m:Nat) (b:Nat):Option Nat:=if b < n then b9g ρ b else if b < n+m then some (k+(b - n)) else none
structure f5z (ρ : List Nat) (s s':St) (k:Nat) (bs':List LB):Prop where
 n:s'.n=s.n+(bs'.length - k)
 g:s'.g=s.g
 frame:∀ b,b < s.n→b ∉ ρ→s'.h.get b=s.h.get b
 fresh:∀ b,s'.n≤b→s'.h.get b=none
 old:∀ (i b:Nat) L',ρ[i]? = some b→s'.h.get b=some L'→LBW (fun b=>(b1k ρ s.n k (bs'.length - k) b).map .id) (.id i) L' bs'[i]?
 new:∀ j L',j < bs'.length - k→s'.h.get (s.n+j)=some L'→LBW (fun b=>(b1k ρ s.n k (bs'.length - k) b).map .id) (.id (k+j)) L' bs'[k+j]?
theorem a0k.lift {f:Nat} {args args0:List LV} {s s':St} (hfr:∀ b,s.n≤b→s.h.get b=none) {bs bs':List LB} {ρ : List Nat} {v v0:LV} (hnd : ρ.Nodup) (hl:a9w ρ s ρ bs) (ha:a5i (b1j (ρ.map .id)) args0 args)
  (h:a0k P f args0 (mkS bs s.g) fun l t=>l=v0∧t=mkS bs' s.g) (hk:bs.length≤bs'.length) (hL:f5z ρ s s' bs.length bs') (hv:LVW (fun b=>(b1k ρ s.n bs.length (bs'.length - bs.length) b).map .id) v v0) :
  a0k P f args s fun l t=>l=v∧t=s':=by
 obtain⟨h1,h2⟩:=a7a hl
 have hlt:∀ (i b:Nat),ρ[i]? = some b→b < s.n∧i < bs.length:=fun i b hi=>by
  have hlt:=(List.getElem?_eq_some_iff.1 hi).1
  exact⟨(h2 i b (bs[i]'(by omega)) hi (List.getElem?_eq_getElem (by omega))).1,by omega⟩
 refine a0k.graft (Sub.lift hnd hl) (by rw [a2p,h1]) ha h fun l1 s1 ⟨e1,e2⟩=>?_
 subst e1 e2
 refine⟨v,s',b1k ρ s.n bs.length (bs'.length - bs.length),⟨rfl,rfl⟩,⟨by rw [hL.n]; omega,fun i b hi=>⟨(hlt i b hi).1,?_⟩,fun b i hb hk=>?_,fun b i hk=>?_,fun b b' i hk hk'=>?_,fun b i L' hk hb=>?_,fun b hk=>?_,hL.fresh,hL.g⟩,hv⟩
 ·simp only [b1k,(hlt i b hi).1,if_true]; exact b0k hnd hi
 ·simp only [b1k,hb,if_true] at hk; exact a4o hk
 ·simp only [b1k] at hk
  split at hk
  ·rename_i hb; exact⟨by rw [hL.n]; omega,fun hb'=>absurd hb (by omega)⟩
  ·split at hk
   ·simp only [Option.some.injEq] at hk; exact⟨by rw [hL.n]; omega,fun _=>by omega⟩
   ·cases hk
 ·have key:∀ b,b1k ρ s.n bs.length (bs'.length - bs.length) b=some i→(b < s.n∧ρ[i]? = some b)∨(s.n≤b∧i=bs.length+(b - s.n)):=fun b hk=>by
   simp only [b1k] at hk
   split at hk
   ·rename_i hb; exact .inl ⟨hb,a4o hk⟩
   ·split at hk
    ·simp only [Option.some.injEq] at hk; exact .inr ⟨by omega,hk.symm⟩
    ·cases hk
  rcases key b hk with⟨q1,q2⟩ | ⟨q1,q2⟩ <;> rcases key b' hk' with⟨p1,p2⟩ | ⟨p1,p2⟩
  ·rw [q2] at p2; simpa using p2
  ·have:=(hlt i b q2).2; omega
  ·have:=(hlt i b' p2).2; omega
  ·omega
 ·simp only [b1k] at hk
  rw [a0s]
  split at hk
  ·exact hL.old i b L' (a4o hk) hb
  ·split at hk
   ·simp only [Option.some.injEq] at hk
    subst hk
    have:=hL.new (b - s.n) L' (by omega) (by rw [show s.n+(b - s.n)=b by omega]; exact hb)
    exact this
   ·cases hk
 ·simp only [b1k] at hk
  split at hk
  ·rename_i hb
   refine hL.frame b hb fun hm=>?_
   obtain⟨i,hi⟩:=List.getElem?_of_mem hm
   rw [b0k hnd hi] at hk; cases hk
  ·split at hk
   ·cases hk
   ·rw [hL.fresh b (by rw [hL.n]; omega),hfr b (by omega)]
def d1z:Code→Bool
 | .cond _ _ _=>true
 | _=>false
def d5a:Code→Operand
 | .cond o _ _=>o
 | _=>.tmp 0
def c2r:Code→Code
 | .cond _ c _=>c
 | _=>.skip
def c2s:Code→Code
 | .cond _ _ d=>d
 | _=>.skip
theorem c2b:∀ {c:Code},d1z c=true→c=.cond (d5a c) (c2r c) (c2s c)
 | .cond _ _ _,_=>rfl
def f3z:Option LV→Bool
 | some .unb=>true
 | _=>false
theorem a0p.unb {cx:Cx} (hcx:a3w P (a2z cx)) {n nt n0:Nat} {c:Code} {tm:Tm} {s:St} {L:List Nat} {Φ : Pk} (hc:d1z c=true) (ho:f3z (b3o (a0q tm) (d5a c))=true) (hn:n0≤s.n)
  (h1:a1h P cx n nt (c2r c) tm s (vK L Φ)) (h2:a1h P cx n nt (c2s c) tm s (vK L Φ)):a0p P nt c n0 tm s (vK L Φ):=by
 rw [c2b hc]
 refine a0p.g9k ?_ (a0p.vc hcx hn h1) (a0p.vc hcx hn h2)
 unfold f3z at ho
 split at ho
 ·rename_i h; exact h
 ·cases ho
theorem a3r {cs:List LV} {n:Nat} (h:cs.length≤n):a3o cs 0 n=cs:=by simp [a3o,List.take_of_length_le h]
abbrev Fk:=LV→List (Option LB)→Glb→Prop
def vF (K:Fk):LV→St→Prop:=fun v s=>K v (a5g s) s.g
def g5o (n0:Nat) (g:Glb) (Q:LV→List LB→Prop):Fk:=fun v bs g'=>g'=g∧∃ l0 b0 ρ,Q l0 b0∧a4f n0 1 [0] [v] bs ρ [(0,l0)] b0
theorem a0k.vc {cx:Cx} (hcx:a3w P (a2z cx)) {n f:Nat} {args:List LV} {bs:List LB} {g:Glb} {Q:LV→List LB→Prop} (n0:Nat) (hn0:bs.length=n0) (h:a4w P cx n f args (mkS bs g) (vF (g5o n0 g Q))):a0k P f args (mkS bs g) fun l s'=>∃ b0,Q l b0∧s'=mkS b0 g:=by
 obtain⟨v,s',h1,h2⟩:=(c9i (P:=P) (cx:=cx) n).2 _ _ _ _ h
 have h3:a0k P f args (mkS bs g) fun l s1=>l=v∧s1=s':=fun W0 r w us hI hv =>
  ((a5f hcx n).2 W0 r f args _ s' v w us h1 hI hv).mono fun e w' ⟨u,r',k⟩=>⟨v,s',u,r',⟨rfl,rfl⟩,k⟩
 refine a0k.conv h3 fun l s1 ⟨e1,e2⟩=>?_
 subst e1 e2
 obtain⟨hg,l0,b0,ρ,q,k⟩:=h2
 exact⟨l0,b0,ρ,⟨b0,q,by rw [hg]⟩,by rw [a2p,hn0]; exact k⟩
theorem a0k.g9h {f:Nat} {args:List LV} {v:LV} {s:St} (hfr:∀ b,s.n≤b→s.h.get b=none) (hg:s.g=[]) (ha:a1q args=true) (hv:b2j v=true) (h:a0k P f args (mkS []) fun l s'=>l=v∧s'=mkS []):a0k P f args s fun l s'=>l=v∧s'=s :=
 a0k.h0f (ρ:=[]) (bs:=[]) (args0:=args) hfr List.nodup_nil trivial (a7z ha) hv (by rw [hg]; exact h)
end
section
open Go.RowKit
variable {P:Program}
def St.puts:St→List Nat→List LB→Option St
 | s,[],[]=>some s
 | s,b::bs,L::Ls=>(match s.put b L with | some s'=>St.puts s' bs Ls | none=>none)
 | _,_,_=>none
def St.news:St→List LB→Option St
 | s,[]=>some s
 | s,L::Ls=>(match s.new L with | some s'=>St.news s' Ls | none=>none)
def St.lay (s:St) (ρ : List Nat) (olds news:List LB):Option St:=match s.puts ρ olds with | some s1=>s1.news news | none=>none
theorem c0w:∀ {ρ : List Nat} {olds:List LB} {s s':St},s.puts ρ olds=some s'→ρ.Nodup→s'.n=s.n∧s'.g=s.g∧ρ.length=olds.length∧(∀ b,b ∉ ρ→s'.h.get b=s.h.get b)∧∀ (i b:Nat) L,ρ[i]? = some b→olds[i]? = some L→s'.h.get b=some L
 | [],[],s,s',h,hnd=>by simp only [St.puts,Option.some.injEq] at h; subst h; exact⟨rfl,rfl,rfl,fun b _=>rfl,fun i b L hi=>by simp at hi⟩
 | b::bs,L::Ls,s,s',h,hnd=>by
   simp only [St.puts] at h
   cases hp:s.put b L with
   | none=>rw [hp] at h; cases h
   | some s1 =>
     rw [hp] at h
     rw [List.nodup_cons] at hnd
     obtain⟨k1,k2,k3,k4,k5⟩:=c0w h hnd.2
     obtain⟨m1,m2⟩:=St.g9x hp
     refine⟨k1.trans m1,k2.trans (St.g9q hp),by simp [k3],fun c hc=>?_,fun i c M hi hM=>?_⟩
     ·rw [k4 c fun e=>hc (List.mem_cons_of_mem _ e),m2,if_neg (fun e=>hc (by rw [e]; exact List.mem_cons_self))]
     ·cases i with
      | zero=>simp at hi hM; subst hi hM; rw [k4 b hnd.1,m2,if_pos rfl]
      | succ i=>simp at hi hM; exact k5 i c M hi hM
 | [],_::_,s,s',h,hnd=>by simp [St.puts] at h
 | _::_,[],s,s',h,hnd=>by simp [St.puts] at h
theorem c1b:∀ {Ls:List LB} {s s':St},s.news Ls=some s'→s'.n=s.n+Ls.length∧s'.g=s.g∧(∀ b,b < s.n→s'.h.get b=s.h.get b)∧(∀ j L,Ls[j]? = some L→s'.h.get (s.n+j)=some L)∧((∀ b,s.n≤b→s.h.get b=none)→∀ b,s'.n≤b→s'.h.get b=none)
 | [],s,s',h=>by simp only [St.news,Option.some.injEq] at h; subst h; exact⟨rfl,rfl,fun b _=>rfl,fun j L hj=>by simp at hj,fun h=>h⟩
 | L::Ls,s,s',h=>by
   simp only [St.news] at h
   cases hp:s.new L with
   | none=>rw [hp] at h; cases h
   | some s1 =>
     rw [hp] at h
     obtain⟨k1,k2,k3,k4,k5⟩:=c1b h
     obtain⟨m1,m2⟩:=St.g9g hp
     refine⟨by rw [k1,m1]; simp; omega,k2.trans (St.g9i hp),fun c hc=>by rw [k3 c (by omega),m2,if_neg (by omega)],fun j M hj=>?_,fun hf=>k5 fun c hc=>by rw [m2,if_neg (by omega)]; exact hf c (by omega)⟩
     cases j with
     | zero=>simp at hj; subst hj; rw [k3 _ (by omega),m2,if_pos (by omega)]
     | succ j=>simp at hj; have:=k4 j M hj; rw [← this]; congr 1; omega
def a7f (κ : a2o):List LB→List LB→Prop
 | [],[]=>True
 | L::Ls,M::Ms=>LBW κ (.id 0) L (some M)∧a7f κ Ls Ms
 | _,_=>False
theorem a8g {κ : a2o}:∀ {Ls Ms:List LB},a7f κ Ls Ms→Ls.length=Ms.length∧∀ (i:Nat) L,Ls[i]? = some L→∃ M,Ms[i]? = some M∧LBW κ (.id 0) L (some M)
 | [],[],h=>⟨rfl,fun i L hi=>by simp at hi⟩
 | L::Ls,M::Ms,h=>by
   simp only [a7f] at h
   obtain⟨k1,k2⟩:=a8g h.2
   refine⟨by simp [k1],fun i N hi=>?_⟩
   cases i with
   | zero=>simp at hi; subst hi; exact⟨M,rfl,h.1⟩
   | succ i=>simp at hi ⊢; exact k2 i N hi
 | [],_::_,h=>by simp only [a7f] at h
 | _::_,[],h=>by simp only [a7f] at h
theorem a0k.lay {f:Nat} {args args0:List LV} {s s':St} (hfr:∀ b,s.n≤b→s.h.get b=none) {bs bs' olds news:List LB} {ρ : List Nat} {v v0:LV} (hs:s.lay ρ olds news=some s') (hnd : ρ.Nodup) (hl:a9w ρ s ρ bs) (ha:a5i (b1j (ρ.map .id)) args0 args)
  (h:a0k P f args0 (mkS bs s.g) fun l t=>l=v0∧t=mkS bs' s.g)
  (hb:∀ κ : a2o,(∀ (i c:Nat),ρ[i]? = some c→κ c=some (.id i))→(∀ j,j < news.length→κ (s.n+j)=some (.id (ρ.length+j)))→a7f κ (olds++news) bs'∧LVW κ v v0):a0k P f args s fun l t=>l=v∧t=s':=by
 obtain⟨h1,h2⟩:=a7a hl
 unfold St.lay at hs
 cases hp:s.puts ρ olds with
 | none=>rw [hp] at hs; cases hs
 | some s1 =>
   rw [hp] at hs
   obtain⟨k1,k2,k3,k4,k5⟩:=c0w hp hnd
   obtain⟨m1,m2,m3,m4,m5⟩:=c1b hs
   have hlt:∀ (i b:Nat),ρ[i]? = some b→b < s.n:=fun i b hi=>by
    have hlt:=(List.getElem?_eq_some_iff.1 hi).1
    exact(h2 i b (bs[i]'(by omega)) hi (List.getElem?_eq_getElem (by omega))).1
   obtain⟨q1,q2⟩:=hb (fun b=>(b1k ρ s.n bs.length news.length b).map .id) (fun i c hi=>by simp only [b1k,hlt i c hi,if_true,b0k hnd hi,Option.map_some]) (fun j hj=>by
    have e1:¬ s.n+j < s.n:=by omega
    have e2:s.n+j < s.n+news.length:=by omega
    simp only [b1k,e1,e2,if_true,if_false,Option.map_some,h1]
    congr 3; omega)
   obtain⟨q3,q4⟩:=a8g q1
   simp only [List.length_append] at q3
   have hlen:bs'.length - bs.length=news.length:=by omega
   refine a0k.lift hfr hnd hl ha h (by omega) ⟨by rw [m1,k1,hlen],m2.trans k2,fun b hb hbm=>by rw [m3 b (by omega),k4 b hbm],m5 fun b hb=>?_,fun i b L' hi hL=>?_,fun j L' hj hL=>?_⟩ (by rw [hlen]; exact q2)
   ·rw [k4 b,hfr b (by omega)]
    intro hm
    obtain⟨i,hi⟩:=List.getElem?_of_mem hm
    have:=hlt i b hi; omega
   ·rw [hlen]
    have hil:=(List.getElem?_eq_some_iff.1 hi).1
    have hb:=hlt i b hi
    rw [m3 b (by omega),k5 i b (olds[i]'(by omega)) hi (List.getElem?_eq_getElem (by omega))] at hL
    simp at hL; subst hL
    obtain⟨M,p1,p2⟩:=q4 i _ (by rw [List.getElem?_append_left (by omega)]; exact List.getElem?_eq_getElem (by omega))
    rw [p1]; exact p2.id_any
   ·rw [hlen] at hj ⊢
    rw [← k1,m4 j (news[j]'hj) (List.getElem?_eq_getElem hj)] at hL
    simp at hL; subst hL
    obtain⟨M,p1,p2⟩:=q4 (olds.length+j) _ (by rw [List.getElem?_append_right (by omega),show olds.length+j - olds.length=j by omega]; exact List.getElem?_eq_getElem hj)
    rw [show bs.length+j=olds.length+j by omega,p1]; exact p2.id_any
end
section
open Go.RowKit
variable {P:Program}
theorem SSp.h0j {nt n0:Nat} {l:List Code} {i:Nat} (hl:Nat.beq (i+1) l.length=true) {tm:Tm} {s:St} {L:List Nat} {Φ : Pk}
  (h1:a0p P nt (a4i l i) n0 tm s (vK L Φ)):SSp P nt (l.drop i) n0 tm s (vK L Φ):=by
 have h2:=Nat.eq_of_beq_eq_true hl
 rw [a6b l i (by omega),List.drop_of_length_le (by omega)]
 refine a0p.mono h1 fun x tm s h=>?_
 cases x <;> exact h
def flF (f:TypeId→Option (List (Nat×CT))):List Field→Option (List (Nat×CT))
 | []=>some []
 | x::xs=>match f x.type,flF f xs with
   | some a,some b=>some (a.map (fun p=>(x.offset+p.1,p.2))++b)
   | _,_=>none
def fl (P:Program):Nat→TypeId→Option (List (Nat×CT))
 | 0,_=>none
 | d+1,t=>match P.underlying t with
   | some (.struct fs)=>flF (fl P d) fs.toList
   | some (.int k)=>some [(0,.int k)]
   | some .bool=>some [(0,.bool)]
   | _=>none
def b9t:Code→Code
 | .block _ c=>c
 | c=>c
def f9k (id:Nat):Code→Bool
 | .block i _=>Nat.beq i id
 | _=>false
def g8z (id:Nat) (Φ : Pk):Pk:=fun x vs bs g=>match x with
 | .exit k=>cond (Nat.beq k id) (Φ .normal vs bs g) (Φ (.exit k) vs bs g)
 | x=>Φ x vs bs g
theorem a0p.h0p {nt n0:Nat} (id:Nat) {c:Code} (hc:f9k id c=true) {tm:Tm} {s:St} {L:List Nat} {Φ : Pk}
  (h:SSp P nt ((a3l (b9t c)).drop 0) n0 tm s (vK L (g8z id Φ))):a0p P nt c n0 tm s (vK L Φ):=by
 cases c with
 | block i c =>
   have:=Nat.eq_of_beq_eq_true hc
   subst this
   refine a0p.block (a0p.mono (a0p.h0l h) fun x tm s k=>?_)
   cases x <;> exact k
 | _=>cases hc
theorem d8y {ρ : a2o} {c n es:Nat} {cs:List LV} (h:cs.length=n * es) (k:a1q cs=true):LBW ρ (.cap c 0 n) (.cells cs (some es)) (some (.cells cs none)) :=
 f3x (by omega) (by omega) (by rw [a3r (Nat.le_refl _)]) k
end
section
open Go.RowKit
variable {P:Program}
def b1a (g:Gc):Gc:=fun args s=>match g args ⟨s.h,s.n,[]⟩ with
 | some (bs,l,s')=>some (bs,l,⟨s'.h,s'.n,s.g⟩)
 | none=>none
theorem a4j {f:Nat} {g:Gc} (h:GOk P f g):GOk P f (b1a g):=by
 intro args s bs l s' hg hb hfr
 unfold b1a at hg
 split at hg
 ·rename_i bs1 l1 t hg1
  simp only [Option.some.injEq,Prod.mk.injEq] at hg
  obtain⟨rfl,rfl,rfl⟩:=hg
  have H:=h args ⟨s.h,s.n,[]⟩ _ _ _ hg1 hb hfr
  intro W0 r w us hI ha
  have hI0:Inv W0 r ⟨s.h,s.n,[]⟩ w:=⟨hI.below,hI.dom,hI.own,hI.fresh,hI.inj,hI.cells,hI.iter,fun x hx=>by simp at hx,hI.ro,hI.ob.step (Ren.le_refl r) (fun _ _ _ _ k=>k) (fun _ _ k1 k2=>.inl ⟨k1,k2⟩) (Nat.le_refl _) fun _ _=>rfl⟩
  refine(H W0 r w us hI0 ha).mono ?_
  rintro e w' ⟨l2,s2,v,r',⟨rfl,rfl⟩,he,hv,hi,hE⟩
  exact⟨_,_,v,r',⟨rfl,rfl⟩,he,hv,⟨hi.below,hi.dom,hi.own,hi.fresh,hi.inj,hi.cells,hi.iter,hI.gl,hi.ro,hi.ob.step (Ren.le_refl r') (fun _ _ _ _ k=>k) (fun _ _ k1 k2=>.inl ⟨k1,k2⟩) (Nat.le_refl _) fun _ _=>rfl⟩,⟨hE.le,hE.n,hE.size,hE.img,hE.keep⟩⟩
 ·cases hg
def Rep (N n:Nat) (v:Value) (l l0:LV):Prop:=l=l0∨(l=.val v∧l0=.slo N 0 n 0)
def f0a (N n:Nat) (v:Value):List LV→List LV→Prop
 | [],[]=>True
 | a::as,b::bs=>Rep N n v a b∧f0a N n v as bs
 | _,_=>False
def g3a (N n:Nat) (v:Value):LB→LB→Prop
 | .cells cs op,.cells cs0 op0=>op=op0∧f0a N n v cs cs0
 | L,M=>L=M
def f6v (N n:Nat) (v:Value):List LB→List LB→Prop
 | [],[]=>True
 | a::as,b::bs=>(a=b∨g3a N n v a b)∧f6v N n v as bs
 | _,_=>False
theorem c2q {N n:Nat} {v:Value}:∀ cs:List LV,f0a N n v cs cs
 | []=>trivial
 | a::as=>⟨.inl rfl,c2q as⟩
theorem c2p {N n:Nat} {v:Value}:∀ {cs cs0:List LV},f0a N n v cs cs0→cs0.length=cs.length∧∀ (i:Nat) l0,cs0[i]? = some l0→∃ l,cs[i]? = some l∧Rep N n v l l0
 | [],[],h=>⟨rfl,fun i l0 hi=>by simp at hi⟩
 | a::as,b::bs,h=>by
   obtain⟨h1,h2⟩:=h
   obtain⟨k1,k2⟩:=c2p h2
   refine⟨by simp [k1],fun i l0 hi=>?_⟩
   cases i with
   | zero=>simp at hi; subst hi; exact⟨a,rfl,h1⟩
   | succ i=>simp only [List.getElem?_cons_succ] at hi ⊢; exact k2 i l0 hi
 | [],_::_,h=>h.elim
 | _::_,[],h=>h.elim
theorem c2t {N n:Nat} {v:Value}:∀ {bs bs0:List LB},f6v N n v bs bs0→bs0.length=bs.length∧∀ (i:Nat) L0,bs0[i]? = some L0→∃ L,bs[i]? = some L∧(L=L0∨∃ cs cs0 op,L=.cells cs op∧L0=.cells cs0 op∧f0a N n v cs cs0)
 | [],[],h=>⟨rfl,fun i l0 hi=>by simp at hi⟩
 | a::as,b::bs,h=>by
   obtain⟨h1,h2⟩:=h
   obtain⟨k1,k2⟩:=c2t h2
   refine⟨by simp [k1],fun i l0 hi=>?_⟩
   cases i with
   | zero =>
     simp at hi; subst hi
     refine⟨a,rfl,?_⟩
     rcases h1 with h1 | h1
     ·exact .inl h1
     ·cases a <;> cases b <;> simp only [g3a] at h1 <;> first
       | (obtain⟨rfl,h1⟩:=h1; exact .inr ⟨_,_,_,rfl,rfl,h1⟩)
       | exact .inl h1
       | exact .inl rfl
       | (cases h1; done)
   | succ i=>simp only [List.getElem?_cons_succ] at hi ⊢; exact k2 i l0 hi
 | [],_::_,h=>h.elim
 | _::_,[],h=>h.elim
theorem Conv.row {nt n0:Nat} {g:Glb} {as as':List (Nat×LV)} {bs bs':List LB} {v:Value} {n:Nat} {cs:List LV} (hn:n0≤bs.length)
  (hf:∀ W0,Gl W0 g→a3b W0 v n cs) (hs:∀ u,Rep bs.length n v (a6v as u) (a6v as' u)) (hb:f6v bs.length n v bs bs') :
  Conv n0 nt (a1p nt as) (mkS bs g) (a1p nt as') (mkS (bs'++[.ro cs]) g):=by
 intro W0 r a w hI hA
 have hgl:Gl W0 g:=hI.gl
 obtain⟨hlen,hbs⟩:=c2t hb
 have hdn:∀ b x,r b=some x→b < bs.length:=fun b x hb=>by have:=(hI.dom b x hb).1; rwa [a2p] at this
 have hget:∀ b L,(mkS (bs'++[.ro cs]) g).h.get b=some L→(∃ M,(mkS bs g).h.get b=some M∧(M=L∨∃ cs cs0 op,M=.cells cs op∧L=.cells cs0 op∧f0a bs.length n v cs cs0)∧b < bs.length)∨(b=bs.length∧L=.ro cs):=fun b L hb=>by
  rw [a0s] at hb
  rw [a0s]
  by_cases hlt:b < bs.length
  ·rw [List.getElem?_append_left (by omega)] at hb
   obtain⟨M,k1,k2⟩:=hbs b L hb
   exact .inl ⟨M,k1,k2,hlt⟩
  ·rw [List.getElem?_append_right (by omega)] at hb
   by_cases e:b=bs.length
   ·subst e; simp [hlen] at hb; exact .inr ⟨rfl,hb.symm⟩
   ·rw [List.getElem?_eq_none (by simp; omega)] at hb; cases hb
 have key:∃ r0:Ren,r.le r0∧(∀ b x,b≠bs.length→r0 b=some x→r b=some x)∧((r0 bs.length=none∧cs=[]∧n=0∧Emp v)∨∃ B o cap c e f,r0 bs.length=some (B,o,cap)∧v=.slice (some ⟨B,o,none⟩) n cap∧n≤cap∧W0.heap[B]? = some (.cells c e f)∧∀ (i:Nat) l,cs[i]? = some l→l.plain=true∧∃ u,c[o+i]? = some u∧VR b8y l u):=by
  rcases hf W0 hgl with⟨q1,q2,q3⟩ | ⟨B,o,cap,c,e,f,q1,q2,q3,q4⟩
  ·refine⟨r,Ren.le_refl r,fun b x _ h=>h,.inl ⟨?_,q3,q2,q1⟩⟩
   cases hr:r bs.length with
   | none=>rfl
   | some x=>exact absurd (hdn _ _ hr) (by omega)
  ·refine⟨fun b=>if b=bs.length then some (B,o,cap) else r b,fun b x hb=>?_,fun b x hne hb=>?_,.inr ⟨B,o,cap,c,e,f,by simp,q1,q2,q3,q4⟩⟩
   ·have:=hdn b x hb
    simp only [show ¬ b=bs.length by omega,if_false]; exact hb
   ·simpa only [hne,if_false] using hb
 obtain⟨r0,hle,hback,hrow⟩:=key
 have hrep:∀ {l l0:LV} {u:Value},Rep bs.length n v l l0→VR r l u→VR r0 l0 u:=fun {l l0 u} h1 h2=>by
  rcases h1 with rfl | ⟨rfl,rfl⟩
  ·exact h2.mono hle
  ·simp only [VR] at h2 ⊢
   obtain⟨rfl,_⟩:=h2
   rcases hrow with⟨_,_,q3,q4⟩ | ⟨B,o,cap,c,e',f,q,q1,q2,_,_⟩
   ·exact .inr ⟨q3,q4⟩
   ·exact .inl ⟨B,o,cap,q,by omega,by simpa using q1⟩
 have hdom:∀ b x,r0 b=some x→b < (mkS (bs'++[.ro cs]) g).n∧x.1 < w.heap.size:=fun b x hb=>by
  rw [a2p,List.length_append,List.length_singleton,hlen]
  by_cases e:b=bs.length
  ·subst e
   rcases hrow with⟨q,_⟩ | ⟨B,o,cap,c,e',f,q,_,_,q3,_⟩
   ·rw [q] at hb; cases hb
   ·rw [q] at hb; simp at hb; subst hb
    have:=(Array.getElem?_eq_some_iff.1 q3).1
    have:=hI.below.size
    simp only; omega
  ·have:=hI.dom b x (hback b x e hb)
   have h2:=hdn b x (hback b x e hb)
   exact⟨by omega,this.2⟩
 have hlv:∀ b,(mkS (bs'++[.ro cs]) g).lives b→(mkS bs g).lives b∧b≠bs.length:=fun b ⟨L,h1,h2⟩=>by
  rcases hget b L h1 with⟨M,q1,q3,q2⟩ | ⟨q1,q2⟩
  ·refine⟨⟨M,q1,?_⟩,by omega⟩
   rcases q3 with rfl | ⟨_,_,_,rfl,rfl,_⟩
   ·exact h2
   ·rfl
  ·subst q2; cases h2
 have hob:∀ b F cs' g',(mkS (bs'++[.ro cs]) g).h.get b=some (.obj F cs' g')→(mkS bs g).h.get b=some (.obj F cs' g'):=fun b F cs' g' hb=>by
  rcases hget b _ hb with⟨M,q1,q3,q2⟩ | ⟨q1,q2⟩
  ·rcases q3 with rfl | ⟨_,_,_,rfl,e,_⟩
   ·exact q1
   ·cases e
  ·cases q2
 refine⟨r0,⟨hI.below,hdom,fun b x hl hb=>?_,fun b hb=>?_,fun b b' x x' l l' hb hb' he=>?_,fun b cs' op hb=>?_,fun b t' p hb=>?_,hgl,fun b cs' hb=>?_,hI.ob.step hle hob (fun b x hl hb=>.inl ⟨(hlv b hl).1,hback b x (hlv b hl).2 hb⟩) (Nat.le_refl _) fun _ _=>rfl⟩,?_,⟨fun b x hb h=>hle b x h,by rw [a2p,List.length_append,List.length_singleton]; omega,Nat.le_refl _,a2u.step hI.ob hle hob fun b x hl hb hx=>?_,fun B hB hk=>rfl⟩⟩
 ·exact hI.own b x (hlv b hl).1 (hback b x (hlv b hl).2 hb)
 ·rw [a2p] at hb; rw [a0s,List.getElem?_eq_none hb]
 ·exact hI.inj b b' x x' (hlv b l).1 (hlv b' l').1 (hback b x (hlv b l).2 hb) (hback b' x' (hlv b' l').2 hb') he
 ·rcases hget _ _ hb with⟨M,q1,q3,q2⟩ | ⟨q1,q2⟩
  ·have hc:∃ cs1,M=.cells cs1 op∧f0a bs.length n v cs1 cs':=by
    rcases q3 with rfl | ⟨c1,c2,op',rfl,e,h⟩
    ·exact⟨cs',rfl,c2q _⟩
    ·cases e; exact⟨c1,rfl,h⟩
   obtain⟨cs1,rfl,hc⟩:=hc
   obtain⟨hl1,hc⟩:=c2p hc
   rcases hI.cells b cs1 op q1 with⟨k1,k2⟩ | ⟨x,k1,k2⟩
   ·refine .inl ⟨List.length_eq_zero_iff.1 (by rw [hl1,k1]; rfl),?_⟩
    cases hr:r0 b with
    | none=>rfl
    | some y=>rw [hback b y (by omega) hr] at k2; cases k2
   ·obtain⟨c,e,lo,hi,j1,j2,j3,j4⟩:=k2.ex
    have hroom:a7u cs' op x.2.2=a7u cs1 op x.2.2:=by unfold a7u; split <;> simp [hl1]
    refine .inr ⟨x,hle b x k1,⟨⟨c,e,lo,hi,j1,fun i l hi=>?_,by rw [hroom]; exact j3,by rw [hroom]; exact j4⟩,by rw [hroom,hl1]; exact k2.fits⟩⟩
    obtain⟨l1,m1,m2⟩:=hc i l hi
    obtain⟨n1,u,n2,n3⟩:=j2 i l1 m1
    refine⟨?_,u,n2,hrep m2 n3⟩
    rcases m2 with rfl | ⟨_,rfl⟩
    ·exact n1
    ·rfl
  ·cases q2
 ·rcases hget _ _ hb with⟨M,q1,q3,q2⟩ | ⟨q1,q2⟩
  ·obtain rfl:M=.iter t' p:=by
    rcases q3 with rfl | ⟨_,_,_,_,e,_⟩
    ·rfl
    ·cases e
   obtain⟨x,k1,k2⟩:=hI.iter b t' p q1
   exact⟨x,hle b x k1,k2⟩
  ·cases q2
 ·rcases hget _ _ hb with⟨M,q1,q3,q2⟩ | ⟨q1,q2⟩
  ·obtain rfl:M=.ro cs':=by
    rcases q3 with rfl | ⟨_,_,_,_,e,_⟩
    ·rfl
    ·cases e
   rcases hI.ro b cs' q1 with⟨k1,k2⟩ | ⟨x,k1,c,e,f,k2,k3⟩
   ·refine .inl ⟨k1,?_⟩
    cases hr:r0 b with
    | none=>rfl
    | some y=>rw [hback b y (by omega) hr] at k2; cases k2
   ·exact .inr ⟨x,hle b x k1,c,e,f,k2,fun i l hi=>let ⟨m1,u,m2,m3⟩:=k3 i l hi; ⟨m1,u,m2,m3.mono hle⟩⟩
  ·simp only [LB.ro.injEq] at q2; subst q1; subst q2
   rcases hrow with⟨q,q',_⟩ | ⟨B,o,cap,c,e',f,q,_,_,q3,q4⟩
   ·exact .inl ⟨q',q⟩
   ·exact .inr ⟨_,q,c,e',f,q3,fun i l hi=>let ⟨m1,u,m2,m3⟩:=q4 i l hi; ⟨m1,u,m2,m3.mono fun b x hb=>by cases hb⟩⟩
 ·refine⟨hA.size,hA.defers,fun u hu=>?_,fun u hu=>by rw [a6a,if_neg (by omega)]⟩
  obtain⟨x,k1,k2⟩:=hA.get u hu
  refine⟨x,k1,?_⟩
  rw [a6a,if_pos hu] at k2 ⊢
  exact hrep (hs u) k2
 ·obtain⟨q1,q2⟩:=hlv b hl
  exact⟨b,x,q1,hback b x q2 hb,rfl⟩
theorem SSp.row {nt n0:Nat} {l:List Code} {i:Nat} {g:Glb} {as as':List (Nat×LV)} {bs bs':List LB} {Q:LX→Tm→St→Prop} {v:Value} {n:Nat} {cs:List LV} (hl:Nat.blt i l.length=true) (hn:n0≤bs.length)
  (hf:∀ W0,Gl W0 g→a3b W0 v n cs) (hs:∀ u,Rep bs.length n v (a6v as u) (a6v as' u)) (hb:f6v bs.length n v bs bs')
  (h:SSp P nt (l.drop i) n0 (a1p nt as') (mkS (bs'++[.ro cs]) g) Q):SSp P nt (l.drop i) n0 (a1p nt as) (mkS bs g) Q:=by
 have:=Nat.le_of_ble_eq_true hl
 rw [a6b l i (by omega)] at h ⊢
 exact a0p.conv (Conv.row hn hf hs hb) h
theorem b6a {ρ : a2o} {a b:List LV} (h:a5i ρ a b):LVW ρ (.tup a) (.tup b):=by simp only [LVW]; exact h
theorem d8t {ρ : a2o} {f:Nat} {a b:List LV} (h:a5i ρ a b):LVW ρ (.fn f a) (.fn f b):=by simp only [LVW]; exact⟨trivial,h⟩
theorem c1e {ρ : a2o} {a b:List LV} (h:a5i ρ a b):LVW ρ (.agg a) (.agg b):=by simp only [LVW]; exact h
theorem a4t:∀ {xs:List Nat},a3q xs=true→xs.Nodup
 | [],_=>List.nodup_nil
 | x::xs,h=>by
   simp only [a3q,Bool.and_eq_true] at h
   exact List.nodup_cons.2 ⟨b0g h.1,a4t h.2⟩
theorem d5m (v:Value):asV (.val v)=v:=rfl
theorem d5k (v:Value):isV (.val v)=true:=rfl
end
section
open Go.RowKit
variable {P:Program}
def a7y (b:Array Nat) (x:Nat):List Nat→Bool
 | []=>true
 | y::ys=>(Nat.beq x y || !a4a b x y) && a7y b x ys
def f0o (x:Nat):List Nat→List Nat
 | []=>[]
 | y::ys=>cond (Nat.beq x y) (f0o x ys) (y::f0o x ys)
def b9s (x:Nat):List (List Nat)→List (List Nat)→List (List Nat)
 | [],r=>r
 | l::ls,r=>(x::l)::b9s x ls r
def b3b (b:Array Nat) (all:List Nat) (f:Nat→List (List Nat)):List Nat→List (List Nat)
 | []=>[]
 | x::xs=>cond (a7y b x all) (b9s x (f x) (b3b b all f xs)) (b3b b all f xs)
def f0r (b:Array Nat):Nat→List Nat→List (List Nat)
 | 0,_=>[[]]
 | n+1,rem=>(match rem with
   | []=>[[]]
   | y::ys=>b3b b (y::ys) (fun x=>f0r b n (f0o x (y::ys))) (y::ys))
def g1r {α : Type} (F : α→Prop):List α→Prop
 | []=>True
 | [x]=>F x
 | x::y::r=>F x∧g1r F (y::r)
def c9x (b:Array Nat) (x:Nat):List Nat→List Nat×List Nat
 | []=>([],[])
 | u::r=>(match c9x b x r with | (p,q)=>cond (a4a b x u) (u::p,q) (p,u::q))
def f0c (b:Array Nat):List Nat→List Nat→List Nat
 | [],ls=>ls
 | x::σ,ls=>(match c9x b x ls with | (p,q)=>p++x::f0c b σ q)
def c4h (ops:Array Oper):List Nat→List (Oper×Nat)
 | []=>[]
 | i::r=>(match ops[i]? with | some o=>(o,i)::c4h ops r | none=>c4h ops r)
def a4v (W:List (Oper×Nat)):List Nat:=(W.filter (fun u=>!a1a u.1.op)).map (·.2)
def c6h (W:List (Oper×Nat)):List Nat:=(W.filter (fun u=>a1a u.1.op)).map (·.2)
def c7d:Nat→List Nat→Bool
 | 0,_=>true
 | n+1,is=>!b2f n is && c7d n is
def eqN:List Nat→List Nat→Bool
 | [],[]=>true
 | a::as,b::bs=>Nat.beq a b && eqN as bs
 | _,_=>false
def d0y (ops:Array Oper) (b:Array Nat) (u v:Oper×Nat):Bool:=!a4a b u.2 v.2 && (a4a b v.2 u.2 || u.1.apart ops v.1)
def b4q (ops:Array Oper) (b:Array Nat):List (Oper×Nat)→Bool
 | []=>true
 | u::r=>r.all (d0y ops b u) && b4q ops b r
def okW (ops:Array Oper) (b:Array Nat) (σ : List Nat) (W:List (Oper×Nat)):Bool :=
 a3q (W.map (·.2)) && c7d ops.size (W.map (·.2)) && b4q ops b W && eqN (a4v W) σ
def c9c (call:Nat→List LV→St→(LV→St→Prop)→Prop) (P:Program) (nt:Nat) (ops:Array Oper) (σ : List Nat) (tm:Tm) (s:St) (K:Tm→St→Prop):Prop :=
 match c4h ops (f0c (CheckFast.beforeF ops) σ (c6h ops.toList.zipIdx)) with
 | W=>cond (okW ops (CheckFast.beforeF ops) σ W) (d7f call P nt ops (W.map (·.1)) tm s [] fun tm' s' rs =>
    c3e (b3r P ops (CheckFast.beforeF ops) W ((s'::rs.map (·.s)).reverse) W rs.reverse) (K tm' s')) False
def b8e (P:Program) (cx:Cx) (n nt:Nat) (c:Code) (tm:Tm) (s:St) (K:LX→Tm→St→Prop):Prop :=
 match c with
 | .region _ ops true=>cond (P.follows .mixedOrders && b2m ops)
   (g1r (fun σ=>c9c (a4w P cx n) P nt ops σ tm s fun tm' s'=>K .normal tm' s') (f0r (CheckFast.beforeF ops) (a4v ops.toList.zipIdx).length (a4v ops.toList.zipIdx))) False
 | _=>False
theorem c7k {α : Type} {F : α→Prop}:∀ {l:List α},g1r F l→∀ x∈l,F x
 | [],h,x,hx=>by simp at hx
 | [y],h,x,hx=>by simp at hx; subst hx; exact h
 | y::z::r,h,x,hx=>by
   rcases List.mem_cons.1 hx with rfl | hx
   ·exact h.1
   ·exact c7k h.2 x hx
theorem b3z {b:Array Nat} {x:Nat}:∀ {l:List Nat},(∀ y∈l,y≠x→a4a b x y=false)→a7y b x l=true
 | [],h=>rfl
 | y::ys,h=>by
   simp only [a7y,Bool.and_eq_true,Bool.or_eq_true,a0t,decide_eq_true_eq,Bool.not_eq_true']
   refine⟨?_,b3z fun z hz=>h z (List.mem_cons_of_mem _ hz)⟩
   by_cases e:x=y
   ·exact .inl e
   ·exact .inr (h y (List.mem_cons_self ..) (Ne.symm e))
theorem b8z {x y:Nat}:∀ {l:List Nat},y∈f0o x l↔y∈l∧y≠x
 | []=>by simp [f0o]
 | z::zs=>by
   simp only [f0o,a0t]
   by_cases e:x=z
   ·subst e
    simp only [decide_true,cond_true,b8z (l:=zs),List.mem_cons]
    exact⟨fun⟨h1,h2⟩=>⟨.inr h1,h2⟩,fun⟨h1,h2⟩=>⟨h1.resolve_left h2,h2⟩⟩
   ·simp only [e,decide_false,cond_false,List.mem_cons,b8z (l:=zs)]
    constructor
    ·rintro(rfl | ⟨h1,h2⟩)
     ·exact⟨.inl rfl,Ne.symm e⟩
     ·exact⟨.inr h1,h2⟩
    ·rintro⟨rfl | h1,h2⟩
     ·exact .inl rfl
     ·exact .inr ⟨h1,h2⟩
theorem b1h {x:Nat} {l:List Nat}:∀ {ls r:List (List Nat)},(l∈ls→(x::l)∈b9s x ls r)∧∀ m∈r,m∈b9s x ls r
 | [],r=>⟨fun h=>by simp at h,fun m h=>h⟩
 | k::ks,r=>by
   obtain⟨h1,h2⟩:=b1h (x:=x) (l:=l) (ls:=ks) (r:=r)
   refine⟨fun h=>?_,fun m h=>List.mem_cons_of_mem _ (h2 m h)⟩
   rcases List.mem_cons.1 h with rfl | h
   ·exact List.mem_cons_self ..
   ·exact List.mem_cons_of_mem _ (h1 h)
theorem b5z {b:Array Nat} {all:List Nat} {f:Nat→List (List Nat)} {x:Nat} {l:List Nat} (hn:a7y b x all=true) (hl:l∈f x):∀ {xs:List Nat},x∈xs→(x::l)∈b3b b all f xs
 | [],h=>by simp at h
 | y::ys,h=>by
   simp only [b3b]
   by_cases e:x=y
   ·subst e
    rw [hn]; exact(b1h (r:=b3b b all f ys)).1 hl
   ·have:=b5z hn hl (xs:=ys) ((List.mem_cons.1 h).resolve_left e)
    cases a7y b y all
    ·exact this
    ·exact(b1h (l:=l)).2 _ this
theorem c6e {b:Array Nat}:∀ {h:List Nat} {n:Nat} {rem:List Nat},h.length≤n→h.Nodup→(∀ x,x∈h↔x∈rem)→h.Pairwise (fun x y=>a4a b x y=false)→h∈f0r b n rem
 | [],n,rem,hn,hd,hm,hp=>by
   have:rem=[]:=List.eq_nil_iff_forall_not_mem.2 fun x hx=>by simpa using (hm x).2 hx
   subst this
   cases n <;> simp [f0r]
 | x::h,0,rem,hn,hd,hm,hp=>by simp at hn
 | x::h,n+1,rem,hn,hd,hm,hp=>by
   have hx:x∈rem:=(hm x).1 (List.mem_cons_self ..)
   cases rem with
   | nil=>simp at hx
   | cons y ys =>
     simp only [f0r]
     rw [List.nodup_cons] at hd
     rw [List.pairwise_cons] at hp
     refine b5z (b3z fun z hz hne=>?_) (c6e (by simpa using hn) hd.2 (fun z=>?_) hp.2) hx
     ·exact hp.1 z ((List.mem_cons.1 ((hm z).2 hz)).resolve_left hne)
     ·rw [b8z,← hm z,List.mem_cons]
      exact⟨fun h1=>⟨.inr h1,fun e=>by subst e; exact hd.1 h1⟩,fun⟨h1,h2⟩=>h1.resolve_left h2⟩
theorem d6t:∀ {a b:List Nat},eqN a b=true→a=b
 | [],[],h=>rfl
 | x::a,y::b,h=>by
   simp only [eqN,Bool.and_eq_true,a0t,decide_eq_true_eq] at h
   rw [h.1,d6t h.2]
 | [],_::_,h=>by simp [eqN] at h
 | _::_,[],h=>by simp [eqN] at h
theorem b8a:∀ {n:Nat} {is:List Nat},c7d n is=true→∀ i,i < n→i∈is
 | 0,is,h,i,hi=>absurd hi (by omega)
 | n+1,is,h,i,hi=>by
   simp only [c7d,Bool.and_eq_true,Bool.not_eq_true'] at h
   rcases Nat.lt_succ_iff_lt_or_eq.1 hi with h1 | rfl
   ·exact b8a h.2 i h1
   ·have:=h.1
    clear h hi
    induction is with
    | nil=>simp [b2f] at this
    | cons x xs ih =>
      simp only [b2f,a0t,Bool.and_eq_false_iff,Bool.not_eq_false',decide_eq_true_eq] at this
      rcases this with e | e
      ·rw [e]; exact List.mem_cons_self ..
      ·exact List.mem_cons_of_mem _ (ih e)
theorem b5t {ops:Array Oper}:∀ {is:List Nat} {u:Oper×Nat},u∈c4h ops is→ops[u.2]? = some u.1
 | [],u,h=>by simp [c4h] at h
 | i::r,u,h=>by
   simp only [c4h] at h
   cases ho:ops[i]? with
   | none=>rw [ho] at h; exact b5t h
   | some o =>
     rw [ho] at h
     rcases List.mem_cons.1 h with rfl | h
     ·exact ho
     ·exact b5t h
theorem b2e {ops:Array Oper} {b:Array Nat}:∀ {l:List (Oper×Nat)},b4q ops b l=true→∀ (i j:Nat) (u v:Oper×Nat),i < j→l[i]? = some u→l[j]? = some v→a4a b u.2 v.2=false∧(a4a b v.2 u.2=true∨u.1.apart ops v.1=true)
 | [],h,i,j,u,v,hij,h1,h2=>by simp at h1
 | x::l,h,i,j,u,v,hij,h1,h2=>by
   simp only [b4q,Bool.and_eq_true] at h
   cases j with
   | zero=>omega
   | succ j =>
     simp only [List.getElem?_cons_succ] at h2
     cases i with
     | zero =>
       simp at h1; subst h1
       have:=List.all_eq_true.1 h.1 v (List.mem_of_getElem? h2)
       simpa only [d0y,Bool.and_eq_true,Bool.not_eq_true',Bool.or_eq_true] using this
     | succ i =>
       simp only [List.getElem?_cons_succ] at h1
       exact b2e h.2 i j u v (by omega) h1 h2
theorem c9z {call:Nat→List LV→St→Option (LV×St)} {nt:Nat} {ops:Array Oper} {W:Pl} {R:List Rc} {tm tm':Tm} {s':St} {b:Array Nat}
  (hlen:R.length=W.length) (huniq:∀ (k k':Nat) (o o':Oper) (m:Nat),W[k]? = some (o,m)→W[k']? = some (o',m)→k=k')
  (hpair:∀ (i j:Nat) (u v:Oper×Nat),i < j→W[i]? = some u→W[j]? = some v→a4a b u.2 v.2=false∧(a4a b v.2 u.2=true∨u.1.apart ops v.1=true))
  (hstep:∀ (k:Nat) (o:Oper) (m:Nat),W[k]? = some (o,m)→∃ rc,R[k]? = some rc∧a3p call P ops (a0q rc.tm) o (a6u R s' k)=some (rc.v,a6u R s' (k+1))∧b3e nt rc.tm o.dst rc.v=some (b1v R tm' (k+1))∧rc.tm=b1v R tm' k)
  (hlex0:∀ k,k≤W.length→TRW W R (a0q tm) (fun m=>∃ a o,a < k∧W[a]? = some (o,m)) (a0q (b1v R tm' k)))
  (hok:∀ (k:Nat) (o:Oper) (m:Nat) (rc:Rc),W[k]? = some (o,m)→R[k]? = some rc→a5n o.op=true→∀ (j:Nat) (h:Oper×Nat),W[j]? = some h→a1a h.1.op=false→a4a b h.2 m=false→a4a b m h.2=false →
   a3a P ops o (a0q rc.tm) rc.v (a6u R s' j)=true∧a3a P ops o (a0q rc.tm) rc.v (a6u R s' (j+1))=true)
  {L:Nat→Prop} {f:Nat→LV} {p i mi:Nat} {oi:Oper} (hi:W[i]? = some (oi,mi)) (hun:¬ L mi) (hpre:∀ j,a4a b mi j=true→L j) (hpost:∀ (k:Nat) (o:Oper) (m:Nat),W[k]? = some (o,m)→a4a b m mi=true→¬ L m)
  (hbelow:a1a oi.op=false→∀ (k:Nat) (o:Oper) (m:Nat),W[k]? = some (o,m)→a1a o.op=false→k < i→L m)
  (habove:a1a oi.op=false→∀ (k:Nat) (o:Oper) (m:Nat),W[k]? = some (o,m)→a1a o.op=false→i < k→¬ L m)
  (hT:TRW W R (a0q tm) L f) (hp:p≤W.length) (hH:∀ (k:Nat) (o:Oper) (m:Nat),W[k]? = some (o,m)→a1a o.op=false→(L m↔k < p)) :
  ∃ rc p',R[i]? = some rc∧a3p call P ops f oi (a6u R s' p)=some (rc.v,a6u R s' p')∧p'≤W.length ∧
    (∀ (k:Nat) (o:Oper) (m:Nat),W[k]? = some (o,m)→a1a o.op=false→((L m∨m=mi)↔k < p')) ∧
    (∀ d,oi.dst=some d→d < nt)∧TRW W R (a0q tm) (fun m=>L m∨m=mi) (fun t=>if oi.dst=some t then rc.v else f t):=by
 have hin:i < W.length:=(List.getElem?_eq_some_iff.1 hi).1
 let S:Nat→St:=a6u R s'
 let heavy:Nat→Prop:=fun k=>∃ o m,W[k]? = some (o,m)∧a1a o.op=false
 have hlight:∀ (k:Nat) (o:Oper) (m:Nat),W[k]? = some (o,m)→a1a o.op=true→S (k+1)=S k:=by
  intro k o m ho hl
  obtain⟨rc,g1,g2,_⟩:=hstep k o m ho
  exact(a2y hl g2).1
 have hconst:∀ c a,a≤c→c≤W.length→(∀ k,a≤k→k < c→¬ heavy k)→S a=S c:=by
  intro c
  induction c with
  | zero=>intro a ha _ _; have:a=0:=by omega
          rw [this]
  | succ c ih =>
    intro a ha hc hno
    by_cases e:a=c+1
    ·rw [e]
    ·have hlt:c < W.length:=by omega
     have hob:W[c]? = some (W[c].1,W[c].2):=List.getElem?_eq_getElem hlt
     have hl:a1a W[c].1.op=true:=by
      cases hqq:a1a W[c].1.op with
      | true=>rfl
      | false=>exact absurd ⟨_,_,hob,hqq⟩ (hno c (by omega) (by omega))
     rw [hlight c _ _ hob hl]
     exact ih a (by omega) (by omega) fun k h1 h2=>hno k h1 (by omega)
 obtain⟨rc,g1,g3,g4,g5⟩:=hstep i oi mi hi
 have hsame:∀ t∈oi.looksAt ops,f t=a0q rc.tm t:=by
  intro t ht
  rw [g5]
  refine hT.unique (hlex0 i (by omega)) fun k o m ho hd=>?_
  rcases Nat.lt_trichotomy k i with e | e | e
  ·refine⟨fun _=>⟨k,o,e,ho⟩,fun _=>?_⟩
   rcases(hpair k i _ _ e ho hi).2 with h | h
   ·exact hpre m h
   ·exact absurd ht ((Oper.apart_spec h).1 t hd)
  ·subst e
   rw [hi] at ho; cases ho
   exact⟨fun h=>absurd h hun,fun⟨a,o',h1,h2⟩=>by have:=huniq _ _ _ _ _ h2 hi; omega⟩
  ·refine⟨fun h=>?_,fun⟨a,o',h1,h2⟩=>by have:=huniq _ _ _ _ _ h2 ho; omega⟩
   rcases(hpair i k _ _ e hi ho).2 with h' | h'
   ·exact absurd h (hpost k o m ho h')
   ·exact absurd ht ((Oper.apart_spec h').2.2 t hd)
 obtain⟨q1,q2⟩:=a4k g4
 have hTs:TRW W R (a0q tm) (fun m=>L m∨m=mi) (fun t=>if oi.dst=some t then rc.v else f t):=by
  refine hT.step huniq hi g1 (fun k=>Iff.rfl) (fun k o m t hk ho h1 h2 h3=>?_) fun t=>rfl
  rcases(hpair i k _ _ hk hi ho).2 with h' | h'
  ·exact hpost k o m ho h' h3
  ·exact(Oper.apart_spec h').2.1 t h1 h2
 cases hl:a1a oi.op with
 | false =>
   have hbelow:=hbelow hl
   have habove:=habove hl
   have hSp:S p=S i:=by
    rcases Nat.le_total p i with e | e
    ·refine hconst i p e (by omega) fun k h1 h2 ⟨o,m,ho,hlk⟩=>?_
     have:=(hH k o m ho hlk).1 (hbelow k o m ho hlk h2)
     omega
    ·refine(hconst p i e hp fun k h1 h2 ⟨o,m,ho,hlk⟩=>?_).symm
     have h3:=(hH k o m ho hlk).2 h2
     rcases Nat.lt_or_ge i k with h4 | h4
     ·exact habove k o m ho hlk h4 h3
     ·have:k=i:=by omega
      subst this; rw [hi] at ho; cases ho; exact hun h3
   refine⟨rc,i+1,g1,by rw [a8b hsame]; show a3p call P ops (a0q rc.tm) oi (S p)=_; rw [hSp]; exact g3,by omega,fun k o m ho hlk=>?_,q1,hTs⟩
   rcases Nat.lt_trichotomy k i with e | e | e
   ·exact⟨fun _=>by omega,fun _=>.inl (hbelow k o m ho hlk e)⟩
   ·subst e; rw [hi] at ho; cases ho; exact⟨fun _=>by omega,fun _=>.inr rfl⟩
   ·refine⟨fun h=>?_,fun h=>by omega⟩
    rcases h with h | h
    ·exact absurd h (habove k o m ho hlk e)
    ·subst h; have:=huniq _ _ _ _ _ hi ho; omega
 | true =>
   have hnh:∀ (k:Nat) (o:Oper) (m:Nat),W[k]? = some (o,m)→a1a o.op=false→m≠mi:=fun k o m ho hlk e=>by
    subst e; have:=huniq _ _ _ _ _ hi ho; subst this; rw [hi] at ho; cases ho; rw [hl] at hlk; cases hlk
   refine⟨rc,p,g1,?_,hp,fun k o m ho hlk=>by rw [← hH k o m ho hlk]; exact⟨fun h=>by rcases h with h | h; exact h; exact absurd h (hnh k o m ho hlk),fun h=>.inl h⟩,q1,hTs⟩
   rw [a8b hsame]
   have hat:=hok i oi mi rc hi g1
   rcases Nat.le_total p i with e | e
   ·by_cases hex:∃ k,p≤k∧k < i∧heavy k
    ·obtain⟨k,hk⟩:=hex
     have hfirst:∃ k,(p≤k∧k < i∧heavy k)∧∀ m,m < k→¬ (p≤m∧m < i∧heavy m):=by
      revert hk
      induction k using Nat.strongRecOn with
      | _ k ihk =>
        intro hk
        by_cases h:∃ m,m < k∧(p≤m∧m < i∧heavy m)
        ·obtain⟨m,hm,hqq⟩:=h; exact ihk m hm hqq
        ·exact⟨k,hk,fun m hm hqq=>h ⟨m,hm,hqq⟩⟩
     obtain⟨k,⟨k1,k2,o,m,ho,hlo⟩,k4⟩:=hfirst
     have hSp:S p=S k:=hconst k p k1 (by omega) fun m h1 h2 hh=>k4 m h2 ⟨h1,by omega,hh⟩
     have hnl:¬ L m:=fun h=>by have:=(hH k o m ho hlo).1 h; omega
     have b1:=(hpair k i _ _ k2 ho hi).1
     have b2:a4a b mi m=false:=by
      cases hb:a4a b mi m with
      | false=>rfl
      | true=>exact absurd (hpre m hb) hnl
     show a3p call P ops (a0q rc.tm) oi (S p)=some (rc.v,S p)
     rw [hSp]
     exact a4m hl g3 fun hld=>(hat hld k _ ho hlo b1 b2).1
    ·have hSp:S p=S i:=hconst i p e (by omega) fun m h1 h2 hh=>hex ⟨m,h1,h2,hh⟩
     show a3p call P ops (a0q rc.tm) oi (S p)=some (rc.v,S p)
     rw [hSp]
     have:=(a2y hl g3).1
     rw [this] at g3; exact g3
   ·by_cases hex:∃ k,i≤k∧k < p∧heavy k
    ·have hlast:∃ k,(i≤k∧k < p∧heavy k)∧∀ m,k < m→¬ (i≤m∧m < p∧heavy m):=by
      obtain⟨k,hk⟩:=hex
      have:∀ d k,p - k=d→(i≤k∧k < p∧heavy k)→∃ k,(i≤k∧k < p∧heavy k)∧∀ m,k < m→¬ (i≤m∧m < p∧heavy m):=by
       intro d
       induction d using Nat.strongRecOn with
       | _ d ihd =>
         intro k hd hk
         by_cases h:∃ m,k < m∧(i≤m∧m < p∧heavy m)
         ·obtain⟨m,hm,hqq⟩:=h; exact ihd (p - m) (by omega) m rfl hqq
         ·exact⟨k,hk,fun m hm hqq=>h ⟨m,hm,hqq⟩⟩
      exact this _ k rfl hk
     obtain⟨k,⟨k1,k2,o,m,ho,hlo⟩,k4⟩:=hlast
     have hSp:S (k+1)=S p:=hconst p (k+1) (by omega) hp fun m h1 h2 hh=>k4 m (by omega) ⟨by omega,h2,hh⟩
     have hkl:L m:=(hH k o m ho hlo).2 k2
     have hki:k≠i:=fun e2=>by subst e2; rw [hi] at ho; cases ho; rw [hl] at hlo; cases hlo
     have b2:=(hpair i k _ _ (by omega) hi ho).1
     have b1:a4a b m mi=false:=by
      cases hb:a4a b m mi with
      | false=>rfl
      | true=>exact absurd hkl (hpost k o m ho hb)
     show a3p call P ops (a0q rc.tm) oi (S p)=some (rc.v,S p)
     rw [← hSp]
     exact a4m hl g3 fun hld=>(hat hld k _ ho hlo b1 b2).2
    ·have hSp:S i=S p:=hconst p i e hp fun m h1 h2 hh=>hex ⟨m,h1,h2,hh⟩
     show a3p call P ops (a0q rc.tm) oi (S p)=some (rc.v,S p)
     rw [← hSp]
     have:=(a2y hl g3).1
     rw [this] at g3; exact g3
structure Lin (ops:Array Oper) (l:List Nat):Prop where
 nd:l.Nodup
 mem:∀ i,i∈l↔i < ops.size
 pre:∀ d i e,l=d++i::e→∀ o,ops[i]? = some o→∀ g∈o.after,Region.binds .any g=true→g.on∈d
theorem f3t {ops:Array Oper} (hlex:b2m ops=true):∀ (fuel t:Nat) (listed:Array Bool),listed.size=ops.size→listed.toList.count false=fuel →
  (∀ i o,listed.getD i false=true→ops[i]? = some o→∀ e∈o.after,Region.binds .any e=true→listed.getD e.on false=true) →
  (Region.linearise.go .any ops fuel t listed []).Nodup∧(∀ i,i∈Region.linearise.go .any ops fuel t listed []↔i < ops.size∧listed.getD i false=false) ∧
   ∀ d i e,Region.linearise.go .any ops fuel t listed []=d++i::e→∀ o,ops[i]? = some o→∀ g∈o.after,Region.binds .any g=true→listed.getD g.on false=true∨g.on∈d:=by
 intro fuel
 induction fuel with
 | zero =>
   intro t listed hsz hcnt hD
   have hall:∀ i,i < ops.size→listed.getD i false=true:=by
    intro i hi
    have hlt:i < listed.size:=by omega
    cases hv:listed.getD i false with
    | true=>rfl
    | false =>
      have:(false:Bool)∈listed.toList:=by
       simp [hlt] at hv
       rw [← hv]; simp
      rw [List.count_eq_zero] at hcnt
      exact absurd this hcnt
   refine⟨by simp [Region.linearise.go],fun i=>?_,fun d i e h=>by simp [Region.linearise.go] at h⟩
   simp only [Region.linearise.go,List.reverse_nil,List.not_mem_nil,false_iff,not_and,Bool.not_eq_false]
   exact hall i
 | succ fuel ih =>
   intro t listed hsz hcnt hD
   simp only [Region.linearise.go]
   change (match (Region.ready .any ops listed)[t % (Region.ready .any ops listed).length]? with
    | some i=>Region.linearise.go .any ops fuel (t / (Region.ready .any ops listed).length) (listed.setIfInBounds i true) [i]
    | none=>[].reverse).Nodup∧(∀ i,i∈(match (Region.ready .any ops listed)[t % (Region.ready .any ops listed).length]? with
    | some i=>Region.linearise.go .any ops fuel (t / (Region.ready .any ops listed).length) (listed.setIfInBounds i true) [i]
    | none=>[].reverse)↔_)∧∀ d i e,(match (Region.ready .any ops listed)[t % (Region.ready .any ops listed).length]? with
    | some i=>Region.linearise.go .any ops fuel (t / (Region.ready .any ops listed).length) (listed.setIfInBounds i true) [i]
    | none=>[].reverse)=d++i::e→_
   cases hi:(Region.ready .any ops listed)[t % (Region.ready .any ops listed).length]? with
   | none =>
     have hnil:Region.ready .any ops listed=[]:=by
      cases hr:Region.ready .any ops listed with
      | nil=>rfl
      | cons x xs =>
        rw [hr] at hi
        have hlt:t % (x::xs).length < (x::xs).length:=Nat.mod_lt _ (by simp)
        simp at hi
        simp at hlt
        omega
     have hall:∀ i,i < ops.size→listed.getD i false=true:=by
      intro i
      induction i using Nat.strongRecOn with
      | _ i ihi =>
        intro hi'
        cases hv:listed.getD i false with
        | true=>rfl
        | false =>
          have hoi:ops[i]? = some (ops[i]):=Array.getElem?_eq_getElem hi'
          have:i∈Region.ready .any ops listed:=by
           rw [mem_ready]
           refine⟨?_,_,hoi,fun e he hb=>ihi e.on (a4n hlex hoi e he hb) (Nat.lt_trans (a4n hlex hoi e he hb) hi')⟩
           have hlt:i < listed.size:=by omega
           simp [hlt] at hv ⊢; exact hv
          rw [hnil] at this; cases this
     refine⟨by simp,fun i=>?_,fun d i e h=>by simp at h⟩
     simp only [List.reverse_nil,List.not_mem_nil,false_iff,not_and,Bool.not_eq_false]
     exact hall i
   | some i =>
     simp only []
     rw [linearise_go_acc,List.reverse_singleton,List.singleton_append]
     obtain⟨hun,oi,hoi,hedges⟩:=mem_ready.1 (List.mem_of_getElem? hi)
     have hin:i < ops.size:=(Array.getElem?_eq_some_iff.1 hoi).1
     have hlt:i < listed.size:=by omega
     have hun':listed.getD i false=false:=by
      simp [hlt] at hun ⊢; exact hun
     have hset:∀ k,(listed.setIfInBounds i true).getD k false=true↔(listed.getD k false=true∨k=i):=by
      intro k
      by_cases e:i=k
      ·subst e
       simp [hlt]
      ·simp only [Array.getD_eq_getD_getElem?,Array.getElem?_setIfInBounds_ne e]
       exact⟨fun h=>.inl h,fun h=>by rcases h with h | h; exact h; exact absurd h.symm e⟩
     have hcnt':(listed.setIfInBounds i true).toList.count false=fuel:=by
      have:=a6c listed.toList i (by simp [hlt] at hun; simp [hlt,hun])
      rw [Array.toList_setIfInBounds]; omega
     obtain⟨h1,h2,h3⟩:=ih (t / (Region.ready .any ops listed).length) (listed.setIfInBounds i true) (by simpa using hsz) hcnt' fun j o hj ho e he hb=>by
      rw [hset] at hj ⊢
      rcases hj with hj | hj
      ·exact .inl (hD j o hj ho e he hb)
      ·subst hj; rw [hoi] at ho; cases ho
       exact .inl (hedges e he hb)
     have hni:¬ i∈Region.linearise.go .any ops fuel (t / (Region.ready .any ops listed).length) (listed.setIfInBounds i true) []:=fun h=>by
      have:=((h2 i).1 h).2
      rw [(hset i).2 (.inr rfl)] at this; cases this
     refine⟨List.nodup_cons.2 ⟨hni,h1⟩,fun k=>?_,fun d k e h=>?_⟩
     ·rw [List.mem_cons,h2]
      constructor
      ·rintro(rfl | ⟨k1,k2⟩)
       ·exact⟨hin,hun'⟩
       ·refine⟨k1,?_⟩
        cases hv:listed.getD k false with
        | false=>rfl
        | true=>rw [(hset k).2 (.inl hv)] at k2; cases k2
      ·rintro⟨k1,k2⟩
       by_cases e:k=i
       ·exact .inl e
       ·refine .inr ⟨k1,?_⟩
        cases hv:(listed.setIfInBounds i true).getD k false with
        | false=>rfl
        | true =>
          rcases(hset k).1 hv with h | h
          ·rw [k2] at h; cases h
          ·exact absurd h e
     ·intro o ho g hg hb
      cases d with
      | nil =>
        simp at h
        obtain⟨rfl,_⟩:=h
        rw [hoi] at ho; cases ho
        exact .inl (hedges g hg hb)
      | cons x d =>
        simp only [List.cons_append,List.cons.injEq] at h
        obtain⟨rfl,h⟩:=h
        rcases h3 d k e h o ho g hg hb with q | q
        ·rcases(hset _).1 q with q | q
         ·exact .inl q
         ·exact .inr (by rw [q]; exact List.mem_cons_self ..)
        ·exact .inr (List.mem_cons_of_mem _ q)
theorem f3s {ops:Array Oper} (hlex:b2m ops=true) (t:Nat):Lin ops (Region.linearise .any ops t):=by
 have hrep:∀ k,¬ (Array.replicate ops.size false).getD k false=true:=by
  intro k
  by_cases h:k < ops.size <;> simp [h]
 obtain⟨h1,h2,h3⟩:=f3t hlex ops.size t (Array.replicate ops.size false) (by simp) (by simp) fun i o h=>absurd h (hrep i)
 refine⟨h1,fun i=>?_,fun d i e h o ho g hg hb=>(h3 d i e h o ho g hg hb).resolve_left (hrep _)⟩
 exact(h2 i).trans ⟨fun h=>h.1,fun h=>⟨h,by simpa using hrep i⟩⟩
theorem d1f {l:List Nat} (h:l.Nodup) {d e d' e':List Nat} {x:Nat} (h1:l=d++x::e) (h2:l=d'++x::e'):d=d':=by
 subst h1
 induction d generalizing d' with
 | nil =>
   cases d' with
   | nil=>rfl
   | cons y d' =>
     simp only [List.nil_append,List.cons_append,List.cons.injEq] at h2
     obtain⟨rfl,h2⟩:=h2
     simp only [List.nil_append,List.nodup_cons] at h
     exact absurd (by rw [h2]; simp) h.1
 | cons y d ih =>
   cases d' with
   | nil =>
     simp only [List.nil_append,List.cons_append,List.cons.injEq] at h2
     obtain⟨rfl,h2⟩:=h2
     simp only [List.cons_append,List.nodup_cons] at h
     exact absurd (by simp) h.1
   | cons z d' =>
     simp only [List.cons_append,List.cons.injEq] at h2
     obtain⟨rfl,h2⟩:=h2
     simp only [List.cons_append,List.nodup_cons] at h
     rw [ih h.2 h2]
theorem c4d {call:Nat→List LV→St→Option (LV×St)} (hcall:b2r P call) {W0:World} {nt:Nat} {ops:Array Oper} {Q:Exit→Act→World→Prop} {tm tm':Tm} {s s':St} {w0:World} {a0:Act} {rs:List Rc} {r:Ren} {W:Pl} {l0:List Nat}
  (hlin:Lin ops l0) (hlex:b2m ops=true) (hW:∀ u∈W,ops[u.2]? = some u.1) (hnd:(W.map (·.2)).Nodup) (hcov:∀ i,i < ops.size→i∈W.map (·.2))
  (hpair:∀ (i j:Nat) (u v:Oper×Nat),i < j→W[i]? = some u→W[j]? = some v→a4a (CheckFast.beforeF ops) u.2 v.2=false∧(a4a (CheckFast.beforeF ops) v.2 u.2=true∨u.1.apart ops v.1=true))
  (hord:W.Pairwise (fun u v=>a1a u.1.op=false→a1a v.1.op=false→∀ d e,l0=d++u.2::e→v.2 ∉ d))
  (hrun:b9z call P nt ops (W.map (·.1)) tm s []=some (tm',s',rs)) (hrec:a8o P ops (CheckFast.beforeF ops) W ((s'::rs.map (·.s)).reverse) W rs.reverse=true)
  (hI:Inv W0 r s w0) (hA:AR r (a0q tm) nt a0) (hQ:∀ r' a' w',Inv W0 r' s' w'→Ext r s w0 r' s' w'→AR r' (a0q tm') nt a'→Q .normal a' w') :
  wpOps P ops Q l0 a0 w0:=by
 obtain⟨R,e1,e2,e3,e4,e5⟩:=b4w hrun
 simp only [List.append_nil] at e1
 subst e1
 rw [List.length_map] at e2
 let S:Nat→St:=a6u R s'
 have hpos:∀ (m:Nat) (o:Oper),ops[m]? = some o→∃ k,W[k]? = some (o,m):=fun m o h=>by
  obtain⟨u,hu,rfl⟩:=List.mem_map.1 (hcov m (Array.getElem?_eq_some_iff.1 h).1)
  obtain⟨k,hk,e⟩:=List.getElem_of_mem hu
  have:=hW u hu
  rw [h] at this; cases this
  exact⟨k,by rw [List.getElem?_eq_getElem hk,e]⟩
 have hWk:∀ (k:Nat) (o:Oper) (m:Nat),W[k]? = some (o,m)→ops[m]? = some o:=fun k o m h=>hW _ (List.mem_of_getElem? h)
 have huniq:∀ (k k':Nat) (o o':Oper) (m:Nat),W[k]? = some (o,m)→W[k']? = some (o',m)→k=k':=fun k k' o o' m h h'=>by
  have hk:=(List.getElem?_eq_some_iff.1 h).1
  have hk':=(List.getElem?_eq_some_iff.1 h').1
  have e1:(W.map (·.2))[k]'(by simpa using hk)=m:=by simp [(List.getElem?_eq_some_iff.1 h).2]
  have e2:(W.map (·.2))[k']'(by simpa using hk')=m:=by simp [(List.getElem?_eq_some_iff.1 h').2]
  have hpw:=List.pairwise_iff_getElem.1 hnd
  rcases Nat.lt_trichotomy k k' with h3 | h3 | h3
  ·exact absurd (e1.trans e2.symm) (hpw k k' (by simpa using hk) (by simpa using hk') h3)
  ·exact h3
  ·exact absurd (e2.trans e1.symm) (hpw k' k (by simpa using hk') (by simpa using hk) h3)
 have hstep:∀ (k:Nat) (o:Oper) (m:Nat),W[k]? = some (o,m)→∃ rc,R[k]? = some rc∧a3p call P ops (a0q rc.tm) o (a6u R s' k)=some (rc.v,a6u R s' (k+1))∧b3e nt rc.tm o.dst rc.v=some (b1v R tm' (k+1))∧rc.tm=b1v R tm' k:=by
  intro k o m ho
  obtain⟨rc,g1,g2,g3⟩:=e5 k o (by simp [ho])
  have hs:a6u R s' k=rc.s:=by simp [a6u,g1]
  exact⟨rc,g1,by rw [hs]; exact g2,g3,by simp [b1v,g1]⟩
 have hlex0:∀ k,k≤W.length→TRW W R (a0q tm) (fun m=>∃ a o,a < k∧W[a]? = some (o,m)) (a0q (b1v R tm' k)):=by
  intro k
  induction k with
  | zero=>intro _ t; exact .inr ⟨fun k o m _ _ h=>by obtain⟨a,o',h1,_⟩:=h; omega,by rw [e3]⟩
  | succ k ih =>
    intro hk
    have hok:W[k]? = some (W[k].1,W[k].2):=List.getElem?_eq_getElem (by omega)
    obtain⟨rc,g1,g2,g4,g5⟩:=hstep k _ _ hok
    refine(ih (by omega)).step huniq hok g1 (fun m=>?_) (fun j o m t hj ho _ _ h=>?_) fun t=>?_
    ·constructor
     ·rintro⟨a,o,h1,h2⟩
      by_cases e:a=k
      ·subst e; rw [hok] at h2; simp at h2; exact .inr h2.2.symm
      ·exact .inl ⟨a,o,by omega,h2⟩
     ·rintro(⟨a,o,h1,h2⟩ | h)
      ·exact⟨a,o,by omega,h2⟩
      ·exact⟨k,W[k].1,by omega,by rw [hok,h]⟩
    ·obtain⟨a,o',h1,h2⟩:=h
     have:=huniq _ _ _ _ _ h2 ho
     omega
    ·rw [(a4k g4).2 t,← g5]
 have hss:∀ m,m≤W.length→((s'::R.reverse.map (·.s)).reverse)[m]? = some (a6u R s' m):=by
  intro m hm
  have:(s'::R.reverse.map (·.s)).reverse=R.map (·.s)++[s']:=by simp
  rw [this]
  by_cases h:m < R.length
  ·rw [List.getElem?_append_left (by simpa using h)]
   simp [a6u,List.getElem?_eq_getElem h]
  ·have:m=R.length:=by omega
   subst this
   rw [List.getElem?_append_right (by simp)]
   simp [a6u]
 have hok:∀ (k:Nat) (o:Oper) (m:Nat) (rc:Rc),W[k]? = some (o,m)→R[k]? = some rc→a5n o.op=true→∀ (j:Nat) (h:Oper×Nat),W[j]? = some h→a1a h.1.op=false→a4a (CheckFast.beforeF ops) h.2 m=false→a4a (CheckFast.beforeF ops) m h.2=false →
   a3a P ops o (a0q rc.tm) rc.v (a6u R s' j)=true∧a3a P ops o (a0q rc.tm) rc.v (a6u R s' (j+1))=true:=by
  intro k o m rc ho hr hl j h hj hlj h1 h2
  have hok:=a9t _ _ hrec k (o,m) rc ho (by simpa using hr) hl
  have hjl:=(List.getElem?_eq_some_iff.1 hj).1
  exact a8w _ _ hok j h _ _ hj (hss j (by omega)) (hss (j+1) (by omega)) hlj h1 h2
 have hconst:∀ c a,a≤c→c≤W.length→(∀ (k:Nat) (o:Oper) (m:Nat),a≤k→k < c→W[k]? = some (o,m)→a1a o.op=true)→S a=S c:=by
  intro c
  induction c with
  | zero=>intro a ha _ _; have:a=0:=by omega
          rw [this]
  | succ c ih =>
    intro a ha hc hno
    by_cases e:a=c+1
    ·rw [e]
    ·have hob:W[c]? = some (W[c].1,W[c].2):=List.getElem?_eq_getElem (by omega)
     obtain⟨rc,g1,g2,_⟩:=hstep c _ _ hob
     have:=(a2y (hno c _ _ (by omega) (by omega) hob) g2).1
     show S a=S (c+1)
     rw [show S (c+1)=S c from this]
     exact ih a (by omega) (by omega) fun k o m h1 h2 h3=>hno k o m h1 (by omega) h3
 have hclosed:∀ d e,l0=d++e→∀ i o,i∈d→ops[i]? = some o→∀ g∈o.after,Region.binds .any g=true→g.on∈d:=by
  intro d e h i o hi ho g hg hb
  obtain⟨d1,d2,rfl⟩:=List.append_of_mem hi
  have:=hlin.pre d1 i (d2++e) (by rw [h]; simp) o ho g hg hb
  exact List.mem_append_left _ this
 have main:∀ (rest done:List Nat),l0=done++rest→∀ (a:Act) (w:World) (r':Ren) (f:Nat→LV) (p:Nat),Inv W0 r' (S p) w→Ext r s w0 r' (S p) w→AR r' f nt a→TRW W R (a0q tm) (· ∈ done) f→p≤W.length →
   (∀ (k:Nat) (o:Oper) (m:Nat),W[k]? = some (o,m)→a1a o.op=false→(m∈done↔k < p))→wpOps P ops Q rest a w:=by
  intro rest
  induction rest with
  | nil =>
    intro done hl a w r' f p j1 j2 j3 j4 j5 j6
    rw [List.append_nil] at hl
    subst hl
    have hall:∀ (k:Nat) (o:Oper) (m:Nat),W[k]? = some (o,m)→m∈l0:=fun k o m ho=>(hlin.mem m).2 (Array.getElem?_eq_some_iff.1 (hWk k o m ho)).1
    have hend:R[W.length]? = none:=List.getElem?_eq_none (by omega)
    have hS:S p=s':=by
     rw [hconst W.length p j5 (Nat.le_refl _) fun k o m h1 h2 ho=>by
      cases hl:a1a o.op with
      | true=>rfl
      | false =>
        have:=(j6 k o m ho hl).1 (hall k o m ho)
        omega]
     simp [S,a6u,hend]
    have hf:f=a0q tm':=by
     funext t
     have h1:=hlex0 W.length (Nat.le_refl _)
     have h2:b1v R tm' W.length=tm':=by simp [b1v,hend]
     rw [h2] at h1
     refine j4.unique h1 fun k o m ho _=>?_
     exact⟨fun _=>⟨k,o,(List.getElem?_eq_some_iff.1 ho).1,ho⟩,fun _=>hall k o m ho⟩
    rw [hS] at j1 j2
    rw [hf] at j3
    simp only [wpOps]
    exact hQ r' a w j1 j2 j3
  | cons i rest ih =>
    intro done hl a w r' f p j1 j2 j3 j4 j5 j6
    have hnd':=hlin.nd
    rw [hl] at hnd'
    have hil:i∈l0:=by rw [hl]; simp
    have hin:=(hlin.mem i).1 hil
    have hoi:ops[i]? = some ops[i]:=Array.getElem?_eq_getElem hin
    generalize ops[i]=oi at hoi
    obtain⟨ki,hki⟩:=hpos i oi hoi
    have hun:i ∉ done:=fun h=>by
     rw [List.nodup_append] at hnd'
     exact hnd'.2.2 i h i (List.mem_cons_self ..) rfl
    have hpre:∀ j,a4a (CheckFast.beforeF ops) i j=true→j∈done:=fun j hj =>
     a3t hlex (D:=(· ∈ done)) (fun k o hk ho=>hclosed done _ hl k o hk ho) i j hoi (fun g hg hb=>hlin.pre done i rest hl oi hoi g hg hb) hj
    have hpost:∀ (k:Nat) (o:Oper) (m:Nat),W[k]? = some (o,m)→a4a (CheckFast.beforeF ops) m i=true→¬ m∈done:=fun k o m ho hj hm =>
     hun (a3t hlex (D:=(· ∈ done)) (fun k o hk ho=>hclosed done _ hl k o hk ho) m i (hWk k o m ho) (hclosed done _ hl m o hm (hWk k o m ho)) hj)
    have hw:=List.pairwise_iff_getElem.1 hord
    have hb:a1a oi.op=false→∀ (k:Nat) (o:Oper) (m:Nat),W[k]? = some (o,m)→a1a o.op=false→k < ki→m∈done:=by
     intro hlo k o m ho hlk hk
     have hk1:=(List.getElem?_eq_some_iff.1 ho).1
     have hk2:=(List.getElem?_eq_some_iff.1 hki).1
     have e1:=(List.getElem?_eq_some_iff.1 ho).2
     have e2:=(List.getElem?_eq_some_iff.1 hki).2
     have h:=hw k ki hk1 hk2 hk
     rw [e1,e2] at h
     have hml:m∈l0:=(hlin.mem m).2 (Array.getElem?_eq_some_iff.1 (hWk k o m ho)).1
     rw [hl] at hml
     rcases List.mem_append.1 hml with h1 | h1
     ·exact h1
     ·rcases List.mem_cons.1 h1 with h1 | h1
      ·subst h1; have:=huniq _ _ _ _ _ ho hki; omega
      ·obtain⟨x,y,rfl⟩:=List.append_of_mem h1
       exact absurd (by simp) (h hlk hlo (done++i::x) y (by rw [hl]; simp))
    have ha:a1a oi.op=false→∀ (k:Nat) (o:Oper) (m:Nat),W[k]? = some (o,m)→a1a o.op=false→ki < k→¬ m∈done:=by
     intro hlo k o m ho hlk hk
     have hk1:=(List.getElem?_eq_some_iff.1 ho).1
     have hk2:=(List.getElem?_eq_some_iff.1 hki).1
     have e1:=(List.getElem?_eq_some_iff.1 ho).2
     have e2:=(List.getElem?_eq_some_iff.1 hki).2
     have h:=hw ki k hk2 hk1 hk
     rw [e1,e2] at h
     exact h hlo hlk done rest hl
    obtain⟨rc,p',l1,l2,l3,l6,l7,l8⟩:=c9z (P:=P) e2 huniq hpair hstep hlex0 hok (L:=(· ∈ done)) hki hun hpre hpost hb ha j4 j5 j6
    rw [wpOps_cons]
    refine b0i hcall j1 j3 hoi l2 fun r'' w' u hI'' hE'' hv=>?_
    refine ih (done++[i]) (by rw [hl]; simp) _ _ r'' _ p' hI'' (j2.trans hE'') ((j3.mono hE''.le).put hv l7 fun t=>rfl) ?_ l3 fun k o m ho hlk=>by
     rw [← l6 k o m ho hlk]; simp
    have:(fun m=>m∈done++[i])=fun m=>m∈done∨m=i:=by funext m; simp
    rw [this]; exact l8
 exact main l0 [] rfl a0 w0 r (a0q tm) 0 (by simp only [S,e4]; exact hI) (by simp only [S,e4]; exact Ext.refl _ _ _) hA (fun t=>.inr ⟨fun k o m _ _ h=>by simp at h,rfl⟩) (by omega) fun k o m _ _=>⟨fun h=>by simp at h,fun h=>by omega⟩
theorem a0p.g9u {cx:Cx} (hcx:a3w P (a2z cx)) {n nt n0:Nat} {c:Code} {tm:Tm} {s:St} {L:List Nat} {Φ : Pk} (hn:n0≤s.n) (h:b8e P cx n nt c tm s (vK L Φ)):a0p P nt c n0 tm s (vK L Φ):=by
 unfold b8e at h
 split at h
 ·rename_i id ops
  rw [a4g,Bool.and_eq_true] at h
  obtain⟨⟨hm,hlex⟩,h⟩:=h
  intro W0 r a w hI hA K hK
  refine wp_region_draw fun t=>?_
  simp only [Region.schedule,hm,Bool.true_or,if_true]
  have hlin:=f3s hlex t
  generalize hl0:Region.linearise .any ops t=l0 at hlin ⊢
  let hv:Nat→Bool:=fun i=>match ops[i]? with | some o=>!a1a o.op | none=>false
  have hH:∀ x,x∈a4v ops.toList.zipIdx↔x < ops.size∧hv x=true:=by
   intro x
   simp only [a4v,List.mem_map,List.mem_filter,hv]
   constructor
   ·rintro⟨u,⟨h1,h2⟩,rfl⟩
    rw [List.mem_zipIdx_iff_getElem?] at h1
    have h1:ops[u.2]? = some u.1:=by simpa using h1
    rw [h1]
    exact⟨(Array.getElem?_eq_some_iff.1 h1).1,h2⟩
   ·rintro⟨h1,h2⟩
    have ho:ops[x]? = some ops[x]:=Array.getElem?_eq_getElem h1
    rw [ho] at h2
    exact⟨(ops[x],x),⟨by rw [List.mem_zipIdx_iff_getElem?]; simp,h2⟩,rfl⟩
  have hσd:(l0.filter hv).Nodup:=hlin.nd.filter _
  have hzn:(a4v ops.toList.zipIdx).Nodup:=by
   refine List.Sublist.nodup (List.Sublist.map _ List.filter_sublist) ?_
   simp [List.zipIdx_map_snd,List.nodup_range']
  have hmem:∀ x,x∈l0.filter hv↔x∈a4v ops.toList.zipIdx:=fun x=>by rw [List.mem_filter,hlin.mem,hH]
  have hclosed:∀ d e,l0=d++e→∀ i o,i∈d→ops[i]? = some o→∀ g∈o.after,Region.binds .any g=true→g.on∈d:=by
   intro d e h i o hi ho g hg hb
   obtain⟨d1,d2,rfl⟩:=List.append_of_mem hi
   have:=hlin.pre d1 i (d2++e) (by rw [h]; simp) o ho g hg hb
   exact List.mem_append_left _ this
  have hlp:l0.Pairwise (fun x y=>∀ d e,l0=d++x::e→y ∉ d):=by
   rw [List.pairwise_iff_getElem]
   intro i j hi hj hij d e he hy
   have h1:l0=l0.take i++l0[i]::l0.drop (i+1):=by rw [← List.drop_eq_getElem_cons hi,List.take_append_drop]
   have h2:=d1f hlin.nd h1 he
   rw [← h2] at hy
   obtain⟨k,hk,e'⟩:=List.getElem_of_mem hy
   simp only [List.length_take] at hk
   rw [List.getElem_take] at e'
   have:=(List.pairwise_iff_getElem.1 hlin.nd) k j (by omega) hj (by omega)
   exact this e'
  have hσp:(l0.filter hv).Pairwise (fun x y=>a4a (CheckFast.beforeF ops) x y=false):=by
   refine(hlp.filter hv).imp_of_mem fun {x y} hx hy h=>?_
   cases hb:a4a (CheckFast.beforeF ops) x y with
   | false=>rfl
   | true =>
     have hxl:=(List.mem_filter.1 hx).1
     obtain⟨d,e,he⟩:=List.append_of_mem hxl
     have hxs:=(hlin.mem x).1 hxl
     have ho:ops[x]? = some ops[x]:=Array.getElem?_eq_getElem hxs
     have:=a3t hlex (D:=(· ∈ d)) (fun k o hk ho=>hclosed d _ he k o hk ho) x y ho (fun g hg hb=>hlin.pre d x e he _ ho g hg hb) hb
     exact absurd this (h d e he)
  have hin:l0.filter hv∈f0r (CheckFast.beforeF ops) (a4v ops.toList.zipIdx).length (a4v ops.toList.zipIdx):=by
   refine c6e ?_ hσd hmem hσp
   exact Nat.le_of_eq ((List.perm_ext_iff_of_nodup hσd hzn).2 hmem).length_eq
  have h1:=c7k h _ hin
  unfold c9c at h1
  generalize hW:c4h ops (f0c (CheckFast.beforeF ops) (l0.filter hv) (c6h ops.toList.zipIdx))=W at h1
  simp only [a4g] at h1
  obtain⟨h2,h3⟩:=h1
  simp only [okW,Bool.and_eq_true] at h2
  obtain⟨⟨⟨c1,c2⟩,c3⟩,c4⟩:=h2
  have hWm:∀ u∈W,ops[u.2]? = some u.1:=fun u hu=>by rw [← hW] at hu; exact b5t hu
  obtain⟨tm',s',rs,k1,k2⟩:=a7v (c9i (P:=P) (cx:=cx) n).2 h3
  rw [a3y] at k2
  obtain⟨k2,k3⟩:=k2
  have hord:W.Pairwise (fun u v=>a1a u.1.op=false→a1a v.1.op=false→∀ d e,l0=d++u.2::e→v.2 ∉ d):=by
   have q:=hlp.filter hv
   rw [← d6t c4,a4v,List.pairwise_map,List.pairwise_filter] at q
   exact q.imp fun {u v} h hu hv=>h (by simp [hu]) (by simp [hv])
  refine c4d (fun W0 r' g args s1 s2 v w' us=>(a5f hcx n).2 W0 r' g args s1 s2 v w' us) hlin hlex hWm (a4t c1) (fun i hi=>b8a c2 i hi) (b2e c3) hord k1 (a7i k2) (hI.draw _) hA fun r' a' w' q1 q2 q3=>?_
  exact hK .normal tm' s' r' a' w' k3 q1 (b6z.of ((Ext.draw _).trans q2) hn) q3
 ·exact h.elim
end
section
open Go.RowKit
variable {P:Program}
def fl3 (P:Program):Nat→TypeId→Option (List (Nat×CT))
 | 0,_=>none
 | d+1,t=>match P.underlying t with
   | some (.struct fs)=>flF (fl3 P d) fs.toList
   | some (.int k)=>some [(0,.int k)]
   | some .bool=>some [(0,.bool)]
   | _=>some []
theorem d8z {ρ : a2o} {c o k es:Nat} {cs0 cs:List LV} (h1:cs0.length≤k * es) (h2:o+k * es≤cs.length) (h3:a5i ρ cs0 (a3o cs o cs0.length)) (h:LV.any ∉ cs0):LBW ρ (.cap c o k) (.cells cs0 (some es)) (some (.cells cs none)):=⟨h1,h2,.inr h3,h⟩
theorem c4m {ρ : a2o} {b c n m:Nat} (h : ρ b=some (.drop c 0 0)):LVW ρ (.slo b 0 n m) (.slo c 0 n m):=by simp [LVW,h]
theorem d4q {ρ : a2o} {c es:Nat} {cs0 cs:List LV} (h1:cs0.length≤cs.length) (h3:a5i ρ cs0 (a3o cs 0 cs0.length)) (h:LV.any ∉ cs0):LBW ρ (.drop c 0 0) (.cells cs0 (some es)) (some (.cells cs (some es))):=⟨rfl,(Nat.zero_mul _).symm,by omega,.inr h3,h⟩
end
section
open Go.RowKit
variable {P:Program}
mutual
def fits (P:Program):Nat→TypeId→DataW Unit→List LV→Bool
 | 0,_,_,_=>false
 | k+1,t,d,ls =>
   match P.underlying t,d,ls with
   | some .bool,.lit (.bool b),[.bool b']=>b == b'
   | some (.int q),.lit (.int _ n),[.int q' n']=>decide (q=q') && n == n'
   | some .string,.lit (.string bs),[.str s]=>bs == s
   | some (.struct fs),.agg ds,ls=>c2j P k (P.cellsOf t) 0 fs.toList ds ls
   | some (.array n e),.agg ds,ls=>decide (n * P.cellsOf e=P.cellsOf t) && decide (ds.length=n) && c8j P k e (P.cellsOf e) ds ls
   | _,_,_=>false
def c2j (P:Program):Nat→Nat→Nat→List Field→List (DataW Unit)→List LV→Bool
 | 0,_,_,_,_,_=>false
 | k+1,total,off,[],[],ls=>decide (off=total) && ls.isEmpty
 | k+1,total,off,f::fs,d::ds,ls=>decide (f.offset=off) && (match cut ls 0 (P.cellsOf f.type) with | some c=>fits P k f.type d c | none=>false) && c2j P k total (off+P.cellsOf f.type) fs ds (ls.drop (P.cellsOf f.type))
 | _,_,_,_,_,_=>false
def c8j (P:Program):Nat→TypeId→Nat→List (DataW Unit)→List LV→Bool
 | 0,_,_,_,_=>false
 | k+1,e,n,[],ls=>ls.isEmpty
 | k+1,e,n,d::ds,ls=>(match cut ls 0 n with | some c=>fits P k e d c | none=>false) && c8j P k e n ds (ls.drop n)
end
theorem c7c {ls c:List LV} {n:Nat} (h:cut ls 0 n=some c):ls=c++ls.drop n:=by
 obtain⟨h1,h2⟩:=a6m _ _ _ _ h
 have hlen:n≤ls.length:=by
  rcases Nat.eq_zero_or_pos n with e | e
  ·omega
  ·have:=h2 (n - 1) (by omega)
   rw [List.getElem?_eq_getElem (by omega)] at this
   have:=(List.getElem?_eq_some_iff.1 this.symm).1
   omega
 have:c=ls.take n:=by
  apply List.ext_getElem?
  intro i
  by_cases hi:i < n
  ·rw [h2 i hi,List.getElem?_take_of_lt hi]; simp
  ·rw [List.getElem?_eq_none (by omega),List.getElem?_eq_none (by simp; omega)]
 rw [this,List.take_append_drop]
theorem d4u {r:Ren} {w:World} {sp:Nat→Bool}:∀ k,
  (∀ (t:TypeId) (d:DataW Unit) (ls:List LV),fits P k t d ls=true→∀ (m:Nat) (vs:List Value) (ps:List MemPlace),DataW.trod (fun _=>()) P w 0 sp false m t vs=some (d,ps)→VRs r ls vs) ∧
  (∀ (total off:Nat) (fs:List Field) (ds:List (DataW Unit)) (ls:List LV),c2j P k total off fs ds ls=true→∀ (m:Nat) (vs:List Value) (xs:List (DataW Unit×List MemPlace)),vs.length=total→ds=xs.map (·.1) →
   (∀ (i:Nat) (f:Field),fs[i]? = some f→DataW.trod (fun _=>()) P w 0 sp false m f.type ((vs.drop f.offset).take (P.cellsOf f.type))=xs[i]?)→VRs r ls (vs.drop off)) ∧
  (∀ (e:TypeId) (n:Nat) (ds:List (DataW Unit)) (ls:List LV),c8j P k e n ds ls=true→∀ (m j:Nat) (vs:List Value) (xs:List (DataW Unit×List MemPlace)),vs.length=(j+ds.length) * n→ds=xs.map (·.1) →
   (∀ (i:Nat),i < ds.length→DataW.trod (fun _=>()) P w 0 sp false m e ((vs.drop ((j+i) * n)).take n)=xs[i]?)→VRs r ls (vs.drop (j * n))):=by
 intro k
 induction k with
 | zero=>exact⟨fun t d ls h=>by simp [fits] at h,fun _ _ _ _ ls h=>by simp [c2j] at h,fun _ _ _ ls h=>by simp [c8j] at h⟩
 | succ k ih =>
   obtain⟨ih1,ih2,ih3⟩:=ih
   refine⟨fun t d ls h m vs ps hd=>?_,fun total off fs ds ls h m vs xs hl hx hf=>?_,fun e n ds ls h m j vs xs hl hx hf=>?_⟩
   ·unfold fits at h
    split at h
    ·rename_i b b' e1
     obtain⟨c,rfl,e2⟩:=DataW.trod_bool e1 hd
     simp at e2 h
     obtain⟨rfl,_⟩:=e2
     subst h
     simp [VRs,VR]
    ·rename_i q q0 n q' n' e1
     obtain⟨z,rfl,e2,_⟩:=DataW.trod_int e1 hd
     simp at e2 h
     obtain⟨⟨_,rfl⟩,_⟩:=e2
     obtain⟨rfl,rfl⟩:=h
     simp [VRs,VR]
    ·rename_i bs s e1
     obtain⟨z,rfl,e2,_⟩:=DataW.trod_string e1 hd
     simp at e2 h
     obtain⟨rfl,_⟩:=e2
     subst h
     simp [VRs,VR]
    ·rename_i fs ds e1
     obtain⟨xs,n,rfl,e2,e3,e4,e5⟩:=DataW.trod_struct e1 hd
     simp at e2
     have:=ih2 _ 0 fs.toList ds _ h n vs xs e3 e2.1 (fun i f hf=>e5 i f (by simpa using hf))
     simpa using this
    ·rename_i n e ds e1
     obtain⟨xs,m',rfl,e2,e3,e4,e5⟩:=DataW.trod_array e1 hd
     simp at e2
     simp only [Bool.and_eq_true,decide_eq_true_eq] at h
     obtain⟨⟨h1,h2⟩,h3⟩:=h
     have:=ih3 e (P.cellsOf e) ds _ h3 m' 0 vs xs (by rw [e3,← h1,h2]; simp) e2.1 (fun i hi=>by simpa using e5 i (by omega))
     simpa using this
    ·cases h
   ·cases fs with
    | nil =>
      cases ds with
      | cons d ds=>simp [c2j] at h
      | nil =>
        simp only [c2j,Bool.and_eq_true,decide_eq_true_eq,List.isEmpty_iff] at h
        obtain⟨h1,h2⟩:=h
        subst h2 h1
        rw [List.drop_of_length_le (by omega)]; simp [VRs]
    | cons f fs =>
      cases ds with
      | nil=>simp [c2j] at h
      | cons d ds =>
        simp only [c2j,Bool.and_eq_true,decide_eq_true_eq] at h
        obtain⟨⟨h1,h2⟩,h3⟩:=h
        cases xs with
        | nil=>simp at hx
        | cons x xs =>
          simp at hx
          obtain⟨rfl,rfl⟩:=hx
          cases hc:cut ls 0 (P.cellsOf f.type) with
          | none=>simp [hc] at h2
          | some c =>
            simp only [hc] at h2
            have e0:=hf 0 f rfl
            rw [h1] at e0
            obtain⟨x1,x2⟩:=x
            have a1:=ih1 f.type x1 c h2 m _ x2 (by simpa using e0)
            have a2:=ih2 total (off+P.cellsOf f.type) fs (xs.map (·.1)) (ls.drop (P.cellsOf f.type)) h3 m vs xs hl rfl (fun i g hg=>by simpa using hf (i+1) g (by simpa using hg))
            rw [c7c hc,← List.take_append_drop (P.cellsOf f.type) (vs.drop off)]
            refine a1.append ?_
            rw [List.drop_drop]; exact a2
   ·cases ds with
    | nil =>
      simp only [c8j,List.isEmpty_iff] at h
      subst h
      rw [List.drop_of_length_le (by simp at hl; omega)]; simp [VRs]
    | cons d ds =>
      simp only [c8j,Bool.and_eq_true] at h
      obtain⟨h2,h3⟩:=h
      cases xs with
      | nil=>simp at hx
      | cons x xs =>
        simp at hx
        obtain⟨rfl,rfl⟩:=hx
        cases hc:cut ls 0 n with
        | none=>simp [hc] at h2
        | some c =>
          simp only [hc] at h2
          have e0:=hf 0 (by simp)
          obtain⟨x1,x2⟩:=x
          have a1:=ih1 e x1 c h2 m _ x2 (by simpa using e0)
          have a2:=ih3 e n (xs.map (·.1)) (ls.drop n) h3 m (j+1) vs xs (by rw [hl]; congr 1; simp; omega) rfl (fun i hi=>by
           have:=hf (i+1) (by simp at hi ⊢; omega)
           rw [show j+(i+1)=j+1+i by omega] at this
           simpa using this)
          rw [c7c hc,← List.take_append_drop n (vs.drop (j * n))]
          refine a1.append ?_
          rw [List.drop_drop,show j * n+n=(j+1) * n by rw [Nat.succ_mul]]; exact a2
mutual
def c4y:DataW Unit→List LV
 | .lit (.bool b)=>[.bool b]
 | .lit (.int k n)=>[.int k n]
 | .lit (.string bs)=>[.str bs]
 | .agg ds=>d6s ds
 | _=>[]
def d6s:List (DataW Unit)→List LV
 | []=>[]
 | d::ds=>c4y d++d6s ds
end
def d1v (P:Program):List (String×DataW Unit)→List (Nat×List LV)→Bool
 | [],[]=>true
 | (n,d)::l,(g,ls)::r=>(match P.globalNamed n with
   | some g'=>Nat.beq g g' && (match (P.globals[g]?).map (·.type) with | some t=>fits P 100 t d ls | none=>false)
   | none=>false) && a9f ls && d1v P l r
 | _,_=>false
theorem Gl_of_laid {W:World}:∀ {l:List (String×DataW Unit)} {g:List (Nat×List LV)} {ps:List MemPlace},d1v P l g=true→DataW.LaidVars P W l ps→Gl W g
 | [],[],ps,h,hl=>fun x hx=>by cases hx
 | (n,d)::l,(g,ls)::r,ps,h,hl=>by
   obtain⟨g1,t,cs,fuel,p,q,h1,h2,h3,h4,h5,h6⟩:=hl
   simp only [d1v,Bool.and_eq_true,h1] at h
   obtain⟨⟨⟨k1,k2⟩,k3⟩,k4⟩:=h
   have:g=g1:=by simpa [a0t] using k1
   subst this
   rw [h2] at k2
   simp only at k2
   intro x hx
   rcases List.mem_cons.1 hx with hx | hx
   ·subst hx
    have hvr:=fun r=>((d4u (P:=P) (r:=r) (w:=W) (sp:=fun _=>true) 100).1 t d ls k2 fuel cs.toList p h4)
    simp only [World.var?,h1,Option.bind_some] at h3
    split at h3
    ·rename_i cc e f hc
     cases h3
     refine .inr ⟨cs,e,f,hc,fun i lv hi=>⟨a7m k3 _ (List.mem_of_getElem? hi),?_⟩⟩
     obtain⟨u,q1,q2⟩:=(hvr (fun _=>none)).get hi
     refine⟨u,by simpa using q1,fun r=>?_⟩
     obtain⟨u',q1',q2'⟩:=(hvr r).get hi
     rw [q1] at q1'; cases q1'
     exact q2'
    ·cases h3
   ·exact Gl_of_laid k4 h5 x hx
end
section
open Go.RowKit
section
variable {P:Program}
def d8g:List ResultVar→Nat→Nat→Bool
 | [.cell b u],a,t=>Nat.beq b a && Nat.beq u t
 | _,_,_=>false
theorem d8f:∀ {r:List ResultVar} {a t:Nat},d8g r a t=true→r=[.cell a t]
 | [.cell b u],a,t,h=>by
   simp only [d8g,Bool.and_eq_true] at h
   rw [Nat.eq_of_beq_eq_true h.1,Nat.eq_of_beq_eq_true h.2]
 | [],_,_,h=>by simp [d8g] at h
 | [.tmp _],_,_,h=>by simp [d8g] at h
 | .tmp _::_::_,_,_,h=>by simp [d8g] at h
 | .cell _ _::_::_,_,_,h=>by simp [d8g] at h
def f4o (P:Program) (f nt a t:Nat) (na:Nat):Bool:=match P.funcs[f]? with
 | some fn=>(match fn.body with | some _=>Nat.beq fn.ntmps nt && Nat.ble na nt && d8g fn.results.toList a t | none=>false)
 | none=>false
def g8g (P:Program) (n0 a t:Nat) (L:List Nat) (g:Glb) (Q:LV→List LB→Prop):Pk:=fun x vs bs g'=>c8g x∧g'=g∧∃ (b:Nat) (cs:List LV) (op:Option Nat) (v l0:LV) (b0:List LB) (ρ : List Src),b1b L vs a=.ptr b 0∧bs[b]? = some (some (.cells cs op))∧a7g P t cs 0=some v∧Q l0 b0∧a4f n0 1 [0] [v] bs ρ [(0,l0)] b0
theorem c2u {s:St} {b:Nat} {cs:List LV} {op:Option Nat} (h:(a5g s)[b]? = some (some (.cells cs op))):s.look b=some cs:=by
 rw [a5g,a7l] at h
 split at h
 ·rw [Nat.zero_add] at h
  rw [St.look,Option.some.inj h]
 ·cases h
theorem a0k.h0d {f:Nat} {args:List LV} {bs:List LB} {g:Glb} {Q:LV→List LB→Prop} (nt n0 a t:Nat) (L:List Nat) (hf:f4o P f nt a t args.length=true) (hn0:bs.length=n0) (ht:(a4q args 0 .leaf).isSome=true)
  (hin:b2f a L=false) (h:SSp P nt ((sp P f).drop 0) n0 (tm0 args) (mkS bs g) (vK L (g8g P n0 a t L g Q))):a0k P f args (mkS bs g) fun l s'=>∃ b0,Q l b0∧s'=mkS b0 g:=by
 have ht':a4q args 0 .leaf=some (tm0 args):=by
  unfold tm0
  cases hi:a4q args 0 .leaf with
  | none=>rw [hi] at ht; cases ht
  | some t=>rfl
 obtain⟨fn,c,h1,h2,h3,h4,h5⟩:∃ fn c,P.funcs[f]? = some fn∧fn.body=some c∧fn.ntmps=nt∧args.length≤nt∧fn.results.toList=[.cell a t]:=by
  unfold f4o at hf
  split at hf
  ·rename_i fn h1
   split at hf
   ·rename_i c h2
    simp only [Bool.and_eq_true] at hf
    exact⟨fn,c,h1,h2,Nat.eq_of_beq_eq_true hf.1.1,Nat.le_of_ble_eq_true hf.1.2,d8f hf.2⟩
   ·cases hf
  ·cases hf
 have hnt:d4n P f=nt:=by simp only [d4n,h1,h3]
 have hres:b8p P f=[.cell a t]:=by simp only [b8p,h1,h5]
 have h1':a0k P f args (mkS bs g) fun l s'=>s'.g=g∧∃ l0 b0 ρ,Q l0 b0∧a4f (mkS bs g).n 1 [0] [l] (a5g s') ρ [(0,l0)] b0:=by
  refine a0k.h0m ⟨fn,c,h1,h2,Nat.ble_eq_true_of_le (by omega)⟩ ht' ?_
  rw [List.drop_zero] at h
  rw [hnt,hn0]
  refine SSp.mono (fun x tm' s' k=>?_) h
  obtain⟨k1,k2,b,cs,op,v,l0,b0,ρ,k3,k4,k5,k6,k7⟩:=k
  rw [b1u hin] at k3
  have hl:b6e P s' t b 0=some v:=by rw [b6e,c2u k4]; exact k5
  refine⟨k1,[v],?_,k2,l0,b0,ρ,k6,by rw [a2p,hn0]; exact k7⟩
  rw [hres]
  simp only [a2f,k3,hl]
 refine a0k.conv h1' fun l s' ⟨e,l0,b0,ρ,q,k⟩=>?_
 exact⟨l0,b0,ρ,⟨b0,q,by rw [e]⟩,k⟩
theorem a0p.h0c {nt n0:Nat} {c:Code} {tm:Tm} {s:St} {Q:LX→Tm→St→Prop} (h:SSp P nt ((a3l c).drop 0) n0 tm s Q):a0p P nt c n0 tm s Q:=a0p.h0l h
def f9j (t:Nat):Operand→Bool
 | .tmp u=>Nat.beq u t
 | _=>false
theorem a0p.ways {nt n0 t:Nat} {c:Code} {tm:Tm} {s:St} {Q:LX→Tm→St→Prop} {q:Bool} (hc:(d1z c && f9j t (d5a c))=true) (hq:a0q tm t=.bool q) (h1:q=true→a0p P nt (c2r c) n0 tm s Q) (h2:q=false→a0p P nt (c2s c) n0 tm s Q):a0p P nt c n0 tm s Q:=by
 rw [Bool.and_eq_true] at hc
 rw [c2b hc.1]
 refine a0p.cnd ?_ h1 h2
 cases ho:d5a c with
 | tmp u =>
   rw [ho] at hc
   have:=Nat.eq_of_beq_eq_true hc.2
   subst this
   rw [b3o,hq]
 | const v=>rw [ho] at hc; cases hc.2
 | func f=>rw [ho] at hc; cases hc.2
 | global g=>rw [ho] at hc; cases hc.2
end
end
section
open Go.RowKit
section
variable {A B:Prop}
theorem zq1 {a b:Nat} (k:A) (h:a≤b:=by omega):cond (xle a b) A B:=b5g (a1n h) k
theorem zq2 {a b:Nat} (k:B) (h:b < a:=by omega):cond (xle a b) A B:=b6v (d9k h) k
theorem zq3 {a b:Nat} (k:A) (h:a=b:=by omega):cond (xeq a b) A B:=b5g (c2x h) k
theorem zq4 {a b:Nat} (k:B) (h:a≠b:=by omega):cond (xeq a b) A B:=b6v (g8e h) k
theorem zq5 {a:Nat} (k:A) (h:a=0:=by omega):cond (xz a) A B:=b5g (t_z h) k
theorem zq6 {a:Nat} (k:B) (h:a≠0:=by omega):cond (xz a) A B:=b6v (f_z h) k
theorem zq7 {a:Int} (k:A) (h:0≤a:=by omega):cond (xnn a) A B:=b5g (g3t h) k
theorem zq8 {x y:Int} (k:A) (h:x < y:=by omega):cond (xcm .lss x y) A B:=b5g (a6j h) k
theorem zq9 {x y:Int} (k:B) (h:y≤x:=by omega):cond (xcm .lss x y) A B:=b6v (a6h h) k
theorem zqa {x y:Int} (k:A) (h:x≤y:=by omega):cond (xcm .leq x y) A B:=b5g (a9k h) k
theorem zqb {x y:Int} (k:B) (h:y < x:=by omega):cond (xcm .leq x y) A B:=b6v (c5a h) k
theorem zqc {x y:Int} (k:A) (h:y < x:=by omega):cond (xcm .gtr x y) A B:=b5g (a7w h) k
theorem zqd {x y:Int} (k:B) (h:x≤y:=by omega):cond (xcm .gtr x y) A B:=b6v (a7e h) k
theorem zqe {x y:Int} (k:A) (h:y≤x:=by omega):cond (xcm .geq x y) A B:=b5g (b3a h) k
theorem zqf {x y:Int} (k:B) (h:x < y:=by omega):cond (xcm .geq x y) A B:=b6v (b6o h) k
theorem zqg {x y:Int} (k:A) (h:x=y:=by omega):cond (xcm .eql x y) A B:=b5g (a2i h) k
theorem zqh {x y:Int} (k:B) (h:x≠y:=by omega):cond (xcm .eql x y) A B:=b6v (a2c h) k
theorem zqi {x y:Int} (k:A) (h:x≠y:=by omega):cond (xcm .neq x y) A B:=b5g (a8n h) k
theorem zqj {x y:Int} (k:B) (h:x=y:=by omega):cond (xcm .neq x y) A B:=b6v (a9b h) k
theorem zqk (k:A):cond true A B:=k
theorem zql (k:B):cond false A B:=k
theorem zqm (k:A):cond (a3i false) A B:=k
theorem zqn (k:B):cond (a3i true) A B:=k
theorem zqo {c:Bool} (k:A) (h:c=true:=by assumption):cond c A B:=b5g h k
theorem zqp {c:Bool} (k:B) (h:c=false:=by assumption):cond c A B:=b6v h k
end
section
variable {ρ : a2o} {c c' b o n m es:Nat} {cs cs0:List LV} {op:Option Nat} {M:Option LB}
theorem zy1 (h:a1q cs=true:=by first | assumption | exact a1y (fun _=>rfl) _ | exact b2h (fun _=>rfl) _ _ | rfl):LBW ρ (.id c) (.cells cs op) (some (.cells cs op)):=a0e h
theorem zy2 (h:a1q cs=true:=by first | assumption | exact a1y (fun _=>rfl) _ | exact b2h (fun _=>rfl) _ _ | rfl):LBW ρ (.id c) (.ro cs) (some (.ro cs)):=f8z h
theorem zy3 (h:a5i ρ cs0 cs) (k:LV.any ∉ cs0:=by simp):LBW ρ (.id c) (.cells cs0 op) (some (.cells cs op)):=a0o h k
theorem zy4 (h:cs.length=n * es:=by assumption) (k:a1q cs=true:=by first | assumption | exact a1y (fun _=>rfl) _ | exact b2h (fun _=>rfl) _ _ | rfl):LBW ρ (.cap c 0 n) (.cells cs (some es)) (some (.cells cs none)):=d8y h k
theorem zy5 (h : ρ b=some (.id c):=by rfl):LVW ρ (.ptr b o) (.ptr c o):=a2v h
theorem zy6 (h : ρ b=some (.id c):=by rfl):LVW ρ (.slo b o n m) (.slo c o n m):=a0n h
theorem zy7 (h : ρ b=some (.id c):=by rfl):LVW ρ (.sl b o n m) (.sl c o n m):=d8s h
theorem zy8 {l:LV} (h:b2j l=true:=by rfl):LVW ρ l l:=a1b h
theorem zy9 (h : ρ b=some (.cap c c' n):=by rfl):LVW ρ (.slo b 0 n 0) (.sl c c' n n):=c1c h (Nat.le_refl _)
end
section
theorem zE {P:Program} {cx:Cx} (hcx:a3w P (a2z cx)) {nt n0:Nat} {l:List Code} {i:Nat} {tm:Tm} {s:St} {L:List Nat} {Φ : Pk} (h:xsp P cx 60 nt (l.drop i) tm s (vK L Φ)) (hn:n0≤s.n:=by exact a0y (Nat.le_of_ble_eq_true rfl)):SSp P nt (l.drop i) n0 tm s (vK L Φ):=SSp.last hcx hn h
theorem zTl {G:Prop} (h:G:=by((repeat refine a0d (by(first | exact c1d | exact a1u | exact a5r | exact a2v rfl | exact a0n rfl | exact d1j | exact b6b | exact d1h | exact d6j | exact a6y | exact b7p | exact d8s rfl | exact d6i | exact d1k | exact a1b rfl | exact c1c rfl (Nat.le_refl _) | exact c1c rfl (by omega) | assumption | exact b6a (by((repeat refine a0d (by(first | exact c1d | exact a1u | exact a5r | exact a2v rfl | exact a0n rfl | exact d1j | exact b6b | exact d1h | exact d6j | exact a6y | exact b7p | exact d8s rfl | exact d6i | exact d1k | exact a1b rfl | exact c1c rfl (Nat.le_refl _) | exact c1c rfl (by omega) | assumption)) ?_); exact a0u)))) ?_); exact a0u)):G:=h
theorem zId {G:Prop} (h:G:=by(first | assumption | exact b2h (fun _=>rfl) _ _ | exact a1y (fun _=>rfl) _ | rfl)):G:=h
theorem zC {G:Prop} (h:G:=by(refine⟨by kernel_rfl,?_,?_⟩ <;> repeat first | exact a1d | refine a0w ?_ ?_ | exact a0x | refine a0r ?_ ?_ | exact a0u | refine a0d ?_ ?_ | exact a1e | exact zy1 | exact zy2 | exact c4u | exact a2e | exact zya | refine zy3 ?_ | exact zy4 | exact c1d | exact a1u | exact a5r | exact zy5 | exact zy6 | exact b6b | exact d1h | exact a6y | exact zy7 | exact zy8 | exact zy9 | refine b6a ?_ | refine c1e ?_ | refine d8t ?_ | assumption)):G:=h
theorem zD {G:Prop} (h:G:=by(refine⟨by kernel_rfl,?_,?_⟩ <;> repeat first | exact a1d | refine a0w ?_ ?_ | exact a0x | refine a0r ?_ ?_ | exact a0u | refine a0d ?_ ?_ | exact a1e | exact zy1 | exact zy2 | exact c4u | exact a2e | refine d8z (by simp) (by simp) ?_ (by simp) | refine d4q (by simp) ?_ (by simp) | exact c4m rfl | exact zya | refine zy3 ?_ | exact zy4 | exact c1d | exact a1u | exact a5r | exact zy5 | exact zy6 | exact b6b | exact d1h | exact a6y | exact zy7 | exact zy8 | exact zy9 | refine b6a ?_ | refine c1e ?_ | refine d8t ?_ | assumption)):G:=h
structure ZB (R:Prop):Prop where
 out:R
theorem zR {P R:Prop} (h:R) (t:ZB R→P:=by(intro hh; (with_reducible repeat first | refine zq1 ?_ | refine zq2 ?_ | refine zq3 ?_ | refine zq4 ?_ | refine zq5 ?_ | refine zq6 ?_ | refine zq7 ?_ | refine zq8 ?_ | refine zq9 ?_ | refine zqa ?_ | refine zqb ?_ | refine zqc ?_ | refine zqd ?_ | refine zqe ?_ | refine zqf ?_ | refine zqg ?_ | refine zqh ?_ | refine zqi ?_ | refine zqj ?_ | refine zqk ?_ | refine zql ?_ | refine zqm ?_ | refine zqn ?_ | refine zqo ?_ | refine zqp ?_); exact hh.out)):P:=t ⟨h⟩
theorem zN4 {F0 F1 F2 F3 P R:Prop} (f0:F0) (f1:F1) (f2:F2) (f3:F3) (h:R) (t:F0→F1→F2→F3→ZB R→P:=by(intro f0 f1 f2 f3 hh; simp only [a2w,d5m,d5k,a5j,a1o,a2g,a3e,Nat.zero_add,Nat.mul_one,a3d,a2q,d5l,d5n,c9p,d3b,d3c,c7f,decide_true,cond_true,b8h,b8i,c5r,c5s,List.length_nil,Nat.zero_mul,f0,f1,f2,f3]; exact hh.out)):P:=t f0 f1 f2 f3 ⟨h⟩
end
abbrev ck (c:Bool) (p:Prop):Prop:=bif c then p else False
abbrev sC (cs:List LV) (n:Nat):Option LB:=some (.cells cs (some n))
abbrev sN (cs:List LV):Option LB:=some (.cells cs none)
abbrev sD:Option LB:=some .dead
end
section
open Go.RowKit
section
variable {P:Program}
def resEq:List ResultVar→List ResultVar→Bool
 | [],[]=>true
 | .tmp t::r,.tmp u::q=>Nat.beq t u && resEq r q
 | .cell a t::r,.cell b u::q=>Nat.beq a b && Nat.beq t u && resEq r q
 | _,_=>false
theorem b8r:∀ {r q:List ResultVar},resEq r q=true→r=q
 | [],[],_=>rfl
 | .tmp t::r,.tmp u::q,h=>by
   simp only [resEq,Bool.and_eq_true] at h
   rw [Nat.eq_of_beq_eq_true h.1,b8r h.2]
 | .cell a t::r,.cell b u::q,h=>by
   simp only [resEq,Bool.and_eq_true] at h
   rw [Nat.eq_of_beq_eq_true h.1.1,Nat.eq_of_beq_eq_true h.1.2,b8r h.2]
 | [],.tmp _::_,h=>by simp [resEq] at h
 | [],.cell _ _::_,h=>by simp [resEq] at h
 | .tmp _::_,[],h=>by simp [resEq] at h
 | .cell _ _::_,[],h=>by simp [resEq] at h
 | .tmp _::_,.cell _ _::_,h=>by simp [resEq] at h
 | .cell _ _::_,.tmp _::_,h=>by simp [resEq] at h
def f4n (P:Program) (f nt:Nat) (rs:List ResultVar) (na:Nat):Bool:=match P.funcs[f]? with
 | some fn=>(match fn.body with | some _=>Nat.beq fn.ntmps nt && Nat.ble na nt && resEq fn.results.toList rs | none=>false)
 | none=>false
def c7z (L:List Nat):List ResultVar→Bool
 | []=>true
 | .tmp t::r=>!(b2f t L) && c7z L r
 | .cell a _::r=>!(b2f a L) && c7z L r
def d8h (P:Program) (L:List Nat) (vs:List LV) (bs:List (Option LB)):List ResultVar→Option (List LV)
 | []=>some []
 | .tmp t::r=>(match d8h P L vs bs r with | some l=>some (b1b L vs t::l) | none=>none)
 | .cell a t::r=>(match b1b L vs a,d8h P L vs bs r with
   | .ptr b o,some l=>(match bs[b]? with
     | some (some (.cells cs op))=>(match a7g P t cs o with | some v=>some (v::l) | none=>none)
     | _=>none)
   | _,_=>none)
theorem c4c {L:List Nat} {tm:Tm} {s:St}:∀ {rs:List ResultVar} {l:List LV},c7z L rs=true→d8h P L (a5b L tm) (a5g s) rs=some l→a2f P (a0q tm) s rs=some l
 | [],l,_,h=>by simpa [d8h,a2f] using h
 | .tmp t::r,l,hi,h=>by
   simp only [c7z,Bool.and_eq_true,Bool.not_eq_true'] at hi
   simp only [d8h] at h
   split at h
   ·rename_i l' hl
    rw [b1u hi.1] at h
    simp only [a2f,c4c hi.2 hl]; exact h
   ·cases h
 | .cell a t::r,l,hi,h=>by
   simp only [c7z,Bool.and_eq_true,Bool.not_eq_true'] at hi
   simp only [d8h] at h
   split at h
   ·rename_i b o l' hp hl
    rw [b1u hi.1] at hp
    split at h
    ·rename_i cs op hb
     split at h
     ·rename_i v hv
      have hl2:b6e P s t b o=some v:=by rw [b6e,c2u hb]; exact hv
      simp only [a2f,hp,c4c hi.2 hl,hl2]; exact h
     ·cases h
    ·cases h
   ·cases h
def g8f (P:Program) (n0:Nat) (rs:List ResultVar) (L:List Nat) (g:Glb) (Q:LV→List LB→Prop):Pk:=fun x vs bs g'=>c8g x∧g'=g∧∃ (l:List LV) (l0:LV) (b0:List LB) (ρ : List Src),d8h P L vs bs rs=some l∧Q l0 b0∧a4f n0 1 [0] [a4l l] bs ρ [(0,l0)] b0
theorem a0k.h0o {f:Nat} {args:List LV} {bs:List LB} {g:Glb} {Q:LV→List LB→Prop} (nt n0:Nat) (rs:List ResultVar) (L:List Nat) (hf:f4n P f nt rs args.length=true) (hn0:bs.length=n0) (ht:(a4q args 0 .leaf).isSome=true)
  (hin:c7z L rs=true) (h:SSp P nt ((sp P f).drop 0) n0 (tm0 args) (mkS bs g) (vK L (g8f P n0 rs L g Q))):a0k P f args (mkS bs g) fun l s'=>∃ b0,Q l b0∧s'=mkS b0 g:=by
 have ht':a4q args 0 .leaf=some (tm0 args):=by
  unfold tm0
  cases hi:a4q args 0 .leaf with
  | none=>rw [hi] at ht; cases ht
  | some t=>rfl
 obtain⟨fn,c,h1,h2,h3,h4,h5⟩:∃ fn c,P.funcs[f]? = some fn∧fn.body=some c∧fn.ntmps=nt∧args.length≤nt∧fn.results.toList=rs:=by
  unfold f4n at hf
  split at hf
  ·rename_i fn h1
   split at hf
   ·rename_i c h2
    simp only [Bool.and_eq_true] at hf
    exact⟨fn,c,h1,h2,Nat.eq_of_beq_eq_true hf.1.1,Nat.le_of_ble_eq_true hf.1.2,b8r hf.2⟩
   ·cases hf
  ·cases hf
 have hnt:d4n P f=nt:=by simp only [d4n,h1,h3]
 have hres:b8p P f=rs:=by simp only [b8p,h1,h5]
 have h1':a0k P f args (mkS bs g) fun l s'=>s'.g=g∧∃ l0 b0 ρ,Q l0 b0∧a4f (mkS bs g).n 1 [0] [l] (a5g s') ρ [(0,l0)] b0:=by
  refine a0k.h0m ⟨fn,c,h1,h2,Nat.ble_eq_true_of_le (by omega)⟩ ht' ?_
  rw [List.drop_zero] at h
  rw [hnt,hn0]
  refine SSp.mono (fun x tm' s' k=>?_) h
  obtain⟨k1,k2,l,l0,b0,ρ,k5,k6,k7⟩:=k
  refine⟨k1,l,?_,k2,l0,b0,ρ,k6,by rw [a2p,hn0]; exact k7⟩
  rw [hres]
  exact c4c hin k5
 refine a0k.conv h1' fun l s' ⟨e,l0,b0,ρ,q,k⟩=>?_
 exact⟨l0,b0,ρ,⟨b0,q,by rw [e]⟩,k⟩
end
end
section
open Go.RowKit
variable {P:Program}
noncomputable def lsp (P:Program) (ctr:Ctr) (n nt:Nat):List Code→Tm→St→Option (LX×Tm×St)
 | [],tm,s=>some (.normal,tm,s)
 | c::l,tm,s=>match a3f P ctr n nt c tm s with
   | some (.normal,tm',s')=>lsp P ctr n nt l tm' s'
   | r=>r
theorem SSp.lrun {cx:Cx} (hcx:a3w P (a2z cx)) {n nt n0:Nat}:∀ {l:List Code} {tm:Tm} {s:St} {x:LX} {tm':Tm} {s':St} {Q:LX→Tm→St→Prop},n0≤s.n→lsp P (a2z cx) n nt l tm s=some (x,tm',s')→Q x tm' s'→SSp P nt l n0 tm s Q
 | [],tm,s,x,tm',s',Q,hn,h,hq=>by
   simp only [lsp,Option.some.injEq,Prod.mk.injEq] at h
   obtain⟨rfl,rfl,rfl⟩:=h
   exact hq
 | c::l,tm,s,x,tm',s',Q,hn,h,hq=>by
   intro W0 r a w hI hA K hK
   rw [lsp] at h
   cases hc:a3f P (a2z cx) n nt c tm s with
   | none=>rw [hc] at h; cases h
   | some p =>
     obtain⟨y,tm1,s1⟩:=p
     rw [hc] at h
     refine(a5f hcx n).1 W0 nt c tm tm1 s s1 y hc r a w hI hA K fun r' a' w' k1 k2 k3=>hK y tm1 s1 r' a' w' ?_ k1 (b6z.of k2 hn) k3
     cases y with
     | normal=>exact SSp.lrun hcx (Nat.le_trans hn k2.n) h hq
     | exit id =>
       simp only [Option.some.injEq,Prod.mk.injEq] at h
       obtain⟨rfl,rfl,rfl⟩:=h
       exact hq
     | ret =>
       simp only [Option.some.injEq,Prod.mk.injEq] at h
       obtain⟨rfl,rfl,rfl⟩:=h
       exact hq
end
section
open Go.RowKit
variable {P:Program}
theorem b1i (p:Nat→Prop):∀ N:Nat,∃ m:Nat,∀ B,m.testBit B=true↔(B < N∧p B)
 | 0=>⟨0,fun B=>by simp⟩
 | N+1=>by
   obtain⟨m,hm⟩:=b1i p N
   by_cases h:p N
   ·refine⟨m ||| 2 ^ N,fun B=>?_⟩
    rw [Nat.testBit_or,Nat.testBit_two_pow,Bool.or_eq_true,hm B,decide_eq_true_eq]
    constructor
    ·rintro(⟨h1,h2⟩ | rfl)
     ·exact⟨by omega,h2⟩
     ·exact⟨by omega,h⟩
    ·rintro⟨h1,h2⟩
     rcases Nat.lt_succ_iff_lt_or_eq.1 h1 with h3 | rfl
     ·exact .inl ⟨h3,h2⟩
     ·exact .inr rfl
   ·refine⟨m,fun B=>?_⟩
    rw [hm B]
    constructor
    ·rintro⟨h1,h2⟩; exact⟨by omega,h2⟩
    ·rintro⟨h1,h2⟩
     rcases Nat.lt_succ_iff_lt_or_eq.1 h1 with h3 | rfl
     ·exact⟨h3,h2⟩
     ·exact absurd h2 h
theorem Inv.local {W0:World} {r:Ren} {s:St} {w w':World} (h:Inv W0 r s w) (hb:Below W0.heap.size W0 w') (hs:w.heap.size≤w'.heap.size) (hk:∀ B,a2u r s B→w'.heap[B]? = w.heap[B]?):Inv W0 r s w' :=
 ⟨hb,fun b x e=>⟨(h.dom b x e).1,Nat.lt_of_lt_of_le (h.dom b x e).2 hs⟩,h.own,h.fresh,h.inj,
  fun b cs op e=>(h.cells b cs op e).imp id fun⟨x,h1,h2⟩=>⟨x,h1,h2.mono r.le_refl (hk _ (.inl ⟨b,x,⟨_,e,rfl⟩,h1,rfl⟩))⟩,
  fun b t p e=>let ⟨x,h1,h2,h3⟩:=h.iter b t p e; ⟨x,h1,h2,by rw [hk _ (.inl ⟨b,x,⟨_,e,rfl⟩,h1,rfl⟩)]; exact h3⟩,h.gl,h.ro,
  h.ob.step r.le_refl (fun _ _ _ _ k=>k) (fun _ _ k1 k2=>.inl ⟨k1,k2⟩) hs fun B hB=>hk B (.inr hB)⟩
structure Kd where
 σ : Type
 enc : σ→List LV
 sh : σ→Nat→Nat→LB×List LB
def Kd.bs (K:Kd) (v:K.σ) (b k:Nat):List LB:=(K.sh v b k).1::(K.sh v b k).2
def Kd.F (K:Kd):OP:=⟨0,fun cs W0 w x own=>∃ v:K.σ,cs=K.enc v∧∃ r,Inv W0 r (mkS (K.bs v 0 1)) w∧r 0=some x∧∀ B,own B↔a2u r (mkS (K.bs v 0 1)) B,fun h=>absurd h (by decide),fun h=>absurd h (by decide)⟩
structure Kd.Ok (K:Kd):Prop where
 re:∀ v b k b' k' (ρ : a2o),ρ b=some (.id b')→(∀ i,i < (K.sh v b k).2.length→ρ (k+i)=some (.id (k'+i)))→a7f ρ (K.bs v b k) (K.bs v b' k')
 root:∀ v b k,∃ c cs op,(K.sh v b k).1=.cells (c::cs) op
theorem Kd.Ok.len {K:Kd} (h:K.Ok) (v:K.σ) (b k b' k':Nat) (hb:b < k):(K.sh v b k).2.length=(K.sh v b' k').2.length:=by
 have:=(a8g (h.re v b k b' k' (fun t=>if t=b then some (.id b') else some (.id (k'+(t - k)))) (by simp) fun i _=>by
  rw [if_neg (by omega)]; congr 3; omega)).1
 simpa [Kd.bs] using this
theorem Inv.unpack {W0:World} {r:Ren} {bs:List LB} {g:Glb} {w:World} {K:Kd} (hK:K.Ok) (hI:Inv W0 r (mkS bs g) w) {b:Nat} {cs:List LV} {γ : Nat} (hb:bs[b]? = some (.obj K.F cs γ)) :
  ∃ v r',K.enc v=cs∧Inv W0 r' (mkS (bs.set b (K.sh v b bs.length).1++(K.sh v b bs.length).2) g) w∧r.le r'∧∀ B,a2u r' (mkS (bs.set b (K.sh v b bs.length).1++(K.sh v b bs.length).2) g) B→a2u r (mkS bs g) B:=by
 have hbl:b < bs.length:=(List.getElem?_eq_some_iff.1 hb).1
 have hg0:(mkS bs g).h.get b=some (.obj K.F cs γ):=by rw [a0s]; exact hb
 obtain⟨x,h1,h2,h3⟩:=hI.ob.holds b _ _ _ hg0
 obtain⟨v,rfl,rc,hIc,hr0,hown⟩:=h3 w hI.below (Nat.le_refl _) fun _ _=>rfl
 have hlen:=hK.len v b bs.length 0 1 hbl
 let κ : Nat→Option Nat:=fun t=>if t=b then some 0 else if t < bs.length then none else some (1+(t - bs.length))
 have κb : κ b=some 0:=if_pos rfl
 have κn:∀ t,t < bs.length→t≠b→κ t=none:=fun t q1 q2=>by simp only [κ,if_neg q2,if_pos q1]
 have κh:∀ t,bs.length≤t→κ t=some (1+(t - bs.length)):=fun t q=>by simp only [κ,if_neg (show ¬ t=b by omega),if_neg (show ¬ t < bs.length by omega)]
 have κi:∀ t,κ t=none→t < bs.length∧t≠b:=fun t q=>by
  by_cases e:t=b
  ·subst e; rw [κb] at q; cases q
  ·rcases Nat.lt_or_ge t bs.length with q1 | q1
   ·exact⟨q1,e⟩
   ·rw [κh t q1] at q; cases q
 have hle:r.le (fun t=>match κ t with | some i=>rc i | none=>r t):=fun t y hy=>by
  have ht:=(hI.dom t y hy).1
  rw [a2p] at ht
  by_cases e:t=b
  ·subst e; simp only [κb,hr0]; rw [h1] at hy; exact hy
  ·simp only [κn t ht e]; exact hy
 have hre:=a8g (hK.re v b bs.length 0 1 (fun t=>(κ t).map .id) (by simp only [κb,Option.map_some]) fun i _=>by
  rw [κh _ (Nat.le_add_right _ _)]; simp)
 have hfr:∀ B,a2u rc (mkS (K.bs v 0 1)) B→a1s r (mkS bs g) b B:=fun B hB=>.inr ⟨_,_,_,hg0,(hown B).2 hB⟩
 obtain⟨m1,m2,_⟩:=hI.mix (κ:=κ) (s':=mkS (bs.set b (K.sh v b bs.length).1++(K.sh v b bs.length).2) g) hIc (Nat.le_refl _) hle (by simp only [a2p,List.length_append,List.length_set]; omega)
  (fun t i hk y hy=>by
   have hd:=(hIc.dom i y hy).1
   simp only [a2p,Kd.bs,List.length_cons,← hlen] at hd
   simp only [a2p,List.length_append,List.length_set]
   rcases Nat.lt_or_ge t bs.length with q | q
   ·omega
   ·rw [κh t q] at hk; cases hk; omega)
  (fun t t' i hk hk'=>by
   simp only [κ] at hk hk'
   split at hk <;> split at hk' <;> (try split at hk) <;> (try split at hk') <;> simp at hk hk' <;> omega)
  (fun t i L' hk hL=>by
   rw [a0s] at hL ⊢
   have key:(K.bs v b bs.length)[i]? = some L':=by
    rcases Nat.lt_or_ge t bs.length with q | q
    ·have e:t=b:=by
      by_cases e:t=b
      ·exact e
      ·rw [κn t q e] at hk; cases hk
     subst e
     rw [κb] at hk; cases hk
     rw [List.getElem?_append_left (by simpa using q),List.getElem?_set_self q] at hL
     simpa [Kd.bs] using hL
    ·rw [κh t q] at hk; cases hk
     rw [List.getElem?_append_right (by simpa using q)] at hL
     simp only [List.length_set] at hL
     rw [show 1+(t - bs.length)=(t - bs.length)+1 by omega]
     simpa [Kd.bs] using hL
   obtain⟨M,k1,k2⟩:=hre.2 i L' key
   rw [k1]; exact k2.id_any)
  (fun t hk=>by
   obtain⟨q1,q2⟩:=κi t hk
   rw [a0s,a0s,List.getElem?_append_left (by simpa using q1),List.getElem?_set_ne (Ne.symm q2)])
  (fun t ht=>by rw [a2p] at ht; rw [a0s,List.getElem?_eq_none ht]) rfl
  (fun t B hk ho=>⟨rfl,fun k=>(κi t hk).2 (hI.one_owner ho (hfr B k))⟩)
 exact⟨v,_,rfl,m1,hle,fun B hB=>(m2 B hB).elim id fun k=>(hfr B k).owned⟩
theorem Inv.pack {W0:World} {r:Ren} {bs hid:List LB} {g:Glb} {w:World} {K:Kd} (hK:K.Ok) {b:Nat} {v:K.σ} (hI:Inv W0 r (mkS (bs++hid) g) w) (hb:bs[b]? = some (K.sh v b bs.length).1) (hh:hid=(K.sh v b bs.length).2)
  (hcl:∀ ρ : a2o,(∀ t,t < bs.length→ρ t=some (.id t))→a7f ρ (bs.set b .dead) (bs.set b .dead)) :
  ∃ r',Inv W0 r' (mkS (bs.set b (.obj K.F (K.enc v) bs.length)++[.dead]) g) w∧(∀ t,t < bs.length→r' t=r t)∧∀ B,a2u r' (mkS (bs.set b (.obj K.F (K.enc v) bs.length)++[.dead]) g) B→a2u r (mkS (bs++hid) g) B:=by
 have hbl:b < bs.length:=(List.getElem?_eq_some_iff.1 hb).1
 have hSb:(mkS (bs++hid) g).h.get b=some (K.sh v b bs.length).1:=by rw [a0s,List.getElem?_append_left hbl]; exact hb
 obtain⟨x,hx⟩:∃ x,r b=some x:=by
  obtain⟨c,cs,op,e⟩:=hK.root v b bs.length
  rw [e] at hSb
  rcases hI.cells b _ _ hSb with⟨k,_⟩ | ⟨x,k,_⟩
  ·cases k
  ·exact⟨x,k⟩
 have hlen:=hK.len v b bs.length 0 1 hbl
 let ρ0:a2o:=fun t=>if t=0 then some (.id b) else if t < 1+hid.length then some (.id (bs.length+(t - 1))) else none
 have hre:=a8g (hK.re v 0 1 b bs.length ρ0 (if_pos rfl) fun i hi=>by
  have:i < hid.length:=by rw [hh,hlen]; exact hi
  simp only [ρ0]
  rw [if_neg (by omega),if_pos (by omega)]; congr 3; omega)
 have hat:∀ c M,(K.bs v b bs.length)[c]? = some M→∃ t,ρ0 c=some (.id t)∧(t=b∨bs.length≤t)∧(mkS (bs++hid) g).h.get t=some M:=fun c M hc=>by
  cases c with
  | zero=>simp [Kd.bs] at hc; subst hc; exact⟨b,if_pos rfl,.inl rfl,hSb⟩
  | succ c =>
    simp only [Kd.bs,List.getElem?_cons_succ,← hh] at hc
    have hcl:=(List.getElem?_eq_some_iff.1 hc).1
    refine⟨bs.length+c,?_,.inr (by omega),?_⟩
    ·simp only [ρ0]; rw [if_neg (by omega),if_pos (by omega)]; congr 3
    ·rw [a0s,List.getElem?_append_right (by omega),← hc]; congr 1; omega
 have hsc:Sub 0 ρ0 (mkS (bs++hid) g) (mkS (K.bs v 0 1) g):=by
  refine⟨Nat.zero_le _,fun t ht=>absurd ht (Nat.not_lt_zero _),fun t src ht=>?_,fun t ht=>?_,fun t L0 ht=>?_,fun t t' src src' c hl hl' hs hs' hu hu'=>?_,rfl⟩
  ·simp only [a2p,Kd.bs,List.length_cons,← hlen,← hh]
   simp only [ρ0] at ht
   split at ht
   ·omega
   ·split at ht
    ·omega
    ·cases ht
  ·rw [a2p] at ht; rw [a0s,List.getElem?_eq_none ht]
  ·rw [a0s] at ht
   obtain⟨M,k1,k2⟩:=hre.2 t L0 ht
   obtain⟨t',q1,_,q3⟩:=hat t M k1
   exact⟨_,q1,by simp only [Src.under,q3]; exact k2.id_any⟩
  ·simp only [ρ0] at hs hs'
   split at hs <;> split at hs' <;> (try split at hs) <;> (try split at hs') <;> first
    | (cases hs; done)
    | (cases hs'; done)
    | (cases hs; cases hs'; simp only [Src.under,Option.some.injEq] at hu hu'; omega)
 obtain⟨hIc,_⟩:=hI.sub hsc
 have hIc:Inv W0 (ρ0.ren r) (mkS (K.bs v 0 1)) w:=⟨hIc.below,hIc.dom,hIc.own,hIc.fresh,hIc.inj,hIc.cells,hIc.iter,fun x hx=>(by cases hx),hIc.ro,hIc.ob.step (Ren.le_refl _) (fun _ _ _ _ k=>k) (fun _ _ k1 k2=>.inl ⟨k1,k2⟩) (Nat.le_refl _) fun _ _=>rfl⟩
 have hr0 : ρ0.ren r 0=some x:=by simp [a2o.ren,ρ0,Src.ren,hx]
 have hroot:(mkS (K.bs v 0 1)).lives 0:=by
  obtain⟨c,cs,op,e⟩:=hK.root v 0 1
  exact⟨.cells (c::cs) op,by rw [a0s]; simp [Kd.bs,e],rfl⟩
 have hco:∀ B,a2u (ρ0.ren r) (mkS (K.bs v 0 1)) B→∃ t,(t=b∨bs.length≤t)∧a1s r (mkS (bs++hid) g) t B:=fun B hB=>by
  rcases hB with⟨c,y,⟨L,hL,hl⟩,hy,rfl⟩ | ⟨c,F,cs,γ,hL,ho⟩
  ·rw [a0s] at hL
   obtain⟨M,k1,k2⟩:=hre.2 c L hL
   obtain⟨t,q1,q2,q3⟩:=hat c M k1
   obtain⟨M',e,m2⟩:=k2.lives hl (by simp [Src.under])
   cases e
   exact⟨t,q2,.inl ⟨⟨_,q3,m2⟩,y,by simpa [a2o.ren,q1,Src.ren] using hy,rfl⟩⟩
  ·rw [a0s] at hL
   obtain⟨M,k1,k2⟩:=hre.2 c _ hL
   obtain⟨t,q1,q2,q3⟩:=hat c M k1
   cases M <;> simp only [LBW] at k2
   rename_i F' cs' γ'
   obtain⟨rfl,rfl,e⟩:=k2
   exact⟨t,q2,.inr ⟨_,_,_,q3,by simpa only [Own,a2o.ren,e,Src.ren] using ho⟩⟩
 let ρ2:a2o:=fun t=>if t < bs.length then some (.id t) else none
 have hcl2:=a8g (hcl ρ2 fun t ht=>if_pos ht)
 have hsr:Sub 0 ρ2 (mkS (bs++hid) g) (mkS (bs.set b .dead) g):=by
  refine⟨Nat.zero_le _,fun t ht=>absurd ht (Nat.not_lt_zero _),fun t src ht=>?_,fun t ht=>?_,fun t L0 ht=>?_,fun t t' src src' c hl hl' hs hs' hu hu'=>?_,rfl⟩
  ·simp only [ρ2] at ht
   split at ht
   ·simpa [a2p] using ‹_›
   ·cases ht
  ·rw [a2p] at ht; rw [a0s,List.getElem?_eq_none ht]
  ·rw [a0s] at ht
   have hlt:t < bs.length:=by have:=(List.getElem?_eq_some_iff.1 ht).1; simpa using this
   refine⟨.id t,if_pos hlt,?_⟩
   by_cases e:t=b
   ·subst e; rw [List.getElem?_set_self hlt] at ht; cases ht; simp only [LBW]
   ·obtain⟨M,k1,k2⟩:=hcl2.2 t L0 ht
    rw [ht] at k1; cases k1
    rw [List.getElem?_set_ne (Ne.symm e)] at ht
    simp only [Src.under,a0s,List.getElem?_append_left hlt,ht]
    exact k2.id_any
  ·simp only [ρ2] at hs hs'
   split at hs <;> split at hs' <;> first
    | (cases hs; done)
    | (cases hs'; done)
    | (cases hs; cases hs'; simp only [Src.under,Option.some.injEq] at hu hu'; omega)
 obtain⟨hI2,_⟩:=hI.sub hsr
 have r2:∀ t,t < bs.length→ρ2.ren r t=r t:=fun t ht=>by simp [a2o.ren,ρ2,ht,Src.ren]
 have r2n:∀ t y,ρ2.ren r t=some y→t < bs.length:=fun t y h=>by have:=(hI2.dom t y h).1; simpa [a2p] using this
 have get2:∀ t L,L≠.dead→(mkS (bs.set b .dead) g).h.get t=some L→t≠b∧t < bs.length∧(mkS (bs++hid) g).h.get t=some L:=fun t L hL ht=>by
  rw [a0s] at ht
  have hlt:t < bs.length:=by have:=(List.getElem?_eq_some_iff.1 ht).1; simpa using this
  by_cases e:t=b
  ·subst e; rw [List.getElem?_set_self hlt] at ht; cases ht; exact absurd rfl hL
  ·rw [List.getElem?_set_ne (Ne.symm e)] at ht
   exact⟨e,hlt,by rw [a0s,List.getElem?_append_left hlt]; exact ht⟩
 have by2:∀ t B,a1s (ρ2.ren r) (mkS (bs.set b .dead) g) t B→t≠b∧t < bs.length∧a1s r (mkS (bs++hid) g) t B:=fun t B ho=>by
  rcases ho with⟨⟨L,h1,h2⟩,y,h3,h4⟩ | ⟨F,cs,γ,h1,h2⟩
  ·obtain⟨k1,k2,k3⟩:=get2 t L (fun e=>by subst e; cases h2) h1
   exact⟨k1,k2,.inl ⟨⟨L,k3,h2⟩,y,by rw [← r2 t k2]; exact h3,h4⟩⟩
  ·obtain⟨k1,k2,k3⟩:=get2 t _ (fun e=>by cases e) h1
   obtain⟨y,y1,y2⟩:=h2
   exact⟨k1,k2,.inr ⟨F,cs,γ,k3,y,by rw [← r2 γ (r2n γ y y1)]; exact y1,y2⟩⟩
 obtain⟨m,hm⟩:=b1i (a2u (ρ0.ren r) (mkS (K.bs v 0 1))) w.heap.size
 have hm':∀ B,m.testBit B=true↔a2u (ρ0.ren r) (mkS (K.bs v 0 1)) B:=fun B=>(hm B).trans ⟨fun k=>k.2,fun k=>⟨(hIc.owned_in k).2,k⟩⟩
 let R:Ren:=fun t=>if t=bs.length then some (x.1,0,m) else ρ2.ren r t
 have hRn:R bs.length=some (x.1,0,m):=if_pos rfl
 have hR:∀ t,t≠bs.length→R t = ρ2.ren r t:=fun t e=>if_neg e
 have hle:(ρ2.ren r).le R:=fun t y hy=>by rw [hR t (by have:=r2n t y hy; omega)]; exact hy
 have hown:∀ B,Own R bs.length B↔a2u (ρ0.ren r) (mkS (K.bs v 0 1)) B:=fun B=>by
  rw [← hm' B]
  constructor
  ·rintro⟨y,y1,y2⟩; rw [hRn] at y1; cases y1; exact y2
  ·intro k; exact⟨_,hRn,k⟩
 have getR:∀ t L,L≠.dead→(mkS (bs.set b (.obj K.F (K.enc v) bs.length)++[.dead]) g).h.get t=some L→(t=b∧L=.obj K.F (K.enc v) bs.length)∨(t≠b∧t < bs.length∧(mkS (bs.set b .dead) g).h.get t=some L):=fun t L hL ht=>by
  rw [a0s] at ht
  rcases Nat.lt_or_ge t bs.length with q | q
  ·rw [List.getElem?_append_left (by simpa using q)] at ht
   by_cases e:t=b
   ·subst e; rw [List.getElem?_set_self q] at ht; cases ht; exact .inl ⟨rfl,rfl⟩
   ·rw [List.getElem?_set_ne (Ne.symm e)] at ht
    exact .inr ⟨e,q,by rw [a0s,List.getElem?_set_ne (Ne.symm e)]; exact ht⟩
  ·rw [List.getElem?_append_right (by simpa using q)] at ht
   simp only [List.length_set] at ht
   by_cases e:t=bs.length
   ·subst e; simp at ht; exact absurd ht.symm hL
   ·rw [List.getElem?_eq_none (by simp; omega)] at ht; cases ht
 have byR:∀ t B,a1s R (mkS (bs.set b (.obj K.F (K.enc v) bs.length)++[.dead]) g) t B→(t=b∧a2u (ρ0.ren r) (mkS (K.bs v 0 1)) B)∨(t≠b∧t < bs.length∧a1s (ρ2.ren r) (mkS (bs.set b .dead) g) t B):=fun t B ho=>by
  rcases ho with⟨⟨L,h1,h2⟩,y,h3,rfl⟩ | ⟨F,cs,γ,h1,h2⟩
  ·rcases getR t L (fun e=>by subst e; cases h2) h1 with⟨k1,k2⟩ | ⟨k1,k2,k3⟩
   ·subst k1
    rw [hR t (by omega),r2 t hbl,hx] at h3; cases h3
    exact .inl ⟨rfl,.inl ⟨0,x,hroot,hr0,rfl⟩⟩
   ·rw [hR t (by omega)] at h3
    exact .inr ⟨k1,k2,.inl ⟨⟨L,k3,h2⟩,y,h3,rfl⟩⟩
  ·rcases getR t _ (fun e=>by cases e) h1 with⟨k1,k2⟩ | ⟨k1,k2,k3⟩
   ·cases k2; exact .inl ⟨k1,(hown B).1 h2⟩
   ·obtain⟨y,q1,q2,_⟩:=hI2.ob.holds t F cs γ k3
    exact .inr ⟨k1,k2,.inr ⟨F,cs,γ,k3,q2.back hle h2⟩⟩
 have up:∀ t B,a1s R (mkS (bs.set b (.obj K.F (K.enc v) bs.length)++[.dead]) g) t B→∃ t',a1s r (mkS (bs++hid) g) t' B∧((t=b∧(t'=b∨bs.length≤t'))∨(t≠b∧t'=t∧t < bs.length)):=fun t B ho=>by
  rcases byR t B ho with⟨k1,k2⟩ | ⟨k1,k2,k3⟩
  ·obtain⟨t',q1,q2⟩:=hco B k2; exact⟨t',q2,.inl ⟨k1,q1⟩⟩
  ·exact⟨t,(by2 t B k3).2.2,.inr ⟨k1,rfl,k2⟩⟩
 have huq:∀ t t' B,a1s R (mkS (bs.set b (.obj K.F (K.enc v) bs.length)++[.dead]) g) t B→a1s R (mkS (bs.set b (.obj K.F (K.enc v) bs.length)++[.dead]) g) t' B→t=t':=fun t t' B k k'=>by
  obtain⟨u,q1,q2⟩:=up t B k
  obtain⟨u',q1',q2'⟩:=up t' B k'
  have:=hI.one_owner q1 q1'
  omega
 have hld:(mkS (bs.set b (.obj K.F (K.enc v) bs.length)++[.dead]) g).n=bs.length+1:=by simp [a2p]
 refine⟨R,⟨hI.below,fun t y hy=>?_,fun t y hl hy=>?_,fun t ht=>?_,fun t t' y y' hl hl' hy hy' he=>huq t t' y.1 (.inl ⟨hl,y,hy,rfl⟩) (.inl ⟨hl',y',hy',he.symm⟩),fun t cs op ht=>?_,fun t q p ht=>?_,hI.gl,fun t cs ht=>?_,fun t F cs γ ht=>?_,fun B hB=>?_,
  fun t F cs γ t' y ht hl hy ho=>(huq t t' y.1 (.inr ⟨F,cs,γ,ht,ho⟩) (.inl ⟨hl,y,hy,rfl⟩)).symm,fun t F cs γ t' F' cs' γ' B ht ht' k k'=>huq t t' B (.inr ⟨F,cs,γ,ht,k⟩) (.inr ⟨F',cs',γ',ht',k'⟩)⟩,fun t ht=>by rw [hR t (by omega),r2 t ht],fun B hB=>?_⟩
 ·rw [hld]
  by_cases e:t=bs.length
  ·subst e; rw [hRn] at hy; cases hy
   exact⟨by omega,(hI.dom b x hx).2⟩
  ·rw [hR t e] at hy
   have:=r2n t y hy
   exact⟨by omega,(hI2.dom t y hy).2⟩
 ·obtain⟨u,q1,_⟩:=up t y.1 (.inl ⟨hl,y,hy,rfl⟩)
  exact(hI.owned_in q1.owned).1
 ·rw [a2p] at ht; rw [a0s,List.getElem?_eq_none ht]
 ·rcases getR t _ (fun e=>by cases e) ht with⟨k1,k2⟩ | ⟨k1,k2,k3⟩
  ·cases k2
  ·rcases hI2.cells t cs op k3 with⟨q1,q2⟩ | ⟨y,q1,q2⟩
   ·exact .inl ⟨q1,by rw [hR t (by omega)]; exact q2⟩
   ·exact .inr ⟨y,hle _ _ q1,q2.mono hle rfl⟩
 ·rcases getR t _ (fun e=>by cases e) ht with⟨k1,k2⟩ | ⟨k1,k2,k3⟩
  ·cases k2
  ·obtain⟨y,q1,q2⟩:=hI2.iter t q p k3
   exact⟨y,hle _ _ q1,q2⟩
 ·rcases getR t _ (fun e=>by cases e) ht with⟨k1,k2⟩ | ⟨k1,k2,k3⟩
  ·cases k2
  ·rcases hI2.ro t cs k3 with⟨q1,q2⟩ | ⟨y,q1,c,e,f,q2,q3⟩
   ·exact .inl ⟨q1,by rw [hR t (by omega)]; exact q2⟩
   ·exact .inr ⟨y,hle _ _ q1,c,e,f,q2,fun i l hl=>let ⟨g1,u,g2,g3⟩:=q3 i l hl; ⟨g1,u,g2,g3.mono hle⟩⟩
 ·rcases getR t _ (fun e=>by cases e) ht with⟨k1,k2⟩ | ⟨k1,k2,k3⟩
  ·cases k2
   subst k1
   refine⟨x,by rw [hR t (by omega),r2 t hbl]; exact hx,(hown _).2 (.inl ⟨0,x,hroot,hr0,rfl⟩),fun w' q1 q2 q3=>⟨v,rfl,ρ0.ren r,hIc.local q1 q2 fun B hB=>q3 B ((hown B).2 hB),hr0,hown⟩⟩
  ·obtain⟨y,q1,q2,q3⟩:=hI2.ob.holds t F cs γ k3
   have e:Own R γ = Own (ρ2.ren r) γ:=funext fun B=>propext ⟨fun k=>q2.back hle k,fun k=>k.mono hle⟩
   exact⟨y,hle _ _ q1,q2.mono hle,by rw [e]; exact q3⟩
 ·obtain⟨t,F,cs,γ,h1,h2⟩:=hB
  obtain⟨u,q1,_⟩:=up t B (.inr ⟨F,cs,γ,h1,h2⟩)
  exact hI.owned_in q1.owned
 ·obtain⟨t,ht⟩:=hB.by
  obtain⟨u,q1,_⟩:=up t B ht
  exact q1.owned
theorem a0k.unpack {f:Nat} {args:List LV} {bs:List LB} {g:Glb} {Q:LV→St→Prop} {K:Kd} (hK:K.Ok) (b:Nat) {cs:List LV} {γ : Nat} (hb:bs[b]? = some (.obj K.F cs γ))
  (h:∀ v,K.enc v=cs→a0k P f args (mkS (bs.set b (K.sh v b bs.length).1++(K.sh v b bs.length).2) g) Q):a0k P f args (mkS bs g) Q:=by
 intro W0 r w us hI hv
 obtain⟨v,r1,h1,h2,h3,h4⟩:=hI.unpack hK hb
 refine(h v h1 W0 r1 w us h2 (hv.mono h3)).mono fun e w' ⟨l,s',u,r',q,he,hu,hi,hE⟩=>⟨l,s',u,r',q,he,hu,hi,Ren.le_trans h3 hE.le,?_,hE.size,fun B hB ho=>h4 B (hE.img B hB ho),fun B hB ho=>hE.keep B hB fun k=>ho (h4 B k)⟩
 have:=hE.n
 simp only [a2p,List.length_append,List.length_set] at this ⊢
 omega
theorem a0k.pack {f:Nat} {args:List LV} {bs0:List LB} {g:Glb} {Q Q':LV→St→Prop} {K:Kd} (hK:K.Ok) (b:Nat) (h:a0k P f args (mkS bs0 g) Q)
  (hQ:∀ l t,Q l t→∃ (v:K.σ) (bs hid:List LB),t=mkS (bs++hid) g∧bs0.length≤bs.length∧bs[b]? = some (K.sh v b bs.length).1∧hid=(K.sh v b bs.length).2 ∧
   (∀ ρ : a2o,(∀ t,t < bs.length→ρ t=some (.id t))→a7f ρ (bs.set b .dead) (bs.set b .dead)∧LVW ρ l l)∧Q' l (mkS (bs.set b (.obj K.F (K.enc v) bs.length)++[.dead]) g)):a0k P f args (mkS bs0 g) Q':=by
 intro W0 r w us hI hv
 refine(h W0 r w us hI hv).mono fun e w' ⟨l,s',u,r',q,he,hu,hi,hE⟩=>?_
 obtain⟨v,bs,hid,rfl,h1,h2,h3,h4,h5⟩:=hQ l s' q
 obtain⟨r2,k1,k2,k3⟩:=hi.pack hK h2 h3 fun ρ hρ=>(h4 ρ hρ).1
 refine⟨l,_,u,r2,h5,he,?_,k1,fun t y hy=>?_,?_,hE.size,fun B hB ho=>hE.img B hB (k3 B ho),hE.keep⟩
 ·have:=(h4 (fun t=>if t < bs.length then some (.id t) else none) fun t ht=>if_pos ht).2.sound hu
  refine this.mono fun t y hy=>?_
  simp only [a2o.ren] at hy
  split at hy
  ·rename_i e
   split at e
   ·cases e; simp only [Src.ren] at hy; rw [k2 _ ‹_›]; exact hy
   ·cases e
  ·cases hy
 ·have:=(hI.dom t y hy).1
  rw [a2p] at this
  rw [k2 t (by omega)]; exact hE.le t y hy
 ·simp only [a2p,List.length_append,List.length_set]; omega
theorem a2m {ρ : a2o} {c g g':Nat} {F:OP} {cs:List LV} (h : ρ g=some (.id g')):LBW ρ (.id c) (.obj F cs g) (some (.obj F cs g')):=by simp only [LBW]; exact⟨trivial,trivial,h⟩
theorem zya {ρ : a2o} {c g g':Nat} {F:OP} {cs:List LV} (h : ρ g=some (.id g'):=by rfl):LBW ρ (.id c) (.obj F cs g) (some (.obj F cs g')):=a2m h
theorem d6z {κ : a2o}:a7f κ [] []:=by simp only [a7f]
theorem b9u {κ : a2o} {L M:LB} {Ls Ms:List LB} (h:LBW κ (.id 0) L (some M)) (k:a7f κ Ls Ms):a7f κ (L::Ls) (M::Ms):=by simp only [a7f]; exact⟨h,k⟩
theorem SSp.unpack {nt n0:Nat} {l:List Code} {i:Nat} {tm:Tm} {bs:List LB} {g:Glb} {Q:LX→Tm→St→Prop} {K:Kd} (hK:K.Ok) (b:Nat) (hl:Nat.blt i l.length=true) (hn:n0≤bs.length) {cs:List LV} {γ : Nat} (hb:bs[b]? = some (.obj K.F cs γ))
  (h:∀ v,K.enc v=cs→SSp P nt (l.drop i) n0 tm (mkS (bs.set b (K.sh v b bs.length).1++(K.sh v b bs.length).2) g) Q):SSp P nt (l.drop i) n0 tm (mkS bs g) Q:=by
 have:=Nat.le_of_ble_eq_true hl
 rw [a6b l i (by omega)] at h ⊢
 intro W0 r a w hI hA K' hK'
 obtain⟨v,r1,h1,h2,h3,h4⟩:=hI.unpack hK hb
 exact h v h1 W0 r1 a w h2 (hA.mono h3) K' fun x tm' s' r' a' w' q1 q2 q3 q4=>hK' x tm' s' r' a' w' q1 q2 ⟨fun t y ht hy=>q3.le t y ht (h3 t y hy),q3.n,q3.size,fun B hB ho=>h4 B (q3.img B hB ho),fun B hB ho=>q3.keep B hB fun k=>ho (h4 B k)⟩ q4
theorem a0k.h0a {f:Nat} {args:List LV} {bs B:List LB} {g:Glb} {K:Kd} (hK:K.Ok) (b:Nat) {cs:List LV} {l:LV} (hn:bs.length≤B.length) (hb:b < B.length)
  (hcl:∀ ρ : a2o,(∀ t,t < B.length→ρ t=some (.id t))→a7f ρ (B.set b .dead) (B.set b .dead)∧LVW ρ l l)
  (h:a0k P f args (mkS bs g) fun l1 t=>∃ b0,(l1=l∧∃ v,K.enc v=cs∧b0=B.set b (K.sh v b B.length).1++(K.sh v b B.length).2)∧t=mkS b0 g) :
  a0k P f args (mkS bs g) fun l1 t=>l1=l∧t=mkS (B.set b (.obj K.F cs B.length)++[.dead]) g:=by
 refine a0k.pack hK b h fun l1 t ⟨b0,⟨e1,v,e2,e3⟩,e4⟩=>?_
 subst e1 e2 e3
 refine⟨v,B.set b (K.sh v b B.length).1,(K.sh v b B.length).2,e4,by rw [List.length_set]; exact hn,by rw [List.length_set,List.getElem?_set_self hb],by rw [List.length_set],fun ρ hρ=>?_,rfl,by rw [List.length_set,List.set_set]⟩
 rw [List.set_set]
 exact hcl ρ fun t ht=>hρ t (by rw [List.length_set]; exact ht)
end
section
open Go.RowKit
variable {P:Program}
theorem a0k.g9f {f:Nat} {args:List LV} {s:St} {l:LV} (h:∀ (W0:World) (r:Ren) (w:World) (us:List Value),Inv W0 r s w→VRs r args us→Calls P f us.toArray w fun e w'=>∃ v,e=.returned v∧VR r l v∧Below w.heap.size w w') :
  a0k P f args s fun l' s'=>l'=l∧s'=s:=by
 intro W0 r w us hI hv
 refine(h W0 r w us hI hv).mono fun e w' ⟨v,he,hl,hb⟩=>⟨l,s,v,r,⟨rfl,rfl⟩,he,hl,?_,?_⟩
 ·exact hI.local (hI.below.trans (hb.mono hI.below.size)) hb.size fun B hB=>hb.block B (hI.owned_in hB).2
 ·exact⟨r.le_refl,Nat.le_refl _,hb.size,fun B _ h=>h,fun B hB _=>hb.block B hB⟩
theorem a0k.g9p {cx:Cx} (hcx:a3w P (a2z cx)) {fuel f:Nat} {s:St} (hfr:∀ b,s.n≤b→s.h.get b=none) (h:isTrue (match d1q P (a2z cx) fuel f [] ⟨.leaf,0,s.g⟩ with | some (v,_)=>some v | none=>none)=true):a0k P f [] s fun l s'=>l=.bool true∧s'=s:=by
 cases hf:d1q P (a2z cx) fuel f [] ⟨.leaf,0,s.g⟩ with
 | none=>simp [hf,isTrue] at h
 | some p =>
   obtain⟨v,s1⟩:=p
   simp only [hf] at h
   have hv:v=.bool true:=by
    unfold isTrue at h
    split at h
    ·rename_i e; simpa using e
    ·cases h
   subst hv
   have h0:a0k P f [] (mkS [] s.g) fun l s'=>l=.bool true∧s'=s1:=by
    intro W0 r w us hI hu
    have:=(a5f (P:=P) hcx fuel).2 W0 r f [] ⟨.leaf,0,s.g⟩ s1 (.bool true) w us hf hI hu
    exact this.mono fun e w' ⟨u,r',he,k⟩=>⟨_,_,u,r',⟨rfl,rfl⟩,he,k⟩
   refine a0k.graft (ρ:=[]) (Sub.lift (List.nodup_nil) (by simp only [a9w])) (by rw [a2p]; rfl) (by simp [a5i]) h0 fun l1 s2 ⟨e1,e2⟩=>?_
   subst e1
   exact⟨.bool true,s,fun _=>none,⟨rfl,rfl⟩,⟨Nat.le_refl _,fun i b hi=>by simp at hi,fun b i hb hk=>by simp at hk,fun b i hk=>by simp at hk,fun b b' i hk=>by simp at hk,fun b i L' hk=>by simp at hk,fun b _=>rfl,hfr,rfl⟩,by simp only [LVW]⟩
end
section
open Go.RowKit
variable {P:Program}
theorem Inv.kill {W0 w:World} {r:Ren} {bs bs1:List LB} {g:Glb} (hI:Inv W0 r (mkS bs g) w) (hl:bs.length≤bs1.length) (h:∀ (i:Nat) L,bs1[i]? = some L→L=.dead∨bs[i]? = some L) :
  Inv W0 r (mkS bs1 g) w∧∀ t B,a1s r (mkS bs1 g) t B→a1s r (mkS bs g) t B:=by
 have get:∀ {t:Nat} {L:LB},L≠.dead→(mkS bs1 g).h.get t=some L→(mkS bs g).h.get t=some L:=fun {t L} hd ht=>by
  rw [a0s] at ht ⊢
  exact(h t L ht).resolve_left hd
 have hlv:∀ t,(mkS bs1 g).lives t→(mkS bs g).lives t:=fun t ⟨L,h1,h2⟩=>⟨L,get (fun e=>by subst e; cases h2) h1,h2⟩
 refine⟨⟨hI.below,fun b x hb=>?_,fun b x hv=>hI.own b x (hlv b hv),fun b hb=>?_,fun b b' x x' k k'=>hI.inj b b' x x' (hlv b k) (hlv b' k'),fun b cs op hb=>hI.cells b cs op (get (fun e=>by cases e) hb),fun b t p hb=>hI.iter b t p (get (fun e=>by cases e) hb),hI.gl,fun b cs hb=>hI.ro b cs (get (fun e=>by cases e) hb),
  hI.ob.step r.le_refl (fun b F cs γ hb=>get (fun e=>by cases e) hb) (fun b x k1 k2=>.inl ⟨hlv b k1,k2⟩) (Nat.le_refl _) fun _ _=>rfl⟩,fun t B ho=>?_⟩
 ·have:=hI.dom b x hb
  rw [a2p] at this ⊢
  omega
 ·rw [a0s,List.getElem?_eq_none (by rw [a2p] at hb; exact hb)]
 ·rcases ho with⟨k1,k2⟩ | ⟨F,cs,γ,k1,k2⟩
  ·exact .inl ⟨hlv t k1,k2⟩
  ·exact .inr ⟨F,cs,γ,get (fun e=>by cases e) k1,k2⟩
def stF:OP:=⟨2,f6i,fun h=>absurd h (by decide),fun _=>rfl⟩
structure SQ where
 F:World→Prop
 e:Bool
 h:e=true→∀ W,F W
def stB (q:SQ) (γ : Nat):LB:=cond q.e .dead (.obj stF [.fact q.F] γ)
def d7n:SQ:=⟨fun _=>True,true,fun _ _=>trivial⟩
theorem Inv.newst {W0 w:World} {r:Ren} {bs:List LB} {g:Glb} (hI:Inv W0 r (mkS bs g) w) {x:Nat×Nat×Nat} {m:Nat} {F:World→Prop} (hx:m.testBit x.1=true) (hm:∀ B,m.testBit B=true→W0.heap.size≤B∧B < w.heap.size∧∀ t,¬ a1s r (mkS bs g) t B)
  (hF:∀ w',Below W0.heap.size W0 w'→w.heap.size≤w'.heap.size→(∀ B,m.testBit B=true→w'.heap[B]? = w.heap[B]?)→F w') :
  ∃ r',Inv W0 r' (mkS (bs++[.obj stF [.fact F] (bs.length+1),.dead]) g) w∧r.le r'∧(∀ t,t < bs.length→r' t=r t)∧∀ B,a2u r' (mkS (bs++[.obj stF [.fact F] (bs.length+1),.dead]) g) B→a2u r (mkS bs g) B∨m.testBit B=true:=by
 let R:Ren:=fun t=>if t=bs.length then some x else if t=bs.length+1 then some (x.1,0,m) else r t
 have hN:R bs.length=some x:=if_pos rfl
 have hN1:R (bs.length+1)=some (x.1,0,m):=by simp only [R,if_neg (show ¬ bs.length+1=bs.length by omega),if_true]
 have hRt:∀ t,t < bs.length→R t=r t:=fun t ht=>by simp only [R,if_neg (show ¬ t=bs.length by omega),if_neg (show ¬ t=bs.length+1 by omega)]
 have hd:∀ t y,r t=some y→t < bs.length:=fun t y h=>by have:=(hI.dom t y h).1; rwa [a2p] at this
 have hle:r.le R:=fun t y hy=>by rw [hRt t (hd t y hy)]; exact hy
 have hown:∀ B,Own R (bs.length+1) B↔m.testBit B=true:=fun B=>by
  constructor
  ·rintro⟨y,y1,y2⟩; rw [hN1] at y1; cases y1; exact y2
  ·intro k; exact⟨_,hN1,k⟩
 have get:∀ t L,L≠.dead→(mkS (bs++[.obj stF [.fact F] (bs.length+1),.dead]) g).h.get t=some L→(t=bs.length∧L=.obj stF [.fact F] (bs.length+1))∨(t < bs.length∧(mkS bs g).h.get t=some L):=fun t L hL ht=>by
  rw [a0s] at ht
  rcases Nat.lt_or_ge t bs.length with q | q
  ·rw [List.getElem?_append_left q] at ht; exact .inr ⟨q,by rw [a0s]; exact ht⟩
  ·rw [List.getElem?_append_right q] at ht
   cases hk:t - bs.length with
   | zero=>rw [hk] at ht; simp at ht; exact .inl ⟨by omega,ht.symm⟩
   | succ k =>
     rw [hk] at ht
     cases k with
     | zero=>simp at ht; exact absurd ht.symm hL
     | succ k=>simp at ht
 have hr:∀ γ B,γ < bs.length→(Own R γ B↔Own r γ B):=fun γ B hγ=>by simp only [Own,hRt γ hγ]
 have by':∀ t B,a1s R (mkS (bs++[.obj stF [.fact F] (bs.length+1),.dead]) g) t B→(t=bs.length∧m.testBit B=true)∨(t < bs.length∧a1s r (mkS bs g) t B):=fun t B ho=>by
  rcases ho with⟨⟨L,h1,h2⟩,y,h3,rfl⟩ | ⟨F',cs,γ,h1,h2⟩
  ·rcases get t L (fun e=>by subst e; cases h2) h1 with⟨k1,k2⟩ | ⟨k1,k2⟩
   ·subst k1; rw [hN] at h3; cases h3; exact .inl ⟨rfl,hx⟩
   ·exact .inr ⟨k1,.inl ⟨⟨L,k2,h2⟩,y,by rw [← hRt t k1]; exact h3,rfl⟩⟩
  ·rcases get t _ (fun e=>by cases e) h1 with⟨k1,k2⟩ | ⟨k1,k2⟩
   ·cases k2; exact .inl ⟨k1,(hown B).1 h2⟩
   ·obtain⟨y,q1,q2,_⟩:=hI.ob.holds t F' cs γ k2
    exact .inr ⟨k1,.inr ⟨F',cs,γ,k2,q2.back hle h2⟩⟩
 have uq:∀ t t' B,a1s R (mkS (bs++[.obj stF [.fact F] (bs.length+1),.dead]) g) t B→a1s R (mkS (bs++[.obj stF [.fact F] (bs.length+1),.dead]) g) t' B→t=t':=fun t t' B k k'=>by
  rcases by' t B k with⟨q1,q2⟩ | ⟨q1,q2⟩ <;> rcases by' t' B k' with⟨p1,p2⟩ | ⟨p1,p2⟩
  ·omega
  ·exact absurd p2 ((hm B q2).2.2 t')
  ·exact absurd q2 ((hm B p2).2.2 t)
  ·exact hI.one_owner q2 p2
 have rng:∀ t B,a1s R (mkS (bs++[.obj stF [.fact F] (bs.length+1),.dead]) g) t B→W0.heap.size≤B∧B < w.heap.size:=fun t B k=>by
  rcases by' t B k with⟨q1,q2⟩ | ⟨q1,q2⟩
  ·exact⟨(hm B q2).1,(hm B q2).2.1⟩
  ·exact hI.owned_in q2.owned
 have hn:(mkS (bs++[.obj stF [.fact F] (bs.length+1),.dead]) g).n=bs.length+2:=by simp [a2p]
 refine⟨R,⟨hI.below,fun t y hy=>?_,fun t y hl hy=>(rng t y.1 (.inl ⟨hl,y,hy,rfl⟩)).1,fun t ht=>?_,fun t t' y y' hl hl' hy hy' he=>uq t t' y.1 (.inl ⟨hl,y,hy,rfl⟩) (.inl ⟨hl',y',hy',he.symm⟩),fun t cs op ht=>?_,fun t q p ht=>?_,hI.gl,fun t cs ht=>?_,fun t F' cs γ ht=>?_,fun B hB=>?_,
  fun t F' cs γ t' y ht hl hy ho=>(uq t t' y.1 (.inr ⟨F',cs,γ,ht,ho⟩) (.inl ⟨hl,y,hy,rfl⟩)).symm,fun t F' cs γ t' F2 cs' γ' B ht ht' k k'=>uq t t' B (.inr ⟨F',cs,γ,ht,k⟩) (.inr ⟨F2,cs',γ',ht',k'⟩)⟩,hle,hRt,fun B hB=>?_⟩
 ·rw [hn]
  by_cases e:t=bs.length
  ·subst e; rw [hN] at hy; cases hy; exact⟨by omega,(hm _ hx).2.1⟩
  ·by_cases e1:t=bs.length+1
   ·subst e1; rw [hN1] at hy; cases hy; exact⟨by omega,(hm _ hx).2.1⟩
   ·have:r t=some y:=by simpa only [R,if_neg e,if_neg e1] using hy
    have h2:=hd t y this
    exact⟨by omega,(hI.dom t y this).2⟩
 ·rw [hn] at ht; rw [a0s,List.getElem?_eq_none (by simp; omega)]
 ·rcases get t _ (fun e=>by cases e) ht with⟨k1,k2⟩ | ⟨k1,k2⟩
  ·cases k2
  ·rcases hI.cells t cs op k2 with⟨q1,q2⟩ | ⟨y,q1,q2⟩
   ·exact .inl ⟨q1,by rw [hRt t k1]; exact q2⟩
   ·exact .inr ⟨y,hle _ _ q1,q2.mono hle rfl⟩
 ·rcases get t _ (fun e=>by cases e) ht with⟨k1,k2⟩ | ⟨k1,k2⟩
  ·cases k2
  ·obtain⟨y,q1,q2⟩:=hI.iter t q p k2
   exact⟨y,hle _ _ q1,q2⟩
 ·rcases get t _ (fun e=>by cases e) ht with⟨k1,k2⟩ | ⟨k1,k2⟩
  ·cases k2
  ·rcases hI.ro t cs k2 with⟨q1,q2⟩ | ⟨y,q1,c,e,f,q2,q3⟩
   ·exact .inl ⟨q1,by rw [hRt t k1]; exact q2⟩
   ·exact .inr ⟨y,hle _ _ q1,c,e,f,q2,fun i l hl=>let ⟨g1,u,g2,g3⟩:=q3 i l hl; ⟨g1,u,g2,g3.mono hle⟩⟩
 ·rcases get t _ (fun e=>by cases e) ht with⟨k1,k2⟩ | ⟨k1,k2⟩
  ·cases k2
   subst k1
   exact⟨x,hN,(hown _).2 hx,fun w' q1 q2 q3=>⟨F,rfl,hF w' q1 q2 fun B hB=>q3 B ((hown B).2 hB)⟩⟩
  ·obtain⟨y,q1,q2,q3⟩:=hI.ob.holds t F' cs γ k2
   have e:Own R γ = Own r γ:=funext fun B=>propext ⟨fun k=>q2.back hle k,fun k=>k.mono hle⟩
   exact⟨y,hle _ _ q1,q2.mono hle,by rw [e]; exact q3⟩
 ·obtain⟨t,F',cs,γ,h1,h2⟩:=hB
  exact rng t B (.inr ⟨F',cs,γ,h1,h2⟩)
 ·obtain⟨t,ht⟩:=hB.by
  rcases by' t B ht with⟨q1,q2⟩ | ⟨q1,q2⟩
  ·exact .inr q2
  ·exact .inl q2.owned
theorem Inv.absorb {W0 w:World} {r:Ren} {bs:List LB} {g:Glb} {b o γ n:Nat} {cs:List LV} {op:Option Nat} {q:SQ} {u:Value} (hI:Inv W0 r (mkS bs g) w) (hb:bs[b]? = some (.cells cs op)) (ho:bs[o]? = some (stB q γ)) (hno:a1q cs=true) (hn:n=0→cs=[]) (hu:VR r (.slo b 0 n 0) u) :
  ∃ q':SQ,q'.F=(fun W=>q.F W∧a3b W u n cs)∧∃ r',Inv W0 r' (mkS ((bs.set b .dead).set o .dead++[stB q' (bs.length+1),.dead]) g) w∧r.le r'∧∀ B,a2u r' (mkS ((bs.set b .dead).set o .dead++[stB q' (bs.length+1),.dead]) g) B→a2u r (mkS bs g) B:=by
 have hbl:b < bs.length:=(List.getElem?_eq_some_iff.1 hb).1
 have hol:o < bs.length:=(List.getElem?_eq_some_iff.1 ho).1
 have hlen:((bs.set b .dead).set o .dead).length=bs.length:=by simp
 have hdead:∀ (i:Nat) L,((bs.set b .dead).set o .dead)[i]? = some L→L=.dead∨(i≠b∧i≠o∧bs[i]? = some L):=fun i L hi=>by
  by_cases e:i=o
  ·subst e; rw [List.getElem?_set_self (by simpa using hol)] at hi; cases hi; exact .inl rfl
  ·rw [List.getElem?_set_ne (Ne.symm e)] at hi
   by_cases e2:i=b
   ·subst e2; rw [List.getElem?_set_self hbl] at hi; cases hi; exact .inl rfl
   ·rw [List.getElem?_set_ne (Ne.symm e2)] at hi; exact .inr ⟨e2,e,hi⟩
 obtain⟨hK,hKo⟩:=hI.kill (bs1:=(bs.set b .dead).set o .dead) (by rw [hlen]; exact Nat.le_refl _) fun i L hi=>(hdead i L hi).imp id fun h=>h.2.2
 have hdd:∀ t B,a1s r (mkS ((bs.set b .dead).set o .dead) g) t B→t≠b∧t≠o:=fun t B k=>by
  have key:∀ L,(mkS ((bs.set b .dead).set o .dead) g).h.get t=some L→L≠.dead→t≠b∧t≠o:=fun L hL hd=>by
   rw [a0s] at hL
   have:=(hdead t L hL).resolve_left hd
   exact⟨this.1,this.2.1⟩
  rcases k with⟨⟨L,k1,k2⟩,_⟩ | ⟨F,cs,γ,k1,_⟩
  ·exact key L k1 fun e=>by subst e; cases k2
  ·exact key _ k1 fun e=>by cases e
 have hgb:(mkS bs g).h.get b=some (.cells cs op):=by rw [a0s]; exact hb
 have hgo:(mkS bs g).h.get o=some (stB q γ):=by rw [a0s]; exact ho
 have row:(∀ W,a3b W u n cs)∨∃ B o' c,r b=some (B,o',c)∧∀ w':World,w'.heap[B]? = w.heap[B]?→a3b w' u n cs:=by
  simp only [VR] at hu
  rcases hu with⟨B,o',c,h1,h2,h3⟩ | ⟨h1,h2⟩
  ·rcases hI.cells b cs op hgb with⟨_,k⟩ | ⟨x,k1,k2⟩
   ·rw [k] at h1; cases h1
   ·rw [h1] at k1; cases k1
    obtain⟨cc,e,lo,hi,j1,j2,_,_⟩:=k2.ex
    refine .inr ⟨B,o',c,h1,fun w' hw=>.inr ⟨B,o',c,cc,e,(lo,hi),by simpa using h3,by omega,by rw [hw]; exact j1,fun i l hl=>?_⟩⟩
    obtain⟨p1,v,p2,p3⟩:=j2 i l hl
    exact⟨p1,v,p2,b2j.sound (a4c.1 hno l (List.mem_of_getElem? hl)) p3⟩
  ·exact .inl fun W=>.inl ⟨h2,h1,hn h1⟩
 have lob:(mkS bs g).lives b:=⟨_,hgb,rfl⟩
 obtain⟨m,hm⟩:=b1i (fun B=>a1s r (mkS bs g) b B∨a1s r (mkS bs g) o B) w.heap.size
 have hrng:∀ B,(a1s r (mkS bs g) b B∨a1s r (mkS bs g) o B)→W0.heap.size≤B∧B < w.heap.size:=fun B k=>k.elim (fun k=>hI.owned_in k.owned) fun k=>hI.owned_in k.owned
 have hm':∀ B,m.testBit B=true↔(a1s r (mkS bs g) b B∨a1s r (mkS bs g) o B):=fun B=>(hm B).trans ⟨fun k=>k.2,fun k=>⟨(hrng B k).2,k⟩⟩
 by_cases hp:∃ B,m.testBit B=true
 ·obtain⟨B0,hB0⟩:=hp
  have hf1:∀ B,m.testBit B=true→W0.heap.size≤B∧B < w.heap.size∧∀ t,¬ a1s r (mkS ((bs.set b .dead).set o .dead) g) t B:=fun B hB=>by
   have hB':=(hm' B).1 hB
   refine⟨(hrng B hB').1,(hrng B hB').2,fun t ht=>?_⟩
   obtain⟨d1,d2⟩:=hdd t B ht
   rcases hB' with k | k
   ·exact d1 (hI.one_owner (hKo t B ht) k)
   ·exact d2 (hI.one_owner (hKo t B ht) k)
  have hf2:∀ w',Below W0.heap.size W0 w'→w.heap.size≤w'.heap.size→(∀ B,m.testBit B=true→w'.heap[B]? = w.heap[B]?)→q.F w'∧a3b w' u n cs:=fun w' q1 q2 q3=>by
   refine⟨?_,?_⟩
   ·obtain⟨F,e,h⟩:=q
    cases e with
    | true=>exact h rfl w'
    | false =>
      obtain⟨x,h1,h2,h3⟩:=hI.ob.holds o stF [.fact F] γ hgo
      obtain⟨F',e',hF'⟩:=h3 w' q1 q2 fun B hB=>q3 B ((hm' B).2 (.inr (.inr ⟨_,_,_,hgo,hB⟩)))
      simp only [List.cons.injEq,LV.fact.injEq,and_true] at e'
      subst e'; exact hF'
   ·rcases row with h | ⟨B,o',c,h1,h2⟩
    ·exact h w'
    ·exact h2 w' (q3 B ((hm' B).2 (.inl (.inl ⟨lob,_,h1,rfl⟩))))
  obtain⟨r',k1,k2,k3,k4⟩:=hK.newst (x:=(B0,0,0)) (m:=m) (F:=fun W=>q.F W∧a3b W u n cs) hB0 hf1 hf2
  refine⟨⟨fun W=>q.F W∧a3b W u n cs,false,fun h=>by cases h⟩,rfl,r',?_,k2,fun B hB=>?_⟩
  ·rw [hlen] at k1; exact k1
  ·have hB':a2u r' (mkS ((bs.set b .dead).set o .dead++[.obj stF [.fact fun W=>q.F W∧a3b W u n cs] (((bs.set b .dead).set o .dead).length+1),.dead]) g) B:=by rw [hlen]; exact hB
   rcases k4 B hB' with k | k
   ·obtain⟨t,ht⟩:=k.by
    exact(hKo t B ht).owned
   ·exact((hm' B).1 k).elim (fun k=>k.owned) fun k=>k.owned
 ·have he:q.e=true:=by
   obtain⟨F,e,h⟩:=q
   cases e with
   | true=>rfl
   | false =>
     obtain⟨x,h1,h2,h3⟩:=hI.ob.holds o stF [.fact F] γ hgo
     exact absurd ⟨_,(hm' x.1).2 (.inr (.inr ⟨_,_,_,hgo,h2⟩))⟩ hp
  have hr:∀ W,a3b W u n cs:=by
   rcases row with h | ⟨B,o',c,h1,h2⟩
   ·exact h
   ·exact absurd ⟨_,(hm' B).2 (.inl (.inl ⟨lob,_,h1,rfl⟩))⟩ hp
  obtain⟨k1,k2⟩:=hI.kill (bs1:=(bs.set b .dead).set o .dead++[.dead,.dead]) (by simp) fun i L hi=>by
   rcases Nat.lt_or_ge i bs.length with c | c
   ·rw [List.getElem?_append_left (by omega)] at hi; exact(hdead i L hi).imp id fun h=>h.2.2
   ·rw [List.getElem?_append_right (by omega),hlen] at hi
    match h:i - bs.length with
    | 0=>rw [h] at hi; simp at hi; exact .inl hi.symm
    | 1=>rw [h] at hi; simp at hi; exact .inl hi.symm
    | k+2=>rw [h] at hi; simp at hi
  exact⟨⟨fun W=>q.F W∧a3b W u n cs,true,fun _ W=>⟨q.h he W,hr W⟩⟩,rfl,r,k1,r.le_refl,fun B hB=>by obtain⟨t,ht⟩:=hB.by; exact(k2 t B ht).owned⟩
theorem SSp.absorb {nt n0:Nat} {l:List Code} {i:Nat} {as:List (Nat×LV)} {bs:List LB} {g:Glb} {Q:LX→Tm→St→Prop} (t b o:Nat) {γ n:Nat} {cs:List LV} {op:Option Nat} {q:SQ} (hl:Nat.blt i l.length=true) (hn0:n0≤bs.length) (ht:t < nt) (hs:a6v as t=.slo b 0 n 0)
  (hb:bs[b]? = some (.cells cs op)) (ho:bs[o]? = some (stB q γ)) (hno:a1q cs=true) (hn:n=0→cs=[])
  (h:∀ (v:Value) (q':SQ),q'.F=(fun W=>q.F W∧a3b W v n cs)→SSp P nt (l.drop i) n0 (a1p nt ((t,.val v)::as)) (mkS ((bs.set b .dead).set o .dead++[stB q' (bs.length+1),.dead]) g) Q):SSp P nt (l.drop i) n0 (a1p nt as) (mkS bs g) Q:=by
 have:=Nat.le_of_ble_eq_true hl
 rw [a6b l i (by omega)] at h ⊢
 intro W0 r a w hI hA K' hK'
 obtain⟨u,hu1,hu2⟩:=hA.get t ht
 rw [a6a,if_pos ht,hs] at hu2
 obtain⟨q',hq,r1,h2,h3,h4⟩:=hI.absorb hb ho hno hn hu2
 have hA1:AR r1 (a0q (a1p nt ((t,.val u)::as))) nt a:=by
  refine⟨hA.size,hA.defers,fun t' ht'=>?_,fun t' ht'=>by rw [a6a,if_neg (by omega)]⟩
  obtain⟨v,k1,k2⟩:=hA.get t' ht'
  refine⟨v,k1,?_⟩
  rw [a6a,if_pos ht'] at k2 ⊢
  simp only [a6v,a0t]
  by_cases e:t=t'
  ·subst e
   rw [hu1] at k1; cases k1
   simp only [decide_true,cond_true,VR]
   refine⟨trivial,?_⟩
   simp only [VR] at hu2
   rcases hu2 with⟨B,w',c,_,_,e⟩ | ⟨_,e | ⟨_,e⟩⟩
   ·exact⟨_,_,_,e⟩
   ·exact⟨_,_,_,e⟩
   ·exact⟨_,_,_,e⟩
  ·simp only [e,decide_false,cond_false]
   exact k2.mono h3
 exact h u q' hq W0 r1 a w h2 hA1 K' fun x tm' s' r' a' w' q1 q2 q3 q4=>hK' x tm' s' r' a' w' q1 q2 ⟨fun t y ht hy=>q3.le t y ht (h3 t y hy),q3.n,q3.size,fun B hB ho=>h4 B (q3.img B hB ho),fun B hB ho=>q3.keep B hB fun k=>ho (h4 B k)⟩ q4
def fzB:LB→LB
 | .cells cs _=>.ro cs
 | .ro cs=>.ro cs
 | _=>.dead
theorem Inv.freeze {W0 w:World} {r:Ren} {bs:List LB} {g g':Glb} (hI:Inv W0 r (mkS bs g) w) (hg:Gl w g'):Inv w r (mkS (bs.map fzB) g') w:=by
 have get:∀ {t:Nat} {L:LB},(mkS (bs.map fzB) g').h.get t=some L→∃ M,(mkS bs g).h.get t=some M∧L=fzB M:=fun {t L} ht=>by
  rw [a0s,List.getElem?_map,Option.map_eq_some_iff] at ht
  obtain⟨M,h1,h2⟩:=ht
  exact⟨M,by rw [a0s]; exact h1,h2.symm⟩
 have nolive:∀ t,¬ (mkS (bs.map fzB) g').lives t:=fun t ⟨L,h1,h2⟩=>by
  obtain⟨M,_,e⟩:=get h1
  subst e
  cases M <;> cases h2
 refine⟨Below.refl _ _,fun b x hb=>?_,fun b x hl=>absurd hl (nolive b),fun b hb=>?_,fun b b' x x' hl=>absurd hl (nolive b),fun b cs op hb=>?_,fun b t p hb=>?_,hg,fun b cs hb=>?_,c0d.none fun b F cs γ hb=>?_⟩
 ·have:=hI.dom b x hb
  rw [a2p] at this ⊢
  simpa using this
 ·rw [a0s,List.getElem?_eq_none (by rw [a2p] at hb; exact hb)]
 ·obtain⟨M,_,e⟩:=get hb; cases M <;> cases e
 ·obtain⟨M,_,e⟩:=get hb; cases M <;> cases e
 ·obtain⟨M,h1,e⟩:=get hb
  cases M with
  | cells cs' op =>
    cases e
    rcases hI.cells b cs op h1 with k | ⟨x,k1,k2⟩
    ·exact .inl k
    ·obtain⟨c,e,lo,hi,j1,j2,_⟩:=k2.ex
     exact .inr ⟨x,k1,c,e,(lo,hi),j1,j2⟩
  | ro cs' =>
    cases e
    rcases hI.ro b cs h1 with k | ⟨x,k1,c,e,f,k2,k3⟩
    ·exact .inl k
    ·refine .inr ⟨x,k1,c,e,f,?_,k3⟩
     rw [hI.below.block _ (Array.getElem?_eq_some_iff.1 k2).1]; exact k2
  | _=>cases e
 ·obtain⟨M,_,e⟩:=get hb; cases M <;> cases e
def c3v (P:Program):List Code→(Exit→Act→World→Prop)→Act→World→Prop
 | [],K=>K .normal
 | c::l,K=>c.wp P fun x a w=>match x with
   | .normal=>c3v P l K a w
   | x=>K x a w
theorem SSp.wp {nt n0:Nat} {Q:LX→Tm→St→Prop} {K:Exit→Act→World→Prop} {W0:World}:∀ {l:List Code} {tm:Tm} {s:St} {r:Ren} {a:Act} {w:World},SSp P nt l n0 tm s Q→n0≤s.n→Inv W0 r s w→AR r (a0q tm) nt a →
  (∀ x tm' s' r' a' w',Q x tm' s'→Inv W0 r' s' w'→b6z n0 r s w r' s' w'→AR r' (a0q tm') nt a'→K (b6p x) a' w')→c3v P l K a w
 | [],tm,s,r,a,w,h,hn,hI,hA,hK=>hK .normal tm s r a w h hI (b6z.of (Ext.refl _ _ _) hn) hA
 | c::l,tm,s,r,a,w,h,hn,hI,hA,hK=>h W0 r a w hI hA _ fun x tm' s' r' a' w' q1 q2 q3 q4=>by
   cases x with
   | normal=>exact SSp.wp q1 q3.n q2 q4 fun y tm2 s2 r2 a2 w2 p1 p2 p3 p4=>hK y tm2 s2 r2 a2 w2 p1 p2 (q3.trans p3) p4
   | exit id=>exact hK _ tm' s' r' a' w' q1 q2 q3 q4
   | ret=>exact hK _ tm' s' r' a' w' q1 q2 q3 q4
theorem b5m {K:Exit→Act→World→Prop}:∀ {l m:List Code} {a:Act} {w:World},c3v P l (fun x a w=>match x with | .normal=>c3v P m K a w | x=>K x a w) a w→c3v P (l++m) K a w
 | [],m,a,w,h=>h
 | c::l,m,a,w,h=>by
   refine Code.wp_mono ?_ h
   intro x a' w' h'
   cases x with
   | normal=>exact b5m h'
   | _=>exact h'
abbrev f4x:=@Exit.then
theorem c7v:∀ {c:Code} {K:Exit→Act→World→Prop} {a:Act} {w:World},c3v P (a3l c) K a w→c.wp P K a w:=by
 have split:∀ {l m:List Code} {K:Exit→Act→World→Prop} {a:Act} {w:World},c3v P (l++m) K a w→c3v P l (fun x a w=>match x with | .normal=>c3v P m K a w | x=>K x a w) a w:=by
  intro l
  induction l with
  | nil=>intro m K a w h; exact h
  | cons c l ih =>
    intro m K a w h
    refine Code.wp_mono ?_ h
    intro x a' w' h'
    cases x with
    | normal=>exact ih h'
    | _=>exact h'
 have one:∀ {c:Code} {K:Exit→Act→World→Prop} {a:Act} {w:World},c3v P [c] K a w→c.wp P K a w:=by
  intro c K a w h
  refine Code.wp_mono ?_ h
  intro x a' w' h'
  cases x <;> exact h'
 have weak:∀ {l:List Code} {K K':Exit→Act→World→Prop} {a:Act} {w:World},(∀ x a w,K x a w→K' x a w)→c3v P l K a w→c3v P l K' a w:=by
  intro l
  induction l with
  | nil=>intro K K' a w hq h; exact hq _ _ _ h
  | cons c l ih =>
    intro K K' a w hq h
    refine Code.wp_mono ?_ h
    intro x a' w' h'
    cases x with
    | normal=>exact ih hq h'
    | _=>exact hq _ _ _ h'
 intro c
 induction c with
 | seq a b iha ihb =>
   intro K ac w h
   have to:c3v P (a3l a++a3l b) K ac w→c3v P (a3l a) (f4x (b.wp P K) K) ac w:=fun h=>by
    refine weak ?_ (split h)
    intro x a' w' h'
    cases x with
    | normal=>exact ihb h'
    | _=>exact h'
   refine wp_seq (iha (to h))
 | _=>intro K a w h; exact one h
def g2k (t:Nat) (W0:World) (K:Exit→Act→World→Prop):Prop:=∀ (x:LX) (a:Act) (w:World),c8g x→a.defers=[]→a.tmps[t]? = some (.bool true)→Below W0.heap.size W0 w→K (b6p x) a w
def SW (P:Program) (nt t:Nat) (l:List Code) (tm:Tm) (s:St):Prop:=∀ (W0:World) (r:Ren) (a:Act) (w:World),Inv W0 r s w→AR r (a0q tm) nt a→∀ K:Exit→Act→World→Prop,g2k t W0 K→c3v P l K a w
abbrev isT:LV→List LB→Prop:=fun l _=>l=.bool true
theorem b9j {n0 t nt:Nat} {L:List Nat} {g:Glb} (hin:b6y [t] L=true) {x:LX} {tm:Tm} {s:St} (h:vK L (d9l n0 [t] L g isT) x tm s) {W0:World} {r:Ren} {a:Act} {w:World} (hI:Inv W0 r s w) (hA:AR r (a0q tm) nt a) (ht:t < nt) {K:Exit→Act→World→Prop} (hK:g2k t W0 K):K (b6p x) a w:=by
 obtain⟨h1,h2,l0,b0,ρ,h3,h4⟩:=h
 have hl:l0=.bool true:=h3
 subst hl
 rw [c3s hin] at h4
 have h5:=h4.2.1
 simp only [b5u,List.map_cons,List.map_nil,a4l,b1b,Nat.beq_refl,cond_true,and_true] at h5
 obtain⟨v,k1,k2⟩:=hA.get t ht
 have:=h5.sound k2
 simp only [VR] at this
 subst this
 exact hK x a w h1 hA.defers k1 hI.below
theorem SW.of {n0 t nt:Nat} {l:List Code} {tm:Tm} {s:St} {L:List Nat} {g:Glb} (hin:b6y [t] L=true) (ht:t < nt) (hn:n0≤s.n) (h:SSp P nt l n0 tm s (vK L (d9l n0 [t] L g isT))):SW P nt t l tm s :=
 fun W0 r a w hI hA K hK=>SSp.wp h hn hI hA fun x tm' s' r' a' w' q1 q2 q3 q4=>b9j hin q1 q2 q4 ht hK
theorem SW.step {σ : Type} {n0 t nt:Nat} {l m:List Code} {tm:Tm} {s:St} {L:List Nat} {g:Glb} {T : σ→List (Nat×LV)} {H : σ→List LB} (hin:b6y [t] L=true) (ht:t < nt) (hn:n0≤s.n) (h1:SSp P nt l n0 tm s (vK L (toK n0 nt L g T H (d9l n0 [t] L g isT)))) (h2:∀ a,SW P nt t m (a1p nt (T a)) (mkS (H a) g)):SW P nt t (l++m) tm s:=by
 intro W0 r a w hI hA K hK
 refine b5m (SSp.wp h1 hn hI hA fun x tm' s' r' a' w' q1 q2 q3 q4=>?_)
 cases x with
 | normal =>
   obtain⟨hg,b,ρ,hc⟩:=q1
   obtain⟨r0,k1,k2,_⟩:=Conv.of_ok hc W0 r' a' w' q2 q4
   rw [hg] at k1
   exact h2 b W0 r0 a' w' k1 k2 K hK
 | exit id=>exact b9j hin q1 q2 q4 ht hK
 | ret=>exact b9j hin q1 q2 q4 ht hK
theorem SW.to {σ : Type} {cx:Cx} (hcx:a3w P (a2z cx)) {n nt n0 t:Nat} {l:List Code} {i:Nat} (j k:Nat) (hk:i+j=k:=by rfl) {tm:Tm} {s:St} {L:List Nat} {g:Glb} (hin:b6y [t] L=true) (ht:t < nt) (T : σ→List (Nat×LV)) (H : σ→List LB) (hn:n0≤s.n)
  (h1:xsp P cx n nt (seg l i j) tm s (vK L (toK n0 nt L g T H (d9l n0 [t] L g isT)))) (h2:∀ a,SW P nt t (l.drop k) (a1p nt (T a)) (mkS (H a) g)):SW P nt t (l.drop i) tm s:=by
 subst hk
 rw [b9m l i j]
 exact SW.step hin ht hn (SSp.vc hcx hn h1) h2
theorem SW.code_to {σ : Type} {nt n0 t:Nat} {l:List Code} {i:Nat} (k:Nat) (hk:i+1=k:=by rfl) {tm:Tm} {s:St} {L:List Nat} {g:Glb} (hin:b6y [t] L=true) (ht:t < nt) (T : σ→List (Nat×LV)) (H : σ→List LB) (hl:Nat.ble k l.length=true) (hn:n0≤s.n)
  (h1:a0p P nt (a4i l i) n0 tm s (vK L (toK n0 nt L g T H (d9l n0 [t] L g isT)))) (h2:∀ a,SW P nt t (l.drop k) (a1p nt (T a)) (mkS (H a) g)):SW P nt t (l.drop i) tm s:=by
 subst hk
 have:=Nat.le_of_ble_eq_true hl
 rw [a6b l i (by omega)]
 refine SW.step (l:=[a4i l i]) hin ht hn ?_ h2
 refine a0p.mono h1 fun x tm s h=>?_
 cases x <;> exact h
theorem SW.last {cx:Cx} (hcx:a3w P (a2z cx)) {n nt n0 t:Nat} {l:List Code} {i:Nat} {tm:Tm} {s:St} {L:List Nat} {g:Glb} (hin:b6y [t] L=true) (ht:t < nt) (hn:n0≤s.n) (h:xsp P cx n nt (l.drop i) tm s (vK L (d9l n0 [t] L g isT))):SW P nt t (l.drop i) tm s :=
 SW.of hin ht hn (SSp.vc hcx hn h)
theorem SW.freeze {nt t o γ : Nat} {l:List Code} {as:List (Nat×LV)} {bs:List LB} {g g':Glb} {q:SQ} (ho:bs[o]? = some (stB q γ)) (hg:∀ W w:World,Gl W g→Below W.heap.size W w→q.F w→Gl w g')
  (h:(∃ w,q.F w)→SW P nt t l (a1p nt as) (mkS (bs.map fzB) g')):SW P nt t l (a1p nt as) (mkS bs g):=by
 intro W0 r a w hI hA K hK
 have hF:q.F w:=by
  obtain⟨F,e,hq⟩:=q
  cases e with
  | true=>exact hq rfl w
  | false =>
    obtain⟨x,h1,h2,h3⟩:=hI.ob.holds o stF [.fact F] γ (by rw [a0s]; exact ho)
    obtain⟨F',e',hF'⟩:=h3 w hI.below (Nat.le_refl _) fun _ _=>rfl
    simp only [List.cons.injEq,LV.fact.injEq,and_true] at e'
    subst e'; exact hF'
 exact h ⟨w,hF⟩ w r a w (hI.freeze (hg W0 w hI.gl hI.below hF)) hA K fun x a' w' k1 k2 k3 k4=>hK x a' w' k1 k2 k3 (hI.below.trans (k4.mono hI.below.size))
theorem SW.conv {nt n0 t:Nat} {l:List Code} {tm tm0:Tm} {s s0:St} (h:Conv n0 nt tm s tm0 s0) (k:SW P nt t l tm0 s0):SW P nt t l tm s:=by
 intro W0 r a w hI hA K hK
 obtain⟨r0,h1,h2,_⟩:=h W0 r a w hI hA
 exact k W0 r0 a w h1 h2 K hK
theorem SW.law {f:Nat} {rows:List (Value×Nat×List LV)} {g:List (Nat×List LV)} {W:World} {args:List LV} {us:List Value} (nt t:Nat) (hf:fnOk P f nt [t] args.length=true) (hr:c6a W rows) (hg:Gl W g)
  (ht:(a4q args 0 .leaf).isSome=true) (htn:t < nt) (hv:∀ r:Ren,(∀ (i:Nat) v n cs,rows[i]? = some (v,n,cs)→VR r (.slo i 0 n 0) v)→VRs r args us)
  (h:SW P nt t ((sp P f).drop 0) (tm0 args) (mkS (a4r rows) g)):Calls P f us.toArray W fun e W'=>e=.returned (.bool true)∧Below W.heap.size W W':=by
 obtain⟨xs,hl,hx⟩:=b3d hr
 have hnl:∀ b,¬ (mkS (a4r rows) g).lives b:=fun b ⟨L,h1,h2⟩=>by
  rw [a0s] at h1
  simp only [a4r,List.getElem?_map,Option.map_eq_some_iff] at h1
  obtain⟨a,_,rfl⟩:=h1
  cases h2
 have hI:Inv W (fun b=>match xs[b]? with | some x=>x | none=>none) (mkS (a4r rows) g) W:=by
  refine⟨Below.refl _ _,fun b x hb=>?_,fun b x hlv=>absurd hlv (hnl b),fun b hb=>?_,fun b b' x x' hlv=>absurd hlv (hnl b),fun b cs op hb=>?_,fun b t p hb=>?_,hg,fun b cs hb=>?_,c0d.none fun b F cs g hb=>hnl b ⟨_,hb,rfl⟩⟩
  ·cases hxb:xs[b]? with
   | none=>simp [hxb] at hb
   | some y =>
     simp only [hxb] at hb
     subst hb
     have hlt:=(List.getElem?_eq_some_iff.1 hxb).1
     obtain⟨⟨v,n,cs⟩,hrow⟩:∃ q,rows[b]? = some q:=⟨_,List.getElem?_eq_getElem (by omega)⟩
     obtain⟨y,k1,k2⟩:=hx b v n cs hrow
     rw [hxb] at k1; simp at k1; subst k1
     rcases k2 with⟨e,_⟩ | ⟨B,o,c,cc,e,f,k3,k4,k5,k6,k7⟩
     ·cases e
     ·simp at k3; subst k3
      exact⟨by rw [a2p]; simp [a4r]; omega,(Array.getElem?_eq_some_iff.1 k6).1⟩
  ·rw [a0s,List.getElem?_eq_none (by rw [a2p] at hb; exact hb)]
  ·rw [a0s] at hb; simp [a4r] at hb
  ·rw [a0s] at hb; simp [a4r] at hb
  ·rw [a0s] at hb
   simp only [a4r,List.getElem?_map,Option.map_eq_some_iff] at hb
   obtain⟨⟨v,n,ds⟩,hrow,e⟩:=hb
   simp at e; subst e
   obtain⟨y,k1,k2⟩:=hx b v n ds hrow
   simp only [k1]
   rcases k2 with⟨e1,e2,_⟩ | ⟨B,o,c,cc,e,f,k3,k4,k5,k6,k7⟩
   ·exact .inl ⟨e2,e1⟩
   ·exact .inr ⟨_,k3,cc,e,f,k6,fun i l hi=>let ⟨q1,u,q2,q3⟩:=k7 i l hi; ⟨q1,u,q2,q3.mono fun b x hb=>by cases hb⟩⟩
 have hus:VRs (fun b=>match xs[b]? with | some x=>x | none=>none) args us:=hv _ fun i v n cs hi=>by
  obtain⟨y,k1,k2⟩:=hx i v n cs hi
  simp only [VR,k1]
  rcases k2 with⟨e1,e2,e3,e4⟩ | ⟨B,o,c,cc,e,f,k3,k4,k5,k6,k7⟩
  ·exact .inr ⟨e3,e4⟩
  ·exact .inl ⟨B,o,c,k3,by omega,by simp [k4]⟩
 generalize (fun b=>match xs[b]? with | some x=>x | none=>none:Ren)=r at hI hus
 have ht':a4q args 0 .leaf=some (tm0 args):=by
  unfold tm0
  cases hi:a4q args 0 .leaf with
  | none=>rw [hi] at ht; cases ht
  | some t=>rfl
 obtain⟨fn,c,h1,h2,h3,h4,h5⟩:∃ fn c,P.funcs[f]? = some fn∧fn.body=some c∧fn.ntmps=nt∧args.length≤nt∧fn.results.toList=tmps [t]:=by
  unfold fnOk at hf
  split at hf
  ·rename_i fn h1
   split at hf
   ·rename_i c h2
    simp only [Bool.and_eq_true] at hf
    exact⟨fn,c,h1,h2,Nat.eq_of_beq_eq_true hf.1.1,Nat.le_of_ble_eq_true hf.1.2,b8q hf.2⟩
   ·cases hf
  ·cases hf
 have hsp:sp P f=a3l c:=by simp [sp,c7g,h1,h2]
 rw [List.drop_zero,hsp] at h
 have hul:=hus.length
 have hA:AR r (a0q (tm0 args)) nt { tmps:=us.toArray++Array.replicate (nt - us.toArray.size) undef,defers:=[] }:=by
  have hg:=a8z args 0 .leaf _ ht'
  refine⟨by simp; omega,rfl,fun t htt=>?_,fun t htt=>?_⟩
  ·rw [hg]
   by_cases h1:t < args.length
   ·rw [if_pos (by omega)]
    obtain⟨u,q1,q2⟩:=hus.get (List.getElem?_eq_getElem h1)
    refine⟨u,?_,?_⟩
    ·rw [Array.getElem?_append_left (by simp; omega)]; simpa using q1
    ·simpa [h1] using q2
   ·rw [if_neg (by omega)]
    refine⟨undef,?_,?_⟩
    ·rw [Array.getElem?_append_right (by simp; omega)]
     simp only [List.size_toArray,Array.getElem?_replicate]
     rw [if_pos (by omega)]
    ·simp only [a0q,Tr.g9l]; exact a7n
  ·rw [hg,if_neg (by omega)]; simp [a0q,Tr.g9l]
 subst h3
 refine calls_of_wp h1 h2 (c7v (h W r _ W hI hA _ fun x a' w' k1 k2 k3 k4=>?_))
 have hrs:fn.results=#[.tmp t]:=by
  have:fn.results.toList=[.tmp t]:=h5
  cases hq:fn.results with
  | mk l=>rw [hq] at this; simp only at this; rw [this]
 have hrun:(results fn a'.tmps).run P w'=.ok (.bool true) w':=by
  rw [results_tmp hrs]
  simp [k3]
 cases x with
 | exit id=>exact k1.elim
 | normal=>exact⟨k2,_,hrun,rfl,k4⟩
 | ret=>exact⟨k2,_,hrun,rfl,k4⟩
theorem SW.absorb {nt t0:Nat} {l:List Code} {as:List (Nat×LV)} {bs:List LB} {g:Glb} (t b o:Nat) {γ n:Nat} {cs:List LV} {op:Option Nat} {q:SQ} (ht:t < nt) (hs:a6v as t=.slo b 0 n 0)
  (hb:bs[b]? = some (.cells cs op)) (ho:bs[o]? = some (stB q γ)) (hno:a1q cs=true) (hn:n=0→cs=[])
  (h:∀ (v:Value) (q':SQ),q'.F=(fun W=>q.F W∧a3b W v n cs)→SW P nt t0 l (a1p nt ((t,.val v)::as)) (mkS ((bs.set b .dead).set o .dead++[stB q' (bs.length+1),.dead]) g)):SW P nt t0 l (a1p nt as) (mkS bs g):=by
 intro W0 r a w hI hA K hK
 obtain⟨u,hu1,hu2⟩:=hA.get t ht
 rw [a6a,if_pos ht,hs] at hu2
 obtain⟨q',hq,r1,h2,h3,h4⟩:=hI.absorb hb ho hno hn hu2
 have hA1:AR r1 (a0q (a1p nt ((t,.val u)::as))) nt a:=by
  refine⟨hA.size,hA.defers,fun t' ht'=>?_,fun t' ht'=>by rw [a6a,if_neg (by omega)]⟩
  obtain⟨v,k1,k2⟩:=hA.get t' ht'
  refine⟨v,k1,?_⟩
  rw [a6a,if_pos ht'] at k2 ⊢
  simp only [a6v,a0t]
  by_cases e:t=t'
  ·subst e
   rw [hu1] at k1; cases k1
   simp only [decide_true,cond_true,VR]
   refine⟨trivial,?_⟩
   simp only [VR] at hu2
   rcases hu2 with⟨B,w',c,_,_,e⟩ | ⟨_,e | ⟨_,e⟩⟩
   ·exact⟨_,_,_,e⟩
   ·exact⟨_,_,_,e⟩
   ·exact⟨_,_,_,e⟩
  ·simp only [e,decide_false,cond_false]
   exact k2.mono h3
 exact h u q' hq W0 r1 a w h2 hA1 K hK
def f6p (s:St) (b:Nat):Option (List LV):=match s.h.get b with
 | some (.ro c)=>some c
 | some (.cells c _)=>some c
 | _=>none
theorem d4s {s:St} {b:Nat} {c:List LV} (h:f6p s b=some c):s.h.get b=some (.ro c)∨∃ op,s.h.get b=some (.cells c op):=by
 unfold f6p at h
 split at h
 ·rename_i e; cases h; exact .inl e
 ·rename_i e; cases h; exact .inr ⟨_,e⟩
 ·cases h
def d2j (ρ : List Nat) (f:Nat→Nat→Nat) (r:Ren):Ren:=fun i=>match ρ[i]? with
 | some b=>(r b).map fun x=>(x.1,x.2.1,f i x.2.2)
 | none=>none
theorem a0k.frozen {f:Nat} {args args0:List LV} {s:St} (ρ : List Nat) (cs:List (List LV)) (fc:Nat→Nat→Nat) {g0:Glb} {v:LV} (hv:b2j v=true) (hlen:cs.length = ρ.length)
  (hρ : ∀ (i b:Nat) c,ρ[i]? = some b→cs[i]? = some c→f6p s b=some c) (hno:∀ c∈cs,a1q c=true) (hg:∀ W w:World,Gl W s.g→Below W.heap.size W w→Gl w g0) (ha:∀ (r:Ren) us,VRs r args us→VRs (d2j ρ fc r) args0 us)
  (h:a0k P f args0 (mkS (cs.map .ro) g0) fun l _=>l=v):a0k P f args s fun l s'=>l=v∧s'=s:=by
 refine a0k.g9f fun W0 r w us hI hu=>?_
 have hget:∀ {t:Nat} {L:LB},(mkS (cs.map .ro) g0).h.get t=some L→∃ c b,L=.ro c∧cs[t]? = some c∧ρ[t]? = some b∧f6p s b=some c:=fun {t L} ht=>by
  rw [a0s,List.getElem?_map,Option.map_eq_some_iff] at ht
  obtain⟨c,h1,h2⟩:=ht
  have hl:t < ρ.length:=by rw [← hlen]; exact(List.getElem?_eq_some_iff.1 h1).1
  exact⟨c,ρ[t],h2.symm,h1,List.getElem?_eq_getElem hl,hρ t _ c (List.getElem?_eq_getElem hl) h1⟩
 have nolive:∀ t,¬ (mkS (cs.map .ro) g0).lives t:=fun t ⟨L,h1,h2⟩=>by
  obtain⟨c,b,e,_⟩:=hget h1
  subst e; cases h2
 have hren:∀ t b,ρ[t]? = some b→d2j ρ fc r t=(r b).map fun x=>(x.1,x.2.1,fc t x.2.2):=fun t b hb=>by simp [d2j,hb]
 have hI0:Inv w (d2j ρ fc r) (mkS (cs.map .ro) g0) w:=by
  refine⟨Below.refl _ _,fun t x hx=>?_,fun b x hl=>absurd hl (nolive b),fun b hb=>?_,fun b b' x x' hl=>absurd hl (nolive b),fun b ds op hb=>?_,fun b t p hb=>?_,hg W0 w hI.gl hI.below,fun t ds hb=>?_,c0d.none fun b F ds γ hb=>?_⟩
  ·cases hb : ρ[t]? with
   | none=>simp [d2j,hb] at hx
   | some b =>
     rw [hren t b hb,Option.map_eq_some_iff] at hx
     obtain⟨y,hy,rfl⟩:=hx
     have:=(List.getElem?_eq_some_iff.1 hb).1
     exact⟨by rw [a2p]; simp; omega,(hI.dom b y hy).2⟩
  ·rw [a0s,List.getElem?_eq_none (by rw [a2p] at hb; exact hb)]
  ·obtain⟨c,b',e,_⟩:=hget hb; cases e
  ·obtain⟨c,b',e,_⟩:=hget hb; cases e
  ·obtain⟨c,b,e,h1,h2,h3⟩:=hget hb
   cases e
   have hn:=hno ds (List.mem_of_getElem? h1)
   rw [hren t b h2]
   rcases d4s h3 with k | ⟨op,k⟩
   ·rcases hI.ro b ds k with⟨q,q'⟩ | ⟨x,q1,c,e,f,q2,q3⟩
    ·exact .inl ⟨q,by rw [q']; rfl⟩
    ·refine .inr ⟨(x.1,x.2.1,fc t x.2.2),by rw [q1]; rfl,c,e,f,?_,fun i l hi=>let ⟨g1,u,g2,g3⟩:=q3 i l hi; ⟨g1,u,g2,b2j.sound (a4c.1 hn l (List.mem_of_getElem? hi)) g3⟩⟩
     rw [hI.below.block _ (Array.getElem?_eq_some_iff.1 q2).1]; exact q2
   ·rcases hI.cells b ds op k with⟨q,q'⟩ | ⟨x,q1,q2⟩
    ·exact .inl ⟨q,by rw [q']; rfl⟩
    ·obtain⟨c,e,lo,hi,j1,j2,_⟩:=q2.ex
     exact .inr ⟨(x.1,x.2.1,fc t x.2.2),by rw [q1]; rfl,c,e,(lo,hi),j1,fun i l hi=>let ⟨g1,u,g2,g3⟩:=j2 i l hi; ⟨g1,u,g2,b2j.sound (a4c.1 hn l (List.mem_of_getElem? hi)) g3⟩⟩
  ·obtain⟨c,b',e,_⟩:=hget hb; cases e
 refine(h w _ w us hI0 (ha r us hu)).mono fun e w' ⟨l,s',v',r',hl,he,hvv,hIw,_⟩=>?_
 subst hl
 exact⟨v',he,b2j.sound hv hvv,hIw.below⟩
theorem a3b.up {W w:World} {v:Value} {n:Nat} {cs:List LV} (h:a3b W v n cs) (hb:Below W.heap.size W w):a3b w v n cs:=by
 rcases h with h | ⟨B,o,cap,c,e,f,h1,h2,h3,h4⟩
 ·exact .inl h
 ·exact .inr ⟨B,o,cap,c,e,f,h1,h2,by rw [hb.block _ (Array.getElem?_eq_some_iff.1 h3).1]; exact h3,h4⟩
theorem d5c {l:LV} (h:b3h l=true) {r r':Ren} {u:Value} (hv:VR r l u):VR r' l u:=by
 cases l <;> simp [b3h] at h <;> simpa only [VR] using hv
theorem c8n {l l':LV} (h:b3h l=true) (h':b3h l'=true) {r:Ren} {u:Value} (hv:VR r l u) (hv':VR r l' u):l=l':=by
 cases l <;> simp [b3h] at h <;> cases l' <;> simp [b3h] at h' <;> simp only [VR] at hv hv'
 ·subst hv; cases hv'; rfl
 ·subst hv; cases hv'
 ·subst hv; cases hv'
 ·subst hv; obtain⟨_,a,n,c,e⟩:=hv'; cases e
 ·subst hv; cases hv'
 ·subst hv; cases hv'; rfl
 ·subst hv; cases hv'
 ·subst hv; obtain⟨_,a,n,c,e⟩:=hv'; cases e
 ·subst hv; cases hv'
 ·subst hv; cases hv'
 ·subst hv; simp at hv'; subst hv'; rfl
 ·subst hv; obtain⟨_,a,n,c,e⟩:=hv'; cases e
 ·subst hv'; obtain⟨_,a,n,c,e⟩:=hv; cases e
 ·subst hv'; obtain⟨_,a,n,c,e⟩:=hv; cases e
 ·subst hv'; obtain⟨_,a,n,c,e⟩:=hv; cases e
 ·rw [← hv.1,← hv'.1]
theorem a3b.at' {W:World} {v:Value} {n:Nat} {cs:List LV} (h:a3b W v n cs) (hc:cs.all b3h=true) {k m:Nat} (hk:k+m≤cs.length) (hm:0 < m):f0m W v k ((cs.drop k).take m):=by
 rcases h with⟨_,_,rfl⟩ | ⟨B,o,cap,c,e,f,rfl,_,h3,h4⟩
 ·simp at hk; omega
 ·refine⟨B,o,n,cap,c,e,f,rfl,h3,fun i l hi=>?_⟩
  rw [List.getElem?_take] at hi
  split at hi
  ·rw [List.getElem?_drop] at hi
   obtain⟨p1,u,p2,p3⟩:=h4 _ _ hi
   have:=List.all_eq_true.1 hc l (List.mem_of_getElem? hi)
   exact⟨p1,u,by rw [← p2]; congr 1; omega,fun r=>d5c this p3⟩
  ·cases hi
theorem b8j {F:World→Prop} {v:Value} {n:Nat} {cs:List LV} (hs:∃ W,F W) (hF:∀ W,F W→a3b W v n cs) (hc:cs.all b3h=true) {k m:Nat} (hk:k+m≤cs.length) (hm:0 < m) :
  a7o F v k m=true∧a0i F v k m=(cs.drop k).take m:=by
 have hc2:((cs.drop k).take m).all b3h=true:=List.all_eq_true.2 fun l hl=>List.all_eq_true.1 hc l (List.mem_of_mem_drop (List.mem_of_mem_take hl))
 have hl:((cs.drop k).take m).length=m:=by rw [List.length_take,List.length_drop]; omega
 have hp:d3x F v k m:=⟨_,hl,hc2,hs,fun W h=>(hF W h).at' hc hk hm⟩
 have hok:d5o F v k m=true:=by
  unfold d5o
  exact @decide_eq_true _ (Classical.propDecidable _) hp
 refine⟨hok,?_⟩
 obtain⟨k1,k2,k3⟩:=c0k hok
 obtain⟨W,hW⟩:=hs
 obtain⟨B,o,n1,c1,cc,e,f,rfl,q2,q3⟩:=k3 W hW
 obtain⟨B',o',n1',c1',cc',e',f',q1',q2',q3'⟩:=(hF W hW).at' hc hk hm
 simp only [Value.slice.injEq,Option.some.injEq,Addr.mk.injEq,and_true] at q1'
 obtain⟨⟨rfl,rfl⟩,rfl,rfl⟩:=q1'
 rw [q2] at q2'
 cases q2'
 show d3m F _ k m=_
 refine List.ext_getElem? fun i=>?_
 by_cases hi:i < m
 ·have h1:(d3m F (.slice (some ⟨B,o,none⟩) n1 c1) k m)[i]? = some ((d3m F (.slice (some ⟨B,o,none⟩) n1 c1) k m)[i]'(by omega)):=List.getElem?_eq_getElem (by omega)
  have h2:((cs.drop k).take m)[i]? = some (((cs.drop k).take m)[i]'(by omega)):=List.getElem?_eq_getElem (by omega)
  obtain⟨_,u,p1,p2⟩:=q3 i _ h1
  obtain⟨_,u',p1',p2'⟩:=q3' i _ h2
  rw [p1] at p1'; cases p1'
  rw [h1,h2]
  congr 1
  exact c8n (List.all_eq_true.1 k2 _ (List.mem_of_getElem? h1)) (List.all_eq_true.1 hc2 _ (List.mem_of_getElem? h2)) (p2 b8y) (p2' b8y)
 ·rw [List.getElem?_eq_none (by omega),List.getElem?_eq_none (by omega)]
theorem d3y {W:World} {v:Value} {n:Nat} {cs:List LV} (h:a3b W v n cs):xvl v=n:=by
 rcases h with⟨rfl | ⟨a,rfl⟩,rfl,_⟩ | ⟨B,o,cap,c,e,f,rfl,_⟩ <;> rfl
theorem c5u {W:World} {v:Value} {n i:Nat} {cs:List LV} (h:a3b W v n cs) (hi:i < n):b7a v i=true:=by
 rcases h with⟨_,rfl,_⟩ | ⟨B,o,cap,c,e,f,rfl,_⟩
 ·omega
 ·exact Nat.ble_eq_true_of_le hi
theorem Inv.pin {W0 w:World} {r:Ren} {bs:List LB} {g:Glb} {a j b n:Nat} {cs:List LV} {op:Option Nat} (hI:Inv W0 r (mkS bs g) w) (ha:bs[a]? = some (.cells cs op)) (hj:cs[j]? = some (.slo b 0 n 0)) :
  ∃ u,VR r (.slo b 0 n 0) u∧Inv W0 r (mkS (bs.set a (.cells (cs.set j (.val u)) op)) g) w∧∀ B,a2u r (mkS (bs.set a (.cells (cs.set j (.val u)) op)) g) B→a2u r (mkS bs g) B:=by
 have hal:a < bs.length:=(List.getElem?_eq_some_iff.1 ha).1
 have hga:(mkS bs g).h.get a=some (.cells cs op):=by rw [a0s]; exact ha
 rcases hI.cells a cs op hga with⟨q1,_⟩ | ⟨x,k1,k2⟩
 ·subst q1; cases hj
 obtain⟨c,e,lo,hi,j1,j2,j3,j4,j5⟩:=k2.ex
 obtain⟨p1,u,p2,p3⟩:=j2 j _ hj
 have hjl:j < cs.length:=(List.getElem?_eq_some_iff.1 hj).1
 have hu:VR r (.val u) u:=by
  simp only [VR] at p3 ⊢
  refine⟨trivial,?_⟩
  rcases p3 with⟨B,w',c,_,_,e⟩ | ⟨_,e | ⟨_,e⟩⟩
  ·exact⟨_,_,_,e⟩
  ·exact⟨_,_,_,e⟩
  ·exact⟨_,_,_,e⟩
 have get:∀ {t:Nat} {L:LB},(mkS (bs.set a (.cells (cs.set j (.val u)) op)) g).h.get t=some L→(t=a∧L=.cells (cs.set j (.val u)) op)∨(mkS bs g).h.get t=some L:=fun {t L} ht=>by
  rw [a0s] at ht ⊢
  by_cases e:t=a
  ·subst e; rw [List.getElem?_set_self hal] at ht; cases ht; exact .inl ⟨rfl,rfl⟩
  ·rw [List.getElem?_set_ne (Ne.symm e)] at ht; exact .inr ht
 have hlv:∀ t,(mkS (bs.set a (.cells (cs.set j (.val u)) op)) g).lives t→(mkS bs g).lives t:=fun t ⟨L,h1,h2⟩=>by
  rcases get h1 with⟨rfl,rfl⟩ | h
  ·exact⟨_,hga,rfl⟩
  ·exact⟨L,h,h2⟩
 have obj:∀ t F cs' γ,(mkS (bs.set a (.cells (cs.set j (.val u)) op)) g).h.get t=some (.obj F cs' γ)→(mkS bs g).h.get t=some (.obj F cs' γ):=fun t F cs' γ h=>by
  rcases get h with⟨_,e⟩ | h
  ·cases e
  ·exact h
 refine⟨u,p3,⟨hI.below,fun t y hy=>?_,fun t y hl=>hI.own t y (hlv t hl),fun t ht=>?_,fun t t' y y' k k'=>hI.inj t t' y y' (hlv t k) (hlv t' k'),fun t ds oq ht=>?_,fun t s p ht=>?_,hI.gl,fun t ds ht=>?_,hI.ob.step r.le_refl obj (fun t y q1 q2=>.inl ⟨hlv t q1,q2⟩) (Nat.le_refl _) fun _ _=>rfl⟩,fun B hB=>?_⟩
 ·have:=hI.dom t y hy
  rw [a2p] at this ⊢
  simpa using this
 ·rw [a0s,List.getElem?_eq_none (by rw [a2p] at ht; exact ht)]
 ·rcases get ht with⟨rfl,e1⟩ | h
  ·cases e1
   refine .inr ⟨x,k1,⟨⟨c,e,lo,hi,j1,fun i l hl=>?_,by simpa [a7u] using j3,by simpa [a7u] using j4,j5⟩,by simpa [a7u] using k2.fits⟩⟩
   by_cases ei:i=j
   ·subst ei
    rw [List.getElem?_set_self hjl] at hl; cases hl
    exact⟨rfl,u,p2,hu⟩
   ·rw [List.getElem?_set_ne (Ne.symm ei)] at hl
    exact j2 i l hl
  ·exact hI.cells t ds oq h
 ·rcases get ht with⟨_,e1⟩ | h
  ·cases e1
  ·exact hI.iter t s p h
 ·rcases get ht with⟨_,e1⟩ | h
  ·cases e1
  ·exact hI.ro t ds h
 ·rcases hB with⟨t,y,hl,hy,e1⟩ | ⟨t,F,ds,γ,h1,h2⟩
  ·exact .inl ⟨t,y,hlv t hl,hy,e1⟩
  ·exact .inr ⟨t,F,ds,γ,obj _ _ _ _ h1,h2⟩
theorem SSp.g9w {nt n0:Nat} {l:List Code} {i:Nat} {tm:Tm} {bs:List LB} {g:Glb} {Q:LX→Tm→St→Prop} (a j b o:Nat) {γ n:Nat} {ds cs:List LV} {oa op:Option Nat} {q:SQ} (hl:Nat.blt i l.length=true) (hn0:n0≤bs.length) (ha:bs[a]? = some (.cells ds oa)) (hj:ds[j]? = some (.slo b 0 n 0)) (hab:a≠b) (hao:a≠o)
  (hb:bs[b]? = some (.cells cs op)) (ho:bs[o]? = some (stB q γ)) (hno:a1q cs=true) (hn:n=0→cs=[])
  (h:∀ (v:Value) (q':SQ),q'.F=(fun W=>q.F W∧a3b W v n cs)→SSp P nt (l.drop i) n0 tm (mkS (((bs.set a (.cells (ds.set j (.val v)) oa)).set b .dead).set o .dead++[stB q' (bs.length+1),.dead]) g) Q):SSp P nt (l.drop i) n0 tm (mkS bs g) Q:=by
 have:=Nat.le_of_ble_eq_true hl
 rw [a6b l i (by omega)] at h ⊢
 intro W0 r ac w hI hA K' hK'
 obtain⟨u,hu,hI1,hO1⟩:=hI.pin ha hj
 obtain⟨q',hq,r1,h2,h3,h4⟩:=hI1.absorb (b:=b) (o:=o) (by rw [List.getElem?_set_ne hab]; exact hb) (by rw [List.getElem?_set_ne hao]; exact ho) hno hn hu
 rw [List.length_set] at h2 h4
 exact h u q' hq W0 r1 ac w h2 (hA.mono h3) K' fun x tm' s' r' a' w' q1 q2 q3 q4=>hK' x tm' s' r' a' w' q1 q2 ⟨fun t y ht hy=>q3.le t y ht (h3 t y hy),q3.n,q3.size,fun B hB ho=>hO1 B (h4 B (q3.img B hB ho)),fun B hB ho=>q3.keep B hB fun k=>ho (hO1 B (h4 B k))⟩ q4
theorem SW.unpack {nt t:Nat} {l:List Code} {tm:Tm} {bs:List LB} {g:Glb} {K:Kd} (hK:K.Ok) (b:Nat) {cs:List LV} {γ : Nat} (hb:bs[b]? = some (.obj K.F cs γ))
  (h:∀ v,K.enc v=cs→SW P nt t l tm (mkS (bs.set b (K.sh v b bs.length).1++(K.sh v b bs.length).2) g)):SW P nt t l tm (mkS bs g):=by
 intro W0 r a w hI hA K' hK'
 obtain⟨v,r1,h1,h2,h3,_⟩:=hI.unpack hK hb
 exact h v h1 W0 r1 a w h2 (hA.mono h3) K' hK'
end
section
open Go.RowKit
variable {P:Program}
def b5l (get:Nat→Option LB):Nat→Option Nat
 | 0=>none
 | n+1=>match get n with
   | some (.obj F [.fact _] _)=>cond F.isSt (some n) (b5l get n)
   | _=>b5l get n
def storeAt (s:St):Option Nat:=b5l s.h.get s.n
theorem b1o {l:List UInt8} {p:Nat} (h:p < l.length):1≤xrw l p∧p+xrw l p≤l.length:=by
 have hs:(⟨l.toArray⟩:ByteArray).size=l.length:=rfl
 unfold xrw Utf8.decode
 simp only [hs,Bool.and_eq_true,decide_eq_true_eq]
 split
 ·exact⟨by omega,by simp only; omega⟩
 ·split
  ·rename_i h1
   split
   ·exact⟨by omega,by simp only; omega⟩
   ·exact⟨by omega,by simp only; omega⟩
  ·split
   ·rename_i h1
    split
    ·exact⟨by omega,by simp only; omega⟩
    ·exact⟨by omega,by simp only; omega⟩
   ·split
    ·rename_i h1
     split
     ·exact⟨by omega,by simp only; omega⟩
     ·exact⟨by omega,by simp only; omega⟩
    ·exact⟨by omega,by simp only; omega⟩
theorem c6b {l:List UInt8} {p:Nat} {b:UInt8} (h:l[p]? = some b) (hb:b.toNat < 128):xrn l p=(b.toNat:Int)∧xrw l p=1:=by
 have h0:p < l.length:=(List.getElem?_eq_some_iff.1 h).1
 have hg:((⟨l.toArray⟩:ByteArray).get! (p+0))=b:=by
  simp only [ByteArray.get!,Nat.add_zero]
  rw [getElem!_pos l.toArray p (by simpa using h0)]
  have:=(List.getElem?_eq_some_iff.1 h).2
  simpa using this
 unfold xrn xrw Utf8.decode
 simp only [hg]
 rw [if_pos (show b.toNat < 0x80 by omega)]
 exact⟨rfl,rfl⟩
theorem d3w {W:World} {v:Value} {n size k:Nat} {cs:List LV} (h:a3b W v n cs) (hk:k≤n) (hl:cs.length=n * size) :
  c8r v k=true∧a3b W (a2j v size k) (n - k) (cs.drop (k * size)):=by
 rcases h with⟨he,rfl,rfl⟩ | ⟨B,o,cap,c,e,f,rfl,h1,h2,h3⟩
 ·obtain rfl:k=0:=by omega
  refine⟨?_,.inl ⟨?_,by omega,by simp⟩⟩
  ·rcases he with rfl | ⟨a,rfl⟩ <;> rfl
  ·rcases he with rfl | ⟨a,rfl⟩
   ·exact .inl rfl
   ·exact .inr ⟨a,rfl⟩
 ·refine⟨?_,?_⟩
  ·show(Nat.ble k n && Nat.ble n cap)=true
   simp [Nat.ble_eq_true_of_le hk,Nat.ble_eq_true_of_le h1]
  ·by_cases hc:cap=k
   ·refine .inl ⟨.inr ⟨⟨B,o,none⟩,?_⟩,by omega,?_⟩
    ·show d7l _ _ _=_
     simp only [d7l,if_pos hc]
     congr 1 <;> omega
    ·rw [List.drop_eq_nil_iff]
     rw [hl]
     exact Nat.mul_le_mul_right _ (by omega)
   ·refine .inr ⟨B,o+k * size,cap - k,c,e,f,?_,by omega,h2,fun i l hi=>?_⟩
    ·show d7l _ _ _=_
     simp only [d7l,if_neg hc,Option.map_some,a3c]
    ·rw [List.getElem?_drop] at hi
     obtain⟨p1,u,p2,p3⟩:=h3 _ _ hi
     exact⟨p1,u,by rw [← p2]; congr 1; omega,p3⟩
theorem Inv.known {W0 w:World} {r:Ren} {bs:List LB} {g:Glb} {q:SQ} {o γ : Nat} (hI:Inv W0 r (mkS bs g) w) (ho:bs[o]? = some (stB q γ)):q.F w:=by
 obtain⟨F,e,hq⟩:=q
 cases e with
 | true=>exact hq rfl w
 | false =>
   obtain⟨x,h1,h2,h3⟩:=hI.ob.holds o stF [.fact F] γ (by rw [a0s]; exact ho)
   obtain⟨F',e',hF'⟩:=h3 w hI.below (Nat.le_refl _) fun _ _=>rfl
   simp only [List.cons.injEq,LV.fact.injEq,and_true] at e'
   subst e'; exact hF'
theorem SSp.known {nt n0:Nat} {l:List Code} {i:Nat} {tm:Tm} {bs:List LB} {g:Glb} {Q:LX→Tm→St→Prop} (o:Nat) {γ : Nat} {q:SQ} (hl:Nat.blt i l.length=true) (ho:bs[o]? = some (stB q γ))
  (h:(∃ w,q.F w)→SSp P nt (l.drop i) n0 tm (mkS bs g) Q):SSp P nt (l.drop i) n0 tm (mkS bs g) Q:=by
 have:=Nat.le_of_ble_eq_true hl
 rw [a6b l i (by omega)] at h ⊢
 intro W0 r a w hI hA
 exact h ⟨w,hI.known ho⟩ W0 r a w hI hA
end
end Go.Lev
