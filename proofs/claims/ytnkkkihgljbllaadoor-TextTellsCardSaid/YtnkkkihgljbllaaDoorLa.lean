/- A local evaluator of runs, first part: local values and heaps, the evaluator, operations. No condition. -/
import Derived.Orders
import Derived.Below
import Derived.Laws.Cells
import Derived.Laws.IdiomCopy
import Derived.Laws.Entries
import GoSem.Dispatch
import Derived.CheckFast
import Derived.Laws.StructEq
import Derived.Laws.BytesString
namespace Go.Lev
set_option linter.unusedSimpArgs false
set_option linter.unusedVariables false
section
open Go.RowKit
inductive LV where
 | bool (b:Bool)
 | int (k:IntKind) (n:Int)
 | str (s:List UInt8)
 | nilp
 | ptr (b o:Nat)
 | gptr (g o:Nat)
 | nils
 | sle
 | any
 | unb
 | val (v:Value)
 | sln (n:Nat)
 | fact (F:World→Prop)
 | vp (v:Value) (k:Nat)
 | sl (b o len cap:Nat)
 | slo (b o len drop:Nat)
 | fn (f:Nat) (caps:List LV)
 | nilFunc
 | nilIface
 | iface (t:Nat) (v:LV)
 | agg (cs:List LV)
 | tup (vs:List LV)
deriving Inhabited
abbrev Ren:=Nat→Option (Nat×Nat×Nat)
def Emp (v:Value):Prop:=v=.slice none 0 0∨∃ a:Addr,v=.slice (some a) 0 0
mutual
def VR (r:Ren):LV→Value→Prop
 | .bool b,v=>v=.bool b
 | .int k n,v=>v=.int k n
 | .str s,v=>v=.string ⟨s.toArray⟩
 | .nilp,v=>v=.pointer none
 | .ptr b o,v=>∃ B w c,r b=some (B,w,c)∧v=.pointer (some ⟨B,w+o,none⟩)
 | .gptr g o,v=>v=.pointer (some ⟨g,o,none⟩)
 | .nils,v=>v=.slice none 0 0
 | .sle,v=>Emp v
 | .any,_=>True
 | .unb,v=>v=.bool true∨v=.bool false
 | .val x,v=>v=x∧∃ a n c,v=.slice a n c
 | .sln n,v=>∃ a c,v=.slice a n c
 | .fact _,_=>False
 | .vp x k,v=>∃ B o n c,x=.slice (some ⟨B,o,none⟩) n c∧v=.pointer (some ⟨B,o+k,none⟩)
 | .sl b o len cap,v=>∃ B w c,r b=some (B,w,c)∧v=.slice (some ⟨B,w+o,none⟩) len cap
 | .slo b o len drop,v=>(∃ B w c,r b=some (B,w,c)∧drop+len≤c∧v=.slice (some ⟨B,w+o,none⟩) len (c - drop))∨(len=0∧Emp v)
 | .fn f caps,v=>∃ us,v=.func (.func f) #[] us.toArray∧VRs r caps us
 | .nilFunc,v=>v=.nilFunc
 | .nilIface,v=>v=.nilIface
 | .iface t l,v=>∃ u,v=.iface t u∧VR r l u
 | .agg cs,v=>∃ us,v=.agg us.toArray∧VRs r cs us
 | .tup cs,v=>∃ us,v=.tuple us.toArray∧VRs r cs us
def VRs (r:Ren):List LV→List Value→Prop
 | [],vs=>vs=[]
 | l::ls,vs=>∃ u us,vs=u::us∧VR r l u∧VRs r ls us
end
def Ren.le (r r':Ren):Prop:=∀ b x,r b=some x→r' b=some x
theorem Ren.le_refl (r:Ren):r.le r:=fun _ _ h=>h
theorem Ren.le_trans {a b c:Ren} (h:a.le b) (k:b.le c):a.le c:=fun i x e=>k i x (h i x e)
mutual
theorem VR.mono {r r':Ren} (h:r.le r'):∀ {l:LV} {v:Value},VR r l v→VR r' l v
 | .bool b,v,e=>e
 | .int k n,v,e=>e
 | .str s,v,e=>e
 | .nilp,v,e=>e
 | .ptr b o,v,e=>by simp only [VR] at *; obtain⟨B,w,c,h1,h2⟩:=e; exact⟨B,w,c,h _ _ h1,h2⟩
 | .gptr g o,v,e=>e
 | .nils,v,e=>e
 | .sle,v,e=>e
 | .any,v,e=>by simp only [VR]
 | .unb,v,e=>e
 | .val _,v,e=>e
 | .sln _,v,e=>e
 | .fact _,v,e=>e
 | .vp _ _,v,e=>e
 | .sl b o len cap,v,e=>by simp only [VR] at *; obtain⟨B,w,c,h1,h2⟩:=e; exact⟨B,w,c,h _ _ h1,h2⟩
 | .slo b o len drop,v,e=>by simp only [VR] at *; rcases e with⟨B,w,c,h1,h2⟩ | e; exact .inl ⟨B,w,c,h _ _ h1,h2⟩; exact .inr e
 | .fn f caps,v,e=>by simp only [VR] at *; obtain⟨us,h1,h2⟩:=e; exact⟨us,h1,VRs.mono h h2⟩
 | .nilFunc,v,e=>e
 | .nilIface,v,e=>e
 | .iface t l,v,e=>by simp only [VR] at *; obtain⟨u,h1,h2⟩:=e; exact⟨u,h1,VR.mono h h2⟩
 | .agg cs,v,e=>by simp only [VR] at *; obtain⟨us,h1,h2⟩:=e; exact⟨us,h1,VRs.mono h h2⟩
 | .tup cs,v,e=>by simp only [VR] at *; obtain⟨us,h1,h2⟩:=e; exact⟨us,h1,VRs.mono h h2⟩
theorem VRs.mono {r r':Ren} (h:r.le r'):∀ {l:List LV} {v:List Value},VRs r l v→VRs r' l v
 | [],v,e=>e
 | l::ls,v,e=>by simp only [VRs] at *; obtain⟨u,us,h1,h2,h3⟩:=e; exact⟨u,us,h1,VR.mono h h2,VRs.mono h h3⟩
end
theorem VRs.length {r:Ren}:∀ {l:List LV} {v:List Value},VRs r l v→v.length=l.length
 | [],v,e=>by simp only [VRs] at e; simp [e]
 | l::ls,v,e=>by simp only [VRs] at e; obtain⟨u,us,h1,h2,h3⟩:=e; simp [h1,VRs.length h3]
theorem VRs.get {r:Ren}:∀ {l:List LV} {v:List Value} {i:Nat} {x:LV},VRs r l v→l[i]? = some x→∃ u,v[i]? = some u∧VR r x u
 | [],v,i,x,e,h=>by simp at h
 | l::ls,v,0,x,e,h=>by simp only [VRs] at e; obtain⟨u,us,h1,h2,h3⟩:=e; simp at h; subst h; exact⟨u,by simp [h1],h2⟩
 | l::ls,v,i+1,x,e,h=>by
   simp only [VRs] at e; obtain⟨u,us,h1,h2,h3⟩:=e; simp at h
   obtain⟨y,hy,hr⟩:=VRs.get h3 h
   exact⟨y,by simp [h1,hy],hr⟩
theorem VRs.append {r:Ren}:∀ {a b:List LV} {x y:List Value},VRs r a x→VRs r b y→VRs r (a++b) (x++y)
 | [],b,x,y,h,k=>by simp only [VRs] at h; simp [h,k]
 | l::ls,b,x,y,h,k=>by
   simp only [VRs] at h; obtain⟨u,us,h1,h2,h3⟩:=h
   simp only [List.cons_append,VRs]
   exact⟨u,us++y,by simp [h1],h2,h3.append k⟩
theorem VRs.drop {r:Ren}:∀ (n:Nat) {a:List LV} {x:List Value},VRs r a x→VRs r (a.drop n) (x.drop n)
 | 0,a,x,h=>by simpa using h
 | n+1,[],x,h=>by simp only [VRs] at h; simp [h,VRs]
 | n+1,l::ls,x,h=>by simp only [VRs] at h; obtain⟨u,us,h1,h2,h3⟩:=h; simp [h1]; exact h3.drop n
theorem VRs.take {r:Ren}:∀ (n:Nat) {a:List LV} {x:List Value},VRs r a x→VRs r (a.take n) (x.take n)
 | 0,a,x,h=>by simp [VRs]
 | n+1,[],x,h=>by simp only [VRs] at h; simp [h,VRs]
 | n+1,l::ls,x,h=>by simp only [VRs] at h; obtain⟨u,us,h1,h2,h3⟩:=h; simp only [h1,List.take_succ_cons,VRs]; exact⟨u,us.take n,rfl,h2,h3.take n⟩
theorem VRs.set {r:Ren} {i:Nat} {c:LV} {u:Value} (hc:VR r c u):∀ {a:List LV} {x:List Value},VRs r a x→VRs r (a.set i c) (x.set i u):=by
 intro a
 induction a generalizing i with
 | nil=>intro x h; simp only [VRs] at h; simp [h,VRs]
 | cons l ls ih =>
   intro x h
   simp only [VRs] at h; obtain⟨w,us,h1,h2,h3⟩:=h
   cases i with
   | zero=>simp only [List.set_cons_zero,VRs,h1]; exact⟨u,us,rfl,hc,h3⟩
   | succ i=>simp only [List.set_cons_succ,VRs,h1]; exact⟨w,us.set i u,rfl,h2,ih h3⟩
theorem VRs.mk {r:Ren}:∀ {a:List LV} {x:List Value},x.length=a.length→(∀ (i:Nat) l,a[i]? = some l→∃ u,x[i]? = some u∧VR r l u)→VRs r a x
 | [],x,hl,h=>by simp at hl; simp [hl,VRs]
 | l::ls,[],hl,h=>by simp at hl
 | l::ls,u::us,hl,h=>by
   simp only [VRs]
   refine⟨u,us,rfl,?_,VRs.mk (by simpa using hl) fun i c hi=>by simpa using h (i+1) c (by simpa using hi)⟩
   obtain⟨u',h1,h2⟩:=h 0 l (by simp)
   simp at h1; subst h1; exact h2
def f7f:Value→Nat
 | .slice _ n _=>n
 | _=>0
def f6h (v:Value) (i:Nat):Bool:=match v with
 | .slice (some ⟨_,_,none⟩) n _=>Nat.ble (i+1) n
 | _=>false
def f1u (v:Value) (l:Nat):Bool:=match v with
 | .slice _ n c=>Nat.ble l n && Nat.ble n c
 | _=>false
def d7l (v:Value) (size l:Nat):Value:=match v with
 | .slice a n c=>.slice (if c=l then a else a.map (·.add (l * size))) (n - l) (c - l)
 | v=>v
def LV.plain:LV→Bool
 | .agg _=>false
 | .tup _=>false
 | .any=>false
 | _=>true
abbrev OF:=List LV→World→World→Nat×Nat×Nat→(Nat→Prop)→Prop
def g1q:OF:=fun cs _ w x own=>∃ (l:List UInt8) (T e:Nat),cs=[.str l,.int .i64 T,.int .i64 e]∧x.2.1=0∧own x.1∧∃ p v,w.heap[x.1]? = some (.cells #[p,v] T (0,0))∧(p=.pointer none∨p=.pointer (some ⟨x.1,0,none⟩)) ∧
 ((v=.slice none 0 0∧l=[])∨∃ g cap cur,l≠[]∧v=.slice (some ⟨g,0,none⟩) l.length cap∧g≠x.1∧own g∧w.heap[g]? = some (.cells cur e (0,0))∧l.length≤cap∧cap≤maxLen∧cur.size=cap * 1∧cur.toList.take (l.length * 1)=l.map fun b=>.int .u8 b.toNat)
def f6i:OF:=fun cs _ w _ _=>∃ F:World→Prop,cs=[.fact F]∧F w
structure OP where
 tag:Nat
 f:OF
 ok:tag=1→f=g1q
 ok2:tag=2→f=f6i
instance:CoeFun OP (fun _=>OF):=⟨OP.f⟩
def f6w:OP:=⟨1,g1q,fun _=>rfl,fun h=>absurd h (by decide)⟩
def OP.isSt (F:OP):Bool:=Nat.beq F.tag 2
theorem OP.isSt_eq {F:OP} (h:F.isSt=true):F.f=f6i:=F.ok2 (Nat.eq_of_beq_eq_true h)
def OP.isBld (F:OP):Bool:=Nat.beq F.tag 1
theorem OP.g9m {F:OP} (h:F.isBld=true):F.f=g1q:=F.ok (Nat.eq_of_beq_eq_true h)
inductive LB where
 | cells (cs:List LV) (op:Option Nat)
 | iter (s:List UInt8) (pos:Nat)
 | ro (cs:List LV)
 | obj (F:OP) (cs:List LV) (g:Nat)
 | dead
inductive Tr (α : Type) where
 | leaf
 | node (l:Tr α) (v:Option α) (r:Tr α)
variable {α : Type}
def Tr.get:Tr α→Nat→Option α
 | .leaf,_=>none
 | .node l v r,n=>cond (Nat.beq n 0) v (cond (Nat.beq (Nat.mod n 2) 1) (l.get (Nat.div (Nat.sub n 1) 2)) (r.get (Nat.div (Nat.sub n 1) 2)))
def Tr.set:Nat→Tr α→Nat→α→Option (Tr α)
 | 0,_,_,_=>none
 | d+1,.leaf,n,b =>
   cond (Nat.beq n 0) (some (.node .leaf (some b) .leaf)) <|
   cond (Nat.beq (Nat.mod n 2) 1)
    (match Tr.set d .leaf (Nat.div (Nat.sub n 1) 2) b with | some t=>some (.node t none .leaf) | none=>none)
    (match Tr.set d .leaf (Nat.div (Nat.sub n 1) 2) b with | some t=>some (.node .leaf none t) | none=>none)
 | d+1,.node l v r,n,b =>
   cond (Nat.beq n 0) (some (.node l (some b) r)) <|
   cond (Nat.beq (Nat.mod n 2) 1)
    (match Tr.set d l (Nat.div (Nat.sub n 1) 2) b with | some t=>some (.node t v r) | none=>none)
    (match Tr.set d r (Nat.div (Nat.sub n 1) 2) b with | some t=>some (.node l v t) | none=>none)
theorem a0t (a b:Nat):Nat.beq a b=decide (a=b):=by
 rw [Bool.eq_iff_iff]
 constructor
 ·intro h; simpa using Nat.eq_of_beq_eq_true h
 ·intro h
  have e:a=b:=by simpa using h
  rw [e]; exact Nat.beq_refl b
theorem d2h {n m:Nat} (hn:n≠0) (hm:m≠0) (hp:n % 2=m % 2) (h:(n - 1) / 2=(m - 1) / 2):n=m:=by omega
theorem Tr.g9l (m:Nat):Tr.get (.leaf:Tr α) m=none:=rfl
theorem Tr.g9j (l:Tr α) (v:Option α) (r:Tr α) (m:Nat):Tr.get (.node l v r) m=if m=0 then v else if m % 2=1 then l.get ((m - 1) / 2) else r.get ((m - 1) / 2):=by
 have e0:Nat.beq m 0=decide (m=0):=a0t m 0
 have e1:Nat.beq (Nat.mod m 2) 1=decide (m % 2=1):=by
  have:Nat.mod m 2=m % 2:=rfl
  rw [this]; exact a0t _ _
 have e2:Nat.div (Nat.sub m 1) 2=(m - 1) / 2:=rfl
 simp only [Tr.get,e0,e1,e2]
 by_cases h0:m=0 <;> by_cases h1:m % 2=1 <;> simp [h0,h1]
theorem Tr.h0n:∀ (d:Nat) (t:Tr α) (n:Nat) (b : α) (t':Tr α),Tr.set d t n b=some t'→∀ m,t'.get m=if m=n then some b else t.get m:=by
 intro d
 induction d with
 | zero=>intro t n b t' h; simp [Tr.set] at h
 | succ d ih =>
   intro t n b t' h m
   have e0:Nat.beq n 0=decide (n=0):=a0t n 0
   have e1:Nat.beq (Nat.mod n 2) 1=decide (n % 2=1):=by
    have:Nat.mod n 2=n % 2:=rfl
    rw [this]; exact a0t _ _
   have e2:Nat.div (Nat.sub n 1) 2=(n - 1) / 2:=rfl
   have key:∀ l v r,(cond (Nat.beq n 0) (some (.node l (some b) r)) (cond (Nat.beq (Nat.mod n 2) 1)
    (match Tr.set d l (Nat.div (Nat.sub n 1) 2) b with | some t=>some (Tr.node t v r) | none=>none)
    (match Tr.set d r (Nat.div (Nat.sub n 1) 2) b with | some t=>some (Tr.node l v t) | none=>none)))=some t' →
    t'.get m=if m=n then some b else Tr.get (.node l v r) m:=by
    intro l v r h
    simp only [e0,e1,e2] at h
    by_cases h0:n=0
    ·subst h0
     simp at h; subst h
     simp only [Tr.g9j]
     by_cases hm:m=0 <;> simp [hm]
    ·by_cases h1:n % 2=1
     ·simp only [h0,h1,decide_false,decide_true,cond_false,cond_true] at h
      cases hs:Tr.set d l ((n - 1) / 2) b with
      | none=>simp [hs] at h
      | some u =>
        simp [hs] at h; subst h
        have hu:=ih _ _ _ _ hs ((m - 1) / 2)
        simp only [Tr.g9j,hu]
        by_cases hm:m=n
        ·subst hm; simp [h0,h1]
        ·by_cases hm0:m=0
         ·subst hm0; simp [Ne.symm h0]
         ·by_cases hm1:m % 2=1
          ·have:(m - 1) / 2≠(n - 1) / 2:=fun e=>hm (d2h hm0 h0 (by omega) e)
           simp [hm,hm0,hm1,this]
          ·simp [hm,hm0,hm1]
     ·simp only [h0,h1,decide_false,cond_false] at h
      cases hs:Tr.set d r ((n - 1) / 2) b with
      | none=>simp [hs] at h
      | some u =>
        simp [hs] at h; subst h
        have hu:=ih _ _ _ _ hs ((m - 1) / 2)
        simp only [Tr.g9j,hu]
        by_cases hm:m=n
        ·subst hm; simp [h0,h1]
        ·by_cases hm0:m=0
         ·subst hm0; simp [Ne.symm h0]
         ·by_cases hm1:m % 2=1
          ·simp [hm,hm0,hm1]
          ·have:(m - 1) / 2≠(n - 1) / 2:=fun e=>hm (d2h hm0 h0 (by omega) e)
           simp [hm,hm0,hm1,this]
   cases t with
   | leaf =>
     have:=key .leaf none .leaf (by simpa [Tr.set] using h)
     rw [this]
     simp only [Tr.g9j,Tr.g9l]
     by_cases hm:m=n <;> simp [hm]
   | node l v r=>exact key l v r (by simpa [Tr.set] using h)
structure St where
 h:Tr LB
 n:Nat
 g:List (Nat×List LV)
end
section
open Go.RowKit
def nth:List LV→Nat→Option LV
 | [],_=>none
 | x::xs,n=>cond (Nat.beq n 0) (some x) (nth xs (Nat.sub n 1))
theorem b8m (a b:Nat):Nat.sub a b=a - b:=rfl
theorem b0s:∀ (l:List LV) (n:Nat),nth l n=l[n]?
 | [],n=>by simp [nth]
 | x::xs,0=>rfl
 | x::xs,n+1=>by
   have h:Nat.sub (n+1) 1=n:=rfl
   have h0:Nat.beq (n+1) 0=false:=rfl
   simp only [nth,h,h0,cond_false,List.getElem?_cons_succ]
   exact b0s xs n
def cut:List LV→Nat→Nat→Option (List LV)
 | [],o,n=>cond (Nat.beq n 0) (some []) none
 | x::xs,o,n =>
   cond (Nat.beq n 0) (some []) <|
   cond (Nat.beq o 0) (match cut xs 0 (Nat.sub n 1) with | some l=>some (x::l) | none=>none) (cut xs (Nat.sub o 1) n)
theorem a6m:∀ (l:List LV) (o n:Nat) (c:List LV),cut l o n=some c→c.length=n∧∀ i,i < n→c[i]? = l[o+i]?
 | [],o,n,c,h=>by
   simp only [cut,a0t] at h
   by_cases hn:n=0
   ·subst hn; simp at h; subst h; exact⟨rfl,fun i hi=>absurd hi (by omega)⟩
   ·simp [hn] at h
 | x::xs,o,n,c,h=>by
   simp only [cut,a0t,b8m] at h
   by_cases hn:n=0
   ·subst hn; simp at h; subst h; exact⟨rfl,fun i hi=>absurd hi (by omega)⟩
   ·simp only [hn,decide_false,cond_false] at h
    by_cases ho:o=0
    ·subst ho
     simp only [decide_true,cond_true] at h
     cases hc:cut xs 0 (n - 1) with
     | none=>simp [hc] at h
     | some d =>
       simp [hc] at h; subst h
       obtain⟨h1,h2⟩:=a6m xs 0 _ d hc
       refine⟨by simp [h1]; omega,fun i hi=>?_⟩
       cases i with
       | zero=>simp
       | succ i =>
         have:=h2 i (by omega)
         simp only [List.getElem?_cons_succ,this,Nat.zero_add]
    ·simp only [ho,decide_false,cond_false] at h
     obtain⟨h1,h2⟩:=a6m xs (o - 1) n c h
     refine⟨h1,fun i hi=>?_⟩
     rw [h2 i hi]
     have:o+i=(o - 1+i)+1:=by omega
     rw [this,List.getElem?_cons_succ]
def lay:List LV→Nat→List LV→Option (List LV)
 | l,_,[]=>some l
 | [],_,_::_=>none
 | x::xs,o,v::vs =>
   cond (Nat.beq o 0) (match lay xs 0 vs with | some l=>some (v::l) | none=>none)
    (match lay xs (Nat.sub o 1) (v::vs) with | some l=>some (x::l) | none=>none)
theorem b4d:∀ (l:List LV) (o:Nat) (vs c:List LV),lay l o vs=some c →
  c.length=l.length∧(vs≠[]→o+vs.length≤l.length)∧∀ i,c[i]? = if o≤i∧i < o+vs.length then vs[i - o]? else l[i]?
 | l,o,[],c,h=>by
   have:l=c:=by cases l <;> simpa [lay] using h
   subst this
   refine⟨rfl,fun h=>absurd rfl h,fun i=>?_⟩
   rw [if_neg (by simp)]
 | [],o,v::vs,c,h=>by simp [lay] at h
 | x::xs,o,v::vs,c,h=>by
   simp only [lay,a0t,b8m] at h
   by_cases ho:o=0
   ·subst ho
    simp only [decide_true,cond_true] at h
    cases hc:lay xs 0 vs with
    | none=>simp [hc] at h
    | some d =>
      simp [hc] at h; subst h
      obtain⟨h1,h2,h3⟩:=b4d xs 0 vs d hc
      refine⟨by simp [h1],fun _=>?_,fun i=>?_⟩
      ·by_cases hv:vs=[]
       ·simp [hv]
       ·have:=h2 hv; simp at this ⊢; omega
      ·cases i with
       | zero=>simp
       | succ i =>
         have:=h3 i
         simp only [List.getElem?_cons_succ,this,List.length_cons]
         by_cases hi:i < vs.length
         ·rw [if_pos (by omega),if_pos (by omega)]; simp
         ·rw [if_neg (by omega),if_neg (by omega)]
   ·simp only [ho,decide_false,cond_false] at h
    cases hc:lay xs (o - 1) (v::vs) with
    | none=>simp [hc] at h
    | some d =>
      simp [hc] at h; subst h
      obtain⟨h1,h2,h3⟩:=b4d xs (o - 1) (v::vs) d hc
      refine⟨by simp [h1],fun _=>?_,fun i=>?_⟩
      ·have:=h2 (by simp); simp at this ⊢; omega
      ·cases i with
       | zero=>rw [if_neg (by omega)]; simp
       | succ i =>
         have:=h3 i
         simp only [List.getElem?_cons_succ,this,List.length_cons]
         by_cases hi:o≤i+1∧i+1 < o+(vs.length+1)
         ·rw [if_pos (by omega),if_pos hi,show i+1 - o=i - (o - 1) by omega]
         ·rw [if_neg (by omega),if_neg hi]
def LB.live:LB→Bool
 | .dead=>false
 | .ro _=>false
 | _=>true
def St.lives (s:St) (b:Nat):Prop:=∃ L,s.h.get b=some L∧L.live=true
def a7u (cs:List LV) (op:Option Nat) (k:Nat):Nat :=
 match op with | none=>cs.length | some es=>k * es
structure c5k (r:Ren) (w:World) (x:Nat×Nat×Nat) (cs:List LV) (op:Option Nat):Prop where
 ex:∃ c e lo hi,w.heap[x.1]? = some (.cells c e (lo,hi)) ∧
  (∀ (i:Nat) l,cs[i]? = some l→l.plain=true∧∃ u,c[x.2.1+i]? = some u∧VR r l u) ∧
  (∀ i,i < a7u cs op x.2.2→¬ (lo≤x.2.1+i∧x.2.1+i < hi))∧x.2.1+a7u cs op x.2.2≤c.size ∧
  (∀ v∈c.toList,v.oneCell'=true)
 fits:cs.length≤a7u cs op x.2.2
def Gl (W0:World) (g:List (Nat×List LV)):Prop :=
 ∀ x∈g,(∃ F:World→Prop,x.2=[.fact F]∧F W0)∨∃ c e f,W0.heap[x.1]? = some (.cells c e f)∧∀ (i:Nat) l,x.2[i]? = some l→l.plain=true∧∃ u,c[i]? = some u∧∀ r,VR r l u
def f0m (W:World) (v:Value) (k:Nat) (cs:List LV):Prop:=∃ B o n c cc e f,v=.slice (some ⟨B,o,none⟩) n c∧W.heap[B]? = some (.cells cc e f)∧∀ (i:Nat) l,cs[i]? = some l→l.plain=true∧∃ u,cc[o+k+i]? = some u∧∀ r,VR r l u
def b3h:LV→Bool
 | .bool _=>true
 | .int _ _=>true
 | .str _=>true
 | .val _=>true
 | _=>false
def d3x (F:World→Prop) (v:Value) (k n:Nat):Prop:=∃ cs:List LV,cs.length=n∧cs.all b3h=true∧(∃ W,F W)∧∀ W,F W→f0m W v k cs
noncomputable def d5o (F:World→Prop) (v:Value) (k n:Nat):Bool:=@decide (d3x F v k n) (Classical.propDecidable _)
noncomputable def d3m (F:World→Prop) (v:Value) (k n:Nat):List LV:=match Classical.propDecidable (d3x F v k n) with
 | .isTrue h=>Classical.choose h
 | .isFalse _=>[]
theorem c0k {F:World→Prop} {v:Value} {k n:Nat} (h:d5o F v k n=true):(d3m F v k n).length=n∧(d3m F v k n).all b3h=true∧∀ W,F W→f0m W v k (d3m F v k n):=by
 have hp:d3x F v k n:=by
  unfold d5o at h
  exact @of_decide_eq_true _ (Classical.propDecidable _) h
 unfold d3m
 split
 ·rename_i h2 _; have:=Classical.choose_spec h2; exact⟨this.1,this.2.1,this.2.2.2⟩
 ·rename_i h2 _; exact absurd hp h2
def Own (r:Ren) (g B:Nat):Prop:=∃ y,r g=some y∧y.2.2.testBit B=true
def Hid (r:Ren) (s:St) (B:Nat):Prop:=∃ b F cs g,s.h.get b=some (.obj F cs g)∧Own r g B
def a2u (r:Ren) (s:St) (B:Nat):Prop:=(∃ b x,s.lives b∧r b=some x∧x.1=B)∨Hid r s B
structure c0d (W0:World) (r:Ren) (s:St) (w:World):Prop where
 holds:∀ b F cs g,s.h.get b=some (.obj F cs g)→∃ x,r b=some x∧Own r g x.1∧∀ w',Below W0.heap.size W0 w'→w.heap.size≤w'.heap.size→(∀ B,Own r g B→w'.heap[B]? = w.heap[B]?)→F cs W0 w' x (Own r g)
 inside:∀ B,Hid r s B→W0.heap.size≤B∧B < w.heap.size
 apart:∀ b F cs g b' x',s.h.get b=some (.obj F cs g)→s.lives b'→r b'=some x'→Own r g x'.1→b'=b
 two:∀ b F cs g b' F' cs' g' B,s.h.get b=some (.obj F cs g)→s.h.get b'=some (.obj F' cs' g')→Own r g B→Own r g' B→b=b'
theorem Own.mono {r r':Ren} (h:r.le r') {g B:Nat} (k:Own r g B):Own r' g B:=by
 obtain⟨y,h1,h2⟩:=k; exact⟨y,h _ _ h1,h2⟩
theorem Own.back {r r':Ren} (h:r.le r') {g B C:Nat} (e:Own r g C) (k:Own r' g B):Own r g B:=by
 obtain⟨y,h1,h2⟩:=e
 obtain⟨z,k1,k2⟩:=k
 have:=h _ _ h1
 rw [this] at k1; cases k1
 exact⟨y,h1,k2⟩
theorem c0d.none {W0:World} {r:Ren} {s:St} {w:World} (h:∀ b F cs g,s.h.get b≠some (.obj F cs g)):c0d W0 r s w :=
 ⟨fun b F cs g k=>absurd k (h _ _ _ _),fun B ⟨b,F,cs,g,k,_⟩=>absurd k (h _ _ _ _),fun b F cs g b' x' k=>absurd k (h _ _ _ _),fun b F cs g b' F' cs' g' B k=>absurd k (h _ _ _ _)⟩
theorem c0d.clear {W0:World} {r:Ren} {s:St} {w:World} (h:c0d W0 r s w) {b:Nat} {x:Nat×Nat×Nat} (hl:s.lives b) (hx:r b=some x) (hb:∀ F cs g,s.h.get b≠some (.obj F cs g)):¬ Hid r s x.1:=by
 rintro⟨b1,F,cs,g,h1,h2⟩
 have:=h.apart b1 F cs g b x h1 hl hx h2
 subst this
 exact hb _ _ _ h1
theorem c0d.far {W0:World} {r:Ren} {s:St} {w:World} (h:c0d W0 r s w) {B:Nat} (hB:w.heap.size≤B):¬ Hid r s B:=fun k=>by have:=(h.inside B k).2; omega
theorem c0d.step {W0:World} {r r':Ren} {s s':St} {w w':World} (h:c0d W0 r s w) (hle:r.le r') (hob:∀ b F cs g,s'.h.get b=some (.obj F cs g)→s.h.get b=some (.obj F cs g))
  (hl:∀ b x,s'.lives b→r' b=some x→(s.lives b∧r b=some x)∨¬ Hid r s x.1) (hsz:w.heap.size≤w'.heap.size) (hk:∀ B,Hid r s B→w'.heap[B]? = w.heap[B]?):c0d W0 r' s' w':=by
 have hbk:∀ b F cs g B,s'.h.get b=some (.obj F cs g)→Own r' g B→Own r g B:=fun b F cs g B hb k=>by
  obtain⟨x,h1,h2,_⟩:=h.holds b F cs g (hob _ _ _ _ hb)
  exact h2.back hle k
 refine⟨fun b F cs g hb=>?_,fun B hB=>?_,fun b F cs g b' x' hb hl' hx' hO=>?_,fun b F cs g b' F' cs' g' B hb hb' h1 h2=>?_⟩
 ·obtain⟨x,h1,h2,h3⟩:=h.holds b F cs g (hob _ _ _ _ hb)
  refine⟨x,hle _ _ h1,h2.mono hle,fun w2 g1 g2 g3=>?_⟩
  have e:Own r' g=Own r g:=funext fun B=>propext ⟨hbk b F cs g B hb,Own.mono hle⟩
  rw [e]
  exact h3 w2 g1 (Nat.le_trans hsz g2) fun B hB=>by rw [g3 B (hB.mono hle)]; exact hk B ⟨b,F,cs,g,hob _ _ _ _ hb,hB⟩
 ·obtain⟨b,F,cs,g,h1,h2⟩:=hB
  have:=h.inside B ⟨b,F,cs,g,hob _ _ _ _ h1,hbk b F cs g B h1 h2⟩
  omega
 ·have hO':=hbk b F cs g _ hb hO
  rcases hl b' x' hl' hx' with⟨k1,k2⟩ | k
  ·exact h.apart b F cs g b' x' (hob _ _ _ _ hb) k1 k2 hO'
  ·exact absurd ⟨b,F,cs,g,hob _ _ _ _ hb,hO'⟩ k
 ·exact h.two b F cs g b' F' cs' g' B (hob _ _ _ _ hb) (hob _ _ _ _ hb') (hbk _ _ _ _ _ hb h1) (hbk _ _ _ _ _ hb' h2)
theorem a2u.step {W0:World} {r r':Ren} {s s':St} {w:World} (h:c0d W0 r s w) (hle:r.le r') (hob:∀ b F cs g,s'.h.get b=some (.obj F cs g)→s.h.get b=some (.obj F cs g))
  (hl:∀ b x,s'.lives b→r' b=some x→x.1 < w.heap.size→∃ b0 x0,s.lives b0∧r b0=some x0∧x0.1=x.1):∀ B,B < w.heap.size→a2u r' s' B→a2u r s B:=by
 rintro B hB (⟨b,x,h1,h2,rfl⟩ | ⟨b,F,cs,g,h1,h2⟩)
 ·exact .inl (hl b x h1 h2 hB)
 ·obtain⟨x,k1,k2,_⟩:=h.holds b F cs g (hob _ _ _ _ h1)
  exact .inr ⟨b,F,cs,g,hob _ _ _ _ h1,k2.back hle h2⟩
structure Inv (W0:World) (r:Ren) (s:St) (w:World):Prop where
 below:Below W0.heap.size W0 w
 dom:∀ b x,r b=some x→b < s.n∧x.1 < w.heap.size
 own:∀ b x,s.lives b→r b=some x→W0.heap.size≤x.1
 fresh:∀ b,s.n≤b→s.h.get b=none
 inj:∀ b b' x x',s.lives b→s.lives b'→r b=some x→r b'=some x'→x.1=x'.1→b=b'
 cells:∀ b cs op,s.h.get b=some (.cells cs op)→(cs=[]∧r b=none)∨∃ x,r b=some x∧c5k r w x cs op
 iter:∀ b t p,s.h.get b=some (.iter t p)→∃ x,r b=some x∧x.2.1=0∧w.heap[x.1]? = some (.stringIter ⟨t.toArray⟩ p)
 gl:Gl W0 s.g
 ro:∀ b cs,s.h.get b=some (.ro cs)→(cs=[]∧r b=none)∨∃ x,r b=some x∧∃ c e f,W0.heap[x.1]? = some (.cells c e f)∧∀ (i:Nat) l,cs[i]? = some l→l.plain=true∧∃ u,c[x.2.1+i]? = some u∧VR r l u
 ob:c0d W0 r s w
structure Ext (r:Ren) (s:St) (w:World) (r':Ren) (s':St) (w':World):Prop where
 le:r.le r'
 n:s.n≤s'.n
 size:w.heap.size≤w'.heap.size
 img:∀ B,B < w.heap.size→a2u r' s' B→a2u r s B
 keep:∀ B,B < w.heap.size→¬ a2u r s B→w'.heap[B]? = w.heap[B]?
theorem Ext.refl (r:Ren) (s:St) (w:World):Ext r s w r s w :=
 ⟨r.le_refl,Nat.le_refl _,Nat.le_refl _,fun B _ h=>h,fun _ _ _=>rfl⟩
theorem Ext.trans {r r' r'':Ren} {s s' s'':St} {w w' w'':World} (h:Ext r s w r' s' w') (k:Ext r' s' w' r'' s'' w''):Ext r s w r'' s'' w'':=by
 refine⟨r.le_trans h.le k.le,Nat.le_trans h.n k.n,Nat.le_trans h.size k.size,fun B hB ho=>h.img B hB (k.img B (Nat.lt_of_lt_of_le hB h.size) ho),fun B hB hno=>?_⟩
 rw [k.keep B (Nat.lt_of_lt_of_le hB h.size) fun ho=>hno (h.img B hB ho),h.keep B hB hno]
def a1s (r:Ren) (s:St) (b B:Nat):Prop:=(s.lives b∧∃ x,r b=some x∧x.1=B)∨∃ F cs g,s.h.get b=some (.obj F cs g)∧Own r g B
theorem a2u.by {r:Ren} {s:St} {B:Nat} (h:a2u r s B):∃ b,a1s r s b B:=by
 rcases h with⟨b,x,h1,h2,h3⟩ | ⟨b,F,cs,g,h1,h2⟩
 ·exact⟨b,.inl ⟨h1,x,h2,h3⟩⟩
 ·exact⟨b,.inr ⟨F,cs,g,h1,h2⟩⟩
theorem a1s.owned {r:Ren} {s:St} {b B:Nat} (h:a1s r s b B):a2u r s B:=by
 rcases h with⟨h1,x,h2,h3⟩ | ⟨F,cs,g,h1,h2⟩
 ·exact .inl ⟨b,x,h1,h2,h3⟩
 ·exact .inr ⟨b,F,cs,g,h1,h2⟩
theorem Inv.one_owner {W0:World} {r:Ren} {s:St} {w:World} (h:Inv W0 r s w) {b b' B:Nat} (k:a1s r s b B) (k':a1s r s b' B):b=b':=by
 rcases k with⟨h1,x,h2,rfl⟩ | ⟨F,cs,g,h1,h2⟩ <;> rcases k' with⟨h1',x',h2',h3'⟩ | ⟨F',cs',g',h1',h2'⟩
 ·exact h.inj b b' x x' h1 h1' h2 h2' h3'.symm
 ·exact h.ob.apart b' _ _ _ b x h1' h1 h2 h2'
 ·exact(h.ob.apart b _ _ _ b' x' h1 h1' h2' (by rw [h3']; exact h2)).symm
 ·exact h.ob.two b _ _ _ b' _ _ _ B h1 h1' h2 h2'
theorem Inv.owned_in {W0:World} {r:Ren} {s:St} {w:World} (h:Inv W0 r s w) {B:Nat} (k:a2u r s B):W0.heap.size≤B∧B < w.heap.size:=by
 rcases k with⟨b,x,h1,h2,rfl⟩ | k
 ·exact⟨h.own b x h1 h2,(h.dom b x h2).2⟩
 ·exact h.ob.inside B k
theorem Inv.unowned {W0:World} {r:Ren} {s:St} {w:World} (h:Inv W0 r s w) {B:Nat} (hB:w.heap.size≤B):¬ a2u r s B:=by
 rintro(⟨b,x,_,h1,rfl⟩ | h1)
 ·have:=(h.dom b x h1).2; omega
 ·exact h.ob.far hB h1
theorem Inv.draw {W0:World} {r:Ren} {s:St} {w:World} (h:Inv W0 r s w) (n:Nat):Inv W0 r s { w with drawn:=n } :=
 ⟨⟨h.below.os,h.below.tape,h.below.output,h.below.size,h.below.block⟩,h.dom,h.own,h.fresh,h.inj,
  fun b cs op hb=>(h.cells b cs op hb).imp id fun⟨x,h1,h2⟩=>⟨x,h1,⟨h2.ex,h2.fits⟩⟩,h.iter,h.gl,h.ro,h.ob.step r.le_refl (fun _ _ _ _ k=>k) (fun _ _ k1 k2=>.inl ⟨k1,k2⟩) (Nat.le_refl _) (fun _ _=>rfl)⟩
theorem Ext.draw {r:Ren} {s:St} {w:World} (n:Nat):Ext r s w r s { w with drawn:=n } :=
 ⟨r.le_refl,Nat.le_refl _,Nat.le_refl _,fun B _ h=>h,fun _ _ _=>rfl⟩
theorem VR.one {r:Ren} {l:LV} {v:Value} (h:VR r l v) (hp:l.plain=true):v.oneCell'=true:=by
 cases l <;> simp only [VR,LV.plain] at h hp <;> first
  | (cases hp; done)
  | (subst h; rfl)
  | (obtain⟨h1,a,n,c,h2⟩:=h; subst h2; rfl)
  | (rcases h with⟨B,w,c,h1,h3,h2⟩ | ⟨_,h | ⟨a,h⟩⟩ <;> first | (subst h2; rfl) | (subst h; rfl))
  | (rcases h with h | ⟨a,h⟩ <;> subst h <;> rfl)
  | (rcases h with h | h <;> subst h <;> rfl)
  | (rcases h with h | h <;> subst h <;> rfl)
  | (obtain⟨B,w,c,h1,h2⟩:=h; subst h2; rfl)
  | (obtain⟨B,w,c,h1,h3,h2⟩:=h; subst h2; rfl)
  | (obtain⟨u,h1,h2⟩:=h; subst h1; rfl)
  | (obtain⟨u,h1,h2⟩:=h; subst h2; rfl)
def Ren.put (r:Ren) (n:Nat) (x:Nat×Nat×Nat):Ren:=fun b=>if b=n then some x else r b
theorem Ren.h0h {W0:World} {r:Ren} {s:St} {w:World} (h:Inv W0 r s w) (x:Nat×Nat×Nat):r.le (r.put s.n x):=by
 intro b y hb
 have:=(h.dom b y hb).1
 simp [Ren.put,show b≠s.n by omega,hb]
def St.new (s:St) (b:LB):Option St :=
 match s.h.set 24 s.n b with | some t=>some ⟨t,Nat.succ s.n,s.g⟩ | none=>none
theorem St.g9i {s s':St} {b:LB} (h:s.new b=some s'):s'.g=s.g:=by
 unfold St.new at h
 cases ht:s.h.set 24 s.n b with
 | none=>simp [ht] at h
 | some t=>simp [ht] at h; subst h; rfl
theorem St.g9g {s s':St} {b:LB} (h:s.new b=some s'):s'.n=s.n+1∧∀ m,s'.h.get m=if m=s.n then some b else s.h.get m:=by
 unfold St.new at h
 cases ht:s.h.set 24 s.n b with
 | none=>simp [ht] at h
 | some t=>simp [ht] at h; subst h; exact⟨rfl,Tr.h0n _ _ _ _ _ ht⟩
theorem c5k.mono {r r':Ren} {w w':World} {x:Nat×Nat×Nat} {cs:List LV} {op:Option Nat} (h:c5k r w x cs op) (hr:r.le r') (hw:w'.heap[x.1]? = w.heap[x.1]?):c5k r' w' x cs op:=by
 obtain⟨⟨c,e,lo,hi,h1,h2,h3,h4,h5⟩,h6⟩:=h
 refine⟨⟨c,e,lo,hi,by rw [hw]; exact h1,fun i l hl=>?_,h3,h4,h5⟩,h6⟩
 obtain⟨g1,u,g2,g3⟩:=h2 i l hl
 exact⟨g1,u,g2,g3.mono hr⟩
theorem Inv.new {W0:World} {r:Ren} {s s':St} {w:World} (h:Inv W0 r s w) {b:LB} (hs:s.new b=some s') (o:Obj) (k:Nat)
  (hc:∀ cs op,b=.cells cs op→c5k (r.put s.n (w.heap.size,0,k)) { w with heap:=w.heap.push o } (w.heap.size,0,k) cs op)
  (hi:∀ t p,b=.iter t p→o=.stringIter ⟨t.toArray⟩ p) (hro:∀ cs,b≠.ro cs) (hno:∀ F cs g,b≠.obj F cs g) :
  Inv W0 (r.put s.n (w.heap.size,0,k)) s' { w with heap:=w.heap.push o }∧Ext r s w (r.put s.n (w.heap.size,0,k)) s' { w with heap:=w.heap.push o }:=by
 obtain⟨hn,hg⟩:=St.g9g hs
 have hle:=Ren.h0h h (w.heap.size,0,k)
 have hdom:∀ b x,r b=some x→b≠s.n:=fun b x hb=>by have:=(h.dom b x hb).1; omega
 have hheap:∀ B,B < w.heap.size→(w.heap.push o)[B]? = w.heap[B]?:=fun B hB=>by rw [Array.getElem?_push,if_neg (by omega)]
 have hW:=h.below.size
 have lives:∀ b,s'.lives b→b≠s.n→s.lives b:=fun b ⟨L,h1,h2⟩ hb=>⟨L,by rw [hg,if_neg hb] at h1; exact h1,h2⟩
 have hob:∀ b' F cs g,s'.h.get b'=some (.obj F cs g)→s.h.get b'=some (.obj F cs g):=fun b' F cs g k=>by
  rw [hg] at k
  by_cases e:b'=s.n
  ·rw [if_pos e] at k; simp at k; exact absurd k (hno F cs g)
  ·rwa [if_neg e] at k
 have hll:∀ b x,s'.lives b→r.put s.n (w.heap.size,0,k) b=some x→(s.lives b∧r b=some x)∨x.1=w.heap.size:=fun b x hb hx=>by
  by_cases e:b=s.n
  ·simp [Ren.put,e] at hx; subst hx; exact .inr rfl
  ·simp [Ren.put,e] at hx
   exact .inl ⟨lives b hb e,hx⟩
 refine⟨⟨?_,?_,?_,?_,?_,?_,?_,by rw [St.g9i hs]; exact h.gl,?_,h.ob.step hle hob (fun b x k1 k2=>(hll b x k1 k2).imp id fun e=>h.ob.far (by omega)) (by simp) fun B hB=>hheap B (h.ob.inside B hB).2⟩,
  ⟨hle,by omega,by simp,a2u.step h.ob hle hob fun b x k1 k2 k3=>(hll b x k1 k2).elim (fun k=>⟨b,x,k.1,k.2,rfl⟩) fun e=>by omega,fun B hB _=>hheap B hB⟩⟩
 ·exact h.below.trans ⟨rfl,rfl,rfl,by simp,fun B hB=>hheap B (by omega)⟩
 ·intro b x hb
  by_cases e:b=s.n
  ·simp [Ren.put,e] at hb; subst hb; simp; omega
  ·simp [Ren.put,e] at hb
   have:=h.dom b x hb
   simp; omega
 ·intro b x hl hb
  by_cases e:b=s.n
  ·simp [Ren.put,e] at hb; subst hb; simpa using hW
  ·simp [Ren.put,e] at hb
   exact h.own b x (lives b hl e) hb
 ·intro b hb
  rw [hg,if_neg (by omega)]
  exact h.fresh b (by omega)
 ·intro b b' x x' hb hb' hx hx' he
  by_cases e:b=s.n <;> by_cases e':b'=s.n
  ·omega
  ·simp [Ren.put,e] at hx; simp [Ren.put,e'] at hx'
   have:=(h.dom b' x' hx').2
   subst hx; simp at he; omega
  ·simp [Ren.put,e] at hx; simp [Ren.put,e'] at hx'
   have:=(h.dom b x hx).2
   subst hx'; simp at he; omega
  ·simp [Ren.put,e] at hx; simp [Ren.put,e'] at hx'
   exact h.inj b b' x x' (lives b hb e) (lives b' hb' e') hx hx' he
 ·intro b' cs op hb
  rw [hg] at hb
  by_cases e:b'=s.n
  ·subst e
   simp at hb
   exact .inr ⟨_,by simp [Ren.put],hc cs op hb⟩
  ·rw [if_neg e] at hb
   rcases h.cells b' cs op hb with⟨h1,h2⟩ | ⟨x,h1,h2⟩
   ·exact .inl ⟨h1,by simp [Ren.put,e,h2]⟩
   ·exact .inr ⟨x,hle _ _ h1,h2.mono hle (hheap _ (h.dom _ _ h1).2)⟩
 ·intro b' t p hb
  rw [hg] at hb
  by_cases e:b'=s.n
  ·subst e
   simp at hb
   exact⟨_,by simp [Ren.put]; rfl,rfl,by simp [hi t p hb]⟩
  ·rw [if_neg e] at hb
   obtain⟨x,h1,h0,h2⟩:=h.iter b' t p hb
   exact⟨x,hle _ _ h1,h0,by rw [← h2]; exact hheap _ (h.dom _ _ h1).2⟩
 ·intro b' cs hb
  rw [hg] at hb
  by_cases e:b'=s.n
  ·subst e; simp at hb; exact absurd hb (hro cs)
  ·rw [if_neg e] at hb
   rcases h.ro b' cs hb with⟨h1,h2⟩ | ⟨x,h1,c,e',f,h2,h3⟩
   ·exact .inl ⟨h1,by simp [Ren.put,e,h2]⟩
   exact .inr ⟨x,hle _ _ h1,c,e',f,h2,fun i l hl=>let ⟨k1,u,k2,k3⟩:=h3 i l hl; ⟨k1,u,k2,k3.mono hle⟩⟩
theorem Inv.newNil {W0:World} {r:Ren} {s s':St} {w:World} (h:Inv W0 r s w) {op:Option Nat} (hs:s.new (.cells [] op)=some s'):Inv W0 r s' w∧Ext r s w r s' w:=by
 obtain⟨hn,hg⟩:=St.g9g hs
 have hrn:r s.n=none:=by
  cases e:r s.n with
  | none=>rfl
  | some x=>have:=(h.dom _ _ e).1; omega
 have hget:∀ b L,s'.h.get b=some L→s.h.get b=some L∨(b=s.n∧L=.cells [] op):=fun b L k=>by
  rw [hg] at k
  by_cases e:b=s.n
  ·rw [if_pos e] at k; exact .inr ⟨e,(Option.some.inj k).symm⟩
  ·rw [if_neg e] at k; exact .inl k
 have hlv:∀ b x,s'.lives b→r b=some x→s.lives b:=fun b x ⟨L,h1,h2⟩ hx=>by
  rcases hget b L h1 with k | ⟨k,_⟩
  ·exact⟨L,k,h2⟩
  ·subst k; rw [hrn] at hx; cases hx
 have hob:∀ b F cs g,s'.h.get b=some (.obj F cs g)→s.h.get b=some (.obj F cs g):=fun b F cs g hb=>by
  rcases hget b _ hb with k | ⟨_,k⟩
  ·exact k
  ·cases k
 refine⟨⟨h.below,fun b x hb=>by have:=h.dom b x hb; exact⟨by omega,this.2⟩,fun b x hl hb=>h.own b x (hlv b x hl hb) hb,fun b hb=>by rw [hg,if_neg (by omega)]; exact h.fresh b (by omega),fun b b' x x' l l' e e' he=>h.inj b b' x x' (hlv b x l e) (hlv b' x' l' e') e e' he,fun b cs op' hb=>?_,fun b t p hb=>?_,by rw [St.g9i hs]; exact h.gl,fun b cs hb=>?_,h.ob.step r.le_refl hob (fun b x l e=>.inl ⟨hlv b x l e,e⟩) (Nat.le_refl _) fun _ _=>rfl⟩,
  ⟨r.le_refl,by omega,Nat.le_refl _,a2u.step h.ob r.le_refl hob fun b x l e _=>⟨b,x,hlv b x l e,e,rfl⟩,fun _ _ _=>rfl⟩⟩
 ·rcases hget b _ hb with k | ⟨k1,k2⟩
  ·exact h.cells b cs op' k
  ·cases k2; subst k1; exact .inl ⟨rfl,hrn⟩
 ·rcases hget b _ hb with k | ⟨_,k⟩
  ·exact h.iter b t p k
  ·cases k
 ·rcases hget b _ hb with k | ⟨_,k⟩
  ·exact h.ro b cs k
  ·cases k
end
section
open Go.RowKit
variable {P:Program}
def b8l (P:Program) (t:TypeId):Option Bool :=
 match P.underlying t with
 | some (.struct _)=>some true
 | some (.array _ _)=>some true
 | some _=>some false
 | none=>none
def a1g (P:Program) (t:TypeId):Option Nat:=match P.info? t with | some i=>some i.size | none=>none
def a8m (P:Program) (t:TypeId):Option Nat:=match P.info? t with | some i=>some i.bytes | none=>none
def a9g (P:Program) (t:TypeId):Option Value:=match P.info? t with | some i=>i.zero | none=>none
theorem a5d {t:TypeId} {b:Bool} (h:b8l P t=some b) (w:World):(isAgg t).run P w=.ok b w:=by
 unfold b8l at h
 cases hu:P.underlying t with
 | none=>simp [hu] at h
 | some d=>rw [hu] at h; cases d <;> simp at h <;> subst h <;> simp [isAgg,underlying,hu]
theorem a0m {t:TypeId} {n:Nat} (h:a1g P t=some n) (w:World):(sizeOf t).run P w=.ok n w:=by
 unfold a1g at h
 cases hi:P.info? t with
 | none=>simp [hi] at h
 | some i=>simp [hi] at h; simp [sizeOf,typeInfo,hi,h]
theorem b7j {t:TypeId} {n:Nat} (h:a8m P t=some n) (w:World):∃ i,(typeInfo t).run P w=.ok i w∧i.bytes=n:=by
 unfold a8m at h
 cases hi:P.info? t with
 | none=>simp [hi] at h
 | some i=>simp [hi] at h; exact⟨i,by simp [typeInfo,hi],h⟩
theorem b2a {t:TypeId} {v:Value} (h:a9g P t=some v) (w:World):(zeroValue t).run P w=.ok v w:=by
 unfold a9g at h
 cases hi:P.info? t with
 | none=>simp [hi] at h
 | some i=>simp [hi] at h; simp [zeroValue,typeInfo,hi,h]
theorem a0h {t:TypeId} {d:TypeDesc} (h:P.underlying t=some d) (w:World):(underlying t).run P w=.ok d w:=by simp [underlying,h]
theorem a9r {t:TypeId} {d:TypeInfo} (h:P.info? t=some d) (w:World):(typeInfo t).run P w=.ok d w:=by simp [typeInfo,h]
def St.look (s:St) (b:Nat):Option (List LV):=match s.h.get b with | some (.cells cs _)=>some cs | some (.ro cs)=>some cs | _=>none
theorem Inv.cell {W0:World} {r:Ren} {s:St} {w:World} (h:Inv W0 r s w) {b:Nat} {cs:List LV} (hb:s.look b=some cs)
  {x:Nat×Nat×Nat} (hx:r b=some x) {o:Nat} {l:LV} (hl:cs[o]? = some l):l.plain=true∧∃ u,w.cell? ⟨x.1,x.2.1+o,none⟩=some u∧VR r l u:=by
 unfold St.look at hb
 cases hg:s.h.get b with
 | none=>simp [hg] at hb
 | some L =>
   cases L with
   | cells ds op =>
     simp [hg] at hb; subst hb
     rcases h.cells b ds op hg with⟨_,h0⟩ | ⟨y,hy,⟨c,e,lo,hi,h1,h2,h3,h4,h5⟩,h6⟩
     ·rw [h0] at hx; cases hx
     rw [hx] at hy; cases hy
     obtain⟨g1,u,g2,g3⟩:=h2 o l hl
     exact⟨g1,u,by simp [World.cell?,h1,g2],g3⟩
   | ro ds =>
     simp [hg] at hb; subst hb
     rcases h.ro b ds hg with⟨_,h0⟩ | ⟨y,hy,c,e,f,h1,h2⟩
     ·rw [h0] at hx; cases hx
     rw [hx] at hy; cases hy
     obtain⟨g1,u,g2,g3⟩:=h2 o l hl
     have hlt:=(Array.getElem?_eq_some_iff.1 h1).1
     exact⟨g1,u,by simp [World.cell?,h.below.block _ hlt,h1,g2],g3⟩
   | iter t p=>simp [hg] at hb
   | dead=>simp [hg] at hb
   | obj F cs g=>simp [hg] at hb
theorem Inv.loadCells {W0:World} {r:Ren} {s:St} {w:World} (h:Inv W0 r s w) {b:Nat} {cs:List LV} (hb:s.look b=some cs)
  {x:Nat×Nat×Nat} (hx:r b=some x) {o n:Nat} {c:List LV} (hc:cut cs o n=some c) :
  ∃ us,VRs r c us∧(∀ l∈c,l.plain=true)∧(loadCells ⟨x.1,x.2.1+o,none⟩ n).run P w=.ok us.toArray w:=by
 obtain⟨hlen,hget⟩:=a6m cs o n c hc
 have hcell:∀ i,i < n→∃ l u,c[i]? = some l∧l.plain=true∧w.cell? ⟨x.1,x.2.1+o+i,none⟩=some u∧VR r l u:=by
  intro i hi
  have hl:c[i]? = some (c[i]'(by omega)):=List.getElem?_eq_getElem (by omega)
  have:=hget i hi
  rw [hl] at this
  obtain⟨g1,u,g2,g3⟩:=h.cell hb hx this.symm
  exact⟨_,u,hl,g1,by rw [Nat.add_assoc]; exact g2,g3⟩
 let us:List Value:=(List.range n).map fun i=>(w.cell? ⟨x.1,x.2.1+o+i,none⟩).getD undef
 have hus:∀ i,i < n→us[i]? = w.cell? ⟨x.1,x.2.1+o+i,none⟩:=by
  intro i hi
  obtain⟨l,u,_,_,g,_⟩:=hcell i hi
  simp [us,hi,g]
 have hul:us.length=n:=by simp [us]
 refine⟨us,VRs.mk (by rw [hul,hlen]) fun i l hl=>?_,fun l hl=>?_,?_⟩
 ·have hi:i < n:=by
   rw [← hlen]; exact(List.getElem?_eq_some_iff.1 hl).1
  obtain⟨l',u,g1,g2,g3,g4⟩:=hcell i hi
  rw [g1] at hl; cases hl
  exact⟨u,by rw [hus i hi,g3],g4⟩
 ·obtain⟨i,hi,rfl⟩:=List.getElem_of_mem hl
  obtain⟨l',u,g1,g2,g3,g4⟩:=hcell i (by omega)
  rw [List.getElem?_eq_getElem hi] at g1; cases g1
  exact g2
 ·have:=run_loadCells_list (P:=P) w ⟨x.1,x.2.1+o,none⟩ us fun j v hj=>by
   have hi:j < n:=by rw [← hul]; exact(List.getElem?_eq_some_iff.1 hj).1
   rw [hus j hi] at hj
   have:(⟨x.1,x.2.1+o,none⟩:Addr).add j=⟨x.1,x.2.1+o+j,none⟩:=by unfold Addr.add; split <;> simp_all
   rw [this]; exact hj
  rwa [hul] at this
theorem b1d (B:Nat) (e:TypeId) (f:Nat×Nat):∀ (us:List Value) (p:Nat) (w:World) (c:Array Value),w.heap[B]? = some (.cells c e f)→p+us.length≤c.size →
  ∃ c',(w.setCells B p us).heap[B]? = some (.cells c' e f)∧c'.size=c.size∧(∀ j,c'[j]? = if p≤j∧j < p+us.length then us[j - p]? else c[j]?) ∧
    (∀ B',B'≠B→(w.setCells B p us).heap[B']? = w.heap[B']?)∧(w.setCells B p us).heap.size=w.heap.size ∧
    (w.setCells B p us).os=w.os∧(w.setCells B p us).tape=w.tape∧(w.setCells B p us).output=w.output
 | [],p,w,c,h,hl=>⟨c,h,rfl,fun j=>by rw [if_neg (by simp)],fun _ _=>rfl,rfl,rfl,rfl,rfl⟩
 | u::us,p,w,c,h,hl=>by
   simp only [List.length_cons] at hl
   have h1:(w.setCell ⟨B,p,none⟩ u).heap[B]? = some (.cells (c.setIfInBounds p u) e f):=by
    simp [World.setCell,Array.getElem?_modify,h]
   obtain⟨c',g1,g2,g3,g4,g5,g6,g7,g8⟩:=b1d B e f us (p+1) _ _ h1 (by simp; omega)
   refine⟨c',g1,by rw [g2]; simp,fun j=>?_,fun B' hB=>?_,?_,by rw [World.setCells,g6]; rfl,by rw [World.setCells,g7]; rfl,by rw [World.setCells,g8]; rfl⟩
   ·rw [g3]
    by_cases hj:j=p
    ·subst hj
     rw [if_neg (by omega),if_pos (by simp)]
     rw [Array.getElem?_setIfInBounds_self_of_lt (by omega)]
     simp
    ·by_cases hin:p+1≤j∧j < p+1+us.length
     ·rw [if_pos hin,if_pos (by simp; omega)]
      rw [show j - p=(j - (p+1))+1 by omega,List.getElem?_cons_succ]
     ·rw [if_neg hin,if_neg (by simp; omega),Array.getElem?_setIfInBounds_ne (by omega)]
   ·rw [World.setCells,g4 B' hB]
    simp [World.setCell,Array.getElem?_modify,Ne.symm hB]
   ·rw [World.setCells,g5]; simp [World.setCell]
def St.put (s:St) (b:Nat) (L:LB):Option St :=
 match s.h.set 24 b L with | some t=>some ⟨t,s.n,s.g⟩ | none=>none
theorem St.g9q {s s':St} {b:Nat} {L:LB} (h:s.put b L=some s'):s'.g=s.g:=by
 unfold St.put at h
 cases ht:s.h.set 24 b L with
 | none=>simp [ht] at h
 | some t=>simp [ht] at h; subst h; rfl
theorem St.g9x {s s':St} {b:Nat} {L:LB} (h:s.put b L=some s'):s'.n=s.n∧∀ m,s'.h.get m=if m=b then some L else s.h.get m:=by
 unfold St.put at h
 cases ht:s.h.set 24 b L with
 | none=>simp [ht] at h
 | some t=>simp [ht] at h; subst h; exact⟨rfl,Tr.h0n _ _ _ _ _ ht⟩
theorem a6o {a b:List LV} {op:Option Nat} {k:Nat} (h:a.length=b.length):a7u a op k=a7u b op k:=by
 cases op <;> simp [a7u,h]
theorem Inv.storeCells {W0:World} {r:Ren} {s s':St} {w:World} (h:Inv W0 r s w) {b:Nat} {cs cs' vs:List LV} {us:List Value} {op:Option Nat} (hb:s.h.get b=some (.cells cs op))
  {x:Nat×Nat×Nat} (hx:r b=some x) {o:Nat} (hl:lay cs o vs=some cs') (hp:∀ l∈vs,l.plain=true) (hv:VRs r vs us) (hs:s.put b (.cells cs' op)=some s') :
  ∃ w',(storeCells ⟨x.1,x.2.1+o,none⟩ us).run P w=.ok () w'∧Inv W0 r s' w'∧Ext r s w r s' w':=by
 obtain⟨hn,hg⟩:=St.g9x hs
 obtain⟨q1,q2,q3⟩:=b4d _ _ _ _ hl
 have hul:=hv.length
 rcases h.cells b cs op hb with⟨_,h0⟩ | ⟨y,hy,⟨c,e,lo,hi,h1,h2,h3,h4,h5⟩,h6⟩
 ·rw [h0] at hx; cases hx
 rw [hx] at hy; cases hy
 have hin:vs≠[]→x.2.1+o+us.length≤c.size:=fun hne=>by have:=q2 hne; omega
 have hone:∀ v∈us,v.oneCell'=true:=by
  intro v hv'
  obtain⟨i,hi,rfl⟩:=List.getElem_of_mem hv'
  have hlt:i < vs.length:=by omega
  obtain⟨u,g1,g2⟩:=hv.get (List.getElem?_eq_getElem hlt)
  rw [List.getElem?_eq_getElem hi] at g1; cases g1
  exact g2.one (hp _ (List.getElem_mem hlt))
 have hne':∀ j,j < us.length→vs≠[]:=fun j hj e=>by
  rw [e] at hul; simp at hul; rw [hul] at hj; simp at hj
 have hrun:=run_storeCells_cells (P:=P) x.1 (x.2.1+o) us 0 w
  (fun j hj=>by
   have:=hin (hne' j hj)
   have hlt:x.2.1+o+j < c.size:=by omega
   simp only [World.cell?,h1,Nat.add_zero]; simp [hlt])
  (fun j hj=>by
   have hq:=q2 (hne' j hj)
   have:=h3 (o+j) (by omega)
   simp only [World.frozen?,h1,Nat.add_zero]
   simp; omega) hone
 have hlive:s.lives b:=⟨_,hb,rfl⟩
 by_cases hne:vs=[]
 ·subst hne
  have:us=[]:=by cases us <;> simp_all
  subst this
  have hcs:cs'=cs:=by
   have:some cs=some cs':=by cases cs <;> simpa [lay] using hl
   simpa using this.symm
  subst hcs
  have hget:∀ m,s'.h.get m=s.h.get m:=fun m=>by
   rw [hg]
   by_cases e:m=b
   ·rw [if_pos e,e,hb]
   ·rw [if_neg e]
  refine⟨w,by simpa [World.setCells] using hrun,⟨h.below,fun b x hb=>by rw [hn]; exact h.dom b x hb,fun b x ⟨L,k1,k2⟩=>h.own b x ⟨L,by rw [← hget]; exact k1,k2⟩,fun b hb=>by rw [hget]; exact h.fresh b (by omega),
   fun b b' x x' ⟨L,k1,k2⟩ ⟨L',k1',k2'⟩=>h.inj b b' x x' ⟨L,by rw [← hget]; exact k1,k2⟩ ⟨L',by rw [← hget]; exact k1',k2'⟩,fun b cs op hb=>h.cells b cs op (by rw [← hget]; exact hb),fun b t p hb=>h.iter b t p (by rw [← hget]; exact hb),by rw [St.g9q hs]; exact h.gl,fun b cs hb=>h.ro b cs (by rw [← hget]; exact hb),h.ob.step r.le_refl (fun b F cs g k=>by rw [← hget]; exact k) (fun b x ⟨L,k1,k2⟩ hx=>.inl ⟨⟨L,by rw [← hget]; exact k1,k2⟩,hx⟩) (Nat.le_refl _) fun _ _=>rfl⟩,
   ⟨r.le_refl,by omega,Nat.le_refl _,a2u.step h.ob r.le_refl (fun b F cs g k=>by rw [← hget]; exact k) fun b x ⟨L,k1,k2⟩ hx _=>⟨b,x,⟨L,by rw [← hget]; exact k1,k2⟩,hx,rfl⟩,fun _ _ _=>rfl⟩⟩
 ·obtain⟨c',g1,g2,g3,g4,g5,g6,g7,g8⟩:=b1d x.1 e (lo,hi) us (x.2.1+o) w c h1 (hin hne)
  have hlv:∀ b',s'.lives b'→s.lives b':=fun b' ⟨L,k1,k2⟩=>by
   rw [hg] at k1
   by_cases e:b'=b
   ·subst e; exact hlive
   ·rw [if_neg e] at k1; exact⟨L,k1,k2⟩
  have hob:∀ b' F cs g,s'.h.get b'=some (.obj F cs g)→s.h.get b'=some (.obj F cs g):=fun b' F cs g k=>by
   rw [hg] at k
   by_cases e:b'=b
   ·rw [if_pos e] at k; cases k
   ·rwa [if_neg e] at k
  refine⟨_,hrun,⟨⟨g6.trans h.below.os,g7.trans h.below.tape,g8.trans h.below.output,by simp only [Nat.add_zero]; rw [g5]; exact h.below.size,fun k hk=>?_⟩,fun b x hb=>?_,fun b x l1=>h.own b x (hlv _ l1),fun b' hb'=>?_,fun b1 b2 x1 x2 l1 l2=>h.inj b1 b2 x1 x2 (hlv _ l1) (hlv _ l2),fun b' ds op' hb'=>?_,fun b' t p hb'=>?_,by rw [St.g9q hs]; exact h.gl,fun b' ds hb'=>?_,h.ob.step r.le_refl hob (fun b' x' l1 hx'=>.inl ⟨hlv _ l1,hx'⟩) (by simp only [Nat.add_zero]; rw [g5]; exact Nat.le_refl _) fun B hB=>?_⟩,
   ⟨r.le_refl,by omega,by simp only [Nat.add_zero]; rw [g5]; exact Nat.le_refl _,a2u.step h.ob r.le_refl hob fun b' x' l1 hx' _=>⟨b',x',hlv _ l1,hx',rfl⟩,fun B hB hno=>?_⟩⟩
  ·simp only [Nat.add_zero]
   rw [g4 k (by have:=h.own b x hlive hx; omega)]
   exact h.below.block k hk
  ·simp only [Nat.add_zero]; rw [hn,g5]; exact h.dom b x hb
  ·rw [hg,if_neg (by intro e; subst e; rw [h.fresh _ (by omega)] at hb; cases hb)]
   exact h.fresh _ (by omega)
  ·rw [hg] at hb'
   simp only [Nat.add_zero]
   by_cases e':b'=b
   ·subst e'
    simp at hb'
    obtain⟨rfl,rfl⟩:=hb'
    refine .inr ⟨x,hx,⟨c',e,lo,hi,g1,fun i l hi'=>?_,fun i hi'=>h3 i (by rwa [a6o q1] at hi'),by rw [g2,a6o q1]; exact h4,fun v hv'=>?_⟩,by rw [q1,a6o q1]; exact h6⟩
    ·rw [q3] at hi'
     by_cases hin':o≤i∧i < o+vs.length
     ·rw [if_pos hin'] at hi'
      obtain⟨u,k1,k2⟩:=hv.get hi'
      refine⟨hp _ (List.mem_of_getElem? hi'),u,?_,k2⟩
      rw [g3,if_pos (by omega),← k1]
      congr 1; omega
     ·rw [if_neg hin'] at hi'
      obtain⟨k1,u,k2,k3⟩:=h2 i l hi'
      refine⟨k1,u,?_,k3⟩
      rw [g3,if_neg (by omega)]; exact k2
    ·obtain⟨i,hi',rfl⟩:=List.getElem_of_mem hv'
     have hi2:i < c'.size:=by simpa using hi'
     have:=g3 i
     rw [Array.getElem?_eq_getElem hi2] at this
     simp only [Array.getElem_toList]
     split at this
     ·exact hone _ (List.mem_of_getElem? this.symm)
     ·exact h5 _ (by rw [Array.mem_toList_iff]; exact Array.mem_of_getElem? this.symm)
   ·rw [if_neg e'] at hb'
    rcases h.cells b' ds op' hb' with k | ⟨x',k1,k2⟩
    ·exact .inl k
    refine .inr ⟨x',k1,k2.mono r.le_refl (g4 _ fun he=>e' ?_)⟩
    exact h.inj b' b x' x ⟨_,hb',rfl⟩ hlive k1 hx he
  ·rw [hg] at hb'
   simp only [Nat.add_zero]
   by_cases e':b'=b
   ·subst e'; simp at hb'
   ·rw [if_neg e'] at hb'
    obtain⟨x',k1,k0,k2⟩:=h.iter b' t p hb'
    refine⟨x',k1,k0,?_⟩
    rw [← k2]; exact g4 _ fun he=>e' (h.inj b' b x' x ⟨_,hb',rfl⟩ hlive k1 hx he)
  ·rw [hg] at hb'
   by_cases e':b'=b
   ·subst e'; simp at hb'
   ·rw [if_neg e'] at hb'; exact h.ro b' ds hb'
  ·simp only [Nat.add_zero]
   exact g4 B fun he=>h.ob.clear hlive hx (fun F cs g k=>by rw [hb] at k; cases k) (he▸hB)
  ·simp only [Nat.add_zero]
   exact g4 B fun he=>hno (.inl ⟨b,x,hlive,hx,he.symm⟩)
end
section
open Go.RowKit
noncomputable section
def c1a:Value→Option LV
 | .bool b=>some (.bool b)
 | .int k n=>some (.int k n)
 | .string s=>some (.str s.data.toList)
 | .pointer none=>some .nilp
 | .slice none 0 0=>some .nils
 | .nilFunc=>some .nilFunc
 | .nilIface=>some .nilIface
 | _=>none
def b1g:List Value→Option (List LV)
 | []=>some []
 | v::vs=>match c1a v with
   | some l=>(match b1g vs with | some ls=>some (l::ls) | none=>none)
   | none=>none
def a6w:Value→Option LV
 | .agg cs=>(match b1g cs.toList with | some ls=>some (.agg ls) | none=>none)
 | v=>c1a v
def LV.undef:LV:=.tup []
abbrev Tm:=Tr LV
def a0q (tm:Tm) (t:Nat):LV:=match tm.get t with | some l=>l | none=>.undef
def b3o (tm:Nat→LV):Operand→Option LV
 | .tmp t=>some (tm t)
 | .const v=>a6w v
 | .func f=>some (.fn f [])
 | .global g=>some (.gptr g 0)
def a9f:List LV→Bool
 | []=>true
 | l::ls=>match l.plain with | true=>a9f ls | false=>false
def LV.cells:LV→Option (List LV)
 | .agg cs=>(match a9f cs with | true=>some cs | false=>none)
 | .tup _=>none
 | .any=>none
 | v=>some [v]
def a8a (k:IntKind) (n:Int):Int :=
 match k,n with
 | .i64,.ofNat m=>cond (Nat.ble m 9223372036854775807) n (IntKind.i64.wrap n)
 | .u64,.ofNat m=>cond (Nat.ble m 18446744073709551615) n (IntKind.u64.wrap n)
 | k,n=>k.wrap n
def d3p (op:BinOp) (x y:Int):Option LV :=
 match op with
 | .eql=>some (.bool (x == y))
 | .neq=>some (.bool (x != y))
 | .lss=>some (.bool (x < y))
 | .leq=>some (.bool (x≤y))
 | .gtr=>some (.bool (x > y))
 | .geq=>some (.bool (x≥y))
 | _=>none
def b2o (op:BinOp) (k:IntKind) (x y:Int):Option LV :=
 match op with
 | .add=>some (.int k (a8a k (x+y)))
 | .sub=>some (.int k (a8a k (x - y)))
 | .mul=>some (.int k (a8a k (x * y)))
 | .quo=>cond (y == 0) none (some (.int k (a8a k (x.tdiv y))))
 | .rem=>cond (y == 0) none (some (.int k (x.tmod y)))
 | .and=>some (.int k (k.wrap ((BitVec.ofInt k.bits x) &&& (BitVec.ofInt k.bits y)).toNat))
 | .or=>some (.int k (k.wrap ((BitVec.ofInt k.bits x) ||| (BitVec.ofInt k.bits y)).toNat))
 | .xor=>some (.int k (k.wrap ((BitVec.ofInt k.bits x) ^^^ (BitVec.ofInt k.bits y)).toNat))
 | .andNot=>some (.int k (k.wrap ((BitVec.ofInt k.bits x) &&& ~~~(BitVec.ofInt k.bits y)).toNat))
 | _=>d3p op x y
def b6c (op:BinOp) (k:IntKind) (x y:Int):Option LV :=
 cond (decide (y < 0)) none <|
 match op with
 | .shl=>some (.int k (k.wrap (x * 2 ^ (min y.toNat k.bits))))
 | .shr=>some (.int k (x.fdiv (2 ^ (min y.toNat k.bits))))
 | _=>none
def c4o (op:BinOp) (x y:List UInt8):Option LV :=
 match op with
 | .add=>cond (Nat.ble (x.length+y.length) 1000000000) (some (.str (x++y))) none
 | .eql=>some (.bool (x == y))
 | .neq=>some (.bool (!(x == y)))
 | .lss=>some (.bool (Op.bytesLess x y))
 | .leq=>some (.bool (Op.bytesLess x y || x == y))
 | .gtr=>some (.bool (!(Op.bytesLess x y || x == y)))
 | .geq=>some (.bool (!(Op.bytesLess x y)))
 | _=>none
def a7g (P:Program) (t:TypeId) (cs:List LV) (off:Nat):Option LV :=
 match b8l P t with
 | some true=>(match a1g P t with
   | some n=>(match cut cs off n with | some c=>some (.agg c) | none=>none)
   | none=>none)
 | some false=>nth cs off
 | none=>none
def a7c (eq:TypeId→LV→LV→Option Bool) (P:Program) (xs ys:List LV):List Field→Option Bool
 | []=>some true
 | f::fs =>
   cond (f.name == "_") (a7c eq P xs ys fs) <|
   match a7g P f.type xs f.offset,a7g P f.type ys f.offset with
   | some a,some b=>(match eq f.type a b with
     | some true=>a7c eq P xs ys fs
     | some false=>some false
     | none=>none)
   | _,_=>none
def leq (P:Program):Nat→TypeId→LV→LV→Option Bool
 | 0,_,_,_=>none
 | d+1,t,x,y =>
   match P.underlying t,x,y with
   | some .bool,.bool a,.bool b=>some (a == b)
   | some (.int _),.int k a,.int k' b=>cond (decide (k=k')) (some (a == b)) none
   | some .string,.str a,.str b=>some (a == b)
   | some (.pointer _),.nilp,.nilp=>some true
   | some (.pointer _),.nilp,.ptr _ _=>some false
   | some (.pointer _),.ptr _ _,.nilp=>some false
   | some (.interface _),.nilIface,.nilIface=>some true
   | some (.interface _),.nilIface,.iface _ _=>some false
   | some (.interface _),.iface _ _,.nilIface=>some false
   | some (.interface _),.iface tx vx,.iface ty vy =>
     cond (decide (tx=ty)) (match P.info? tx with | some i=>cond i.comparable (leq P d tx vx vy) none | none=>none) (some false)
   | some (.struct fs),.agg xs,.agg ys=>cond (P.stoodInHeld t) none (a7c (leq P d) P xs ys fs.toList)
   | some (.slice _),.nils,.nils=>some true
   | some (.slice _),.nils,.sl _ _ _ _=>some false
   | some (.slice _),.sl _ _ _ _,.nils=>some false
   | some (.func _ _ _),.nilFunc,.nilFunc=>some true
   | some (.func _ _ _),.nilFunc,.fn _ _=>some false
   | some (.func _ _ _),.fn _ _,.nilFunc=>some false
   | _,_,_=>none
def f0t:BinOp→Bool
 | .eql=>true
 | .neq=>true
 | _=>false
def b7v (P:Program) (op:BinOp) (t:TypeId) (a b:LV):Bool :=
 match f0t op with
 | false=>true
 | true=>match a,b with
   | .any,_=>false
   | _,.any=>false
   | .nilIface,.nilIface=>false
   | .agg _,.agg _=>!(P.eqGuardType P.depth t)
   | _,_=>true
def d6o (P:Program) (op:BinOp) (t:TypeId) (a b:LV):Option LV :=
 cond (b7v P op t a b) (
 match a,b with
 | .slo _ _ len _,.nils=>(match P.underlying t,op with | some (.slice _),.eql=>some (cond (Nat.beq len 0) .unb (.bool false)) | some (.slice _),.neq=>some (cond (Nat.beq len 0) .unb (.bool true)) | _,_=>none)
 | .int k x,.int k' y=>(match op with
   | .shl=>b6c .shl k x y
   | .shr=>b6c .shr k x y
   | op=>cond (decide (k=k')) (b2o op k x y) none)
 | .str x,.str y=>c4o op x y
 | x,y=>(match op with
   | .eql=>(match leq P Op.maxDepth t x y with | some b=>some (.bool b) | none=>none)
   | .neq=>(match leq P Op.maxDepth t x y with | some b=>some (.bool (!b)) | none=>none)
   | _=>none)) none
def lun (op:UnOp) (x:LV):Option LV :=
 match op,x with
 | .neg,.int k n=>some (.int k (a8a k (0 - n)))
 | .xor,.int k n=>some (.int k (k.wrap ((BitVec.ofInt k.bits (if k.signed then -1 else k.max)) ^^^ (BitVec.ofInt k.bits n)).toNat))
 | .not,.bool b=>some (.bool (!b))
 | _,_=>none
def d8u (s:St) (v:LV):Option (LV×St) :=
 match v.cells with
 | some cs=>(match s.new (.cells cs none) with | some s'=>some (.ptr s.n 0,s') | none=>none)
 | none=>none
def b6e (P:Program) (s:St) (t:TypeId) (b o:Nat):Option LV :=
 match s.look b with
 | some cs=>a7g P t cs o
 | none=>none
def d1y:List LV→Bool
 | [.fact _]=>true
 | _=>false
def c2o:List (Nat×List LV)→Option (World→Prop)
 | []=>none
 | x::xs=>match x.2 with
   | [.fact F]=>some F
   | _=>c2o xs
def b5k (get:Nat→Option LB):Nat→Option (World→Prop)
 | 0=>none
 | n+1=>match get n with
   | some (.obj F [.fact Φ] _)=>cond F.isSt (some Φ) (b5k get n)
   | _=>b5k get n
def d2o (s:St):Option (World→Prop) :=
 match b5k s.h.get s.n with
 | some Φ=>some Φ
 | none=>c2o s.g
noncomputable def c1g (P:Program) (s:St) (t:TypeId) (v:Value) (k:Nat):Option LV :=
 match d2o s,a1g P t with
 | some F,some n=>cond (d5o F v k n) (a7g P t (d3m F v k n) 0) none
 | _,_=>none
def c8i:List (Nat×List LV)→Nat→Option (List LV)
 | [],_=>none
 | x::xs,g=>cond (Nat.beq x.1 g) (cond (d1y x.2) none (some x.2)) (c8i xs g)
def c6i (P:Program) (s:St) (t:TypeId) (g o:Nat):Option LV :=
 match c8i s.g g with
 | some cs=>a7g P t cs o
 | none=>none
def b7q (P:Program) (s:St) (t:TypeId) (b o:Nat) (v:LV):Option St :=
 match s.h.get b,v.cells,a1g P t with
 | some (.cells cs op),some vs,some n =>
   cond (Nat.beq vs.length n) (match lay cs o vs with | some cs'=>s.put b (.cells cs' op) | none=>none) none
 | _,_,_=>none
def b0q (place:Nat→Option (Nat×Nat)) (cells:List LV):List (Nat×LV)→Option (List LV)
 | []=>some cells
 | (i,v)::rest =>
   match place i,v.cells with
   | some (off,size),some (c::cs) =>
     cond (Nat.beq (cs.length+1) size) (match lay cells off (c::cs) with | some cells'=>b0q place cells' rest | none=>none) none
   | _,_=>none
def a5o (ev:Operand→Option LV):List (Nat×Operand)→Option (List (Nat×LV))
 | []=>some []
 | (i,x)::rest=>match ev x,a5o ev rest with
   | some v,some vs=>some ((i,v)::vs)
   | _,_=>none
def b1n (ev:Operand→Option LV):List Operand→Option (List LV)
 | []=>some []
 | x::rest=>match ev x,b1n ev rest with
   | some v,some vs=>some (v::vs)
   | _,_=>none
def a8p (P:Program):List Field→Option (List (Nat×Nat))
 | []=>some []
 | f::fs=>match a1g P f.type,a8p P fs with
   | some n,some r=>some ((f.offset,n)::r)
   | _,_=>none
def a2l (P:Program) (t:TypeId):Option (List LV) :=
 match a9g P t with
 | some v=>(match a6w v with | some l=>l.cells | none=>none)
 | none=>none
def b7k:List (Nat×Nat)→Nat→Option (Nat×Nat)
 | [],_=>none
 | x::xs,n=>cond (Nat.beq n 0) (some x) (b7k xs (Nat.sub n 1))
def d1u (P:Program) (t:TypeId) (parts:List (Nat×LV)):Option LV :=
 match P.underlying t,a2l P t with
 | some (.struct fields),some zero =>
   (match a8p P fields.toList with
    | some places=>(match b0q (b7k places) zero parts with | some cs=>some (.agg cs) | none=>none)
    | none=>none)
 | some (.array _ elem),some zero =>
   (match a1g P elem with
    | some size=>(match b0q (fun i=>some (i * size,size)) zero parts with | some cs=>some (.agg cs) | none=>none)
    | none=>none)
 | _,_=>none
def rep:Nat→List LV→List LV
 | 0,_=>[]
 | n+1,z=>z++rep n z
def a5t (P:Program) (s:St) (t:TypeId) (len:Nat) (parts:List (Nat×LV)):Option (LV×St) :=
 match P.underlying t with
 | some (.slice elem)=>(match a1g P elem,a2l P elem with
   | some size,some zero =>
     cond (Nat.beq zero.length size && Nat.ble 1 size && Nat.ble (len * size) 100000)
      (match b0q (fun i=>some (i * size,size)) (rep len zero) parts with
       | some cs=>(match s.new (.cells cs none) with | some s'=>some (.sl s.n 0 len len,s') | none=>none)
       | none=>none) none
   | _,_=>none)
 | _=>none
def a5e (P:Program) (s:St) (t:TypeId) (l c:LV):Option (LV×St) :=
 match P.underlying t,l,c with
 | some (.slice elem),.int _ (.ofNat len),.int _ (.ofNat cap)=>(match a1g P elem,a2l P elem,a8m P elem with
   | some size,some zero,some bytes =>
     cond (Nat.beq zero.length size && Nat.ble 1 size && Nat.ble len cap && Nat.ble cap 100000 && Nat.ble bytes 100000)
      (match s.new (.cells (rep cap zero) none) with | some s'=>some (.sl s.n 0 len cap,s') | none=>none) none
   | _,_,_=>none)
 | _,_,_=>none
def a5s (P:Program) (t:TypeId) (x:LV) (f:Nat):Option LV :=
 match P.underlying t,x with
 | some (.struct fields),.ptr b o=>(match fields[f]? with
   | some fd=>(match a1g P fd.type with
     | some n=>cond (Nat.beq n 0) none (some (.ptr b (o+fd.offset)))
     | none=>none)
   | none=>none)
 | some (.struct fields),.gptr b o=>(match fields[f]? with
   | some fd=>(match a1g P fd.type with
     | some n=>cond (Nat.beq n 0) none (some (.gptr b (o+fd.offset)))
     | none=>none)
   | none=>none)
 | some (.struct fields),.vp v k=>(match fields[f]? with
   | some fd=>(match a1g P fd.type with
     | some n=>cond (Nat.beq n 0) none (some (.vp v (k+fd.offset)))
     | none=>none)
   | none=>none)
 | _,_=>none
def d1r (P:Program) (t:TypeId) (x:LV) (f:Nat):Option LV :=
 match P.underlying t,x with
 | some (.struct fields),.agg cs=>(match fields[f]? with
   | some fd=>a7g P fd.type cs fd.offset
   | none=>none)
 | _,_=>none
def a8c (P:Program) (t:TypeId) (x ix:LV):Option LV :=
 match P.underlying t,x,ix with
 | some (.slice elem),.sl b o len _,.int _ (.ofNat i)=>(match a1g P elem with
   | some n=>cond (Nat.ble (i+1) len) (some (.ptr b (o+i * n))) none
   | none=>none)
 | some (.slice elem),.slo b o len _,.int _ (.ofNat i)=>(match a1g P elem with
   | some n=>cond (Nat.ble (i+1) len) (some (.ptr b (o+i * n))) none
   | none=>none)
 | some (.array len elem),.ptr b o,.int _ (.ofNat i)=>(match a1g P elem with
   | some n=>cond (Nat.ble (i+1) len) (some (.ptr b (o+i * n))) none
   | none=>none)
 | some (.array len elem),.gptr b o,.int _ (.ofNat i)=>(match a1g P elem with
   | some n=>cond (Nat.ble (i+1) len) (some (.gptr b (o+i * n))) none
   | none=>none)
 | some (.slice elem),.val v,.int _ (.ofNat i)=>(match a1g P elem with
   | some n=>cond (f6h v i) (some (.vp v (i * n))) none
   | none=>none)
 | _,_,_=>none
def b6t:List UInt8→Nat→Option UInt8
 | [],_=>none
 | x::xs,n=>cond (Nat.beq n 0) (some x) (b6t xs (Nat.sub n 1))
def b7u (P:Program) (t:TypeId) (x ix:LV):Option LV :=
 match P.underlying t,x,ix with
 | some (.array len elem),.agg cs,.int _ (.ofNat i)=>(match a1g P elem with
   | some n=>cond (Nat.ble (i+1) len) (a7g P elem cs (i * n)) none
   | none=>none)
 | some .string,.str s,.int _ (.ofNat i)=>(match b6t s i with | some b=>some (.int .u8 b.toNat) | none=>none)
 | _,_,_=>none
def a3n (d:Nat):Option LV→Option Nat
 | none=>some d
 | some (.int _ (.ofNat n))=>some n
 | _=>none
def b4m (ev:Operand→Option LV):Option Operand→Option (Option LV)
 | none=>some none
 | some x=>match ev x with | some v=>some (some v) | none=>none
def b0u (P:Program) (t:TypeId) (x:LV) (lo hi mx:Option LV):Option LV :=
 match P.underlying t,x,mx with
 | some .string,.str s,none=>(match a3n 0 lo,a3n s.length hi with
   | some l,some h=>cond (Nat.ble l h && Nat.ble h s.length) (some (.str ((s.drop l).take (h - l)))) none
   | _,_=>none)
 | some (.slice elem),.nils,none=>(match a3n 0 lo,a3n 0 hi,a1g P elem with
   | some 0,some 0,some _=>some .nils
   | _,_,_=>none)
 | some (.slice elem),.sle,none=>(match a3n 0 lo,a3n 0 hi,a1g P elem with
   | some 0,some 0,some _=>some .sle
   | _,_,_=>none)
 | some (.slice elem),.nils,some m=>(match a3n 0 lo,a3n 0 hi,a3n 0 (some m),hi.isSome,a1g P elem with
   | some 0,some 0,some 0,true,some _=>some .sle
   | _,_,_,_,_=>none)
 | some (.slice elem),.sle,some m=>(match a3n 0 lo,a3n 0 hi,a3n 0 (some m),hi.isSome,a1g P elem with
   | some 0,some 0,some 0,true,some _=>some .sle
   | _,_,_,_,_=>none)
 | some (.slice elem),.slo b o len d,some m=>(match a3n 0 lo,a3n len hi,a3n 0 (some m),hi.isSome,a1g P elem with
   | some 0,some 0,some 0,true,some _=>some .sle
   | _,_,_,_,_=>none)
 | some (.slice elem),.sl b o len cap,mx=>(match a3n 0 lo,a3n len hi,a3n cap mx,a1g P elem with
   | some l,some h,some m,some n =>
     cond (Nat.ble l h && Nat.ble h m && Nat.ble m cap && (mx.isNone || hi.isSome)) (some (.sl b (cond (Nat.beq m l) o (o+l * n)) (h - l) (m - l))) none
   | _,_,_,_=>none)
 | some (.array n elem),.ptr b o,mx=>(match a3n 0 lo,a3n n hi,a3n n mx,a1g P elem with
   | some l,some h,some m,some k =>
     cond (Nat.ble l h && Nat.ble h m && Nat.ble m n && (mx.isNone || hi.isSome)) (some (.sl b (cond (Nat.beq m l) o (o+l * k)) (h - l) (m - l))) none
   | _,_,_,_=>none)
 | some (.slice elem),.slo b o len d,none=>(match a3n 0 lo,a3n len hi,a1g P elem with
   | some l,some h,some n =>
     cond (Nat.ble l h && Nat.ble h len) (some (.slo b (o+l * n) (h - l) (d+l))) none
   | _,_,_=>none)
 | some (.slice elem),.val v,none=>(match a3n 0 lo,hi,a1g P elem with
   | some l,none,some n=>cond (f1u v l) (some (.val (d7l v n l))) none
   | _,_,_=>none)
 | _,_,_=>none
def a1c:List LV→Option (List UInt8)
 | []=>some []
 | .int .u8 n::ls=>(match a1c ls with | some r=>some (UInt8.ofNat n.toNat::r) | none=>none)
 | _::_=>none
def a1j (s:St) (size:Nat):LV→Option (List LV)
 | .nils=>some []
 | .sle=>some []
 | .sl b o len _=>(match s.look b with | some cs=>cut cs o (len * size) | none=>none)
 | .slo b o len _=>(match s.look b with | some cs=>cut cs o (len * size) | none=>none)
 | .str t=>cond (Nat.beq size 1) (some (t.map fun b=>.int .u8 b.toNat)) none
 | _=>none
def a3x:LV→Option Nat
 | .nils=>some 0
 | .sle=>some 0
 | .sl _ _ len _=>some len
 | .slo _ _ len _=>some len
 | .str t=>some t.length
 | _=>none
def c3c (P:Program) (e:TypeId):Bool:=match P.underlying e with | some (.int .u8)=>true | _=>false
def a3m (P:Program) (s:St) (src dst:TypeId) (x:LV):Option LV :=
 match P.underlying src,P.underlying dst,x with
 | some _,some (.int k),.int _ n=>some (.int k (a8a k n))
 | some _,some .string,.str t=>some (.str t)
 | some (.slice e),some .string,x=>cond (c3c P e) (match x with
   | .nils=>some (.str [])
   | .sle=>some (.str [])
   | .sl _ _ _ _=>(match a1j s 1 x with | some cs=>(match a1c cs with | some r=>some (.str r) | none=>none) | none=>none)
   | .slo _ _ _ _=>(match a1j s 1 x with | some cs=>(match a1c cs with | some r=>some (.str r) | none=>none) | none=>none)
   | _=>none) none
 | _,_,_=>none
def b6i (P:Program) (e:TypeId):Bool:=match P.underlying e with | some (.int .i32)=>true | _=>false
def a5x:List LV→Option (List Int)
 | []=>some []
 | .int .i32 n::ls=>(match a5x ls with | some r=>some (n::r) | none=>none)
 | _::_=>none
def b4z:List Int→List UInt8
 | []=>[]
 | n::r=>(Utf8.encode n).data.toList++b4z r
def b3v (t:List UInt8):Nat→Nat→List Int
 | 0,_=>[]
 | k+1,i=>if i < t.length then Int.ofNat (Utf8.decode ⟨t.toArray⟩ i).1::b3v t k (i+(Utf8.decode ⟨t.toArray⟩ i).2) else []
def b1z (t:List UInt8):List Int:=b3v t t.length 0
def d1n (P:Program) (s:St) (src dst:TypeId) (x:LV):Option LV :=
 match P.underlying src,P.underlying dst,x with
 | some (.slice e),some .string,.slo b o len cap=>cond (b6i P e) (match a1j s 1 (.slo b o len cap) with | some cs=>(match a5x cs with | some r=>some (.str (b4z r)) | none=>none) | none=>none) none
 | _,_,_=>none
def a5m (P:Program) (s:St) (src dst:TypeId) (x:LV):Option LV:=match a3m P s src dst x with
 | some l=>some l
 | none=>d1n P s src dst x
def c1v (P:Program) (s:St) (src dst:TypeId) (x:LV):Option (LV×St) :=
 match P.underlying src,P.underlying dst,x with
 | some _,some (.slice e),.str t=>cond (c3c P e && Nat.ble t.length 1000000)
   (match s.new (.cells (t.map fun b=>.int .u8 b.toNat) (some 1)) with | some s'=>some (.slo s.n 0 t.length 0,s') | none=>none) none
 | _,_,_=>none
def c6g (P:Program) (s:St) (src dst:TypeId) (x:LV):Option (LV×St) :=
 match P.underlying src,P.underlying dst,x with
 | some _,some (.slice e),.str t=>cond (b6i P e && Nat.ble t.length 1000000)
   (match s.new (.cells ((b1z t).map fun n=>.int .i32 n) (some 1)) with | some s'=>some (.slo s.n 0 (b1z t).length 0,s') | none=>none) none
 | _,_,_=>none
def b7t (P:Program) (s:St) (src dst:TypeId) (x:LV):Option (LV×St):=match c1v P s src dst x with
 | some p=>some p
 | none=>c6g P s src dst x
def c2a:TypeDesc→Bool | .int _=>true | _=>false
def b3k (P:Program) (s:St) (argTypes:List TypeId) (x y:LV):Option (LV×St) :=
 match argTypes with
 | [t,u]=>(match P.underlying t,P.underlying u with
   | some (.slice elem),some du =>
     cond (c2a du) none <|
     (match a1g P elem,a2l P elem,a8m P elem,a3x y with
     | some es,some zero,some bytes,some n =>
       cond (Nat.beq zero.length es && Nat.ble 1 es && Nat.ble bytes 1000) (match a1j s es y with
       | some new=>(match x with
         | .nils =>
           cond (Nat.ble (n * bytes) 140737488355328 && Nat.ble n 140737488355328) (match s.new (.cells new (some es)) with | some s'=>some (.slo s.n 0 n 0,s') | none=>none) none
         | .sle=>cond (Nat.beq n 0) (some (.sle,s))
           (cond (Nat.ble n 1000000) (match s.new (.cells new (some es)) with | some s'=>some (.slo s.n 0 n 0,s') | none=>none) none)
         | .sl b o len cap=>(match s.h.get b with
           | some (.cells cs op) =>
             cond (Nat.ble (len+n) cap)
              (match lay cs (o+len * es) new with | some cs'=>(match s.put b (.cells cs' op) with | some s'=>some (.sl b o (len+n) cap,s') | none=>none) | none=>none)
              (cond (Nat.ble (len+n) 1000000) (match cut cs o (len * es) with
               | some old=>(match s.new (.cells (old++new) (some es)) with | some s'=>some (.slo s.n 0 (len+n) 0,s') | none=>none)
               | none=>none) none)
           | _=>none)
         | .slo b o len d=>(match s.h.get b with
           | some (.cells cs (some es')) =>
             cond (Nat.beq es es' && Nat.beq (d * es) o && Nat.ble (len+n) 1000000) (match cut cs o (len * es) with
              | some old =>
                (match s.put b .dead with
                 | some s1=>(match s1.new (.cells (old++new) (some es)) with | some s'=>some (.slo s.n 0 (len+n) 0,s') | none=>none)
                 | none=>none)
              | none=>none) none
           | _=>none)
         | _=>none)
       | none=>none) none
     | _,_,_,_=>none)
   | _,_=>none)
 | _=>none
def b7i:LV→Nat→Option LV
 | .nils,_=>some .nils
 | .sle,_=>some .sle
 | .sl b o _ c,n=>some (.sl b o n c)
 | .slo b o _ d,n=>some (.slo b o n d)
 | _,_=>none
def c8d (P:Program) (s:St) (argTypes:List TypeId) (x y:LV):Option (LV×St) :=
 match argTypes with
 | t::_=>(match P.underlying t with
   | some (.slice elem)=>(match a1g P elem,a3x x,a3x y with
     | some es,some dl,some sl=>(match b7i y (Nat.min sl dl) with
       | some y'=>(match a1j s es y' with
         | some new=>(match x with
           | .nils=>some (.int .i64 ((Nat.min sl dl:Nat):Int),s)
           | .sle=>some (.int .i64 ((Nat.min sl dl:Nat):Int),s)
           | .sl b o _ _=>(match s.h.get b with
             | some (.cells cs op)=>(match lay cs o new with
               | some cs'=>(match s.put b (.cells cs' op) with | some s'=>some (.int .i64 ((Nat.min sl dl:Nat):Int),s') | none=>none)
               | none=>none)
             | _=>none)
           | .slo b o (l+1) _=>(match s.h.get b with
             | some (.cells cs op)=>(match lay cs o new with
               | some cs'=>(match s.put b (.cells cs' op) with | some s'=>some (.int .i64 ((Nat.min sl dl:Nat):Int),s') | none=>none)
               | none=>none)
             | _=>none)
           | _=>none)
         | none=>none)
       | none=>none)
     | _,_,_=>none)
   | _=>none)
 | _=>none
def d6n (P:Program) (argTypes:List TypeId) (x:LV):Option LV :=
 match argTypes with
 | t::_=>(match P.underlying t,x with
   | some .string,.str s=>some (.int .i64 (s.length:Int))
   | some (.slice _),.nils=>some (.int .i64 0)
   | some (.slice _),.sle=>some (.int .i64 0)
   | some (.slice _),.sl _ _ n _=>some (.int .i64 (n:Int))
   | some (.slice _),.slo _ _ n _=>some (.int .i64 (n:Int))
   | some (.slice _),.sln n=>some (.int .i64 (n:Int))
   | some (.slice _),.val v=>some (.int .i64 (f7f v:Int))
   | some (.array n _),_=>some (.int .i64 (n:Int))
   | _,_=>none)
 | _=>none
def a6z (mx:Bool):LV→List LV→Option LV
 | x,[]=>some x
 | .int k x,.int _ y::ls=>a6z mx (.int k (cond mx (if x≤y then y else x) (if x≤y then x else y))) ls
 | _,_=>none
def c4w (P:Program) (x:LV) (asserted:TypeId) (commaOk:Bool):Option LV :=
 let holds (v:LV):Option LV:=some (cond commaOk (.tup [v,.bool true]) v)
 let fails:Option LV:=cond commaOk (match a9g P asserted with
  | some z=>(match a6w z with | some l=>some (.tup [l,.bool false]) | none=>none)
  | none=>none) none
 match P.underlying asserted,x with
 | some (.interface _),.nilIface=>fails
 | some (.interface want),.iface t v=>(match P.info? t with
   | some i=>(match Instr.missingMethod want i.methods with
     | none=>holds (.iface t v)
     | some _=>fails)
   | none=>none)
 | some _,.nilIface=>fails
 | some _,.iface t v=>cond (Nat.beq t asserted) (holds v) fails
 | _,_=>none
inductive LN where
 | val (v:LV)
 | skip
 | enter (f:Nat) (args:List LV)
def b1l (P:Program) (f:Nat) (args:List LV):Option LN :=
 match P.funcs[f]? with
 | some fn=>cond (fn.name == "runtime.NumGoroutine") none (match fn.body with | some _=>some (.enter f args) | none=>none)
 | none=>none
def b9b (P:Program) (recv:LV) (name:String) (args:List LV):Option LN :=
 match recv with
 | .iface t v=>(match P.info? t with
   | some i=>(match i.methods.find? (·.name == name) with
     | some m=>(match m.path.toList,m.func,P.underlying t with
       | [],some (f,true),some (.pointer _)=>b1l P f (v::args)
       | [],some (f,false),some d=>(match d with | .pointer _=>none | _=>b1l P f (v::args))
       | _,_,_=>none)
     | none=>none)
   | none=>none)
 | _=>none
def c1t (P:Program) (ev:Operand→Option LV) (c:Call) (s:St):Option (LN×St) :=
 match b1n ev c.args.toList with
 | none=>none
 | some args =>
   match c.callee with
   | .value f=>(match ev f with
     | some (.fn g caps)=>(match b1l P g (args++caps) with | some n=>some (n,s) | none=>none)
     | _=>none)
   | .invoke recv name=>(match ev recv with
     | some x=>(match b9b P x name args with | some n=>some (n,s) | none=>none)
     | none=>none)
   | .builtin b=>(match b,args with
     | .len,[x]=>(match d6n P c.argTypes.toList x with | some v=>some (.val v,s) | none=>none)
     | .min,x::xs=>(match a6z false x xs with | some v=>some (.val v,s) | none=>none)
     | .max,x::xs=>(match a6z true x xs with | some v=>some (.val v,s) | none=>none)
     | .append,[x,y]=>(match b3k P s c.argTypes.toList x y with | some (v,s')=>some (.val v,s') | none=>none)
     | .copy,[x,y]=>(match c8d P s c.argTypes.toList x y with | some (v,s')=>some (.val v,s') | none=>none)
     | _,_=>none)
def g2j:LV→Option LV
 | .nilp=>none
 | .nilIface=>none
 | .nilFunc=>none
 | .any=>none
 | .unb=>none
 | x=>some x
def b0t (P:Program) (ev:Operand→Option LV) (o:Op) (s:St):Option LV :=
 match o with
 | .move x=>ev x
 | .assign x=>ev x
 | .pick c a b=>(match ev c with
   | some (.bool true)=>ev a
   | some (.bool false)=>ev b
   | _=>none)
 | .build t parts=>(match a5o ev parts.toList with | some ps=>d1u P t ps | none=>none)
 | .load t a=>(match ev a with | some (.ptr b o)=>b6e P s t b o | some (.gptr g o)=>c6i P s t g o | some (.vp v k)=>c1g P s t v k | _=>none)
 | .nilCheck x=>(match ev x with | some v=>g2j v | none=>none)
 | .binOp op t x y _=>(match ev x,ev y with | some a,some b=>d6o P op t a b | _,_=>none)
 | .unOp op _ x=>(match ev x with | some a=>lun op a | none=>none)
 | .convert src dst x=>(match ev x with | some a=>a5m P s src dst a | none=>none)
 | .makeInterface t x=>(match P.underlying t,ev x with
   | some d,some v=>(match d with | .interface _=>none | _=>some (.iface t v))
   | _,_=>none)
 | .makeFunc fn first captured=>(match fn,first.toList,b1n ev captured.toList with
   | .func f,[],some caps=>some (.fn f caps)
   | _,_,_=>none)
 | .slice t x lo hi mx=>(match ev x,b4m ev lo,b4m ev hi,b4m ev mx with
   | some v,some l,some h,some m=>b0u P t v l h m
   | _,_,_,_=>none)
 | .fieldAddr t x f=>(match ev x with | some v=>a5s P t v f | none=>none)
 | .field t x f=>(match ev x with | some v=>d1r P t v f | none=>none)
 | .indexAddr t x i=>(match ev x,ev i with | some v,some j=>a8c P t v j | _,_=>none)
 | .index t x i=>(match ev x,ev i with | some v,some j=>b7u P t v j | _,_=>none)
 | .typeAssert x _ asserted ok=>(match ev x with | some v=>c4w P v asserted ok | none=>none)
 | .extract t i=>(match ev t with | some (.tup vs)=>nth vs i | _=>none)
 | .call c=>(match c.callee,b1n ev c.args.toList with
   | .builtin .len,some [x]=>d6n P c.argTypes.toList x
   | .builtin .min,some (x::xs)=>a6z false x xs
   | .builtin .max,some (x::xs)=>a6z true x xs
   | _,_=>none)
 | _=>none
def a1a:Op→Bool
 | .move _=>true
 | .assign _=>true
 | .pick _ _ _=>true
 | .build _ _=>true
 | .load _ _=>true
 | .nilCheck _=>true
 | .binOp _ _ _ _ _=>true
 | .unOp _ _ _=>true
 | .makeInterface _ _=>true
 | .makeFunc _ _ _=>true
 | .slice _ _ _ _ _=>true
 | .fieldAddr _ _ _=>true
 | .field _ _ _=>true
 | .indexAddr _ _ _=>true
 | .index _ _ _=>true
 | .typeAssert _ _ _ _=>true
 | .extract _ _=>true
 | .call c=>(match c.callee with | .builtin .len=>true | .builtin .min=>true | .builtin .max=>true | _=>false)
 | _=>false
def lop (P:Program) (ev:Operand→Option LV) (o:Op) (s:St):Option (LN×St) :=
 match a1a o with
 | true=>(match b0t P ev o s with | some v=>some (.val v,s) | none=>none)
 | false =>
 match o with
 | .alloc t=>(match a9g P t with
   | some z=>(match a6w z with
     | some l=>(match d8u s l with | some (p,s')=>some (.val p,s') | none=>none)
     | none=>none)
   | none=>none)
 | .box _ x=>(match ev x with
   | some l=>(match d8u s l with | some (p,s')=>some (.val p,s') | none=>none)
   | none=>none)
 | .buildSlice t len parts=>(match a5o ev parts.toList with
   | some ps=>(match a5t P s t len ps with | some (v,s')=>some (.val v,s') | none=>none)
   | none=>none)
 | .store t a x=>(match ev a,ev x with
   | some (.ptr b o),some v=>(match b7q P s t b o v with | some s'=>some (.skip,s') | none=>none)
   | _,_=>none)
 | .makeSlice t l c=>(match ev l,ev c with
   | some a,some b=>(match a5e P s t a b with | some (v,s')=>some (.val v,s') | none=>none)
   | _,_=>none)
 | .convert src dst x=>(match ev x with
   | some a=>(match a5m P s src dst a with
     | some v=>some (.val v,s)
     | none=>(match b7t P s src dst a with | some (v,s')=>some (.val v,s') | none=>none))
   | none=>none)
 | .range t x=>(match P.underlying t,ev x with
   | some .string,some (.str l)=>(match s.new (.iter l 0) with | some s'=>some (.val (.ptr s.n 0),s') | none=>none)
   | _,_=>none)
 | .next it str=>(match ev it,str with
   | some (.ptr b 0),true=>(match s.h.get b with
     | some (.iter l pos)=>cond (Nat.ble (pos+1) l.length)
       (match Utf8.decode ⟨l.toArray⟩ pos with
        | (c,width)=>(match s.put b (.iter l (pos+width)) with
          | some s'=>some (.val (.tup [.bool true,.int .i64 (pos:Int),.int .i32 (c:Int)]),s')
          | none=>none))
       (some (.val (.tup [.bool false]),s))
     | _=>none)
   | _,_=>none)
 | .call c=>c1t P ev c s
 | _=>none
inductive LX where
 | normal
 | exit (id:Nat)
 | ret
def b3e (nt:Nat) (tm:Tm) (dst:Option Nat) (v:LV):Option Tm :=
 match dst with
 | none=>some tm
 | some d=>cond (Nat.ble (d+1) nt) (tm.set 16 d v) none
def a5k (ops:Array Oper) (tm:Nat→LV) (o:Oper):Bool :=
 match o.guard with
 | none=>true
 | some (j,want)=>match ops[j]? with
   | some g=>(match g.dst with
     | some d=>(match tm d with | .bool b=>b == want | _=>false)
     | none=>false)
   | none=>false
def a4p (ops:Array Oper) (tm:Nat→LV) (o:Oper):Bool :=
 match o.guard with
 | none=>false
 | some (j,_)=>match ops[j]? with
   | some g=>(match g.dst with
     | some d=>(match tm d with | .any=>true | .unb=>true | _=>false)
     | none=>false)
   | none=>false
def a3p (call:Nat→List LV→St→Option (LV×St)) (P:Program) (ops:Array Oper) (tm:Nat→LV) (o:Oper) (s:St):Option (LV×St) :=
 match a4p ops tm o with
 | true=>none
 | false =>
 match a5k ops tm o with
 | false=>some (.undef,s)
 | true=>match lop P (b3o tm) o.op s with
   | some (.val v,s')=>some (v,s')
   | some (.skip,s')=>some (.undef,s')
   | some (.enter f args,s')=>call f args s'
   | none=>none
structure Rc where
 tm:Tm
 s:St
 v:LV
def b9z (call:Nat→List LV→St→Option (LV×St)) (P:Program) (nt:Nat) (ops:Array Oper):List Oper→Tm→St→List Rc→Option (Tm×St×List Rc)
 | [],tm,s,rs=>some (tm,s,rs)
 | o::rest,tm,s,rs =>
   match a3p call P ops (a0q tm) o s with
   | some (v,s')=>(match b3e nt tm o.dst v with
     | some tm'=>b9z call P nt ops rest tm' s' (⟨tm,s,v⟩::rs)
     | none=>none)
   | none=>none
mutual
def LV.eqb:LV→LV→Bool
 | .bool a,.bool b=>a == b
 | .int j a,.int k b=>decide (j=k) && a == b
 | .str a,.str b=>a == b
 | .nilp,.nilp=>true
 | .ptr a b,.ptr c d=>Nat.beq a c && Nat.beq b d
 | .gptr a b,.gptr c d=>Nat.beq a c && Nat.beq b d
 | .nils,.nils=>true
 | .sle,.sle=>true
 | .sl a b c d,.sl a' b' c' d'=>Nat.beq a a' && Nat.beq b b' && Nat.beq c c' && Nat.beq d d'
 | .slo a b c d,.slo a' b' c' d'=>Nat.beq a a' && Nat.beq b b' && Nat.beq c c' && Nat.beq d d'
 | .fn f a,.fn g b=>Nat.beq f g && a2x a b
 | .nilFunc,.nilFunc=>true
 | .nilIface,.nilIface=>true
 | .iface t a,.iface u b=>Nat.beq t u && LV.eqb a b
 | .agg a,.agg b=>a2x a b
 | .tup a,.tup b=>a2x a b
 | .val a,.val b=>@decide (a=b) (Classical.propDecidable _)
 | _,_=>false
def a2x:List LV→List LV→Bool
 | [],[]=>true
 | a::as,b::bs=>LV.eqb a b && a2x as bs
 | _,_=>false
end
def d0z (ops:Array Oper) (b:Array Nat) (i j:Nat) (oi oj:Oper):Bool :=
 (b.getD j 0).testBit i || ((a1a oi.op || a1a oj.op) && oi.apart ops oj)
def b8u (ops:Array Oper) (b:Array Nat):Nat→List Oper→Bool
 | _,[]=>true
 | k,o::rest=>(rest.zipIdx (k+1)).all (fun x=>d0z ops b k x.2 o x.1) && b8u ops b (k+1) rest
def b2m (ops:Array Oper):Bool:=(ops.toList.zipIdx.all fun x=>x.1.after.all fun e=>!Region.binds .any e || decide (e.on < x.2))
def b3g (ops:Array Oper):Bool:=b2m ops && b8u ops (Go.CheckFast.beforeF ops) 0 ops.toList
def a5n:Op→Bool
 | .load _ _=>true
 | _=>false
def a3a (P:Program) (ops:Array Oper) (o:Oper) (tm:Nat→LV) (v:LV) (s:St):Bool :=
 match a5k ops tm o with
 | false=>true
 | true=>match b0t P (b3o tm) o.op s with
   | some u=>LV.eqb u v
   | none=>false
def a9v (P:Program) (ops:Array Oper) (b:Array Nat) (o:Oper) (k:Nat) (tm:Nat→LV) (v:LV):Nat→List Oper→List St→Bool
 | j,h::hs,s::s'::ss =>
   (a1a h.op || (b.getD j 0).testBit k || (b.getD k 0).testBit j || (a3a P ops o tm v s && a3a P ops o tm v s')) && a9v P ops b o k tm v (j+1) hs (s'::ss)
 | _,[],_=>true
 | _,_,_=>false
def b3w (P:Program) (ops:Array Oper) (b:Array Nat) (ss:List St):Nat→List Oper→List Rc→Bool
 | k,o::rest,r::rs=>(!a5n o.op || a9v P ops b o k (a0q r.tm) r.v 0 ops.toList ss) && b3w P ops b ss (k+1) rest rs
 | _,[],[]=>true
 | _,_,_=>false
def a8y:Op→Bool
 | .alloc _=>true
 | .makeSlice _ _ _=>true
 | .buildSlice _ _ _=>true
 | _=>false
def a9x (P:Program) (ev:Operand→Option LV):Op→Option (List LV×(Nat→LV))
 | .alloc t=>(match a2l P t with | some cs=>some (cs,fun id=>.ptr id 0) | none=>none)
 | .makeSlice t l c=>(match P.underlying t,ev l,ev c with
   | some (.slice elem),some (.int _ (.ofNat len)),some (.int _ (.ofNat cap))=>(match a1g P elem,a2l P elem,a8m P elem with
     | some size,some zero,some bytes =>
       cond (Nat.beq zero.length size && Nat.ble 1 size && Nat.ble len cap && Nat.ble cap 100000 && Nat.ble bytes 100000) (some (rep cap zero,fun id=>.sl id 0 len cap)) none
     | _,_,_=>none)
   | _,_,_=>none)
 | .buildSlice t len parts=>(match P.underlying t,a5o ev parts.toList with
   | some (.slice elem),some ps=>(match a1g P elem,a2l P elem with
     | some size,some zero =>
       cond (Nat.beq zero.length size && Nat.ble 1 size && Nat.ble (len * size) 100000)
        (match b0q (fun i=>some (i * size,size)) (rep len zero) ps with
         | some cs=>some (cs,fun id=>.sl id 0 len len)
         | none=>none) none
     | _,_=>none)
   | _,_=>none)
 | _=>none
def a4a (b:Array Nat) (i j:Nat):Bool:=(b.getD i 0).testBit j
def a7j (b:Array Nat) (x:Nat):List (Oper×Nat)→List (Oper×Nat)×List (Oper×Nat)
 | []=>([],[])
 | y::ys=>cond (a4a b y.2 x) ([],y::ys) (match a7j b x ys with | (l,r)=>(y::l,r))
def a6g (b:Array Nat) (all:List (Oper×Nat)):List (Oper×Nat)→Option (List (Oper×Nat)×(Oper×Nat)×List (Oper×Nat))
 | []=>none
 | y::ys=>cond (a8y y.1.op && all.any (fun z=>!a1a z.1.op && !Nat.beq z.2 y.2 && !a4a b z.2 y.2 && !a4a b y.2 z.2)) (some ([],y,ys))
    (match a6g b all ys with | some (l,x,r)=>some (y::l,x,r) | none=>none)
def c4i (ops:Array Oper) (b:Array Nat) (x:Nat) (u v:Oper×Nat):Bool :=
 !a4a b u.2 v.2 && (a4a b v.2 u.2 || ((a1a u.1.op || a1a v.1.op || Nat.beq u.2 x || Nat.beq v.2 x) && u.1.apart ops v.1))
def a8q (ops:Array Oper) (b:Array Nat) (x:Nat):List (Oper×Nat)→Bool
 | []=>true
 | u::rest=>rest.all (c4i ops b x u) && a8q ops b x rest
def a7k (P:Program) (ops:Array Oper) (b:Array Nat) (o:Oper) (k:Nat) (tm:Nat→LV) (v:LV):List (Oper×Nat)→List St→Bool
 | h::hs,s::s'::ss =>
   (a1a h.1.op || a4a b h.2 k || a4a b k h.2 || (a3a P ops o tm v s && a3a P ops o tm v s')) && a7k P ops b o k tm v hs (s'::ss)
 | [],_=>true
 | _,_=>false
def a8o (P:Program) (ops:Array Oper) (b:Array Nat) (W:List (Oper×Nat)) (ss:List St):List (Oper×Nat)→List Rc→Bool
 | u::rest,r::rs=>(!a5n u.1.op || a7k P ops b u.1 u.2 (a0q r.tm) r.v W ss) && a8o P ops b W ss rest rs
 | [],[]=>true
 | _,_=>false
def b6n (b:Array Nat) (x:Nat) (A B:List (Oper×Nat)):Bool :=
 B.all (fun u=>a1a u.1.op || a4a b u.2 x) &&
 A.all (fun u=>!a4a b u.2 x) &&
 B.all (fun u=>!a4a b u.2 x || A.all fun h=>a1a h.1.op || a4a b u.2 h.2)
def b2l (call:Nat→List LV→St→Option (LV×St)) (P:Program) (nt:Nat) (ops:Array Oper) (tm:Tm) (s:St):Option (Tm×St) :=
 match a6g (CheckFast.beforeF ops) ops.toList.zipIdx ops.toList.zipIdx with
 | none=>none
 | some (A0,x,B0)=>match a7j (CheckFast.beforeF ops) x.2 B0 with
   | (B1,B2)=>match b9z call P nt ops (((A0++B1)++x::B2).map (·.1)) tm s [] with
     | none=>none
     | some (tm',s',rs) =>
       cond (P.follows .mixedOrders && b2m ops && Region.noSelect ops && a8y x.1.op && x.1.guard.isNone && x.1.dst.isSome && a8q ops (CheckFast.beforeF ops) x.2 ((A0++B1)++x::B2) && b6n (CheckFast.beforeF ops) x.2 (A0++B1) B2 &&
        a8o P ops (CheckFast.beforeF ops) ((A0++B1)++x::B2) ((s'::rs.map (·.s)).reverse) ((A0++B1)++x::B2) rs.reverse) (some (tm',s')) none
def b3i (call:Nat→List LV→St→Option (LV×St)) (P:Program) (nt:Nat) (ops:Array Oper) (draw:Bool) (tm:Tm) (s:St):Option (Tm×St) :=
 match draw with
 | false=>(match b9z call P nt ops ops.toList tm s [] with
   | none=>none
   | some (tm',s',rs)=>some (tm',s'))
 | true=>cond (P.follows .mixedOrders && b3g ops)
   (match b9z call P nt ops ops.toList tm s [] with
   | none=>none
   | some (tm',s',rs)=>cond (b3w P ops (Go.CheckFast.beforeF ops) ((s'::rs.map (·.s)).reverse) 0 ops.toList rs.reverse) (some (tm',s')) (b2l call P nt ops tm s))
   (b2l call P nt ops tm s)
def a2f (P:Program) (tm:Nat→LV) (s:St):List ResultVar→Option (List LV)
 | []=>some []
 | .tmp t::rest=>(match a2f P tm s rest with | some vs=>some (tm t::vs) | none=>none)
 | .cell a t::rest=>(match tm a,a2f P tm s rest with
   | .ptr b o,some vs=>(match b6e P s t b o with | some v=>some (v::vs) | none=>none)
   | _,_=>none)
def a4l:List LV→LV
 | [v]=>v
 | vs=>.tup vs
def a4q:List LV→Nat→Tm→Option Tm
 | [],_,tm=>some tm
 | v::vs,k,tm=>match tm.set 16 k v with | some t=>a4q vs (k+1) t | none=>none
abbrev Ctr:=Nat→Option (List LV→St→Option (LV×St))
def d8q:Ctr:=fun _=>none
mutual
def a3f (P:Program) (ctr:Ctr):Nat→Nat→Code→Tm→St→Option (LX×Tm×St)
 | 0,_,_,_,_=>none
 | n+1,nt,c,tm,s =>
   match c with
   | .skip=>some (.normal,tm,s)
   | .label _=>some (.normal,tm,s)
   | .region _ ops d=>(match b3i (d1q P ctr n) P nt ops d tm s with
     | some (tm',s')=>some (.normal,tm',s')
     | none=>none)
   | .seq a b=>(match a3f P ctr n nt a tm s with
     | some (.normal,tm',s')=>a3f P ctr n nt b tm' s'
     | r=>r)
   | .cond x a b=>(match b3o (a0q tm) x with
     | some (.bool true)=>a3f P ctr n nt a tm s
     | some (.bool false)=>a3f P ctr n nt b tm s
     | _=>none)
   | .block id b=>(match a3f P ctr n nt b tm s with
     | some (.exit k,tm',s')=>cond (Nat.beq k id) (some (.normal,tm',s')) (some (.exit k,tm',s'))
     | r=>r)
   | .loop b=>(match a3f P ctr n nt b tm s with
     | some (.normal,tm',s')=>a3f P ctr n nt (.loop b) tm' s'
     | r=>r)
   | .exit id=>some (.exit id,tm,s)
   | .ret=>some (.ret,tm,s)
   | _=>none
def d1q (P:Program) (ctr:Ctr):Nat→Nat→List LV→St→Option (LV×St)
 | 0,_,_,_=>none
 | n+1,f,args,s =>
   match ctr f with
   | some g=>g args s
   | none =>
   match P.funcs[f]? with
   | none=>none
   | some fn=>match fn.body,a4q args 0 .leaf with
     | some c,some tm=>cond (Nat.ble args.length fn.ntmps) (match a3f P ctr n fn.ntmps c tm s with
       | some (.normal,tm',s')=>(match a2f P (a0q tm') s' fn.results.toList with | some vs=>some (a4l vs,s') | none=>none)
       | some (.ret,tm',s')=>(match a2f P (a0q tm') s' fn.results.toList with | some vs=>some (a4l vs,s') | none=>none)
       | _=>none) none
     | _,_=>none
end
def lrun (P:Program) (fuel f:Nat) (g:List (Nat×List LV):=[]):Option LV:=match d1q P d8q fuel f [] ⟨.leaf,0,g⟩ with | some (v,_)=>some v | none=>none
end
end
section
open Go.RowKit
variable {P:Program} {r:Ren}
theorem c0z {v:Value} {l:LV} (h:c1a v=some l):VR r l v:=by
 unfold c1a at h
 split at h <;> simp at h <;> subst h <;> simp [VR]
theorem b7n:∀ {vs:List Value} {ls:List LV},b1g vs=some ls→VRs r ls vs
 | [],ls,h=>by simp [b1g] at h; subst h; simp [VRs]
 | v::vs,ls,h=>by
   simp only [b1g] at h
   cases h1:c1a v with
   | none=>simp [h1] at h
   | some l =>
     cases h2:b1g vs with
     | none=>simp [h1,h2] at h
     | some ls' =>
       simp [h1,h2] at h; subst h
       simp only [VRs]
       exact⟨v,vs,rfl,c0z h1,b7n h2⟩
theorem b0f {v:Value} {l:LV} (h:a6w v=some l):VR r l v:=by
 unfold a6w at h
 split at h
 ·rename_i cs
  cases h2:b1g cs.toList with
  | none=>simp [h2] at h
  | some ls =>
    simp [h2] at h; subst h
    simp only [VR]
    exact⟨cs.toList,rfl,b7n h2⟩
 ·exact c0z h
theorem a7m:∀ {ls:List LV},a9f ls=true→∀ l∈ls,l.plain=true
 | [],_,l,hl=>by cases hl
 | a::as,h,l,hl=>by
   simp only [a9f] at h
   cases ha:a.plain with
   | false=>simp [ha] at h
   | true =>
     simp [ha] at h
     cases hl with
     | head=>exact ha
     | tail _ hm=>exact a7m h l hm
theorem LV.g9v {l:LV} {cs:List LV} {v:Value} (h:l.cells=some cs) (hv:VR r l v):(∀ c∈cs,c.plain=true)∧VRs r cs v.cells.toList:=by
 cases l with
 | agg ds =>
   simp only [LV.cells] at h
   cases ha:a9f ds with
   | false=>simp [ha] at h
   | true =>
     simp [ha] at h; subst h
     simp only [VR] at hv
     obtain⟨us,rfl,h2⟩:=hv
     exact⟨a7m ha,by simpa [Value.cells] using h2⟩
 | tup ds=>simp [LV.cells] at h
 | any=>simp [LV.cells] at h
 | _ =>
   simp [LV.cells] at h; subst h
   refine⟨by simp [LV.plain],?_⟩
   have hone:v.oneCell'=true:=hv.one rfl
   have:v.cells=#[v]:=by cases v <;> first | rfl | simp [Value.oneCell'] at hone
   rw [this]
   simp only [VRs]
   exact⟨v,[],rfl,hv,rfl⟩
theorem a8t (k:IntKind) (n:Int):a8a k n=k.wrap n:=by
 unfold a8a
 split
 ·rename_i m
  cases hb:Nat.ble m 9223372036854775807 with
  | false=>rfl
  | true =>
    have:=Nat.le_of_ble_eq_true hb
    have h1:((m:Int) % (2 ^ 64:Int))=m:=Int.emod_eq_of_lt (by omega) (by omega)
    simp only [cond_true,IntKind.wrap,IntKind.bits,IntKind.signed,Int.ofNat_eq_natCast,h1]
    rw [if_neg (by simp; try omega)]
 ·rename_i m
  cases hb:Nat.ble m 18446744073709551615 with
  | false=>rfl
  | true =>
    have:=Nat.le_of_ble_eq_true hb
    have h1:((m:Int) % (2 ^ 64:Int))=m:=Int.emod_eq_of_lt (by omega) (by omega)
    simp only [cond_true,IntKind.wrap,IntKind.bits,IntKind.signed,Int.ofNat_eq_natCast,h1]
    rw [if_neg (by simp; try omega)]
 ·rfl
theorem c8e {op:BinOp} {x y:Int} {l:LV} (h:d3p op x y=some l) (w:World):∃ v,(Op.intCmp op x y).run P w=.ok v w∧VR r l v:=by
 unfold d3p at h
 unfold Op.intCmp
 split at h <;> simp at h <;> subst h <;> simp [VR]
theorem c1x {op:BinOp} {k:IntKind} {x y:Int} {l:LV} (h:b2o op k x y=some l) (w:World) (t:TypeId) (hs:op≠.shl) (hs':op≠.shr) :
  ∃ v,(binOp op t (.int k x) (.int k y)).run P w=.ok v w∧VR r l v:=by
 unfold binOp
 unfold b2o at h
 cases op <;> simp only [a8t] at h <;> (try (exact absurd rfl hs)) <;> (try (exact absurd rfl hs'))
 case add=>simp at h; subst h; simp [Op.intArith,VR]
 case sub=>simp at h; subst h; simp [Op.intArith,VR]
 case mul=>simp at h; subst h; simp [Op.intArith,VR]
 case quo =>
  by_cases hy:y=0
  ·simp [hy] at h
  ·have:(y == 0)=false:=by simp [hy]
   simp [this] at h; subst h; simp [Op.intDiv,hy,VR]
 case rem =>
  by_cases hy:y=0
  ·simp [hy] at h
  ·have:(y == 0)=false:=by simp [hy]
   simp [this] at h; subst h; simp [Op.intDiv,hy,VR]
 case and=>simp at h; subst h; simp [Op.intBits,VR]
 case or=>simp at h; subst h; simp [Op.intBits,VR]
 case xor=>simp at h; subst h; simp [Op.intBits,VR]
 case andNot=>simp at h; subst h; simp [Op.intBits,VR]
 all_goals (simp only [ne_eq,not_true_eq_false,if_false]; exact c8e h w)
theorem b4a {op:BinOp} {k:IntKind} {x y:Int} {yk:IntKind} {l:LV} (h:b6c op k x y=some l) (w:World) :
  ∃ v,(Op.shift op k x yk y).run P w=.ok v w∧VR r l v:=by
 unfold b6c at h
 by_cases hy:y < 0
 ·simp [hy] at h
 ·simp only [hy,decide_false,cond_false] at h
  unfold Op.shift
  rw [if_neg hy]
  split at h <;> simp at h <;> subst h <;> simp [VR]
theorem c4n {op:BinOp} {x y:List UInt8} {l:LV} (h:c4o op x y=some l) (w:World) :
  ∃ v,(Op.stringOp op ⟨x.toArray⟩ ⟨y.toArray⟩).run P w=.ok v w∧VR r l v:=by
 unfold c4o at h
 unfold Op.stringOp
 simp only [ByteArray.toList_mk]
 split at h
 ·cases hb:Nat.ble (x.length+y.length) 1000000000 with
  | false=>simp [hb] at h
  | true =>
    have hle:=Nat.le_of_ble_eq_true hb
    simp [hb] at h; subst h
    have:¬ ((((⟨x.toArray⟩:ByteArray).size+(⟨y.toArray⟩:ByteArray).size:Nat):Int) > IntKind.i64.max):=by
     have e:(⟨x.toArray⟩:ByteArray).size=x.length:=rfl
     have e':(⟨y.toArray⟩:ByteArray).size=y.length:=rfl
     rw [e,e']
     simp [IntKind.max,IntKind.signed,IntKind.bits]; omega
    rw [if_neg this]
    refine⟨_,rfl,?_⟩
    simp only [VR]
    congr 1
 all_goals (simp at h; try (subst h; simp [VR]))
theorem a8u {t:TypeId} {cs:List LV} {off:Nat} {l:LV} {us:List Value} (h:a7g P t cs off=some l) (hv:VRs r cs us) (w:World) :
  ∃ v,(part t us.toArray off).run P w=.ok v w∧VR r l v:=by
 unfold a7g at h
 unfold part
 cases ha:b8l P t with
 | none=>simp [ha] at h
 | some b =>
   cases b with
   | true =>
     simp only [ha] at h
     cases hn:a1g P t with
     | none=>simp [hn] at h
     | some n =>
       simp only [hn] at h
       cases hc:cut cs off n with
       | none=>simp [hc] at h
       | some c =>
         simp [hc] at h; subst h
         simp only [Sem.run_bind,a5d ha,Result.andThen_ok,if_true,a0m hn,Sem.run_pure]
         refine⟨_,rfl,?_⟩
         simp only [VR]
         refine⟨(us.drop off).take n,by simp,?_⟩
         obtain⟨q1,q2⟩:=a6m _ _ _ _ hc
         have hl:=hv.length
         by_cases hn0:n=0
         ·subst hn0; have:c=[]:=by cases c <;> simp_all
          subst this; simp [VRs]
         ·refine VRs.mk ?_ fun i x hx=>?_
          ·have:=q2 (n - 1) (by omega)
           rw [List.getElem?_eq_getElem (by omega)] at this
           have:=(List.getElem?_eq_some_iff.1 this.symm).1
           simp; omega
          ·have hi:i < n:=by rw [← q1]; exact(List.getElem?_eq_some_iff.1 hx).1
           rw [q2 i hi] at hx
           obtain⟨u,g1,g2⟩:=hv.get hx
           exact⟨u,by rw [List.getElem?_take_of_lt hi,List.getElem?_drop]; exact g1,g2⟩
   | false =>
     simp only [ha,b0s] at h
     obtain⟨u,g1,g2⟩:=hv.get h
     simp only [Sem.run_bind,a5d ha,Result.andThen_ok,Bool.false_eq_true,if_false]
     exact⟨u,by simp [g1],g2⟩
theorem c1s:∀ (d:Nat) {t:TypeId} {x y:LV} {b:Bool} {u v:Value} (w:World),leq P d t x y=some b→VR r x u→VR r y v →
  (Op.equalIn d t u v).run P w=.ok b w:=by
 intro d
 induction d with
 | zero=>intro t x y b u v w h; simp [leq] at h
 | succ d ih =>
   intro t x y b u v w h hx hy
   unfold leq at h
   cases hu:P.underlying t with
   | none=>simp [hu] at h
   | some de =>
     rw [hu] at h
     split at h
     case h_1 e1 =>
      simp at e1; subst e1; simp only [VR] at hx hy; subst hx hy; simp at h; subst h
      exact run_equalIn_bool' w d t _ _ hu
     case h_2 k a k' b' e1 =>
      simp at e1; subst e1; simp only [VR] at hx hy; subst hx hy
      by_cases hk:k=k'
      ·subst hk; simp at h; subst h; exact run_equalIn_int w d t _ _ _ _ hu
      ·simp [hk] at h
     case h_3 e1 =>
      simp at e1; subst e1; simp only [VR] at hx hy; subst hx hy; simp at h; subst h
      rw [run_equalIn_string w d t _ _ hu]; simp
     case h_4 e1=>simp at e1; subst e1; simp only [VR] at hx hy; subst hx hy; simp at h; subst h; simp [Op.equalIn,a0h hu]
     case h_5 e1=>simp at e1; subst e1; simp only [VR] at hx hy; obtain⟨B,q,c,_,rfl⟩:=hy; subst hx; simp at h; subst h; simp [Op.equalIn,a0h hu]
     case h_6 e1=>simp at e1; subst e1; simp only [VR] at hx hy; obtain⟨B,q,c,_,rfl⟩:=hx; subst hy; simp at h; subst h; simp [Op.equalIn,a0h hu]
     case h_7 e1=>simp at e1; subst e1; simp only [VR] at hx hy; subst hx hy; simp at h; subst h; simp [Op.equalIn,a0h hu]
     case h_8 e1=>simp at e1; subst e1; simp only [VR] at hx hy; obtain⟨u',rfl,_⟩:=hy; subst hx; simp at h; subst h; simp [Op.equalIn,a0h hu]
     case h_9 e1=>simp at e1; subst e1; simp only [VR] at hx hy; obtain⟨u',rfl,_⟩:=hx; subst hy; simp at h; subst h; simp [Op.equalIn,a0h hu]
     case h_10 tx vx ty vy e1 =>
      simp at e1; subst e1; simp only [VR] at hx hy
      obtain⟨u',rfl,hx'⟩:=hx
      obtain⟨v',rfl,hy'⟩:=hy
      simp only [Op.equalIn,Sem.run_bind,a0h hu,Result.andThen_ok]
      by_cases ht:tx=ty
      ·subst ht
       simp only [decide_true,cond_true] at h
       cases hi:P.info? tx with
       | none=>simp [hi] at h
       | some i =>
         simp only [hi] at h
         cases hc:i.comparable with
         | false=>simp [hc] at h
         | true =>
           simp only [hc,cond_true] at h
           simp only [ne_eq,not_true_eq_false,if_false,Sem.run_bind,a9r hi,Result.andThen_ok,hc,Bool.not_true,Bool.false_eq_true]
           simpa using ih w h hx' hy'
      ·simp [ht] at h; subst h
       simp [ht]
     case h_11 fs xs ys e1 =>
      simp at e1; subst e1; simp only [VR] at hx hy
      obtain⟨us,rfl,hx'⟩:=hx
      obtain⟨vs,rfl,hy'⟩:=hy
      cases hp:P.stoodInHeld t with
      | true=>simp [hp] at h
      | false =>
        simp only [hp,cond_false] at h
        have hf:P.fieldsOf t=fs:=by simp [Program.fieldsOf,hu]
        rw [run_equalIn_struct w d t _ _ (by rw [hf]; exact hu) hp,hf]
        generalize fs.toList=fl at h
        clear hu hf
        induction fl with
        | nil=>simp [a7c] at h; subst h; simp [Op.eqFields]
        | cons f fl ihf =>
          simp only [a7c] at h
          by_cases hn:f.name = "_"
          ·have:(f.name == "_")=true:=by simp [hn]
           simp only [this,cond_true] at h
           simp only [Op.eqFields,hn,ne_eq,not_true_eq_false,if_false]
           exact ihf h
          ·have:(f.name == "_")=false:=by simp [hn]
           simp only [this,cond_false] at h
           simp only [Op.eqFields,ne_eq,hn,not_false_eq_true,if_true]
           cases h1:a7g P f.type xs f.offset with
           | none=>simp [h1] at h
           | some a =>
             cases h2:a7g P f.type ys f.offset with
             | none=>simp [h1,h2] at h
             | some b' =>
               simp only [h1,h2] at h
               obtain⟨va,g1,g2⟩:=a8u h1 hx' w
               obtain⟨vb,g3,g4⟩:=a8u h2 hy' w
               simp only [Sem.run_bind,g1,g3,Result.andThen_ok]
               cases he:leq P d f.type a b' with
               | none=>simp [he] at h
               | some q =>
                 simp only [he] at h
                 rw [ih w he g2 g4]
                 cases q with
                 | true=>simp only [Result.andThen_ok,Bool.not_true,Bool.false_eq_true,if_false]; exact ihf h
                 | false=>simp at h; subst h; simp
     case h_12 e1=>simp at e1; subst e1; simp only [VR] at hx hy; subst hx hy; simp at h; subst h; simp [Op.equalIn,a0h hu]
     case h_13 e1=>simp at e1; subst e1; simp only [VR] at hx hy; obtain⟨B,q,c,_,rfl⟩:=hy; subst hx; simp at h; subst h; simp [Op.equalIn,a0h hu]
     case h_14 e1=>simp at e1; subst e1; simp only [VR] at hx hy; obtain⟨B,q,c,_,rfl⟩:=hx; subst hy; simp at h; subst h; simp [Op.equalIn,a0h hu]
     case h_15 e1=>simp at e1; subst e1; simp only [VR] at hx hy; subst hx hy; simp at h; subst h; simp [Op.equalIn,a0h hu]
     case h_16 e1=>simp at e1; subst e1; simp only [VR] at hx hy; obtain⟨us,rfl,_⟩:=hy; subst hx; simp at h; subst h; simp [Op.equalIn,a0h hu]
     case h_17 e1=>simp at e1; subst e1; simp only [VR] at hx hy; obtain⟨us,rfl,_⟩:=hx; subst hy; simp at h; subst h; simp [Op.equalIn,a0h hu]
     case h_18=>simp at h
end
section
open Go.RowKit
variable {P:Program} {r:Ren}
theorem c1o {op:BinOp} {t:TypeId} {a b:LV} {x y:Operand} {u v:Value} (h:b7v P op t a b=true) (ha:VR r a u) (hb:VR r b v) (w:World) :
  (eqGuard op t x y u v).run P w=.ok () w:=by
 unfold b7v at h
 unfold eqGuard
 cases hop:f0t op with
 | false=>cases op <;> simp [f0t] at hop <;> simp
 | true =>
   simp only [hop] at h
   have h0:(!(match op with | .eql=>true | .neq=>true | _=>false))=false:=by cases op <;> simp [f0t] at hop <;> rfl
   have key:∀ m:Bool,m=true→(!m)=false:=by simp
   split at h
   ·simp at h
   ·simp at h
   ·simp at h
   ·rename_i xs ys
    simp only [VR] at ha hb
    obtain⟨us,rfl,_⟩:=ha
    obtain⟨vs,rfl,_⟩:=hb
    have hg:P.eqGuardType P.depth t=false:=by simpa using h
    cases op <;> simp [f0t] at hop <;> simp [hg]
   ·rename_i hna hnb hn ha'
    have h1:¬ (u=.nilIface∧v=.nilIface):=by
     rintro⟨rfl,rfl⟩
     cases a <;> simp [VR,Emp] at ha <;> try (exact hna rfl)
     cases b <;> simp [VR,Emp] at hb <;> try (exact hnb rfl)
     exact hn rfl rfl
    have h2:∀ us vs,¬ (u=.agg us∧v=.agg vs):=by
     rintro us vs ⟨rfl,rfl⟩
     cases a <;> simp [VR,Emp] at ha <;> try (exact hna rfl)
     cases b <;> simp [VR,Emp] at hb <;> try (exact hnb rfl)
     exact ha' _ _ rfl rfl
    cases op <;> simp [f0t] at hop
    all_goals
     simp only [Bool.not_true,Bool.false_eq_true,if_false]
     cases u <;> cases v <;> first
      | rfl
      | (exact absurd ⟨rfl,rfl⟩ h1)
      | (exact absurd ⟨rfl,rfl⟩ (h2 _ _))
theorem a9e {t:TypeId} {a b:LV} {u v:Value} {q:Bool} {w:World} (hna:a≠.any) (hnb:b≠.any) (ha:VR r a u) (hb:VR r b v) (hi:∀ k x,a≠.int k x∨∀ k' y,b≠.int k' y) (hst:∀ x,a≠.str x∨∀ y,b≠.str y)
  (h:(Op.equal t u v).run P w=.ok q w):(binOp .eql t u v).run P w=.ok (.bool q) w∧(binOp .neq t u v).run P w=.ok (.bool (!q)) w:=by
 have hu:∀ k x k' y,¬ (u=.int k x∧v=.int k' y):=by
  rintro k x k' y ⟨rfl,rfl⟩
  cases a <;> simp [VR,Emp] at ha <;> try (exact hna rfl)
  cases b <;> simp [VR,Emp] at hb <;> try (exact hnb rfl)
  obtain⟨rfl,rfl⟩:=ha; obtain⟨rfl,rfl⟩:=hb
  rcases hi k x with h | h
  ·exact h rfl
  ·exact h k' y rfl
 have hs:∀ x y,¬ (u=.string x∧v=.string y):=by
  rintro x y ⟨rfl,rfl⟩
  cases a <;> simp [VR,Emp] at ha <;> try (exact hna rfl)
  cases b <;> simp [VR,Emp] at hb <;> try (exact hnb rfl)
  rcases hst _ with h | h
  ·exact h rfl
  ·exact h _ rfl
 have hf:∀ k x k' y,¬ (u=.float k x∧v=.float k' y):=by
  rintro k x k' y ⟨rfl,rfl⟩
  cases a <;> simp [VR,Emp] at ha <;> try (exact hna rfl)
 have hc:∀ k x x' k' y y',¬ (u=.complex k x x'∧v=.complex k' y y'):=by
  rintro k x x' k' y y' ⟨rfl,rfl⟩
  cases a <;> simp [VR,Emp] at ha <;> try (exact hna rfl)
 constructor
 ·have:binOp .eql t u v=(do pure (.bool (← Op.equal t u v))):=by
   cases u <;> cases v <;> first
    | rfl
    | (exact absurd ⟨rfl,rfl⟩ (hu _ _ _ _))
    | (exact absurd ⟨rfl,rfl⟩ (hs _ _))
    | (exact absurd ⟨rfl,rfl⟩ (hf _ _ _ _))
    | (exact absurd ⟨rfl,rfl⟩ (hc _ _ _ _ _ _))
  rw [this]; simp [h]
 ·have:binOp .neq t u v=(do pure (.bool (!(← Op.equal t u v)))):=by
   cases u <;> cases v <;> first
    | rfl
    | (exact absurd ⟨rfl,rfl⟩ (hu _ _ _ _))
    | (exact absurd ⟨rfl,rfl⟩ (hs _ _))
    | (exact absurd ⟨rfl,rfl⟩ (hf _ _ _ _))
    | (exact absurd ⟨rfl,rfl⟩ (hc _ _ _ _ _ _))
  rw [this]; simp [h]
theorem b6x {t sp:TypeId} (hu:P.underlying t=some (.slice sp)) (a:Option Addr) (len cap d:Nat) (w:World):∃ q,(Op.equalIn (d+1) t (.slice a len cap) (.slice none 0 0)).run P w=.ok q w∧q=a.isNone:=by
 cases a <;> exact⟨_,by simp [Op.equalIn,a0h hu]; rfl,by rfl⟩
theorem a9z {t sp:TypeId} (hu:P.underlying t=some (.slice sp)) (a:Option Addr) (len cap d:Nat) (w:World):∃ q,(Op.equal t (.slice a len cap) (.slice none 0 0)).run P w=.ok q w∧q=a.isNone:=by
 obtain⟨d,hd⟩:∃ d,Op.maxDepth=d+1:=⟨Op.maxDepth - 1,by decide⟩
 have:Op.equal t (.slice a len cap) (.slice none 0 0)=Op.equalIn Op.maxDepth t (.slice a len cap) (.slice none 0 0):=rfl
 rw [this,hd]
 exact b6x hu a len cap d w
theorem b9c {d:Nat} {t:TypeId} {a b:LV} {q:Bool} (h:leq P d t a b=some q):a≠.any∧b≠.any:=by
 cases d with
 | zero=>simp [leq] at h
 | succ d =>
   constructor <;> rintro rfl
   ·unfold leq at h; split at h <;> simp_all
   ·unfold leq at h; split at h <;> simp_all
theorem c8f {op:BinOp} {t:TypeId} {a b l:LV} {x y:Operand} {u v:Value} (h:d6o P op t a b=some l) (ha:VR r a u) (hb:VR r b v) (w:World) :
  ∃ q,((do eqGuard op t x y u v; binOp op t u v:Sem Value)).run P w=.ok q w∧VR r l q:=by
 unfold d6o at h
 cases hg:b7v P op t a b with
 | false=>simp [hg] at h
 | true =>
   simp only [hg,cond_true] at h
   simp only [Sem.run_bind,c1o hg ha hb w,Result.andThen_ok]
   split at h
   ·rename_i b o len d
    have hs:∃ sp,P.underlying t=some (.slice sp):=by
     split at h
     ·rename_i e1; exact⟨_,e1⟩
     ·rename_i e1; exact⟨_,e1⟩
     ·simp at h
    obtain⟨sp,e1⟩:=hs
    have hq:∃ q,(Op.equal t u v).run P w=.ok q w∧(Nat.beq len 0=false→q=false):=by
     simp only [VR] at ha hb
     subst hb
     rcases ha with⟨B,q,c,_,_,rfl⟩ | ⟨_,rfl | ⟨a,rfl⟩⟩
     ·obtain⟨q,k1,k2⟩:=a9z e1 (some ⟨B,q+o,none⟩) len (c - d) 0 w
      exact⟨q,k1,fun _=>by simpa using k2⟩
     ·rename_i h0; subst h0
      obtain⟨q,k1,k2⟩:=a9z e1 none 0 0 0 w
      exact⟨q,k1,fun h=>by simp [Nat.beq] at h⟩
     ·rename_i h0; subst h0
      obtain⟨q,k1,k2⟩:=a9z e1 (some a) 0 0 0 w
      exact⟨q,k1,fun h=>by simp [Nat.beq] at h⟩
    obtain⟨q,hq,hqf⟩:=hq
    have:=a9e (r:=r) (a:=.slo b o len d) (b:=.nils) (by simp) (by simp) ha hb (fun k x=>.inl (by simp)) (fun x=>.inl (by simp)) hq
    split at h
    ·simp only [Option.some.injEq] at h; subst h
     refine⟨_,this.1,?_⟩
     cases hz:Nat.beq len 0 with
     | true=>simp only [cond_true,VR]; cases q <;> simp
     | false=>simp only [cond_false,VR,hqf hz]
    ·simp only [Option.some.injEq] at h; subst h
     refine⟨_,this.2,?_⟩
     cases hz:Nat.beq len 0 with
     | true=>simp only [cond_true,VR]; cases q <;> simp
     | false=>simp only [cond_false,VR,hqf hz]; rfl
    ·simp at h
   ·rename_i k x' k' y'
    simp only [VR] at ha hb; subst ha hb
    split at h
    ·obtain⟨q,h1,h2⟩:=b4a (r:=r) (yk:=k') h w
     exact⟨q,by unfold binOp; exact h1,h2⟩
    ·obtain⟨q,h1,h2⟩:=b4a (r:=r) (yk:=k') h w
     exact⟨q,by unfold binOp; exact h1,h2⟩
    ·rename_i n1 n2
     by_cases hk:k=k'
     ·subst hk
      simp only [decide_true,cond_true] at h
      exact c1x h w t (fun e=>n1 e) (fun e=>n2 e)
     ·simp [hk] at h
   ·simp only [VR] at ha hb; subst ha hb
    obtain⟨q,h1,h2⟩:=c4n (r:=r) h w
    refine⟨q,?_,h2⟩
    rw [← h1]
    cases op <;> rfl
   ·rename_i n1 n2
    have hi:∀ k x,a≠.int k x∨∀ k' y,b≠.int k' y:=by
     intro k x
     by_cases e:a=.int k x
     ·right; intro k' y e'; exact n1 _ _ _ _ e e'
     ·exact .inl e
    have hst:∀ x,a≠.str x∨∀ y,b≠.str y:=by
     intro x
     by_cases e:a=.str x
     ·right; intro y e'; exact n2 _ _ e e'
     ·exact .inl e
    split at h
    ·cases he:leq P Op.maxDepth t a b with
     | none=>simp [he] at h
     | some q =>
       simp [he] at h; subst h
       exact⟨_,(a9e (b9c he).1 (b9c he).2 ha hb hi hst (c1s _ w he ha hb)).1,by simp [VR]⟩
    ·cases he:leq P Op.maxDepth t a b with
     | none=>simp [he] at h
     | some q =>
       simp [he] at h; subst h
       exact⟨_,(a9e (b9c he).1 (b9c he).2 ha hb hi hst (c1s _ w he ha hb)).2,by simp [VR]⟩
    ·simp at h
theorem d1m {op:UnOp} {a l:LV} {u:Value} (h:lun op a=some l) (ha:VR r a u) (w:World):∃ q,(Op.unary op u).run P w=.ok q w∧VR r l q:=by
 unfold lun at h
 split at h <;> (try simp only [VR] at ha) <;> (try subst ha) <;> simp [a8t] at h <;> subst h
 ·simp [Op.unary,Op.intArith,VR]
 ·simp [Op.unary,Op.intBits,VR]
 ·simp [Op.unary,VR]
theorem a8e {ev:Operand→Option LV} {ρ : Operand→Value} (hev:∀ x l,ev x=some l→VR r l (ρ x)):∀ {xs:List Operand} {ls:List LV},b1n ev xs=some ls→VRs r ls (xs.map ρ)
 | [],ls,h=>by simp [b1n] at h; subst h; simp [VRs]
 | x::xs,ls,h=>by
   simp only [b1n] at h
   cases h1:ev x with
   | none=>simp [h1] at h
   | some l =>
     cases h2:b1n ev xs with
     | none=>simp [h1,h2] at h
     | some ls' =>
       simp [h1,h2] at h; subst h
       simp only [List.map_cons,VRs]
       exact⟨_,_,rfl,hev x l h1,a8e hev h2⟩
def PR (r:Ren):List (Nat×LV)→List (Nat×Value)→Prop
 | [],vs=>vs=[]
 | (i,l)::ls,vs=>∃ u us,vs=(i,u)::us∧VR r l u∧PR r ls us
theorem b0n {ev:Operand→Option LV} {ρ : Operand→Value} (hev:∀ x l,ev x=some l→VR r l (ρ x)):∀ {xs:List (Nat×Operand)} {ls:List (Nat×LV)},a5o ev xs=some ls→PR r ls (xs.map fun(i,x)=>(i,ρ x))
 | [],ls,h=>by simp [a5o] at h; subst h; simp [PR]
 | (i,x)::xs,ls,h=>by
   simp only [a5o] at h
   cases h1:ev x with
   | none=>simp [h1] at h
   | some l =>
     cases h2:a5o ev xs with
     | none=>simp [h1,h2] at h
     | some ls' =>
       simp [h1,h2] at h; subst h
       simp only [List.map_cons,PR]
       exact⟨_,_,rfl,hev x l h1,b0n hev h2⟩
theorem c2k (off:Nat):∀ (vs:List Value) (k:Nat) (c:Array Value),off+k+vs.length≤c.size →
  ((vs.zipIdx k).foldl (fun cs (x:Value×Nat)=>cs.setIfInBounds (off+x.2) x.1) c).toList.length=c.size ∧
  ∀ j:Nat,((vs.zipIdx k).foldl (fun cs (x:Value×Nat)=>cs.setIfInBounds (off+x.2) x.1) c)[j]? = if off+k≤j∧j < off+k+vs.length then vs[j - (off+k)]? else c[j]?
 | [],k,c,h=>⟨by simp,fun j=>by rw [if_neg (by simp)]; simp⟩
 | v::vs,k,c,h=>by
   simp only [List.length_cons] at h
   simp only [List.zipIdx_cons,List.foldl_cons]
   obtain⟨h1,h2⟩:=c2k off vs (k+1) (c.setIfInBounds (off+k) v) (by simp; omega)
   refine⟨by rw [h1]; simp,fun j=>?_⟩
   rw [h2]
   by_cases hj:j=off+k
   ·subst hj
    rw [if_neg (by omega),if_pos (by simp),Array.getElem?_setIfInBounds_self_of_lt (by omega)]
    simp
   ·by_cases hin:off+(k+1)≤j∧j < off+(k+1)+vs.length
    ·rw [if_pos hin,if_pos (by simp; omega),show j - (off+k)=(j - (off+(k+1)))+1 by omega,List.getElem?_cons_succ]
    ·rw [if_neg hin,if_neg (by simp; omega),Array.getElem?_setIfInBounds_ne (by omega)]
theorem a7b {place place':Nat→Option (Nat×Nat)} (hp:∀ i x,place i=some x→place' i=some x):∀ {ps:List (Nat×LV)} {qs:List (Nat×Value)} {cs ds:List LV} {us:List Value},
  b0q place cs ps=some ds→PR r ps qs→VRs r cs us→∃ vs:List Value,Instr.fill place' us.toArray qs=some vs.toArray∧VRs r ds vs
 | [],qs,cs,ds,us,h,hq,hv=>by
   simp [b0q] at h; subst h
   simp only [PR] at hq; subst hq
   exact⟨us,by simp [Instr.fill],hv⟩
 | (i,l)::ps,qs,cs,ds,us,h,hq,hv=>by
   simp only [PR] at hq
   obtain⟨u,qs',rfl,hl,hq'⟩:=hq
   simp only [b0q] at h
   cases h1:place i with
   | none=>simp [h1] at h
   | some x =>
     obtain⟨off,size⟩:=x
     cases h2:l.cells with
     | none=>simp [h1,h2] at h
     | some c0 =>
       cases c0 with
       | nil=>simp [h1,h2] at h
       | cons c c' =>
         simp only [h1,h2,a0t] at h
         by_cases hsz:c'.length+1=size
         ·simp only [hsz,decide_true,cond_true] at h
          cases h3:lay cs off (c::c') with
          | none=>simp [h3] at h
          | some cs' =>
            simp only [h3] at h
            obtain⟨q1,q2,q3⟩:=b4d _ _ _ _ h3
            obtain⟨g1,g2⟩:=LV.g9v h2 hl
            have hul:=hv.length
            have hcl:=g2.length
            have hin:=q2 (by simp)
            simp only [List.length_cons] at hcl hin q3
            have hcs:u.cells.size=size:=by rw [← hsz,← hcl]; simp
            simp only [Instr.fill,hp i _ h1,hcs]
            have hno:(decide (size≠size) || decide (off+size > us.toArray.size))=false:=by simp; omega
            simp only [hno]
            have hfold:=c2k off u.cells.toList 0 us.toArray (by simp; omega)
            have hz:u.cells.zipIdx.foldl (fun cs (x:Value×Nat)=>cs.setIfInBounds (off+x.2) x.1) us.toArray=(u.cells.toList.zipIdx 0).foldl (fun cs (x:Value×Nat)=>cs.setIfInBounds (off+x.2) x.1) us.toArray:=by
             rw [← Array.foldl_toList]; simp
            obtain⟨f1,f2⟩:=hfold
            generalize hF:(u.cells.toList.zipIdx 0).foldl (fun cs (x:Value×Nat)=>cs.setIfInBounds (off+x.2) x.1) us.toArray=F at f1 f2
            have hv':VRs r cs' F.toList:=by
             refine VRs.mk (by rw [f1]; simp; omega) fun j lv hj=>?_
             rw [q3] at hj
             have:=f2 j
             simp only [Nat.add_zero,hcl] at this
             by_cases hin':off≤j∧j < off+(c'.length+1)
             ·rw [if_pos hin'] at hj this
              obtain⟨v',k1,k2⟩:=g2.get hj
              exact⟨v',by rw [Array.getElem?_toList,this]; exact k1,k2⟩
             ·rw [if_neg hin'] at hj this
              obtain⟨v',k1,k2⟩:=hv.get hj
              exact⟨v',by rw [Array.getElem?_toList,this]; simpa using k1,k2⟩
            obtain⟨vs,k1,k2⟩:=a7b hp h hq' hv'
            refine⟨vs,?_,k2⟩
            simp only [Bool.false_eq_true,if_false]
            rw [← k1]
            congr 1
            first | (rw [hz,hF]) | (rw [← hF,← hz])
         ·simp [hsz] at h
theorem b3x:∀ {fs:List Field} {ps:List (Nat×Nat)},a8p P fs=some ps→∀ w,(fs.mapM fun f=>(Prod.mk f.offset <$> sizeOf f.type:Sem (Nat×Nat))).run P w=.ok ps w
 | [],ps,h,w=>by simp [a8p] at h; subst h; simp
 | f::fs,ps,h,w=>by
   simp only [a8p] at h
   cases h1:a1g P f.type with
   | none=>simp [h1] at h
   | some n =>
     cases h2:a8p P fs with
     | none=>simp [h1,h2] at h
     | some rs =>
       simp [h1,h2] at h; subst h
       simp [List.mapM_cons,a0m h1,b3x h2]
theorem c0x:∀ (l:List (Nat×Nat)) (n:Nat),b7k l n=l[n]?
 | [],n=>by simp [b7k]
 | x::xs,0=>rfl
 | x::xs,n+1=>by
   have h:Nat.sub (n+1) 1=n:=rfl
   have h0:Nat.beq (n+1) 0=false:=rfl
   simp only [b7k,h,h0,cond_false,List.getElem?_cons_succ]
   exact c0x xs n
theorem a2d {t:TypeId} {zs:List LV} (h:a2l P t=some zs):∃ z,(∀ w,(zeroValue t).run P w=.ok z w)∧(∀ c∈zs,c.plain=true)∧VRs r zs z.cells.toList:=by
 unfold a2l at h
 cases h1:a9g P t with
 | none=>simp [h1] at h
 | some z =>
   cases h2:a6w z with
   | none=>simp [h1,h2] at h
   | some l =>
     simp [h1,h2] at h
     exact⟨z,fun w=>b2a h1 w,LV.g9v h (b0f h2)⟩
theorem c1w {t:TypeId} {ps:List (Nat×LV)} {qs:List (Nat×Value)} {l:LV} (h:d1u P t ps=some l) (hq:PR r ps qs) (w:World) :
  ∃ v,(Instr.build t qs.toArray).run P w=.ok v w∧VR r l v:=by
 unfold d1u at h
 cases hu:P.underlying t with
 | none=>simp [hu] at h
 | some d =>
   cases hz:a2l P t with
   | none=>cases d <;> simp [hu,hz] at h
   | some zs =>
     obtain⟨z,z1,z2,z3⟩:=a2d (r:=r) hz
     simp only [Instr.build,Sem.run_bind,z1,Result.andThen_ok,a0h hu]
     cases d <;> simp only [hu,hz] at h <;> try (simp at h; done)
     case array n elem =>
      cases hs:a1g P elem with
      | none=>simp [hs] at h
      | some size =>
        simp only [hs] at h
        cases hf:b0q (fun i=>some (i * size,size)) zs ps with
        | none=>simp [hf] at h
        | some ds =>
          simp [hf] at h; subst h
          obtain⟨vs,k1,k2⟩:=a7b (place':=fun i=>some (i * size,size)) (fun i x hx=>hx) hf hq z3
          simp only [Sem.run_bind,a0m hs,Result.andThen_ok]
          simp only [Array.toArray_toList] at k1
          simp only [k1]
          exact⟨_,rfl,by simp only [VR]; exact⟨vs,rfl,k2⟩⟩
     case struct fields =>
      cases hs:a8p P fields.toList with
      | none=>simp [hs] at h
      | some places =>
        simp only [hs] at h
        cases hf:b0q (b7k places) zs ps with
        | none=>simp [hf] at h
        | some ds =>
          simp [hf] at h; subst h
          obtain⟨vs,k1,k2⟩:=a7b (place':=fun i=>places.toArray[i]?) (fun i x hx=>by rw [c0x] at hx; simpa using hx) hf hq z3
          have hm:(fields.mapM fun f=>(do pure (f.offset,← sizeOf f.type):Sem (Nat×Nat))).run P w=.ok places.toArray w:=by
           rw [Array.mapM_eq_mapM_toList]
           simp [b3x hs]
          simp only [Sem.run_bind,hm,Result.andThen_ok]
          simp only [Array.toArray_toList] at k1
          simp only [k1]
          exact⟨_,rfl,by simp only [VR]; exact⟨vs,rfl,k2⟩⟩
end
section
open Go.RowKit
variable {P:Program} {r:Ren}
theorem a3c (b o n:Nat):(⟨b,o,none⟩:Addr).add n=⟨b,o+n,none⟩:=by unfold Addr.add; split <;> simp_all
theorem b6d {W0:World} {s:St} {w:World} (hI:Inv W0 r s w) {t:TypeId} {b o:Nat} {l:LV} {u:Value} (h:b6e P s t b o=some l) (hu:VR r (.ptr b o) u) :
  ∃ v,(Instr.loadAt t u).run P w=.ok v w∧VR r l v:=by
 simp only [VR] at hu
 obtain⟨B,q,c,hr,rfl⟩:=hu
 unfold b6e at h
 cases hb:s.look b with
 | none=>simp [hb] at h
 | some cs =>
   simp only [hb] at h
   simp only [Instr.loadAt,Instr.sureAddr,Sem.run_bind,Sem.run_pure,Result.andThen_ok,loadVar]
   unfold a7g at h
   cases ha:b8l P t with
   | none=>simp [ha] at h
   | some g =>
     cases g with
     | true =>
       simp only [ha] at h
       cases hn:a1g P t with
       | none=>simp [hn] at h
       | some n =>
         simp only [hn] at h
         cases hc:cut cs o n with
         | none=>simp [hc] at h
         | some cc =>
           simp [hc] at h; subst h
           obtain⟨us,k1,k2,k3⟩:=hI.loadCells (P:=P) hb hr hc
           simp only [a5d ha,Result.andThen_ok,if_true,Sem.run_bind,a0m hn,k3,Sem.run_pure]
           exact⟨_,rfl,by simp only [VR]; exact⟨us,rfl,k1⟩⟩
     | false =>
       simp only [ha,b0s] at h
       obtain⟨k1,v,k2,k3⟩:=hI.cell hb hr h
       simp only [a5d ha,Result.andThen_ok,Bool.false_eq_true,if_false,run_load,k2]
       exact⟨v,rfl,k3⟩
theorem b6m:∀ {l:List (Nat×List LV)} {g:Nat} {cs:List LV},c8i l g=some cs→(g,cs)∈l∧d1y cs=false
 | [],g,cs,h=>by simp [c8i] at h
 | x::xs,g,cs,h=>by
   simp only [c8i,a0t] at h
   by_cases e:x.1=g
   ·cases hf:d1y x.2 with
    | true=>simp [e,hf] at h
    | false=>simp [e,hf] at h; subst h; subst e; exact⟨by simp,hf⟩
   ·simp [e] at h; exact⟨List.mem_cons_of_mem _ (b6m h).1,(b6m h).2⟩
theorem c1p {W0:World} {s:St} {w:World} (hI:Inv W0 r s w) {t:TypeId} {g o:Nat} {l:LV} {u:Value} (h:c6i P s t g o=some l) (hu:VR r (.gptr g o) u) :
  ∃ v,(Instr.loadAt t u).run P w=.ok v w∧VR r l v:=by
 simp only [VR] at hu
 subst hu
 unfold c6i at h
 cases hb:c8i s.g g with
 | none=>simp [hb] at h
 | some cs =>
   simp only [hb] at h
   obtain⟨hm1,hm2⟩:=b6m hb
   rcases hI.gl _ hm1 with⟨F,hF,_⟩ | ⟨c,e,f,h1,h2⟩
   ·simp only at hF; subst hF; cases hm2
   simp only at h1 h2
   have hlt:=(Array.getElem?_eq_some_iff.1 h1).1
   have hw:w.heap[g]? = some (.cells c e f):=by rw [hI.below.block g hlt]; exact h1
   have hcell:∀ (i:Nat) l,cs[i]? = some l→∃ u,w.cell? ⟨g,i,none⟩=some u∧VR r l u:=fun i l hl=>by
    obtain⟨_,u,k1,k2⟩:=h2 i l hl
    exact⟨u,by simp [World.cell?,hw,k1],k2 r⟩
   simp only [Instr.loadAt,Instr.sureAddr,Sem.run_bind,Sem.run_pure,Result.andThen_ok,loadVar]
   unfold a7g at h
   cases ha:b8l P t with
   | none=>simp [ha] at h
   | some q =>
     cases q with
     | true =>
       simp only [ha] at h
       cases hn:a1g P t with
       | none=>simp [hn] at h
       | some n =>
         simp only [hn] at h
         cases hc:cut cs o n with
         | none=>simp [hc] at h
         | some cc =>
           simp [hc] at h; subst h
           obtain⟨q1,q2⟩:=a6m _ _ _ _ hc
           have hat:∀ i,i < n→∃ l u,cc[i]? = some l∧w.cell? ⟨g,o+i,none⟩=some u∧VR r l u:=fun i hi=>by
            have hl:cc[i]? = some (cc[i]'(by omega)):=List.getElem?_eq_getElem (by omega)
            have h3:=q2 i hi
            rw [hl] at h3
            obtain⟨u,k1,k2⟩:=hcell _ _ h3.symm
            exact⟨_,u,hl,k1,k2⟩
           have hrun:=run_loadCells (P:=P) w ⟨g,o,none⟩ n (fun j=>(w.cell? ⟨g,o+j,none⟩).getD undef) (fun j hj=>by
            obtain⟨l,u,k1,k2,k3⟩:=hat j hj
            rw [a3c,k2]; rfl)
           simp only [a5d ha,Result.andThen_ok,if_true,Sem.run_bind,a0m hn,hrun,Sem.run_pure]
           refine⟨_,rfl,?_⟩
           simp only [VR]
           refine⟨(List.range n).map (fun j=>(w.cell? ⟨g,o+j,none⟩).getD undef),rfl,VRs.mk (by simp [q1]) fun i l hl=>?_⟩
           have hi:i < n:=by rw [← q1]; exact(List.getElem?_eq_some_iff.1 hl).1
           obtain⟨l',u,k1,k2,k3⟩:=hat i hi
           rw [k1] at hl; cases hl
           exact⟨u,by simp [hi,k2],k3⟩
     | false =>
       simp only [ha,b0s] at h
       obtain⟨u,k1,k2⟩:=hcell _ _ h
       simp only [a5d ha,Result.andThen_ok,Bool.false_eq_true,if_false,run_load,k1]
       exact⟨u,rfl,k2⟩
theorem b7x:∀ {l:List (Nat×List LV)} {F:World→Prop},c2o l=some F→∃ x∈l,x.2=[.fact F]
 | [],F,h=>by simp [c2o] at h
 | x::xs,F,h=>by
   simp only [c2o] at h
   split at h
   ·rename_i F' e; cases h; exact⟨x,by simp,e⟩
   ·obtain⟨y,h1,h2⟩:=b7x h; exact⟨y,by simp [h1],h2⟩
theorem b1c {get:Nat→Option LB} {Φ : World→Prop}:∀ {n:Nat},b5k get n=some Φ→∃ t F γ,get t=some (.obj F [.fact Φ] γ)∧F.isSt=true
 | 0,h=>by cases h
 | n+1,h=>by
   unfold b5k at h
   split at h
   ·rename_i F Ψ γ e
    cases hs:F.isSt with
    | true=>simp [hs] at h; subst h; exact⟨n,F,γ,e,hs⟩
    | false=>simp [hs] at h; exact b1c h
   ·exact b1c h
theorem c1f {W0:World} {s:St} {w:World} (hI:Inv W0 r s w) {t:TypeId} {x:Value} {k:Nat} {l:LV} {u:Value} (h:c1g P s t x k=some l) (hu:VR r (.vp x k) u) :
  ∃ v,(Instr.loadAt t u).run P w=.ok v w∧VR r l v:=by
 simp only [VR] at hu
 obtain⟨g,o',n0,c0,rfl,rfl⟩:=hu
 unfold c1g at h
 split at h
 case h_2=>cases h
 rename_i F n' hF hn'
 cases hok:d5o F (.slice (some ⟨g,o',none⟩) n0 c0) k n' with
 | false=>simp [hok] at h
 | true =>
 simp only [hok,cond_true] at h
 obtain⟨_,_,hrow⟩:=c0k hok
 generalize d3m F (.slice (some ⟨g,o',none⟩) n0 c0) k n'=cs at h hrow
 have hFW:F W0∨F w:=by
  unfold d2o at hF
  split at hF
  ·rename_i Φ hs
   cases hF
   obtain⟨t',F',γ,e1,e2⟩:=b1c hs
   obtain⟨y,_,_,q3⟩:=hI.ob.holds t' F' _ γ e1
   have q4:=q3 w hI.below (Nat.le_refl _) fun _ _=>rfl
   rw [show F'.f=f6i from F'.isSt_eq e2] at q4
   obtain⟨F2,e3,e4⟩:=q4
   simp only [List.cons.injEq,LV.fact.injEq,and_true] at e3
   subst e3; exact .inr e4
  obtain⟨y,h1,h2⟩:=b7x hF
  rcases hI.gl _ h1 with⟨F',e1,e2⟩ | ⟨c,e,f,e1,e2⟩
  ·rw [h2] at e1
   simp only [List.cons.injEq,LV.fact.injEq,and_true] at e1
   subst e1; exact .inl e2
  ·obtain⟨_,u,_,q⟩:=e2 0 (.fact F) (by rw [h2]; rfl)
   have:=q r
   simp only [VR] at this
 have hrow':∃ B o2 n2 c2 cc e f,Value.slice (some ⟨g,o',none⟩) n0 c0=.slice (some ⟨B,o2,none⟩) n2 c2∧w.heap[B]? = some (.cells cc e f)∧∀ (i:Nat) l,cs[i]? = some l→l.plain=true∧∃ u,cc[o2+k+i]? = some u∧∀ r,VR r l u:=by
  rcases hFW with hFW | hFW
  ·obtain⟨B,o2,n2,c2,cc,e,f,q1,q2,q3⟩:=hrow W0 hFW
   exact⟨B,o2,n2,c2,cc,e,f,q1,by rw [hI.below.block _ (Array.getElem?_eq_some_iff.1 q2).1]; exact q2,q3⟩
  ·obtain⟨B,o2,n2,c2,cc,e,f,q1,q2,q3⟩:=hrow w hFW
   exact⟨B,o2,n2,c2,cc,e,f,q1,q2,q3⟩
 obtain⟨B,o2,n2,c2,cc,e,f,q1,q2,q3⟩:=hrow'
 simp only [Value.slice.injEq,Option.some.injEq,Addr.mk.injEq,and_true] at q1
 obtain⟨⟨rfl,rfl⟩,rfl,rfl⟩:=q1
 have hw:w.heap[g]? = some (.cells cc e f):=q2
 have hcell0:∀ (i:Nat) l,cs[i]? = some l→∃ u,w.cell? ⟨g,o'+k+i,none⟩=some u∧VR r l u:=fun i l hl=>by
  obtain⟨_,u,k1,k2⟩:=q3 i l hl
  exact⟨u,by simp [World.cell?,hw,k1],k2 r⟩
 clear q3 q2 hrow
 generalize o'+k=o at hcell0 ⊢
 simp only [Instr.loadAt,Instr.sureAddr,Sem.run_bind,Sem.run_pure,Result.andThen_ok,loadVar]
 unfold a7g at h
 cases ha:b8l P t with
 | none=>simp [ha] at h
 | some q =>
   cases q with
   | true =>
     simp only [ha,hn'] at h
     cases hc:cut cs 0 n' with
     | none=>simp [hc] at h
     | some cc =>
       simp [hc] at h; subst h
       obtain⟨q1,q2⟩:=a6m _ _ _ _ hc
       have hat:∀ i,i < n'→∃ l u,cc[i]? = some l∧w.cell? ⟨g,o+i,none⟩=some u∧VR r l u:=fun i hi=>by
        have hl:cc[i]? = some (cc[i]'(by omega)):=List.getElem?_eq_getElem (by omega)
        have h3:=q2 i hi
        rw [hl,Nat.zero_add] at h3
        obtain⟨u,k1,k2⟩:=hcell0 _ _ h3.symm
        exact⟨_,u,hl,k1,k2⟩
       have hrun:=run_loadCells (P:=P) w ⟨g,o,none⟩ n' (fun j=>(w.cell? ⟨g,o+j,none⟩).getD undef) (fun j hj=>by
        obtain⟨l,u,k1,k2,k3⟩:=hat j hj
        rw [a3c,k2]; rfl)
       simp only [a5d ha,Result.andThen_ok,if_true,Sem.run_bind,a0m hn',hrun,Sem.run_pure]
       refine⟨_,rfl,?_⟩
       simp only [VR]
       refine⟨(List.range n').map (fun j=>(w.cell? ⟨g,o+j,none⟩).getD undef),rfl,VRs.mk (by simp [q1]) fun i l hl=>?_⟩
       have hi:i < n':=by rw [← q1]; exact(List.getElem?_eq_some_iff.1 hl).1
       obtain⟨l',u,k1,k2,k3⟩:=hat i hi
       rw [k1] at hl; cases hl
       exact⟨u,by simp [hi,k2],k3⟩
   | false =>
     simp only [ha,b0s] at h
     obtain⟨u,k1,k2⟩:=hcell0 _ _ h
     rw [Nat.add_zero] at k1
     simp only [a5d ha,Result.andThen_ok,Bool.false_eq_true,if_false,run_load,k1]
     exact⟨u,rfl,k2⟩
theorem b4l {t:TypeId} {x l:LV} {f:Nat} {u:Value} (h:a5s P t x f=some l) (hu:VR r x u) (w:World) :
  ∃ v,(Instr.fieldAt t u f).run P w=.ok v w∧VR r l v:=by
 unfold a5s at h
 split at h
 ·rename_i fields b o e1
  simp only [VR] at hu
  obtain⟨B,q,c,hr,rfl⟩:=hu
  cases hf:fields[f]? with
  | none=>simp [hf] at h
  | some fd =>
    simp only [hf] at h
    cases hn:a1g P fd.type with
    | none=>simp [hn] at h
    | some n =>
      simp only [hn,a0t] at h
      by_cases h0:n=0
      ·simp [h0] at h
      ·simp [h0] at h; subst h
       simp only [Instr.fieldAt,Sem.run_bind,a0h e1,Result.andThen_ok,hf,Instr.sureAddr,Sem.run_pure,fieldPlace,a0m hn,h0,if_false]
       refine⟨_,rfl,?_⟩
       simp only [VR]
       exact⟨B,q,c,hr,by rw [a3c,Nat.add_assoc]⟩
 ·rename_i fields b o e1
  simp only [VR] at hu
  subst hu
  cases hf:fields[f]? with
  | none=>simp [hf] at h
  | some fd =>
    simp only [hf] at h
    cases hn:a1g P fd.type with
    | none=>simp [hn] at h
    | some n =>
      simp only [hn,a0t] at h
      by_cases h0:n=0
      ·simp [h0] at h
      ·simp [h0] at h; subst h
       simp only [Instr.fieldAt,Sem.run_bind,a0h e1,Result.andThen_ok,hf,Instr.sureAddr,Sem.run_pure,fieldPlace,a0m hn,h0,if_false]
       exact⟨_,rfl,by simp only [VR]; rw [a3c]⟩
 ·rename_i fields x k e1
  simp only [VR] at hu
  obtain⟨B,o,n0,c0,rfl,rfl⟩:=hu
  cases hf:fields[f]? with
  | none=>simp [hf] at h
  | some fd =>
    simp only [hf] at h
    cases hn:a1g P fd.type with
    | none=>simp [hn] at h
    | some n =>
      simp only [hn,a0t] at h
      by_cases h0:n=0
      ·simp [h0] at h
      ·simp [h0] at h; subst h
       simp only [Instr.fieldAt,Sem.run_bind,a0h e1,Result.andThen_ok,hf,Instr.sureAddr,Sem.run_pure,fieldPlace,a0m hn,h0,if_false]
       refine⟨_,rfl,?_⟩
       simp only [VR]
       exact⟨B,o,n0,c0,rfl,by rw [a3c,Nat.add_assoc]⟩
 ·simp at h
theorem c1r {t:TypeId} {x l:LV} {f:Nat} {u:Value} (h:d1r P t x f=some l) (hu:VR r x u) (w:World) :
  ∃ v,(Instr.field t u f).run P w=.ok v w∧VR r l v:=by
 unfold d1r at h
 split at h
 ·rename_i fields cs e1
  simp only [VR] at hu
  obtain⟨us,rfl,hv⟩:=hu
  cases hf:fields[f]? with
  | none=>simp [hf] at h
  | some fd =>
    simp only [hf] at h
    obtain⟨v,k1,k2⟩:=a8u h hv w
    refine⟨v,?_,k2⟩
    simp only [Instr.field,Sem.run_bind,a0h e1,Result.andThen_ok,hf,asAgg,Sem.run_pure]
    exact k1
 ·simp at h
theorem b4k {t:TypeId} {x ix l:LV} {u i:Value} (h:a8c P t x ix=some l) (hu:VR r x u) (hi:VR r ix i) (w:World) :
  ∃ v,(Instr.indexAt t u i).run P w=.ok v w∧VR r l v:=by
 unfold a8c at h
 split at h
 ·rename_i elem b o len cap k n e1
  simp only [VR] at hu hi
  obtain⟨B,q,c,hr,rfl⟩:=hu
  subst hi
  cases hn:a1g P elem with
  | none=>simp [hn] at h
  | some sz =>
    simp only [hn] at h
    cases hb:Nat.ble (n+1) len with
    | false=>simp [hb] at h
    | true =>
      have hlt:=Nat.le_of_ble_eq_true hb
      simp [hb] at h; subst h
      simp only [Instr.indexAt,Sem.run_bind,asIntOf,Sem.run_pure,Result.andThen_ok,a0h e1]
      simp only [Int.ofNat_eq_natCast]
      rw [if_pos (by omega)]
      simp only [Sem.run_bind,a0m hn,Result.andThen_ok,Sem.run_pure]
      refine⟨_,rfl,?_⟩
      simp only [VR]
      exact⟨B,q,c,hr,by rw [a3c,Nat.add_assoc,Int.toNat_natCast]⟩
 ·rename_i elem b o len d k n e1
  simp only [VR] at hu hi
  subst hi
  rcases hu with⟨B,q,c,hr,hle,rfl⟩ | ⟨hl0,_⟩
  case inr =>
   cases hn:a1g P elem with
   | none=>simp [hn] at h
   | some sz =>
     have:Nat.ble (n+1) len=false:=by rw [hl0]; rfl
     simp [hn,this] at h
  cases hn:a1g P elem with
  | none=>simp [hn] at h
  | some sz =>
    simp only [hn] at h
    cases hb:Nat.ble (n+1) len with
    | false=>simp [hb] at h
    | true =>
      have hlt:=Nat.le_of_ble_eq_true hb
      simp [hb] at h; subst h
      simp only [Instr.indexAt,Sem.run_bind,asIntOf,Sem.run_pure,Result.andThen_ok,a0h e1]
      simp only [Int.ofNat_eq_natCast]
      rw [if_pos (by omega)]
      simp only [Sem.run_bind,a0m hn,Result.andThen_ok,Sem.run_pure]
      refine⟨_,rfl,?_⟩
      simp only [VR]
      exact⟨B,q,c,hr,by rw [a3c,Nat.add_assoc,Int.toNat_natCast]⟩
 ·rename_i len elem b o k n e1
  simp only [VR] at hu hi
  obtain⟨B,q,c,hr,rfl⟩:=hu
  subst hi
  cases hn:a1g P elem with
  | none=>simp [hn] at h
  | some sz =>
    simp only [hn] at h
    cases hb:Nat.ble (n+1) len with
    | false=>simp [hb] at h
    | true =>
      have hlt:=Nat.le_of_ble_eq_true hb
      simp [hb] at h; subst h
      simp only [Instr.indexAt,Sem.run_bind,asIntOf,Sem.run_pure,Result.andThen_ok,a0h e1,Instr.sureAddr]
      simp only [Int.ofNat_eq_natCast]
      rw [if_pos (by omega)]
      simp only [Sem.run_bind,a0m hn,Result.andThen_ok,Sem.run_pure]
      refine⟨_,rfl,?_⟩
      simp only [VR]
      exact⟨B,q,c,hr,by rw [a3c,Nat.add_assoc,Int.toNat_natCast]⟩
 ·rename_i len elem b o k n e1
  simp only [VR] at hu hi
  subst hu hi
  cases hn:a1g P elem with
  | none=>simp [hn] at h
  | some sz =>
    simp only [hn] at h
    cases hb:Nat.ble (n+1) len with
    | false=>simp [hb] at h
    | true =>
      have hlt:=Nat.le_of_ble_eq_true hb
      simp [hb] at h; subst h
      simp only [Instr.indexAt,Sem.run_bind,asIntOf,Sem.run_pure,Result.andThen_ok,a0h e1,Instr.sureAddr]
      simp only [Int.ofNat_eq_natCast]
      rw [if_pos (by omega)]
      simp only [Sem.run_bind,a0m hn,Result.andThen_ok,Sem.run_pure]
      exact⟨_,rfl,by simp only [VR]; rw [a3c,Int.toNat_natCast]⟩
 ·rename_i elem x k n e1
  simp only [VR] at hu hi
  obtain⟨rfl,a,n0,c0,rfl⟩:=hu
  subst hi
  cases hn:a1g P elem with
  | none=>simp [hn] at h
  | some sz =>
    simp only [hn] at h
    cases hb:f6h (.slice a n0 c0) n with
    | false=>simp [hb] at h
    | true =>
      simp [hb] at h; subst h
      unfold f6h at hb
      split at hb
      ·rename_i B o n1 c1 e
       simp only [Value.slice.injEq] at e
       obtain⟨rfl,rfl,rfl⟩:=e
       have hlt:=Nat.le_of_ble_eq_true hb
       simp only [Instr.indexAt,Sem.run_bind,asIntOf,Sem.run_pure,Result.andThen_ok,a0h e1]
       simp only [Int.ofNat_eq_natCast]
       rw [if_pos (by omega)]
       simp only [Sem.run_bind,a0m hn,Result.andThen_ok,Sem.run_pure]
       refine⟨_,rfl,?_⟩
       simp only [VR]
       exact⟨B,o,_,_,rfl,by rw [a3c,Int.toNat_natCast]⟩
      ·cases hb
 ·simp at h
theorem b6s:∀ (l:List UInt8) (n:Nat),b6t l n=l[n]?
 | [],n=>by simp [b6t]
 | x::xs,0=>rfl
 | x::xs,n+1=>by
   have h:Nat.sub (n+1) 1=n:=rfl
   have h0:Nat.beq (n+1) 0=false:=rfl
   simp only [b6t,h,h0,cond_false,List.getElem?_cons_succ]
   exact b6s xs n
theorem d3d (l:List UInt8) (n:Nat):(⟨l.toArray⟩:ByteArray)[n]? = l[n]?:=by
 have hs:(⟨l.toArray⟩:ByteArray).size=l.length:=rfl
 by_cases h:n < l.length
 ·rw [List.getElem?_eq_getElem h,getElem?_pos _ n (by rw [hs]; exact h)]
  rfl
 ·rw [List.getElem?_eq_none (by omega),getElem?_neg _ n (by rw [hs]; exact h)]
theorem c1m {t:TypeId} {x ix l:LV} {u i:Value} (h:b7u P t x ix=some l) (hu:VR r x u) (hi:VR r ix i) (w:World) :
  ∃ v,(Instr.index t u i).run P w=.ok v w∧VR r l v:=by
 unfold b7u at h
 split at h
 ·rename_i len elem cs k n e1
  simp only [VR] at hu hi
  obtain⟨us,rfl,hv⟩:=hu
  subst hi
  cases hn:a1g P elem with
  | none=>simp [hn] at h
  | some sz =>
    simp only [hn] at h
    cases hb:Nat.ble (n+1) len with
    | false=>simp [hb] at h
    | true =>
      have hlt:=Nat.le_of_ble_eq_true hb
      simp only [hb,cond_true] at h
      obtain⟨v,k1,k2⟩:=a8u h hv w
      simp only [Instr.index,Sem.run_bind,asIntOf,Sem.run_pure,Result.andThen_ok,a0h e1]
      simp only [Int.ofNat_eq_natCast]
      rw [if_pos (by omega)]
      simp only [Sem.run_bind,a0m hn,Result.andThen_ok,Int.toNat_natCast]
      exact⟨v,k1,k2⟩
 ·rename_i s k n e1
  simp only [VR] at hu hi
  subst hu hi
  cases hb:b6t s n with
  | none=>simp [hb] at h
  | some b =>
    simp [hb] at h; subst h
    rw [b6s] at hb
    simp only [Instr.index,Sem.run_bind,asIntOf,Sem.run_pure,Result.andThen_ok,a0h e1]
    simp only [Int.ofNat_eq_natCast,Int.toNat_natCast,d3d,hb]
    rw [if_pos (by omega)]
    exact⟨_,rfl,by simp [VR]⟩
 ·simp at h
def OR (r:Ren):Option LV→Option Value→Prop
 | none,v=>v=none
 | some l,v=>∃ u,v=some u∧VR r l u
theorem b9i {ev:Operand→Option LV} {ρ : Operand→Value} (hev:∀ x l,ev x=some l→VR r l (ρ x)) {x:Option Operand} {l:Option LV} (h:b4m ev x=some l):OR r l (x.map ρ):=by
 cases x with
 | none=>simp [b4m] at h; subst h; simp [OR]
 | some x =>
   simp only [b4m] at h
   cases h1:ev x with
   | none=>simp [h1] at h
   | some l'=>simp [h1] at h; subst h; simp [OR]; exact hev x l' h1
theorem a8f {d n:Nat} {x:Option LV} {v:Option Value} (h:a3n d x=some n) (hv:OR r x v):(v=none∧x=none∧n=d)∨∃ k,v=some (.int k n)∧x.isSome=true:=by
 unfold a3n at h
 split at h
 ·simp at h; simp only [OR] at hv; exact .inl ⟨hv,rfl,h.symm⟩
 ·simp at h; subst h; simp only [OR,VR] at hv; obtain⟨u,rfl,rfl⟩:=hv; exact .inr ⟨_,rfl,rfl⟩
 ·simp at h
theorem a2r {k:IntKind} {n y:Nat} (h:n≤y) (c:BoundsCode) (w:World):(Instr.sliceBound (.int k (n:Int)) y c).run P w=.ok n w:=by
 simp only [Instr.sliceBound,Sem.run_bind,asIntOf,Sem.run_pure,Result.andThen_ok]
 rw [if_pos (by omega)]
 simp
theorem a1m {isS:Bool} {len cap l h m:Nat} {lo hi mx:Option LV} {lov hiv mxv:Option Value} (hl:a3n 0 lo=some l) (hh:a3n len hi=some h) (hm:a3n cap mx=some m)
  (ol:OR r lo lov) (oh:OR r hi hiv) (om:OR r mx mxv) (h1:l≤h) (h2:h≤m) (h3:m≤cap) (h4:mx=none∨hi.isSome=true) (w:World) :
  (Instr.sliceBounds isS len cap lov hiv mxv).run P w=.ok (l,h,m) w:=by
 rcases a8f hm om with⟨rfl,rfl,rfl⟩ | ⟨km,rfl,hm'⟩
 ·rcases a8f hh oh with⟨rfl,rfl,rfl⟩ | ⟨kh,rfl,hh'⟩
  ·rcases a8f hl ol with⟨rfl,rfl,rfl⟩ | ⟨kl,rfl,hl'⟩
   ·simp [Instr.sliceBounds]
   ·simp [Instr.sliceBounds,a2r h1]
  ·rcases a8f hl ol with⟨rfl,rfl,rfl⟩ | ⟨kl,rfl,hl'⟩
   ·simp [Instr.sliceBounds,a2r h2]
   ·simp [Instr.sliceBounds,a2r h2,a2r h1]
 ·rcases a8f hh oh with⟨rfl,rfl,rfl⟩ | ⟨kh,rfl,hh'⟩
  ·rcases h4 with h4 | h4
   ·subst h4; simp at hm'
   ·simp at h4
  ·rcases a8f hl ol with⟨rfl,rfl,rfl⟩ | ⟨kl,rfl,hl'⟩
   ·simp [Instr.sliceBounds,a2r h3,a2r h2]
   ·simp [Instr.sliceBounds,a2r h3,a2r h2,a2r h1]
theorem a3s {t:TypeId} {d:TypeDesc} (hu:P.underlying t=some d) (hd:∀ n e,d≠.array n e) (x:Value) (lo hi mx:Option Value) (w:World) :
  (Instr.sliceAt t x lo hi mx).run P w=(Instr.slice t x lo hi mx).run P w:=by
 simp only [Instr.sliceAt,Sem.run_bind,a0h hu,Result.andThen_ok]
 all_goals (cases d <;> first | rfl | (exact absurd rfl (hd _ _)))
theorem c8o {m:LV} {d d' n:Nat} (h:a3n d (some m)=some n):a3n d' (some m)=some n:=by
 cases m <;> first | exact h | (cases h; done) | (rename_i k x; cases x <;> exact h)
theorem c1i {t:TypeId} {x l:LV} {lo hi mx:Option LV} {u:Value} {lov hiv mxv:Option Value} (h:b0u P t x lo hi mx=some l) (hx:VR r x u)
  (ol:OR r lo lov) (oh:OR r hi hiv) (om:OR r mx mxv) (w:World):∃ v,(Instr.sliceAt t u lov hiv mxv).run P w=.ok v w∧VR r l v:=by
 unfold b0u at h
 split at h
 ·rename_i s e1
  rw [a3s e1 (by simp)]
  simp only [VR] at hx; subst hx
  simp only [OR] at om; subst om
  cases hl:a3n 0 lo with
  | none=>simp [hl] at h
  | some a =>
    cases hh:a3n s.length hi with
    | none=>simp [hl,hh] at h
    | some b =>
      simp only [hl,hh] at h
      by_cases hc:a≤b∧b≤s.length
      ·have:(Nat.ble a b && Nat.ble b s.length)=true:=by simp [Nat.ble_eq,hc.1,hc.2]
       simp [this] at h; subst h
       have hb:=a1m (P:=P) (isS:=false) hl hh (m:=s.length) (mx:=none) (cap:=s.length) rfl ol oh (mxv:=none) (by simp [OR]) hc.1 hc.2 (Nat.le_refl _) (.inl rfl) w
       have hs:(⟨s.toArray⟩:ByteArray).size=s.length:=rfl
       simp only [Instr.slice,Sem.run_bind,a0h e1,Result.andThen_ok,Option.isSome_none,Bool.false_eq_true,if_false,hs,hb,Sem.run_pure]
       refine⟨_,rfl,?_⟩
       simp only [VR]
       congr 1
       apply ByteArray.ext
       simp [ByteArray.data_extract]
      ·have:(Nat.ble a b && Nat.ble b s.length)=false:=by
        rw [Bool.and_eq_false_iff]
        by_cases h1:a≤b
        ·right; cases hq:Nat.ble b s.length with
         | false=>rfl
         | true=>exact absurd ⟨h1,Nat.le_of_ble_eq_true hq⟩ hc
        ·left; cases hq:Nat.ble a b with
         | false=>rfl
         | true=>exact absurd (Nat.le_of_ble_eq_true hq) h1
       simp [this] at h
 ·rename_i elem e1
  rw [a3s e1 (by simp)]
  simp only [VR] at hx; subst hx
  simp only [OR] at om; subst om
  split at h
  ·rename_i sz0 hl hh hsz0
   simp at h; subst h
   have hb:=a1m (P:=P) (isS:=true) hl hh (m:=0) (mx:=none) (cap:=0) rfl ol oh (mxv:=none) (by simp [OR]) (Nat.le_refl _) (Nat.le_refl _) (Nat.le_refl _) (.inl rfl) w
   simp only [Instr.slice,Sem.run_bind,a0h e1,Result.andThen_ok,hb,a0m hsz0,Sem.run_pure]
   exact⟨_,rfl,by simp [VR]⟩
  ·simp at h
 ·rename_i elem e1
  rw [a3s e1 (by simp)]
  simp only [VR] at hx
  simp only [OR] at om; subst om
  split at h
  ·rename_i sz0 hl hh hsz0
   simp at h; subst h
   have hb:=a1m (P:=P) (isS:=true) hl hh (m:=0) (mx:=none) (cap:=0) rfl ol oh (mxv:=none) (by simp [OR]) (Nat.le_refl _) (Nat.le_refl _) (Nat.le_refl _) (.inl rfl) w
   rcases hx with rfl | ⟨a,rfl⟩
   ·simp only [Instr.slice,Sem.run_bind,a0h e1,Result.andThen_ok,hb,a0m hsz0,Sem.run_pure]
    exact⟨_,rfl,by simp [VR,Emp]⟩
   ·simp only [Instr.slice,Sem.run_bind,a0h e1,Result.andThen_ok,hb,a0m hsz0,Sem.run_pure]
    exact⟨_,rfl,by simp [VR,Emp]⟩
  ·simp at h
 ·rename_i elem m e1
  rw [a3s e1 (by simp)]
  simp only [VR] at hx; subst hx
  split at h
  ·rename_i sz0 hl hh hm hs hsz0
   simp at h; subst h
   have hb:=a1m (P:=P) (isS:=true) hl hh (m:=0) (mx:=some m) (cap:=0) hm ol oh om (Nat.le_refl _) (Nat.le_refl _) (Nat.le_refl _) (.inr hs) w
   simp only [Instr.slice,Sem.run_bind,a0h e1,Result.andThen_ok,hb,a0m hsz0,Sem.run_pure]
   exact⟨_,rfl,by simp [VR,Emp]⟩
  ·simp at h
 ·rename_i elem m e1
  rw [a3s e1 (by simp)]
  simp only [VR] at hx
  split at h
  ·rename_i sz0 hl hh hm hs hsz0
   simp at h; subst h
   have hb:=a1m (P:=P) (isS:=true) hl hh (m:=0) (mx:=some m) (cap:=0) hm ol oh om (Nat.le_refl _) (Nat.le_refl _) (Nat.le_refl _) (.inr hs) w
   rcases hx with rfl | ⟨a,rfl⟩
   ·simp only [Instr.slice,Sem.run_bind,a0h e1,Result.andThen_ok,hb,a0m hsz0,Sem.run_pure]
    exact⟨_,rfl,by simp [VR,Emp]⟩
   ·simp only [Instr.slice,Sem.run_bind,a0h e1,Result.andThen_ok,hb,a0m hsz0,Sem.run_pure]
    exact⟨_,rfl,by simp [VR,Emp]⟩
  ·simp at h
 ·rename_i elem b o len d m e1
  rw [a3s e1 (by simp)]
  simp only [VR] at hx
  split at h
  ·rename_i sz0 hl hh hm hs hsz0
   simp at h; subst h
   rcases hx with⟨B,q,c,hr,hle,rfl⟩ | ⟨rfl,rfl | ⟨a,rfl⟩⟩
   ·have hb:=a1m (P:=P) (isS:=true) hl hh (m:=0) (mx:=some m) (cap:=c - d) (c8o hm) ol oh om (Nat.le_refl _) (Nat.zero_le _) (Nat.zero_le _) (.inr hs) w
    simp only [Instr.slice,Sem.run_bind,a0h e1,Result.andThen_ok,hb,a0m hsz0,Sem.run_pure]
    exact⟨_,rfl,by simp [VR,Emp]⟩
   ·have hb:=a1m (P:=P) (isS:=true) hl hh (m:=0) (mx:=some m) (cap:=0) hm ol oh om (Nat.le_refl _) (Nat.le_refl _) (Nat.le_refl _) (.inr hs) w
    simp only [Instr.slice,Sem.run_bind,a0h e1,Result.andThen_ok,hb,a0m hsz0,Sem.run_pure]
    exact⟨_,rfl,by simp [VR,Emp]⟩
   ·have hb:=a1m (P:=P) (isS:=true) hl hh (m:=0) (mx:=some m) (cap:=0) hm ol oh om (Nat.le_refl _) (Nat.le_refl _) (Nat.le_refl _) (.inr hs) w
    simp only [Instr.slice,Sem.run_bind,a0h e1,Result.andThen_ok,hb,a0m hsz0,Sem.run_pure]
    exact⟨_,rfl,by simp [VR,Emp]⟩
  ·simp at h
 ·rename_i mx x5 x4 mx1 elem b o len cap e1
  rw [a3s e1 (by simp)]
  simp only [VR] at hx
  obtain⟨B,q,c,hr,rfl⟩:=hx
  split at h
  ·rename_i a hh m n hl hhi hmx hn
   by_cases hc:a≤hh∧hh≤m∧m≤cap∧(mx=none∨hi.isSome=true)
   ·have:(Nat.ble a hh && Nat.ble hh m && Nat.ble m cap && (mx.isNone || hi.isSome))=true:=by
     obtain⟨c1,c2,c3,c4⟩:=hc
     simp only [Nat.ble_eq_true_of_le c1,Nat.ble_eq_true_of_le c2,Nat.ble_eq_true_of_le c3,Bool.true_and]
     rcases c4 with rfl | c4
     ·rfl
     ·simp [c4]
    simp only [this,cond_true,Option.some.injEq,a0t] at h; subst h
    obtain⟨c1,c2,c3,c4⟩:=hc
    have hb:=a1m (P:=P) (isS:=true) hl hhi hmx ol oh om c1 c2 c3 c4 w
    simp only [Instr.slice,Sem.run_bind,a0h e1,Result.andThen_ok,hb,a0m hn,Sem.run_pure]
    refine⟨_,rfl,?_⟩
    simp only [VR]
    refine⟨B,q,c,hr,?_⟩
    by_cases hm:m=a
    ·simp [hm]
    ·simp [hm,a3c,Nat.add_assoc]
   ·have:(Nat.ble a hh && Nat.ble hh m && Nat.ble m cap && (mx.isNone || hi.isSome))=false:=by
     rw [Bool.eq_false_iff]
     intro ht
     simp only [Bool.and_eq_true,Bool.or_eq_true,Option.isNone_iff_eq_none] at ht
     exact hc ⟨Nat.le_of_ble_eq_true ht.1.1.1,Nat.le_of_ble_eq_true ht.1.1.2,Nat.le_of_ble_eq_true ht.1.2,ht.2⟩
    simp [this] at h
  ·simp at h
 ·rename_i mx x5 x4 mx1 alen elem b o e1
  simp only [VR] at hx
  obtain⟨B,q,c,hr,rfl⟩:=hx
  split at h
  ·rename_i a hh m n hl hhi hmx hn
   by_cases hc:a≤hh∧hh≤m∧m≤alen∧(mx=none∨hi.isSome=true)
   ·have:(Nat.ble a hh && Nat.ble hh m && Nat.ble m alen && (mx.isNone || hi.isSome))=true:=by
     obtain⟨c1,c2,c3,c4⟩:=hc
     simp only [Nat.ble_eq_true_of_le c1,Nat.ble_eq_true_of_le c2,Nat.ble_eq_true_of_le c3,Bool.true_and]
     rcases c4 with rfl | c4
     ·rfl
     ·simp [c4]
    simp only [this,cond_true,Option.some.injEq,a0t] at h; subst h
    obtain⟨c1,c2,c3,c4⟩:=hc
    have hb:=a1m (P:=P) (isS:=false) hl hhi hmx ol oh om c1 c2 c3 c4 w
    simp only [Instr.sliceAt,Sem.run_bind,a0h e1,Result.andThen_ok,Instr.sureAddr,Sem.run_pure,hb,a0m hn]
    refine⟨_,rfl,?_⟩
    simp only [VR]
    refine⟨B,q,c,hr,?_⟩
    by_cases hm:m=a
    ·simp [hm]
    ·simp [hm,a3c,Nat.add_assoc]
   ·have:(Nat.ble a hh && Nat.ble hh m && Nat.ble m alen && (mx.isNone || hi.isSome))=false:=by
     rw [Bool.eq_false_iff]
     intro ht
     simp only [Bool.and_eq_true,Bool.or_eq_true,Option.isNone_iff_eq_none] at ht
     exact hc ⟨Nat.le_of_ble_eq_true ht.1.1.1,Nat.le_of_ble_eq_true ht.1.1.2,Nat.le_of_ble_eq_true ht.1.2,ht.2⟩
    simp [this] at h
  ·simp at h
 ·rename_i elem b o len d e1
  rw [a3s e1 (by simp)]
  simp only [VR] at hx
  simp only [OR] at om; subst om
  rcases hx with⟨B,q,c,hr,hle,rfl⟩ | ⟨rfl,hx⟩
  case inr =>
   split at h
   ·rename_i a hh n hl hhi hn
    cases hc:(Nat.ble a hh && Nat.ble hh 0) with
    | false=>simp [hc] at h
    | true =>
      simp only [hc,cond_true,Option.some.injEq] at h; subst h
      simp only [Bool.and_eq_true] at hc
      have c1:=Nat.le_of_ble_eq_true hc.1
      have c2:=Nat.le_of_ble_eq_true hc.2
      have e0:hh=0:=by omega
      have e3:a=0:=by omega
      subst e0 e3
      have hb:=a1m (P:=P) (isS:=true) hl hhi (m:=0) (mx:=none) (cap:=0) rfl ol oh (mxv:=none) (by simp [OR]) (Nat.le_refl _) (Nat.le_refl _) (Nat.le_refl _) (.inl rfl) w
      rcases hx with rfl | ⟨a,rfl⟩
      ·simp only [Instr.slice,Sem.run_bind,a0h e1,Result.andThen_ok,hb,a0m hn,Sem.run_pure]
       exact⟨_,rfl,by simp [VR,Emp]⟩
      ·simp only [Instr.slice,Sem.run_bind,a0h e1,Result.andThen_ok,hb,a0m hn,Sem.run_pure]
       exact⟨_,rfl,by simp [VR,Emp]⟩
   ·simp at h
  split at h
  ·rename_i a hh n hl hhi hn
   by_cases hc:a≤hh∧hh≤len
   ·have:(Nat.ble a hh && Nat.ble hh len)=true:=by
     obtain⟨c1,c2⟩:=hc
     simp only [Nat.ble_eq_true_of_le c1,Nat.ble_eq_true_of_le c2,Bool.true_and]
    simp only [this,cond_true,Option.some.injEq] at h; subst h
    obtain⟨c1,c2⟩:=hc
    have hb:=a1m (P:=P) (isS:=true) hl hhi (m:=c - d) (mx:=none) (cap:=c - d) rfl ol oh (mxv:=none) (by simp [OR]) c1 (by omega) (Nat.le_refl _) (.inl rfl) w
    simp only [Instr.slice,Sem.run_bind,a0h e1,Result.andThen_ok,hb,a0m hn,Sem.run_pure]
    refine⟨_,rfl,?_⟩
    simp only [VR]
    by_cases hm:c - d=a
    ·by_cases ha:a=0
     ·subst ha
      exact .inl ⟨B,q,c,hr,by omega,by simp [hm]⟩
     ·exact .inr ⟨by omega,.inr ⟨_,by simp [hm,show hh - a=0 by omega]; rfl⟩⟩
    ·refine .inl ⟨B,q,c,hr,by omega,?_⟩
     simp only [hm,if_false,Option.map_some,a3c,Nat.add_assoc,Nat.sub_sub]
   ·have:(Nat.ble a hh && Nat.ble hh len)=false:=by
     rw [Bool.eq_false_iff]
     intro ht
     simp only [Bool.and_eq_true] at ht
     exact hc ⟨Nat.le_of_ble_eq_true ht.1,Nat.le_of_ble_eq_true ht.2⟩
    simp [this] at h
  ·simp at h
 ·rename_i elem v0 e1
  rw [a3s e1 (by simp)]
  simp only [VR] at hx
  simp only [OR] at om; subst om
  obtain⟨rfl,a0,n0,c0,rfl⟩:=hx
  split at h
  ·rename_i a n hl hn
   cases hv:f1u (.slice a0 n0 c0) a with
   | false=>simp [hv] at h
   | true =>
     simp only [hv,cond_true,Option.some.injEq] at h; subst h
     simp only [f1u,Bool.and_eq_true] at hv
     have c1:=Nat.le_of_ble_eq_true hv.1
     have c2:=Nat.le_of_ble_eq_true hv.2
     have hb:=a1m (P:=P) (isS:=true) hl (show a3n n0 none=some n0 from rfl) (m:=c0) (mx:=none) (cap:=c0) rfl ol oh (mxv:=none) (by simp [OR]) c1 c2 (Nat.le_refl _) (.inl rfl) w
     simp only [Instr.slice,Sem.run_bind,a0h e1,Result.andThen_ok,hb,a0m hn,Sem.run_pure]
     refine⟨_,rfl,?_⟩
     simp only [VR,d7l]
     exact⟨trivial,_,_,_,rfl⟩
  ·simp at h
 ·simp at h
end
section
open Go.RowKit
variable {P:Program} {r:Ren}
theorem a9d:∀ {cs:List LV} {rs:List UInt8} {us:List Value},a1c cs=some rs→VRs r cs us→∃ ns:List Int,us=ns.map (Value.int .u8)∧rs=ns.map fun n=>UInt8.ofNat n.toNat
 | [],rs,us,h,hv=>by simp [a1c] at h; subst h; simp only [VRs] at hv; subst hv; exact⟨[],rfl,rfl⟩
 | .int .u8 n::ls,rs,us,h,hv=>by
   simp only [a1c] at h
   cases h1:a1c ls with
   | none=>simp [h1] at h
   | some q =>
     simp [h1] at h; subst h
     simp only [VRs,VR] at hv
     obtain⟨u,us',rfl,rfl,h3⟩:=hv
     obtain⟨ns,rfl,rfl⟩:=a9d h1 h3
     exact⟨n::ns,rfl,rfl⟩
 | .bool _::ls,rs,us,h,hv=>by simp [a1c] at h
 | .str _::ls,rs,us,h,hv=>by simp [a1c] at h
 | .nilp::ls,rs,us,h,hv=>by simp [a1c] at h
 | .ptr _ _::ls,rs,us,h,hv=>by simp [a1c] at h
 | .gptr _ _::ls,rs,us,h,hv=>by simp [a1c] at h
 | .nils::ls,rs,us,h,hv=>by simp [a1c] at h
 | .sle::ls,rs,us,h,hv=>by simp [a1c] at h
 | .any::ls,rs,us,h,hv=>by simp [a1c] at h
 | .unb::ls,rs,us,h,hv=>by simp [a1c] at h
 | .val _::ls,rs,us,h,hv=>by simp [a1c] at h
 | .sln _::ls,rs,us,h,hv=>by simp [a1c] at h
 | .vp _ _::ls,rs,us,h,hv=>by simp [a1c] at h
 | .fact _::ls,rs,us,h,hv=>by simp [a1c] at h
 | .sl _ _ _ _::ls,rs,us,h,hv=>by simp [a1c] at h
 | .slo _ _ _ _::ls,rs,us,h,hv=>by simp [a1c] at h
 | .fn _ _::ls,rs,us,h,hv=>by simp [a1c] at h
 | .nilFunc::ls,rs,us,h,hv=>by simp [a1c] at h
 | .nilIface::ls,rs,us,h,hv=>by simp [a1c] at h
 | .iface _ _::ls,rs,us,h,hv=>by simp [a1c] at h
 | .agg _::ls,rs,us,h,hv=>by simp [a1c] at h
 | .tup _::ls,rs,us,h,hv=>by simp [a1c] at h
 | .int .i8 _::ls,rs,us,h,hv=>by simp [a1c] at h
 | .int .i16 _::ls,rs,us,h,hv=>by simp [a1c] at h
 | .int .i32 _::ls,rs,us,h,hv=>by simp [a1c] at h
 | .int .i64 _::ls,rs,us,h,hv=>by simp [a1c] at h
 | .int .u16 _::ls,rs,us,h,hv=>by simp [a1c] at h
 | .int .u32 _::ls,rs,us,h,hv=>by simp [a1c] at h
 | .int .u64 _::ls,rs,us,h,hv=>by simp [a1c] at h
theorem c2i:∀ (l:List UInt8) (b:ByteArray),l.foldl (fun r n=>r.push n) b=⟨b.data++l.toArray⟩
 | [],b=>by simp
 | n::ns,b=>by
   rw [List.foldl_cons,c2i ns]
   congr 1
   apply Array.ext'
   simp [ByteArray.push]
theorem b7w (ns:List Int):ns.foldl (fun r n=>r.push (UInt8.ofNat n.toNat)) ByteArray.empty=⟨(ns.map fun n=>UInt8.ofNat n.toNat).toArray⟩:=by
 have:=c2i (ns.map fun n=>UInt8.ofNat n.toNat) ByteArray.empty
 rw [List.foldl_map] at this
 rw [this]
 congr 1
 apply Array.ext'
 rw [Array.toList_append]
 rfl
theorem c1y {e:TypeId} (h:c3c P e=true):P.underlying e=some (.int .u8):=by
 unfold c3c at h
 split at h
 ·assumption
 ·cases h
theorem b6h {W0:World} {s:St} {w:World} (hI:Inv W0 r s w) {src dst:TypeId} {x l:LV} {u:Value} (h:a3m P s src dst x=some l) (hx:VR r x u) :
  ∃ v,(convert src dst u).run P w=.ok v w∧VR r l v:=by
 unfold a3m at h
 split at h
 ·rename_i d k k' n e1 e2
  simp only [VR] at hx; subst hx
  simp [a8t] at h; subst h
  refine⟨.int k (k.wrap n),?_,by simp [VR]⟩
  simp only [convert,Sem.run_bind,a0h e1,a0h e2,Result.andThen_ok]
  cases d <;> rfl
 ·rename_i d t e1 e2
  simp only [VR] at hx; subst hx
  simp at h; subst h
  refine⟨.string ⟨t.toArray⟩,?_,by simp [VR]⟩
  simp only [convert,Sem.run_bind,a0h e1,a0h e2,Result.andThen_ok]
  cases d <;> rfl
 ·rename_i q1 q2 e e1 e2 n2
  cases hU:c3c P e with
  | false=>simp [hU] at h
  | true =>
    have he:=c1y hU
    simp only [hU,cond_true] at h
    split at h
    ·simp only [VR] at hx; subst hx
     simp at h; subst h
     refine⟨.string .empty,?_,by simp [VR]; rfl⟩
     rw [run_convert_bytes_string w src dst e none 0 0 e1 he e2]
     simp [Conv.bytesToString]
    ·simp only [VR] at hx
     simp at h; subst h
     refine⟨.string .empty,?_,by simp [VR]; rfl⟩
     rcases hx with rfl | ⟨a,rfl⟩
     ·rw [run_convert_bytes_string w src dst e none 0 0 e1 he e2]
      simp [Conv.bytesToString]
     ·have k3:(loadCells a 0).run P w=.ok #[] w:=run_loadCells_list (P:=P) w a [] (fun j v hj=>by simp at hj)
      rw [run_convert_bytes_string w src dst e _ _ _ e1 he e2,run_bytesToString w _ _ _ [] k3]; rfl
    ·rename_i b o len cap
     simp only [VR] at hx
     obtain⟨B,q,c,hr,rfl⟩:=hx
     simp only [a1j] at h
     cases hb:s.look b with
     | none=>simp [hb] at h
     | some cs =>
       simp only [hb,Nat.mul_one] at h
       cases hc:cut cs o len with
       | none=>simp [hc] at h
       | some cc =>
         simp only [hc] at h
         cases hy:a1c cc with
         | none=>simp [hy] at h
         | some rs =>
           simp [hy] at h; subst h
           obtain⟨us,k1,k2,k3⟩:=hI.loadCells (P:=P) hb hr hc
           obtain⟨ns,rfl,rfl⟩:=a9d hy k1
           rw [run_convert_bytes_string w src dst e _ _ _ e1 he e2,run_bytesToString w _ _ _ ns k3,b7w]
           exact⟨_,rfl,by simp [VR]⟩
    ·rename_i b o len d
     simp only [VR] at hx
     simp only [a1j] at h
     cases hb:s.look b with
     | none=>simp [hb] at h
     | some cs =>
       simp only [hb,Nat.mul_one] at h
       cases hc:cut cs o len with
       | none=>simp [hc] at h
       | some cc =>
         simp only [hc] at h
         cases hy:a1c cc with
         | none=>simp [hy] at h
         | some rs =>
           simp [hy] at h; subst h
           rcases hx with⟨B,q,c,hr,hle,rfl⟩ | ⟨rfl,hx⟩
           ·obtain⟨us,k1,k2,k3⟩:=hI.loadCells (P:=P) hb hr hc
            obtain⟨ns,rfl,rfl⟩:=a9d hy k1
            rw [run_convert_bytes_string w src dst e _ _ _ e1 he e2,run_bytesToString w _ _ _ ns k3,b7w]
            exact⟨_,rfl,by simp [VR]⟩
           ·have:cc=[]:=List.length_eq_zero_iff.1 (a6m _ _ _ _ hc).1
            subst this
            simp [a1c] at hy; subst hy
            refine⟨.string .empty,?_,by simp [VR]; rfl⟩
            rcases hx with rfl | ⟨a,rfl⟩
            ·rw [run_convert_bytes_string w src dst e none 0 0 e1 he e2]
             simp [Conv.bytesToString]
            ·have k3:(loadCells a 0).run P w=.ok #[] w:=run_loadCells_list (P:=P) w a [] (fun j v hj=>by simp at hj)
             rw [run_convert_bytes_string w src dst e _ _ _ e1 he e2,run_bytesToString w _ _ _ [] k3]; rfl
    ·simp at h
 ·simp at h
theorem b1y:∀ {cs:List LV} {rs:List Int} {us:List Value},a5x cs=some rs→VRs r cs us→us=rs.map (Value.int .i32)
 | [],rs,us,h,hv=>by simp [a5x] at h; subst h; simp only [VRs] at hv; subst hv; rfl
 | l::ls,rs,us,h,hv=>by
   unfold a5x at h
   split at h
   ·rename_i e; cases e
   ·rename_i n ls' e
    simp only [List.cons.injEq] at e
    obtain⟨rfl,rfl⟩:=e
    cases h1:a5x ls with
    | none=>simp [h1] at h
    | some q =>
      simp [h1] at h; subst h
      simp only [VRs,VR] at hv
      obtain⟨u,us',rfl,rfl,h3⟩:=hv
      rw [b1y h1 h3]; rfl
   ·cases h
theorem b3l {e:TypeId} (h:b6i P e=true):P.underlying e=some (.int .i32):=by
 unfold b6i at h
 split at h
 ·assumption
 ·cases h
theorem c6m:∀ (ns:List Int) (b:ByteArray),ns.foldl (fun s n=>s++Utf8.encode n) b=⟨b.data++(b4z ns).toArray⟩
 | [],b=>by simp [b4z]
 | n::ns,b=>by
   rw [List.foldl_cons,c6m ns]
   congr 1
   apply Array.ext'
   simp [b4z]
theorem b5q {w:World} (f:Value→ByteArray→Sem (ForInStep ByteArray))
  (hf:∀ (n:Int) (r:ByteArray),(f (.int .i32 n) r).run P w=.ok (.yield (r++Utf8.encode n)) w) :
  ∀ (ns:List Int) (s:ByteArray),(forIn (ns.map (Value.int .i32)) s f).run P w=.ok (ns.foldl (fun r n=>r++Utf8.encode n) s) w:=by
 intro ns
 induction ns with
 | nil=>intro s; simp [Sem.run_pure]
 | cons n ns ih =>
   intro s
   simp only [List.map_cons,List.forIn_cons,Sem.run_bind,hf,Result.andThen,List.foldl_cons]
   exact ih _
theorem a7x (w:World) (a:Addr) (len cap:Nat) (ns:List Int) (h:(loadCells a len).run P w=.ok (ns.map (Value.int .i32)).toArray w) :
  (Conv.runesToString (.slice (some a) len cap)).run P w=.ok (.string ⟨(b4z ns).toArray⟩) w:=by
 unfold Conv.runesToString
 simp only [Sem.run_bind,h,Result.andThen,List.forIn_toArray]
 rw [b5q _ (by intro n r; simp [Sem.run_pure]),c6m]
 simp [Sem.run_pure]
theorem c4p {W0:World} {s:St} {w:World} (hI:Inv W0 r s w) {src dst:TypeId} {x l:LV} {u:Value} (h:d1n P s src dst x=some l) (hx:VR r x u) :
  ∃ v,(convert src dst u).run P w=.ok v w∧VR r l v:=by
 unfold d1n at h
 split at h
 ·rename_i e b o len cap e1 e2
  cases hU:b6i P e with
  | false=>simp [hU] at h
  | true =>
    have he:=b3l hU
    simp only [hU,cond_true] at h
    cases hc:a1j s 1 (.slo b o len cap) with
    | none=>simp [hc] at h
    | some cc =>
      simp only [hc] at h
      cases hy:a5x cc with
      | none=>simp [hy] at h
      | some rs =>
        simp [hy] at h; subst h
        simp only [a1j] at hc
        cases hb:s.look b with
        | none=>simp [hb] at hc
        | some cs =>
          simp only [hb,Nat.mul_one] at hc
          simp only [VR] at hx
          have hconv:∀ X:Value,(∃ q m k,X=.slice q m k)→(convert src dst X).run P w=(Conv.runesToString X).run P w:=by
           rintro X ⟨q,m,k,rfl⟩
           simp only [convert,Sem.run_bind,a0h e1,a0h e2,a0h he,Result.andThen_ok]
          rcases hx with⟨B,q,c,hr,hle,rfl⟩ | ⟨rfl,hx⟩
          ·obtain⟨us,k1,k2,k3⟩:=hI.loadCells (P:=P) hb hr hc
           have:=b1y hy k1
           subst this
           refine⟨_,?_,by simp [VR]; rfl⟩
           rw [hconv _ ⟨_,_,_,rfl⟩]
           exact a7x w _ _ _ rs k3
          ·have:cc=[]:=List.length_eq_zero_iff.1 (a6m _ _ _ _ hc).1
           subst this
           simp [a5x] at hy; subst hy
           refine⟨.string .empty,?_,by simp [VR,b4z]; rfl⟩
           rcases hx with rfl | ⟨a,rfl⟩
           ·rw [hconv _ ⟨_,_,_,rfl⟩]
            simp [Conv.runesToString]
           ·have k3:(loadCells a 0).run P w=.ok #[] w:=run_loadCells_list (P:=P) w a [] (fun j v hj=>by simp at hj)
            rw [hconv _ ⟨_,_,_,rfl⟩]
            exact a7x w _ _ _ [] k3
 ·cases h
theorem b6w {W0:World} {s:St} {w:World} (hI:Inv W0 r s w) {src dst:TypeId} {x l:LV} {u:Value} (h:a5m P s src dst x=some l) (hx:VR r x u) :
  ∃ v,(convert src dst u).run P w=.ok v w∧VR r l v:=by
 unfold a5m at h
 split at h
 ·rename_i l' e
  simp at h; subst h
  exact b6h hI e hx
 ·exact c4p hI h hx
theorem b9e {x l:LV} {xt asserted:TypeId} {ok:Bool} {u:Value} (h:c4w P x asserted ok=some l) (hx:VR r x u) (w:World) :
  ∃ v,(Instr.typeAssert u xt asserted ok).run P w=.ok v w∧VR r l v:=by
 have holds:∀ {a:LV} {v:Value},VR r a v→VR r (cond ok (.tup [a,.bool true]) a) (if ok=true then .tuple #[v,.bool true] else v):=by
  intro a v hv
  cases ok with
  | true=>simp only [cond_true,if_true,VR]; exact⟨[v,.bool true],rfl,by simp [VRs,VR,hv]⟩
  | false=>simpa using hv
 have fails:∀ {m:LV},(cond ok (match a9g P asserted with
   | some z=>(match a6w z with | some l=>some (LV.tup [l,.bool false]) | none=>none)
   | none=>none) none)=some m→ok=true∧∃ z,(∀ w,(zeroValue asserted).run P w=.ok z w)∧VR r m (.tuple #[z,.bool false]):=by
  intro m hm
  cases ok with
  | false=>simp at hm
  | true =>
    simp only [cond_true] at hm
    cases hz:a9g P asserted with
    | none=>simp [hz] at hm
    | some z =>
      cases hc:a6w z with
      | none=>simp [hz,hc] at hm
      | some a =>
        simp [hz,hc] at hm; subst hm
        refine⟨rfl,z,fun w=>b2a hz w,?_⟩
        simp only [VR]
        exact⟨[z,.bool false],rfl,by simp [VRs,VR,b0f hc]⟩
 unfold c4w at h
 simp only at h
 split at h
 ·rename_i ms e1
  simp only [VR] at hx; subst hx
  obtain⟨rfl,z,hz,hv⟩:=fails h
  refine⟨_,?_,hv⟩
  simp only [Instr.typeAssert,Sem.run_bind,a0h e1,Result.andThen_ok,if_true,hz,Sem.run_pure]
 ·rename_i want t v e1
  simp only [VR] at hx
  obtain⟨u',rfl,hv⟩:=hx
  cases hi:P.info? t with
  | none=>simp [hi] at h
  | some i =>
    simp only [hi] at h
    cases hm:Instr.missingMethod want i.methods with
    | none =>
      simp only [hm,Option.some.injEq] at h; subst h
      refine⟨_,?_,holds (a:=.iface t v) (v:=.iface t u') (by simp [VR,hv])⟩
      simp only [Instr.typeAssert,Sem.run_bind,a0h e1,Result.andThen_ok,a9r hi,hm,Sem.run_pure]
    | some m =>
      simp only [hm] at h
      obtain⟨rfl,z,hz,hv⟩:=fails h
      refine⟨_,?_,hv⟩
      simp only [Instr.typeAssert,Sem.run_bind,a0h e1,Result.andThen_ok,a9r hi,hm,Sem.run_pure,if_true,hz]
 ·rename_i d n1 e1
  simp only [VR] at hx; subst hx
  obtain⟨rfl,z,hz,hv⟩:=fails h
  refine⟨_,?_,hv⟩
  simp only [Instr.typeAssert,Sem.run_bind,a0h e1,Result.andThen_ok]
  cases d <;> simp only [if_true,Sem.run_bind,hz,Result.andThen_ok,Sem.run_pure] <;> first | rfl | (exact absurd rfl (n1 _))
 ·rename_i d t v n1 e1
  simp only [VR] at hx
  obtain⟨u',rfl,hv⟩:=hx
  by_cases ht:t=asserted
  ·subst ht
   simp only [a0t,decide_true,cond_true,Option.some.injEq] at h; subst h
   refine⟨_,?_,holds hv⟩
   simp only [Instr.typeAssert,Sem.run_bind,a0h e1,Result.andThen_ok]
   cases d <;> simp only [if_true,Sem.run_pure] <;> first | rfl | (exact absurd rfl (n1 _))
  ·simp only [a0t,ht,decide_false,cond_false] at h
   obtain⟨rfl,z,hz,hv⟩:=fails h
   refine⟨_,?_,hv⟩
   simp only [Instr.typeAssert,Sem.run_bind,a0h e1,Result.andThen_ok]
   cases d <;> simp only [ht,if_false,if_true,Sem.run_bind,hz,Result.andThen_ok,Sem.run_pure] <;> first | rfl | (exact absurd rfl (n1 _))
 ·simp at h
theorem c8c {ts:List TypeId} {t0:TypeId} {x l:LV} {u:Value} (h:d6n P ts x=some l) (hx:VR r x u) (w:World) :
  ∃ v,(Builtin.len_ ts.toArray t0 #[u]).run P w=.ok v w∧VR r l v:=by
 unfold d6n at h
 split at h
 ·rename_i t ts
  split at h
  ·rename_i s e1
   simp only [VR] at hx; subst hx; simp at h; subst h
   refine⟨_,?_,by simp only [VR]; rfl⟩
   simp [Builtin.len_,a0h e1,goInt]; rfl
  ·rename_i e e1
   simp only [VR] at hx; subst hx; simp at h; subst h
   exact⟨_,by simp [Builtin.len_,a0h e1,goInt]; rfl,by simp only [VR]⟩
  ·rename_i e e1
   simp only [VR] at hx; simp at h; subst h
   rcases hx with rfl | ⟨a,rfl⟩
   ·exact⟨_,by simp [Builtin.len_,a0h e1,goInt]; rfl,by simp only [VR]⟩
   ·exact⟨_,by simp [Builtin.len_,a0h e1,goInt]; rfl,by simp only [VR]⟩
  ·rename_i e b o n c e1
   simp only [VR] at hx; obtain⟨B,q,k,hr,rfl⟩:=hx; simp at h; subst h
   exact⟨_,by simp [Builtin.len_,a0h e1,goInt]; rfl,by simp only [VR]⟩
  ·rename_i e b o n c e1
   simp only [VR] at hx; simp at h; subst h
   rcases hx with⟨B,q,k,hr,_,rfl⟩ | ⟨rfl,rfl | ⟨a,rfl⟩⟩
   ·exact⟨_,by simp [Builtin.len_,a0h e1,goInt]; rfl,by simp only [VR]⟩
   ·exact⟨_,by simp [Builtin.len_,a0h e1,goInt]; rfl,by simp only [VR]; rfl⟩
   ·exact⟨_,by simp [Builtin.len_,a0h e1,goInt]; rfl,by simp only [VR]; rfl⟩
  ·rename_i e n e1
   simp only [VR] at hx; obtain⟨a,c,rfl⟩:=hx; simp at h; subst h
   exact⟨_,by simp [Builtin.len_,a0h e1,goInt]; rfl,by simp only [VR]⟩
  ·rename_i e x e1
   simp only [VR] at hx; obtain⟨rfl,a,n,c,rfl⟩:=hx; simp at h; subst h
   exact⟨_,by simp [Builtin.len_,a0h e1,goInt]; rfl,by simp only [VR,f7f]⟩
  ·rename_i n e x' e1
   simp at h; subst h
   exact⟨_,by simp [Builtin.len_,a0h e1,goInt]; rfl,by simp only [VR]⟩
  ·simp at h
 ·simp at h
theorem f3n (a b:Int):(if a≤b then a else b)=if b < a then b else a:=by split <;> split <;> omega
theorem f3l (a b:Int):(if a≤b then b else a)=if b > a then b else a:=by split <;> split <;> omega
theorem a8v {mx:Bool}:∀ {ls:List LV} {x l:LV} {u:Value} {us:List Value},a6z mx x ls=some l→VR r x u→VRs r ls us→∀ w,
  ∃ v,(us.foldlM (if mx then Builtin.max2 else Builtin.min2) u:Sem Value).run P w=.ok v w∧VR r l v
 | [],x,l,u,us,h,hx,hv,w=>by
   simp only [VRs] at hv; subst hv
   have:x=l:=by cases x <;> simpa [a6z] using h
   subst this
   exact⟨u,by simp,hx⟩
 | y::ls,x,l,u,us,h,hx,hv,w=>by
   simp only [VRs] at hv
   obtain⟨u2,us',rfl,h2,h3⟩:=hv
   cases x <;> cases y <;> simp only [a6z] at h <;> try (cases h; done)
   rename_i k a k' b
   rw [f3l,f3n] at h
   simp only [VR] at hx h2; subst hx h2
   obtain⟨v,q1,q2⟩:=a8v (mx:=mx) h (u:=.int k (cond mx (if b > a then b else a) (if b < a then b else a))) (by simp [VR]) h3 w
   refine⟨v,?_,q2⟩
   rw [← q1]
   cases mx <;> simp [List.foldlM_cons,Builtin.min2,Builtin.max2]
end
end Go.Lev
