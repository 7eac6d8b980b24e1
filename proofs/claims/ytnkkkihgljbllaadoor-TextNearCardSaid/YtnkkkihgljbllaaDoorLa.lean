import Derived.Orders
import Derived.Below
import Derived.Laws.Cells
import Derived.Laws.IdiomCopy
import Derived.Laws.Entries
import GoSem.Dispatch
import Derived.CheckFast
import Derived.Laws.StructEq
import Derived.Laws.BytesString
namespace Go.Lev
theorem aR:type_of% @Nat.le_refl:=@Nat.le_refl
theorem aS:type_of% @Nat.le_of_ble_eq_true:=@Nat.le_of_ble_eq_true
theorem a8:type_of% @Option.some.injEq:=@Option.some.injEq
theorem bg:type_of% @Bool.and_eq_true:=@Bool.and_eq_true
theorem bk:type_of% @Nat.zero_le:=@Nat.zero_le
theorem bn:type_of% @Prod.mk.injEq:=@Prod.mk.injEq
theorem br:type_of% @Result.andThen_ok:=@Result.andThen_ok
theorem bt:type_of% @Nat.eq_of_beq_eq_true:=@Nat.eq_of_beq_eq_true
theorem bw:type_of% @Sem.run_bind:=@Sem.run_bind
theorem bV:type_of% @Nat.zero_add:=@Nat.zero_add
theorem bU:type_of% @List.getElem?_eq_some_iff:=@List.getElem?_eq_some_iff
theorem bT:type_of% @Sem.run_pure:=@Sem.run_pure
theorem cg:type_of% @List.length_append:=@List.length_append
theorem cq:type_of% @List.getElem?_eq_getElem:=@List.getElem?_eq_getElem
theorem cU:type_of% @Nat.mul_one:=@Nat.mul_one
theorem cZ:type_of% @List.length_cons:=@List.length_cons
theorem dh:type_of% @Nat.ble_eq_true_of_le:=@Nat.ble_eq_true_of_le
theorem eG:type_of% @List.getElem?_cons_succ:=@List.getElem?_cons_succ
theorem eU:type_of% @List.length_nil:=@List.length_nil
theorem ft:type_of% @Array.getElem?_eq_some_iff:=@Array.getElem?_eq_some_iff
theorem fS:type_of% @List.mem_of_getElem?:=@List.mem_of_getElem?
theorem fR:type_of% @List.append_nil:=@List.append_nil
theorem fY:type_of% @List.length_eq_zero_iff:=@List.length_eq_zero_iff
theorem gd:type_of% @Bool.false_eq_true:=@Bool.false_eq_true
theorem gA:type_of% @Nat.add_zero:=@Nat.add_zero
theorem gO:type_of% @List.getElem?_eq_none:=@List.getElem?_eq_none
theorem eT:type_of% @List.mem_cons:=@List.mem_cons
theorem ig:type_of% @Bool.and_eq_true_iff:=@Bool.and_eq_true_iff
theorem ii:type_of% @List.length_map:=@List.length_map
theorem iy:type_of% @Nat.add_assoc:=@Nat.add_assoc
theorem iw:type_of% @List.getElem_mem:=@List.getElem_mem
theorem iJ:type_of% @List.cons.injEq:=@List.cons.injEq
theorem iY:type_of% @List.getElem?_append_left:=@List.getElem?_append_left
theorem jH:type_of% @Nat.lt_or_ge:=@Nat.lt_or_ge
theorem jG:type_of% @List.drop_eq_getElem_cons:=@List.drop_eq_getElem_cons
theorem kc:type_of% @Nat.le_trans:=@Nat.le_trans
theorem kb:type_of% @List.getElem?_append_right:=@List.getElem?_append_right
theorem kI:type_of% @Int.toNat_natCast:=@Int.toNat_natCast
theorem kH:type_of% @List.length_singleton:=@List.length_singleton
theorem lq:type_of% @List.cons_append:=@List.cons_append
theorem lp:type_of% @List.map_cons:=@List.map_cons
theorem li:type_of% @Bool.true_and:=@Bool.true_and
theorem lh:type_of% @Nat.zero_mul:=@Nat.zero_mul
theorem gz:type_of% @List.mem_append:=@List.mem_append
theorem lg:type_of% @Nat.lt_trichotomy:=@Nat.lt_trichotomy
theorem lV:type_of% @Bool.or_eq_true:=@Bool.or_eq_true
theorem lU:type_of% @List.nil_append:=@List.nil_append
theorem mu:type_of% @Bool.eq_iff_iff:=@Bool.eq_iff_iff
theorem mt:type_of% @Nat.lt_of_lt_of_le:=@Nat.lt_of_lt_of_le
theorem mr:type_of% @Array.getElem?_eq_getElem:=@Array.getElem?_eq_getElem
theorem mq:type_of% @Int.ofNat_eq_natCast:=@Int.ofNat_eq_natCast
theorem mp:type_of% @Bool.false_or:=@Bool.false_or
theorem mo:type_of% @List.drop_of_length_le:=@List.drop_of_length_le
theorem k_:type_of% @List.mem_singleton:=@List.mem_singleton
theorem mn:type_of% @List.length_set:=@List.length_set
theorem mX:type_of% @Array.getElem?_setIfInBounds_ne:=@Array.getElem?_setIfInBounds_ne
theorem j_:type_of% @List.all_eq_true:=@List.all_eq_true
theorem mW:type_of% @List.append_assoc:=@List.append_assoc
theorem mV:type_of% @List.getElem?_set_ne:=@List.getElem?_set_ne
theorem oM:type_of% @Bool.not_true:=@Bool.not_true
theorem oL:type_of% @List.getElem?_map:=@List.getElem?_map
theorem pJ:type_of% @List.getElem_of_mem:=@List.getElem_of_mem
theorem pI:type_of% @Nat.succ_mul:=@Nat.succ_mul
theorem pH:type_of% @Bool.not_false:=@Bool.not_false
theorem pM:type_of% @Bool.not_eq_true':=@Bool.not_eq_true'
theorem pL:type_of% @List.mem_cons_self:=@List.mem_cons_self
theorem pK:type_of% @List.getElem?_set_self:=@List.getElem?_set_self
theorem qS:type_of% @List.mem_cons_of_mem:=@List.mem_cons_of_mem
theorem qR:type_of% @Bool.and_self:=@Bool.and_self
theorem mY:type_of% @Option.map_eq_some_iff:=@Option.map_eq_some_iff
theorem sE:type_of% @Array.getElem?_modify:=@Array.getElem?_modify
theorem sB:type_of% @List.getElem?_drop:=@List.getElem?_drop
theorem sA:type_of% @List.foldl_cons:=@List.foldl_cons
theorem sy:type_of% @Array.toArray_toList:=@Array.toArray_toList
theorem sx:type_of% @Option.map_some:=@Option.map_some
theorem sw:type_of% @List.size_toArray:=@List.size_toArray
theorem sv:type_of% @Array.getElem?_append_left:=@Array.getElem?_append_left
theorem su:type_of% @Nat.testBit_two_pow:=@Nat.testBit_two_pow
theorem sr:type_of% @List.length_take:=@List.length_take
theorem t8:type_of% @Int.emod_eq_of_lt:=@Int.emod_eq_of_lt
theorem qQ:type_of% @Bool.eq_false_iff:=@Bool.eq_false_iff
theorem qP:type_of% @List.nodup_cons:=@List.nodup_cons
theorem t7:type_of% @Nat.lt_succ_iff_lt_or_eq:=@Nat.lt_succ_iff_lt_or_eq
theorem wh:type_of% @List.mem_zipIdx_iff_getElem?:=@List.mem_zipIdx_iff_getElem?
theorem wg:type_of% @List.pairwise_iff_getElem:=@List.pairwise_iff_getElem
theorem aw:type_of% @cond_true:=@cond_true
theorem aD:type_of% @cond_false:=@cond_false
theorem av:type_of% @if_neg:=@if_neg
theorem aB:type_of% @if_pos:=@if_pos
theorem cu:type_of% @decide_eq_true_eq:=@decide_eq_true_eq
theorem bD:type_of% @decide_true:=@decide_true
theorem fX:type_of% @decide_false:=@decide_false
theorem dn:type_of% @if_false:=@if_false
theorem eR:type_of% @if_true:=@if_true
theorem v_:type_of% @decide_eq_false_iff_not:=@decide_eq_false_iff_not
theorem kG:type_of% @and_true:=@and_true
theorem bH {G:Prop} (h:G:=by simp):G:=h
theorem aI {G:Prop} (h:G:=by omega):G:=h
set_option linter.unusedSimpArgs false
set_option linter.unusedVariables false
section
open Go.RowKit
inductive LV where
 | bool (b:Bool)
 | int (k:IntKind) (n:Int)
 | str (s:List UInt8)
 | nilp
 | ptr (b o:Nat)
 | gptr (g o:Nat)
 | nils
 | sle
 | any
 | unb
 | val (v:Value)
 | sln (n:Nat)
 | fact (F:World→Prop)
 | vp (v:Value) (k:Nat)
 | sl (b o len cap:Nat)
 | slo (b o len drop:Nat)
 | fn (f:Nat) (caps:List LV)
 | nilFunc
 | nilIface
 | iface (t:Nat) (v:LV)
 | agg (cs:List LV)
 | tup (vs:List LV)
deriving Inhabited
abbrev Ren:=Nat→Option (Nat×Nat×Nat)
def ie (v:Value):Prop:=v=.slice none 0 0∨∃ a:Addr,v=.slice (some a) 0 0
mutual
def VR (r:Ren):LV→Value→Prop
 | .bool b,v=>v=.bool b
 | .int k n,v=>v=.int k n
 | .str s,v=>v=.string ⟨s.toArray⟩
 | .nilp,v=>v=.pointer none
 | .ptr b o,v=>∃ B w c,r b=some (B,w,c)∧v=.pointer (some ⟨B,w+o,none⟩)
 | .gptr g o,v=>v=.pointer (some ⟨g,o,none⟩)
 | .nils,v=>v=.slice none 0 0
 | .sle,v=>ie v
 | .any,_=>True
 | .unb,v=>v=.bool true∨v=.bool false
 | .val x,v=>v=x∧∃ a n c,v=.slice a n c
 | .sln n,v=>∃ a c,v=.slice a n c
 | .fact _,_=>False
 | .vp x k,v=>∃ B o n c,x=.slice (some ⟨B,o,none⟩) n c∧v=.pointer (some ⟨B,o+k,none⟩)
 | .sl b o len cap,v=>∃ B w c,r b=some (B,w,c)∧v=.slice (some ⟨B,w+o,none⟩) len cap
 | .slo b o len drop,v=>(∃ B w c,r b=some (B,w,c)∧drop+len≤c∧v=.slice (some ⟨B,w+o,none⟩) len (c - drop))∨(len=0∧ie v)
 | .fn f caps,v=>∃ us,v=.func (.func f) #[] us.toArray∧VRs r caps us
 | .nilFunc,v=>v=.nilFunc
 | .nilIface,v=>v=.nilIface
 | .iface t l,v=>∃ u,v=.iface t u∧VR r l u
 | .agg cs,v=>∃ us,v=.agg us.toArray∧VRs r cs us
 | .tup cs,v=>∃ us,v=.tuple us.toArray∧VRs r cs us
def VRs (r:Ren):List LV→List Value→Prop
 | [],vs=>vs=[]
 | l::ls,vs=>∃ u us,vs=u::us∧VR r l u∧VRs r ls us
end
def Ren.le (r r':Ren):Prop:=∀ b x,r b=some x→r' b=some x
theorem Ren.le_refl (r:Ren):r.le r:=fun _ _ h=>h
theorem Ren.le_trans {a b c:Ren} (h:a.le b) (k:b.le c):a.le c:=fun i x e=>k i x (h i x e)
mutual
theorem VR.mono {r r':Ren} (h:r.le r'):∀ {l:LV} {v:Value},VR r l v→VR r' l v
 | .bool b,v,e=>e
 | .int k n,v,e=>e
 | .str s,v,e=>e
 | .nilp,v,e=>e
 | .ptr b o,v,e=>by simp only [VR] at *; obtain⟨B,w,c,h1,h2⟩:=e; exact⟨B,w,c,h _ _ h1,h2⟩
 | .gptr g o,v,e=>e
 | .nils,v,e=>e
 | .sle,v,e=>e
 | .any,v,e=>by simp only [VR]
 | .unb,v,e=>e
 | .val _,v,e=>e
 | .sln _,v,e=>e
 | .fact _,v,e=>e
 | .vp _ _,v,e=>e
 | .sl b o len cap,v,e=>by simp only [VR] at *; obtain⟨B,w,c,h1,h2⟩:=e; exact⟨B,w,c,h _ _ h1,h2⟩
 | .slo b o len drop,v,e=>by simp only [VR] at *; rcases e with⟨B,w,c,h1,h2⟩ | e; exact .inl ⟨B,w,c,h _ _ h1,h2⟩; exact .inr e
 | .fn f caps,v,e=>by simp only [VR] at *; obtain⟨us,h1,h2⟩:=e; exact⟨us,h1,VRs.mono h h2⟩
 | .nilFunc,v,e=>e
 | .nilIface,v,e=>e
 | .iface t l,v,e=>by simp only [VR] at *; obtain⟨u,h1,h2⟩:=e; exact⟨u,h1,VR.mono h h2⟩
 | .agg cs,v,e=>by simp only [VR] at *; obtain⟨us,h1,h2⟩:=e; exact⟨us,h1,VRs.mono h h2⟩
 | .tup cs,v,e=>by simp only [VR] at *; obtain⟨us,h1,h2⟩:=e; exact⟨us,h1,VRs.mono h h2⟩
theorem VRs.mono {r r':Ren} (h:r.le r'):∀ {l:List LV} {v:List Value},VRs r l v→VRs r' l v
 | [],v,e=>e
 | l::ls,v,e=>by simp only [VRs] at *; obtain⟨u,us,h1,h2,h3⟩:=e; exact⟨u,us,h1,VR.mono h h2,VRs.mono h h3⟩
end
theorem VRs.length {r:Ren}:∀ {l:List LV} {v:List Value},VRs r l v→v.length=l.length
 | [],v,e=>by simp only [VRs] at e; simp [e]
 | l::ls,v,e=>by simp only [VRs] at e; obtain⟨u,us,h1,h2,h3⟩:=e; simp [h1,VRs.length h3]
theorem VRs.get {r:Ren}:∀ {l:List LV} {v:List Value} {i:Nat} {x:LV},VRs r l v→l[i]? = some x→∃ u,v[i]? = some u∧VR r x u
 | [],v,i,x,e,h=>by simp at h
 | l::ls,v,0,x,e,h=>by simp only [VRs] at e; obtain⟨u,us,h1,h2,h3⟩:=e; simp at h; subst h; exact⟨u,by simp [h1],h2⟩
 | l::ls,v,i+1,x,e,h=>by
   simp only [VRs] at e; obtain⟨u,us,h1,h2,h3⟩:=e; simp at h;obtain⟨y,hy,hr⟩:=VRs.get h3 h;exact⟨y,by simp [h1,hy],hr⟩
theorem VRs.append {r:Ren}:∀ {a b:List LV} {x y:List Value},VRs r a x→VRs r b y→VRs r (a++b) (x++y)
 | [],b,x,y,h,k=>by simp only [VRs] at h; simp [h,k]
 | l::ls,b,x,y,h,k=>by
   simp only [VRs] at h; obtain⟨u,us,h1,h2,h3⟩:=h;simp only [lq,VRs];exact⟨u,us++y,by simp [h1],h2,h3.append k⟩
theorem VRs.drop {r:Ren}:∀ (n:Nat) {a:List LV} {x:List Value},VRs r a x→VRs r (a.drop n) (x.drop n)
 | 0,a,x,h=>by simpa using h
 | n+1,[],x,h=>by simp only [VRs] at h; simp [h,VRs]
 | n+1,l::ls,x,h=>by simp only [VRs] at h; obtain⟨u,us,h1,h2,h3⟩:=h; simp [h1]; exact h3.drop n
theorem VRs.take {r:Ren}:∀ (n:Nat) {a:List LV} {x:List Value},VRs r a x→VRs r (a.take n) (x.take n)
 | 0,a,x,h=>by simp [VRs]
 | n+1,[],x,h=>by simp only [VRs] at h; simp [h,VRs]
 | n+1,l::ls,x,h=>by simp only [VRs] at h; obtain⟨u,us,h1,h2,h3⟩:=h; simp only [h1,List.take_succ_cons,VRs]; exact⟨u,us.take n,rfl,h2,h3.take n⟩
theorem VRs.set {r:Ren} {i:Nat} {c:LV} {u:Value} (hc:VR r c u):∀ {a:List LV} {x:List Value},VRs r a x→VRs r (a.set i c) (x.set i u):=by
 intro a
 induction a generalizing i with
 | nil=>intro x h; simp only [VRs] at h; simp [h,VRs]
 | cons l ls ih =>
   intro x h;simp only [VRs] at h; obtain⟨w,us,h1,h2,h3⟩:=h;cases i with
   | zero=>simp only [List.set_cons_zero,VRs,h1]; exact⟨u,us,rfl,hc,h3⟩
   | succ i=>simp only [List.set_cons_succ,VRs,h1]; exact⟨w,us.set i u,rfl,h2,ih h3⟩
theorem VRs.mk {r:Ren}:∀ {a:List LV} {x:List Value},x.length=a.length→(∀ (i:Nat) l,a[i]? = some l→∃ u,x[i]? = some u∧VR r l u)→VRs r a x
 | [],x,hl,h=>by simp at hl; simp [hl,VRs]
 | l::ls,[],hl,h=>by simp at hl
 | l::ls,u::us,hl,h=>by
   simp only [VRs];refine⟨u,us,rfl,?_,VRs.mk (by simpa using hl) fun i c hi=>by simpa using h (i+1) c (by simpa using hi)⟩;obtain⟨u',h1,h2⟩:=h 0 l bH;simp at h1; subst h1; exact h2
def Di:Value→Nat
 | .slice _ n _=>n
 | _=>0
def zH (v:Value) (i:Nat):Bool:=match v with
 | .slice (some ⟨_,_,none⟩) n _=>Nat.ble (i+1) n
 | _=>false
def xj (v:Value) (l:Nat):Bool:=match v with
 | .slice _ n c=>Nat.ble l n && Nat.ble n c
 | _=>false
def te (v:Value) (size l:Nat):Value:=match v with
 | .slice a n c=>.slice (if c=l then a else a.map (·.add (l * size))) (n - l) (c - l)
 | v=>v
def LV.plain:LV→Bool
 | .agg _=>false
 | .tup _=>false
 | .any=>false
 | _=>true
abbrev OF:=List LV→World→World→Nat×Nat×Nat→(Nat→Prop)→Prop
def CC:OF:=fun cs _ w x own=>∃ (l:List UInt8) (T e:Nat),cs=[.str l,.int .i64 T,.int .i64 e]∧x.2.1=0∧own x.1∧∃ p v,w.heap[x.1]? = some (.cells #[p,v] T (0,0))∧(p=.pointer none∨p=.pointer (some ⟨x.1,0,none⟩)) ∧
 ((v=.slice none 0 0∧l=[])∨∃ g cap cur,l≠[]∧v=.slice (some ⟨g,0,none⟩) l.length cap∧g≠x.1∧own g∧w.heap[g]? = some (.cells cur e (0,0))∧l.length≤cap∧cap≤maxLen∧cur.size=cap * 1∧cur.toList.take (l.length * 1)=l.map fun b=>.int .u8 b.toNat)
def zG:OF:=fun cs _ w _ _=>∃ F:World→Prop,cs=[.fact F]∧F w
structure OP where
 tag:Nat
 f:OF
 ok:tag=1→f=CC
 ok2:tag=2→f=zG
instance:CoeFun OP (fun _=>OF):=⟨OP.f⟩
def uC:OP:=⟨1,CC,fun _=>rfl,fun h=>absurd h (by decide)⟩
def OP.isSt (F:OP):Bool:=Nat.beq F.tag 2
theorem OP.isSt_eq {F:OP} (h:F.isSt=true):F.f=zG:=F.ok2 (bt h)
def OP.isBld (F:OP):Bool:=Nat.beq F.tag 1
theorem OP.i4l {F:OP} (h:F.isBld=true):F.f=CC:=F.ok (bt h)
inductive LB where
 | cells (cs:List LV) (op:Option Nat)
 | iter (s:List UInt8) (pos:Nat)
 | ro (cs:List LV)
 | obj (F:OP) (cs:List LV) (g:Nat)
 | dead
inductive Tr (α : Type) where
 | leaf
 | node (l:Tr α) (v:Option α) (r:Tr α)
variable {α : Type}
def Tr.get:Tr α→Nat→Option α
 | .leaf,_=>none
 | .node l v r,n=>cond (Nat.beq n 0) v (cond (Nat.beq (Nat.mod n 2) 1) (l.get (Nat.div (Nat.sub n 1) 2)) (r.get (Nat.div (Nat.sub n 1) 2)))
def Tr.set:Nat→Tr α→Nat→α→Option (Tr α)
 | 0,_,_,_=>none
 | d+1,.leaf,n,b =>
   cond (Nat.beq n 0) (some (.node .leaf (some b) .leaf)) <|
   cond (Nat.beq (Nat.mod n 2) 1)
    (match Tr.set d .leaf (Nat.div (Nat.sub n 1) 2) b with | some t=>some (.node t none .leaf) | none=>none)
    (match Tr.set d .leaf (Nat.div (Nat.sub n 1) 2) b with | some t=>some (.node .leaf none t) | none=>none)
 | d+1,.node l v r,n,b =>
   cond (Nat.beq n 0) (some (.node l (some b) r)) <|
   cond (Nat.beq (Nat.mod n 2) 1)
    (match Tr.set d l (Nat.div (Nat.sub n 1) 2) b with | some t=>some (.node t v r) | none=>none)
    (match Tr.set d r (Nat.div (Nat.sub n 1) 2) b with | some t=>some (.node l v t) | none=>none)
theorem b7 (a b:Nat):Nat.beq a b=decide (a=b):=by
 rw [mu];constructor
 ·intro h; simpa using bt h
 ·intro h;have e:a=b:=by simpa using h
  rw [e]; exact Nat.beq_refl b
theorem I5 {n m:Nat} (hn:n≠0) (hm:m≠0) (hp:n % 2=m % 2) (h:(n - 1) / 2=(m - 1) / 2):n=m:=aI
theorem Tr.i3p (m:Nat):Tr.get (.leaf:Tr α) m=none:=rfl
theorem Tr.i4b (l:Tr α) (v:Option α) (r:Tr α) (m:Nat):Tr.get (.node l v r) m=if m=0 then v else if m % 2=1 then l.get ((m - 1) / 2) else r.get ((m - 1) / 2):=by
 have e0:Nat.beq m 0=decide (m=0):=b7 m 0;have e1:Nat.beq (Nat.mod m 2) 1=decide (m % 2=1):=by
  have:Nat.mod m 2=m % 2:=rfl;rw [this]; exact b7 _ _
 have e2:Nat.div (Nat.sub m 1) 2=(m - 1) / 2:=rfl;simp only [Tr.get,e0,e1,e2];by_cases h0:m=0 <;> by_cases h1:m % 2=1 <;> simp [h0,h1]
theorem Tr.i4h:∀ (d:Nat) (t:Tr α) (n:Nat) (b : α) (t':Tr α),Tr.set d t n b=some t'→∀ m,t'.get m=if m=n then some b else t.get m:=by
 intro d
 induction d with
 | zero=>intro t n b t' h; simp [Tr.set] at h
 | succ d ih =>
   intro t n b t' h m;have e0:Nat.beq n 0=decide (n=0):=b7 n 0;have e1:Nat.beq (Nat.mod n 2) 1=decide (n % 2=1):=by
    have:Nat.mod n 2=n % 2:=rfl;rw [this]; exact b7 _ _
   have e2:Nat.div (Nat.sub n 1) 2=(n - 1) / 2:=rfl;have key:∀ l v r,(cond (Nat.beq n 0) (some (.node l (some b) r)) (cond (Nat.beq (Nat.mod n 2) 1)
    (match Tr.set d l (Nat.div (Nat.sub n 1) 2) b with | some t=>some (Tr.node t v r) | none=>none)
    (match Tr.set d r (Nat.div (Nat.sub n 1) 2) b with | some t=>some (Tr.node l v t) | none=>none)))=some t' →
    t'.get m=if m=n then some b else Tr.get (.node l v r) m:=by
    intro l v r h;simp only [e0,e1,e2] at h;by_cases h0:n=0
    ·subst h0;simp at h; subst h;simp only [Tr.i4b];by_cases hm:m=0 <;> simp [hm]
    ·by_cases h1:n % 2=1
     ·simp only [h0,h1,fX,bD,aD,aw] at h;cases hs:Tr.set d l ((n - 1) / 2) b with
      | none=>simp [hs] at h
      | some u =>
        simp [hs] at h; subst h;have hu:=ih _ _ _ _ hs ((m - 1) / 2);simp only [Tr.i4b,hu];by_cases hm:m=n
        ·subst hm; simp [h0,h1]
        ·by_cases hm0:m=0
         ·subst hm0; simp [Ne.symm h0]
         ·by_cases hm1:m % 2=1
          ·have:(m - 1) / 2≠(n - 1) / 2:=fun e=>hm (I5 hm0 h0 aI e)
           simp [hm,hm0,hm1,this]
          ·simp [hm,hm0,hm1]
     ·simp only [h0,h1,fX,aD] at h;cases hs:Tr.set d r ((n - 1) / 2) b with
      | none=>simp [hs] at h
      | some u =>
        simp [hs] at h; subst h;have hu:=ih _ _ _ _ hs ((m - 1) / 2);simp only [Tr.i4b,hu];by_cases hm:m=n
        ·subst hm; simp [h0,h1]
        ·by_cases hm0:m=0
         ·subst hm0; simp [Ne.symm h0]
         ·by_cases hm1:m % 2=1
          ·simp [hm,hm0,hm1]
          ·have:(m - 1) / 2≠(n - 1) / 2:=fun e=>hm (I5 hm0 h0 aI e)
           simp [hm,hm0,hm1,this]
   cases t with
   | leaf =>
     have:=key .leaf none .leaf (by simpa [Tr.set] using h);rw [this];simp only [Tr.i4b,Tr.i3p];by_cases hm:m=n <;> simp [hm]
   | node l v r=>exact key l v r (by simpa [Tr.set] using h)
structure St where
 h:Tr LB
 n:Nat
 g:List (Nat×List LV)
end
section
open Go.RowKit
def sL:List LV→Nat→Option LV
 | [],_=>none
 | x::xs,n=>cond (Nat.beq n 0) (some x) (sL xs (Nat.sub n 1))
theorem AD (a b:Nat):Nat.sub a b=a - b:=rfl
theorem pt:∀ (l:List LV) (n:Nat),sL l n=l[n]?
 | [],n=>by simp [sL]
 | x::xs,0=>rfl
 | x::xs,n+1=>by
   have h:Nat.sub (n+1) 1=n:=rfl;have h0:Nat.beq (n+1) 0=false:=rfl;simp only [sL,h,h0,aD,eG];exact pt xs n
def cut:List LV→Nat→Nat→Option (List LV)
 | [],o,n=>cond (Nat.beq n 0) (some []) none
 | x::xs,o,n =>
   cond (Nat.beq n 0) (some []) <|
   cond (Nat.beq o 0) (match cut xs 0 (Nat.sub n 1) with | some l=>some (x::l) | none=>none) (cut xs (Nat.sub o 1) n)
theorem kB:∀ (l:List LV) (o n:Nat) (c:List LV),cut l o n=some c→c.length=n∧∀ i,i < n→c[i]? = l[o+i]?
 | [],o,n,c,h=>by
   simp only [cut,b7] at h;by_cases hn:n=0
   ·subst hn; simp at h; subst h; exact⟨rfl,fun i hi=>absurd hi aI⟩
   ·simp [hn] at h
 | x::xs,o,n,c,h=>by
   simp only [cut,b7,AD] at h;by_cases hn:n=0
   ·subst hn; simp at h; subst h; exact⟨rfl,fun i hi=>absurd hi aI⟩
   ·simp only [hn,fX,aD] at h;by_cases ho:o=0
    ·subst ho;simp only [bD,aw] at h;cases hc:cut xs 0 (n - 1) with
     | none=>simp [hc] at h
     | some d =>
       simp [hc] at h; subst h;obtain⟨h1,h2⟩:=kB xs 0 _ d hc;refine⟨by simp [h1]; omega,fun i hi=>?_⟩;cases i with
       | zero=>simp
       | succ i =>
         have:=h2 i aI;simp only [eG,this,bV]
    ·simp only [ho,fX,aD] at h;obtain⟨h1,h2⟩:=kB xs (o - 1) n c h;refine⟨h1,fun i hi=>?_⟩;rw [h2 i hi];have:o+i=(o - 1+i)+1:=aI;rw [this,eG]
def lay:List LV→Nat→List LV→Option (List LV)
 | l,_,[]=>some l
 | [],_,_::_=>none
 | x::xs,o,v::vs =>
   cond (Nat.beq o 0) (match lay xs 0 vs with | some l=>some (v::l) | none=>none)
    (match lay xs (Nat.sub o 1) (v::vs) with | some l=>some (x::l) | none=>none)
theorem rP:∀ (l:List LV) (o:Nat) (vs c:List LV),lay l o vs=some c →
  c.length=l.length∧(vs≠[]→o+vs.length≤l.length)∧∀ i,c[i]? = if o≤i∧i < o+vs.length then vs[i - o]? else l[i]?
 | l,o,[],c,h=>by
   have:l=c:=by cases l <;> simpa [lay] using h
   subst this;refine⟨rfl,fun h=>absurd rfl h,fun i=>?_⟩;rw [av bH]
 | [],o,v::vs,c,h=>by simp [lay] at h
 | x::xs,o,v::vs,c,h=>by
   simp only [lay,b7,AD] at h;by_cases ho:o=0
   ·subst ho;simp only [bD,aw] at h;cases hc:lay xs 0 vs with
    | none=>simp [hc] at h
    | some d =>
      simp [hc] at h; subst h;obtain⟨h1,h2,h3⟩:=rP xs 0 vs d hc;refine⟨by simp [h1],fun _=>?_,fun i=>?_⟩
      ·by_cases hv:vs=[]
       ·simp [hv]
       ·have:=h2 hv; simp at this ⊢; omega
      ·cases i with
       | zero=>simp
       | succ i =>
         have:=h3 i;simp only [eG,this,cZ];by_cases hi:i < vs.length
         ·rw [aB aI,aB aI]; simp
         ·rw [av aI,av aI]
   ·simp only [ho,fX,aD] at h;cases hc:lay xs (o - 1) (v::vs) with
    | none=>simp [hc] at h
    | some d =>
      simp [hc] at h; subst h;obtain⟨h1,h2,h3⟩:=rP xs (o - 1) (v::vs) d hc;refine⟨by simp [h1],fun _=>?_,fun i=>?_⟩
      ·have:=h2 (by simp); simp at this ⊢; omega
      ·cases i with
       | zero=>rw [av aI]; simp
       | succ i =>
         have:=h3 i;simp only [eG,this,cZ];by_cases hi:o≤i+1∧i+1 < o+(vs.length+1)
         ·rw [aB aI,aB hi,show i+1 - o=i - (o - 1) by omega]
         ·rw [av aI,av hi]
def LB.live:LB→Bool
 | .dead=>false
 | .ro _=>false
 | _=>true
def St.lives (s:St) (b:Nat):Prop:=∃ L,s.h.get b=some L∧L.live=true
def dv (cs:List LV) (op:Option Nat) (k:Nat):Nat :=
 match op with | none=>cs.length | some es=>k * es
structure d0i (r:Ren) (w:World) (x:Nat×Nat×Nat) (cs:List LV) (op:Option Nat):Prop where
 ex:∃ c e lo hi,w.heap[x.1]? = some (.cells c e (lo,hi)) ∧
  (∀ (i:Nat) l,cs[i]? = some l→l.plain=true∧∃ u,c[x.2.1+i]? = some u∧VR r l u) ∧
  (∀ i,i < dv cs op x.2.2→¬ (lo≤x.2.1+i∧x.2.1+i < hi))∧x.2.1+dv cs op x.2.2≤c.size ∧
  (∀ v∈c.toList,v.oneCell'=true)
 fits:cs.length≤dv cs op x.2.2
def Gl (W0:World) (g:List (Nat×List LV)):Prop :=
 ∀ x∈g,(∃ F:World→Prop,x.2=[.fact F]∧F W0)∨∃ c e f,W0.heap[x.1]? = some (.cells c e f)∧∀ (i:Nat) l,x.2[i]? = some l→l.plain=true∧∃ u,c[i]? = some u∧∀ r,VR r l u
def Dr (W:World) (v:Value) (k:Nat) (cs:List LV):Prop:=∃ B o n c cc e f,v=.slice (some ⟨B,o,none⟩) n c∧W.heap[B]? = some (.cells cc e f)∧∀ (i:Nat) l,cs[i]? = some l→l.plain=true∧∃ u,cc[o+k+i]? = some u∧∀ r,VR r l u
def mc:LV→Bool
 | .bool _=>true
 | .int _ _=>true
 | .str _=>true
 | .val _=>true
 | _=>false
def zZ (F:World→Prop) (v:Value) (k n:Nat):Prop:=∃ cs:List LV,cs.length=n∧cs.all mc=true∧(∃ W,F W)∧∀ W,F W→Dr W v k cs
noncomputable def rz (F:World→Prop) (v:Value) (k n:Nat):Bool:=@decide (zZ F v k n) (Classical.propDecidable _)
noncomputable def o_ (F:World→Prop) (v:Value) (k n:Nat):List LV:=match Classical.propDecidable (zZ F v k n) with
 | .isTrue h=>Classical.choose h
 | .isFalse _=>[]
theorem Li {F:World→Prop} {v:Value} {k n:Nat} (h:rz F v k n=true):(o_ F v k n).length=n∧(o_ F v k n).all mc=true∧∀ W,F W→Dr W v k (o_ F v k n):=by
 have hp:zZ F v k n:=by
  unfold rz at h;exact @of_decide_eq_true _ (Classical.propDecidable _) h
 unfold o_;split
 ·rename_i h2 _; have:=Classical.choose_spec h2; exact⟨this.1,this.2.1,this.2.2.2⟩
 ·rename_i h2 _; exact absurd hp h2
def Own (r:Ren) (g B:Nat):Prop:=∃ y,r g=some y∧y.2.2.testBit B=true
def pG (r:Ren) (s:St) (B:Nat):Prop:=∃ b F cs g,s.h.get b=some (.obj F cs g)∧Own r g B
def a4j (r:Ren) (s:St) (B:Nat):Prop:=(∃ b x,s.lives b∧r b=some x∧x.1=B)∨pG r s B
structure c2d (W0:World) (r:Ren) (s:St) (w:World):Prop where
 holds:∀ b F cs g,s.h.get b=some (.obj F cs g)→∃ x,r b=some x∧Own r g x.1∧∀ w',Below W0.heap.size W0 w'→w.heap.size≤w'.heap.size→(∀ B,Own r g B→w'.heap[B]? = w.heap[B]?)→F cs W0 w' x (Own r g)
 inside:∀ B,pG r s B→W0.heap.size≤B∧B < w.heap.size
 apart:∀ b F cs g b' x',s.h.get b=some (.obj F cs g)→s.lives b'→r b'=some x'→Own r g x'.1→b'=b
 two:∀ b F cs g b' F' cs' g' B,s.h.get b=some (.obj F cs g)→s.h.get b'=some (.obj F' cs' g')→Own r g B→Own r g' B→b=b'
theorem Own.mono {r r':Ren} (h:r.le r') {g B:Nat} (k:Own r g B):Own r' g B:=by
 obtain⟨y,h1,h2⟩:=k; exact⟨y,h _ _ h1,h2⟩
theorem Own.back {r r':Ren} (h:r.le r') {g B C:Nat} (e:Own r g C) (k:Own r' g B):Own r g B:=by
 obtain⟨y,h1,h2⟩:=e;obtain⟨z,k1,k2⟩:=k;have:=h _ _ h1;rw [this] at k1; cases k1;exact⟨y,h1,k2⟩
theorem c2d.none {W0:World} {r:Ren} {s:St} {w:World} (h:∀ b F cs g,s.h.get b≠some (.obj F cs g)):c2d W0 r s w :=
 ⟨fun b F cs g k=>absurd k (h _ _ _ _),fun B ⟨b,F,cs,g,k,_⟩=>absurd k (h _ _ _ _),fun b F cs g b' x' k=>absurd k (h _ _ _ _),fun b F cs g b' F' cs' g' B k=>absurd k (h _ _ _ _)⟩
theorem c2d.clear {W0:World} {r:Ren} {s:St} {w:World} (h:c2d W0 r s w) {b:Nat} {x:Nat×Nat×Nat} (hl:s.lives b) (hx:r b=some x) (hb:∀ F cs g,s.h.get b≠some (.obj F cs g)):¬ pG r s x.1:=by
 rintro⟨b1,F,cs,g,h1,h2⟩
 have:=h.apart b1 F cs g b x h1 hl hx h2;subst this;exact hb _ _ _ h1
theorem c2d.far {W0:World} {r:Ren} {s:St} {w:World} (h:c2d W0 r s w) {B:Nat} (hB:w.heap.size≤B):¬ pG r s B:=fun k=>by have:=(h.inside B k).2; omega
theorem c2d.step {W0:World} {r r':Ren} {s s':St} {w w':World} (h:c2d W0 r s w) (hle:r.le r') (hob:∀ b F cs g,s'.h.get b=some (.obj F cs g)→s.h.get b=some (.obj F cs g))
  (hl:∀ b x,s'.lives b→r' b=some x→(s.lives b∧r b=some x)∨¬ pG r s x.1) (hsz:w.heap.size≤w'.heap.size) (hk:∀ B,pG r s B→w'.heap[B]? = w.heap[B]?):c2d W0 r' s' w':=by
 have hbk:∀ b F cs g B,s'.h.get b=some (.obj F cs g)→Own r' g B→Own r g B:=fun b F cs g B hb k=>by
  obtain⟨x,h1,h2,_⟩:=h.holds b F cs g (hob _ _ _ _ hb);exact h2.back hle k
 refine⟨fun b F cs g hb=>?_,fun B hB=>?_,fun b F cs g b' x' hb hl' hx' hO=>?_,fun b F cs g b' F' cs' g' B hb hb' h1 h2=>?_⟩
 ·obtain⟨x,h1,h2,h3⟩:=h.holds b F cs g (hob _ _ _ _ hb);refine⟨x,hle _ _ h1,h2.mono hle,fun w2 g1 g2 g3=>?_⟩;have e:Own r' g=Own r g:=funext fun B=>propext ⟨hbk b F cs g B hb,Own.mono hle⟩
  rw [e];exact h3 w2 g1 (kc hsz g2) fun B hB=>by rw [g3 B (hB.mono hle)]; exact hk B ⟨b,F,cs,g,hob _ _ _ _ hb,hB⟩
 ·obtain⟨b,F,cs,g,h1,h2⟩:=hB;have:=h.inside B ⟨b,F,cs,g,hob _ _ _ _ h1,hbk b F cs g B h1 h2⟩;omega
 ·have hO':=hbk b F cs g _ hb hO;rcases hl b' x' hl' hx' with⟨k1,k2⟩ | k
  ·exact h.apart b F cs g b' x' (hob _ _ _ _ hb) k1 k2 hO'
  ·exact absurd ⟨b,F,cs,g,hob _ _ _ _ hb,hO'⟩ k
 ·exact h.two b F cs g b' F' cs' g' B (hob _ _ _ _ hb) (hob _ _ _ _ hb') (hbk _ _ _ _ _ hb h1) (hbk _ _ _ _ _ hb' h2)
theorem a4j.step {W0:World} {r r':Ren} {s s':St} {w:World} (h:c2d W0 r s w) (hle:r.le r') (hob:∀ b F cs g,s'.h.get b=some (.obj F cs g)→s.h.get b=some (.obj F cs g))
  (hl:∀ b x,s'.lives b→r' b=some x→x.1 < w.heap.size→∃ b0 x0,s.lives b0∧r b0=some x0∧x0.1=x.1):∀ B,B < w.heap.size→a4j r' s' B→a4j r s B:=by
 rintro B hB (⟨b,x,h1,h2,rfl⟩ | ⟨b,F,cs,g,h1,h2⟩)
 ·exact .inl (hl b x h1 h2 hB)
 ·obtain⟨x,k1,k2,_⟩:=h.holds b F cs g (hob _ _ _ _ h1);exact .inr ⟨b,F,cs,g,hob _ _ _ _ h1,k2.back hle h2⟩
structure Inv (W0:World) (r:Ren) (s:St) (w:World):Prop where
 below:Below W0.heap.size W0 w
 dom:∀ b x,r b=some x→b < s.n∧x.1 < w.heap.size
 own:∀ b x,s.lives b→r b=some x→W0.heap.size≤x.1
 fresh:∀ b,s.n≤b→s.h.get b=none
 inj:∀ b b' x x',s.lives b→s.lives b'→r b=some x→r b'=some x'→x.1=x'.1→b=b'
 cells:∀ b cs op,s.h.get b=some (.cells cs op)→(cs=[]∧r b=none)∨∃ x,r b=some x∧d0i r w x cs op
 iter:∀ b t p,s.h.get b=some (.iter t p)→∃ x,r b=some x∧x.2.1=0∧w.heap[x.1]? = some (.stringIter ⟨t.toArray⟩ p)
 gl:Gl W0 s.g
 ro:∀ b cs,s.h.get b=some (.ro cs)→(cs=[]∧r b=none)∨∃ x,r b=some x∧∃ c e f,W0.heap[x.1]? = some (.cells c e f)∧∀ (i:Nat) l,cs[i]? = some l→l.plain=true∧∃ u,c[x.2.1+i]? = some u∧VR r l u
 ob:c2d W0 r s w
structure Ext (r:Ren) (s:St) (w:World) (r':Ren) (s':St) (w':World):Prop where
 le:r.le r'
 n:s.n≤s'.n
 size:w.heap.size≤w'.heap.size
 img:∀ B,B < w.heap.size→a4j r' s' B→a4j r s B
 keep:∀ B,B < w.heap.size→¬ a4j r s B→w'.heap[B]? = w.heap[B]?
theorem Ext.refl (r:Ren) (s:St) (w:World):Ext r s w r s w :=
 ⟨r.le_refl,aR _,aR _,fun B _ h=>h,fun _ _ _=>rfl⟩
theorem Ext.trans {r r' r'':Ren} {s s' s'':St} {w w' w'':World} (h:Ext r s w r' s' w') (k:Ext r' s' w' r'' s'' w''):Ext r s w r'' s'' w'':=by
 refine⟨r.le_trans h.le k.le,kc h.n k.n,kc h.size k.size,fun B hB ho=>h.img B hB (k.img B (mt hB h.size) ho),fun B hB hno=>?_⟩;rw [k.keep B (mt hB h.size) fun ho=>hno (h.img B hB ho),h.keep B hB hno]
def a2w (r:Ren) (s:St) (b B:Nat):Prop:=(s.lives b∧∃ x,r b=some x∧x.1=B)∨∃ F cs g,s.h.get b=some (.obj F cs g)∧Own r g B
theorem a4j.by {r:Ren} {s:St} {B:Nat} (h:a4j r s B):∃ b,a2w r s b B:=by
 rcases h with⟨b,x,h1,h2,h3⟩ | ⟨b,F,cs,g,h1,h2⟩
 ·exact⟨b,.inl ⟨h1,x,h2,h3⟩⟩
 ·exact⟨b,.inr ⟨F,cs,g,h1,h2⟩⟩
theorem a2w.owned {r:Ren} {s:St} {b B:Nat} (h:a2w r s b B):a4j r s B:=by
 rcases h with⟨h1,x,h2,h3⟩ | ⟨F,cs,g,h1,h2⟩
 ·exact .inl ⟨b,x,h1,h2,h3⟩
 ·exact .inr ⟨b,F,cs,g,h1,h2⟩
theorem Inv.one_owner {W0:World} {r:Ren} {s:St} {w:World} (h:Inv W0 r s w) {b b' B:Nat} (k:a2w r s b B) (k':a2w r s b' B):b=b':=by
 rcases k with⟨h1,x,h2,rfl⟩ | ⟨F,cs,g,h1,h2⟩ <;> rcases k' with⟨h1',x',h2',h3'⟩ | ⟨F',cs',g',h1',h2'⟩
 ·exact h.inj b b' x x' h1 h1' h2 h2' h3'.symm
 ·exact h.ob.apart b' _ _ _ b x h1' h1 h2 h2'
 ·exact(h.ob.apart b _ _ _ b' x' h1 h1' h2' (by rw [h3']; exact h2)).symm
 ·exact h.ob.two b _ _ _ b' _ _ _ B h1 h1' h2 h2'
theorem Inv.owned_in {W0:World} {r:Ren} {s:St} {w:World} (h:Inv W0 r s w) {B:Nat} (k:a4j r s B):W0.heap.size≤B∧B < w.heap.size:=by
 rcases k with⟨b,x,h1,h2,rfl⟩ | k
 ·exact⟨h.own b x h1 h2,(h.dom b x h2).2⟩
 ·exact h.ob.inside B k
theorem Inv.unowned {W0:World} {r:Ren} {s:St} {w:World} (h:Inv W0 r s w) {B:Nat} (hB:w.heap.size≤B):¬ a4j r s B:=by
 rintro(⟨b,x,_,h1,rfl⟩ | h1)
 ·have:=(h.dom b x h1).2; omega
 ·exact h.ob.far hB h1
theorem Inv.draw {W0:World} {r:Ren} {s:St} {w:World} (h:Inv W0 r s w) (n:Nat):Inv W0 r s { w with drawn:=n } :=
 ⟨⟨h.below.os,h.below.tape,h.below.output,h.below.size,h.below.block⟩,h.dom,h.own,h.fresh,h.inj,
  fun b cs op hb=>(h.cells b cs op hb).imp id fun⟨x,h1,h2⟩=>⟨x,h1,⟨h2.ex,h2.fits⟩⟩,h.iter,h.gl,h.ro,h.ob.step r.le_refl (fun _ _ _ _ k=>k) (fun _ _ k1 k2=>.inl ⟨k1,k2⟩) (aR _) (fun _ _=>rfl)⟩
theorem Ext.draw {r:Ren} {s:St} {w:World} (n:Nat):Ext r s w r s { w with drawn:=n } :=
 ⟨r.le_refl,aR _,aR _,fun B _ h=>h,fun _ _ _=>rfl⟩
theorem VR.one {r:Ren} {l:LV} {v:Value} (h:VR r l v) (hp:l.plain=true):v.oneCell'=true:=by
 cases l <;> simp only [VR,LV.plain] at h hp <;> first
  | (cases hp; done)
  | (subst h; rfl)
  | (obtain⟨h1,a,n,c,h2⟩:=h; subst h2; rfl)
  | (rcases h with⟨B,w,c,h1,h3,h2⟩ | ⟨_,h | ⟨a,h⟩⟩ <;> first | (subst h2; rfl) | (subst h; rfl))
  | (rcases h with h | ⟨a,h⟩ <;> subst h <;> rfl)
  | (rcases h with h | h <;> subst h <;> rfl)
  | (rcases h with h | h <;> subst h <;> rfl)
  | (obtain⟨B,w,c,h1,h2⟩:=h; subst h2; rfl)
  | (obtain⟨B,w,c,h1,h3,h2⟩:=h; subst h2; rfl)
  | (obtain⟨u,h1,h2⟩:=h; subst h1; rfl)
  | (obtain⟨u,h1,h2⟩:=h; subst h2; rfl)
def Ren.put (r:Ren) (n:Nat) (x:Nat×Nat×Nat):Ren:=fun b=>if b=n then some x else r b
theorem Ren.i3m {W0:World} {r:Ren} {s:St} {w:World} (h:Inv W0 r s w) (x:Nat×Nat×Nat):r.le (r.put s.n x):=by
 intro b y hb;have:=(h.dom b y hb).1;simp [Ren.put,show b≠s.n by omega,hb]
def St.new (s:St) (b:LB):Option St :=
 match s.h.set 24 s.n b with | some t=>some ⟨t,Nat.succ s.n,s.g⟩ | none=>none
theorem St.i4a {s s':St} {b:LB} (h:s.new b=some s'):s'.g=s.g:=by
 unfold St.new at h;cases ht:s.h.set 24 s.n b with
 | none=>simp [ht] at h
 | some t=>simp [ht] at h; subst h; rfl
theorem St.i4g {s s':St} {b:LB} (h:s.new b=some s'):s'.n=s.n+1∧∀ m,s'.h.get m=if m=s.n then some b else s.h.get m:=by
 unfold St.new at h;cases ht:s.h.set 24 s.n b with
 | none=>simp [ht] at h
 | some t=>simp [ht] at h; subst h; exact⟨rfl,Tr.i4h _ _ _ _ _ ht⟩
theorem d0i.mono {r r':Ren} {w w':World} {x:Nat×Nat×Nat} {cs:List LV} {op:Option Nat} (h:d0i r w x cs op) (hr:r.le r') (hw:w'.heap[x.1]? = w.heap[x.1]?):d0i r' w' x cs op:=by
 obtain⟨⟨c,e,lo,hi,h1,h2,h3,h4,h5⟩,h6⟩:=h;refine⟨⟨c,e,lo,hi,by rw [hw]; exact h1,fun i l hl=>?_,h3,h4,h5⟩,h6⟩;obtain⟨g1,u,g2,g3⟩:=h2 i l hl;exact⟨g1,u,g2,g3.mono hr⟩
theorem Inv.new {W0:World} {r:Ren} {s s':St} {w:World} (h:Inv W0 r s w) {b:LB} (hs:s.new b=some s') (o:Obj) (k:Nat)
  (hc:∀ cs op,b=.cells cs op→d0i (r.put s.n (w.heap.size,0,k)) { w with heap:=w.heap.push o } (w.heap.size,0,k) cs op)
  (hi:∀ t p,b=.iter t p→o=.stringIter ⟨t.toArray⟩ p) (hro:∀ cs,b≠.ro cs) (hno:∀ F cs g,b≠.obj F cs g) :
  Inv W0 (r.put s.n (w.heap.size,0,k)) s' { w with heap:=w.heap.push o }∧Ext r s w (r.put s.n (w.heap.size,0,k)) s' { w with heap:=w.heap.push o }:=by
 obtain⟨hn,hg⟩:=St.i4g hs;have hle:=Ren.i3m h (w.heap.size,0,k);have hdom:∀ b x,r b=some x→b≠s.n:=fun b x hb=>by have:=(h.dom b x hb).1; omega
 have hheap:∀ B,B < w.heap.size→(w.heap.push o)[B]? = w.heap[B]?:=fun B hB=>by rw [Array.getElem?_push,av aI]
 have hW:=h.below.size;have lives:∀ b,s'.lives b→b≠s.n→s.lives b:=fun b ⟨L,h1,h2⟩ hb=>⟨L,by rw [hg,av hb] at h1; exact h1,h2⟩
 have hob:∀ b' F cs g,s'.h.get b'=some (.obj F cs g)→s.h.get b'=some (.obj F cs g):=fun b' F cs g k=>by
  rw [hg] at k;by_cases e:b'=s.n
  ·rw [aB e] at k; simp at k; exact absurd k (hno F cs g)
  ·rwa [av e] at k
 have hll:∀ b x,s'.lives b→r.put s.n (w.heap.size,0,k) b=some x→(s.lives b∧r b=some x)∨x.1=w.heap.size:=fun b x hb hx=>by
  by_cases e:b=s.n
  ·simp [Ren.put,e] at hx; subst hx; exact .inr rfl
  ·simp [Ren.put,e] at hx;exact .inl ⟨lives b hb e,hx⟩
 refine⟨⟨?_,?_,?_,?_,?_,?_,?_,by rw [St.i4a hs]; exact h.gl,?_,h.ob.step hle hob (fun b x k1 k2=>(hll b x k1 k2).imp id fun e=>h.ob.far aI) bH fun B hB=>hheap B (h.ob.inside B hB).2⟩,
  ⟨hle,by omega,by simp,a4j.step h.ob hle hob fun b x k1 k2 k3=>(hll b x k1 k2).elim (fun k=>⟨b,x,k.1,k.2,rfl⟩) fun e=>by omega,fun B hB _=>hheap B hB⟩⟩
 ·exact h.below.trans ⟨rfl,rfl,rfl,by simp,fun B hB=>hheap B aI⟩
 ·intro b x hb;by_cases e:b=s.n
  ·simp [Ren.put,e] at hb; subst hb; simp; omega
  ·simp [Ren.put,e] at hb;have:=h.dom b x hb;simp; omega
 ·intro b x hl hb;by_cases e:b=s.n
  ·simp [Ren.put,e] at hb; subst hb; simpa using hW
  ·simp [Ren.put,e] at hb;exact h.own b x (lives b hl e) hb
 ·intro b hb;rw [hg,av aI];exact h.fresh b aI
 ·intro b b' x x' hb hb' hx hx' he;by_cases e:b=s.n <;> by_cases e':b'=s.n
  ·omega
  ·simp [Ren.put,e] at hx; simp [Ren.put,e'] at hx';have:=(h.dom b' x' hx').2;subst hx; simp at he; omega
  ·simp [Ren.put,e] at hx; simp [Ren.put,e'] at hx';have:=(h.dom b x hx).2;subst hx'; simp at he; omega
  ·simp [Ren.put,e] at hx; simp [Ren.put,e'] at hx';exact h.inj b b' x x' (lives b hb e) (lives b' hb' e') hx hx' he
 ·intro b' cs op hb;rw [hg] at hb;by_cases e:b'=s.n
  ·subst e;simp at hb;exact .inr ⟨_,by simp [Ren.put],hc cs op hb⟩
  ·rw [av e] at hb;rcases h.cells b' cs op hb with⟨h1,h2⟩ | ⟨x,h1,h2⟩
   ·exact .inl ⟨h1,by simp [Ren.put,e,h2]⟩
   ·exact .inr ⟨x,hle _ _ h1,h2.mono hle (hheap _ (h.dom _ _ h1).2)⟩
 ·intro b' t p hb;rw [hg] at hb;by_cases e:b'=s.n
  ·subst e;simp at hb;exact⟨_,by simp [Ren.put]; rfl,rfl,by simp [hi t p hb]⟩
  ·rw [av e] at hb;obtain⟨x,h1,h0,h2⟩:=h.iter b' t p hb;exact⟨x,hle _ _ h1,h0,by rw [← h2]; exact hheap _ (h.dom _ _ h1).2⟩
 ·intro b' cs hb;rw [hg] at hb;by_cases e:b'=s.n
  ·subst e; simp at hb; exact absurd hb (hro cs)
  ·rw [av e] at hb;rcases h.ro b' cs hb with⟨h1,h2⟩ | ⟨x,h1,c,e',f,h2,h3⟩
   ·exact .inl ⟨h1,by simp [Ren.put,e,h2]⟩
   exact .inr ⟨x,hle _ _ h1,c,e',f,h2,fun i l hl=>let ⟨k1,u,k2,k3⟩:=h3 i l hl; ⟨k1,u,k2,k3.mono hle⟩⟩
theorem Inv.newNil {W0:World} {r:Ren} {s s':St} {w:World} (h:Inv W0 r s w) {op:Option Nat} (hs:s.new (.cells [] op)=some s'):Inv W0 r s' w∧Ext r s w r s' w:=by
 obtain⟨hn,hg⟩:=St.i4g hs;have hrn:r s.n=none:=by
  cases e:r s.n with
  | none=>rfl
  | some x=>have:=(h.dom _ _ e).1; omega
 have hget:∀ b L,s'.h.get b=some L→s.h.get b=some L∨(b=s.n∧L=.cells [] op):=fun b L k=>by
  rw [hg] at k;by_cases e:b=s.n
  ·rw [aB e] at k; exact .inr ⟨e,(Option.some.inj k).symm⟩
  ·rw [av e] at k; exact .inl k
 have hlv:∀ b x,s'.lives b→r b=some x→s.lives b:=fun b x ⟨L,h1,h2⟩ hx=>by
  rcases hget b L h1 with k | ⟨k,_⟩
  ·exact⟨L,k,h2⟩
  ·subst k; rw [hrn] at hx; cases hx
 have hob:∀ b F cs g,s'.h.get b=some (.obj F cs g)→s.h.get b=some (.obj F cs g):=fun b F cs g hb=>by
  rcases hget b _ hb with k | ⟨_,k⟩
  ·exact k
  ·cases k
 refine⟨⟨h.below,fun b x hb=>by have:=h.dom b x hb; exact⟨by omega,this.2⟩,fun b x hl hb=>h.own b x (hlv b x hl hb) hb,fun b hb=>by rw [hg,av aI]; exact h.fresh b aI,fun b b' x x' l l' e e' he=>h.inj b b' x x' (hlv b x l e) (hlv b' x' l' e') e e' he,fun b cs op' hb=>?_,fun b t p hb=>?_,by rw [St.i4a hs]; exact h.gl,fun b cs hb=>?_,h.ob.step r.le_refl hob (fun b x l e=>.inl ⟨hlv b x l e,e⟩) (aR _) fun _ _=>rfl⟩,
  ⟨r.le_refl,by omega,aR _,a4j.step h.ob r.le_refl hob fun b x l e _=>⟨b,x,hlv b x l e,e,rfl⟩,fun _ _ _=>rfl⟩⟩
 ·rcases hget b _ hb with k | ⟨k1,k2⟩
  ·exact h.cells b cs op' k
  ·cases k2; subst k1; exact .inl ⟨rfl,hrn⟩
 ·rcases hget b _ hb with k | ⟨_,k⟩
  ·exact h.iter b t p k
  ·cases k
 ·rcases hget b _ hb with k | ⟨_,k⟩
  ·exact h.ro b cs k
  ·cases k
end
section
open Go.RowKit
variable {P:Program}
def qi (P:Program) (t:TypeId):Option Bool :=
 match P.underlying t with
 | some (.struct _)=>some true
 | some (.array _ _)=>some true
 | some _=>some false
 | none=>none
def bZ (P:Program) (t:TypeId):Option Nat:=match P.info? t with | some i=>some i.size | none=>none
def qB (P:Program) (t:TypeId):Option Nat:=match P.info? t with | some i=>some i.bytes | none=>none
def mO (P:Program) (t:TypeId):Option Value:=match P.info? t with | some i=>i.zero | none=>none
theorem sj {t:TypeId} {b:Bool} (h:qi P t=some b) (w:World):(isAgg t).run P w=.ok b w:=by
 unfold qi at h;cases hu:P.underlying t with
 | none=>simp [hu] at h
 | some d=>rw [hu] at h; cases d <;> simp at h <;> subst h <;> simp [isAgg,underlying,hu]
theorem eI {t:TypeId} {n:Nat} (h:bZ P t=some n) (w:World):(sizeOf t).run P w=.ok n w:=by
 unfold bZ at h;cases hi:P.info? t with
 | none=>simp [hi] at h
 | some i=>simp [hi] at h; simp [sizeOf,typeInfo,hi,h]
theorem Lz {t:TypeId} {n:Nat} (h:qB P t=some n) (w:World):∃ i,(typeInfo t).run P w=.ok i w∧i.bytes=n:=by
 unfold qB at h;cases hi:P.info? t with
 | none=>simp [hi] at h
 | some i=>simp [hi] at h; exact⟨i,by simp [typeInfo,hi],h⟩
theorem A2 {t:TypeId} {v:Value} (h:mO P t=some v) (w:World):(zeroValue t).run P w=.ok v w:=by
 unfold mO at h;cases hi:P.info? t with
 | none=>simp [hi] at h
 | some i=>simp [hi] at h; simp [zeroValue,typeInfo,hi,h]
theorem bK {t:TypeId} {d:TypeDesc} (h:P.underlying t=some d) (w:World):(underlying t).run P w=.ok d w:=by simp [underlying,h]
theorem yv {t:TypeId} {d:TypeInfo} (h:P.info? t=some d) (w:World):(typeInfo t).run P w=.ok d w:=by simp [typeInfo,h]
def St.look (s:St) (b:Nat):Option (List LV):=match s.h.get b with | some (.cells cs _)=>some cs | some (.ro cs)=>some cs | _=>none
theorem Inv.cell {W0:World} {r:Ren} {s:St} {w:World} (h:Inv W0 r s w) {b:Nat} {cs:List LV} (hb:s.look b=some cs)
  {x:Nat×Nat×Nat} (hx:r b=some x) {o:Nat} {l:LV} (hl:cs[o]? = some l):l.plain=true∧∃ u,w.cell? ⟨x.1,x.2.1+o,none⟩=some u∧VR r l u:=by
 unfold St.look at hb;cases hg:s.h.get b with
 | none=>simp [hg] at hb
 | some L =>
   cases L with
   | cells ds op =>
     simp [hg] at hb; subst hb;rcases h.cells b ds op hg with⟨_,h0⟩ | ⟨y,hy,⟨c,e,lo,hi,h1,h2,h3,h4,h5⟩,h6⟩
     ·rw [h0] at hx; cases hx
     rw [hx] at hy; cases hy;obtain⟨g1,u,g2,g3⟩:=h2 o l hl;exact⟨g1,u,by simp [World.cell?,h1,g2],g3⟩
   | ro ds =>
     simp [hg] at hb; subst hb;rcases h.ro b ds hg with⟨_,h0⟩ | ⟨y,hy,c,e,f,h1,h2⟩
     ·rw [h0] at hx; cases hx
     rw [hx] at hy; cases hy;obtain⟨g1,u,g2,g3⟩:=h2 o l hl;have hlt:=(ft.1 h1).1;exact⟨g1,u,by simp [World.cell?,h.below.block _ hlt,h1,g2],g3⟩
   | iter t p=>simp [hg] at hb
   | dead=>simp [hg] at hb
   | obj F cs g=>simp [hg] at hb
theorem Inv.loadCells {W0:World} {r:Ren} {s:St} {w:World} (h:Inv W0 r s w) {b:Nat} {cs:List LV} (hb:s.look b=some cs)
  {x:Nat×Nat×Nat} (hx:r b=some x) {o n:Nat} {c:List LV} (hc:cut cs o n=some c) :
  ∃ us,VRs r c us∧(∀ l∈c,l.plain=true)∧(loadCells ⟨x.1,x.2.1+o,none⟩ n).run P w=.ok us.toArray w:=by
 obtain⟨hlen,hget⟩:=kB cs o n c hc;have hcell:∀ i,i < n→∃ l u,c[i]? = some l∧l.plain=true∧w.cell? ⟨x.1,x.2.1+o+i,none⟩=some u∧VR r l u:=by
  intro i hi;have hl:c[i]? = some (c[i]'(by omega)):=cq aI;have:=hget i hi;rw [hl] at this;obtain⟨g1,u,g2,g3⟩:=h.cell hb hx this.symm;exact⟨_,u,hl,g1,by rw [iy]; exact g2,g3⟩
 let us:List Value:=(List.range n).map fun i=>(w.cell? ⟨x.1,x.2.1+o+i,none⟩).getD undef
 have hus:∀ i,i < n→us[i]? = w.cell? ⟨x.1,x.2.1+o+i,none⟩:=by
  intro i hi;obtain⟨l,u,_,_,g,_⟩:=hcell i hi;simp [us,hi,g]
 have hul:us.length=n:=by simp [us]
 refine⟨us,VRs.mk (by rw [hul,hlen]) fun i l hl=>?_,fun l hl=>?_,?_⟩
 ·have hi:i < n:=by
   rw [← hlen]; exact(bU.1 hl).1
  obtain⟨l',u,g1,g2,g3,g4⟩:=hcell i hi;rw [g1] at hl; cases hl;exact⟨u,by rw [hus i hi,g3],g4⟩
 ·obtain⟨i,hi,rfl⟩:=pJ hl;obtain⟨l',u,g1,g2,g3,g4⟩:=hcell i aI;rw [cq hi] at g1; cases g1;exact g2
 ·have:=run_loadCells_list (P:=P) w ⟨x.1,x.2.1+o,none⟩ us fun j v hj=>by
   have hi:j < n:=by rw [← hul]; exact(bU.1 hj).1
   rw [hus j hi] at hj;have:(⟨x.1,x.2.1+o,none⟩:Addr).add j=⟨x.1,x.2.1+o+j,none⟩:=by unfold Addr.add; split <;> simp_all
   rw [this]; exact hj
  rwa [hul] at this
theorem FI (B:Nat) (e:TypeId) (f:Nat×Nat):∀ (us:List Value) (p:Nat) (w:World) (c:Array Value),w.heap[B]? = some (.cells c e f)→p+us.length≤c.size →
  ∃ c',(w.setCells B p us).heap[B]? = some (.cells c' e f)∧c'.size=c.size∧(∀ j,c'[j]? = if p≤j∧j < p+us.length then us[j - p]? else c[j]?) ∧
    (∀ B',B'≠B→(w.setCells B p us).heap[B']? = w.heap[B']?)∧(w.setCells B p us).heap.size=w.heap.size ∧
    (w.setCells B p us).os=w.os∧(w.setCells B p us).tape=w.tape∧(w.setCells B p us).output=w.output
 | [],p,w,c,h,hl=>⟨c,h,rfl,fun j=>by rw [av bH],fun _ _=>rfl,rfl,rfl,rfl,rfl⟩
 | u::us,p,w,c,h,hl=>by
   simp only [cZ] at hl;have h1:(w.setCell ⟨B,p,none⟩ u).heap[B]? = some (.cells (c.setIfInBounds p u) e f):=by
    simp [World.setCell,sE,h]
   obtain⟨c',g1,g2,g3,g4,g5,g6,g7,g8⟩:=FI B e f us (p+1) _ _ h1 (by simp; omega);refine⟨c',g1,by rw [g2]; simp,fun j=>?_,fun B' hB=>?_,?_,by rw [World.setCells,g6]; rfl,by rw [World.setCells,g7]; rfl,by rw [World.setCells,g8]; rfl⟩
   ·rw [g3];by_cases hj:j=p
    ·subst hj;rw [av aI,aB bH,Array.getElem?_setIfInBounds_self_of_lt aI];simp
    ·by_cases hin:p+1≤j∧j < p+1+us.length
     ·rw [aB hin,aB (by simp; omega)];rw [show j - p=(j - (p+1))+1 by omega,eG]
     ·rw [av hin,av (by simp; omega),mX aI]
   ·rw [World.setCells,g4 B' hB];simp [World.setCell,sE,Ne.symm hB]
   ·rw [World.setCells,g5]; simp [World.setCell]
def St.put (s:St) (b:Nat) (L:LB):Option St :=
 match s.h.set 24 b L with | some t=>some ⟨t,s.n,s.g⟩ | none=>none
theorem St.i4f {s s':St} {b:Nat} {L:LB} (h:s.put b L=some s'):s'.g=s.g:=by
 unfold St.put at h;cases ht:s.h.set 24 b L with
 | none=>simp [ht] at h
 | some t=>simp [ht] at h; subst h; rfl
theorem St.i3h {s s':St} {b:Nat} {L:LB} (h:s.put b L=some s'):s'.n=s.n∧∀ m,s'.h.get m=if m=b then some L else s.h.get m:=by
 unfold St.put at h;cases ht:s.h.set 24 b L with
 | none=>simp [ht] at h
 | some t=>simp [ht] at h; subst h; exact⟨rfl,Tr.i4h _ _ _ _ _ ht⟩
theorem qF {a b:List LV} {op:Option Nat} {k:Nat} (h:a.length=b.length):dv a op k=dv b op k:=by
 cases op <;> simp [dv,h]
theorem Inv.storeCells {W0:World} {r:Ren} {s s':St} {w:World} (h:Inv W0 r s w) {b:Nat} {cs cs' vs:List LV} {us:List Value} {op:Option Nat} (hb:s.h.get b=some (.cells cs op))
  {x:Nat×Nat×Nat} (hx:r b=some x) {o:Nat} (hl:lay cs o vs=some cs') (hp:∀ l∈vs,l.plain=true) (hv:VRs r vs us) (hs:s.put b (.cells cs' op)=some s') :
  ∃ w',(storeCells ⟨x.1,x.2.1+o,none⟩ us).run P w=.ok () w'∧Inv W0 r s' w'∧Ext r s w r s' w':=by
 obtain⟨hn,hg⟩:=St.i3h hs;obtain⟨q1,q2,q3⟩:=rP _ _ _ _ hl;have hul:=hv.length;rcases h.cells b cs op hb with⟨_,h0⟩ | ⟨y,hy,⟨c,e,lo,hi,h1,h2,h3,h4,h5⟩,h6⟩
 ·rw [h0] at hx; cases hx
 rw [hx] at hy; cases hy;have hin:vs≠[]→x.2.1+o+us.length≤c.size:=fun hne=>by have:=q2 hne; omega
 have hone:∀ v∈us,v.oneCell'=true:=by
  intro v hv';obtain⟨i,hi,rfl⟩:=pJ hv';have hlt:i < vs.length:=aI;obtain⟨u,g1,g2⟩:=hv.get (cq hlt);rw [cq hi] at g1; cases g1;exact g2.one (hp _ (iw hlt))
 have hne':∀ j,j < us.length→vs≠[]:=fun j hj e=>by
  rw [e] at hul; simp at hul; rw [hul] at hj; simp at hj
 have hrun:=run_storeCells_cells (P:=P) x.1 (x.2.1+o) us 0 w
  (fun j hj=>by
   have:=hin (hne' j hj);have hlt:x.2.1+o+j < c.size:=aI;simp only [World.cell?,h1,gA]; simp [hlt])
  (fun j hj=>by
   have hq:=q2 (hne' j hj);have:=h3 (o+j) aI;simp only [World.frozen?,h1,gA];simp; omega) hone
 have hlive:s.lives b:=⟨_,hb,rfl⟩;by_cases hne:vs=[]
 ·subst hne;have:us=[]:=by cases us <;> simp_all
  subst this;have hcs:cs'=cs:=by
   have:some cs=some cs':=by cases cs <;> simpa [lay] using hl
   simpa using this.symm
  subst hcs;have hget:∀ m,s'.h.get m=s.h.get m:=fun m=>by
   rw [hg];by_cases e:m=b
   ·rw [aB e,e,hb]
   ·rw [av e]
  refine⟨w,by simpa [World.setCells] using hrun,⟨h.below,fun b x hb=>by rw [hn]; exact h.dom b x hb,fun b x ⟨L,k1,k2⟩=>h.own b x ⟨L,by rw [← hget]; exact k1,k2⟩,fun b hb=>by rw [hget]; exact h.fresh b aI,
   fun b b' x x' ⟨L,k1,k2⟩ ⟨L',k1',k2'⟩=>h.inj b b' x x' ⟨L,by rw [← hget]; exact k1,k2⟩ ⟨L',by rw [← hget]; exact k1',k2'⟩,fun b cs op hb=>h.cells b cs op (by rw [← hget]; exact hb),fun b t p hb=>h.iter b t p (by rw [← hget]; exact hb),by rw [St.i4f hs]; exact h.gl,fun b cs hb=>h.ro b cs (by rw [← hget]; exact hb),h.ob.step r.le_refl (fun b F cs g k=>by rw [← hget]; exact k) (fun b x ⟨L,k1,k2⟩ hx=>.inl ⟨⟨L,by rw [← hget]; exact k1,k2⟩,hx⟩) (aR _) fun _ _=>rfl⟩,
   ⟨r.le_refl,by omega,aR _,a4j.step h.ob r.le_refl (fun b F cs g k=>by rw [← hget]; exact k) fun b x ⟨L,k1,k2⟩ hx _=>⟨b,x,⟨L,by rw [← hget]; exact k1,k2⟩,hx,rfl⟩,fun _ _ _=>rfl⟩⟩
 ·obtain⟨c',g1,g2,g3,g4,g5,g6,g7,g8⟩:=FI x.1 e (lo,hi) us (x.2.1+o) w c h1 (hin hne);have hlv:∀ b',s'.lives b'→s.lives b':=fun b' ⟨L,k1,k2⟩=>by
   rw [hg] at k1;by_cases e:b'=b
   ·subst e; exact hlive
   ·rw [av e] at k1; exact⟨L,k1,k2⟩
  have hob:∀ b' F cs g,s'.h.get b'=some (.obj F cs g)→s.h.get b'=some (.obj F cs g):=fun b' F cs g k=>by
   rw [hg] at k;by_cases e:b'=b
   ·rw [aB e] at k; cases k
   ·rwa [av e] at k
  refine⟨_,hrun,⟨⟨g6.trans h.below.os,g7.trans h.below.tape,g8.trans h.below.output,by simp only [gA]; rw [g5]; exact h.below.size,fun k hk=>?_⟩,fun b x hb=>?_,fun b x l1=>h.own b x (hlv _ l1),fun b' hb'=>?_,fun b1 b2 x1 x2 l1 l2=>h.inj b1 b2 x1 x2 (hlv _ l1) (hlv _ l2),fun b' ds op' hb'=>?_,fun b' t p hb'=>?_,by rw [St.i4f hs]; exact h.gl,fun b' ds hb'=>?_,h.ob.step r.le_refl hob (fun b' x' l1 hx'=>.inl ⟨hlv _ l1,hx'⟩) (by simp only [gA]; rw [g5]; exact aR _) fun B hB=>?_⟩,
   ⟨r.le_refl,by omega,by simp only [gA]; rw [g5]; exact aR _,a4j.step h.ob r.le_refl hob fun b' x' l1 hx' _=>⟨b',x',hlv _ l1,hx',rfl⟩,fun B hB hno=>?_⟩⟩
  ·simp only [gA];rw [g4 k (by have:=h.own b x hlive hx; omega)];exact h.below.block k hk
  ·simp only [gA]; rw [hn,g5]; exact h.dom b x hb
  ·rw [hg,av (by intro e; subst e; rw [h.fresh _ aI] at hb; cases hb)];exact h.fresh _ aI
  ·rw [hg] at hb';simp only [gA];by_cases e':b'=b
   ·subst e';simp at hb';obtain⟨rfl,rfl⟩:=hb';refine .inr ⟨x,hx,⟨c',e,lo,hi,g1,fun i l hi'=>?_,fun i hi'=>h3 i (by rwa [qF q1] at hi'),by rw [g2,qF q1]; exact h4,fun v hv'=>?_⟩,by rw [q1,qF q1]; exact h6⟩
    ·rw [q3] at hi';by_cases hin':o≤i∧i < o+vs.length
     ·rw [aB hin'] at hi';obtain⟨u,k1,k2⟩:=hv.get hi';refine⟨hp _ (fS hi'),u,?_,k2⟩;rw [g3,aB aI,← k1]
      congr 1; omega
     ·rw [av hin'] at hi';obtain⟨k1,u,k2,k3⟩:=h2 i l hi';refine⟨k1,u,?_,k3⟩;rw [g3,av aI]; exact k2
    ·obtain⟨i,hi',rfl⟩:=pJ hv';have hi2:i < c'.size:=by simpa using hi'
     have:=g3 i;rw [mr hi2] at this;simp only [Array.getElem_toList];split at this
     ·exact hone _ (fS this.symm)
     ·exact h5 _ (by rw [Array.mem_toList_iff]; exact Array.mem_of_getElem? this.symm)
   ·rw [av e'] at hb';rcases h.cells b' ds op' hb' with k | ⟨x',k1,k2⟩
    ·exact .inl k
    refine .inr ⟨x',k1,k2.mono r.le_refl (g4 _ fun he=>e' ?_)⟩;exact h.inj b' b x' x ⟨_,hb',rfl⟩ hlive k1 hx he
  ·rw [hg] at hb';simp only [gA];by_cases e':b'=b
   ·subst e'; simp at hb'
   ·rw [av e'] at hb';obtain⟨x',k1,k0,k2⟩:=h.iter b' t p hb';refine⟨x',k1,k0,?_⟩;rw [← k2]; exact g4 _ fun he=>e' (h.inj b' b x' x ⟨_,hb',rfl⟩ hlive k1 hx he)
  ·rw [hg] at hb';by_cases e':b'=b
   ·subst e'; simp at hb'
   ·rw [av e'] at hb'; exact h.ro b' ds hb'
  ·simp only [gA];exact g4 B fun he=>h.ob.clear hlive hx (fun F cs g k=>by rw [hb] at k; cases k) (he▸hB)
  ·simp only [gA];exact g4 B fun he=>hno (.inl ⟨b,x,hlive,hx,he.symm⟩)
end
section
open Go.RowKit
noncomputable section
def xP:Value→Option LV
 | .bool b=>some (.bool b)
 | .int k n=>some (.int k n)
 | .string s=>some (.str s.data.toList)
 | .pointer none=>some .nilp
 | .slice none 0 0=>some .nils
 | .nilFunc=>some .nilFunc
 | .nilIface=>some .nilIface
 | _=>none
def tM:List Value→Option (List LV)
 | []=>some []
 | v::vs=>match xP v with
   | some l=>(match tM vs with | some ls=>some (l::ls) | none=>none)
   | none=>none
def ow:Value→Option LV
 | .agg cs=>(match tM cs.toList with | some ls=>some (.agg ls) | none=>none)
 | v=>xP v
def LV.undef:LV:=.tup []
abbrev Tm:=Tr LV
def aQ (tm:Tm) (t:Nat):LV:=match tm.get t with | some l=>l | none=>.undef
def f9 (tm:Nat→LV):Operand→Option LV
 | .tmp t=>some (tm t)
 | .const v=>ow v
 | .func f=>some (.fn f [])
 | .global g=>some (.gptr g 0)
def tR:List LV→Bool
 | []=>true
 | l::ls=>match l.plain with | true=>tR ls | false=>false
def LV.cells:LV→Option (List LV)
 | .agg cs=>(match tR cs with | true=>some cs | false=>none)
 | .tup _=>none
 | .any=>none
 | v=>some [v]
def iG (k:IntKind) (n:Int):Int :=
 match k,n with
 | .i64,.ofNat m=>cond (Nat.ble m 9223372036854775807) n (IntKind.i64.wrap n)
 | .u64,.ofNat m=>cond (Nat.ble m 18446744073709551615) n (IntKind.u64.wrap n)
 | k,n=>k.wrap n
def o5 (op:BinOp) (x y:Int):Option LV :=
 match op with
 | .eql=>some (.bool (x == y))
 | .neq=>some (.bool (x != y))
 | .lss=>some (.bool (x < y))
 | .leq=>some (.bool (x≤y))
 | .gtr=>some (.bool (x > y))
 | .geq=>some (.bool (x≥y))
 | _=>none
def qp (op:BinOp) (k:IntKind) (x y:Int):Option LV :=
 match op with
 | .add=>some (.int k (iG k (x+y)))
 | .sub=>some (.int k (iG k (x - y)))
 | .mul=>some (.int k (iG k (x * y)))
 | .quo=>cond (y == 0) none (some (.int k (iG k (x.tdiv y))))
 | .rem=>cond (y == 0) none (some (.int k (x.tmod y)))
 | .and=>some (.int k (k.wrap ((BitVec.ofInt k.bits x) &&& (BitVec.ofInt k.bits y)).toNat))
 | .or=>some (.int k (k.wrap ((BitVec.ofInt k.bits x) ||| (BitVec.ofInt k.bits y)).toNat))
 | .xor=>some (.int k (k.wrap ((BitVec.ofInt k.bits x) ^^^ (BitVec.ofInt k.bits y)).toNat))
 | .andNot=>some (.int k (k.wrap ((BitVec.ofInt k.bits x) &&& ~~~(BitVec.ofInt k.bits y)).toNat))
 | _=>o5 op x y
def vt (op:BinOp) (k:IntKind) (x y:Int):Option LV :=
 cond (decide (y < 0)) none <|
 match op with
 | .shl=>some (.int k (k.wrap (x * 2 ^ (min y.toNat k.bits))))
 | .shr=>some (.int k (x.fdiv (2 ^ (min y.toNat k.bits))))
 | _=>none
def tz (op:BinOp) (x y:List UInt8):Option LV :=
 match op with
 | .add=>cond (Nat.ble (x.length+y.length) 1000000000) (some (.str (x++y))) none
 | .eql=>some (.bool (x == y))
 | .neq=>some (.bool (!(x == y)))
 | .lss=>some (.bool (Op.bytesLess x y))
 | .leq=>some (.bool (Op.bytesLess x y || x == y))
 | .gtr=>some (.bool (!(Op.bytesLess x y || x == y)))
 | .geq=>some (.bool (!(Op.bytesLess x y)))
 | _=>none
def h_ (P:Program) (t:TypeId) (cs:List LV) (off:Nat):Option LV :=
 match qi P t with
 | some true=>(match bZ P t with
   | some n=>(match cut cs off n with | some c=>some (.agg c) | none=>none)
   | none=>none)
 | some false=>sL cs off
 | none=>none
def tZ (eq:TypeId→LV→LV→Option Bool) (P:Program) (xs ys:List LV):List Field→Option Bool
 | []=>some true
 | f::fs =>
   cond (f.name == "_") (tZ eq P xs ys fs) <|
   match h_ P f.type xs f.offset,h_ P f.type ys f.offset with
   | some a,some b=>(match eq f.type a b with
     | some true=>tZ eq P xs ys fs
     | some false=>some false
     | none=>none)
   | _,_=>none
def leq (P:Program):Nat→TypeId→LV→LV→Option Bool
 | 0,_,_,_=>none
 | d+1,t,x,y =>
   match P.underlying t,x,y with
   | some .bool,.bool a,.bool b=>some (a == b)
   | some (.int _),.int k a,.int k' b=>cond (decide (k=k')) (some (a == b)) none
   | some .string,.str a,.str b=>some (a == b)
   | some (.pointer _),.nilp,.nilp=>some true
   | some (.pointer _),.nilp,.ptr _ _=>some false
   | some (.pointer _),.ptr _ _,.nilp=>some false
   | some (.interface _),.nilIface,.nilIface=>some true
   | some (.interface _),.nilIface,.iface _ _=>some false
   | some (.interface _),.iface _ _,.nilIface=>some false
   | some (.interface _),.iface tx vx,.iface ty vy =>
     cond (decide (tx=ty)) (match P.info? tx with | some i=>cond i.comparable (leq P d tx vx vy) none | none=>none) (some false)
   | some (.struct fs),.agg xs,.agg ys=>cond (P.stoodInHeld t) none (tZ (leq P d) P xs ys fs.toList)
   | some (.slice _),.nils,.nils=>some true
   | some (.slice _),.nils,.sl _ _ _ _=>some false
   | some (.slice _),.sl _ _ _ _,.nils=>some false
   | some (.func _ _ _),.nilFunc,.nilFunc=>some true
   | some (.func _ _ _),.nilFunc,.fn _ _=>some false
   | some (.func _ _ _),.fn _ _,.nilFunc=>some false
   | _,_,_=>none
def uK:BinOp→Bool
 | .eql=>true
 | .neq=>true
 | _=>false
def vj (P:Program) (op:BinOp) (t:TypeId) (a b:LV):Bool :=
 match uK op with
 | false=>true
 | true=>match a,b with
   | .any,_=>false
   | _,.any=>false
   | .nilIface,.nilIface=>false
   | .agg _,.agg _=>!(P.eqGuardType P.depth t)
   | _,_=>true
def rg (P:Program) (op:BinOp) (t:TypeId) (a b:LV):Option LV :=
 cond (vj P op t a b) (
 match a,b with
 | .slo _ _ len _,.nils=>(match P.underlying t,op with | some (.slice _),.eql=>some (cond (Nat.beq len 0) .unb (.bool false)) | some (.slice _),.neq=>some (cond (Nat.beq len 0) .unb (.bool true)) | _,_=>none)
 | .int k x,.int k' y=>(match op with
   | .shl=>vt .shl k x y
   | .shr=>vt .shr k x y
   | op=>cond (decide (k=k')) (qp op k x y) none)
 | .str x,.str y=>tz op x y
 | x,y=>(match op with
   | .eql=>(match leq P Op.maxDepth t x y with | some b=>some (.bool b) | none=>none)
   | .neq=>(match leq P Op.maxDepth t x y with | some b=>some (.bool (!b)) | none=>none)
   | _=>none)) none
def zg (op:UnOp) (x:LV):Option LV :=
 match op,x with
 | .neg,.int k n=>some (.int k (iG k (0 - n)))
 | .xor,.int k n=>some (.int k (k.wrap ((BitVec.ofInt k.bits (if k.signed then -1 else k.max)) ^^^ (BitVec.ofInt k.bits n)).toNat))
 | .not,.bool b=>some (.bool (!b))
 | _,_=>none
def sY (s:St) (v:LV):Option (LV×St) :=
 match v.cells with
 | some cs=>(match s.new (.cells cs none) with | some s'=>some (.ptr s.n 0,s') | none=>none)
 | none=>none
def n_ (P:Program) (s:St) (t:TypeId) (b o:Nat):Option LV :=
 match s.look b with
 | some cs=>h_ P t cs o
 | none=>none
def D0:List LV→Bool
 | [.fact _]=>true
 | _=>false
def xJ:List (Nat×List LV)→Option (World→Prop)
 | []=>none
 | x::xs=>match x.2 with
   | [.fact F]=>some F
   | _=>xJ xs
def yf (get:Nat→Option LB):Nat→Option (World→Prop)
 | 0=>none
 | n+1=>match get n with
   | some (.obj F [.fact Φ] _)=>cond F.isSt (some Φ) (yf get n)
   | _=>yf get n
def DV (s:St):Option (World→Prop) :=
 match yf s.h.get s.n with
 | some Φ=>some Φ
 | none=>xJ s.g
noncomputable def xO (P:Program) (s:St) (t:TypeId) (v:Value) (k:Nat):Option LV :=
 match DV s,bZ P t with
 | some F,some n=>cond (rz F v k n) (h_ P t (o_ F v k n) 0) none
 | _,_=>none
def uW:List (Nat×List LV)→Nat→Option (List LV)
 | [],_=>none
 | x::xs,g=>cond (Nat.beq x.1 g) (cond (D0 x.2) none (some x.2)) (uW xs g)
def Ae (P:Program) (s:St) (t:TypeId) (g o:Nat):Option LV :=
 match uW s.g g with
 | some cs=>h_ P t cs o
 | none=>none
def vm (P:Program) (s:St) (t:TypeId) (b o:Nat) (v:LV):Option St :=
 match s.h.get b,v.cells,bZ P t with
 | some (.cells cs op),some vs,some n =>
   cond (Nat.beq vs.length n) (match lay cs o vs with | some cs'=>s.put b (.cells cs' op) | none=>none) none
 | _,_,_=>none
def kz (place:Nat→Option (Nat×Nat)) (cells:List LV):List (Nat×LV)→Option (List LV)
 | []=>some cells
 | (i,v)::rest =>
   match place i,v.cells with
   | some (off,size),some (c::cs) =>
     cond (Nat.beq (cs.length+1) size) (match lay cells off (c::cs) with | some cells'=>kz place cells' rest | none=>none) none
   | _,_=>none
def lO (ev:Operand→Option LV):List (Nat×Operand)→Option (List (Nat×LV))
 | []=>some []
 | (i,x)::rest=>match ev x,lO ev rest with
   | some v,some vs=>some ((i,v)::vs)
   | _,_=>none
def kV (ev:Operand→Option LV):List Operand→Option (List LV)
 | []=>some []
 | x::rest=>match ev x,kV ev rest with
   | some v,some vs=>some (v::vs)
   | _,_=>none
def tX (P:Program):List Field→Option (List (Nat×Nat))
 | []=>some []
 | f::fs=>match bZ P f.type,tX P fs with
   | some n,some r=>some ((f.offset,n)::r)
   | _,_=>none
def lT (P:Program) (t:TypeId):Option (List LV) :=
 match mO P t with
 | some v=>(match ow v with | some l=>l.cells | none=>none)
 | none=>none
def vo:List (Nat×Nat)→Nat→Option (Nat×Nat)
 | [],_=>none
 | x::xs,n=>cond (Nat.beq n 0) (some x) (vo xs (Nat.sub n 1))
def D4 (P:Program) (t:TypeId) (parts:List (Nat×LV)):Option LV :=
 match P.underlying t,lT P t with
 | some (.struct fields),some zero =>
   (match tX P fields.toList with
    | some places=>(match kz (vo places) zero parts with | some cs=>some (.agg cs) | none=>none)
    | none=>none)
 | some (.array _ elem),some zero =>
   (match bZ P elem with
    | some size=>(match kz (fun i=>some (i * size,size)) zero parts with | some cs=>some (.agg cs) | none=>none)
    | none=>none)
 | _,_=>none
def gQ:Nat→List LV→List LV
 | 0,_=>[]
 | n+1,z=>z++gQ n z
def v5 (P:Program) (s:St) (t:TypeId) (len:Nat) (parts:List (Nat×LV)):Option (LV×St) :=
 match P.underlying t with
 | some (.slice elem)=>(match bZ P elem,lT P elem with
   | some size,some zero =>
     cond (Nat.beq zero.length size && Nat.ble 1 size && Nat.ble (len * size) 100000)
      (match kz (fun i=>some (i * size,size)) (gQ len zero) parts with
       | some cs=>(match s.new (.cells cs none) with | some s'=>some (.sl s.n 0 len len,s') | none=>none)
       | none=>none) none
   | _,_=>none)
 | _=>none
def sf (P:Program) (s:St) (t:TypeId) (l c:LV):Option (LV×St) :=
 match P.underlying t,l,c with
 | some (.slice elem),.int _ (.ofNat len),.int _ (.ofNat cap)=>(match bZ P elem,lT P elem,qB P elem with
   | some size,some zero,some bytes =>
     cond (Nat.beq zero.length size && Nat.ble 1 size && Nat.ble len cap && Nat.ble cap 100000 && Nat.ble bytes 100000)
      (match s.new (.cells (gQ cap zero) none) with | some s'=>some (.sl s.n 0 len cap,s') | none=>none) none
   | _,_,_=>none)
 | _,_,_=>none
def v6 (P:Program) (t:TypeId) (x:LV) (f:Nat):Option LV :=
 match P.underlying t,x with
 | some (.struct fields),.ptr b o=>(match fields[f]? with
   | some fd=>(match bZ P fd.type with
     | some n=>cond (Nat.beq n 0) none (some (.ptr b (o+fd.offset)))
     | none=>none)
   | none=>none)
 | some (.struct fields),.gptr b o=>(match fields[f]? with
   | some fd=>(match bZ P fd.type with
     | some n=>cond (Nat.beq n 0) none (some (.gptr b (o+fd.offset)))
     | none=>none)
   | none=>none)
 | some (.struct fields),.vp v k=>(match fields[f]? with
   | some fd=>(match bZ P fd.type with
     | some n=>cond (Nat.beq n 0) none (some (.vp v (k+fd.offset)))
     | none=>none)
   | none=>none)
 | _,_=>none
def D5 (P:Program) (t:TypeId) (x:LV) (f:Nat):Option LV :=
 match P.underlying t,x with
 | some (.struct fields),.agg cs=>(match fields[f]? with
   | some fd=>h_ P fd.type cs fd.offset
   | none=>none)
 | _,_=>none
def yx (P:Program) (t:TypeId) (x ix:LV):Option LV :=
 match P.underlying t,x,ix with
 | some (.slice elem),.sl b o len _,.int _ (.ofNat i)=>(match bZ P elem with
   | some n=>cond (Nat.ble (i+1) len) (some (.ptr b (o+i * n))) none
   | none=>none)
 | some (.slice elem),.slo b o len _,.int _ (.ofNat i)=>(match bZ P elem with
   | some n=>cond (Nat.ble (i+1) len) (some (.ptr b (o+i * n))) none
   | none=>none)
 | some (.array len elem),.ptr b o,.int _ (.ofNat i)=>(match bZ P elem with
   | some n=>cond (Nat.ble (i+1) len) (some (.ptr b (o+i * n))) none
   | none=>none)
 | some (.array len elem),.gptr b o,.int _ (.ofNat i)=>(match bZ P elem with
   | some n=>cond (Nat.ble (i+1) len) (some (.gptr b (o+i * n))) none
   | none=>none)
 | some (.slice elem),.val v,.int _ (.ofNat i)=>(match bZ P elem with
   | some n=>cond (zH v i) (some (.vp v (i * n))) none
   | none=>none)
 | _,_,_=>none
def tG:List UInt8→Nat→Option UInt8
 | [],_=>none
 | x::xs,n=>cond (Nat.beq n 0) (some x) (tG xs (Nat.sub n 1))
def vk (P:Program) (t:TypeId) (x ix:LV):Option LV :=
 match P.underlying t,x,ix with
 | some (.array len elem),.agg cs,.int _ (.ofNat i)=>(match bZ P elem with
   | some n=>cond (Nat.ble (i+1) len) (h_ P elem cs (i * n)) none
   | none=>none)
 | some .string,.str s,.int _ (.ofNat i)=>(match tG s i with | some b=>some (.int .u8 b.toNat) | none=>none)
 | _,_,_=>none
def dE (d:Nat):Option LV→Option Nat
 | none=>some d
 | some (.int _ (.ofNat n))=>some n
 | _=>none
def mK (ev:Operand→Option LV):Option Operand→Option (Option LV)
 | none=>some none
 | some x=>match ev x with | some v=>some (some v) | none=>none
def pq (P:Program) (t:TypeId) (x:LV) (lo hi mx:Option LV):Option LV :=
 match P.underlying t,x,mx with
 | some .string,.str s,none=>(match dE 0 lo,dE s.length hi with
   | some l,some h=>cond (Nat.ble l h && Nat.ble h s.length) (some (.str ((s.drop l).take (h - l)))) none
   | _,_=>none)
 | some (.slice elem),.nils,none=>(match dE 0 lo,dE 0 hi,bZ P elem with
   | some 0,some 0,some _=>some .nils
   | _,_,_=>none)
 | some (.slice elem),.sle,none=>(match dE 0 lo,dE 0 hi,bZ P elem with
   | some 0,some 0,some _=>some .sle
   | _,_,_=>none)
 | some (.slice elem),.nils,some m=>(match dE 0 lo,dE 0 hi,dE 0 (some m),hi.isSome,bZ P elem with
   | some 0,some 0,some 0,true,some _=>some .sle
   | _,_,_,_,_=>none)
 | some (.slice elem),.sle,some m=>(match dE 0 lo,dE 0 hi,dE 0 (some m),hi.isSome,bZ P elem with
   | some 0,some 0,some 0,true,some _=>some .sle
   | _,_,_,_,_=>none)
 | some (.slice elem),.slo b o len d,some m=>(match dE 0 lo,dE len hi,dE 0 (some m),hi.isSome,bZ P elem with
   | some 0,some 0,some 0,true,some _=>some .sle
   | _,_,_,_,_=>none)
 | some (.slice elem),.sl b o len cap,mx=>(match dE 0 lo,dE len hi,dE cap mx,bZ P elem with
   | some l,some h,some m,some n =>
     cond (Nat.ble l h && Nat.ble h m && Nat.ble m cap && (mx.isNone || hi.isSome)) (some (.sl b (cond (Nat.beq m l) o (o+l * n)) (h - l) (m - l))) none
   | _,_,_,_=>none)
 | some (.array n elem),.ptr b o,mx=>(match dE 0 lo,dE n hi,dE n mx,bZ P elem with
   | some l,some h,some m,some k =>
     cond (Nat.ble l h && Nat.ble h m && Nat.ble m n && (mx.isNone || hi.isSome)) (some (.sl b (cond (Nat.beq m l) o (o+l * k)) (h - l) (m - l))) none
   | _,_,_,_=>none)
 | some (.slice elem),.slo b o len d,none=>(match dE 0 lo,dE len hi,bZ P elem with
   | some l,some h,some n =>
     cond (Nat.ble l h && Nat.ble h len) (some (.slo b (o+l * n) (h - l) (d+l))) none
   | _,_,_=>none)
 | some (.slice elem),.val v,none=>(match dE 0 lo,hi,bZ P elem with
   | some l,none,some n=>cond (xj v l) (some (.val (te v n l))) none
   | _,_,_=>none)
 | _,_,_=>none
def dJ:List LV→Option (List UInt8)
 | []=>some []
 | .int .u8 n::ls=>(match dJ ls with | some r=>some (UInt8.ofNat n.toNat::r) | none=>none)
 | _::_=>none
def iX (s:St) (size:Nat):LV→Option (List LV)
 | .nils=>some []
 | .sle=>some []
 | .sl b o len _=>(match s.look b with | some cs=>cut cs o (len * size) | none=>none)
 | .slo b o len _=>(match s.look b with | some cs=>cut cs o (len * size) | none=>none)
 | .str t=>cond (Nat.beq size 1) (some (t.map fun b=>.int .u8 b.toNat)) none
 | _=>none
def gK:LV→Option Nat
 | .nils=>some 0
 | .sle=>some 0
 | .sl _ _ len _=>some len
 | .slo _ _ len _=>some len
 | .str t=>some t.length
 | _=>none
def kR (P:Program) (e:TypeId):Bool:=match P.underlying e with | some (.int .u8)=>true | _=>false
def mS (P:Program) (s:St) (src dst:TypeId) (x:LV):Option LV :=
 match P.underlying src,P.underlying dst,x with
 | some _,some (.int k),.int _ n=>some (.int k (iG k n))
 | some _,some .string,.str t=>some (.str t)
 | some (.slice e),some .string,x=>cond (kR P e) (match x with
   | .nils=>some (.str [])
   | .sle=>some (.str [])
   | .sl _ _ _ _=>(match iX s 1 x with | some cs=>(match dJ cs with | some r=>some (.str r) | none=>none) | none=>none)
   | .slo _ _ _ _=>(match iX s 1 x with | some cs=>(match dJ cs with | some r=>some (.str r) | none=>none) | none=>none)
   | _=>none) none
 | _,_,_=>none
def n8 (P:Program) (e:TypeId):Bool:=match P.underlying e with | some (.int .i32)=>true | _=>false
def py:List LV→Option (List Int)
 | []=>some []
 | .int .i32 n::ls=>(match py ls with | some r=>some (n::r) | none=>none)
 | _::_=>none
def gY:List Int→List UInt8
 | []=>[]
 | n::r=>(Utf8.encode n).data.toList++gY r
def rS (t:List UInt8):Nat→Nat→List Int
 | 0,_=>[]
 | k+1,i=>if i < t.length then Int.ofNat (Utf8.decode ⟨t.toArray⟩ i).1::rS t k (i+(Utf8.decode ⟨t.toArray⟩ i).2) else []
def qr (t:List UInt8):List Int:=rS t t.length 0
def xx (P:Program) (s:St) (src dst:TypeId) (x:LV):Option LV :=
 match P.underlying src,P.underlying dst,x with
 | some (.slice e),some .string,.slo b o len cap=>cond (n8 P e) (match iX s 1 (.slo b o len cap) with | some cs=>(match py cs with | some r=>some (.str (gY r)) | none=>none) | none=>none) none
 | _,_,_=>none
def oB (P:Program) (s:St) (src dst:TypeId) (x:LV):Option LV:=match mS P s src dst x with
 | some l=>some l
 | none=>xx P s src dst x
def xN (P:Program) (s:St) (src dst:TypeId) (x:LV):Option (LV×St) :=
 match P.underlying src,P.underlying dst,x with
 | some _,some (.slice e),.str t=>cond (kR P e && Nat.ble t.length 1000000)
   (match s.new (.cells (t.map fun b=>.int .u8 b.toNat) (some 1)) with | some s'=>some (.slo s.n 0 t.length 0,s') | none=>none) none
 | _,_,_=>none
def Af (P:Program) (s:St) (src dst:TypeId) (x:LV):Option (LV×St) :=
 match P.underlying src,P.underlying dst,x with
 | some _,some (.slice e),.str t=>cond (n8 P e && Nat.ble t.length 1000000)
   (match s.new (.cells ((qr t).map fun n=>.int .i32 n) (some 1)) with | some s'=>some (.slo s.n 0 (qr t).length 0,s') | none=>none) none
 | _,_,_=>none
def vl (P:Program) (s:St) (src dst:TypeId) (x:LV):Option (LV×St):=match xN P s src dst x with
 | some p=>some p
 | none=>Af P s src dst x
def xM:TypeDesc→Bool | .int _=>true | _=>false
def vw (P:Program) (s:St) (argTypes:List TypeId) (x y:LV):Option (LV×St) :=
 match argTypes with
 | [t,u]=>(match P.underlying t,P.underlying u with
   | some (.slice elem),some du =>
     cond (xM du) none <|
     (match bZ P elem,lT P elem,qB P elem,gK y with
     | some es,some zero,some bytes,some n =>
       cond (Nat.beq zero.length es && Nat.ble 1 es && Nat.ble bytes 1000) (match iX s es y with
       | some new=>(match x with
         | .nils =>
           cond (Nat.ble (n * bytes) 140737488355328 && Nat.ble n 140737488355328) (match s.new (.cells new (some es)) with | some s'=>some (.slo s.n 0 n 0,s') | none=>none) none
         | .sle=>cond (Nat.beq n 0) (some (.sle,s))
           (cond (Nat.ble n 1000000) (match s.new (.cells new (some es)) with | some s'=>some (.slo s.n 0 n 0,s') | none=>none) none)
         | .sl b o len cap=>(match s.h.get b with
           | some (.cells cs op) =>
             cond (Nat.ble (len+n) cap)
              (match lay cs (o+len * es) new with | some cs'=>(match s.put b (.cells cs' op) with | some s'=>some (.sl b o (len+n) cap,s') | none=>none) | none=>none)
              (cond (Nat.ble (len+n) 1000000) (match cut cs o (len * es) with
               | some old=>(match s.new (.cells (old++new) (some es)) with | some s'=>some (.slo s.n 0 (len+n) 0,s') | none=>none)
               | none=>none) none)
           | _=>none)
         | .slo b o len d=>(match s.h.get b with
           | some (.cells cs (some es')) =>
             cond (Nat.beq es es' && Nat.beq (d * es) o && Nat.ble (len+n) 1000000) (match cut cs o (len * es) with
              | some old =>
                (match s.put b .dead with
                 | some s1=>(match s1.new (.cells (old++new) (some es)) with | some s'=>some (.slo s.n 0 (len+n) 0,s') | none=>none)
                 | none=>none)
              | none=>none) none
           | _=>none)
         | _=>none)
       | none=>none) none
     | _,_,_,_=>none)
   | _,_=>none)
 | _=>none
def vq:LV→Nat→Option LV
 | .nils,_=>some .nils
 | .sle,_=>some .sle
 | .sl b o _ c,n=>some (.sl b o n c)
 | .slo b o _ d,n=>some (.slo b o n d)
 | _,_=>none
def uY (P:Program) (s:St) (argTypes:List TypeId) (x y:LV):Option (LV×St) :=
 match argTypes with
 | t::_=>(match P.underlying t with
   | some (.slice elem)=>(match bZ P elem,gK x,gK y with
     | some es,some dl,some sl=>(match vq y (Nat.min sl dl) with
       | some y'=>(match iX s es y' with
         | some new=>(match x with
           | .nils=>some (.int .i64 ((Nat.min sl dl:Nat):Int),s)
           | .sle=>some (.int .i64 ((Nat.min sl dl:Nat):Int),s)
           | .sl b o _ _=>(match s.h.get b with
             | some (.cells cs op)=>(match lay cs o new with
               | some cs'=>(match s.put b (.cells cs' op) with | some s'=>some (.int .i64 ((Nat.min sl dl:Nat):Int),s') | none=>none)
               | none=>none)
             | _=>none)
           | .slo b o (l+1) _=>(match s.h.get b with
             | some (.cells cs op)=>(match lay cs o new with
               | some cs'=>(match s.put b (.cells cs' op) with | some s'=>some (.int .i64 ((Nat.min sl dl:Nat):Int),s') | none=>none)
               | none=>none)
             | _=>none)
           | _=>none)
         | none=>none)
       | none=>none)
     | _,_,_=>none)
   | _=>none)
 | _=>none
def th (P:Program) (argTypes:List TypeId) (x:LV):Option LV :=
 match argTypes with
 | t::_=>(match P.underlying t,x with
   | some .string,.str s=>some (.int .i64 (s.length:Int))
   | some (.slice _),.nils=>some (.int .i64 0)
   | some (.slice _),.sle=>some (.int .i64 0)
   | some (.slice _),.sl _ _ n _=>some (.int .i64 (n:Int))
   | some (.slice _),.slo _ _ n _=>some (.int .i64 (n:Int))
   | some (.slice _),.sln n=>some (.int .i64 (n:Int))
   | some (.slice _),.val v=>some (.int .i64 (Di v:Int))
   | some (.array n _),_=>some (.int .i64 (n:Int))
   | _,_=>none)
 | _=>none
def ov (mx:Bool):LV→List LV→Option LV
 | x,[]=>some x
 | .int k x,.int _ y::ls=>ov mx (.int k (cond mx (if x≤y then y else x) (if x≤y then x else y))) ls
 | _,_=>none
def Ey (P:Program) (x:LV) (asserted:TypeId) (commaOk:Bool):Option LV :=
 let holds (v:LV):Option LV:=some (cond commaOk (.tup [v,.bool true]) v)
 let fails:Option LV:=cond commaOk (match mO P asserted with
  | some z=>(match ow z with | some l=>some (.tup [l,.bool false]) | none=>none)
  | none=>none) none
 match P.underlying asserted,x with
 | some (.interface _),.nilIface=>fails
 | some (.interface want),.iface t v=>(match P.info? t with
   | some i=>(match Instr.missingMethod want i.methods with
     | none=>holds (.iface t v)
     | some _=>fails)
   | none=>none)
 | some _,.nilIface=>fails
 | some _,.iface t v=>cond (Nat.beq t asserted) (holds v) fails
 | _,_=>none
inductive LN where
 | val (v:LV)
 | skip
 | enter (f:Nat) (args:List LV)
def tL (P:Program) (f:Nat) (args:List LV):Option LN :=
 match P.funcs[f]? with
 | some fn=>cond (fn.name == "runtime.NumGoroutine") none (match fn.body with | some _=>some (.enter f args) | none=>none)
 | none=>none
def Aw (P:Program) (recv:LV) (name:String) (args:List LV):Option LN :=
 match recv with
 | .iface t v=>(match P.info? t with
   | some i=>(match i.methods.find? (·.name == name) with
     | some m=>(match m.path.toList,m.func,P.underlying t with
       | [],some (f,true),some (.pointer _)=>tL P f (v::args)
       | [],some (f,false),some d=>(match d with | .pointer _=>none | _=>tL P f (v::args))
       | _,_,_=>none)
     | none=>none)
   | none=>none)
 | _=>none
def rL (P:Program) (ev:Operand→Option LV) (c:Call) (s:St):Option (LN×St) :=
 match kV ev c.args.toList with
 | none=>none
 | some args =>
   match c.callee with
   | .value f=>(match ev f with
     | some (.fn g caps)=>(match tL P g (args++caps) with | some n=>some (n,s) | none=>none)
     | _=>none)
   | .invoke recv name=>(match ev recv with
     | some x=>(match Aw P x name args with | some n=>some (n,s) | none=>none)
     | none=>none)
   | .builtin b=>(match b,args with
     | .len,[x]=>(match th P c.argTypes.toList x with | some v=>some (.val v,s) | none=>none)
     | .min,x::xs=>(match ov false x xs with | some v=>some (.val v,s) | none=>none)
     | .max,x::xs=>(match ov true x xs with | some v=>some (.val v,s) | none=>none)
     | .append,[x,y]=>(match vw P s c.argTypes.toList x y with | some (v,s')=>some (.val v,s') | none=>none)
     | .copy,[x,y]=>(match uY P s c.argTypes.toList x y with | some (v,s')=>some (.val v,s') | none=>none)
     | _,_=>none)
def Hj:LV→Option LV
 | .nilp=>none
 | .nilIface=>none
 | .nilFunc=>none
 | .any=>none
 | .unb=>none
 | x=>some x
def fH (P:Program) (ev:Operand→Option LV) (o:Op) (s:St):Option LV :=
 match o with
 | .move x=>ev x
 | .assign x=>ev x
 | .pick c a b=>(match ev c with
   | some (.bool true)=>ev a
   | some (.bool false)=>ev b
   | _=>none)
 | .build t parts=>(match lO ev parts.toList with | some ps=>D4 P t ps | none=>none)
 | .load t a=>(match ev a with | some (.ptr b o)=>n_ P s t b o | some (.gptr g o)=>Ae P s t g o | some (.vp v k)=>xO P s t v k | _=>none)
 | .nilCheck x=>(match ev x with | some v=>Hj v | none=>none)
 | .binOp op t x y _=>(match ev x,ev y with | some a,some b=>rg P op t a b | _,_=>none)
 | .unOp op _ x=>(match ev x with | some a=>zg op a | none=>none)
 | .convert src dst x=>(match ev x with | some a=>oB P s src dst a | none=>none)
 | .makeInterface t x=>(match P.underlying t,ev x with
   | some d,some v=>(match d with | .interface _=>none | _=>some (.iface t v))
   | _,_=>none)
 | .makeFunc fn first captured=>(match fn,first.toList,kV ev captured.toList with
   | .func f,[],some caps=>some (.fn f caps)
   | _,_,_=>none)
 | .slice t x lo hi mx=>(match ev x,mK ev lo,mK ev hi,mK ev mx with
   | some v,some l,some h,some m=>pq P t v l h m
   | _,_,_,_=>none)
 | .fieldAddr t x f=>(match ev x with | some v=>v6 P t v f | none=>none)
 | .field t x f=>(match ev x with | some v=>D5 P t v f | none=>none)
 | .indexAddr t x i=>(match ev x,ev i with | some v,some j=>yx P t v j | _,_=>none)
 | .index t x i=>(match ev x,ev i with | some v,some j=>vk P t v j | _,_=>none)
 | .typeAssert x _ asserted ok=>(match ev x with | some v=>Ey P v asserted ok | none=>none)
 | .extract t i=>(match ev t with | some (.tup vs)=>sL vs i | _=>none)
 | .call c=>(match c.callee,kV ev c.args.toList with
   | .builtin .len,some [x]=>th P c.argTypes.toList x
   | .builtin .min,some (x::xs)=>ov false x xs
   | .builtin .max,some (x::xs)=>ov true x xs
   | _,_=>none)
 | _=>none
def bm:Op→Bool
 | .move _=>true
 | .assign _=>true
 | .pick _ _ _=>true
 | .build _ _=>true
 | .load _ _=>true
 | .nilCheck _=>true
 | .binOp _ _ _ _ _=>true
 | .unOp _ _ _=>true
 | .makeInterface _ _=>true
 | .makeFunc _ _ _=>true
 | .slice _ _ _ _ _=>true
 | .fieldAddr _ _ _=>true
 | .field _ _ _=>true
 | .indexAddr _ _ _=>true
 | .index _ _ _=>true
 | .typeAssert _ _ _ _=>true
 | .extract _ _=>true
 | .call c=>(match c.callee with | .builtin .len=>true | .builtin .min=>true | .builtin .max=>true | _=>false)
 | _=>false
def gT (P:Program) (ev:Operand→Option LV) (o:Op) (s:St):Option (LN×St) :=
 match bm o with
 | true=>(match fH P ev o s with | some v=>some (.val v,s) | none=>none)
 | false =>
 match o with
 | .alloc t=>(match mO P t with
   | some z=>(match ow z with
     | some l=>(match sY s l with | some (p,s')=>some (.val p,s') | none=>none)
     | none=>none)
   | none=>none)
 | .box _ x=>(match ev x with
   | some l=>(match sY s l with | some (p,s')=>some (.val p,s') | none=>none)
   | none=>none)
 | .buildSlice t len parts=>(match lO ev parts.toList with
   | some ps=>(match v5 P s t len ps with | some (v,s')=>some (.val v,s') | none=>none)
   | none=>none)
 | .store t a x=>(match ev a,ev x with
   | some (.ptr b o),some v=>(match vm P s t b o v with | some s'=>some (.skip,s') | none=>none)
   | _,_=>none)
 | .makeSlice t l c=>(match ev l,ev c with
   | some a,some b=>(match sf P s t a b with | some (v,s')=>some (.val v,s') | none=>none)
   | _,_=>none)
 | .convert src dst x=>(match ev x with
   | some a=>(match oB P s src dst a with
     | some v=>some (.val v,s)
     | none=>(match vl P s src dst a with | some (v,s')=>some (.val v,s') | none=>none))
   | none=>none)
 | .range t x=>(match P.underlying t,ev x with
   | some .string,some (.str l)=>(match s.new (.iter l 0) with | some s'=>some (.val (.ptr s.n 0),s') | none=>none)
   | _,_=>none)
 | .next it str=>(match ev it,str with
   | some (.ptr b 0),true=>(match s.h.get b with
     | some (.iter l pos)=>cond (Nat.ble (pos+1) l.length)
       (match Utf8.decode ⟨l.toArray⟩ pos with
        | (c,width)=>(match s.put b (.iter l (pos+width)) with
          | some s'=>some (.val (.tup [.bool true,.int .i64 (pos:Int),.int .i32 (c:Int)]),s')
          | none=>none))
       (some (.val (.tup [.bool false]),s))
     | _=>none)
   | _,_=>none)
 | .call c=>rL P ev c s
 | _=>none
inductive LX where
 | normal
 | exit (id:Nat)
 | ret
def md (nt:Nat) (tm:Tm) (dst:Option Nat) (v:LV):Option Tm :=
 match dst with
 | none=>some tm
 | some d=>cond (Nat.ble (d+1) nt) (tm.set 16 d v) none
def lP (ops:Array Oper) (tm:Nat→LV) (o:Oper):Bool :=
 match o.guard with
 | none=>true
 | some (j,want)=>match ops[j]? with
   | some g=>(match g.dst with
     | some d=>(match tm d with | .bool b=>b == want | _=>false)
     | none=>false)
   | none=>false
def mh (ops:Array Oper) (tm:Nat→LV) (o:Oper):Bool :=
 match o.guard with
 | none=>false
 | some (j,_)=>match ops[j]? with
   | some g=>(match g.dst with
     | some d=>(match tm d with | .any=>true | .unb=>true | _=>false)
     | none=>false)
   | none=>false
def dH (call:Nat→List LV→St→Option (LV×St)) (P:Program) (ops:Array Oper) (tm:Nat→LV) (o:Oper) (s:St):Option (LV×St) :=
 match mh ops tm o with
 | true=>none
 | false =>
 match lP ops tm o with
 | false=>some (.undef,s)
 | true=>match gT P (f9 tm) o.op s with
   | some (.val v,s')=>some (v,s')
   | some (.skip,s')=>some (.undef,s')
   | some (.enter f args,s')=>call f args s'
   | none=>none
structure Rc where
 tm:Tm
 s:St
 v:LV
def jk (call:Nat→List LV→St→Option (LV×St)) (P:Program) (nt:Nat) (ops:Array Oper):List Oper→Tm→St→List Rc→Option (Tm×St×List Rc)
 | [],tm,s,rs=>some (tm,s,rs)
 | o::rest,tm,s,rs =>
   match dH call P ops (aQ tm) o s with
   | some (v,s')=>(match md nt tm o.dst v with
     | some tm'=>jk call P nt ops rest tm' s' (⟨tm,s,v⟩::rs)
     | none=>none)
   | none=>none
mutual
def LV.eqb:LV→LV→Bool
 | .bool a,.bool b=>a == b
 | .int j a,.int k b=>decide (j=k) && a == b
 | .str a,.str b=>a == b
 | .nilp,.nilp=>true
 | .ptr a b,.ptr c d=>Nat.beq a c && Nat.beq b d
 | .gptr a b,.gptr c d=>Nat.beq a c && Nat.beq b d
 | .nils,.nils=>true
 | .sle,.sle=>true
 | .sl a b c d,.sl a' b' c' d'=>Nat.beq a a' && Nat.beq b b' && Nat.beq c c' && Nat.beq d d'
 | .slo a b c d,.slo a' b' c' d'=>Nat.beq a a' && Nat.beq b b' && Nat.beq c c' && Nat.beq d d'
 | .fn f a,.fn g b=>Nat.beq f g && aU a b
 | .nilFunc,.nilFunc=>true
 | .nilIface,.nilIface=>true
 | .iface t a,.iface u b=>Nat.beq t u && LV.eqb a b
 | .agg a,.agg b=>aU a b
 | .tup a,.tup b=>aU a b
 | .val a,.val b=>@decide (a=b) (Classical.propDecidable _)
 | _,_=>false
def aU:List LV→List LV→Bool
 | [],[]=>true
 | a::as,b::bs=>LV.eqb a b && aU as bs
 | _,_=>false
end
def D7 (ops:Array Oper) (b:Array Nat) (i j:Nat) (oi oj:Oper):Bool :=
 (b.getD j 0).testBit i || ((bm oi.op || bm oj.op) && oi.apart ops oj)
def Ay (ops:Array Oper) (b:Array Nat):Nat→List Oper→Bool
 | _,[]=>true
 | k,o::rest=>(rest.zipIdx (k+1)).all (fun x=>D7 ops b k x.2 o x.1) && Ay ops b (k+1) rest
def lL (ops:Array Oper):Bool:=(ops.toList.zipIdx.all fun x=>x.1.after.all fun e=>!Region.binds .any e || decide (e.on < x.2))
def vA (ops:Array Oper):Bool:=lL ops && Ay ops (Go.CheckFast.beforeF ops) 0 ops.toList
def iT:Op→Bool
 | .load _ _=>true
 | _=>false
def gZ (P:Program) (ops:Array Oper) (o:Oper) (tm:Nat→LV) (v:LV) (s:St):Bool :=
 match lP ops tm o with
 | false=>true
 | true=>match fH P (f9 tm) o.op s with
   | some u=>LV.eqb u v
   | none=>false
def rU (P:Program) (ops:Array Oper) (b:Array Nat) (o:Oper) (k:Nat) (tm:Nat→LV) (v:LV):Nat→List Oper→List St→Bool
 | j,h::hs,s::s'::ss =>
   (bm h.op || (b.getD j 0).testBit k || (b.getD k 0).testBit j || (gZ P ops o tm v s && gZ P ops o tm v s')) && rU P ops b o k tm v (j+1) hs (s'::ss)
 | _,[],_=>true
 | _,_,_=>false
def rR (P:Program) (ops:Array Oper) (b:Array Nat) (ss:List St):Nat→List Oper→List Rc→Bool
 | k,o::rest,r::rs=>(!iT o.op || rU P ops b o k (aQ r.tm) r.v 0 ops.toList ss) && rR P ops b ss (k+1) rest rs
 | _,[],[]=>true
 | _,_,_=>false
def qw:Op→Bool
 | .alloc _=>true
 | .makeSlice _ _ _=>true
 | .buildSlice _ _ _=>true
 | _=>false
def ot (P:Program) (ev:Operand→Option LV):Op→Option (List LV×(Nat→LV))
 | .alloc t=>(match lT P t with | some cs=>some (cs,fun id=>.ptr id 0) | none=>none)
 | .makeSlice t l c=>(match P.underlying t,ev l,ev c with
   | some (.slice elem),some (.int _ (.ofNat len)),some (.int _ (.ofNat cap))=>(match bZ P elem,lT P elem,qB P elem with
     | some size,some zero,some bytes =>
       cond (Nat.beq zero.length size && Nat.ble 1 size && Nat.ble len cap && Nat.ble cap 100000 && Nat.ble bytes 100000) (some (gQ cap zero,fun id=>.sl id 0 len cap)) none
     | _,_,_=>none)
   | _,_,_=>none)
 | .buildSlice t len parts=>(match P.underlying t,lO ev parts.toList with
   | some (.slice elem),some ps=>(match bZ P elem,lT P elem with
     | some size,some zero =>
       cond (Nat.beq zero.length size && Nat.ble 1 size && Nat.ble (len * size) 100000)
        (match kz (fun i=>some (i * size,size)) (gQ len zero) ps with
         | some cs=>some (cs,fun id=>.sl id 0 len len)
         | none=>none) none
     | _,_=>none)
   | _,_=>none)
 | _=>none
def bO (b:Array Nat) (i j:Nat):Bool:=(b.getD i 0).testBit j
def r5 (b:Array Nat) (x:Nat):List (Oper×Nat)→List (Oper×Nat)×List (Oper×Nat)
 | []=>([],[])
 | y::ys=>cond (bO b y.2 x) ([],y::ys) (match r5 b x ys with | (l,r)=>(y::l,r))
def r7 (b:Array Nat) (all:List (Oper×Nat)):List (Oper×Nat)→Option (List (Oper×Nat)×(Oper×Nat)×List (Oper×Nat))
 | []=>none
 | y::ys=>cond (qw y.1.op && all.any (fun z=>!bm z.1.op && !Nat.beq z.2 y.2 && !bO b z.2 y.2 && !bO b y.2 z.2)) (some ([],y,ys))
    (match r7 b all ys with | some (l,x,r)=>some (y::l,x,r) | none=>none)
def EE (ops:Array Oper) (b:Array Nat) (x:Nat) (u v:Oper×Nat):Bool :=
 !bO b u.2 v.2 && (bO b v.2 u.2 || ((bm u.1.op || bm v.1.op || Nat.beq u.2 x || Nat.beq v.2 x) && u.1.apart ops v.1))
def tW (ops:Array Oper) (b:Array Nat) (x:Nat):List (Oper×Nat)→Bool
 | []=>true
 | u::rest=>rest.all (EE ops b x u) && tW ops b x rest
def rZ (P:Program) (ops:Array Oper) (b:Array Nat) (o:Oper) (k:Nat) (tm:Nat→LV) (v:LV):List (Oper×Nat)→List St→Bool
 | h::hs,s::s'::ss =>
   (bm h.1.op || bO b h.2 k || bO b k h.2 || (gZ P ops o tm v s && gZ P ops o tm v s')) && rZ P ops b o k tm v hs (s'::ss)
 | [],_=>true
 | _,_=>false
def qA (P:Program) (ops:Array Oper) (b:Array Nat) (W:List (Oper×Nat)) (ss:List St):List (Oper×Nat)→List Rc→Bool
 | u::rest,r::rs=>(!iT u.1.op || rZ P ops b u.1 u.2 (aQ r.tm) r.v W ss) && qA P ops b W ss rest rs
 | [],[]=>true
 | _,_=>false
def xW (b:Array Nat) (x:Nat) (A B:List (Oper×Nat)):Bool :=
 B.all (fun u=>bm u.1.op || bO b u.2 x) &&
 A.all (fun u=>!bO b u.2 x) &&
 B.all (fun u=>!bO b u.2 x || A.all fun h=>bm h.1.op || bO b u.2 h.2)
def yj (call:Nat→List LV→St→Option (LV×St)) (P:Program) (nt:Nat) (ops:Array Oper) (tm:Tm) (s:St):Option (Tm×St) :=
 match r7 (CheckFast.beforeF ops) ops.toList.zipIdx ops.toList.zipIdx with
 | none=>none
 | some (A0,x,B0)=>match r5 (CheckFast.beforeF ops) x.2 B0 with
   | (B1,B2)=>match jk call P nt ops (((A0++B1)++x::B2).map (·.1)) tm s [] with
     | none=>none
     | some (tm',s',rs) =>
       cond (P.follows .mixedOrders && lL ops && Region.noSelect ops && qw x.1.op && x.1.guard.isNone && x.1.dst.isSome && tW ops (CheckFast.beforeF ops) x.2 ((A0++B1)++x::B2) && xW (CheckFast.beforeF ops) x.2 (A0++B1) B2 &&
        qA P ops (CheckFast.beforeF ops) ((A0++B1)++x::B2) ((s'::rs.map (·.s)).reverse) ((A0++B1)++x::B2) rs.reverse) (some (tm',s')) none
def vz (call:Nat→List LV→St→Option (LV×St)) (P:Program) (nt:Nat) (ops:Array Oper) (draw:Bool) (tm:Tm) (s:St):Option (Tm×St) :=
 match draw with
 | false=>(match jk call P nt ops ops.toList tm s [] with
   | none=>none
   | some (tm',s',rs)=>some (tm',s'))
 | true=>cond (P.follows .mixedOrders && vA ops)
   (match jk call P nt ops ops.toList tm s [] with
   | none=>none
   | some (tm',s',rs)=>cond (rR P ops (Go.CheckFast.beforeF ops) ((s'::rs.map (·.s)).reverse) 0 ops.toList rs.reverse) (some (tm',s')) (yj call P nt ops tm s))
   (yj call P nt ops tm s)
def gm (P:Program) (tm:Nat→LV) (s:St):List ResultVar→Option (List LV)
 | []=>some []
 | .tmp t::rest=>(match gm P tm s rest with | some vs=>some (tm t::vs) | none=>none)
 | .cell a t::rest=>(match tm a,gm P tm s rest with
   | .ptr b o,some vs=>(match n_ P s t b o with | some v=>some (v::vs) | none=>none)
   | _,_=>none)
def mj:List LV→LV
 | [v]=>v
 | vs=>.tup vs
def ib:List LV→Nat→Tm→Option Tm
 | [],_,tm=>some tm
 | v::vs,k,tm=>match tm.set 16 k v with | some t=>ib vs (k+1) t | none=>none
abbrev sq:=Nat→Option (List LV→St→Option (LV×St))
def xA:sq:=fun _=>none
mutual
def dI (P:Program) (ctr:sq):Nat→Nat→Code→Tm→St→Option (LX×Tm×St)
 | 0,_,_,_,_=>none
 | n+1,nt,c,tm,s =>
   match c with
   | .skip=>some (.normal,tm,s)
   | .label _=>some (.normal,tm,s)
   | .region _ ops d=>(match vz (mb P ctr n) P nt ops d tm s with
     | some (tm',s')=>some (.normal,tm',s')
     | none=>none)
   | .seq a b=>(match dI P ctr n nt a tm s with
     | some (.normal,tm',s')=>dI P ctr n nt b tm' s'
     | r=>r)
   | .cond x a b=>(match f9 (aQ tm) x with
     | some (.bool true)=>dI P ctr n nt a tm s
     | some (.bool false)=>dI P ctr n nt b tm s
     | _=>none)
   | .block id b=>(match dI P ctr n nt b tm s with
     | some (.exit k,tm',s')=>cond (Nat.beq k id) (some (.normal,tm',s')) (some (.exit k,tm',s'))
     | r=>r)
   | .loop b=>(match dI P ctr n nt b tm s with
     | some (.normal,tm',s')=>dI P ctr n nt (.loop b) tm' s'
     | r=>r)
   | .exit id=>some (.exit id,tm,s)
   | .ret=>some (.ret,tm,s)
   | _=>none
def mb (P:Program) (ctr:sq):Nat→Nat→List LV→St→Option (LV×St)
 | 0,_,_,_=>none
 | n+1,f,args,s =>
   match ctr f with
   | some g=>g args s
   | none =>
   match P.funcs[f]? with
   | none=>none
   | some fn=>match fn.body,ib args 0 .leaf with
     | some c,some tm=>cond (Nat.ble args.length fn.ntmps) (match dI P ctr n fn.ntmps c tm s with
       | some (.normal,tm',s')=>(match gm P (aQ tm') s' fn.results.toList with | some vs=>some (mj vs,s') | none=>none)
       | some (.ret,tm',s')=>(match gm P (aQ tm') s' fn.results.toList with | some vs=>some (mj vs,s') | none=>none)
       | _=>none) none
     | _,_=>none
end
def lrun (P:Program) (fuel f:Nat) (g:List (Nat×List LV):=[]):Option LV:=match mb P xA fuel f [] ⟨.leaf,0,g⟩ with | some (v,_)=>some v | none=>none
end
end
section
open Go.RowKit
variable {P:Program} {r:Ren}
theorem K5 {v:Value} {l:LV} (h:xP v=some l):VR r l v:=by
 unfold xP at h;split at h <;> simp at h <;> subst h <;> simp [VR]
theorem Lw:∀ {vs:List Value} {ls:List LV},tM vs=some ls→VRs r ls vs
 | [],ls,h=>by simp [tM] at h; subst h; simp [VRs]
 | v::vs,ls,h=>by
   simp only [tM] at h;cases h1:xP v with
   | none=>simp [h1] at h
   | some l =>
     cases h2:tM vs with
     | none=>simp [h1,h2] at h
     | some ls' =>
       simp [h1,h2] at h; subst h;simp only [VRs];exact⟨v,vs,rfl,K5 h1,Lw h2⟩
theorem A7 {v:Value} {l:LV} (h:ow v=some l):VR r l v:=by
 unfold ow at h;split at h
 ·rename_i cs;cases h2:tM cs.toList with
  | none=>simp [h2] at h
  | some ls =>
    simp [h2] at h; subst h;simp only [VR];exact⟨cs.toList,rfl,Lw h2⟩
 ·exact K5 h
theorem Bc:∀ {ls:List LV},tR ls=true→∀ l∈ls,l.plain=true
 | [],_,l,hl=>by cases hl
 | a::as,h,l,hl=>by
   simp only [tR] at h;cases ha:a.plain with
   | false=>simp [ha] at h
   | true =>
     simp [ha] at h;cases hl with
     | head=>exact ha
     | tail _ hm=>exact Bc h l hm
theorem LV.i3r {l:LV} {cs:List LV} {v:Value} (h:l.cells=some cs) (hv:VR r l v):(∀ c∈cs,c.plain=true)∧VRs r cs v.cells.toList:=by
 cases l with
 | agg ds =>
   simp only [LV.cells] at h;cases ha:tR ds with
   | false=>simp [ha] at h
   | true =>
     simp [ha] at h; subst h;simp only [VR] at hv;obtain⟨us,rfl,h2⟩:=hv;exact⟨Bc ha,by simpa [Value.cells] using h2⟩
 | tup ds=>simp [LV.cells] at h
 | any=>simp [LV.cells] at h
 | _ =>
   simp [LV.cells] at h; subst h;refine⟨by simp [LV.plain],?_⟩;have hone:v.oneCell'=true:=hv.one rfl;have:v.cells=#[v]:=by cases v <;> first | rfl | simp [Value.oneCell'] at hone
   rw [this];simp only [VRs];exact⟨v,[],rfl,hv,rfl⟩
theorem tU (k:IntKind) (n:Int):iG k n=k.wrap n:=by
 unfold iG;split
 ·rename_i m;cases hb:Nat.ble m 9223372036854775807 with
  | false=>rfl
  | true =>
    have:=aS hb;have h1:((m:Int) % (2 ^ 64:Int))=m:=t8 aI aI;simp only [aw,IntKind.wrap,IntKind.bits,IntKind.signed,mq,h1];rw [av (by simp; try omega)]
 ·rename_i m;cases hb:Nat.ble m 18446744073709551615 with
  | false=>rfl
  | true =>
    have:=aS hb;have h1:((m:Int) % (2 ^ 64:Int))=m:=t8 aI aI;simp only [aw,IntKind.wrap,IntKind.bits,IntKind.signed,mq,h1];rw [av (by simp; try omega)]
 ·rfl
theorem WV {op:BinOp} {x y:Int} {l:LV} (h:o5 op x y=some l) (w:World):∃ v,(Op.intCmp op x y).run P w=.ok v w∧VR r l v:=by
 unfold o5 at h;unfold Op.intCmp;split at h <;> simp at h <;> subst h <;> simp [VR]
theorem Xp {op:BinOp} {k:IntKind} {x y:Int} {l:LV} (h:qp op k x y=some l) (w:World) (t:TypeId) (hs:op≠.shl) (hs':op≠.shr) :
  ∃ v,(binOp op t (.int k x) (.int k y)).run P w=.ok v w∧VR r l v:=by
 unfold binOp;unfold qp at h;cases op <;> simp only [tU] at h <;> (try (exact absurd rfl hs)) <;> (try (exact absurd rfl hs'))
 case add=>simp at h; subst h; simp [Op.intArith,VR]
 case sub=>simp at h; subst h; simp [Op.intArith,VR]
 case mul=>simp at h; subst h; simp [Op.intArith,VR]
 case quo =>
  by_cases hy:y=0
  ·simp [hy] at h
  ·have:(y == 0)=false:=by simp [hy]
   simp [this] at h; subst h; simp [Op.intDiv,hy,VR]
 case rem =>
  by_cases hy:y=0
  ·simp [hy] at h
  ·have:(y == 0)=false:=by simp [hy]
   simp [this] at h; subst h; simp [Op.intDiv,hy,VR]
 case and=>simp at h; subst h; simp [Op.intBits,VR]
 case or=>simp at h; subst h; simp [Op.intBits,VR]
 case xor=>simp at h; subst h; simp [Op.intBits,VR]
 case andNot=>simp at h; subst h; simp [Op.intBits,VR]
 all_goals (simp only [ne_eq,not_true_eq_false,dn]; exact WV h w)
theorem X4 {op:BinOp} {k:IntKind} {x y:Int} {yk:IntKind} {l:LV} (h:vt op k x y=some l) (w:World) :
  ∃ v,(Op.shift op k x yk y).run P w=.ok v w∧VR r l v:=by
 unfold vt at h;by_cases hy:y < 0
 ·simp [hy] at h
 ·simp only [hy,fX,aD] at h;unfold Op.shift;rw [av hy];split at h <;> simp at h <;> subst h <;> simp [VR]
theorem Xi {op:BinOp} {x y:List UInt8} {l:LV} (h:tz op x y=some l) (w:World) :
  ∃ v,(Op.stringOp op ⟨x.toArray⟩ ⟨y.toArray⟩).run P w=.ok v w∧VR r l v:=by
 unfold tz at h;unfold Op.stringOp;simp only [ByteArray.toList_mk];split at h
 ·cases hb:Nat.ble (x.length+y.length) 1000000000 with
  | false=>simp [hb] at h
  | true =>
    have hle:=aS hb;simp [hb] at h; subst h;have:¬ ((((⟨x.toArray⟩:ByteArray).size+(⟨y.toArray⟩:ByteArray).size:Nat):Int) > IntKind.i64.max):=by
     have e:(⟨x.toArray⟩:ByteArray).size=x.length:=rfl;have e':(⟨y.toArray⟩:ByteArray).size=y.length:=rfl;rw [e,e'];simp [IntKind.max,IntKind.signed,IntKind.bits]; omega
    rw [av this];refine⟨_,rfl,?_⟩;simp only [VR]
    congr 1
 all_goals (simp at h; try (subst h; simp [VR]))
theorem Bb {t:TypeId} {cs:List LV} {off:Nat} {l:LV} {us:List Value} (h:h_ P t cs off=some l) (hv:VRs r cs us) (w:World) :
  ∃ v,(part t us.toArray off).run P w=.ok v w∧VR r l v:=by
 unfold h_ at h;unfold part;cases ha:qi P t with
 | none=>simp [ha] at h
 | some b =>
   cases b with
   | true =>
     simp only [ha] at h;cases hn:bZ P t with
     | none=>simp [hn] at h
     | some n =>
       simp only [hn] at h;cases hc:cut cs off n with
       | none=>simp [hc] at h
       | some c =>
         simp [hc] at h; subst h;simp only [bw,sj ha,br,eR,eI hn,bT];refine⟨_,rfl,?_⟩;simp only [VR];refine⟨(us.drop off).take n,by simp,?_⟩;obtain⟨q1,q2⟩:=kB _ _ _ _ hc;have hl:=hv.length;by_cases hn0:n=0
         ·subst hn0; have:c=[]:=by cases c <;> simp_all
          subst this; simp [VRs]
         ·refine VRs.mk ?_ fun i x hx=>?_
          ·have:=q2 (n - 1) aI;rw [cq aI] at this;have:=(bU.1 this.symm).1;simp; omega
          ·have hi:i < n:=by rw [← q1]; exact(bU.1 hx).1
           rw [q2 i hi] at hx;obtain⟨u,g1,g2⟩:=hv.get hx;exact⟨u,by rw [List.getElem?_take_of_lt hi,sB]; exact g1,g2⟩
   | false =>
     simp only [ha,pt] at h;obtain⟨u,g1,g2⟩:=hv.get h;simp only [bw,sj ha,br,gd,dn];exact⟨u,by simp [g1],g2⟩
theorem K0:∀ (d:Nat) {t:TypeId} {x y:LV} {b:Bool} {u v:Value} (w:World),leq P d t x y=some b→VR r x u→VR r y v →
  (Op.equalIn d t u v).run P w=.ok b w:=by
 intro d
 induction d with
 | zero=>intro t x y b u v w h; simp [leq] at h
 | succ d ih =>
   intro t x y b u v w h hx hy;unfold leq at h;cases hu:P.underlying t with
   | none=>simp [hu] at h
   | some de =>
     rw [hu] at h;split at h
     case h_1 e1 =>
      simp at e1; subst e1; simp only [VR] at hx hy; subst hx hy; simp at h; subst h;exact run_equalIn_bool' w d t _ _ hu
     case h_2 k a k' b' e1 =>
      simp at e1; subst e1; simp only [VR] at hx hy; subst hx hy;by_cases hk:k=k'
      ·subst hk; simp at h; subst h; exact run_equalIn_int w d t _ _ _ _ hu
      ·simp [hk] at h
     case h_3 e1 =>
      simp at e1; subst e1; simp only [VR] at hx hy; subst hx hy; simp at h; subst h;rw [run_equalIn_string w d t _ _ hu]; simp
     case h_4 e1=>simp at e1; subst e1; simp only [VR] at hx hy; subst hx hy; simp at h; subst h; simp [Op.equalIn,bK hu]
     case h_5 e1=>simp at e1; subst e1; simp only [VR] at hx hy; obtain⟨B,q,c,_,rfl⟩:=hy; subst hx; simp at h; subst h; simp [Op.equalIn,bK hu]
     case h_6 e1=>simp at e1; subst e1; simp only [VR] at hx hy; obtain⟨B,q,c,_,rfl⟩:=hx; subst hy; simp at h; subst h; simp [Op.equalIn,bK hu]
     case h_7 e1=>simp at e1; subst e1; simp only [VR] at hx hy; subst hx hy; simp at h; subst h; simp [Op.equalIn,bK hu]
     case h_8 e1=>simp at e1; subst e1; simp only [VR] at hx hy; obtain⟨u',rfl,_⟩:=hy; subst hx; simp at h; subst h; simp [Op.equalIn,bK hu]
     case h_9 e1=>simp at e1; subst e1; simp only [VR] at hx hy; obtain⟨u',rfl,_⟩:=hx; subst hy; simp at h; subst h; simp [Op.equalIn,bK hu]
     case h_10 tx vx ty vy e1 =>
      simp at e1; subst e1; simp only [VR] at hx hy;obtain⟨u',rfl,hx'⟩:=hx;obtain⟨v',rfl,hy'⟩:=hy;simp only [Op.equalIn,bw,bK hu,br];by_cases ht:tx=ty
      ·subst ht;simp only [bD,aw] at h;cases hi:P.info? tx with
       | none=>simp [hi] at h
       | some i =>
         simp only [hi] at h;cases hc:i.comparable with
         | false=>simp [hc] at h
         | true =>
           simp only [hc,aw] at h;simp only [ne_eq,not_true_eq_false,dn,bw,yv hi,br,hc,oM,gd];simpa using ih w h hx' hy'
      ·simp [ht] at h; subst h;simp [ht]
     case h_11 fs xs ys e1 =>
      simp at e1; subst e1; simp only [VR] at hx hy;obtain⟨us,rfl,hx'⟩:=hx;obtain⟨vs,rfl,hy'⟩:=hy;cases hp:P.stoodInHeld t with
      | true=>simp [hp] at h
      | false =>
        simp only [hp,aD] at h;have hf:P.fieldsOf t=fs:=by simp [Program.fieldsOf,hu]
        rw [run_equalIn_struct w d t _ _ (by rw [hf]; exact hu) hp,hf];generalize fs.toList=fl at h;clear hu hf
        induction fl with
        | nil=>simp [tZ] at h; subst h; simp [Op.eqFields]
        | cons f fl ihf =>
          simp only [tZ] at h;by_cases hn:f.name = "_"
          ·have:(f.name == "_")=true:=by simp [hn]
           simp only [this,aw] at h;simp only [Op.eqFields,hn,ne_eq,not_true_eq_false,dn];exact ihf h
          ·have:(f.name == "_")=false:=by simp [hn]
           simp only [this,aD] at h;simp only [Op.eqFields,ne_eq,hn,not_false_eq_true,eR];cases h1:h_ P f.type xs f.offset with
           | none=>simp [h1] at h
           | some a =>
             cases h2:h_ P f.type ys f.offset with
             | none=>simp [h1,h2] at h
             | some b' =>
               simp only [h1,h2] at h;obtain⟨va,g1,g2⟩:=Bb h1 hx' w;obtain⟨vb,g3,g4⟩:=Bb h2 hy' w;simp only [bw,g1,g3,br];cases he:leq P d f.type a b' with
               | none=>simp [he] at h
               | some q =>
                 simp only [he] at h;rw [ih w he g2 g4];cases q with
                 | true=>simp only [br,oM,gd,dn]; exact ihf h
                 | false=>simp at h; subst h; simp
     case h_12 e1=>simp at e1; subst e1; simp only [VR] at hx hy; subst hx hy; simp at h; subst h; simp [Op.equalIn,bK hu]
     case h_13 e1=>simp at e1; subst e1; simp only [VR] at hx hy; obtain⟨B,q,c,_,rfl⟩:=hy; subst hx; simp at h; subst h; simp [Op.equalIn,bK hu]
     case h_14 e1=>simp at e1; subst e1; simp only [VR] at hx hy; obtain⟨B,q,c,_,rfl⟩:=hx; subst hy; simp at h; subst h; simp [Op.equalIn,bK hu]
     case h_15 e1=>simp at e1; subst e1; simp only [VR] at hx hy; subst hx hy; simp at h; subst h; simp [Op.equalIn,bK hu]
     case h_16 e1=>simp at e1; subst e1; simp only [VR] at hx hy; obtain⟨us,rfl,_⟩:=hy; subst hx; simp at h; subst h; simp [Op.equalIn,bK hu]
     case h_17 e1=>simp at e1; subst e1; simp only [VR] at hx hy; obtain⟨us,rfl,_⟩:=hx; subst hy; simp at h; subst h; simp [Op.equalIn,bK hu]
     case h_18=>simp at h
end
section
open Go.RowKit
variable {P:Program} {r:Ren}
theorem Xv {op:BinOp} {t:TypeId} {a b:LV} {x y:Operand} {u v:Value} (h:vj P op t a b=true) (ha:VR r a u) (hb:VR r b v) (w:World) :
  (eqGuard op t x y u v).run P w=.ok () w:=by
 unfold vj at h;unfold eqGuard;cases hop:uK op with
 | false=>cases op <;> simp [uK] at hop <;> simp
 | true =>
   simp only [hop] at h;have h0:(!(match op with | .eql=>true | .neq=>true | _=>false))=false:=by cases op <;> simp [uK] at hop <;> rfl
   have key:∀ m:Bool,m=true→(!m)=false:=bH;split at h
   iterate 3
    ·simp at h
   ·rename_i xs ys;simp only [VR] at ha hb;obtain⟨us,rfl,_⟩:=ha;obtain⟨vs,rfl,_⟩:=hb;have hg:P.eqGuardType P.depth t=false:=by simpa using h
    cases op <;> simp [uK] at hop <;> simp [hg]
   ·rename_i hna hnb hn ha';have h1:¬ (u=.nilIface∧v=.nilIface):=by
     rintro⟨rfl,rfl⟩
     cases a <;> simp [VR,ie] at ha <;> try (exact hna rfl)
     cases b <;> simp [VR,ie] at hb <;> try (exact hnb rfl)
     exact hn rfl rfl
    have h2:∀ us vs,¬ (u=.agg us∧v=.agg vs):=by
     rintro us vs ⟨rfl,rfl⟩
     cases a <;> simp [VR,ie] at ha <;> try (exact hna rfl)
     cases b <;> simp [VR,ie] at hb <;> try (exact hnb rfl)
     exact ha' _ _ rfl rfl
    cases op <;> simp [uK] at hop
    all_goals
     simp only [oM,gd,dn];cases u <;> cases v <;> first
      | rfl
      | (exact absurd ⟨rfl,rfl⟩ h1)
      | (exact absurd ⟨rfl,rfl⟩ (h2 _ _))
theorem FQ {t:TypeId} {a b:LV} {u v:Value} {q:Bool} {w:World} (hna:a≠.any) (hnb:b≠.any) (ha:VR r a u) (hb:VR r b v) (hi:∀ k x,a≠.int k x∨∀ k' y,b≠.int k' y) (hst:∀ x,a≠.str x∨∀ y,b≠.str y)
  (h:(Op.equal t u v).run P w=.ok q w):(binOp .eql t u v).run P w=.ok (.bool q) w∧(binOp .neq t u v).run P w=.ok (.bool (!q)) w:=by
 have hu:∀ k x k' y,¬ (u=.int k x∧v=.int k' y):=by
  rintro k x k' y ⟨rfl,rfl⟩
  cases a <;> simp [VR,ie] at ha <;> try (exact hna rfl)
  cases b <;> simp [VR,ie] at hb <;> try (exact hnb rfl)
  obtain⟨rfl,rfl⟩:=ha; obtain⟨rfl,rfl⟩:=hb;rcases hi k x with h | h
  ·exact h rfl
  ·exact h k' y rfl
 have hs:∀ x y,¬ (u=.string x∧v=.string y):=by
  rintro x y ⟨rfl,rfl⟩
  cases a <;> simp [VR,ie] at ha <;> try (exact hna rfl)
  cases b <;> simp [VR,ie] at hb <;> try (exact hnb rfl)
  rcases hst _ with h | h
  ·exact h rfl
  ·exact h _ rfl
 have hf:∀ k x k' y,¬ (u=.float k x∧v=.float k' y):=by
  rintro k x k' y ⟨rfl,rfl⟩
  cases a <;> simp [VR,ie] at ha <;> try (exact hna rfl)
 have hc:∀ k x x' k' y y',¬ (u=.complex k x x'∧v=.complex k' y y'):=by
  rintro k x x' k' y y' ⟨rfl,rfl⟩
  cases a <;> simp [VR,ie] at ha <;> try (exact hna rfl)
 constructor
 ·have:binOp .eql t u v=(do pure (.bool (← Op.equal t u v))):=by
   cases u <;> cases v <;> first
    | rfl
    | (exact absurd ⟨rfl,rfl⟩ (hu _ _ _ _))
    | (exact absurd ⟨rfl,rfl⟩ (hs _ _))
    | (exact absurd ⟨rfl,rfl⟩ (hf _ _ _ _))
    | (exact absurd ⟨rfl,rfl⟩ (hc _ _ _ _ _ _))
  rw [this]; simp [h]
 ·have:binOp .neq t u v=(do pure (.bool (!(← Op.equal t u v)))):=by
   cases u <;> cases v <;> first
    | rfl
    | (exact absurd ⟨rfl,rfl⟩ (hu _ _ _ _))
    | (exact absurd ⟨rfl,rfl⟩ (hs _ _))
    | (exact absurd ⟨rfl,rfl⟩ (hf _ _ _ _))
    | (exact absurd ⟨rfl,rfl⟩ (hc _ _ _ _ _ _))
  rw [this]; simp [h]
theorem XS {t sp:TypeId} (hu:P.underlying t=some (.slice sp)) (a:Option Addr) (len cap d:Nat) (w:World):∃ q,(Op.equalIn (d+1) t (.slice a len cap) (.slice none 0 0)).run P w=.ok q w∧q=a.isNone:=by
 cases a <;> exact⟨_,by simp [Op.equalIn,bK hu]; rfl,by rfl⟩
theorem FN {t sp:TypeId} (hu:P.underlying t=some (.slice sp)) (a:Option Addr) (len cap d:Nat) (w:World):∃ q,(Op.equal t (.slice a len cap) (.slice none 0 0)).run P w=.ok q w∧q=a.isNone:=by
 obtain⟨d,hd⟩:∃ d,Op.maxDepth=d+1:=⟨Op.maxDepth - 1,by decide⟩;have:Op.equal t (.slice a len cap) (.slice none 0 0)=Op.equalIn Op.maxDepth t (.slice a len cap) (.slice none 0 0):=rfl;rw [this,hd];exact XS hu a len cap d w
theorem Av {d:Nat} {t:TypeId} {a b:LV} {q:Bool} (h:leq P d t a b=some q):a≠.any∧b≠.any:=by
 cases d with
 | zero=>simp [leq] at h
 | succ d =>
   constructor <;> rintro rfl
   iterate 2
    ·unfold leq at h; split at h <;> simp_all
theorem WU {op:BinOp} {t:TypeId} {a b l:LV} {x y:Operand} {u v:Value} (h:rg P op t a b=some l) (ha:VR r a u) (hb:VR r b v) (w:World) :
  ∃ q,((do eqGuard op t x y u v; binOp op t u v:Sem Value)).run P w=.ok q w∧VR r l q:=by
 unfold rg at h;cases hg:vj P op t a b with
 | false=>simp [hg] at h
 | true =>
   simp only [hg,aw] at h;simp only [bw,Xv hg ha hb w,br];split at h
   ·rename_i b o len d;have hs:∃ sp,P.underlying t=some (.slice sp):=by
     split at h
     iterate 2
      ·rename_i e1; exact⟨_,e1⟩
     ·simp at h
    obtain⟨sp,e1⟩:=hs;have hq:∃ q,(Op.equal t u v).run P w=.ok q w∧(Nat.beq len 0=false→q=false):=by
     simp only [VR] at ha hb;subst hb;rcases ha with⟨B,q,c,_,_,rfl⟩ | ⟨_,rfl | ⟨a,rfl⟩⟩
     ·obtain⟨q,k1,k2⟩:=FN e1 (some ⟨B,q+o,none⟩) len (c - d) 0 w;exact⟨q,k1,fun _=>by simpa using k2⟩
     ·rename_i h0; subst h0;obtain⟨q,k1,k2⟩:=FN e1 none 0 0 0 w;exact⟨q,k1,fun h=>by simp [Nat.beq] at h⟩
     ·rename_i h0; subst h0;obtain⟨q,k1,k2⟩:=FN e1 (some a) 0 0 0 w;exact⟨q,k1,fun h=>by simp [Nat.beq] at h⟩
    obtain⟨q,hq,hqf⟩:=hq;have:=FQ (r:=r) (a:=.slo b o len d) (b:=.nils) bH bH ha hb (fun k x=>.inl bH) (fun x=>.inl bH) hq;split at h
    ·simp only [a8] at h; subst h;refine⟨_,this.1,?_⟩;cases hz:Nat.beq len 0 with
     | true=>simp only [aw,VR]; cases q <;> simp
     | false=>simp only [aD,VR,hqf hz]
    ·simp only [a8] at h; subst h;refine⟨_,this.2,?_⟩;cases hz:Nat.beq len 0 with
     | true=>simp only [aw,VR]; cases q <;> simp
     | false=>simp only [aD,VR,hqf hz]; rfl
    ·simp at h
   ·rename_i k x' k' y';simp only [VR] at ha hb; subst ha hb;split at h
    iterate 2
     ·obtain⟨q,h1,h2⟩:=X4 (r:=r) (yk:=k') h w;exact⟨q,by unfold binOp; exact h1,h2⟩
    ·rename_i n1 n2;by_cases hk:k=k'
     ·subst hk;simp only [bD,aw] at h;exact Xp h w t (fun e=>n1 e) (fun e=>n2 e)
     ·simp [hk] at h
   ·simp only [VR] at ha hb; subst ha hb;obtain⟨q,h1,h2⟩:=Xi (r:=r) h w;refine⟨q,?_,h2⟩;rw [← h1];cases op <;> rfl
   ·rename_i n1 n2;have hi:∀ k x,a≠.int k x∨∀ k' y,b≠.int k' y:=by
     intro k x;by_cases e:a=.int k x
     ·right; intro k' y e'; exact n1 _ _ _ _ e e'
     ·exact .inl e
    have hst:∀ x,a≠.str x∨∀ y,b≠.str y:=by
     intro x;by_cases e:a=.str x
     ·right; intro y e'; exact n2 _ _ e e'
     ·exact .inl e
    split at h
    ·cases he:leq P Op.maxDepth t a b with
     | none=>simp [he] at h
     | some q =>
       simp [he] at h; subst h;exact⟨_,(FQ (Av he).1 (Av he).2 ha hb hi hst (K0 _ w he ha hb)).1,by simp [VR]⟩
    ·cases he:leq P Op.maxDepth t a b with
     | none=>simp [he] at h
     | some q =>
       simp [he] at h; subst h;exact⟨_,(FQ (Av he).1 (Av he).2 ha hb hi hst (K0 _ w he ha hb)).2,by simp [VR]⟩
    ·simp at h
theorem Wy {op:UnOp} {a l:LV} {u:Value} (h:zg op a=some l) (ha:VR r a u) (w:World):∃ q,(Op.unary op u).run P w=.ok q w∧VR r l q:=by
 unfold zg at h;split at h <;> (try simp only [VR] at ha) <;> (try subst ha) <;> simp [tU] at h <;> subst h
 ·simp [Op.unary,Op.intArith,VR]
 ·simp [Op.unary,Op.intBits,VR]
 ·simp [Op.unary,VR]
theorem vV {ev:Operand→Option LV} {ρ : Operand→Value} (hev:∀ x l,ev x=some l→VR r l (ρ x)):∀ {xs:List Operand} {ls:List LV},kV ev xs=some ls→VRs r ls (xs.map ρ)
 | [],ls,h=>by simp [kV] at h; subst h; simp [VRs]
 | x::xs,ls,h=>by
   simp only [kV] at h;cases h1:ev x with
   | none=>simp [h1] at h
   | some l =>
     cases h2:kV ev xs with
     | none=>simp [h1,h2] at h
     | some ls' =>
       simp [h1,h2] at h; subst h;simp only [lp,VRs];exact⟨_,_,rfl,hev x l h1,vV hev h2⟩
def PR (r:Ren):List (Nat×LV)→List (Nat×Value)→Prop
 | [],vs=>vs=[]
 | (i,l)::ls,vs=>∃ u us,vs=(i,u)::us∧VR r l u∧PR r ls us
theorem A4 {ev:Operand→Option LV} {ρ : Operand→Value} (hev:∀ x l,ev x=some l→VR r l (ρ x)):∀ {xs:List (Nat×Operand)} {ls:List (Nat×LV)},lO ev xs=some ls→PR r ls (xs.map fun(i,x)=>(i,ρ x))
 | [],ls,h=>by simp [lO] at h; subst h; simp [PR]
 | (i,x)::xs,ls,h=>by
   simp only [lO] at h;cases h1:ev x with
   | none=>simp [h1] at h
   | some l =>
     cases h2:lO ev xs with
     | none=>simp [h1,h2] at h
     | some ls' =>
       simp [h1,h2] at h; subst h;simp only [lp,PR];exact⟨_,_,rfl,hev x l h1,A4 hev h2⟩
theorem KR (off:Nat):∀ (vs:List Value) (k:Nat) (c:Array Value),off+k+vs.length≤c.size →
  ((vs.zipIdx k).foldl (fun cs (x:Value×Nat)=>cs.setIfInBounds (off+x.2) x.1) c).toList.length=c.size ∧
  ∀ j:Nat,((vs.zipIdx k).foldl (fun cs (x:Value×Nat)=>cs.setIfInBounds (off+x.2) x.1) c)[j]? = if off+k≤j∧j < off+k+vs.length then vs[j - (off+k)]? else c[j]?
 | [],k,c,h=>⟨by simp,fun j=>by rw [av bH]; simp⟩
 | v::vs,k,c,h=>by
   simp only [cZ] at h;simp only [List.zipIdx_cons,sA];obtain⟨h1,h2⟩:=KR off vs (k+1) (c.setIfInBounds (off+k) v) (by simp; omega);refine⟨by rw [h1]; simp,fun j=>?_⟩;rw [h2];by_cases hj:j=off+k
   ·subst hj;rw [av aI,aB bH,Array.getElem?_setIfInBounds_self_of_lt aI];simp
   ·by_cases hin:off+(k+1)≤j∧j < off+(k+1)+vs.length
    ·rw [aB hin,aB (by simp; omega),show j - (off+k)=(j - (off+(k+1)))+1 by omega,eG]
    ·rw [av hin,av (by simp; omega),mX aI]
theorem yD {place place':Nat→Option (Nat×Nat)} (hp:∀ i x,place i=some x→place' i=some x):∀ {ps:List (Nat×LV)} {qs:List (Nat×Value)} {cs ds:List LV} {us:List Value},
  kz place cs ps=some ds→PR r ps qs→VRs r cs us→∃ vs:List Value,Instr.fill place' us.toArray qs=some vs.toArray∧VRs r ds vs
 | [],qs,cs,ds,us,h,hq,hv=>by
   simp [kz] at h; subst h;simp only [PR] at hq; subst hq;exact⟨us,by simp [Instr.fill],hv⟩
 | (i,l)::ps,qs,cs,ds,us,h,hq,hv=>by
   simp only [PR] at hq;obtain⟨u,qs',rfl,hl,hq'⟩:=hq;simp only [kz] at h;cases h1:place i with
   | none=>simp [h1] at h
   | some x =>
     obtain⟨off,size⟩:=x;cases h2:l.cells with
     | none=>simp [h1,h2] at h
     | some c0 =>
       cases c0 with
       | nil=>simp [h1,h2] at h
       | cons c c' =>
         simp only [h1,h2,b7] at h;by_cases hsz:c'.length+1=size
         ·simp only [hsz,bD,aw] at h;cases h3:lay cs off (c::c') with
          | none=>simp [h3] at h
          | some cs' =>
            simp only [h3] at h;obtain⟨q1,q2,q3⟩:=rP _ _ _ _ h3;obtain⟨g1,g2⟩:=LV.i3r h2 hl;have hul:=hv.length;have hcl:=g2.length;have hin:=q2 bH;simp only [cZ] at hcl hin q3;have hcs:u.cells.size=size:=by rw [← hsz,← hcl]; simp
            simp only [Instr.fill,hp i _ h1,hcs];have hno:(decide (size≠size) || decide (off+size > us.toArray.size))=false:=by simp; omega
            simp only [hno];have hfold:=KR off u.cells.toList 0 us.toArray (by simp; omega);have hz:u.cells.zipIdx.foldl (fun cs (x:Value×Nat)=>cs.setIfInBounds (off+x.2) x.1) us.toArray=(u.cells.toList.zipIdx 0).foldl (fun cs (x:Value×Nat)=>cs.setIfInBounds (off+x.2) x.1) us.toArray:=by
             rw [← Array.foldl_toList]; simp
            obtain⟨f1,f2⟩:=hfold;generalize hF:(u.cells.toList.zipIdx 0).foldl (fun cs (x:Value×Nat)=>cs.setIfInBounds (off+x.2) x.1) us.toArray=F at f1 f2;have hv':VRs r cs' F.toList:=by
             refine VRs.mk (by rw [f1]; simp; omega) fun j lv hj=>?_
             rw [q3] at hj;have:=f2 j;simp only [gA,hcl] at this;by_cases hin':off≤j∧j < off+(c'.length+1)
             ·rw [aB hin'] at hj this;obtain⟨v',k1,k2⟩:=g2.get hj;exact⟨v',by rw [Array.getElem?_toList,this]; exact k1,k2⟩
             ·rw [av hin'] at hj this;obtain⟨v',k1,k2⟩:=hv.get hj;exact⟨v',by rw [Array.getElem?_toList,this]; simpa using k1,k2⟩
            obtain⟨vs,k1,k2⟩:=yD hp h hq' hv';refine⟨vs,?_,k2⟩;simp only [gd,dn];rw [← k1]
            congr 1
            first | (rw [hz,hF]) | (rw [← hF,← hz])
         ·simp [hsz] at h
theorem LY:∀ {fs:List Field} {ps:List (Nat×Nat)},tX P fs=some ps→∀ w,(fs.mapM fun f=>(Prod.mk f.offset <$> sizeOf f.type:Sem (Nat×Nat))).run P w=.ok ps w
 | [],ps,h,w=>by simp [tX] at h; subst h; simp
 | f::fs,ps,h,w=>by
   simp only [tX] at h;cases h1:bZ P f.type with
   | none=>simp [h1] at h
   | some n =>
     cases h2:tX P fs with
     | none=>simp [h1,h2] at h
     | some rs =>
       simp [h1,h2] at h; subst h;simp [List.mapM_cons,eI h1,LY h2]
theorem K6:∀ (l:List (Nat×Nat)) (n:Nat),vo l n=l[n]?
 | [],n=>by simp [vo]
 | x::xs,0=>rfl
 | x::xs,n+1=>by
   have h:Nat.sub (n+1) 1=n:=rfl;have h0:Nat.beq (n+1) 0=false:=rfl;simp only [vo,h,h0,aD,eG];exact K6 xs n
theorem qN {t:TypeId} {zs:List LV} (h:lT P t=some zs):∃ z,(∀ w,(zeroValue t).run P w=.ok z w)∧(∀ c∈zs,c.plain=true)∧VRs r zs z.cells.toList:=by
 unfold lT at h;cases h1:mO P t with
 | none=>simp [h1] at h
 | some z =>
   cases h2:ow z with
   | none=>simp [h1,h2] at h
   | some l =>
     simp [h1,h2] at h;exact⟨z,fun w=>A2 h1 w,LV.i3r h (A7 h2)⟩
theorem Xq {t:TypeId} {ps:List (Nat×LV)} {qs:List (Nat×Value)} {l:LV} (h:D4 P t ps=some l) (hq:PR r ps qs) (w:World) :
  ∃ v,(Instr.build t qs.toArray).run P w=.ok v w∧VR r l v:=by
 unfold D4 at h;cases hu:P.underlying t with
 | none=>simp [hu] at h
 | some d =>
   cases hz:lT P t with
   | none=>cases d <;> simp [hu,hz] at h
   | some zs =>
     obtain⟨z,z1,z2,z3⟩:=qN (r:=r) hz;simp only [Instr.build,bw,z1,br,bK hu];cases d <;> simp only [hu,hz] at h <;> try (simp at h; done)
     case array n elem =>
      cases hs:bZ P elem with
      | none=>simp [hs] at h
      | some size =>
        simp only [hs] at h;cases hf:kz (fun i=>some (i * size,size)) zs ps with
        | none=>simp [hf] at h
        | some ds =>
          simp [hf] at h; subst h;obtain⟨vs,k1,k2⟩:=yD (place':=fun i=>some (i * size,size)) (fun i x hx=>hx) hf hq z3;simp only [bw,eI hs,br];simp only [sy] at k1;simp only [k1];exact⟨_,rfl,by simp only [VR]; exact⟨vs,rfl,k2⟩⟩
     case struct fields =>
      cases hs:tX P fields.toList with
      | none=>simp [hs] at h
      | some places =>
        simp only [hs] at h;cases hf:kz (vo places) zs ps with
        | none=>simp [hf] at h
        | some ds =>
          simp [hf] at h; subst h;obtain⟨vs,k1,k2⟩:=yD (place':=fun i=>places.toArray[i]?) (fun i x hx=>by rw [K6] at hx; simpa using hx) hf hq z3;have hm:(fields.mapM fun f=>(do pure (f.offset,← sizeOf f.type):Sem (Nat×Nat))).run P w=.ok places.toArray w:=by
           rw [Array.mapM_eq_mapM_toList];simp [LY hs]
          simp only [bw,hm,br];simp only [sy] at k1;simp only [k1];exact⟨_,rfl,by simp only [VR]; exact⟨vs,rfl,k2⟩⟩
end
section
open Go.RowKit
variable {P:Program} {r:Ren}
theorem jp (b o n:Nat):(⟨b,o,none⟩:Addr).add n=⟨b,o+n,none⟩:=by unfold Addr.add; split <;> simp_all
theorem LI {W0:World} {s:St} {w:World} (hI:Inv W0 r s w) {t:TypeId} {b o:Nat} {l:LV} {u:Value} (h:n_ P s t b o=some l) (hu:VR r (.ptr b o) u) :
  ∃ v,(Instr.loadAt t u).run P w=.ok v w∧VR r l v:=by
 simp only [VR] at hu;obtain⟨B,q,c,hr,rfl⟩:=hu;unfold n_ at h;cases hb:s.look b with
 | none=>simp [hb] at h
 | some cs =>
   simp only [hb] at h;simp only [Instr.loadAt,Instr.sureAddr,bw,bT,br,loadVar];unfold h_ at h;cases ha:qi P t with
   | none=>simp [ha] at h
   | some g =>
     cases g with
     | true =>
       simp only [ha] at h;cases hn:bZ P t with
       | none=>simp [hn] at h
       | some n =>
         simp only [hn] at h;cases hc:cut cs o n with
         | none=>simp [hc] at h
         | some cc =>
           simp [hc] at h; subst h;obtain⟨us,k1,k2,k3⟩:=hI.loadCells (P:=P) hb hr hc;simp only [sj ha,br,eR,bw,eI hn,k3,bT];exact⟨_,rfl,by simp only [VR]; exact⟨us,rfl,k1⟩⟩
     | false =>
       simp only [ha,pt] at h;obtain⟨k1,v,k2,k3⟩:=hI.cell hb hr h;simp only [sj ha,br,gd,dn,run_load,k2];exact⟨v,rfl,k3⟩
theorem Fn:∀ {l:List (Nat×List LV)} {g:Nat} {cs:List LV},uW l g=some cs→(g,cs)∈l∧D0 cs=false
 | [],g,cs,h=>by simp [uW] at h
 | x::xs,g,cs,h=>by
   simp only [uW,b7] at h;by_cases e:x.1=g
   ·cases hf:D0 x.2 with
    | true=>simp [e,hf] at h
    | false=>simp [e,hf] at h; subst h; subst e; exact⟨by simp,hf⟩
   ·simp [e] at h; exact⟨qS _ (Fn h).1,(Fn h).2⟩
theorem Xu {W0:World} {s:St} {w:World} (hI:Inv W0 r s w) {t:TypeId} {g o:Nat} {l:LV} {u:Value} (h:Ae P s t g o=some l) (hu:VR r (.gptr g o) u) :
  ∃ v,(Instr.loadAt t u).run P w=.ok v w∧VR r l v:=by
 simp only [VR] at hu;subst hu;unfold Ae at h;cases hb:uW s.g g with
 | none=>simp [hb] at h
 | some cs =>
   simp only [hb] at h;obtain⟨hm1,hm2⟩:=Fn hb;rcases hI.gl _ hm1 with⟨F,hF,_⟩ | ⟨c,e,f,h1,h2⟩
   ·simp only at hF; subst hF; cases hm2
   simp only at h1 h2;have hlt:=(ft.1 h1).1;have hw:w.heap[g]? = some (.cells c e f):=by rw [hI.below.block g hlt]; exact h1
   have hcell:∀ (i:Nat) l,cs[i]? = some l→∃ u,w.cell? ⟨g,i,none⟩=some u∧VR r l u:=fun i l hl=>by
    obtain⟨_,u,k1,k2⟩:=h2 i l hl;exact⟨u,by simp [World.cell?,hw,k1],k2 r⟩
   simp only [Instr.loadAt,Instr.sureAddr,bw,bT,br,loadVar];unfold h_ at h;cases ha:qi P t with
   | none=>simp [ha] at h
   | some q =>
     cases q with
     | true =>
       simp only [ha] at h;cases hn:bZ P t with
       | none=>simp [hn] at h
       | some n =>
         simp only [hn] at h;cases hc:cut cs o n with
         | none=>simp [hc] at h
         | some cc =>
           simp [hc] at h; subst h;obtain⟨q1,q2⟩:=kB _ _ _ _ hc;have hat:∀ i,i < n→∃ l u,cc[i]? = some l∧w.cell? ⟨g,o+i,none⟩=some u∧VR r l u:=fun i hi=>by
            have hl:cc[i]? = some (cc[i]'(by omega)):=cq aI;have h3:=q2 i hi;rw [hl] at h3;obtain⟨u,k1,k2⟩:=hcell _ _ h3.symm;exact⟨_,u,hl,k1,k2⟩
           have hrun:=run_loadCells (P:=P) w ⟨g,o,none⟩ n (fun j=>(w.cell? ⟨g,o+j,none⟩).getD undef) (fun j hj=>by
            obtain⟨l,u,k1,k2,k3⟩:=hat j hj;rw [jp,k2]; rfl)
           simp only [sj ha,br,eR,bw,eI hn,hrun,bT];refine⟨_,rfl,?_⟩;simp only [VR];refine⟨(List.range n).map (fun j=>(w.cell? ⟨g,o+j,none⟩).getD undef),rfl,VRs.mk (by simp [q1]) fun i l hl=>?_⟩;have hi:i < n:=by rw [← q1]; exact(bU.1 hl).1
           obtain⟨l',u,k1,k2,k3⟩:=hat i hi;rw [k1] at hl; cases hl;exact⟨u,by simp [hi,k2],k3⟩
     | false =>
       simp only [ha,pt] at h;obtain⟨u,k1,k2⟩:=hcell _ _ h;simp only [sj ha,br,gd,dn,run_load,k1];exact⟨u,rfl,k2⟩
theorem Lp:∀ {l:List (Nat×List LV)} {F:World→Prop},xJ l=some F→∃ x∈l,x.2=[.fact F]
 | [],F,h=>by simp [xJ] at h
 | x::xs,F,h=>by
   simp only [xJ] at h;split at h
   ·rename_i F' e; cases h; exact⟨x,by simp,e⟩
   ·obtain⟨y,h1,h2⟩:=Lp h; exact⟨y,by simp [h1],h2⟩
theorem FJ {get:Nat→Option LB} {Φ : World→Prop}:∀ {n:Nat},yf get n=some Φ→∃ t F γ,get t=some (.obj F [.fact Φ] γ)∧F.isSt=true
 | 0,h=>by cases h
 | n+1,h=>by
   unfold yf at h;split at h
   ·rename_i F Ψ γ e;cases hs:F.isSt with
    | true=>simp [hs] at h; subst h; exact⟨n,F,γ,e,hs⟩
    | false=>simp [hs] at h; exact FJ h
   ·exact FJ h
theorem XC {W0:World} {s:St} {w:World} (hI:Inv W0 r s w) {t:TypeId} {x:Value} {k:Nat} {l:LV} {u:Value} (h:xO P s t x k=some l) (hu:VR r (.vp x k) u) :
  ∃ v,(Instr.loadAt t u).run P w=.ok v w∧VR r l v:=by
 simp only [VR] at hu;obtain⟨g,o',n0,c0,rfl,rfl⟩:=hu;unfold xO at h;split at h
 case h_2=>cases h
 rename_i F n' hF hn';cases hok:rz F (.slice (some ⟨g,o',none⟩) n0 c0) k n' with
 | false=>simp [hok] at h
 | true =>
 simp only [hok,aw] at h;obtain⟨_,_,hrow⟩:=Li hok;generalize o_ F (.slice (some ⟨g,o',none⟩) n0 c0) k n'=cs at h hrow;have hFW:F W0∨F w:=by
  unfold DV at hF;split at hF
  ·rename_i Φ hs;cases hF;obtain⟨t',F',γ,e1,e2⟩:=FJ hs;obtain⟨y,_,_,q3⟩:=hI.ob.holds t' F' _ γ e1;have q4:=q3 w hI.below (aR _) fun _ _=>rfl
   rw [show F'.f=zG from F'.isSt_eq e2] at q4;obtain⟨F2,e3,e4⟩:=q4;simp only [iJ,LV.fact.injEq,kG] at e3;subst e3; exact .inr e4
  obtain⟨y,h1,h2⟩:=Lp hF;rcases hI.gl _ h1 with⟨F',e1,e2⟩ | ⟨c,e,f,e1,e2⟩
  ·rw [h2] at e1;simp only [iJ,LV.fact.injEq,kG] at e1;subst e1; exact .inl e2
  ·obtain⟨_,u,_,q⟩:=e2 0 (.fact F) (by rw [h2]; rfl);have:=q r;simp only [VR] at this
 have hrow':∃ B o2 n2 c2 cc e f,Value.slice (some ⟨g,o',none⟩) n0 c0=.slice (some ⟨B,o2,none⟩) n2 c2∧w.heap[B]? = some (.cells cc e f)∧∀ (i:Nat) l,cs[i]? = some l→l.plain=true∧∃ u,cc[o2+k+i]? = some u∧∀ r,VR r l u:=by
  rcases hFW with hFW | hFW
  ·obtain⟨B,o2,n2,c2,cc,e,f,q1,q2,q3⟩:=hrow W0 hFW;exact⟨B,o2,n2,c2,cc,e,f,q1,by rw [hI.below.block _ (ft.1 q2).1]; exact q2,q3⟩
  ·obtain⟨B,o2,n2,c2,cc,e,f,q1,q2,q3⟩:=hrow w hFW;exact⟨B,o2,n2,c2,cc,e,f,q1,q2,q3⟩
 obtain⟨B,o2,n2,c2,cc,e,f,q1,q2,q3⟩:=hrow';simp only [Value.slice.injEq,a8,Addr.mk.injEq,kG] at q1;obtain⟨⟨rfl,rfl⟩,rfl,rfl⟩:=q1;have hw:w.heap[g]? = some (.cells cc e f):=q2;have hcell0:∀ (i:Nat) l,cs[i]? = some l→∃ u,w.cell? ⟨g,o'+k+i,none⟩=some u∧VR r l u:=fun i l hl=>by
  obtain⟨_,u,k1,k2⟩:=q3 i l hl;exact⟨u,by simp [World.cell?,hw,k1],k2 r⟩
 clear q3 q2 hrow;generalize o'+k=o at hcell0 ⊢;simp only [Instr.loadAt,Instr.sureAddr,bw,bT,br,loadVar];unfold h_ at h;cases ha:qi P t with
 | none=>simp [ha] at h
 | some q =>
   cases q with
   | true =>
     simp only [ha,hn'] at h;cases hc:cut cs 0 n' with
     | none=>simp [hc] at h
     | some cc =>
       simp [hc] at h; subst h;obtain⟨q1,q2⟩:=kB _ _ _ _ hc;have hat:∀ i,i < n'→∃ l u,cc[i]? = some l∧w.cell? ⟨g,o+i,none⟩=some u∧VR r l u:=fun i hi=>by
        have hl:cc[i]? = some (cc[i]'(by omega)):=cq aI;have h3:=q2 i hi;rw [hl,bV] at h3;obtain⟨u,k1,k2⟩:=hcell0 _ _ h3.symm;exact⟨_,u,hl,k1,k2⟩
       have hrun:=run_loadCells (P:=P) w ⟨g,o,none⟩ n' (fun j=>(w.cell? ⟨g,o+j,none⟩).getD undef) (fun j hj=>by
        obtain⟨l,u,k1,k2,k3⟩:=hat j hj;rw [jp,k2]; rfl)
       simp only [sj ha,br,eR,bw,eI hn',hrun,bT];refine⟨_,rfl,?_⟩;simp only [VR];refine⟨(List.range n').map (fun j=>(w.cell? ⟨g,o+j,none⟩).getD undef),rfl,VRs.mk (by simp [q1]) fun i l hl=>?_⟩;have hi:i < n':=by rw [← q1]; exact(bU.1 hl).1
       obtain⟨l',u,k1,k2,k3⟩:=hat i hi;rw [k1] at hl; cases hl;exact⟨u,by simp [hi,k2],k3⟩
   | false =>
     simp only [ha,pt] at h;obtain⟨u,k1,k2⟩:=hcell0 _ _ h;rw [gA] at k1;simp only [sj ha,br,gd,dn,run_load,k1];exact⟨u,rfl,k2⟩
theorem XY {t:TypeId} {x l:LV} {f:Nat} {u:Value} (h:v6 P t x f=some l) (hu:VR r x u) (w:World) :
  ∃ v,(Instr.fieldAt t u f).run P w=.ok v w∧VR r l v:=by
 unfold v6 at h;split at h
 ·rename_i fields b o e1;simp only [VR] at hu;obtain⟨B,q,c,hr,rfl⟩:=hu;cases hf:fields[f]? with
  | none=>simp [hf] at h
  | some fd =>
    simp only [hf] at h;cases hn:bZ P fd.type with
    | none=>simp [hn] at h
    | some n =>
      simp only [hn,b7] at h;by_cases h0:n=0
      ·simp [h0] at h
      ·simp [h0] at h; subst h;simp only [Instr.fieldAt,bw,bK e1,br,hf,Instr.sureAddr,bT,fieldPlace,eI hn,h0,dn];refine⟨_,rfl,?_⟩;simp only [VR];exact⟨B,q,c,hr,by rw [jp,iy]⟩
 ·rename_i fields b o e1;simp only [VR] at hu;subst hu;cases hf:fields[f]? with
  | none=>simp [hf] at h
  | some fd =>
    simp only [hf] at h;cases hn:bZ P fd.type with
    | none=>simp [hn] at h
    | some n =>
      simp only [hn,b7] at h;by_cases h0:n=0
      ·simp [h0] at h
      ·simp [h0] at h; subst h;simp only [Instr.fieldAt,bw,bK e1,br,hf,Instr.sureAddr,bT,fieldPlace,eI hn,h0,dn];exact⟨_,rfl,by simp only [VR]; rw [jp]⟩
 ·rename_i fields x k e1;simp only [VR] at hu;obtain⟨B,o,n0,c0,rfl,rfl⟩:=hu;cases hf:fields[f]? with
  | none=>simp [hf] at h
  | some fd =>
    simp only [hf] at h;cases hn:bZ P fd.type with
    | none=>simp [hn] at h
    | some n =>
      simp only [hn,b7] at h;by_cases h0:n=0
      ·simp [h0] at h
      ·simp [h0] at h; subst h;simp only [Instr.fieldAt,bw,bK e1,br,hf,Instr.sureAddr,bT,fieldPlace,eI hn,h0,dn];refine⟨_,rfl,?_⟩;simp only [VR];exact⟨B,o,n0,c0,rfl,by rw [jp,iy]⟩
 ·simp at h
theorem Xs {t:TypeId} {x l:LV} {f:Nat} {u:Value} (h:D5 P t x f=some l) (hu:VR r x u) (w:World) :
  ∃ v,(Instr.field t u f).run P w=.ok v w∧VR r l v:=by
 unfold D5 at h;split at h
 ·rename_i fields cs e1;simp only [VR] at hu;obtain⟨us,rfl,hv⟩:=hu;cases hf:fields[f]? with
  | none=>simp [hf] at h
  | some fd =>
    simp only [hf] at h;obtain⟨v,k1,k2⟩:=Bb h hv w;refine⟨v,?_,k2⟩;simp only [Instr.field,bw,bK e1,br,hf,asAgg,bT];exact k1
 ·simp at h
theorem XZ {t:TypeId} {x ix l:LV} {u i:Value} (h:yx P t x ix=some l) (hu:VR r x u) (hi:VR r ix i) (w:World) :
  ∃ v,(Instr.indexAt t u i).run P w=.ok v w∧VR r l v:=by
 unfold yx at h;split at h
 ·rename_i elem b o len cap k n e1;simp only [VR] at hu hi;obtain⟨B,q,c,hr,rfl⟩:=hu;subst hi;cases hn:bZ P elem with
  | none=>simp [hn] at h
  | some sz =>
    simp only [hn] at h;cases hb:Nat.ble (n+1) len with
    | false=>simp [hb] at h
    | true =>
      have hlt:=aS hb;simp [hb] at h; subst h;simp only [Instr.indexAt,bw,asIntOf,bT,br,bK e1];simp only [mq];rw [aB aI];simp only [bw,eI hn,br,bT];refine⟨_,rfl,?_⟩;simp only [VR];exact⟨B,q,c,hr,by rw [jp,iy,kI]⟩
 ·rename_i elem b o len d k n e1;simp only [VR] at hu hi;subst hi;rcases hu with⟨B,q,c,hr,hle,rfl⟩ | ⟨hl0,_⟩
  case inr =>
   cases hn:bZ P elem with
   | none=>simp [hn] at h
   | some sz =>
     have:Nat.ble (n+1) len=false:=by rw [hl0]; rfl
     simp [hn,this] at h
  cases hn:bZ P elem with
  | none=>simp [hn] at h
  | some sz =>
    simp only [hn] at h;cases hb:Nat.ble (n+1) len with
    | false=>simp [hb] at h
    | true =>
      have hlt:=aS hb;simp [hb] at h; subst h;simp only [Instr.indexAt,bw,asIntOf,bT,br,bK e1];simp only [mq];rw [aB aI];simp only [bw,eI hn,br,bT];refine⟨_,rfl,?_⟩;simp only [VR];exact⟨B,q,c,hr,by rw [jp,iy,kI]⟩
 ·rename_i len elem b o k n e1;simp only [VR] at hu hi;obtain⟨B,q,c,hr,rfl⟩:=hu;subst hi;cases hn:bZ P elem with
  | none=>simp [hn] at h
  | some sz =>
    simp only [hn] at h;cases hb:Nat.ble (n+1) len with
    | false=>simp [hb] at h
    | true =>
      have hlt:=aS hb;simp [hb] at h; subst h;simp only [Instr.indexAt,bw,asIntOf,bT,br,bK e1,Instr.sureAddr];simp only [mq];rw [aB aI];simp only [bw,eI hn,br,bT];refine⟨_,rfl,?_⟩;simp only [VR];exact⟨B,q,c,hr,by rw [jp,iy,kI]⟩
 ·rename_i len elem b o k n e1;simp only [VR] at hu hi;subst hu hi;cases hn:bZ P elem with
  | none=>simp [hn] at h
  | some sz =>
    simp only [hn] at h;cases hb:Nat.ble (n+1) len with
    | false=>simp [hb] at h
    | true =>
      have hlt:=aS hb;simp [hb] at h; subst h;simp only [Instr.indexAt,bw,asIntOf,bT,br,bK e1,Instr.sureAddr];simp only [mq];rw [aB aI];simp only [bw,eI hn,br,bT];exact⟨_,rfl,by simp only [VR]; rw [jp,kI]⟩
 ·rename_i elem x k n e1;simp only [VR] at hu hi;obtain⟨rfl,a,n0,c0,rfl⟩:=hu;subst hi;cases hn:bZ P elem with
  | none=>simp [hn] at h
  | some sz =>
    simp only [hn] at h;cases hb:zH (.slice a n0 c0) n with
    | false=>simp [hb] at h
    | true =>
      simp [hb] at h; subst h;unfold zH at hb;split at hb
      ·rename_i B o n1 c1 e;simp only [Value.slice.injEq] at e;obtain⟨rfl,rfl,rfl⟩:=e;have hlt:=aS hb;simp only [Instr.indexAt,bw,asIntOf,bT,br,bK e1];simp only [mq];rw [aB aI];simp only [bw,eI hn,br,bT];refine⟨_,rfl,?_⟩;simp only [VR];exact⟨B,o,_,_,rfl,by rw [jp,kI]⟩
      ·cases hb
 ·simp at h
theorem Fm:∀ (l:List UInt8) (n:Nat),tG l n=l[n]?
 | [],n=>by simp [tG]
 | x::xs,0=>rfl
 | x::xs,n+1=>by
   have h:Nat.sub (n+1) 1=n:=rfl;have h0:Nat.beq (n+1) 0=false:=rfl;simp only [tG,h,h0,aD,eG];exact Fm xs n
theorem Wp (l:List UInt8) (n:Nat):(⟨l.toArray⟩:ByteArray)[n]? = l[n]?:=by
 have hs:(⟨l.toArray⟩:ByteArray).size=l.length:=rfl;by_cases h:n < l.length
 ·rw [cq h,getElem?_pos _ n (by rw [hs]; exact h)];rfl
 ·rw [gO aI,getElem?_neg _ n (by rw [hs]; exact h)]
theorem Xx {t:TypeId} {x ix l:LV} {u i:Value} (h:vk P t x ix=some l) (hu:VR r x u) (hi:VR r ix i) (w:World) :
  ∃ v,(Instr.index t u i).run P w=.ok v w∧VR r l v:=by
 unfold vk at h;split at h
 ·rename_i len elem cs k n e1;simp only [VR] at hu hi;obtain⟨us,rfl,hv⟩:=hu;subst hi;cases hn:bZ P elem with
  | none=>simp [hn] at h
  | some sz =>
    simp only [hn] at h;cases hb:Nat.ble (n+1) len with
    | false=>simp [hb] at h
    | true =>
      have hlt:=aS hb;simp only [hb,aw] at h;obtain⟨v,k1,k2⟩:=Bb h hv w;simp only [Instr.index,bw,asIntOf,bT,br,bK e1];simp only [mq];rw [aB aI];simp only [bw,eI hn,br,kI];exact⟨v,k1,k2⟩
 ·rename_i s k n e1;simp only [VR] at hu hi;subst hu hi;cases hb:tG s n with
  | none=>simp [hb] at h
  | some b =>
    simp [hb] at h; subst h;rw [Fm] at hb;simp only [Instr.index,bw,asIntOf,bT,br,bK e1];simp only [mq,kI,Wp,hb];rw [aB aI];exact⟨_,rfl,by simp [VR]⟩
 ·simp at h
def OR (r:Ren):Option LV→Option Value→Prop
 | none,v=>v=none
 | some l,v=>∃ u,v=some u∧VR r l u
theorem E7 {ev:Operand→Option LV} {ρ : Operand→Value} (hev:∀ x l,ev x=some l→VR r l (ρ x)) {x:Option Operand} {l:Option LV} (h:mK ev x=some l):OR r l (x.map ρ):=by
 cases x with
 | none=>simp [mK] at h; subst h; simp [OR]
 | some x =>
   simp only [mK] at h;cases h1:ev x with
   | none=>simp [h1] at h
   | some l'=>simp [h1] at h; subst h; simp [OR]; exact hev x l' h1
theorem vT {d n:Nat} {x:Option LV} {v:Option Value} (h:dE d x=some n) (hv:OR r x v):(v=none∧x=none∧n=d)∨∃ k,v=some (.int k n)∧x.isSome=true:=by
 unfold dE at h;split at h
 ·simp at h; simp only [OR] at hv; exact .inl ⟨hv,rfl,h.symm⟩
 ·simp at h; subst h; simp only [OR,VR] at hv; obtain⟨u,rfl,rfl⟩:=hv; exact .inr ⟨_,rfl,rfl⟩
 ·simp at h
theorem qM {k:IntKind} {n y:Nat} (h:n≤y) (c:BoundsCode) (w:World):(Instr.sliceBound (.int k (n:Int)) y c).run P w=.ok n w:=by
 simp only [Instr.sliceBound,bw,asIntOf,bT,br];rw [aB aI];simp
theorem mU {cW:Bool} {len cap l h m:Nat} {lo hi mx:Option LV} {lov hiv mxv:Option Value} (hl:dE 0 lo=some l) (hh:dE len hi=some h) (hm:dE cap mx=some m)
  (ol:OR r lo lov) (oh:OR r hi hiv) (om:OR r mx mxv) (h1:l≤h) (h2:h≤m) (h3:m≤cap) (h4:mx=none∨hi.isSome=true) (w:World) :
  (Instr.sliceBounds cW len cap lov hiv mxv).run P w=.ok (l,h,m) w:=by
 rcases vT hm om with⟨rfl,rfl,rfl⟩ | ⟨km,rfl,hm'⟩
 ·rcases vT hh oh with⟨rfl,rfl,rfl⟩ | ⟨kh,rfl,hh'⟩
  ·rcases vT hl ol with⟨rfl,rfl,rfl⟩ | ⟨kl,rfl,hl'⟩
   ·simp [Instr.sliceBounds]
   ·simp [Instr.sliceBounds,qM h1]
  ·rcases vT hl ol with⟨rfl,rfl,rfl⟩ | ⟨kl,rfl,hl'⟩
   ·simp [Instr.sliceBounds,qM h2]
   ·simp [Instr.sliceBounds,qM h2,qM h1]
 ·rcases vT hh oh with⟨rfl,rfl,rfl⟩ | ⟨kh,rfl,hh'⟩
  ·rcases h4 with h4 | h4
   ·subst h4; simp at hm'
   ·simp at h4
  ·rcases vT hl ol with⟨rfl,rfl,rfl⟩ | ⟨kl,rfl,hl'⟩
   ·simp [Instr.sliceBounds,qM h3,qM h2]
   ·simp [Instr.sliceBounds,qM h3,qM h2,qM h1]
theorem qL {t:TypeId} {d:TypeDesc} (hu:P.underlying t=some d) (hd:∀ n e,d≠.array n e) (x:Value) (lo hi mx:Option Value) (w:World) :
  (Instr.sliceAt t x lo hi mx).run P w=(Instr.slice t x lo hi mx).run P w:=by
 simp only [Instr.sliceAt,bw,bK hu,br]
 all_goals (cases d <;> first | rfl | (exact absurd rfl (hd _ _)))
theorem WQ {m:LV} {d d' n:Nat} (h:dE d (some m)=some n):dE d' (some m)=some n:=by
 cases m <;> first | exact h | (cases h; done) | (rename_i k x; cases x <;> exact h)
theorem XA {t:TypeId} {x l:LV} {lo hi mx:Option LV} {u:Value} {lov hiv mxv:Option Value} (h:pq P t x lo hi mx=some l) (hx:VR r x u)
  (ol:OR r lo lov) (oh:OR r hi hiv) (om:OR r mx mxv) (w:World):∃ v,(Instr.sliceAt t u lov hiv mxv).run P w=.ok v w∧VR r l v:=by
 unfold pq at h;split at h
 ·rename_i s e1;rw [qL e1 bH];simp only [VR] at hx; subst hx;simp only [OR] at om; subst om;cases hl:dE 0 lo with
  | none=>simp [hl] at h
  | some a =>
    cases hh:dE s.length hi with
    | none=>simp [hl,hh] at h
    | some b =>
      simp only [hl,hh] at h;by_cases hc:a≤b∧b≤s.length
      ·have:(Nat.ble a b && Nat.ble b s.length)=true:=by simp [Nat.ble_eq,hc.1,hc.2]
       simp [this] at h; subst h;have hb:=mU (P:=P) (cW:=false) hl hh (m:=s.length) (mx:=none) (cap:=s.length) rfl ol oh (mxv:=none) (by simp [OR]) hc.1 hc.2 (aR _) (.inl rfl) w;have hs:(⟨s.toArray⟩:ByteArray).size=s.length:=rfl;simp only [Instr.slice,bw,bK e1,br,Option.isSome_none,gd,dn,hs,hb,bT];refine⟨_,rfl,?_⟩;simp only [VR]
       congr 1
       apply ByteArray.ext;simp [ByteArray.data_extract]
      ·have:(Nat.ble a b && Nat.ble b s.length)=false:=by
        rw [Bool.and_eq_false_iff];by_cases h1:a≤b
        ·right; cases hq:Nat.ble b s.length with
         | false=>rfl
         | true=>exact absurd ⟨h1,aS hq⟩ hc
        ·left; cases hq:Nat.ble a b with
         | false=>rfl
         | true=>exact absurd (aS hq) h1
       simp [this] at h
 ·rename_i elem e1;rw [qL e1 bH];simp only [VR] at hx; subst hx;simp only [OR] at om; subst om;split at h
  ·rename_i sz0 hl hh hsz0;simp at h; subst h;have hb:=mU (P:=P) (cW:=true) hl hh (m:=0) (mx:=none) (cap:=0) rfl ol oh (mxv:=none) (by simp [OR]) (aR _) (aR _) (aR _) (.inl rfl) w;simp only [Instr.slice,bw,bK e1,br,hb,eI hsz0,bT];exact⟨_,rfl,by simp [VR]⟩
  ·simp at h
 ·rename_i elem e1;rw [qL e1 bH];simp only [VR] at hx;simp only [OR] at om; subst om;split at h
  ·rename_i sz0 hl hh hsz0;simp at h; subst h;have hb:=mU (P:=P) (cW:=true) hl hh (m:=0) (mx:=none) (cap:=0) rfl ol oh (mxv:=none) (by simp [OR]) (aR _) (aR _) (aR _) (.inl rfl) w;rcases hx with rfl | ⟨a,rfl⟩
   iterate 2
    ·simp only [Instr.slice,bw,bK e1,br,hb,eI hsz0,bT];exact⟨_,rfl,by simp [VR,ie]⟩
  ·simp at h
 ·rename_i elem m e1;rw [qL e1 bH];simp only [VR] at hx; subst hx;split at h
  ·rename_i sz0 hl hh hm hs hsz0;simp at h; subst h;have hb:=mU (P:=P) (cW:=true) hl hh (m:=0) (mx:=some m) (cap:=0) hm ol oh om (aR _) (aR _) (aR _) (.inr hs) w;simp only [Instr.slice,bw,bK e1,br,hb,eI hsz0,bT];exact⟨_,rfl,by simp [VR,ie]⟩
  ·simp at h
 ·rename_i elem m e1;rw [qL e1 bH];simp only [VR] at hx;split at h
  ·rename_i sz0 hl hh hm hs hsz0;simp at h; subst h;have hb:=mU (P:=P) (cW:=true) hl hh (m:=0) (mx:=some m) (cap:=0) hm ol oh om (aR _) (aR _) (aR _) (.inr hs) w;rcases hx with rfl | ⟨a,rfl⟩
   iterate 2
    ·simp only [Instr.slice,bw,bK e1,br,hb,eI hsz0,bT];exact⟨_,rfl,by simp [VR,ie]⟩
  ·simp at h
 ·rename_i elem b o len d m e1;rw [qL e1 bH];simp only [VR] at hx;split at h
  ·rename_i sz0 hl hh hm hs hsz0;simp at h; subst h;rcases hx with⟨B,q,c,hr,hle,rfl⟩ | ⟨rfl,rfl | ⟨a,rfl⟩⟩
   ·have hb:=mU (P:=P) (cW:=true) hl hh (m:=0) (mx:=some m) (cap:=c - d) (WQ hm) ol oh om (aR _) (bk _) (bk _) (.inr hs) w;simp only [Instr.slice,bw,bK e1,br,hb,eI hsz0,bT];exact⟨_,rfl,by simp [VR,ie]⟩
   iterate 2
    ·have hb:=mU (P:=P) (cW:=true) hl hh (m:=0) (mx:=some m) (cap:=0) hm ol oh om (aR _) (aR _) (aR _) (.inr hs) w;simp only [Instr.slice,bw,bK e1,br,hb,eI hsz0,bT];exact⟨_,rfl,by simp [VR,ie]⟩
  ·simp at h
 ·rename_i mx x5 x4 mx1 elem b o len cap e1;rw [qL e1 bH];simp only [VR] at hx;obtain⟨B,q,c,hr,rfl⟩:=hx;split at h
  ·rename_i a hh m n hl hhi hmx hn;by_cases hc:a≤hh∧hh≤m∧m≤cap∧(mx=none∨hi.isSome=true)
   ·have:(Nat.ble a hh && Nat.ble hh m && Nat.ble m cap && (mx.isNone || hi.isSome))=true:=by
     obtain⟨c1,c2,c3,c4⟩:=hc;simp only [dh c1,dh c2,dh c3,li];rcases c4 with rfl | c4
     ·rfl
     ·simp [c4]
    simp only [this,aw,a8,b7] at h; subst h;obtain⟨c1,c2,c3,c4⟩:=hc;have hb:=mU (P:=P) (cW:=true) hl hhi hmx ol oh om c1 c2 c3 c4 w;simp only [Instr.slice,bw,bK e1,br,hb,eI hn,bT];refine⟨_,rfl,?_⟩;simp only [VR];refine⟨B,q,c,hr,?_⟩;by_cases hm:m=a
    ·simp [hm]
    ·simp [hm,jp,iy]
   ·have:(Nat.ble a hh && Nat.ble hh m && Nat.ble m cap && (mx.isNone || hi.isSome))=false:=by
     rw [qQ];intro ht;simp only [bg,lV,Option.isNone_iff_eq_none] at ht;exact hc ⟨aS ht.1.1.1,aS ht.1.1.2,aS ht.1.2,ht.2⟩
    simp [this] at h
  ·simp at h
 ·rename_i mx x5 x4 mx1 alen elem b o e1;simp only [VR] at hx;obtain⟨B,q,c,hr,rfl⟩:=hx;split at h
  ·rename_i a hh m n hl hhi hmx hn;by_cases hc:a≤hh∧hh≤m∧m≤alen∧(mx=none∨hi.isSome=true)
   ·have:(Nat.ble a hh && Nat.ble hh m && Nat.ble m alen && (mx.isNone || hi.isSome))=true:=by
     obtain⟨c1,c2,c3,c4⟩:=hc;simp only [dh c1,dh c2,dh c3,li];rcases c4 with rfl | c4
     ·rfl
     ·simp [c4]
    simp only [this,aw,a8,b7] at h; subst h;obtain⟨c1,c2,c3,c4⟩:=hc;have hb:=mU (P:=P) (cW:=false) hl hhi hmx ol oh om c1 c2 c3 c4 w;simp only [Instr.sliceAt,bw,bK e1,br,Instr.sureAddr,bT,hb,eI hn];refine⟨_,rfl,?_⟩;simp only [VR];refine⟨B,q,c,hr,?_⟩;by_cases hm:m=a
    ·simp [hm]
    ·simp [hm,jp,iy]
   ·have:(Nat.ble a hh && Nat.ble hh m && Nat.ble m alen && (mx.isNone || hi.isSome))=false:=by
     rw [qQ];intro ht;simp only [bg,lV,Option.isNone_iff_eq_none] at ht;exact hc ⟨aS ht.1.1.1,aS ht.1.1.2,aS ht.1.2,ht.2⟩
    simp [this] at h
  ·simp at h
 ·rename_i elem b o len d e1;rw [qL e1 bH];simp only [VR] at hx;simp only [OR] at om; subst om;rcases hx with⟨B,q,c,hr,hle,rfl⟩ | ⟨rfl,hx⟩
  case inr =>
   split at h
   ·rename_i a hh n hl hhi hn;cases hc:(Nat.ble a hh && Nat.ble hh 0) with
    | false=>simp [hc] at h
    | true =>
      simp only [hc,aw,a8] at h; subst h;simp only [bg] at hc;have c1:=aS hc.1;have c2:=aS hc.2;have e0:hh=0:=aI;have e3:a=0:=aI;subst e0 e3;have hb:=mU (P:=P) (cW:=true) hl hhi (m:=0) (mx:=none) (cap:=0) rfl ol oh (mxv:=none) (by simp [OR]) (aR _) (aR _) (aR _) (.inl rfl) w;rcases hx with rfl | ⟨a,rfl⟩
      iterate 2
       ·simp only [Instr.slice,bw,bK e1,br,hb,eI hn,bT];exact⟨_,rfl,by simp [VR,ie]⟩
   ·simp at h
  split at h
  ·rename_i a hh n hl hhi hn;by_cases hc:a≤hh∧hh≤len
   ·have:(Nat.ble a hh && Nat.ble hh len)=true:=by
     obtain⟨c1,c2⟩:=hc;simp only [dh c1,dh c2,li]
    simp only [this,aw,a8] at h; subst h;obtain⟨c1,c2⟩:=hc;have hb:=mU (P:=P) (cW:=true) hl hhi (m:=c - d) (mx:=none) (cap:=c - d) rfl ol oh (mxv:=none) (by simp [OR]) c1 aI (aR _) (.inl rfl) w;simp only [Instr.slice,bw,bK e1,br,hb,eI hn,bT];refine⟨_,rfl,?_⟩;simp only [VR];by_cases hm:c - d=a
    ·by_cases ha:a=0
     ·subst ha;exact .inl ⟨B,q,c,hr,by omega,by simp [hm]⟩
     ·exact .inr ⟨by omega,.inr ⟨_,by simp [hm,show hh - a=0 by omega]; rfl⟩⟩
    ·refine .inl ⟨B,q,c,hr,by omega,?_⟩;simp only [hm,dn,sx,jp,iy,Nat.sub_sub]
   ·have:(Nat.ble a hh && Nat.ble hh len)=false:=by
     rw [qQ];intro ht;simp only [bg] at ht;exact hc ⟨aS ht.1,aS ht.2⟩
    simp [this] at h
  ·simp at h
 ·rename_i elem v0 e1;rw [qL e1 bH];simp only [VR] at hx;simp only [OR] at om; subst om;obtain⟨rfl,a0,n0,c0,rfl⟩:=hx;split at h
  ·rename_i a n hl hn;cases hv:xj (.slice a0 n0 c0) a with
   | false=>simp [hv] at h
   | true =>
     simp only [hv,aw,a8] at h; subst h;simp only [xj,bg] at hv;have c1:=aS hv.1;have c2:=aS hv.2;have hb:=mU (P:=P) (cW:=true) hl (show dE n0 none=some n0 from rfl) (m:=c0) (mx:=none) (cap:=c0) rfl ol oh (mxv:=none) (by simp [OR]) c1 c2 (aR _) (.inl rfl) w;simp only [Instr.slice,bw,bK e1,br,hb,eI hn,bT];refine⟨_,rfl,?_⟩;simp only [VR,te];exact⟨trivial,_,_,_,rfl⟩
  ·simp at h
 ·simp at h
end
section
open Go.RowKit
variable {P:Program} {r:Ren}
theorem FR:∀ {cs:List LV} {rs:List UInt8} {us:List Value},dJ cs=some rs→VRs r cs us→∃ ns:List Int,us=ns.map (Value.int .u8)∧rs=ns.map fun n=>UInt8.ofNat n.toNat
 | [],rs,us,h,hv=>by simp [dJ] at h; subst h; simp only [VRs] at hv; subst hv; exact⟨[],rfl,rfl⟩
 | .int .u8 n::ls,rs,us,h,hv=>by
   simp only [dJ] at h;cases h1:dJ ls with
   | none=>simp [h1] at h
   | some q =>
     simp [h1] at h; subst h;simp only [VRs,VR] at hv;obtain⟨u,us',rfl,rfl,h3⟩:=hv;obtain⟨ns,rfl,rfl⟩:=FR h1 h3;exact⟨n::ns,rfl,rfl⟩
 | .bool _::ls,rs,us,h,hv=>by simp [dJ] at h
 | .str _::ls,rs,us,h,hv=>by simp [dJ] at h
 | .nilp::ls,rs,us,h,hv=>by simp [dJ] at h
 | .ptr _ _::ls,rs,us,h,hv=>by simp [dJ] at h
 | .gptr _ _::ls,rs,us,h,hv=>by simp [dJ] at h
 | .nils::ls,rs,us,h,hv=>by simp [dJ] at h
 | .sle::ls,rs,us,h,hv=>by simp [dJ] at h
 | .any::ls,rs,us,h,hv=>by simp [dJ] at h
 | .unb::ls,rs,us,h,hv=>by simp [dJ] at h
 | .val _::ls,rs,us,h,hv=>by simp [dJ] at h
 | .sln _::ls,rs,us,h,hv=>by simp [dJ] at h
 | .vp _ _::ls,rs,us,h,hv=>by simp [dJ] at h
 | .fact _::ls,rs,us,h,hv=>by simp [dJ] at h
 | .sl _ _ _ _::ls,rs,us,h,hv=>by simp [dJ] at h
 | .slo _ _ _ _::ls,rs,us,h,hv=>by simp [dJ] at h
 | .fn _ _::ls,rs,us,h,hv=>by simp [dJ] at h
 | .nilFunc::ls,rs,us,h,hv=>by simp [dJ] at h
 | .nilIface::ls,rs,us,h,hv=>by simp [dJ] at h
 | .iface _ _::ls,rs,us,h,hv=>by simp [dJ] at h
 | .agg _::ls,rs,us,h,hv=>by simp [dJ] at h
 | .tup _::ls,rs,us,h,hv=>by simp [dJ] at h
 | .int .i8 _::ls,rs,us,h,hv=>by simp [dJ] at h
 | .int .i16 _::ls,rs,us,h,hv=>by simp [dJ] at h
 | .int .i32 _::ls,rs,us,h,hv=>by simp [dJ] at h
 | .int .i64 _::ls,rs,us,h,hv=>by simp [dJ] at h
 | .int .u16 _::ls,rs,us,h,hv=>by simp [dJ] at h
 | .int .u32 _::ls,rs,us,h,hv=>by simp [dJ] at h
 | .int .u64 _::ls,rs,us,h,hv=>by simp [dJ] at h
theorem KS:∀ (l:List UInt8) (b:ByteArray),l.foldl (fun r n=>r.push n) b=⟨b.data++l.toArray⟩
 | [],b=>by simp
 | n::ns,b=>by
   rw [sA,KS ns]
   congr 1
   apply Array.ext';simp [ByteArray.push]
theorem Lq (ns:List Int):ns.foldl (fun r n=>r.push (UInt8.ofNat n.toNat)) ByteArray.empty=⟨(ns.map fun n=>UInt8.ofNat n.toNat).toArray⟩:=by
 have:=KS (ns.map fun n=>UInt8.ofNat n.toNat) ByteArray.empty;rw [List.foldl_map] at this;rw [this]
 congr 1
 apply Array.ext';rw [Array.toList_append];rfl
theorem KZ {e:TypeId} (h:kR P e=true):P.underlying e=some (.int .u8):=by
 unfold kR at h;split at h
 ·assumption
 ·cases h
theorem XU {W0:World} {s:St} {w:World} (hI:Inv W0 r s w) {src dst:TypeId} {x l:LV} {u:Value} (h:mS P s src dst x=some l) (hx:VR r x u) :
  ∃ v,(convert src dst u).run P w=.ok v w∧VR r l v:=by
 unfold mS at h;split at h
 ·rename_i d k k' n e1 e2;simp only [VR] at hx; subst hx;simp [tU] at h; subst h;refine⟨.int k (k.wrap n),?_,by simp [VR]⟩;simp only [convert,bw,bK e1,bK e2,br];cases d <;> rfl
 ·rename_i d t e1 e2;simp only [VR] at hx; subst hx;simp at h; subst h;refine⟨.string ⟨t.toArray⟩,?_,by simp [VR]⟩;simp only [convert,bw,bK e1,bK e2,br];cases d <;> rfl
 ·rename_i q1 q2 e e1 e2 n2;cases hU:kR P e with
  | false=>simp [hU] at h
  | true =>
    have he:=KZ hU;simp only [hU,aw] at h;split at h
    ·simp only [VR] at hx; subst hx;simp at h; subst h;refine⟨.string .empty,?_,by simp [VR]; rfl⟩;rw [run_convert_bytes_string w src dst e none 0 0 e1 he e2];simp [Conv.bytesToString]
    ·simp only [VR] at hx;simp at h; subst h;refine⟨.string .empty,?_,by simp [VR]; rfl⟩;rcases hx with rfl | ⟨a,rfl⟩
     ·rw [run_convert_bytes_string w src dst e none 0 0 e1 he e2];simp [Conv.bytesToString]
     ·have k3:(loadCells a 0).run P w=.ok #[] w:=run_loadCells_list (P:=P) w a [] (fun j v hj=>by simp at hj);rw [run_convert_bytes_string w src dst e _ _ _ e1 he e2,run_bytesToString w _ _ _ [] k3]; rfl
    ·rename_i b o len cap;simp only [VR] at hx;obtain⟨B,q,c,hr,rfl⟩:=hx;simp only [iX] at h;cases hb:s.look b with
     | none=>simp [hb] at h
     | some cs =>
       simp only [hb,cU] at h;cases hc:cut cs o len with
       | none=>simp [hc] at h
       | some cc =>
         simp only [hc] at h;cases hy:dJ cc with
         | none=>simp [hy] at h
         | some rs =>
           simp [hy] at h; subst h;obtain⟨us,k1,k2,k3⟩:=hI.loadCells (P:=P) hb hr hc;obtain⟨ns,rfl,rfl⟩:=FR hy k1;rw [run_convert_bytes_string w src dst e _ _ _ e1 he e2,run_bytesToString w _ _ _ ns k3,Lq];exact⟨_,rfl,by simp [VR]⟩
    ·rename_i b o len d;simp only [VR] at hx;simp only [iX] at h;cases hb:s.look b with
     | none=>simp [hb] at h
     | some cs =>
       simp only [hb,cU] at h;cases hc:cut cs o len with
       | none=>simp [hc] at h
       | some cc =>
         simp only [hc] at h;cases hy:dJ cc with
         | none=>simp [hy] at h
         | some rs =>
           simp [hy] at h; subst h;rcases hx with⟨B,q,c,hr,hle,rfl⟩ | ⟨rfl,hx⟩
           ·obtain⟨us,k1,k2,k3⟩:=hI.loadCells (P:=P) hb hr hc;obtain⟨ns,rfl,rfl⟩:=FR hy k1;rw [run_convert_bytes_string w src dst e _ _ _ e1 he e2,run_bytesToString w _ _ _ ns k3,Lq];exact⟨_,rfl,by simp [VR]⟩
           ·have:cc=[]:=fY.1 (kB _ _ _ _ hc).1;subst this;simp [dJ] at hy; subst hy;refine⟨.string .empty,?_,by simp [VR]; rfl⟩;rcases hx with rfl | ⟨a,rfl⟩
            ·rw [run_convert_bytes_string w src dst e none 0 0 e1 he e2];simp [Conv.bytesToString]
            ·have k3:(loadCells a 0).run P w=.ok #[] w:=run_loadCells_list (P:=P) w a [] (fun j v hj=>by simp at hj);rw [run_convert_bytes_string w src dst e _ _ _ e1 he e2,run_bytesToString w _ _ _ [] k3]; rfl
    ·simp at h
 ·simp at h
theorem Mb:∀ {cs:List LV} {rs:List Int} {us:List Value},py cs=some rs→VRs r cs us→us=rs.map (Value.int .i32)
 | [],rs,us,h,hv=>by simp [py] at h; subst h; simp only [VRs] at hv; subst hv; rfl
 | l::ls,rs,us,h,hv=>by
   unfold py at h;split at h
   ·rename_i e; cases e
   ·rename_i n ls' e;simp only [iJ] at e;obtain⟨rfl,rfl⟩:=e;cases h1:py ls with
    | none=>simp [h1] at h
    | some q =>
      simp [h1] at h; subst h;simp only [VRs,VR] at hv;obtain⟨u,us',rfl,rfl,h3⟩:=hv;rw [Mb h1 h3]; rfl
   ·cases h
theorem Fw {e:TypeId} (h:n8 P e=true):P.underlying e=some (.int .i32):=by
 unfold n8 at h;split at h
 ·assumption
 ·cases h
theorem Kb:∀ (ns:List Int) (b:ByteArray),ns.foldl (fun s n=>s++Utf8.encode n) b=⟨b.data++(gY ns).toArray⟩
 | [],b=>by simp [gY]
 | n::ns,b=>by
   rw [sA,Kb ns]
   congr 1
   apply Array.ext';simp [gY]
theorem XW {w:World} (f:Value→ByteArray→Sem (ForInStep ByteArray))
  (hf:∀ (n:Int) (r:ByteArray),(f (.int .i32 n) r).run P w=.ok (.yield (r++Utf8.encode n)) w) :
  ∀ (ns:List Int) (s:ByteArray),(forIn (ns.map (Value.int .i32)) s f).run P w=.ok (ns.foldl (fun r n=>r++Utf8.encode n) s) w:=by
 intro ns
 induction ns with
 | nil=>intro s; simp [bT]
 | cons n ns ih =>
   intro s;simp only [lp,List.forIn_cons,bw,hf,Result.andThen,sA];exact ih _
theorem Mj (w:World) (a:Addr) (len cap:Nat) (ns:List Int) (h:(loadCells a len).run P w=.ok (ns.map (Value.int .i32)).toArray w) :
  (Conv.runesToString (.slice (some a) len cap)).run P w=.ok (.string ⟨(gY ns).toArray⟩) w:=by
 unfold Conv.runesToString;simp only [bw,h,Result.andThen,List.forIn_toArray];rw [XW _ (by intro n r; simp [bT]),Kb];simp [bT]
theorem Xh {W0:World} {s:St} {w:World} (hI:Inv W0 r s w) {src dst:TypeId} {x l:LV} {u:Value} (h:xx P s src dst x=some l) (hx:VR r x u) :
  ∃ v,(convert src dst u).run P w=.ok v w∧VR r l v:=by
 unfold xx at h;split at h
 ·rename_i e b o len cap e1 e2;cases hU:n8 P e with
  | false=>simp [hU] at h
  | true =>
    have he:=Fw hU;simp only [hU,aw] at h;cases hc:iX s 1 (.slo b o len cap) with
    | none=>simp [hc] at h
    | some cc =>
      simp only [hc] at h;cases hy:py cc with
      | none=>simp [hy] at h
      | some rs =>
        simp [hy] at h; subst h;simp only [iX] at hc;cases hb:s.look b with
        | none=>simp [hb] at hc
        | some cs =>
          simp only [hb,cU] at hc;simp only [VR] at hx;have hconv:∀ X:Value,(∃ q m k,X=.slice q m k)→(convert src dst X).run P w=(Conv.runesToString X).run P w:=by
           rintro X ⟨q,m,k,rfl⟩
           simp only [convert,bw,bK e1,bK e2,bK he,br]
          rcases hx with⟨B,q,c,hr,hle,rfl⟩ | ⟨rfl,hx⟩
          ·obtain⟨us,k1,k2,k3⟩:=hI.loadCells (P:=P) hb hr hc;have:=Mb hy k1;subst this;refine⟨_,?_,by simp [VR]; rfl⟩;rw [hconv _ ⟨_,_,_,rfl⟩];exact Mj w _ _ _ rs k3
          ·have:cc=[]:=fY.1 (kB _ _ _ _ hc).1;subst this;simp [py] at hy; subst hy;refine⟨.string .empty,?_,by simp [VR,gY]; rfl⟩;rcases hx with rfl | ⟨a,rfl⟩
           ·rw [hconv _ ⟨_,_,_,rfl⟩];simp [Conv.runesToString]
           ·have k3:(loadCells a 0).run P w=.ok #[] w:=run_loadCells_list (P:=P) w a [] (fun j v hj=>by simp at hj);rw [hconv _ ⟨_,_,_,rfl⟩];exact Mj w _ _ _ [] k3
 ·cases h
theorem XT {W0:World} {s:St} {w:World} (hI:Inv W0 r s w) {src dst:TypeId} {x l:LV} {u:Value} (h:oB P s src dst x=some l) (hx:VR r x u) :
  ∃ v,(convert src dst u).run P w=.ok v w∧VR r l v:=by
 unfold oB at h;split at h
 ·rename_i l' e;simp at h; subst h;exact XU hI e hx
 ·exact Xh hI h hx
theorem XN {x l:LV} {xt asserted:TypeId} {ok:Bool} {u:Value} (h:Ey P x asserted ok=some l) (hx:VR r x u) (w:World) :
  ∃ v,(Instr.typeAssert u xt asserted ok).run P w=.ok v w∧VR r l v:=by
 have holds:∀ {a:LV} {v:Value},VR r a v→VR r (cond ok (.tup [a,.bool true]) a) (if ok=true then .tuple #[v,.bool true] else v):=by
  intro a v hv;cases ok with
  | true=>simp only [aw,eR,VR]; exact⟨[v,.bool true],rfl,by simp [VRs,VR,hv]⟩
  | false=>simpa using hv
 have fails:∀ {m:LV},(cond ok (match mO P asserted with
   | some z=>(match ow z with | some l=>some (LV.tup [l,.bool false]) | none=>none)
   | none=>none) none)=some m→ok=true∧∃ z,(∀ w,(zeroValue asserted).run P w=.ok z w)∧VR r m (.tuple #[z,.bool false]):=by
  intro m hm;cases ok with
  | false=>simp at hm
  | true =>
    simp only [aw] at hm;cases hz:mO P asserted with
    | none=>simp [hz] at hm
    | some z =>
      cases hc:ow z with
      | none=>simp [hz,hc] at hm
      | some a =>
        simp [hz,hc] at hm; subst hm;refine⟨rfl,z,fun w=>A2 hz w,?_⟩;simp only [VR];exact⟨[z,.bool false],rfl,by simp [VRs,VR,A7 hc]⟩
 unfold Ey at h;simp only at h;split at h
 ·rename_i ms e1;simp only [VR] at hx; subst hx;obtain⟨rfl,z,hz,hv⟩:=fails h;refine⟨_,?_,hv⟩;simp only [Instr.typeAssert,bw,bK e1,br,eR,hz,bT]
 ·rename_i want t v e1;simp only [VR] at hx;obtain⟨u',rfl,hv⟩:=hx;cases hi:P.info? t with
  | none=>simp [hi] at h
  | some i =>
    simp only [hi] at h;cases hm:Instr.missingMethod want i.methods with
    | none =>
      simp only [hm,a8] at h; subst h;refine⟨_,?_,holds (a:=.iface t v) (v:=.iface t u') (by simp [VR,hv])⟩;simp only [Instr.typeAssert,bw,bK e1,br,yv hi,hm,bT]
    | some m =>
      simp only [hm] at h;obtain⟨rfl,z,hz,hv⟩:=fails h;refine⟨_,?_,hv⟩;simp only [Instr.typeAssert,bw,bK e1,br,yv hi,hm,bT,eR,hz]
 ·rename_i d n1 e1;simp only [VR] at hx; subst hx;obtain⟨rfl,z,hz,hv⟩:=fails h;refine⟨_,?_,hv⟩;simp only [Instr.typeAssert,bw,bK e1,br];cases d <;> simp only [eR,bw,hz,br,bT] <;> first | rfl | (exact absurd rfl (n1 _))
 ·rename_i d t v n1 e1;simp only [VR] at hx;obtain⟨u',rfl,hv⟩:=hx;by_cases ht:t=asserted
  ·subst ht;simp only [b7,bD,aw,a8] at h; subst h;refine⟨_,?_,holds hv⟩;simp only [Instr.typeAssert,bw,bK e1,br];cases d <;> simp only [eR,bT] <;> first | rfl | (exact absurd rfl (n1 _))
  ·simp only [b7,ht,fX,aD] at h;obtain⟨rfl,z,hz,hv⟩:=fails h;refine⟨_,?_,hv⟩;simp only [Instr.typeAssert,bw,bK e1,br];cases d <;> simp only [ht,dn,eR,bw,hz,br,bT] <;> first | rfl | (exact absurd rfl (n1 _))
 ·simp at h
theorem WW {ts:List TypeId} {t0:TypeId} {x l:LV} {u:Value} (h:th P ts x=some l) (hx:VR r x u) (w:World) :
  ∃ v,(Builtin.len_ ts.toArray t0 #[u]).run P w=.ok v w∧VR r l v:=by
 unfold th at h;split at h
 ·rename_i t ts;split at h
  ·rename_i s e1;simp only [VR] at hx; subst hx; simp at h; subst h;refine⟨_,?_,by simp only [VR]; rfl⟩;simp [Builtin.len_,bK e1,goInt]; rfl
  ·rename_i e e1;simp only [VR] at hx; subst hx; simp at h; subst h;exact⟨_,by simp [Builtin.len_,bK e1,goInt]; rfl,by simp only [VR]⟩
  ·rename_i e e1;simp only [VR] at hx; simp at h; subst h;rcases hx with rfl | ⟨a,rfl⟩
   iterate 2
    ·exact⟨_,by simp [Builtin.len_,bK e1,goInt]; rfl,by simp only [VR]⟩
  ·rename_i e b o n c e1;simp only [VR] at hx; obtain⟨B,q,k,hr,rfl⟩:=hx; simp at h; subst h;exact⟨_,by simp [Builtin.len_,bK e1,goInt]; rfl,by simp only [VR]⟩
  ·rename_i e b o n c e1;simp only [VR] at hx; simp at h; subst h;rcases hx with⟨B,q,k,hr,_,rfl⟩ | ⟨rfl,rfl | ⟨a,rfl⟩⟩
   ·exact⟨_,by simp [Builtin.len_,bK e1,goInt]; rfl,by simp only [VR]⟩
   iterate 2
    ·exact⟨_,by simp [Builtin.len_,bK e1,goInt]; rfl,by simp only [VR]; rfl⟩
  ·rename_i e n e1;simp only [VR] at hx; obtain⟨a,c,rfl⟩:=hx; simp at h; subst h;exact⟨_,by simp [Builtin.len_,bK e1,goInt]; rfl,by simp only [VR]⟩
  ·rename_i e x e1;simp only [VR] at hx; obtain⟨rfl,a,n,c,rfl⟩:=hx; simp at h; subst h;exact⟨_,by simp [Builtin.len_,bK e1,goInt]; rfl,by simp only [VR,Di]⟩
  ·rename_i n e x' e1;simp at h; subst h;exact⟨_,by simp [Builtin.len_,bK e1,goInt]; rfl,by simp only [VR]⟩
  ·simp at h
 ·simp at h
theorem HU (a b:Int):(if a≤b then a else b)=if b < a then b else a:=by split <;> split <;> omega
theorem HV (a b:Int):(if a≤b then b else a)=if b > a then b else a:=by split <;> split <;> omega
theorem FU {mx:Bool}:∀ {ls:List LV} {x l:LV} {u:Value} {us:List Value},ov mx x ls=some l→VR r x u→VRs r ls us→∀ w,
  ∃ v,(us.foldlM (if mx then Builtin.max2 else Builtin.min2) u:Sem Value).run P w=.ok v w∧VR r l v
 | [],x,l,u,us,h,hx,hv,w=>by
   simp only [VRs] at hv; subst hv;have:x=l:=by cases x <;> simpa [ov] using h
   subst this;exact⟨u,by simp,hx⟩
 | y::ls,x,l,u,us,h,hx,hv,w=>by
   simp only [VRs] at hv;obtain⟨u2,us',rfl,h2,h3⟩:=hv;cases x <;> cases y <;> simp only [ov] at h <;> try (cases h; done)
   rename_i k a k' b;rw [HV,HU] at h;simp only [VR] at hx h2; subst hx h2;obtain⟨v,q1,q2⟩:=FU (mx:=mx) h (u:=.int k (cond mx (if b > a then b else a) (if b < a then b else a))) (by simp [VR]) h3 w;refine⟨v,?_,q2⟩;rw [← q1];cases mx <;> simp [List.foldlM_cons,Builtin.min2,Builtin.max2]
end
end Go.Lev
