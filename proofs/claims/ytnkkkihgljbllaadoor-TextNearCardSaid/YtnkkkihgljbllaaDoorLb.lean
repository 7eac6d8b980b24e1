import Derived.Test.YtnkkkihgljbllaaDoorLa
import Derived.Deep.LoopGhost
namespace Go.Lev
set_option linter.unusedSimpArgs false
set_option linter.unusedVariables false
section
open Go.RowKit
variable {P:Program} {r:Ren}
theorem WY {W0:World} {s:St} {w:World} (hI:Inv W0 r s w) {ev:Operand→Option LV} {ρ : Operand→Value} (hev:∀ x l,ev x=some l→VR r l (ρ x)) {o:Oper} {l:LV}
  (h:fH P ev o.op s=some l) (hL:bm o.op=true):∃ v,(execOp ρ o).run P w=.ok (.value v) w∧VR r l v:=by
 obtain⟨dst,op,type,pos,after,guard⟩:=o;simp only at h hL;cases op <;> simp only [bm] at hL <;> (try (cases hL; done)) <;> simp only [fH] at h <;> simp only [execOp]
 case move x=>exact⟨_,rfl,hev _ _ h⟩
 case assign x=>exact⟨_,rfl,hev _ _ h⟩
 case pick c a b =>
  split at h
  ·rename_i hc;have:=hev _ _ hc;simp only [VR] at this;exact⟨ρ a,by simp [this,asBool],hev _ _ h⟩
  ·rename_i hc;have:=hev _ _ hc;simp only [VR] at this;exact⟨ρ b,by simp [this,asBool],hev _ _ h⟩
  ·simp at h
 case build t parts =>
  cases hp:lO ev parts.toList with
  | none=>simp [hp] at h
  | some ps =>
    simp only [hp] at h;obtain⟨v,k1,k2⟩:=Xq h (A4 hev hp) w;refine⟨v,?_,k2⟩;have:(parts.map fun(i,x)=>(i,ρ x))=(parts.toList.map fun(i,x)=>(i,ρ x)).toArray:=by
     apply Array.ext'; simp
    rw [this];simp [k1]
 case load t a =>
  split at h
  ·rename_i b o hc;obtain⟨v,k1,k2⟩:=LI (P:=P) hI h (hev _ _ hc);exact⟨v,by simp [k1],k2⟩
  ·rename_i g o hc;obtain⟨v,k1,k2⟩:=Xu (P:=P) hI h (hev _ _ hc);exact⟨v,by simp [k1],k2⟩
  ·rename_i x k hc;obtain⟨v,k1,k2⟩:=XC (P:=P) hI h (hev _ _ hc);exact⟨v,by simp [k1],k2⟩
  ·simp at h
 case nilCheck x =>
  split at h
  ·rename_i a hc;have hx:=hev _ _ hc;generalize ρ x=u at hx ⊢;unfold Hj at h;cases a <;> simp at h <;> subst h <;> simp only [VR] at hx
   all_goals first
    | (subst hx; exact⟨_,rfl,by simp [VR]⟩)
    | (rcases hx with rfl | ⟨a,rfl⟩; exact⟨_,rfl,.inl rfl⟩; exact⟨_,rfl,.inr ⟨a,rfl⟩⟩)
    | (rcases hx with⟨B,q,c,hr,hle,rfl⟩ | ⟨h0,rfl | ⟨a,rfl⟩⟩; exact⟨_,rfl,by simp only [VR]; exact .inl ⟨B,q,c,hr,hle,rfl⟩⟩; exact⟨_,rfl,by simp only [VR]; exact .inr ⟨h0,.inl rfl⟩⟩; exact⟨_,rfl,by simp only [VR]; exact .inr ⟨h0,.inr ⟨a,rfl⟩⟩⟩)
    | (obtain⟨B,q,c,hr,rfl⟩:=hx; exact⟨_,rfl,by simp only [VR]; exact⟨B,q,c,hr,rfl⟩⟩)
    | (obtain⟨us,rfl,hv⟩:=hx; exact⟨_,rfl,by simp only [VR]; exact⟨_,rfl,hv⟩⟩)
    | (obtain⟨B,o,n,c,rfl,rfl⟩:=hx; exact⟨_,rfl,by simp only [VR]; exact⟨B,o,n,c,rfl,rfl⟩⟩)
    | (obtain⟨a,c,e⟩:=hx; subst e; exact⟨_,rfl,by simp only [VR]; exact⟨_,_,rfl⟩⟩)
  ·simp at h
 case binOp op t x y yt =>
  split at h
  ·rename_i a b h1 h2;obtain⟨v,k1,k2⟩:=WU (x:=x) (y:=y) h (hev _ _ h1) (hev _ _ h2) w;exact⟨v,by rw [bw,k1]; rfl,k2⟩
  ·simp at h
 case unOp op t x =>
  split at h
  ·rename_i a h1;obtain⟨v,k1,k2⟩:=Wy (P:=P) h (hev _ _ h1) w;exact⟨v,by simp [k1],k2⟩
  ·simp at h
 case makeInterface t x =>
  split at h
  ·rename_i d v h1 h2;have hv:=hev _ _ h2;cases d <;> simp at h <;> subst h <;> exact⟨.iface t (ρ x),by simp [Instr.makeInterface,bK h1],by simp only [VR]; exact⟨_,rfl,hv⟩⟩
  ·simp at h
 case makeFunc fn first captured =>
  split at h
  ·rename_i f caps h1 h2;simp at h; subst h;have hf:first=#[]:=by cases first; simp_all
   subst hf;refine⟨.func (.func f) #[] (captured.map ρ),by simp [Instr.makeFunc],?_⟩;simp only [VR];exact⟨captured.toList.map ρ,by congr 1; apply Array.ext'; simp,vV hev h2⟩
  ·simp at h
 case slice t x lo hi mx =>
  split at h
  ·rename_i v l' h' m' h1 h2 h3 h4;obtain⟨v,k1,k2⟩:=XA h (hev _ _ h1) (E7 hev h2) (E7 hev h3) (E7 hev h4) w;exact⟨v,by simp [k1],k2⟩
  ·simp at h
 case fieldAddr t x f =>
  split at h
  ·rename_i v h1;obtain⟨v,k1,k2⟩:=XY h (hev _ _ h1) w;exact⟨v,by simp [k1],k2⟩
  ·simp at h
 case field t x f =>
  split at h
  ·rename_i v h1;obtain⟨v,k1,k2⟩:=Xs h (hev _ _ h1) w;exact⟨v,by simp [k1],k2⟩
  ·simp at h
 case indexAddr t x i =>
  split at h
  ·rename_i a b h1 h2;obtain⟨v,k1,k2⟩:=XZ h (hev _ _ h1) (hev _ _ h2) w;exact⟨v,by simp [k1],k2⟩
  ·simp at h
 case index t x i =>
  split at h
  ·rename_i a b h1 h2;obtain⟨v,k1,k2⟩:=Xx h (hev _ _ h1) (hev _ _ h2) w;exact⟨v,by simp [k1],k2⟩
  ·simp at h
 case typeAssert x xt asserted ok =>
  split at h
  ·rename_i a h1;obtain⟨v,k1,k2⟩:=XN (xt:=xt) h (hev _ _ h1) w;exact⟨v,by simp [k1],k2⟩
  ·simp at h
 case extract t i =>
  split at h
  ·rename_i vs h1;have hv:=hev _ _ h1;simp only [VR] at hv;obtain⟨us,e,hv⟩:=hv;rw [pt] at h;obtain⟨u,k1,k2⟩:=hv.get h;exact⟨u,by simp [Instr.extract,e,k1],k2⟩
  ·simp at h
 case call c =>
  obtain⟨callee,args,argTypes⟩:=c;simp only at h hL;split at h
  ·rename_i x h2;have hv:=vV hev h2;simp only [VRs] at hv;obtain⟨u,us,e,hv,rfl⟩:=hv;obtain⟨v,k1,k2⟩:=WW (t0:=type) h hv w;refine⟨v,?_,k2⟩;have ea:args.map ρ = #[u]:=by apply Array.ext'; simpa using e
   simp only [resolve,ea,invoke,builtin,pure_bind,bw];simp only [sy] at k1;simp [k1]
  ·rename_i x xs h2;have hv:=vV hev h2;simp only [VRs] at hv;obtain⟨u,us,e,hv,hv'⟩:=hv;obtain⟨v,k1,k2⟩:=FU (P:=P) (mx:=false) h hv hv' w;refine⟨v,?_,k2⟩;have ea:args.map ρ = (u::us).toArray:=by apply Array.ext'; simpa using e
   simp only [gd,dn] at k1;simp [resolve,ea,invoke,builtin,Builtin.min_,k1]
  ·rename_i x xs h2;have hv:=vV hev h2;simp only [VRs] at hv;obtain⟨u,us,e,hv,hv'⟩:=hv;obtain⟨v,k1,k2⟩:=FU (P:=P) (mx:=true) h hv hv' w;refine⟨v,?_,k2⟩;have ea:args.map ρ = (u::us).toArray:=by apply Array.ext'; simpa using e
   simp only [eR] at k1;simp [resolve,ea,invoke,builtin,Builtin.max_,k1]
  ·simp at h
theorem A8:∀ (n:Nat) (z:List LV),(gQ n z).length=n * z.length
 | 0,z=>by simp [gQ]
 | n+1,z=>by simp [gQ,A8 n z,pI]; omega
theorem Jt:∀ (n:Nat) (z:List LV) (i:Nat),i < n * z.length→(gQ n z)[i]? = z[i % z.length]?
 | 0,z,i,h=>by simp at h
 | n+1,z,i,h=>by
   rw [pI] at h;simp only [gQ];by_cases hi:i < z.length
   ·rw [iY hi,Nat.mod_eq_of_lt hi]
   ·rw [kb aI,Jt n z _ aI];have:i % z.length=(i - z.length) % z.length:=by
     rw [← Nat.mod_eq_sub_mod aI]
    rw [this]
theorem yu (n:Nat) {z:List LV} (h:∀ c∈z,c.plain=true):∀ c∈gQ n z,c.plain=true:=by
 induction n with
 | zero=>simp [gQ]
 | succ n ih=>intro c hc; simp only [gQ,gz] at hc; rcases hc with hc | hc; exact h c hc; exact ih c hc
theorem AB {z:Array Value} {zs:List LV} (hz:VRs r zs z.toList) (n:Nat) :
  VRs r (gQ n zs) ((Array.range (n * zs.length)).map (fun i=>z[i % z.size]!)).toList:=by
 have hl:z.size=zs.length:=by have:=hz.length; simpa using this
 refine VRs.mk (by simp [A8]) fun i l hi=>?_
 have hlt:i < n * zs.length:=by rw [← A8]; exact(bU.1 hi).1
 rw [Jt n zs i hlt] at hi;obtain⟨u,k1,k2⟩:=hz.get hi;refine⟨u,?_,k2⟩;have hm:i % z.size < z.size:=Nat.mod_lt _ (by rw [hl]; rcases Nat.eq_zero_or_pos zs.length with e | e; rw [e] at hlt; simp at hlt; exact e);rw [← hl] at k1;simp [hlt];simpa [hm] using k1
theorem VRs.all_one {cs:List LV} {us:List Value} (h:VRs r cs us) (hp:∀ c∈cs,c.plain=true):∀ v∈us,v.oneCell'=true:=by
 intro v hv;obtain⟨i,hi,rfl⟩:=pJ hv;have hl:=h.length;obtain⟨u,g1,g2⟩:=h.get (cq (show i < cs.length by omega));rw [cq hi] at g1; cases g1;exact g2.one (hp _ (iw _))
theorem Inv.newCells {W0:World} {s s':St} {w:World} (hI:Inv W0 r s w) {cs:List LV} {us:List Value} {op:Option Nat} {c:Array Value} {e:TypeId} {f:Nat×Nat} {k:Nat}
  (hs:s.new (.cells cs op)=some s') (hv:VRs r cs us) (hp:∀ l∈cs,l.plain=true) (hc:∀ (i:Nat) (u:Value),us[i]? = some u→c[i]? = some u)
  (hf:∀ i,i < dv cs op k→¬ (f.1≤i∧i < f.2)) (hr:dv cs op k≤c.size) (h1:∀ v∈c.toList,v.oneCell'=true) (hfit:cs.length≤dv cs op k) :
  Inv W0 (r.put s.n (w.heap.size,0,k)) s' { w with heap:=w.heap.push (.cells c e f) }∧Ext r s w (r.put s.n (w.heap.size,0,k)) s' { w with heap:=w.heap.push (.cells c e f) }:=by
 refine hI.new hs _ k (fun ds op' he=>?_) (fun t p he=>by cases he) (fun cs he=>by cases he) (fun F cs g he=>by cases he);cases he;refine⟨⟨c,e,f.1,f.2,by simp,fun i l hi=>⟨hp _ (fS hi),?_⟩,by simpa using hf,by simpa using hr,h1⟩,hfit⟩;obtain⟨u,k1,k2⟩:=hv.get hi;exact⟨u,by simpa using hc i u k1,k2.mono (Ren.i3m hI _)⟩
theorem Lr {W0:World} {s s':St} {w:World} (hI:Inv W0 r s w) {l p:LV} {v:Value} {t:TypeId} (h:sY s l=some (p,s')) (hv:VR r l v) :
  ∃ r' w' a,Inv W0 r' s' w'∧Ext r s w r' s' w'∧(newVar t v).run P w=.ok a w'∧VR r' p (.pointer (some a)):=by
 unfold sY at h;cases hc:l.cells with
 | none=>simp [hc] at h
 | some cs =>
   simp only [hc] at h;cases hs:s.new (.cells cs none) with
   | none=>simp [hs] at h
   | some s1 =>
     simp [hs] at h;obtain⟨rfl,rfl⟩:=h;obtain⟨g1,g2⟩:=LV.i3r hc hv;have hl:=g2.length;have:=hI.newCells (c:=v.cells) (e:=t) (f:=(0,0)) (k:=0) hs g2 g1 (fun i u hu=>by simpa using hu) (fun i hi=>by simp) (by simp [dv]; simp at hl; omega) (g2.all_one g1) (by simp [dv]);refine⟨_,_,⟨w.heap.size,0,none⟩,this.1,this.2,by simp [newVar,newRow],?_⟩;simp only [VR];exact⟨_,0,0,by simp [Ren.put],rfl⟩
theorem XB {W0:World} {s s':St} {w:World} (hI:Inv W0 r s w) {t:TypeId} {b o:Nat} {l:LV} {u v:Value} (h:vm P s t b o l=some s') (hu:VR r (.ptr b o) u) (hv:VR r l v) :
  ∃ w',(Instr.storeAt t u v).run P w=.ok () w'∧Inv W0 r s' w'∧Ext r s w r s' w':=by
 unfold vm at h;split at h
 ·rename_i cs op vs n h1 h2 h3;by_cases hn:vs.length=n
  ·simp only [b7,hn,bD,aw] at h;cases hl:lay cs o vs with
   | none=>simp [hl] at h
   | some cs' =>
     simp only [hl] at h;simp only [VR] at hu;obtain⟨B,q,c,hr,rfl⟩:=hu;obtain⟨g1,g2⟩:=LV.i3r h2 hv;have hlen:=g2.length;obtain⟨w',k1,k2,k3⟩:=hI.storeCells (P:=P) h1 hr hl g1 g2 h;refine⟨w',?_,k2,k3⟩;simp only [Instr.storeAt,Instr.sureAddr,bw,bT,br,storeVar,eI h3];rw [av (by simp at hlen; omega)];simp [k1]
  ·simp [b7,hn] at h
 ·simp at h
theorem LH {size:Nat}:∀ (ps:List (Nat×LV)) (a b:List LV),kz (fun i=>some (i * size,size)) a ps=some b→(∀ c∈a,c.plain=true)→∀ c∈b,c.plain=true:=by
 intro ps
 induction ps with
 | nil=>intro a b hab ha; simp [kz] at hab; subst hab; exact ha
 | cons p ps ih =>
   obtain⟨i,v⟩:=p;intro a b hab ha;simp only [kz] at hab;cases hv:v.cells with
   | none=>simp [hv] at hab
   | some d =>
     cases d with
     | nil=>simp [hv] at hab
     | cons d0 d =>
       simp only [hv] at hab;cases hb:Nat.beq (d.length+1) size with
       | false=>simp [hb] at hab
       | true =>
         simp only [hb,aw] at hab;cases hl:lay a (i * size) (d0::d) with
         | none=>simp [hl] at hab
         | some a' =>
           simp only [hl] at hab;refine ih a' b hab fun c hc=>?_
           obtain⟨j,hj,rfl⟩:=pJ hc;obtain⟨q1,q2,q3⟩:=rP _ _ _ _ hl;have:=q3 j;rw [cq hj] at this;split at this
           ·have hm:=fS this.symm;cases v with
            | agg es =>
              simp only [LV.cells] at hv;cases he:tR es with
              | false=>simp [he] at hv
              | true=>simp [he] at hv; subst hv; exact Bc he _ hm
            | tup es=>simp [LV.cells] at hv
            | any=>simp [LV.cells] at hv
            | _=>simp [LV.cells] at hv; obtain⟨rfl,rfl⟩:=hv; simp at hm; rw [hm]; rfl
           ·exact ha _ (fS this.symm)
theorem X5 {W0:World} {s s':St} {w:World} (hI:Inv W0 r s w) {t:TypeId} {len:Nat} {ps:List (Nat×LV)} {qs:List (Nat×Value)} {l:LV} (h:v5 P s t len ps=some (l,s')) (hq:PR r ps qs) :
  ∃ r' w' v,Inv W0 r' s' w'∧Ext r s w r' s' w'∧(Instr.buildSlice t len qs.toArray).run P w=.ok v w'∧VR r' l v:=by
 unfold v5 at h;split at h
 ·rename_i elem hu;split at h
  ·rename_i size zero hs hz;obtain⟨z,z1,z2,z3⟩:=qN (r:=r) hz;have hzl:=z3.length;by_cases hc:zero.length=size∧1≤size∧len * size≤100000
   ·obtain⟨c1,c2,c3⟩:=hc;have:(Nat.beq zero.length size && Nat.ble 1 size && Nat.ble (len * size) 100000)=true:=by
     simp [b7,c1,dh c2,dh c3]
    simp only [this,aw] at h;cases hf:kz (fun i=>some (i * size,size)) (gQ len zero) ps with
    | none=>simp [hf] at h
    | some cs =>
      simp only [hf] at h;cases hn:s.new (.cells cs none) with
      | none=>simp [hn] at h
      | some s1 =>
        simp [hn] at h;obtain⟨rfl,rfl⟩:=h;have hrep:=AB (r:=r) (z:=z.cells) z3 len;obtain⟨vs,k1,k2⟩:=yD (place':=fun i=>some (i * size,size)) (fun i x hx=>hx) hf hq hrep;have hplain:=LH ps _ _ hf (yu len z2);have hl2:=k2.length;have:=hI.newCells (c:=vs.toArray) (e:=elem) (f:=(0,0)) (k:=0) hn k2 hplain (fun i u hu=>by simpa using hu) (fun i hi=>by simp) (by simp [dv]; omega) (by simpa using k2.all_one hplain) (by simp [dv]);refine⟨_,_,.slice (some ⟨w.heap.size,0,none⟩) len len,this.1,this.2,?_,?_⟩
        ·simp only [Instr.buildSlice,bw,bK hu,br,eI hs];rw [av aI];simp only [sy,c1] at k1;by_cases e0:len * size=0
         ·simp only [e0,eR,bw,bT,br];simp only [e0] at k1;have he:∀ f g:Nat→Value,Array.map f (Array.range 0)=Array.map g (Array.range 0):=fun f g=>by simp
          rw [he _ (fun i=>z.cells[i % z.cells.size]!),k1];simp [newRow]
         ·simp only [e0,dn,bw,z1,bT,br];simp only [k1];simp [newRow]
        ·simp only [VR];exact⟨_,0,0,by simp [Ren.put],rfl⟩
   ·have:(Nat.beq zero.length size && Nat.ble 1 size && Nat.ble (len * size) 100000)=false:=by
     rw [qQ];intro ht;simp only [bg,b7,cu] at ht;exact hc ⟨ht.1.1,aS ht.1.2,aS ht.2⟩
    simp [this] at h
  ·simp at h
 ·simp at h
end
section
open Go.RowKit
variable {P:Program} {r:Ren}
theorem A9 {n:Nat} (h:n < 2 ^ 62):IntKind.i64.wrap (n:Int)=n:=by
 have h1:((n:Int) % (2 ^ 64:Int))=n:=t8 aI aI;simp only [IntKind.wrap,IntKind.bits,IntKind.signed,h1];rw [av (by simp; omega)]
theorem X0 {W0:World} {s s':St} {w:World} (hI:Inv W0 r s w) {t:TypeId} {a b l:LV} {u v:Value} (h:sf P s t a b=some (l,s')) (ha:VR r a u) (hb:VR r b v) :
  ∃ r' w' q,Inv W0 r' s' w'∧Ext r s w r' s' w'∧(Instr.makeSlice t u v).run P w=.ok q w'∧VR r' l q:=by
 unfold sf at h;split at h
 ·rename_i elem k len k' cap hu;simp only [VR] at ha hb;subst ha hb;split at h
  ·rename_i size zero bytes hs hz hby;obtain⟨z,z1,z2,z3⟩:=qN (r:=r) hz;have hzl:=z3.length;obtain⟨inf,i1,i2⟩:=Lz hby w;by_cases hc:zero.length=size∧1≤size∧len≤cap∧cap≤100000∧bytes≤100000
   ·obtain⟨c1,c2,c3,c4,c5⟩:=hc;have:(Nat.beq zero.length size && Nat.ble 1 size && Nat.ble len cap && Nat.ble cap 100000 && Nat.ble bytes 100000)=true:=by
     simp [b7,c1,dh c2,dh c3,dh c4,dh c5]
    simp only [this,aw] at h;cases hn:s.new (.cells (gQ cap zero) none) with
    | none=>simp [hn] at h
    | some s1 =>
      simp [hn] at h;obtain⟨rfl,rfl⟩:=h;have hrep:=AB (r:=r) (z:=z.cells) z3 cap;have hl2:=hrep.length;have:=hI.newCells (c:=(Array.range (cap * zero.length)).map (fun i=>z.cells[i % z.cells.size]!)) (e:=elem) (f:=(0,0)) (k:=0) hn hrep (yu cap z2) (fun i u hu=>by rw [Array.getElem?_toList] at hu; exact hu) (fun i hi=>by simp) (by simp [dv,A8]) (hrep.all_one (yu cap z2)) (by simp [dv]);refine⟨_,_,.slice (some ⟨w.heap.size,0,none⟩) len cap,this.1,this.2,?_,?_⟩
      ·have hbc:(bytes:Int) * (cap:Int)≤100000 * 100000:=by
        have:=Nat.mul_le_mul c5 c4;have h2:((bytes * cap:Nat):Int)≤((100000 * 100000:Nat):Int):=by exact_mod_cast this
        simpa using h2
       have hbl:(bytes:Int) * (len:Int)≤100000 * 100000:=by
        have:=Nat.mul_le_mul c5 (kc c3 c4);have h2:((bytes * len:Nat):Int)≤((100000 * 100000:Nat):Int):=by exact_mod_cast this
        simpa using h2
       simp only [Instr.makeSlice,bw,bK hu,br,asInt,asIntOf,bT,i1,i2,mq];rw [A9 (n:=len) aI,A9 (n:=cap) aI];have hf:(decide ((cap:Int) < 0) || decide ((bytes:Int) * (cap:Int) > 2 ^ 48) || decide ((len:Int) < 0) || decide ((len:Int) > (cap:Int)))=false:=by
        simp only [Bool.or_eq_false_iff,v_];refine⟨⟨⟨by omega,by omega⟩,by omega⟩,by omega⟩
       simp only [hf,gd,dn,bw,run_askRoom,br,eI hs,kI,bT];by_cases e0:cap * size=0
       ·have he:∀ f g:Nat→Value,Array.map f (Array.range 0)=Array.map g (Array.range 0):=fun f g=>by simp
        simp only [e0,eR,bw,bT,br,c1];rw [he _ (fun i=>z.cells[i % z.cells.size]!)];simp [newRow]
       ·simp only [e0,dn,bw,z1,bT,br,c1];simp [newRow]
      ·simp only [VR];exact⟨_,0,0,by simp [Ren.put],rfl⟩
   ·have:(Nat.beq zero.length size && Nat.ble 1 size && Nat.ble len cap && Nat.ble cap 100000 && Nat.ble bytes 100000)=false:=by
     rw [qQ];intro ht;simp only [bg,b7,cu] at ht;exact hc ⟨ht.1.1.1.1,aS ht.1.1.1.2,aS ht.1.1.2,aS ht.1.2,aS ht.2⟩
    simp [this] at h
  ·simp at h
 ·simp at h
theorem Bl {W0:World} {s:St} {w:World} (hI:Inv W0 r s w) {es n:Nat} {y:LV} {v:Value} {new:List LV} (h:iX s es y=some new) (hn:gK y=some n) (hv:VR r y v) :
  new.length=n * es∧(∀ c∈new,c.plain=true)∧(∀ w',(Builtin.lenOf v).run P w'=.ok n w')∧∃ us,VRs r new us∧∀ d,(Builtin.firstCells es n v).run P { w with drawn:=d }=.ok us.toArray { w with drawn:=d }:=by
 unfold iX at h;cases y <;> simp only [gK] at hn <;> try (simp at h; done)
 case nils =>
  simp at h hn; subst h hn;simp only [VR] at hv; subst hv;exact⟨by simp,by simp,fun w'=>by simp [Builtin.lenOf],[],by simp [VRs],fun d=>by simp [Builtin.firstCells]⟩
 case sle =>
  simp at h hn; subst h hn;simp only [VR] at hv;rcases hv with rfl | ⟨a,rfl⟩
  ·exact⟨by simp,by simp,fun w'=>by simp [Builtin.lenOf],[],by simp [VRs],fun d=>by simp [Builtin.firstCells]⟩
  ·exact⟨by simp,by simp,fun w'=>by simp [Builtin.lenOf],[],by simp [VRs],fun d=>by simp only [Builtin.firstCells,lh]; exact run_loadCells_list (P:=P) _ a [] (fun j v hj=>by simp at hj)⟩
 case sl b o len cap =>
  simp at hn; subst hn;simp only [VR] at hv;obtain⟨B,q,c,hr,rfl⟩:=hv;cases hb:s.look b with
  | none=>simp [hb] at h
  | some cs =>
    simp only [hb] at h;obtain⟨us,k1,k2,k3⟩:=hI.loadCells (P:=P) hb hr h;refine⟨(kB _ _ _ _ h).1,k2,fun w'=>by simp [Builtin.lenOf],us,k1,fun d=>?_⟩;obtain⟨us',k1',k2',k3'⟩:=(hI.draw d).loadCells (P:=P) hb hr h;simp only [Builtin.firstCells];have:us'=us:=by
     have h3:=k3; have h3':=k3';rw [run_loadCells (P:=P) w _ _ (fun j=>(w.cell? ⟨B,q+o+j,none⟩).getD undef) (fun j hj=>?_)] at h3;rw [run_loadCells (P:=P) { w with drawn:=d } _ _ (fun j=>(w.cell? ⟨B,q+o+j,none⟩).getD undef) (fun j hj=>?_)] at h3'
     ·simp at h3 h3'; exact(h3'.symm.trans h3)
     all_goals
      obtain⟨q1,q2⟩:=kB _ _ _ _ h;have hl:new[j]? = some (new[j]'(by omega)):=cq aI;have h4:=q2 j hj;rw [hl] at h4;obtain⟨_,u,g2,_⟩:=hI.cell hb hr h4.symm;rw [jp];simp only [iy] at g2 ⊢
      first | (rw [g2]; rfl) | (show w.cell? _=_; rw [g2]; rfl)
    rw [← this]; exact k3'
 case slo b o len drop =>
  simp at hn; subst hn;simp only [VR] at hv;rcases hv with⟨B,q,c,hr,hle,rfl⟩ | ⟨rfl,hv⟩
  case inr =>
   have h0:new=[]:=by
    cases hb:s.look b with
    | none=>simp [hb] at h
    | some cs=>simp only [hb] at h; exact fY.1 (by rw [(kB _ _ _ _ h).1]; simp)
   subst h0;rcases hv with rfl | ⟨a,rfl⟩
   ·exact⟨by simp,by simp,fun w'=>by simp [Builtin.lenOf],[],by simp [VRs],fun d=>by simp [Builtin.firstCells]⟩
   ·exact⟨by simp,by simp,fun w'=>by simp [Builtin.lenOf],[],by simp [VRs],fun d=>by simp only [Builtin.firstCells,lh]; exact run_loadCells_list (P:=P) _ a [] (fun j v hj=>by simp at hj)⟩
  cases hb:s.look b with
  | none=>simp [hb] at h
  | some cs =>
    simp only [hb] at h;obtain⟨us,k1,k2,k3⟩:=hI.loadCells (P:=P) hb hr h;refine⟨(kB _ _ _ _ h).1,k2,fun w'=>by simp [Builtin.lenOf],us,k1,fun d=>?_⟩;obtain⟨us',k1',k2',k3'⟩:=(hI.draw d).loadCells (P:=P) hb hr h;simp only [Builtin.firstCells];have:us'=us:=by
     have h3:=k3; have h3':=k3';rw [run_loadCells (P:=P) w _ _ (fun j=>(w.cell? ⟨B,q+o+j,none⟩).getD undef) (fun j hj=>?_)] at h3;rw [run_loadCells (P:=P) { w with drawn:=d } _ _ (fun j=>(w.cell? ⟨B,q+o+j,none⟩).getD undef) (fun j hj=>?_)] at h3'
     ·simp at h3 h3'; exact(h3'.symm.trans h3)
     all_goals
      obtain⟨q1,q2⟩:=kB _ _ _ _ h;have hl:new[j]? = some (new[j]'(by omega)):=cq aI;have h4:=q2 j hj;rw [hl] at h4;obtain⟨_,u,g2,_⟩:=hI.cell hb hr h4.symm;rw [jp];simp only [iy] at g2 ⊢
      first | (rw [g2]; rfl) | (show w.cell? _=_; rw [g2]; rfl)
    rw [← this]; exact k3'
 case str t =>
  simp at hn; subst hn;simp only [VR] at hv; subst hv;by_cases he:es=1
  ·subst he;simp [b7] at h; subst h;refine⟨by simp,by simp [LV.plain],fun w'=>by simp [Builtin.lenOf]; rfl,t.map fun b=>.int .u8 b.toNat,?_,fun d=>?_⟩
   ·refine VRs.mk bH fun i l hi=>?_
    simp at hi ⊢;obtain⟨b,h1,rfl⟩:=hi;exact⟨_,⟨b,h1,rfl⟩,by simp [VR]⟩
   ·simp only [Builtin.firstCells];have:((⟨t.toArray⟩:ByteArray).extract 0 t.length).data=t.toArray:=by
     rw [ByteArray.data_extract];apply Array.ext';simp
    rw [this];simp
  ·simp [b7,he] at h
theorem KV (N:Nat):∀ (k c:Nat),c≤2 * N+192→Builtin.growBy N k c≤2 * N+192
 | 0,c,h=>h
 | k+1,c,h=>by
   simp only [Builtin.growBy];split
   ·exact h
   ·exact KV N k _ aI
theorem XV {need cap:Nat} (h:cap < need):Builtin.nextslicecap need cap≤2 * need+192:=by
 unfold Builtin.nextslicecap;split
 ·omega
 ·split
  ·omega
  ·exact KV _ _ _ aI
theorem Inv.dead {W0:World} {s s':St} {w:World} (h:Inv W0 r s w) {b:Nat} (hs:s.put b .dead=some s') (hb:(s.h.get b).isSome=true):Inv W0 r s' w∧Ext r s w r s' w:=by
 obtain⟨hn,hg⟩:=St.i3h hs;have hlv:∀ b',s'.lives b'→s.lives b':=fun b' ⟨L,k1,k2⟩=>by
  rw [hg] at k1;by_cases e:b'=b
  ·rw [aB e] at k1; cases k1; cases k2
  ·rw [av e] at k1; exact⟨L,k1,k2⟩
 have hne:∀ b' L,s'.h.get b'=some L→L.live=true→s.h.get b'=some L:=fun b' L k1 k2=>by
  rw [hg] at k1;by_cases e:b'=b
  ·rw [aB e] at k1; cases k1; cases k2
  ·rw [av e] at k1; exact k1
 have hob:∀ b' F cs g,s'.h.get b'=some (.obj F cs g)→s.h.get b'=some (.obj F cs g):=fun b' F cs g k=>hne b' _ k rfl
 refine⟨⟨h.below,fun b x hb=>by rw [hn]; exact h.dom b x hb,fun b x l=>h.own b x (hlv _ l),fun b' hb'=>?_,fun b1 b2 x1 x2 l1 l2=>h.inj b1 b2 x1 x2 (hlv _ l1) (hlv _ l2),fun b' cs op hb'=>h.cells b' cs op (hne _ _ hb' rfl),fun b' t p hb'=>h.iter b' t p (hne _ _ hb' rfl),by rw [St.i4f hs]; exact h.gl,fun b' cs hb'=>h.ro b' cs (by rw [hg] at hb'; by_cases e:b'=b; (rw [aB e] at hb'; cases hb'); (rw [av e] at hb'; exact hb')),h.ob.step r.le_refl hob (fun b' x' l1 hx'=>.inl ⟨hlv _ l1,hx'⟩) (aR _) fun _ _=>rfl⟩,
  ⟨r.le_refl,by omega,aR _,a4j.step h.ob r.le_refl hob fun b' x' l1 hx' _=>⟨b',x',hlv _ l1,hx',rfl⟩,fun _ _ _=>rfl⟩⟩
 rw [hg,av (by intro e; subst e; rw [h.fresh _ aI] at hb; cases hb)];exact h.fresh _ aI
theorem Inv.move {W0:World} {s s1 s':St} {w w':World} (h:Inv W0 r s w) {b:Nat} {cs new':List LV} {es:Nat} (hb:s.h.get b=some (.cells cs (some es))) {B q c o d:Nat} (hr:r b=some (B,q,c))
  (h1:s.put b .dead=some s1) (h2:s1.new (.cells new' (some es))=some s')
  (hw:∀ B',B'≠B→w'.heap[B']? = w.heap[B']?) (hsz:w'.heap.size=w.heap.size) (ho:w'.os=w.os) (ht:w'.tape=w.tape) (hout:w'.output=w.output)
  (hH:∀ r',r.le r'→d0i r' w' (B,q+o,c - d) new' (some es)) :
  Inv W0 (r.put s.n (B,q+o,c - d)) s' w'∧Ext r s w (r.put s.n (B,q+o,c - d)) s' w':=by
 obtain⟨n1,g1⟩:=St.i3h h1;obtain⟨n2,g2⟩:=St.i4g h2;have hle:=Ren.i3m h (B,q+o,c - d);have hbn:b < s.n:=(h.dom b _ hr).1;have hget:∀ m,m≠s.n→m≠b→s'.h.get m=s.h.get m:=fun m e1 e2=>by rw [g2,av aI,g1,av e2]
 have hgb:s'.h.get b=some .dead:=by rw [g2,av aI,g1,aB rfl]
 have hgn:s'.h.get s.n=some (.cells new' (some es)):=by rw [g2,aB aI]
 have hlv:∀ m,s'.lives m→m≠s.n→s.lives m∧m≠b:=fun m ⟨L,k1,k2⟩ e=>by
  by_cases e2:m=b
  ·subst e2; rw [hgb] at k1; cases k1; cases k2
  ·exact⟨⟨L,by rw [← hget m e e2]; exact k1,k2⟩,e2⟩
 have hbl:s.lives b:=⟨_,hb,rfl⟩;have hdm:=h.dom b _ hr;have how:=h.own b _ hbl hr;simp only at hdm how;have hob:∀ b' F cs g,s'.h.get b'=some (.obj F cs g)→s.h.get b'=some (.obj F cs g):=fun b' F cs g k=>by
  by_cases e:b'=s.n
  ·subst e; rw [hgn] at k; cases k
  ·by_cases e2:b'=b
   ·subst e2; rw [hgb] at k; cases k
   ·rwa [hget b' e e2] at k
 have hcl:¬ pG r s B:=h.ob.clear hbl hr (fun F cs g k=>by rw [hb] at k; cases k);refine⟨⟨⟨ho.trans h.below.os,ht.trans h.below.tape,hout.trans h.below.output,by rw [hsz]; exact h.below.size,fun k hk=>by rw [hw k aI]; exact h.below.block k hk⟩,fun m x hm=>?_,fun m x lm hm=>?_,fun m hm=>?_,fun m m' x x' l1 l2 e1 e2 he=>?_,fun m ds op hm=>?_,fun m t p hm=>?_,by rw [St.i4a h2,St.i4f h1]; exact h.gl,fun m ds hm=>?_,h.ob.step hle hob (fun m x l1 hx=>?_) aI fun B' hB'=>hw B' fun e=>hcl (e▸hB')⟩,
  ⟨hle,by omega,by omega,a4j.step h.ob hle hob fun m x l1 hx _=>?_,fun B' hB' hno=>hw B' fun e=>hno (.inl ⟨b,_,hbl,hr,e.symm⟩)⟩⟩
 ·by_cases e:m=s.n
  ·simp [Ren.put,e] at hm; subst hm; simp; omega
  ·simp [Ren.put,e] at hm;have:=h.dom m x hm;omega
 ·by_cases e:m=s.n
  ·simp [Ren.put,e] at hm; subst hm; exact how
  ·simp [Ren.put,e] at hm;exact h.own m x (hlv m lm e).1 hm
 ·by_cases e:m=b
  ·omega
  ·rw [hget m aI e]; exact h.fresh m aI
 ·by_cases a1:m=s.n <;> by_cases a2:m'=s.n
  ·omega
  ·simp [Ren.put,a1] at e1; simp [Ren.put,a2] at e2;subst e1;obtain⟨l3,l4⟩:=hlv m' l2 a2;exact absurd (h.inj m' b x' _ l3 hbl e2 hr he.symm) l4
  ·simp [Ren.put,a1] at e1; simp [Ren.put,a2] at e2;subst e2;obtain⟨l3,l4⟩:=hlv m l1 a1;exact absurd (h.inj m b x _ l3 hbl e1 hr he) l4
  ·simp [Ren.put,a1] at e1; simp [Ren.put,a2] at e2;exact h.inj m m' x x' (hlv m l1 a1).1 (hlv m' l2 a2).1 e1 e2 he
 ·by_cases e:m=s.n
  ·subst e;rw [hgn] at hm; cases hm;exact .inr ⟨_,by simp [Ren.put],hH _ hle⟩
  ·by_cases e2:m=b
   ·subst e2; rw [hgb] at hm; cases hm
   ·rw [hget m e e2] at hm;rcases h.cells m ds op hm with⟨k1,k2⟩ | ⟨x,k1,k2⟩
    ·exact .inl ⟨k1,by simp [Ren.put,e,k2]⟩
    exact .inr ⟨x,hle _ _ k1,k2.mono hle (hw _ fun e3=>e2 (h.inj m b x _ ⟨_,hm,rfl⟩ hbl k1 hr e3))⟩
 ·by_cases e:m=s.n
  ·subst e; rw [hgn] at hm; cases hm
  ·by_cases e2:m=b
   ·subst e2; rw [hgb] at hm; cases hm
   ·rw [hget m e e2] at hm;obtain⟨x,k1,k0,k2⟩:=h.iter m t p hm;exact⟨x,hle _ _ k1,k0,by rw [← k2]; exact hw _ fun e3=>e2 (h.inj m b x _ ⟨_,hm,rfl⟩ hbl k1 hr e3)⟩
 ·by_cases e:m=s.n
  ·subst e; rw [hgn] at hm; cases hm
  ·by_cases e2:m=b
   ·subst e2; rw [hgb] at hm; cases hm
   ·rw [hget m e e2] at hm;rcases h.ro m ds hm with⟨k1,k2⟩ | ⟨x,k1,c',e',f,k2,k3⟩
    ·exact .inl ⟨k1,by simp [Ren.put,e,k2]⟩
    exact .inr ⟨x,hle _ _ k1,c',e',f,k2,fun i l hl=>let ⟨q1,u,q2,q3⟩:=k3 i l hl; ⟨q1,u,q2,q3.mono hle⟩⟩
 ·by_cases e:m=s.n
  ·simp [Ren.put,e] at hx; subst hx; exact .inr hcl
  ·simp [Ren.put,e] at hx;exact .inl ⟨(hlv m l1 e).1,hx⟩
 ·by_cases e:m=s.n
  ·simp [Ren.put,e] at hx; subst hx; exact⟨b,_,hbl,hr,rfl⟩
  ·simp [Ren.put,e] at hx;exact⟨m,x,(hlv m l1 e).1,hx,rfl⟩
end
section
open Go.RowKit
variable {P:Program} {r:Ren}
section
variable {t u ty elem:TypeId} {du:TypeDesc} {es n bytes sLen sCap:Nat} {base:Option Addr} {v:Value} {w:World}
theorem t5 (ht:P.underlying t=some (.slice elem)) (hu:P.underlying u=some du) (hdu:∀ k,du≠.int k) (hs:bZ P elem=some es)
  (hn:∀ w',(Builtin.lenOf v).run P w'=.ok n w') (hle:sLen+n≤sCap) {us:List Value} (hf:(Builtin.firstCells es n v).run P w=.ok us.toArray w) :
  (Builtin.append_ #[t,u] ty #[.slice base sLen sCap,v]).run P w =
   ((match base with | some a=>storeCells (a.add (sLen * es)) us | none=>pure ():Sem Unit).run P w).andThen fun _ w'=>.ok (.slice base (sLen+n) sCap) w':=by
 have hz:(match du with | .int _=>true | _=>false)=false:=by cases du <;> first | rfl | (exact absurd rfl (hdu _))
 simp only [Builtin.append_,List.getElem?_toArray,bw,bK ht,br,eI hs,List.getElem?_cons_zero,eG,bK hu,hz,bT,gd,dn,hn,pH,eR];rw [aB hle];simp only [bw,hf,br];cases base <;> simp
theorem v4 {a b bytes:Nat} (hgt:b < a) (hneed:a≤1000000) (hb:bytes≤1000):Builtin.nextslicecap a b * bytes≤2 ^ 48:=by
 have hnc:=XV hgt;have hmul:Builtin.nextslicecap a b * bytes≤(2 * 1000000+192) * 1000:=Nat.mul_le_mul aI hb;omega
theorem W7 (ht:P.underlying t=some (.slice elem)) (hu:P.underlying u=some du) (hdu:∀ k,du≠.int k) (hs:bZ P elem=some es) (hby:qB P elem=some bytes)
  (hb:Builtin.nextslicecap (sLen+n) sCap * bytes≤2 ^ 48) (h0:bytes≠0∨True) (hn:∀ w',(Builtin.lenOf v).run P w'=.ok n w') (hgt:sCap < sLen+n) (hneed:sLen+n≤140737488355328) {z:Value} (hz0:∀ w,(zeroValue elem).run P w=.ok z w)
  {us old:List Value} (hf:∀ d,(Builtin.firstCells es n v).run P { w with drawn:=d }=.ok us.toArray { w with drawn:=d })
  (ho:∀ d,(Builtin.firstCells es sLen (.slice base sLen sCap)).run P { w with drawn:=d }=.ok old.toArray { w with drawn:=d }) :
  ∃ c k,sLen+n≤k∧c=old.toArray++us.toArray++Builtin.zeroCells z.cells (k - (sLen+n)) ∧
  (Builtin.append_ #[t,u] ty #[.slice base sLen sCap,v]).run P w=.ok (.slice (some ⟨w.heap.size,0,none⟩) (sLen+n) k) { w with drawn:=w.drawn+1,heap:=w.heap.push (.cells c elem (0,0)) }:=by
 have hz:(match du with | .int _=>true | _=>false)=false:=by cases du <;> first | rfl | (exact absurd rfl (hdu _))
 obtain⟨inf,i1⟩:∃ i,P.info? elem=some i∧i.bytes=bytes:=by
  unfold qB at hby;cases hi:P.info? elem with
  | none=>simp [hi] at hby
  | some i=>simp [hi] at hby; exact⟨i,rfl,hby⟩
 obtain⟨i1,i2⟩:=i1;refine⟨_,(Question.appendCap (sLen+n) sCap elem).cut (w.tape w.drawn (.appendCap (sLen+n) sCap elem)),by simp [Question.cut],rfl,?_⟩;simp only [Builtin.append_,List.getElem?_toArray,bw,bK ht,br,eI hs,List.getElem?_cons_zero,eG,bK hu,hz,bT,gd,dn,hn,pH,eR];rw [av aI];have hno:¬ ((((sLen+n:Nat):Int) > IntKind.i64.max)∧(False∨inf.bytes=0)):=by
  intro⟨h1,_⟩;simp [IntKind.max,IntKind.signed,IntKind.bits] at h1; omega
 have hno2:¬ (Builtin.nextslicecap (sLen+n) sCap * inf.bytes > 2 ^ 48):=by rw [i2]; omega
 simp only [bw,yv i1,br,hno,hno2,dn,gd,run_choose,Question.forced,run_askRoom,ho,hf,hz0,bT,newRow,run_newObj]
end
theorem FY (a:Addr) (w:World):(storeCells a []).run P w=.ok () w:=by simp [storeCells]
theorem Mg {es:Nat} {w:World} (a:Addr) (d:Nat):(Builtin.firstCells es 0 (.slice (some a) 0 0)).run P { w with drawn:=d }=.ok ([]:List Value).toArray { w with drawn:=d }:=by
 simp only [Builtin.firstCells,lh]; exact run_loadCells_list (P:=P) _ a [] (fun j v hj=>by simp at hj)
theorem XM {W0:World} {s s':St} {w:World} (hI:Inv W0 r s w) {ts:List TypeId} {ty:TypeId} {x y l:LV} {u v:Value} (h:vw P s ts x y=some (l,s')) (hx:VR r x u) (hy:VR r y v) :
  ∃ r' w' q,Inv W0 r' s' w'∧Ext r s w r' s' w'∧(Builtin.append_ ts.toArray ty #[u,v]).run P w=.ok q w'∧VR r' l q:=by
 unfold vw at h;split at h
 case h_2=>simp at h
 rename_i t tu;split at h
 case h_2=>simp at h
 rename_i elem du ht hu;have hdu:∀ k,du≠.int k:=by
  intro k e; subst e; simp [xM] at h
 have hcond:xM du=false:=by cases du <;> first | rfl | (exact absurd rfl (hdu _))
 simp only [hcond,aD] at h;split at h
 case h_2=>simp at h
 rename_i es zero bytes n hs hz hby hn;cases hc:(Nat.beq zero.length es && Nat.ble 1 es && Nat.ble bytes 1000) with
 | false=>simp [hc] at h
 | true =>
   simp only [hc,aw] at h;simp only [bg,b7,cu] at hc;obtain⟨⟨c1,c2⟩,c3⟩:=hc;have c2:=aS c2;have c3:=aS c3;obtain⟨z,z1,z2,z3⟩:=qN (r:=r) hz;have hzl:z.cells.size=es:=by have:=z3.length; simp at this; omega
   have hzone:∀ k,∀ v∈(Builtin.zeroCells z.cells k).toList,v.oneCell'=true:=by
    intro k v hv;simp only [Builtin.zeroCells,Array.toList_map,List.mem_map] at hv;obtain⟨i,_,rfl⟩:=hv;have hm:i % z.cells.size < z.cells.size:=Nat.mod_lt _ aI;have:=z3.all_one z2 (z.cells[i % z.cells.size]) bH;simpa [hm] using this
   have hzsz:∀ k,(Builtin.zeroCells z.cells k).size=k * es:=by intro k; simp [Builtin.zeroCells,hzl]
   cases hnew:iX s es y with
   | none=>simp [hnew] at h
   | some new =>
     simp only [hnew] at h;obtain⟨n1,n2,n3,us,n4,n5⟩:=Bl (P:=P) hI hnew hn hy;have hul:=n4.length;have n5':(Builtin.firstCells es n v).run P w=.ok us.toArray w:=n5 w.drawn;have grow:∀ {base:Option Addr} {sLen sCap:Nat} {old:List LV} {ous:List Value} {s1 s2:St} {nn:Nat},u=.slice base sLen sCap→VRs r old ous→(∀ c∈old,c.plain=true)→old.length=sLen * es →
       (∀ d,(Builtin.firstCells es sLen (.slice base sLen sCap)).run P { w with drawn:=d }=.ok ous.toArray { w with drawn:=d })→sCap < sLen+n→Builtin.nextslicecap (sLen+n) sCap * bytes≤2 ^ 48→sLen+n≤140737488355328 →
       Inv W0 r s1 w→Ext r s w r s1 w→s1.n=s.n→s1.new (.cells (old++new) (some es))=some s2 →
       ∃ r' w' q,Inv W0 r' s2 w'∧Ext r s w r' s2 w'∧(Builtin.append_ #[t,tu] ty #[u,v]).run P w=.ok q w'∧VR r' (.slo s.n 0 (sLen+n) 0) q:=by
      intro base sLen sCap old ous s1 s2 nn he ho hop hol hof hgt hroom hneed hI1 hE1 hn1 hnw;obtain⟨c,k,k1,k2,k3⟩:=W7 (ty:=ty) ht hu hdu hs hby hroom (.inr trivial) n3 hgt hneed z1 n5 hof;have hall:=(ho.append n4).length;have hsub:(k - (sLen+n)) * es+(sLen * es+n * es)=k * es:=by
       rw [← Nat.add_mul,← Nat.add_mul]; congr 1; omega
      have hcs:c.size=k * es:=by
       have l1:=ho.length;rw [k2]; simp only [Array.size_append,hzsz,sw]; omega
      have hI2:=hI1.draw (w.drawn+1);have:=hI2.newCells (c:=c) (e:=elem) (f:=(0,0)) (k:=k) (us:=ous++us) hnw (ho.append n4) (by intro l hl; rcases gz.1 hl with hl | hl; exact hop _ hl; exact n2 _ hl)
       (fun i q hq=>by
        have hlt:=(bU.1 hq).1;rw [k2,sv (by simpa using hlt)];simpa using hq)
       (fun i hi=>by simp) (by simp [dv,hcs])
       (fun q hq=>by
        rw [k2] at hq;simp only [Array.toList_append,gz] at hq;rcases hq with(hq | hq) | hq
        ·exact ho.all_one hop _ hq
        ·exact n4.all_one n2 _ hq
        ·exact hzone _ _ hq)
       (by simp only [dv,cg,hol,n1]; rw [← Nat.add_mul]; exact Nat.mul_le_mul_right _ k1)
      refine⟨_,_,_,this.1,(hE1.trans (Ext.draw (w.drawn+1))).trans this.2,by rw [he]; exact k3,?_⟩;simp only [VR,hn1];exact .inl ⟨w.heap.size,0,k,by simp [Ren.put],by omega,by simp⟩
     split at h
     ·-- nil
      simp only [VR] at hx; subst hx;cases hb:(Nat.ble (n * bytes) 140737488355328 && Nat.ble n 140737488355328) with
      | false=>simp [hb] at h
      | true =>
        simp only [hb,aw] at h;obtain⟨hb1,hb2⟩:=ig.1 hb;have hb1:=aS hb1;have hb2:=aS hb2;cases hw:s.new (.cells new (some es)) with
        | none=>simp [hw] at h
        | some s2 =>
          simp [hw] at h;obtain⟨rfl,rfl⟩:=h;by_cases hn0:n=0
          ·subst hn0;have e0:new=[]:=fY.1 (by rw [n1]; simp);subst e0;have:=t5 (ty:=ty) (base:=none) (sLen:=0) (sCap:=0) ht hu hdu hs n3 aI n5';obtain⟨q1,q2⟩:=hI.newNil hw;exact⟨r,w,_,q1,q2,by rw [this]; rfl,by simp only [VR]; exact .inr ⟨trivial,.inl rfl⟩⟩
          ·have hnx:Builtin.nextslicecap (0+n) 0=n:=by simp [Builtin.nextslicecap]; omega
           have:=grow (nn:=0) (base:=none) (sLen:=0) (sCap:=0) (old:=[]) (ous:=[]) rfl (by simp [VRs]) bH bH (fun d=>by simp [Builtin.firstCells]) aI (by rw [hnx]; omega) aI hI (Ext.refl _ _ _) rfl (by simpa using hw);simpa using this
     ·-- empty
      simp only [VR] at hx;by_cases hn0:n=0
      ·subst hn0;simp [b7] at h;obtain⟨rfl,rfl⟩:=h;have hu0:us=[]:=by
        have:us.length=0:=by rw [hul,n1]; simp
        exact fY.1 this
       rcases hx with rfl | ⟨a,rfl⟩
       ·have:=t5 (ty:=ty) (base:=none) (sLen:=0) (sCap:=0) ht hu hdu hs n3 aI n5';exact⟨r,w,_,hI,Ext.refl _ _ _,by rw [this]; rfl,.inl rfl⟩
       ·have:=t5 (ty:=ty) (base:=some a) (sLen:=0) (sCap:=0) ht hu hdu hs n3 aI n5';simp only [hu0,FY,br] at this;exact⟨r,w,_,hI,Ext.refl _ _ _,by rw [this],.inr ⟨a,rfl⟩⟩
      ·simp only [b7,hn0,fX,aD] at h;cases hb:Nat.ble n 1000000 with
       | false=>simp [hb] at h
       | true =>
         simp only [hb,aw] at h;cases hw:s.new (.cells new (some es)) with
         | none=>simp [hw] at h
         | some s2 =>
           simp [hw] at h;obtain⟨rfl,rfl⟩:=h;rcases hx with rfl | ⟨a,rfl⟩
           ·have:=grow (nn:=0) (base:=none) (sLen:=0) (sCap:=0) (old:=[]) (ous:=[]) rfl (by simp [VRs]) bH bH (fun d=>by simp [Builtin.firstCells]) aI (v4 aI (by have:=aS hb; omega) c3) (by have:=aS hb; omega) hI (Ext.refl _ _ _) rfl (by simpa using hw);simpa using this
           ·have:=grow (nn:=0) (base:=some a) (sLen:=0) (sCap:=0) (old:=[]) (ous:=[]) rfl (by simp [VRs]) bH bH (fun d=>Mg a d) aI (v4 aI (by have:=aS hb; omega) c3) (by have:=aS hb; omega) hI (Ext.refl _ _ _) rfl (by simpa using hw);simpa using this
     ·-- known capacity
      rename_i b o len cap;have hx0:=hx;simp only [VR] at hx;obtain⟨B,q,c,hr,rfl⟩:=hx;split at h
      case h_2=>simp at h
      rename_i cs op hb;cases hcap:Nat.ble (len+n) cap with
      | true =>
        have hle:=aS hcap;simp only [hcap,aw] at h;cases hl:lay cs (o+len * es) new with
        | none=>simp [hl] at h
        | some cs' =>
          simp only [hl] at h;cases hp:s.put b (.cells cs' op) with
          | none=>simp [hp] at h
          | some s2 =>
            simp [hp] at h;obtain⟨rfl,rfl⟩:=h;obtain⟨w',k1,k2,k3⟩:=hI.storeCells (P:=P) hb hr hl n2 n4 hp;have:=t5 (ty:=ty) (base:=some ⟨B,q+o,none⟩) (sLen:=len) (sCap:=cap) ht hu hdu hs n3 hle n5';simp only at this;rw [jp,iy,k1] at this;exact⟨r,w',_,k2,k3,by rw [this]; rfl,by simp only [VR]; exact⟨B,q,c,hr,rfl⟩⟩
      | false =>
        simp only [hcap,aD] at h;cases hneed:Nat.ble (len+n) 1000000 with
        | false=>simp [hneed] at h
        | true =>
          simp only [hneed,aw] at h;cases hcu:cut cs o (len * es) with
          | none=>simp [hcu] at h
          | some old =>
            simp only [hcu] at h;cases hw:s.new (.cells (old++new) (some es)) with
            | none=>simp [hw] at h
            | some s2 =>
              simp [hw] at h;obtain⟨rfl,rfl⟩:=h;have hcell:iX s es (.sl b o len cap)=some old:=by simp [iX,St.look,hb,hcu]
              obtain⟨m1,m2,m3,ous,m4,m5⟩:=Bl (P:=P) hI hcell rfl hx0;have hgt:cap < len+n:=by
               rcases jH cap (len+n) with h1 | h1
               ·exact h1
               ·rw [dh h1] at hcap; cases hcap
              exact grow (nn:=0) rfl m4 m2 m1 m5 hgt (v4 hgt (aS hneed) c3) (by have:=aS hneed; omega) hI (Ext.refl _ _ _) rfl hw
     ·-- open
      rename_i b o len d;have hx0:=hx;simp only [VR] at hx;split at h
      case h_2=>simp at h
      rename_i cs es' hb;rcases hx with⟨B,q,c,hr,hle,rfl⟩ | ⟨rfl,hx⟩
      case inr =>
       cases hcc:(Nat.beq es es' && Nat.beq (d * es) o && Nat.ble (0+n) 1000000) with
       | false=>rw [hcc] at h; cases h
       | true =>
         simp only [hcc,aw] at h;simp only [bg,b7,cu] at hcc;obtain⟨⟨rfl,hdo⟩,hneed⟩:=hcc;have hneed:=aS hneed;cases hcu:cut cs o (0 * es) with
         | none=>rw [hcu] at h; cases h
         | some old =>
           have ho0:old=[]:=fY.1 (by rw [(kB _ _ _ _ hcu).1]; simp);subst ho0;simp only [hcu] at h;cases hp:s.put b .dead with
           | none=>simp [hp] at h
           | some s1 =>
             simp only [hp] at h;cases hw:s1.new (.cells ([]++new) (some es)) with
             | none=>rw [hw] at h; cases h
             | some s2 =>
               rw [hw] at h;cases h;obtain⟨hD1,hD2⟩:=hI.dead hp (by rw [hb]; rfl);by_cases hn0:n=0
               ·subst hn0;have hu0:us=[]:=by
                 have:us.length=0:=by rw [hul,n1]; simp
                 exact fY.1 this
                have e0:new=[]:=fY.1 (by rw [n1]; simp);subst e0;obtain⟨q1,q2⟩:=hD1.newNil hw;rcases hx with rfl | ⟨a,rfl⟩
                ·have:=t5 (ty:=ty) (base:=none) (sLen:=0) (sCap:=0) ht hu hdu hs n3 aI n5';exact⟨r,w,_,q1,hD2.trans q2,by rw [this]; rfl,by unfold VR; exact .inr ⟨rfl,.inl rfl⟩⟩
                ·have:=t5 (ty:=ty) (base:=some a) (sLen:=0) (sCap:=0) ht hu hdu hs n3 aI n5';simp only [hu0,FY,br] at this;exact⟨r,w,_,q1,hD2.trans q2,by rw [this],by unfold VR; exact .inr ⟨rfl,.inr ⟨a,rfl⟩⟩⟩
               ·rcases hx with rfl | ⟨a,rfl⟩
                ·have:=grow (nn:=0) (base:=none) (sLen:=0) (sCap:=0) (old:=[]) (ous:=[]) rfl (by simp [VRs]) bH bH (fun d=>by simp [Builtin.firstCells]) aI (v4 aI hneed c3) aI hD1 hD2 (St.i3h hp).1 hw;exact this
                ·have:=grow (nn:=0) (base:=some a) (sLen:=0) (sCap:=0) (old:=[]) (ous:=[]) rfl (by simp [VRs]) bH bH (fun d=>Mg a d) aI (v4 aI hneed c3) aI hD1 hD2 (St.i3h hp).1 hw;exact this
      cases hcc:(Nat.beq es es' && Nat.beq (d * es) o && Nat.ble (len+n) 1000000) with
      | false=>simp [hcc] at h
      | true =>
        simp only [hcc,aw] at h;simp only [bg,b7,cu] at hcc;obtain⟨⟨rfl,hdo⟩,hneed⟩:=hcc;have hneed:=aS hneed;cases hcu:cut cs o (len * es) with
        | none=>simp [hcu] at h
        | some old =>
          simp only [hcu] at h;have hcell:iX s es (.slo b o len d)=some old:=by simp [iX,St.look,hb,hcu]
          obtain⟨m1,m2,m3,ous,m4,m5⟩:=Bl (P:=P) hI hcell rfl hx0;cases hp:s.put b .dead with
          | none=>simp [hp] at h
          | some s1 =>
            simp only [hp] at h;cases hw:s1.new (.cells (old++new) (some es)) with
            | none=>simp [hw] at h
            | some s2 =>
              simp [hw] at h;obtain⟨rfl,rfl⟩:=h;by_cases hin:len+n≤c - d
              ·-- in place
               rcases hI.cells b cs (some es) hb with⟨_,h0⟩ | ⟨x',hx',⟨cc,e,lo,hi,f1,f2,f3,f4,f5⟩,f6⟩
               ·rw [h0] at hr; cases hr
               rw [hr] at hx'; cases hx';simp only [dv] at f3 f4 f6;simp only at f1 f2;have hdc:d * es+(c - d) * es=c * es:=by rw [← Nat.add_mul]; congr 1; omega
               have hlen:len * es+n * es≤(c - d) * es:=by rw [← Nat.add_mul]; exact Nat.mul_le_mul_right _ hin
               have hend:q+(o+len * es)+us.length≤cc.size:=aI;obtain⟨cc',g1,g2,g3,g4,g5,g6,g7,g8⟩:=FI B e (lo,hi) us (q+(o+len * es)) w cc f1 hend;have hone:=n4.all_one n2;have hrun:=run_storeCells_cells (P:=P) B (q+(o+len * es)) us 0 w
                (fun j hj=>by
                 have hlt:q+(o+len * es)+j < cc.size:=aI;simp only [World.cell?,f1,gA]; simp [hlt])
                (fun j hj=>by
                 have:=f3 (o+len * es+j) aI;simp only [World.frozen?,f1,gA];simp; omega) hone
               simp only [gA] at hrun;have:=t5 (ty:=ty) (base:=some ⟨B,q+o,none⟩) (sLen:=len) (sCap:=c - d) ht hu hdu hs n3 hin n5';simp only at this;rw [jp,iy,hrun] at this;have hcutq:=kB _ _ _ _ hcu;have hmv:=hI.move (w':=w.setCells B (q+(o+len * es)) us) (o:=o) (d:=d) hb hr hp hw g4 g5 g6 g7 g8 (fun r' hr'=>by
                refine⟨⟨cc',e,lo,hi,g1,fun i l hl=>?_,fun i hi'=>?_,by simp only [dv,g2]; omega,fun v' hv'=>?_⟩,by simp only [dv,cg,m1,n1]; exact hlen⟩
                ·by_cases hio:i < old.length
                 ·rw [iY hio] at hl;have h5:=hcutq.2 i aI;rw [hl] at h5;obtain⟨k1,q',k2,k3⟩:=f2 _ _ h5.symm;refine⟨k1,q',?_,k3.mono hr'⟩;simp only;rw [g3,av aI,← k2]; congr 1; omega
                 ·rw [kb aI] at hl;obtain⟨q',k2,k3⟩:=n4.get hl;refine⟨n2 _ (fS hl),q',?_,k3.mono hr'⟩;have hi2:=(bU.1 hl).1;simp only;rw [g3,aB aI,← k2]; congr 1; omega
                ·simp only [dv] at hi';have:=f3 (o+i) aI;simp only; omega
                ·obtain⟨i,hi',rfl⟩:=pJ hv';have hi2:i < cc'.size:=by simpa using hi'
                 have h7:=g3 i;rw [mr hi2] at h7;simp only [Array.getElem_toList];split at h7
                 ·exact hone _ (fS h7.symm)
                 ·exact f5 _ (by rw [Array.mem_toList_iff]; exact Array.mem_of_getElem? h7.symm))
               refine⟨_,_,_,hmv.1,hmv.2,by rw [this]; rfl,?_⟩;simp only [VR];exact .inl ⟨B,q+o,c - d,by simp [Ren.put],by omega,by simp⟩
              ·obtain⟨hD1,hD2⟩:=hI.dead hp (by rw [hb]; rfl);exact grow (nn:=0) rfl m4 m2 m1 m5 aI (v4 aI hneed c3) aI hD1 hD2 (St.i3h hp).1 hw
     ·simp at h
theorem XF {y y':LV} {n m:Nat} {v:Value} (h:vq y n=some y') (hl:gK y=some m) (hn:n≤m) (hv:VR r y v):gK y'=some n∧∃ v',VR r y' v'∧∀ es,Builtin.firstCells es n v=Builtin.firstCells es n v':=by
 cases y <;> simp only [vq] at h <;> try (cases h; done)
 case nils =>
  simp at h; subst h;simp [gK] at hl;have:n=0:=aI;subst this;exact⟨by simp [gK],v,hv,fun es=>rfl⟩
 case sle =>
  simp at h; subst h;simp [gK] at hl;have:n=0:=aI;subst this;exact⟨by simp [gK],v,hv,fun es=>rfl⟩
 case sl b o len cap =>
  simp at h; subst h;simp only [VR] at hv;obtain⟨B,q,c,hr,rfl⟩:=hv;exact⟨by simp [gK],.slice (some ⟨B,q+o,none⟩) n cap,by simp only [VR]; exact⟨B,q,c,hr,rfl⟩,fun es=>rfl⟩
 case slo b o len d =>
  simp at h; subst h;simp [gK] at hl;have hv0:=hv;simp only [VR] at hv;rcases hv with⟨B,q,c,hr,hle,rfl⟩ | ⟨h0,hv⟩
  ·exact⟨by simp [gK],.slice (some ⟨B,q+o,none⟩) n (c - d),by simp only [VR]; exact .inl ⟨B,q,c,hr,by omega,rfl⟩,fun es=>rfl⟩
  ·have:n=0:=aI;subst this; subst h0;exact⟨by simp [gK],v,hv0,fun es=>rfl⟩
theorem Wv {y:LV} {m:Nat} {v:Value} (hl:gK y=some m) (hv:VR r y v) (w:World):(Builtin.lenOf v).run P w=.ok m w:=by
 cases y <;> simp only [gK] at hl <;> try (cases hl; done)
 case nils=>simp at hl; subst hl; simp only [VR] at hv; subst hv; simp [Builtin.lenOf]
 case sle=>simp at hl; subst hl; simp only [VR] at hv; rcases hv with rfl | ⟨a,rfl⟩ <;> simp [Builtin.lenOf]
 case sl b o len cap=>simp at hl; subst hl; simp only [VR] at hv; obtain⟨B,q,c,hr,rfl⟩:=hv; simp [Builtin.lenOf]
 case slo b o len d=>simp at hl; subst hl; simp only [VR] at hv; rcases hv with⟨B,q,c,hr,_,rfl⟩ | ⟨rfl,rfl | ⟨a,rfl⟩⟩ <;> simp [Builtin.lenOf]
 case str t=>simp at hl; subst hl; simp only [VR] at hv; subst hv; simp [Builtin.lenOf]; rfl
theorem Xf {W0:World} {s s':St} {w:World} (hI:Inv W0 r s w) {ts:List TypeId} {ty:TypeId} {x y l:LV} {u v:Value} (h:uY P s ts x y=some (l,s')) (hx:VR r x u) (hy:VR r y v) :
  ∃ w' q,Inv W0 r s' w'∧Ext r s w r s' w'∧(Builtin.copy_ ts.toArray ty #[u,v]).run P w=.ok q w'∧VR r l q:=by
 unfold uY at h;split at h
 case h_2=>simp at h
 rename_i t ts';split at h
 case h_2=>simp at h
 rename_i elem hu;split at h
 case h_2=>simp at h
 rename_i es dl sl hs hdl hsl;cases hsh:vq y (Nat.min sl dl) with
 | none=>simp [hsh] at h
 | some y' =>
   simp only [hsh] at h;obtain⟨m1,v',m2,m3⟩:=XF (r:=r) hsh hsl (Nat.min_le_left _ _) hy;cases hnew:iX s es y' with
   | none=>simp [hnew] at h
   | some new =>
     simp only [hnew] at h;obtain⟨n1,n2,n3,us,n4,n5⟩:=Bl (P:=P) hI hnew m1 m2;have n6:(Builtin.firstCells es (Nat.min sl dl) v).run P w=.ok us.toArray w:=by rw [m3]; exact n5 w.drawn
     have hrun:∀ (base:Option Addr) (cap:Nat),u=.slice base dl cap→(Builtin.copy_ (t::ts').toArray ty #[u,v]).run P w =
       ((match base with | some a=>storeCells a us | none=>pure ():Sem Unit).run P w).andThen fun _ w'=>.ok (goInt (Nat.min sl dl)) w':=by
      intro base cap he;subst he;simp only [Builtin.copy_,List.getElem?_toArray,List.getElem?_cons_zero,eG,bw,bK hu,br,Wv (P:=P) hsl hy,eI hs,n6];cases base <;> simp
     split at h
     ·simp only [VR] at hx;subst hx;simp [gK] at hdl;subst hdl;simp at h;obtain⟨rfl,rfl⟩:=h;exact⟨w,_,hI,Ext.refl _ _ _,by rw [hrun none 0 rfl]; rfl,by
       have:Nat.min sl 0=0:=Nat.min_zero sl;simp [VR,goInt,this]⟩
     ·simp only [VR] at hx;simp [gK] at hdl;subst hdl;simp at h;obtain⟨rfl,rfl⟩:=h;have hm0:Nat.min sl 0=0:=Nat.min_zero sl;have hu0:us=[]:=by
       have:us.length=0:=by rw [n4.length,n1,hm0]; simp
       exact fY.1 this
      rcases hx with rfl | ⟨a,rfl⟩
      ·exact⟨w,_,hI,Ext.refl _ _ _,by rw [hrun none 0 rfl]; rfl,by simp [VR,goInt,hm0]⟩
      ·exact⟨w,_,hI,Ext.refl _ _ _,by rw [hrun (some a) 0 rfl,hu0]; simp only [FY]; rfl,by simp [VR,goInt,hm0]⟩
     ·rename_i b o len cap;simp only [VR] at hx;obtain⟨B,q,c,hr,rfl⟩:=hx;simp [gK] at hdl;subst hdl;split at h
      case h_2=>simp at h
      rename_i cs op hb;cases hl:lay cs o new with
      | none=>simp [hl] at h
      | some cs' =>
        simp only [hl] at h;cases hp:s.put b (.cells cs' op) with
        | none=>simp [hp] at h
        | some s2 =>
          simp [hp] at h;obtain⟨rfl,rfl⟩:=h;obtain⟨w',k1,k2,k3⟩:=hI.storeCells (P:=P) hb hr hl n2 n4 hp;exact⟨w',_,k2,k3,by rw [hrun (some ⟨B,q+o,none⟩) cap rfl]; simp only [k1]; rfl,by simp only [VR,goInt]⟩
     ·rename_i b o len dd;simp only [VR] at hx;simp [gK] at hdl;subst hdl;rcases hx with⟨B,q,c,hr,hle,rfl⟩ | ⟨h0,hx⟩
      case inr=>exact absurd h0 aI
      split at h
      case h_2=>simp at h
      rename_i cs op hb;cases hl:lay cs o new with
      | none=>simp [hl] at h
      | some cs' =>
        simp only [hl] at h;cases hp:s.put b (.cells cs' op) with
        | none=>simp [hp] at h
        | some s2 =>
          simp [hp] at h;obtain⟨rfl,rfl⟩:=h;obtain⟨w',k1,k2,k3⟩:=hI.storeCells (P:=P) hb hr hl n2 n4 hp;exact⟨w',_,k2,k3,by rw [hrun (some ⟨B,q+o,none⟩) (c - dd) rfl]; simp only [k1]; rfl,by simp only [VR,goInt]⟩
     ·simp at h
end
section
open Go.RowKit
variable {P:Program} {r:Ren}
theorem Xk {α : Type} (a:Array α) (x : α) (f : α→α):(a.push x).modify a.size f=a.push (f x):=by
 apply Array.ext_getElem?;intro i;rw [sE];simp only [Array.getElem?_push];by_cases h:a.size=i
 ·subst h; simp
 ·simp [h,Ne.symm h]
theorem X6 {a:Addr} {w:World} {n:Nat} {e:TypeId} (h:w.shape? a.block=some (e,n)):(markStringish a).run P w=.ok () (w.freeze { block:=a.block,off:=n } 1):=by
 simp [markStringish,h]
theorem Xr {W0:World} {s s':St} {w:World} (hI:Inv W0 r s w) {src dst:TypeId} {x l:LV} {u:Value} (h:xN P s src dst x=some (l,s')) (hx:VR r x u) :
  ∃ r' w' q,Inv W0 r' s' w'∧Ext r s w r' s' w'∧(convert src dst u).run P w=.ok q w'∧VR r' l q:=by
 unfold xN at h;split at h
 ·rename_i d e t e1 e2;cases hc:(kR P e && Nat.ble t.length 1000000) with
  | false=>simp [hc] at h
  | true =>
    simp only [hc,aw] at h;simp only [bg] at hc;have he:=KZ hc.1;simp only [VR] at hx; subst hx;cases hw:s.new (.cells (t.map fun b=>.int .u8 b.toNat) (some 1)) with
    | none=>simp [hw] at h
    | some s1 =>
      simp [hw] at h;obtain⟨rfl,rfl⟩:=h
      let cap:=(Question.appendCap t.length 0 e).cut (w.tape w.drawn (.appendCap t.length 0 e))
      have hcap:t.length≤cap:=by simp [cap,Question.cut]
      let els:List Value:=t.map fun b=>.int .u8 b.toNat
      let c:Array Value:=els.toArray++Array.replicate (cap - t.length) (.int .u8 0)
      have hcs:c.size=cap:=by simp [c,els]; omega
      have hv:VRs r (t.map fun b=>LV.int .u8 b.toNat) els:=by
       refine VRs.mk (by simp [els]) fun i l hi=>?_
       simp at hi;obtain⟨b,h1,rfl⟩:=hi;exact⟨.int .u8 b.toNat,by simp [els]; exact⟨b,h1,rfl⟩,by simp [VR]⟩
      have:=(hI.draw (w.drawn+1)).newCells (c:=c) (e:=e) (f:=(cap,cap+1)) (k:=cap) hw hv (by simp [LV.plain])
       (fun i q hq=>by
        have hlt:=(bU.1 hq).1;simp only [c];rw [sv (by simpa using hlt)];simpa using hq)
       (fun i hi=>by simp [dv] at hi; simp; omega) (by simp [dv,hcs])
       (fun q hq=>by
        simp only [c,Array.toList_append,gz] at hq;rcases hq with hq | hq
        ·simp [els] at hq; obtain⟨b,_,rfl⟩:=hq; rfl
        ·simp at hq; rw [hq.2]; rfl)
       (by simp [dv]; exact hcap)
      refine⟨_,_,.slice (some ⟨w.heap.size,0,none⟩) t.length cap,this.1,(Ext.draw (w.drawn+1)).trans this.2,?_,?_⟩
      ·have hs:(⟨t.toArray⟩:ByteArray).size=t.length:=rfl;have hd:((⟨t.toArray⟩:ByteArray).data.map fun b=>(Value.int .u8 b.toNat))=els.toArray:=by apply Array.ext'; simp [els]
       have hconv:(convert src dst (.string ⟨t.toArray⟩)).run P w=(Conv.stringToBytes e ⟨t.toArray⟩).run P w:=by
        simp only [convert,bw,bK e1,bK e2,br];cases d <;> simp only [bw,bK he,br]
       rw [hconv];simp only [Conv.stringToBytes,bw,hs,run_choose,Question.forced,gd,dn,br,newRow,run_newObj,bT,hd];have hsh:World.shape? { heap:=w.heap.push (.cells c e (0,0)),tape:=w.tape,drawn:=w.drawn+1,os:=w.os,output:=w.output } w.heap.size=some (e,cap):=by
        simp [World.shape?,hcs]
       have hfr:World.freeze { heap:=w.heap.push (.cells c e (0,0)),tape:=w.tape,drawn:=w.drawn+1,os:=w.os,output:=w.output } { block:=w.heap.size,off:=cap } 1 =
         { heap:=w.heap.push (.cells c e (cap,cap+1)),tape:=w.tape,drawn:=w.drawn+1,os:=w.os,output:=w.output }:=by
        simp only [World.freeze];rw [av aI,Xk];simp
       rw [X6 (P:=P) (a:=⟨w.heap.size,0,none⟩) hsh];simp only [br];rw [hfr]
      ·simp only [VR];exact .inl ⟨w.heap.size,0,cap,by simp [Ren.put],by omega,by simp⟩
 ·simp at h
theorem LZ (t:List UInt8):∀ (k i:Nat) (acc:Array Value),Conv.runesFrom ⟨t.toArray⟩ k i acc=acc++((rS t k i).map (Value.int .i32)).toArray
 | 0,i,acc=>by simp [Conv.runesFrom,rS]
 | k+1,i,acc=>by
   have hs:(⟨t.toArray⟩:ByteArray).size=t.length:=rfl;rw [Conv.runesFrom,rS,hs];by_cases h:i < t.length
   ·rw [aB h,aB h];simp only;rw [LZ t k];apply Array.ext';simp
   ·rw [av h,av h]; simp
theorem Xz {W0:World} {s s':St} {w:World} (hI:Inv W0 r s w) {src dst:TypeId} {x l:LV} {u:Value} (h:Af P s src dst x=some (l,s')) (hx:VR r x u) :
  ∃ r' w' q,Inv W0 r' s' w'∧Ext r s w r' s' w'∧(convert src dst u).run P w=.ok q w'∧VR r' l q:=by
 unfold Af at h;split at h
 ·rename_i d e t e1 e2;cases hc:(n8 P e && Nat.ble t.length 1000000) with
  | false=>simp [hc] at h
  | true =>
    simp only [hc,aw] at h;simp only [bg] at hc;have he:=Fw hc.1;simp only [VR] at hx; subst hx;have hfr0:Conv.runesFrom ⟨t.toArray⟩ (⟨t.toArray⟩:ByteArray).size 0 #[]=((qr t).map (Value.int .i32)).toArray:=by
     rw [LZ]; simp [qr]; rfl
    generalize qr t=R at *;cases hw:s.new (.cells (R.map fun n=>.int .i32 n) (some 1)) with
    | none=>simp [hw] at h
    | some s1 =>
      simp [hw] at h;obtain⟨rfl,rfl⟩:=h
      let cap:=(Question.appendCap R.length 0 e).cut (w.tape w.drawn (.appendCap R.length 0 e))
      have hcap:R.length≤cap:=by simp [cap,Question.cut]
      let els:List Value:=R.map (Value.int .i32)
      let c:Array Value:=els.toArray++Array.replicate (cap - R.length) (.int .i32 0)
      have hcs:c.size=cap:=by simp [c,els]; omega
      have hv:VRs r (R.map fun n=>LV.int .i32 n) els:=by
       refine VRs.mk (by simp [els]) fun i l hi=>?_
       simp at hi;obtain⟨b,h1,rfl⟩:=hi;exact⟨.int .i32 b,by simp [els]; exact h1,by simp [VR]⟩
      have:=(hI.draw (w.drawn+1)).newCells (c:=c) (e:=e) (f:=(0,0)) (k:=cap) hw hv (by simp [LV.plain])
       (fun i q hq=>by
        have hlt:=(bU.1 hq).1;simp only [c];rw [sv (by simpa using hlt)];simpa using hq)
       (fun i hi h=>absurd h.2 (Nat.not_lt_zero _)) (by simp [dv,hcs])
       (fun q hq=>by
        simp only [c,Array.toList_append,gz] at hq;rcases hq with hq | hq
        ·simp [els] at hq; obtain⟨b,_,rfl⟩:=hq; rfl
        ·simp at hq; rw [hq.2]; rfl)
       (by simp [dv]; exact hcap)
      refine⟨_,_,.slice (some ⟨w.heap.size,0,none⟩) R.length cap,this.1,(Ext.draw (w.drawn+1)).trans this.2,?_,?_⟩
      ·have hz:els.toArray.size=R.length:=by simp [els]
       have hconv:(convert src dst (.string ⟨t.toArray⟩)).run P w=(Conv.stringToRunes e ⟨t.toArray⟩).run P w:=by
        simp only [convert,bw,bK e1,bK e2,br];cases d <;> simp only [bw,bK he,br]
       rw [hconv];unfold Conv.stringToRunes;rw [hfr0];simp only [bw,sw,ii,run_choose,Question.forced,gd,dn,br,newRow,run_newObj,bT];rfl
      ·simp only [VR];exact .inl ⟨w.heap.size,0,cap,by simp [Ren.put],by omega,by simp⟩
 ·simp at h
theorem Xy {W0:World} {s s':St} {w:World} (hI:Inv W0 r s w) {src dst:TypeId} {x l:LV} {u:Value} (h:vl P s src dst x=some (l,s')) (hx:VR r x u) :
  ∃ r' w' q,Inv W0 r' s' w'∧Ext r s w r' s' w'∧(convert src dst u).run P w=.ok q w'∧VR r' l q:=by
 unfold vl at h;split at h
 ·rename_i p e;simp at h; subst h;exact Xr hI e hx
 ·exact Xz hI h hx
theorem Inv.setIter {W0:World} {s s':St} {w:World} (h:Inv W0 r s w) {b:Nat} {t:List UInt8} {p p':Nat} (hb:s.h.get b=some (.iter t p)) {x:Nat×Nat×Nat} (hx:r b=some x) (hs:s.put b (.iter t p')=some s') :
  Inv W0 r s' { w with heap:=w.heap.setIfInBounds x.1 (.stringIter ⟨t.toArray⟩ p') }∧Ext r s w r s' { w with heap:=w.heap.setIfInBounds x.1 (.stringIter ⟨t.toArray⟩ p') }:=by
 obtain⟨hn,hg⟩:=St.i3h hs;obtain⟨y,hy,h0,hh⟩:=h.iter b t p hb;rw [hx] at hy; cases hy;have hd:=h.dom b x hx;have hlive:s.lives b:=⟨_,hb,rfl⟩;have how:=h.own b x hlive hx;have hlv:∀ b',s'.lives b'→s.lives b':=fun b' ⟨L,k1,k2⟩=>by
  rw [hg] at k1;by_cases e:b'=b
  ·subst e; exact hlive
  ·rw [av e] at k1; exact⟨L,k1,k2⟩
 have hot:∀ B,B≠x.1→(w.heap.setIfInBounds x.1 (.stringIter ⟨t.toArray⟩ p'))[B]? = w.heap[B]?:=fun B hB=>mX (Ne.symm hB)
 have hob:∀ b' F cs g,s'.h.get b'=some (.obj F cs g)→s.h.get b'=some (.obj F cs g):=fun b' F cs g k=>by
  rw [hg] at k;by_cases e:b'=b
  ·rw [aB e] at k; cases k
  ·rwa [av e] at k
 have hcl:¬ pG r s x.1:=h.ob.clear hlive hx (fun F cs g k=>by rw [hb] at k; cases k);refine⟨⟨⟨h.below.os,h.below.tape,h.below.output,by simpa using h.below.size,fun k hk=>?_⟩,fun b x hb=>by rw [hn]; simpa using h.dom b x hb,fun b x l=>h.own b x (hlv _ l),fun b' hb'=>?_,fun b1 b2 x1 x2 l1 l2=>h.inj b1 b2 x1 x2 (hlv _ l1) (hlv _ l2),fun b' ds op hb'=>?_,fun b' t' q hb'=>?_,by rw [St.i4f hs]; exact h.gl,fun b' cs hb'=>h.ro b' cs (by rw [hg] at hb'; by_cases e:b'=b; (rw [aB e] at hb'; cases hb'); (rw [av e] at hb'; exact hb')),h.ob.step r.le_refl hob (fun b' x' l1 hx'=>.inl ⟨hlv _ l1,hx'⟩) bH fun B hB=>hot B fun e=>hcl (e▸hB)⟩,
  ⟨r.le_refl,by omega,by simp,a4j.step h.ob r.le_refl hob fun b' x' l1 hx' _=>⟨b',x',hlv _ l1,hx',rfl⟩,fun B hB hno=>hot B fun e=>hno (.inl ⟨b,x,hlive,hx,e.symm⟩)⟩⟩
 ·simp only;rw [hot k aI]; exact h.below.block k hk
 ·rw [hg,av (by intro e; subst e; rw [h.fresh _ aI] at hb; cases hb)];exact h.fresh _ aI
 ·rw [hg] at hb';by_cases e:b'=b
  ·rw [aB e] at hb'; cases hb'
  ·rw [av e] at hb';rcases h.cells b' ds op hb' with k | ⟨x',k1,k2⟩
   ·exact .inl k
   exact .inr ⟨x',k1,k2.mono r.le_refl (hot _ fun he=>e (h.inj b' b x' x ⟨_,hb',rfl⟩ hlive k1 hx he))⟩
 ·rw [hg] at hb';by_cases e:b'=b
  ·subst e;simp at hb';obtain⟨rfl,rfl⟩:=hb';exact⟨x,hx,h0,by simp [hd.2]⟩
  ·rw [av e] at hb';obtain⟨x',k1,k0,k2⟩:=h.iter b' t' q hb';exact⟨x',k1,k0,by rw [← k2]; exact hot _ fun he=>e (h.inj b' b x' x ⟨_,hb',rfl⟩ hlive k1 hx he)⟩
theorem FS {f:Nat} {args:List LV} {n:LN} (h:tL P f args=some n) (us:Array Value) (w:World):n=.enter f args∧(callFunc f us).run P w=.ok (.enter f us) w:=by
 unfold tL at h;cases hf:P.funcs[f]? with
 | none=>simp [hf] at h
 | some fn =>
   simp only [hf] at h;cases hn:(fn.name == "runtime.NumGoroutine") with
   | true=>simp [hn] at h
   | false =>
     simp only [hn,aD] at h;cases hb:fn.body with
     | none=>simp [hb] at h
     | some c =>
       simp [hb] at h; subst h;exact⟨rfl,by simp only [callFunc,bw,run_program,br,hf,hn,gd,dn,hb,Option.isNone_some]; rfl⟩
def NR (r:Ren) (n:LN) (res:Result Next) (w:World):Prop :=
 match n with
 | .val l=>∃ v,res=.ok (.value v) w∧VR r l v
 | .skip=>res=.ok .skip w
 | .enter f args=>∃ us,res=.ok (.enter f us.toArray) w∧VRs r args us
theorem XO {x:LV} {u:Value} {name:String} {args:List LV} {us:List Value} {n:LN} (h:Aw P x name args=some n) (hx:VR r x u) (ha:VRs r args us) (w:World) :
  NR r n ((callMethod u name us.toArray).run P w) w:=by
 unfold Aw at h;split at h
 case h_2=>simp at h
 rename_i t v;simp only [VR] at hx;obtain⟨u',rfl,hv⟩:=hx;cases hi:P.info? t with
 | none=>simp [hi] at h
 | some i =>
   simp only [hi] at h;cases hm:i.methods.find? (·.name == name) with
   | none=>simp [hm] at h
   | some m =>
     simp only [hm] at h;have hmeth:∀ f pr,m.path.toList=[]→m.func=some (f,pr)→(∀ w',(receiverAt t (.val u') pr (if m.path.isEmpty then some ((name.splitOn ".").getLastD name) else none)).run P w'=.ok u' w') →
       (callMethod (.iface t u') name us.toArray).run P w=(callFunc f (#[u']++us.toArray)).run P w:=by
      intro f pr hp hf hr;have hdep:∃ k,P.types.size+Made.depth=k+1:=⟨P.types.size+Made.depth - 1,by simp [Made.depth]⟩;obtain⟨k,hk⟩:=hdep;simp only [callMethod,bw,run_program,br,hk,method,yv hi,hm,hp,follow,bT,hf,hr]
     split at h
     ·rename_i f el hp hf hu;obtain⟨rfl,hc⟩:=FS h (#[u']++us.toArray) w;rw [hmeth f true hp hf fun w'=>by simp [receiverAt,bK hu,Place.get]];exact⟨u'::us,by rw [hc]; simp,by simp only [VRs]; exact⟨_,_,rfl,hv,ha⟩⟩
     ·rename_i f d hp hf hu;have hd:∀ e,d≠.pointer e:=by intro e he; subst he; simp at h
      have h':tL P f (v::args)=some n:=by
       cases d <;> first | exact h | exact absurd rfl (hd _)
      obtain⟨rfl,hc⟩:=FS h' (#[u']++us.toArray) w;rw [hmeth f false hp hf fun w'=>by
       simp only [receiverAt,bw,bK hu,br];cases d <;> first | rfl | exact absurd rfl (hd _)]
      exact⟨u'::us,by rw [hc]; simp,by simp only [VRs]; exact⟨_,_,rfl,hv,ha⟩⟩
     ·simp at h
theorem K1 {W0:World} {s s':St} {w:World} (hI:Inv W0 r s w) {ev:Operand→Option LV} {ρ : Operand→Value} (hev:∀ x l,ev x=some l→VR r l (ρ x)) {o:Oper} {n:LN}
  (h:gT P ev o.op s=some (n,s')):∃ r' w',Inv W0 r' s' w'∧Ext r s w r' s' w'∧NR r' n ((execOp ρ o).run P w) w':=by
 unfold gT at h;cases hL:bm o.op with
 | true =>
   simp only [hL] at h;cases hv:fH P ev o.op s with
   | none=>simp [hv] at h
   | some l =>
     simp [hv] at h;obtain⟨rfl,rfl⟩:=h;obtain⟨v,k1,k2⟩:=WY (P:=P) hI hev hv hL;exact⟨r,w,hI,Ext.refl _ _ _,v,k1,k2⟩
 | false =>
   simp only [hL] at h;obtain⟨dst,op,type,pos,after,guard⟩:=o;simp only at h hL;cases op <;> simp only at h <;> try (simp at h; done)
   case alloc t =>
    cases hz:mO P t with
    | none=>simp [hz] at h
    | some z =>
      simp only [hz] at h;cases hc:ow z with
      | none=>simp [hc] at h
      | some l =>
        simp only [hc] at h;cases hn:sY s l with
        | none=>simp [hn] at h
        | some p =>
          obtain⟨p,s1⟩:=p;simp [hn] at h;obtain⟨rfl,rfl⟩:=h;obtain⟨r',w',a,k1,k2,k3,k4⟩:=Lr (P:=P) (t:=t) hI hn (A7 hc);refine⟨r',w',k1,k2,_,?_,k4⟩;simp [execOp,Instr.alloc,A2 hz,k3]
   case box t x =>
    cases hc:ev x with
    | none=>simp [hc] at h
    | some l =>
      simp only [hc] at h;cases hn:sY s l with
      | none=>simp [hn] at h
      | some p =>
        obtain⟨p,s1⟩:=p;simp [hn] at h;obtain⟨rfl,rfl⟩:=h;obtain⟨r',w',a,k1,k2,k3,k4⟩:=Lr (P:=P) (t:=t) hI hn (hev _ _ hc);refine⟨r',w',k1,k2,_,?_,k4⟩;simp [execOp,Instr.box,k3]
   case buildSlice t len parts =>
    cases hp:lO ev parts.toList with
    | none=>simp [hp] at h
    | some ps =>
      simp only [hp] at h;cases hb:v5 P s t len ps with
      | none=>simp [hb] at h
      | some p =>
        obtain⟨p,s1⟩:=p;simp [hb] at h;obtain⟨rfl,rfl⟩:=h;obtain⟨r',w',v,k1,k2,k3,k4⟩:=X5 (P:=P) hI hb (A4 hev hp);refine⟨r',w',k1,k2,v,?_,k4⟩;have:(parts.map fun(i,x)=>(i,ρ x))=(parts.toList.map fun(i,x)=>(i,ρ x)).toArray:=by
         apply Array.ext'; simp
        simp only [execOp,this];simp [k3]
   case store t a x =>
    split at h
    ·rename_i b o v h1 h2;cases hs:vm P s t b o v with
     | none=>simp [hs] at h
     | some s1 =>
       simp [hs] at h;obtain⟨rfl,rfl⟩:=h;obtain⟨w',k1,k2,k3⟩:=XB (P:=P) hI hs (hev _ _ h1) (hev _ _ h2);refine⟨r,w',k2,k3,?_⟩;simp only [NR];simp [execOp,k1]
    ·simp at h
   case makeSlice t a b =>
    split at h
    ·rename_i x y h1 h2;cases hs:sf P s t x y with
     | none=>simp [hs] at h
     | some p =>
       obtain⟨p,s1⟩:=p;simp [hs] at h;obtain⟨rfl,rfl⟩:=h;obtain⟨r',w',v,k1,k2,k3,k4⟩:=X0 (P:=P) hI hs (hev _ _ h1) (hev _ _ h2);refine⟨r',w',k1,k2,v,?_,k4⟩;simp [execOp,k3]
    ·simp at h
   case convert src dst' x =>
    cases hc:ev x with
    | none=>simp [hc] at h
    | some a =>
      simp only [hc] at h;cases hl:oB P s src dst' a with
      | some v =>
        simp [hl] at h;obtain⟨rfl,rfl⟩:=h;obtain⟨q,k1,k2⟩:=XT (P:=P) hI hl (hev _ _ hc);exact⟨r,w,hI,Ext.refl _ _ _,q,by simp [execOp,k1],k2⟩
      | none =>
        simp only [hl] at h;cases hb:vl P s src dst' a with
        | none=>simp [hb] at h
        | some p =>
          obtain⟨p,s1⟩:=p;simp [hb] at h;obtain⟨rfl,rfl⟩:=h;obtain⟨r',w',q,k1,k2,k3,k4⟩:=Xy (P:=P) hI hb (hev _ _ hc);exact⟨r',w',k1,k2,q,by simp [execOp,k3],k4⟩
   case range t x =>
    split at h
    ·rename_i l hu h1;cases hs:s.new (.iter l 0) with
     | none=>simp [hs] at h
     | some s1 =>
       simp [hs] at h;obtain⟨rfl,rfl⟩:=h;have hx:=hev _ _ h1;simp only [VR] at hx;have:=hI.new hs (.stringIter ⟨l.toArray⟩ 0) 0 (fun cs op he=>by cases he) (fun t p he=>by cases he; rfl) (fun cs he=>by cases he) (fun F cs g he=>by cases he);refine⟨_,_,this.1,this.2,.pointer (some ⟨w.heap.size,0,none⟩),?_,?_⟩
       ·simp [execOp,Instr.range,bK hu,hx]
       ·simp only [VR];exact⟨_,0,0,by simp [Ren.put],rfl⟩
    ·simp at h
   case next it str =>
    split at h
    ·rename_i b h1;split at h
     ·rename_i l pos hb;have hx:=hev _ _ h1;simp only [VR] at hx;obtain⟨B,q,c,hr,hx⟩:=hx;obtain⟨y,hy,h0,hh⟩:=hI.iter b l pos hb;rw [hr] at hy; cases hy;simp only at h0 hh;subst h0;simp only [gA] at hx;have hsz:(⟨l.toArray⟩:ByteArray).size=l.length:=rfl;cases hlt:Nat.ble (pos+1) l.length with
      | true =>
        have hlt':=aS hlt;simp only [hlt,aw] at h;generalize hd:Utf8.decode ⟨l.toArray⟩ pos=cw at h;obtain⟨ch,width⟩:=cw;simp only at h;cases hs:s.put b (.iter l (pos+width)) with
        | none=>simp [hs] at h
        | some s1 =>
          simp [hs] at h;obtain⟨rfl,rfl⟩:=h;have:=hI.setIter hb hr hs;refine⟨_,_,this.1,this.2,.tuple #[.bool true,.int .i64 pos,.int .i32 ch],?_,?_⟩
          ·simp only [execOp,hx,Instr.next,bw,getObj,Sem.run,hh,br,hsz,hd,aB (show pos < l.length by omega),setObj,goInt];simp
          ·simp only [VR];exact⟨[.bool true,.int .i64 pos,.int .i32 ch],rfl,by simp [VRs,VR]⟩
      | false =>
        simp [hlt] at h;obtain⟨rfl,rfl⟩:=h;have hge:¬ pos < l.length:=by
         intro h2;rw [dh (show pos+1≤l.length by omega)] at hlt;cases hlt
        refine⟨r,w,hI,Ext.refl _ _ _,.tuple #[.bool false],?_,?_⟩
        ·simp only [execOp,hx,Instr.next,bw,getObj,Sem.run,hh,br,hsz,av hge];simp
        ·simp only [VR];exact⟨[.bool false],rfl,by simp [VRs,VR]⟩
     ·simp at h
    ·simp at h
   case call c =>
    obtain⟨callee,args,argTypes⟩:=c;unfold rL at h;simp only at h;cases ha:kV ev args.toList with
    | none=>simp [ha] at h
    | some ls =>
      simp only [ha] at h;have hv:=vV hev ha;have ea:args.map ρ = (args.toList.map ρ).toArray:=by apply Array.ext'; simp
      cases callee with
      | value f =>
        simp only at h;split at h
        ·rename_i g caps hf;have hfv:=hev _ _ hf;simp only [VR] at hfv;obtain⟨us,e,hcs⟩:=hfv;cases hc:tL P g (ls++caps) with
         | none=>simp [hc] at h
         | some n' =>
           simp [hc] at h;obtain⟨rfl,rfl⟩:=h;obtain⟨rfl,k1⟩:=FS hc ((args.toList.map ρ++us).toArray) w;refine⟨r,w,hI,Ext.refl _ _ _,args.toList.map ρ++us,?_,hv.append hcs⟩;rw [← k1];simp only [execOp,resolve,e,ea,Deferred.ofValue,pure_bind,invoke];simp
        ·simp at h
      | invoke recv name =>
        simp only at h;cases hx:ev recv with
        | none=>simp [hx] at h
        | some x =>
          simp only [hx] at h;cases hc:Aw P x name ls with
          | none=>simp [hc] at h
          | some n' =>
            simp [hc] at h;obtain⟨rfl,rfl⟩:=h;have k1:=XO hc (hev _ _ hx) hv w;refine⟨r,w,hI,Ext.refl _ _ _,?_⟩;have:(execOp ρ { dst:=dst,op:=.call { callee:=.invoke recv name,args:=args,argTypes:=argTypes },type:=type,pos:=pos,after:=after,guard:=guard })=callMethod (ρ recv) name ((args.toList.map ρ).toArray):=by
             simp only [execOp,resolve,ea,pure_bind,invoke];have ht:List.take args.size (args.toList.map ρ)=args.toList.map ρ:=List.take_of_length_le bH;simp [ht]
            rw [this];exact k1
      | builtin b =>
        simp only at h;split at h
        ·rename_i x;simp [bm] at hL
        iterate 2
         ·simp [bm] at hL
        ·rename_i x y;cases hc:vw P s argTypes.toList x y with
         | none=>simp [hc] at h
         | some p =>
           obtain⟨p,s1⟩:=p;simp [hc] at h;obtain⟨rfl,rfl⟩:=h;simp only [VRs] at hv;obtain⟨u1,us1,e1,hx1,u2,us2,e2,hx2,e3⟩:=hv;subst e3 e2;obtain⟨r',w',q,k1,k2,k3,k4⟩:=XM (P:=P) (ty:=type) hI hc hx1 hx2;refine⟨r',w',k1,k2,q,?_,k4⟩;simp only [execOp,resolve,ea,e1,pure_bind,invoke,builtin];simp only [sy] at k3;simp [k3]
        ·rename_i x y;cases hc:uY P s argTypes.toList x y with
         | none=>simp [hc] at h
         | some p =>
           obtain⟨p,s1⟩:=p;simp [hc] at h;obtain⟨rfl,rfl⟩:=h;simp only [VRs] at hv;obtain⟨u1,us1,e1,hx1,u2,us2,e2,hx2,e3⟩:=hv;subst e3 e2;obtain⟨w',q,k1,k2,k3,k4⟩:=Xf (P:=P) (ty:=type) hI hc hx1 hx2;refine⟨r,w',k1,k2,q,?_,k4⟩;simp only [execOp,resolve,ea,e1,pure_bind,invoke,builtin];simp only [sy] at k3;simp [k3]
        ·simp at h
end
section
open Go.RowKit
variable {P:Program} {r:Ren}
theorem Jg (look:Nat→Nat):∀ (l:List Edge) (s j:Nat),(l.foldl (fun s e=>if Region.binds .any e then s ||| 2 ^ e.on ||| look e.on else s) s).testBit j=true →
  s.testBit j=true∨∃ e∈l,Region.binds .any e=true∧(j=e.on∨(look e.on).testBit j=true)
 | [],s,j,h=>.inl h
 | e::l,s,j,h=>by
   rw [sA] at h;rcases Jg look l _ j h with h1 | ⟨e',h1,h2⟩
   ·by_cases hb:Region.binds .any e=true
    ·rw [aB hb,Nat.testBit_or,Nat.testBit_or,lV,lV,su] at h1;rcases h1 with(h1 | h1) | h1
     ·exact .inl h1
     ·exact .inr ⟨e,by simp,hb,.inl (by simpa using (Eq.symm (by simpa using h1)))⟩
     ·exact .inr ⟨e,by simp,hb,.inr h1⟩
    ·rw [av hb] at h1; exact .inl h1
   ·exact .inr ⟨e',by simp [h1],h2⟩
theorem KT (one:(Nat→Nat)→Oper→Nat):∀ (l:List Oper) (A:Array Nat),
  (∀ m,m < A.size→(l.foldl (fun acc o=>acc.push (one (fun i=>acc.getD i 0) o)) A).getD m 0=A.getD m 0) ∧
  ∀ (k:Nat) o,l[k]? = some o→∃ A':Array Nat,A'.size=A.size+k∧(∀ m,m < A.size+k→(l.foldl (fun acc o=>acc.push (one (fun i=>acc.getD i 0) o)) A).getD m 0=A'.getD m 0) ∧
    (l.foldl (fun acc o=>acc.push (one (fun i=>acc.getD i 0) o)) A).getD (A.size+k) 0=one (fun i=>A'.getD i 0) o
 | [],A=>⟨fun m hm=>rfl,fun k o h=>by simp at h⟩
 | x::l,A=>by
   rw [sA];obtain⟨h1,h2⟩:=KT one l (A.push (one (fun i=>A.getD i 0) x));have hp:∀ m,m < A.size→(A.push (one (fun i=>A.getD i 0) x)).getD m 0=A.getD m 0:=fun m hm=>by
    simp [Array.getD,hm,Nat.lt_succ_of_lt hm,Array.getElem_push_lt hm]
   refine⟨fun m hm=>by rw [h1 m (by simp; omega),hp m hm],fun k o hk=>?_⟩;cases k with
   | zero =>
     simp at hk; subst hk;exact⟨A,rfl,fun m hm=>by rw [h1 m (by simp; omega),hp m aI],by rw [h1 _ bH]; simp [Array.getD]⟩
   | succ k =>
     simp at hk;obtain⟨A',g1,g2,g3⟩:=h2 k o hk;simp only [Array.size_push] at g1 g2 g3;exact⟨A',by omega,fun m hm=>g2 m aI,by rw [← g3]; congr 1; omega⟩
theorem qK {ops:Array Oper} (h:lL ops=true) {i:Nat} {o:Oper} (ho:ops[i]? = some o):∀ e∈o.after,Region.binds .any e=true→e.on < i:=by
 intro e he hb;unfold lL at h;rw [j_] at h;have hm:(o,i)∈ops.toList.zipIdx:=by
  rw [wh];simpa using ho
 have:=h _ hm;rw [Array.all_eq_true_iff_forall_mem] at this;have:=this e he;simpa [hb] using this
theorem Lm {ops:Array Oper} (hl:lL ops=true) {i j:Nat} {o:Oper} (ho:ops[i]? = some o) (h:((Go.CheckFast.beforeF ops).getD i 0).testBit j=true) :
  ∃ e∈o.after,Region.binds .any e=true∧(j=e.on∨((Go.CheckFast.beforeF ops).getD e.on 0).testBit j=true):=by
 rw [Go.CheckFast.beforeF_eq] at *;have hb:Region.before ops=ops.toList.foldl (fun acc o=>acc.push (Go.CheckFast.one (fun i=>acc.getD i 0) o)) #[]:=by
  unfold Region.before;rw [← Array.foldl_toList];rfl
 obtain⟨_,h2⟩:=KT Go.CheckFast.one ops.toList #[];obtain⟨A',g1,g2,g3⟩:=h2 i o (by simpa using ho);rw [← hb] at g2 g3;simp only [sw,eU,bV] at g1 g2 g3;rw [g3] at h;unfold Go.CheckFast.one at h;rw [← Array.foldl_toList] at h;rcases Jg (fun i=>A'.getD i 0) _ _ _ h with h1 | ⟨e,k1,k2,k3⟩
 ·simp at h1
 ·refine⟨e,by simpa using k1,k2,k3.imp id fun k4=>?_⟩;rw [g2 e.on (qK hl ho e (by simpa using k1) k2)];exact k4
theorem AY {ops:Array Oper} (hl:lL ops=true):∀ (i j:Nat) {o:Oper},ops[i]? = some o→((Go.CheckFast.beforeF ops).getD i 0).testBit j=true→j < i:=by
 intro i
 induction i using Nat.strongRecOn with
 | _ i ih =>
   intro j o ho h;obtain⟨e,h1,h2,h3⟩:=Lm hl ho h;have hlt:=qK hl ho e h1 h2;rcases h3 with rfl | h3
   ·exact hlt
   ·have hsz:i < ops.size:=(ft.1 ho).1;exact Nat.lt_trans (ih e.on hlt j (mr (show e.on < ops.size by omega)) h3) hlt
theorem t6 {ops:Array Oper} (hl:lL ops=true) {D:Nat→Prop} (hD:∀ i o,D i→ops[i]? = some o→∀ e∈o.after,Region.binds .any e=true→D e.on) :
  ∀ (i j:Nat) {o:Oper},ops[i]? = some o→(∀ e∈o.after,Region.binds .any e=true→D e.on)→((Go.CheckFast.beforeF ops).getD i 0).testBit j=true→D j:=by
 intro i
 induction i using Nat.strongRecOn with
 | _ i ih =>
   intro j o ho hi h;obtain⟨e,h1,h2,h3⟩:=Lm hl ho h;have hlt:=qK hl ho e h1 h2;rcases h3 with rfl | h3
   ·exact hi e h1 h2
   ·have hsz:i < ops.size:=(ft.1 ho).1;have hoe:ops[e.on]? = some (ops[e.on]'(by omega)):=mr aI;exact ih e.on hlt j hoe (fun e' he' hb'=>hD e.on _ (hi e h1 h2) hoe e' he' hb') h3
theorem rY:VR r .undef Go.undef:=by
 simp only [LV.undef,VR,Go.undef];exact⟨[],rfl,by simp [VRs]⟩
structure AR (r:Ren) (f:Nat→LV) (nt:Nat) (a:Act):Prop where
 size:a.tmps.size=nt
 defers:a.defers=[]
 get:∀ t,t < nt→∃ v,a.tmps[t]? = some v∧VR r (f t) v
 out:∀ t,nt≤t→f t=.undef
theorem AR.mono {r r':Ren} {f:Nat→LV} {nt:Nat} {a:Act} (h:AR r f nt a) (hr:r.le r'):AR r' f nt a :=
 ⟨h.size,h.defers,fun t ht=>let ⟨v,h1,h2⟩:=h.get t ht; ⟨v,h1,h2.mono hr⟩,h.out⟩
theorem AR.eval {f:Nat→LV} {nt:Nat} {a:Act} (h:AR r f nt a):∀ x l,f9 f x=some l→VR r l (a.eval x):=by
 intro x l hx;cases x with
 | tmp t =>
   simp [f9] at hx; subst hx;simp only [Act.eval];by_cases ht:t < nt
   ·obtain⟨v,h1,h2⟩:=h.get t ht;simp [h1]; exact h2
   ·have ht:=Nat.le_of_not_lt ht;rw [h.out t ht];have:a.tmps[t]? = none:=Array.getElem?_eq_none (by rw [h.size]; exact ht);simp only [Array.getD_eq_getD_getElem?,this,Option.getD_none];exact rY
 | const v=>exact A7 hx
 | func f'=>simp [f9] at hx; subst hx; simp only [VR,Act.eval]; exact⟨[],rfl,by simp [VRs]⟩
 | global g=>simp [f9] at hx; subst hx; simp [VR,Act.eval]
theorem pD {nt:Nat} {tm tm':Tm} {dst:Option Nat} {v:LV} (h:md nt tm dst v=some tm') :
  (∀ d,dst=some d→d < nt)∧∀ t,aQ tm' t=if dst=some t then v else aQ tm t:=by
 unfold md at h;cases dst with
 | none=>simp at h; subst h; exact⟨by simp,by simp⟩
 | some d =>
   simp only at h;cases hb:Nat.ble (d+1) nt with
   | false=>simp [hb] at h
   | true =>
     simp [hb] at h;have hlt:=aS hb;refine⟨by simp; omega,fun t=>?_⟩;simp only [aQ,Tr.i4h _ _ _ _ _ h t];by_cases e:t=d
     ·subst e; simp
     ·simp [e,Ne.symm e]
theorem AR.put {f g:Nat→LV} {nt:Nat} {a:Act} (h:AR r f nt a) {dst:Option Nat} {v:LV} {u:Value} (hv:VR r v u) (hd:∀ d,dst=some d→d < nt) (hg:∀ t,g t=if dst=some t then v else f t) :
  AR r g nt (a.put dst u):=by
 cases dst with
 | none =>
   have:g=f:=funext fun t=>by simp [hg]
   subst this; exact h
 | some d =>
   have hlt:=hd d rfl;refine⟨by simp [Act.put,h.size],by simp [Act.put,h.defers],fun t ht=>?_,fun t ht=>?_⟩
   ·rw [hg];by_cases e:d=t
    ·subst e; simp only [eR];exact⟨u,by simp [Act.put,h.size,hlt],hv⟩
    ·rw [av (by simpa using e)];obtain⟨x,h1,h2⟩:=h.get t ht;exact⟨x,by simp only [Act.put]; rw [mX e]; exact h1,h2⟩
   ·rw [hg,av (by simp; omega)]; exact h.out t ht
theorem AR.wanted {f:Nat→LV} {nt:Nat} {a:Act} (h:AR r f nt a) (ops:Array Oper) (o:Oper) (hga:mh ops f o=false):lP ops f o=Region.wanted o (yielded ops a.tmps):=by
 unfold lP Region.wanted;unfold mh at hga;cases hog:o.guard with
 | none=>rfl
 | some jw =>
   obtain⟨j,want⟩:=jw;simp only [hog] at hga ⊢;unfold yielded;cases hj:ops[j]? with
   | none=>simp
   | some g =>
     simp only [Option.bind_some,hj] at hga ⊢;cases hd:g.dst with
     | none=>simp
     | some d =>
       simp only [Option.bind_some,hd] at hga ⊢;by_cases ht:d < nt
       ·obtain⟨v,h1,h2⟩:=h.get d ht;rw [h1];generalize f d=l at h2 hga;cases l <;> simp only [VR,ie] at h2 <;> first
         | (simp at hga; done)
         | ((rcases h2 with rfl | ⟨_,rfl⟩ <;> rfl); done)
         | (subst h2; rename_i b; cases b <;> cases want <;> rfl)
         | (subst h2; rfl)
         | (obtain⟨B,q,c,_,rfl⟩:=h2; rfl)
         | (rcases h2 with⟨B,q,c,_,_,rfl⟩ | ⟨_,rfl | ⟨_,rfl⟩⟩ <;> rfl)
         | (obtain⟨_,_,_,_,_,rfl⟩:=h2; rfl)
         | (obtain⟨us,rfl,_⟩:=h2; rfl)
       ·have ht:=Nat.le_of_not_lt ht;rw [h.out d ht,Array.getElem?_eq_none (by rw [h.size]; exact ht)];simp [LV.undef]
def qo (P:Program) (call:Nat→List LV→St→Option (LV×St)):Prop :=
 ∀ (W0:World) (r:Ren) (f:Nat) (args:List LV) (s s':St) (l:LV) (w:World) (us:List Value),call f args s=some (l,s')→Inv W0 r s w→VRs r args us →
   Calls P f us.toArray w fun e w'=>∃ v r',e=.returned v∧VR r' l v∧Inv W0 r' s' w'∧Ext r s w r' s' w'
theorem A5 {call:Nat→List LV→St→Option (LV×St)} (hcall:qo P call) {W0:World} {s s':St} {w:World} (hI:Inv W0 r s w) {ops:Array Oper} {f:Nat→LV} {nt:Nat} {a:Act} (hA:AR r f nt a)
  {i:Nat} {o:Oper} (ho:ops[i]? = some o) {v:LV} (h:dH call P ops f o s=some (v,s')) {Q:Exit→Act→World→Prop} {K:Act→World→Prop}
  (hK:∀ r' w' u,Inv W0 r' s' w'→Ext r s w r' s' w'→VR r' v u→K (a.put o.dst u) w'):wpOp P ops Q i K a w:=by
 unfold wpOp;simp only [ho];unfold dH at h;cases hga:mh ops f o with
 | true=>rw [hga] at h; cases h
 | false =>
 simp only [hga] at h;rw [hA.wanted ops o hga] at h;cases hw:Region.wanted o (yielded ops a.tmps) with
 | false =>
   simp [hw] at h;obtain⟨rfl,rfl⟩:=h;simp only [gd,dn];exact hK r w undef hI (Ext.refl _ _ _) rY
 | true =>
   simp only [hw] at h;simp only [eR]
   left
   unfold Oper.wp;cases hop:gT P (f9 f) o.op s with
   | none=>simp [hop] at h
   | some p =>
     obtain⟨n,s1⟩:=p;simp only [hop] at h;obtain⟨r',w',k1,k2,k3⟩:=K1 (P:=P) (ρ:=a.eval) hI hA.eval hop;cases n with
     | val l =>
       simp at h;obtain⟨rfl,rfl⟩:=h;obtain⟨u,e,hv⟩:=k3;rw [e];exact hK r' w' u k1 k2 hv
     | skip =>
       simp at h;obtain⟨rfl,rfl⟩:=h;simp only [NR] at k3;rw [k3];exact hK r' w' undef k1 k2 rY
     | enter g args =>
       obtain⟨us,e,hv⟩:=k3;rw [e];simp only [Oper.upon];refine(hcall W0 r' g args s1 s' v w' us h k1 hv).mono fun e w'' ⟨u,r'',he,hu,hi,hx⟩=>?_
       subst he;exact hK r'' w'' u hi (k2.trans hx) hu
def fM (R:List Rc) (tm':Tm) (k:Nat):Tm:=match R[k]? with | some rc=>rc.tm | none=>tm'
def cX (R:List Rc) (s':St) (k:Nat):St:=match R[k]? with | some rc=>rc.s | none=>s'
theorem AM {call:Nat→List LV→St→Option (LV×St)} {nt:Nat} {ops:Array Oper}:∀ {rest:List Oper} {tm tm':Tm} {s s':St} {rs rs':List Rc},jk call P nt ops rest tm s rs=some (tm',s',rs') →
  ∃ R:List Rc,rs'=R.reverse++rs∧R.length=rest.length∧fM R tm' 0=tm∧cX R s' 0=s ∧
    ∀ k o,rest[k]? = some o→∃ rc,R[k]? = some rc∧dH call P ops (aQ rc.tm) o rc.s=some (rc.v,cX R s' (k+1))∧md nt rc.tm o.dst rc.v=some (fM R tm' (k+1))
 | [],tm,tm',s,s',rs,rs',h=>by
   simp [jk] at h;obtain⟨rfl,rfl,rfl⟩:=h;exact⟨[],rfl,rfl,rfl,rfl,fun k o hk=>by simp at hk⟩
 | o::rest,tm,tm',s,s',rs,rs',h=>by
   simp only [jk] at h;cases h1:dH call P ops (aQ tm) o s with
   | none=>simp [h1] at h
   | some p =>
     obtain⟨v,s1⟩:=p;simp only [h1] at h;cases h2:md nt tm o.dst v with
     | none=>simp [h2] at h
     | some tm1 =>
       simp only [h2] at h;obtain⟨R,g1,g2,g3,g4,g5⟩:=AM h;have ht:∀ k,fM (⟨tm,s,v⟩::R) tm' (k+1)=fM R tm' k:=fun k=>by simp [fM]
       have hs:∀ k,cX (⟨tm,s,v⟩::R) s' (k+1)=cX R s' k:=fun k=>by simp [cX]
       refine⟨⟨tm,s,v⟩::R,by simp [g1],by simp [g2],rfl,rfl,fun k o' hk=>?_⟩;cases k with
       | zero =>
         simp at hk; subst hk;exact⟨_,rfl,by rw [hs,g4]; exact h1,by rw [ht,g3]; exact h2⟩
       | succ k =>
         simp at hk;obtain⟨rc,q1,q2,q3⟩:=g5 k o' hk;exact⟨rc,by simpa using q1,by rw [hs]; exact q2,by rw [ht]; exact q3⟩
theorem Lt {call:Nat→List LV→St→Option (LV×St)} (hcall:qo P call) {W0:World} {nt:Nat} {ops:Array Oper} {Q:Exit→Act→World→Prop}:∀ {rest:List Oper} {r:Ren} {tm tm':Tm} {s s':St} {w:World} {a:Act} {rs rs':List Rc} (k:Nat),(∀ j,rest[j]? = ops[k+j]?) →
  jk call P nt ops rest tm s rs=some (tm',s',rs')→Inv W0 r s w→AR r (aQ tm) nt a →
  (∀ r' a' w',Inv W0 r' s' w'→Ext r s w r' s' w'→AR r' (aQ tm') nt a'→Q .normal a' w')→wpOps P ops Q (List.range' k rest.length) a w
 | [],r,tm,tm',s,s',w,a,rs,rs',k,hk,h,hI,hA,hQ=>by
   simp [jk] at h;obtain⟨rfl,rfl,rfl⟩:=h;simpa [wpOps] using hQ r a w hI (Ext.refl _ _ _) hA
 | o::rest,r,tm,tm',s,s',w,a,rs,rs',k,hk,h,hI,hA,hQ=>by
   simp only [jk] at h;cases h1:dH call P ops (aQ tm) o s with
   | none=>simp [h1] at h
   | some p =>
     obtain⟨v,s1⟩:=p;simp only [h1] at h;cases h2:md nt tm o.dst v with
     | none=>simp [h2] at h
     | some tm1 =>
       simp only [h2] at h;obtain⟨p1,p2⟩:=pD h2;have ho:ops[k]? = some o:=by simpa using (hk 0).symm
       rw [cZ,List.range'_succ,wpOps_cons];refine A5 hcall hI hA ho h1 fun r' w' u hI' hE' hv=>?_
       exact Lt hcall (k+1) (fun j=>by have:=hk (j+1); simp at this; rw [this]; congr 1; omega) h hI' ((hA.mono hE'.le).put hv p1 p2)
        fun r'' a'' w'' hI'' hE'' hA''=>hQ r'' a'' w'' hI'' (hE'.trans hE'') hA''
end
section
open Go.RowKit
variable {P:Program} {r:Ren}
mutual
theorem LV.i3j:∀ {a b:LV},LV.eqb a b=true→a=b
 | .bool a,b,h=>by cases b <;> simp_all [LV.eqb]
 | .int j a,b,h=>by cases b <;> simp_all [LV.eqb]
 | .str a,b,h=>by cases b <;> simp_all [LV.eqb]
 | .nilp,b,h=>by cases b <;> simp_all [LV.eqb]
 | .ptr a c,b,h=>by cases b <;> simp_all [LV.eqb,b7]
 | .gptr a c,b,h=>by cases b <;> simp_all [LV.eqb,b7]
 | .nils,b,h=>by cases b <;> simp_all [LV.eqb]
 | .sl _ _ _ _,b,h=>by cases b <;> simp_all [LV.eqb,b7]
 | .slo _ _ _ _,b,h=>by cases b <;> simp_all [LV.eqb,b7]
 | .sle,b,h=>by cases b <;> simp_all [LV.eqb]
 | .any,b,h=>by cases b <;> simp_all [LV.eqb]
 | .unb,b,h=>by cases b <;> simp_all [LV.eqb]
 | .val x,b,h=>by
   cases b <;> simp only [LV.eqb] at h <;> try (cases h; done)
   rw [@of_decide_eq_true _ (Classical.propDecidable _) h]
 | .sln _,b,h=>by cases b <;> simp_all [LV.eqb]
 | .vp _ _,b,h=>by cases b <;> simp_all [LV.eqb]
 | .fact _,b,h=>by cases b <;> simp_all [LV.eqb]
 | .fn f a,b,h=>by
   cases b <;> simp only [LV.eqb] at h <;> try (cases h; done)
   rw [bg] at h;rw [bQ h.2,show f=_ by simpa [b7] using h.1]
 | .nilFunc,b,h=>by cases b <;> simp_all [LV.eqb]
 | .nilIface,b,h=>by cases b <;> simp_all [LV.eqb]
 | .iface t a,b,h=>by
   cases b <;> simp only [LV.eqb] at h <;> try (cases h; done)
   rw [bg] at h;rw [LV.i3j h.2,show t=_ by simpa [b7] using h.1]
 | .agg a,b,h=>by
   cases b <;> simp only [LV.eqb] at h <;> try (cases h; done)
   rw [bQ h]
 | .tup a,b,h=>by
   cases b <;> simp only [LV.eqb] at h <;> try (cases h; done)
   rw [bQ h]
theorem bQ:∀ {a b:List LV},aU a b=true→a=b
 | [],b,h=>by cases b <;> simp_all [aU]
 | x::xs,b,h=>by
   cases b <;> simp only [aU] at h <;> try (cases h; done)
   rw [bg] at h;rw [LV.i3j h.1,bQ h.2]
end
theorem A_ {ev ev':Operand→Option LV}:∀ {xs:List Operand},(∀ x∈xs,ev x=ev' x)→kV ev xs=kV ev' xs
 | [],h=>rfl
 | x::xs,h=>by simp only [kV]; rw [h x bH,A_ fun y hy=>h y (by simp [hy])]
theorem Bf {ev ev':Operand→Option LV}:∀ {xs:List (Nat×Operand)},(∀ x∈xs,ev x.2=ev' x.2)→lO ev xs=lO ev' xs
 | [],h=>rfl
 | (i,x)::xs,h=>by simp only [lO]; rw [h (i,x) bH,Bf fun y hy=>h y (by simp [hy])]
theorem FF {ev ev':Operand→Option LV} {x:Option Operand} (h:∀ y,x=some y→ev y=ev' y):mK ev x=mK ev' x:=by
 cases x with
 | none=>rfl
 | some y=>simp only [mK]; rw [h y rfl]
theorem Xe {ev ev':Operand→Option LV} {c:Call} (h:∀ x∈c.operands,ev x=ev' x) (s:St):rL P ev c s=rL P ev' c s:=by
 unfold rL;rw [A_ (xs:=c.args.toList) fun x hx=>h x (by simp [Call.operands,Array.mem_toList_iff.1 hx])];cases hc:c.callee with
 | value f=>simp only [h f (by simp [Call.operands,hc])]
 | invoke rv m=>simp only [h rv (by simp [Call.operands,hc])]
 | builtin b=>rfl
theorem WX {ev ev':Operand→Option LV} {o:Op} (h:∀ x∈o.operands,ev x=ev' x) (s:St):fH P ev o s=fH P ev' o s:=by
 cases o <;> simp only [Op.operands] at h <;> simp only [fH]
 case move x=>exact h x bH
 case assign x=>exact h x bH
 case pick c a b=>rw [h c bH,h a bH,h b bH]
 case build t ps=>rw [Bf (xs:=ps.toList) fun x hx=>h x.2 (by simp; exact⟨x.1,by simpa using hx⟩)]
 case load t a=>rw [h a bH]
 case nilCheck x=>rw [h x bH]
 case binOp op t x y t'=>rw [h x bH,h y bH]
 case unOp op t x=>rw [h x bH]
 case convert a b x=>rw [h x bH]
 case makeInterface t x=>rw [h x bH]
 case makeFunc fn first captured=>rw [A_ (xs:=captured.toList) fun x hx=>h x (by simp [Array.mem_toList_iff.1 hx])]
 case slice t x lo hi mx =>
  rw [h x bH,FF (x:=lo) fun y hy=>h y (by simp [hy]),FF (x:=hi) fun y hy=>h y (by simp [hy]),FF (x:=mx) fun y hy=>h y (by simp [hy])]
 case fieldAddr t x f=>rw [h x bH]
 case field t x f=>rw [h x bH]
 case indexAddr t x i=>rw [h x bH,h i bH]
 case index t x i=>rw [h x bH,h i bH]
 case typeAssert x a b c=>rw [h x bH]
 case extract t i=>rw [h t bH]
 case call c=>rw [A_ (xs:=c.args.toList) fun x hx=>h x (by simp [Call.operands,Array.mem_toList_iff.1 hx])]
theorem Ww {ev ev':Operand→Option LV} {o:Op} (h:∀ x∈o.operands,ev x=ev' x) (s:St):gT P ev o s=gT P ev' o s:=by
 unfold gT;rw [WX h s];cases bm o with
 | true=>rfl
 | false =>
   cases o <;> simp only [Op.operands] at h <;> simp only []
   case box t x=>rw [h x bH]
   case buildSlice t n ps=>rw [Bf (xs:=ps.toList) fun x hx=>h x.2 (by simp; exact⟨x.1,by simpa using hx⟩)]
   case store t a x=>rw [h a bH,h x bH]
   case makeSlice t l c=>rw [h l bH,h c bH]
   case convert a b x=>rw [h x bH]
   case range t x=>rw [h x bH]
   case next it b=>rw [h it bH]
   case call c=>exact Xe h s
theorem yy {call:Nat→List LV→St→Option (LV×St)} {ops:Array Oper} {o:Oper} {f g:Nat→LV} (h:∀ t∈o.looksAt ops,f t=g t) (s:St):dH call P ops f o s=dH call P ops g o s:=by
 have hw:lP ops f o=lP ops g o:=by
  unfold lP;cases hg:o.guard with
  | none=>rfl
  | some jw =>
    obtain⟨j,want⟩:=jw;simp only;cases hj:ops[j]? with
    | none=>rfl
    | some q =>
      simp only;cases hd:q.dst with
      | none=>rfl
      | some d =>
        simp only;rw [h d (by simp [Oper.looksAt,hg,hj,hd])]
 have hga:mh ops f o=mh ops g o:=by
  unfold mh;cases hg:o.guard with
  | none=>rfl
  | some jw =>
    obtain⟨j,want⟩:=jw;simp only;cases hj:ops[j]? with
    | none=>rfl
    | some q =>
      simp only;cases hd:q.dst with
      | none=>rfl
      | some d =>
        simp only;rw [h d (by simp [Oper.looksAt,hg,hj,hd])]
 have he:gT P (f9 f) o.op s=gT P (f9 g) o.op s:=Ww (fun x hx=>by
  cases x with
  | tmp t =>
    simp only [f9];rw [h t];simp only [Oper.looksAt,gz,List.mem_filterMap];exact .inl ⟨.tmp t,by simpa using hx,rfl⟩
  | _=>rfl) s
 unfold dH;rw [hga,hw,he]
theorem mm {call:Nat→List LV→St→Option (LV×St)} {ops:Array Oper} {o:Oper} {f:Nat→LV} {s s':St} {v:LV} (hl:bm o.op=true) (h:dH call P ops f o s=some (v,s')) :
  s'=s∧((lP ops f o=false∧v=.undef)∨(lP ops f o=true∧fH P (f9 f) o.op s=some v))∧mh ops f o=false:=by
 unfold dH at h;cases hga:mh ops f o with
 | true=>rw [hga] at h; cases h
 | false =>
 simp only [hga] at h;cases hw:lP ops f o with
 | false=>simp [hw] at h; exact⟨h.2.symm,.inl ⟨rfl,h.1.symm⟩,rfl⟩
 | true =>
   simp only [hw,gT,hl] at h;cases hv:fH P (f9 f) o.op s with
   | none=>simp [hv] at h
   | some u=>simp [hv] at h; exact⟨h.2.symm,.inr ⟨rfl,by rw [h.1]⟩,rfl⟩
theorem Xw {call:Nat→List LV→St→Option (LV×St)} {ops:Array Oper} {o:Oper} {f:Nat→LV} {s s0 s1:St} {v:LV} (hl:bm o.op=true) (h:dH call P ops f o s0=some (v,s1)) (ha:gZ P ops o f v s=true) :
  dH call P ops f o s=some (v,s):=by
 obtain⟨_,h2,hga⟩:=mm hl h;unfold gZ at ha;unfold dH;rw [hga];simp only;rcases h2 with⟨hw,rfl⟩ | ⟨hw,_⟩
 ·simp [hw]
 ·simp only [hw] at ha ⊢;simp only [gT,hl];cases hv:fH P (f9 f) o.op s with
  | none=>simp [hv] at ha
  | some u=>simp only [hv] at ha; simp [LV.i3j ha]
theorem Wz {ev:Operand→Option LV} {o:Op} (hl:bm o=true) (hn:iT o=false) (s s':St):fH P ev o s=fH P ev o s':=by
 cases o <;> simp only [bm,iT] at hl hn <;> first | rfl | (cases hl; done) | (cases hn; done)
theorem v7 {call:Nat→List LV→St→Option (LV×St)} {ops:Array Oper} {o:Oper} {f:Nat→LV} {s s0 s1:St} {v:LV} (hl:bm o.op=true) (h:dH call P ops f o s0=some (v,s1)) (ha:iT o.op=true→gZ P ops o f v s=true) :
  dH call P ops f o s=some (v,s):=by
 cases hq:iT o.op with
 | true=>exact Xw hl h (ha hq)
 | false =>
   obtain⟨_,h2,hga⟩:=mm hl h;unfold dH;rw [hga];rcases h2 with⟨hw,rfl⟩ | ⟨hw,hv⟩
   ·simp [hw]
   ·simp only [hw,gT,hl,Wz hl hq s s0,hv]
theorem LT {ops:Array Oper} {b:Array Nat} {o:Oper} {k:Nat} {f:Nat→LV} {v:LV}:∀ (hs:List Oper) (j:Nat) (ss:List St),rU P ops b o k f v j hs ss=true →
  ∀ (m:Nat) (h:Oper) (s s1:St),hs[m]? = some h→ss[m]? = some s→ss[m+1]? = some s1→bm h.op=false→(b.getD (j+m) 0).testBit k=false→(b.getD k 0).testBit (j+m)=false →
    gZ P ops o f v s=true∧gZ P ops o f v s1=true
 | [],j,ss,h,m,x,s,s1,h1,h2,h3,h4,h5,h6=>by simp at h1
 | y::hs,j,[],h,m,x,s,s1,h1,h2,h3,h4,h5,h6=>by simp at h2
 | y::hs,j,[_],h,m,x,s,s1,h1,h2,h3,h4,h5,h6=>by simp at h3
 | y::hs,j,a::c::ss,h,m,x,s,s1,h1,h2,h3,h4,h5,h6=>by
   simp only [rU,bg] at h;cases m with
   | zero =>
     simp at h1 h2 h3; subst h1 h2 h3;simp only [gA] at h5 h6;have:=h.1;simp only [h4,h5,h6,mp,bg] at this;exact this
   | succ m =>
     simp only [eG] at h1 h2 h3;exact LT hs (j+1) (c::ss) h.2 m x s s1 h1 h2 h3 h4 (by rw [← h5]; congr 2; omega) (by rw [← h6]; congr 1; omega)
theorem LL {ops:Array Oper} {b:Array Nat} {ss:List St}:∀ (l:List Oper) (k:Nat) (R:List Rc),rR P ops b ss k l R=true →
  ∀ (m:Nat) (o:Oper) (rc:Rc),l[m]? = some o→R[m]? = some rc→iT o.op=true→rU P ops b o (k+m) (aQ rc.tm) rc.v 0 ops.toList ss=true
 | [],k,R,h,m,o,rc,h1,h2,h3=>by simp at h1
 | x::l,k,[],h,m,o,rc,h1,h2,h3=>by simp at h2
 | x::l,k,y::R,h,m,o,rc,h1,h2,h3=>by
   simp only [rR,bg] at h;cases m with
   | zero=>simp at h1 h2; subst h1 h2; simpa [h3] using h.1
   | succ m =>
     simp only [eG] at h1 h2;have:=LL l (k+1) R h.2 m o rc h1 h2 h3;rw [show k+(m+1)=k+1+m by omega]; exact this
theorem LW {ops:Array Oper} {b:Array Nat}:∀ (l:List Oper) (k:Nat),Ay ops b k l=true→∀ (i j:Nat) (oi oj:Oper),i < j→l[i]? = some oi→l[j]? = some oj→D7 ops b (k+i) (k+j) oi oj=true
 | [],k,h,i,j,oi,oj,hij,h1,h2=>by simp at h1
 | x::l,k,h,i,j,oi,oj,hij,h1,h2=>by
   simp only [Ay,bg] at h;cases j with
   | zero=>omega
   | succ j =>
     simp only [eG] at h2;cases i with
     | zero =>
       simp at h1; subst h1;have:=j_.1 h.1 (oj,k+1+j) (by
        rw [List.mem_zipIdx_iff_le_and_getElem?_sub];exact⟨by omega,by rw [show k+1+j - (k+1)=j by omega]; exact h2⟩)
       simp only at this;rw [show k+(j+1)=k+1+j by omega]; exact this
     | succ i =>
       simp only [eG] at h1;have:=LW l (k+1) h.2 i j oi oj aI h1 h2;rw [show k+(i+1)=k+1+i by omega,show k+(j+1)=k+1+j by omega]; exact this
end
section
open Go.RowKit
variable {P:Program} {r:Ren}
def TR (ops:Array Oper) (R:List Rc) (f0:Nat→LV) (L:Nat→Prop) (f:Nat→LV):Prop :=
 ∀ t,(∃ (k:Nat) (o:Oper) (rc:Rc),L k∧ops[k]? = some o∧o.dst=some t∧R[k]? = some rc∧f t=rc.v∧∀ (k':Nat) (o':Oper),k < k'→ops[k']? = some o'→o'.dst=some t→¬ L k') ∨
   ((∀ (k:Nat) (o:Oper),ops[k]? = some o→o.dst=some t→¬ L k)∧f t=f0 t)
theorem TR.unique {ops:Array Oper} {R:List Rc} {f0 f g:Nat→LV} {L L':Nat→Prop} (h:TR ops R f0 L f) (h':TR ops R f0 L' g) {t:Nat} (ht:∀ (k:Nat) (o:Oper),ops[k]? = some o→o.dst=some t→(L k↔L' k)):f t=g t:=by
 rcases h t with⟨k,o,rc,a1,a2,a3,a4,a5,a6⟩ | ⟨a1,a2⟩
 ·rcases h' t with⟨k',o',rc',b1,b2,b3,b4,b5,b6⟩ | ⟨b1,b2⟩
  ·have:k=k':=by
    rcases lg k k' with e | e | e
    ·exact absurd ((ht k' o' b2 b3).2 b1) (a6 k' o' e b2 b3)
    ·exact e
    ·exact absurd ((ht k o a2 a3).1 a1) (b6 k o e a2 a3)
   subst this;rw [a4] at b4; cases b4;rw [a5,b5]
  ·exact absurd ((ht k o a2 a3).1 a1) (b1 k o a2 a3)
 ·rcases h' t with⟨k',o',rc',b1,b2,b3,b4,b5,b6⟩ | ⟨b1,b2⟩
  ·exact absurd ((ht k' o' b2 b3).2 b1) (a1 k' o' b2 b3)
  ·rw [a2,b2]
theorem TR.step {ops:Array Oper} {R:List Rc} {f0 f g:Nat→LV} {L L':Nat→Prop} (h:TR ops R f0 L f) {i:Nat} {oi:Oper} {rc:Rc} (ho:ops[i]? = some oi) (hr:R[i]? = some rc)
  (hL:∀ k,L' k↔(L k∨k=i)) (hlast:∀ (k:Nat) (o:Oper) t,i < k→ops[k]? = some o→oi.dst=some t→o.dst=some t→¬ L k) (hg:∀ t,g t=if oi.dst=some t then rc.v else f t):TR ops R f0 L' g:=by
 intro t;by_cases hd:oi.dst=some t
 ·refine .inl ⟨i,oi,rc,(hL i).2 (.inr rfl),ho,hd,hr,by rw [hg,aB hd],fun k o hk h1 h2 h3=>?_⟩;rcases(hL k).1 h3 with h4 | h4
  ·exact hlast k o t hk h1 hd h2 h4
  ·omega
 ·have hne:∀ (k:Nat) (o:Oper),ops[k]? = some o→o.dst=some t→k≠i:=fun k o h1 h2 e=>by subst e; rw [ho] at h1; cases h1; exact hd h2
  rcases h t with⟨k,o,rc',a1,a2,a3,a4,a5,a6⟩ | ⟨a1,a2⟩
  ·refine .inl ⟨k,o,rc',(hL k).2 (.inl a1),a2,a3,a4,by rw [hg,av hd]; exact a5,fun k' o' h1 h2 h3 h4=>?_⟩;rcases(hL k').1 h4 with h5 | h5
   ·exact a6 k' o' h1 h2 h3 h5
   ·exact hne k' o' h2 h3 h5
  ·refine .inr ⟨fun k o h1 h2 h3=>?_,by rw [hg,av hd]; exact a2⟩;rcases(hL k).1 h3 with h5 | h5
   ·exact a1 k o h1 h2 h5
   ·exact hne k o h1 h2 h5
theorem Bh:∀ (l:List Bool) (i:Nat),l[i]? = some false→(l.set i true).count false+1=l.count false
 | [],i,h=>by simp at h
 | b::l,0,h=>by simp at h; subst h; simp
 | b::l,i+1,h=>by
   simp at h;have:=Bh l i h;simp only [List.set_cons_succ,List.count_cons];omega
theorem Xl {call:Nat→List LV→St→Option (LV×St)} (hcall:qo P call) {W0:World} {nt:Nat} {ops:Array Oper} {Q:Exit→Act→World→Prop} {tm tm':Tm} {s s':St} {w0:World} {a0:Act} {rs:List Rc}
  (hrun:jk call P nt ops ops.toList tm s []=some (tm',s',rs)) (hord:vA ops=true) (hrec:rR P ops (CheckFast.beforeF ops) ((s'::rs.map (·.s)).reverse) 0 ops.toList rs.reverse=true)
  (hI:Inv W0 r s w0) (hA:AR r (aQ tm) nt a0) (hQ:∀ r' a' w',Inv W0 r' s' w'→Ext r s w0 r' s' w'→AR r' (aQ tm') nt a'→Q .normal a' w') :
  wpAny P .any ops Q ops.size (Array.replicate ops.size false) a0 w0:=by
 obtain⟨R,e1,e2,e3,e4,e5⟩:=AM hrun;simp only [fR] at e1;subst e1;simp only [Array.length_toList] at e2;unfold vA at hord;rw [bg] at hord;obtain⟨hlex,hpairs⟩:=hord
 let S:Nat→St:=cX R s'
 let heavy:Nat→Prop:=fun k=>∃ o,ops[k]? = some o∧bm o.op=false
 have hops:∀ k o,ops.toList[k]? = some o↔ops[k]? = some o:=fun k o=>by rw [Array.getElem?_toList]
 have hpair:∀ (i j:Nat) (oi oj:Oper),i < j→ops[i]? = some oi→ops[j]? = some oj→((CheckFast.beforeF ops).getD j 0).testBit i=true∨((bm oi.op || bm oj.op)=true∧oi.apart ops oj=true):=by
  intro i j oi oj hij h1 h2;have:=LW _ _ hpairs i j oi oj hij ((hops _ _).2 h1) ((hops _ _).2 h2);simp only [bV,D7,lV,bg] at this;rcases this with h | ⟨h,h'⟩
  ·exact .inl h
  ·exact .inr ⟨by simpa using h,h'⟩
 have hstep:∀ k o,ops[k]? = some o→∃ rc,R[k]? = some rc∧rc.s=S k∧dH call P ops (aQ rc.tm) o (S k)=some (rc.v,S (k+1))∧md nt rc.tm o.dst rc.v=some (fM R tm' (k+1))∧rc.tm=fM R tm' k:=by
  intro k o ho;obtain⟨rc,g1,g2,g3⟩:=e5 k o ((hops _ _).2 ho);have hs:S k=rc.s:=by simp [S,cX,g1]
  exact⟨rc,g1,hs.symm,by rw [hs]; exact g2,g3,by simp [fM,g1]⟩
 have hlight:∀ k o,ops[k]? = some o→bm o.op=true→S (k+1)=S k:=by
  intro k o ho hl;obtain⟨rc,g1,g2,g3,_⟩:=hstep k o ho;exact(mm hl g3).1
 have hconst:∀ b a,a≤b→b≤ops.size→(∀ k,a≤k→k < b→¬ heavy k)→S a=S b:=by
  intro b
  induction b with
  | zero=>intro a ha _ _; have:a=0:=aI
          rw [this]
  | succ b ih =>
    intro a ha hb hno;by_cases e:a=b+1
    ·rw [e]
    ·have hlt:b < ops.size:=aI;have hob:ops[b]? = some ops[b]:=mr hlt;have hl:bm ops[b].op=true:=by
      cases hq:bm ops[b].op with
      | true=>rfl
      | false=>exact absurd ⟨_,hob,hq⟩ (hno b aI aI)
     rw [hlight b _ hob hl];exact ih a aI aI fun k h1 h2=>hno k h1 aI
 have hss:∀ m,m≤ops.size→((s'::R.reverse.map (·.s)).reverse)[m]? = some (S m):=by
  intro m hm;have:(s'::R.reverse.map (·.s)).reverse=R.map (·.s)++[s']:=bH;rw [this];by_cases h:m < R.length
  ·rw [iY (by simpa using h)];simp [S,cX,cq h]
  ·have:m=R.length:=aI;subst this;rw [kb bH];simp [S,cX]
 have hlex0:∀ k,k≤ops.size→TR ops R (aQ tm) (· < k) (aQ (fM R tm' k)):=by
  intro k
  induction k with
  | zero=>intro _ t; exact .inr ⟨fun k o _ _ h=>absurd h (Nat.not_lt_zero _),by rw [e3]⟩
  | succ k ih =>
    intro hk;have hok:ops[k]? = some (ops[k]'(by omega)):=mr aI;obtain⟨rc,g1,g2,g3,g4,g5⟩:=hstep k _ hok;refine(ih aI).step hok g1 (fun m=>by omega) (fun m o t h1 _ _ _ h2=>by omega) fun t=>?_
    rw [(pD g4).2 t,← g5]
 have main:∀ (fuel:Nat) (listed:Array Bool) (a:Act) (w:World) (r':Ren) (f:Nat→LV) (p:Nat),
   listed.size=ops.size→listed.toList.count false=fuel→Inv W0 r' (S p) w→Ext r s w0 r' (S p) w→AR r' f nt a→TR ops R (aQ tm) (fun k=>listed.getD k false=true) f →
   p≤ops.size→(∀ k,heavy k→(listed.getD k false=true↔k < p)) →
   (∀ i o,listed.getD i false=true→ops[i]? = some o→∀ e∈o.after,Region.binds .any e=true→listed.getD e.on false=true) →
   wpAny P .any ops Q fuel listed a w:=by
  have fin:∀ (listed:Array Bool) (a:Act) (w:World) (r':Ren) (f:Nat→LV) (p:Nat),
   listed.size=ops.size→Inv W0 r' (S p) w→Ext r s w0 r' (S p) w→AR r' f nt a→TR ops R (aQ tm) (fun k=>listed.getD k false=true) f →
   p≤ops.size→(∀ k,heavy k→(listed.getD k false=true↔k < p))→Region.ready .any ops listed=[]→Q .normal a w:=by
   intro listed a w r' f p hsz hI' hE' hA' hT hp hH hready;have hall:∀ i,i < ops.size→listed.getD i false=true:=by
    intro i
    induction i using Nat.strongRecOn with
    | _ i ih =>
      intro hi;cases hv:listed.getD i false with
      | true=>rfl
      | false =>
        have hoi:ops[i]? = some (ops[i]):=mr hi;have:i∈Region.ready .any ops listed:=by
         rw [mem_ready];refine⟨?_,_,hoi,fun e he hb=>ih e.on (qK hlex hoi e he hb) (Nat.lt_trans (qK hlex hoi e he hb) hi)⟩;have hlt:i < listed.size:=aI;simp [hlt] at hv ⊢; exact hv
        rw [hready] at this; cases this
   have hS:S p=s':=by
    rw [hconst ops.size p hp (aR _) fun k h1 h2 hh=>by
     have:=(hH k hh).1 (hall k h2);omega]
    have:R[ops.size]? = none:=gO aI;simp [S,cX,this]
   have hf:f=aQ tm':=by
    funext t
    have h1:=hlex0 ops.size (aR _);have h2:fM R tm' ops.size=tm':=by
     have:R[ops.size]? = none:=gO aI;simp [fM,this]
    rw [h2] at h1;refine hT.unique h1 fun k o ho _=>?_
    have hk:=(ft.1 ho).1;exact⟨fun _=>hk,fun _=>hall k hk⟩
   rw [hS] at hI' hE';rw [hf] at hA';exact hQ r' a w hI' hE' hA'
  intro fuel
  induction fuel with
  | zero =>
    intro listed a w r' f p hsz hcnt hI' hE' hA' hT hp hH hD;have hr:Region.ready .any ops listed=[]:=by
     cases hr:Region.ready .any ops listed with
     | nil=>rfl
     | cons i l =>
       have:i∈Region.ready .any ops listed:=by rw [hr]; simp
       obtain⟨h1,o,ho,_⟩:=mem_ready.1 this;have hlt:i < listed.size:=by rw [hsz]; exact(ft.1 ho).1
       have:(false:Bool)∈listed.toList:=by
        simp [hlt] at h1;rw [← h1]; simp
       rw [List.count_eq_zero] at hcnt;exact absurd this hcnt
    exact⟨hr,fin listed a w r' f p hsz hI' hE' hA' hT hp hH hr⟩
  | succ fuel ih =>
    intro listed a w r' f p hsz hcnt hI' hE' hA' hT hp hH hD;refine⟨fun hr=>fin listed a w r' f p hsz hI' hE' hA' hT hp hH hr,fun i hi=>?_⟩;obtain⟨hun,oi,hoi,hedges⟩:=mem_ready.1 hi;have hin:i < ops.size:=(ft.1 hoi).1;have hun':¬ listed.getD i false=true:=by
     have hlt:i < listed.size:=aI;simp [hlt] at hun ⊢; exact hun
    obtain⟨rc,g1,g2,g3,g4,g5⟩:=hstep i oi hoi;have hpre:∀ j,((CheckFast.beforeF ops).getD i 0).testBit j=true→listed.getD j false=true:=fun j hj=>t6 hlex (D:=fun k=>listed.getD k false=true) hD i j hoi hedges hj
    have hpost:∀ j o,ops[j]? = some o→((CheckFast.beforeF ops).getD j 0).testBit i=true→¬ listed.getD j false=true:=fun j o ho hj hl =>
     hun' (t6 hlex (D:=fun k=>listed.getD k false=true) hD j i ho (hD j o hl ho) hj)
    have hsame:∀ t∈oi.looksAt ops,f t=aQ rc.tm t:=by
     intro t ht;rw [g5];refine hT.unique (hlex0 i aI) fun k o ho hd=>?_
     rcases lg k i with e | e | e
     ·refine⟨fun _=>e,fun _=>?_⟩;rcases hpair k i o oi e ho hoi with h | ⟨_,h⟩
      ·exact hpre k h
      ·exact absurd ht ((Oper.apart_spec h).1 t hd)
     ·subst e; exact⟨fun h=>absurd h hun',fun h=>absurd h (Nat.lt_irrefl _)⟩
     ·refine⟨fun h=>?_,fun h=>absurd h aI⟩;rcases hpair i k oi o e hoi ho with h' | ⟨_,h'⟩
      ·exact absurd h (hpost k o ho h')
      ·exact absurd ht ((Oper.apart_spec h').2.2 t hd)
    have hst:∃ p',dH call P ops f oi (S p)=some (rc.v,S p')∧p'≤ops.size∧∀ k,heavy k→((listed.getD k false=true∨k=i)↔k < p'):=by
     rw [yy hsame];cases hl:bm oi.op with
     | false =>
       have hhi:heavy i:=⟨oi,hoi,hl⟩;have hbelow:∀ k,heavy k→k < i→listed.getD k false=true:=fun k ⟨o,ho,hlk⟩ hk=>by
        rcases hpair k i o oi hk ho hoi with h | ⟨h,_⟩
        ·exact hpre k h
        ·simp [hlk,hl] at h
       have habove:∀ k,heavy k→i < k→¬ listed.getD k false=true:=fun k ⟨o,ho,hlk⟩ hk=>by
        rcases hpair i k oi o hk hoi ho with h | ⟨h,_⟩
        ·exact hpost k o ho h
        ·simp [hlk,hl] at h
       have hSp:S p=S i:=by
        rcases Nat.le_total p i with e | e
        ·refine hconst i p e aI fun k h1 h2 hh=>?_
         have:=(hH k hh).1 (hbelow k hh h2);omega
        ·refine(hconst p i e hp fun k h1 h2 hh=>?_).symm;have h3:=(hH k hh).2 h2;rcases jH i k with h4 | h4
         ·exact habove k hh h4 h3
         ·have:k=i:=aI;subst this; exact hun' h3
       refine⟨i+1,by rw [hSp]; exact g3,by omega,fun k hh=>?_⟩;rcases lg k i with e | e | e
       ·exact⟨fun _=>by omega,fun _=>.inl (hbelow k hh e)⟩
       ·subst e; exact⟨fun _=>by omega,fun _=>.inr rfl⟩
       ·exact⟨fun h=>by rcases h with h | h; exact absurd h (habove k hh e); omega,fun h=>by omega⟩
     | true =>
       have hnh:∀ k,heavy k→k≠i:=fun k ⟨o,ho,hlk⟩ e=>by subst e; rw [hoi] at ho; cases ho; rw [hl] at hlk; cases hlk
       refine⟨p,?_,hp,fun k hh=>by rw [← hH k hh]; exact⟨fun h=>by rcases h with h | h; exact h; exact absurd h (hnh k hh),fun h=>.inl h⟩⟩;have hok:=LL _ _ _ hrec i oi rc ((hops _ _).2 hoi) (by simpa using g1);simp only [bV] at hok;have hat:∀ j,heavy j→((CheckFast.beforeF ops).getD j 0).testBit i=false→((CheckFast.beforeF ops).getD i 0).testBit j=false→iT oi.op=true→gZ P ops oi (aQ rc.tm) rc.v (S j)=true∧gZ P ops oi (aQ rc.tm) rc.v (S (j+1))=true:=by
        intro j ⟨o,ho,hlj⟩ h1 h2 hld;have hj:=(ft.1 ho).1;exact LT _ _ _ (hok hld) j o (S j) (S (j+1)) ((hops _ _).2 ho) (hss j aI) (hss (j+1) aI) hlj (by simpa using h1) (by simpa using h2)
       have hno:∀ j o,ops[j]? = some o→listed.getD j false=true→((CheckFast.beforeF ops).getD j 0).testBit i=false:=fun j o ho h=>by
        cases hb:((CheckFast.beforeF ops).getD j 0).testBit i with
        | false=>rfl
        | true=>exact absurd h (hpost j o ho hb)
       rcases Nat.le_total p i with e | e
       ·by_cases hex:∃ k,p≤k∧k < i∧heavy k
        ·obtain⟨k,hk⟩:=hex;have hfirst:∃ k,(p≤k∧k < i∧heavy k)∧∀ m,m < k→¬ (p≤m∧m < i∧heavy m):=by
          revert hk
          induction k using Nat.strongRecOn with
          | _ k ihk =>
            intro hk;by_cases h:∃ m,m < k∧(p≤m∧m < i∧heavy m)
            ·obtain⟨m,hm,hq⟩:=h; exact ihk m hm hq
            ·exact⟨k,hk,fun m hm hq=>h ⟨m,hm,hq⟩⟩
         obtain⟨k,⟨k1,k2,k3⟩,k4⟩:=hfirst;have hSp:S p=S k:=hconst k p k1 aI fun m h1 h2 hh=>k4 m h2 ⟨h1,by omega,hh⟩
         have hnl:¬ listed.getD k false=true:=fun h=>by have:=(hH k k3).1 h; omega
         obtain⟨o,ho,hlo⟩:=k3;have b1:((CheckFast.beforeF ops).getD k 0).testBit i=false:=by
          cases hb:((CheckFast.beforeF ops).getD k 0).testBit i with
          | false=>rfl
          | true=>have:=AY hlex k i ho hb; omega
         have b2:((CheckFast.beforeF ops).getD i 0).testBit k=false:=by
          cases hb:((CheckFast.beforeF ops).getD i 0).testBit k with
          | false=>rfl
          | true=>exact absurd (hpre k hb) hnl
         rw [hSp];exact v7 hl g3 fun hld=>(hat k ⟨o,ho,hlo⟩ b1 b2 hld).1
        ·have hSp:S p=S i:=hconst i p e aI fun m h1 h2 hh=>hex ⟨m,h1,h2,hh⟩
         rw [hSp];have:=(mm hl g3).1;rw [this] at g3; exact g3
       ·by_cases hex:∃ k,i≤k∧k < p∧heavy k
        ·have hlast:∃ k,(i≤k∧k < p∧heavy k)∧∀ m,k < m→¬ (i≤m∧m < p∧heavy m):=by
          obtain⟨k,hk⟩:=hex;have:∀ d k,p - k=d→(i≤k∧k < p∧heavy k)→∃ k,(i≤k∧k < p∧heavy k)∧∀ m,k < m→¬ (i≤m∧m < p∧heavy m):=by
           intro d
           induction d using Nat.strongRecOn with
           | _ d ihd =>
             intro k hd hk;by_cases h:∃ m,k < m∧(i≤m∧m < p∧heavy m)
             ·obtain⟨m,hm,hq⟩:=h; exact ihd (p - m) aI m rfl hq
             ·exact⟨k,hk,fun m hm hq=>h ⟨m,hm,hq⟩⟩
          exact this _ k rfl hk
         obtain⟨k,⟨k1,k2,k3⟩,k4⟩:=hlast;have hSp:S (k+1)=S p:=hconst p (k+1) aI hp fun m h1 h2 hh=>k4 m aI ⟨by omega,h2,hh⟩
         have hkl:listed.getD k false=true:=(hH k k3).2 k2;have hki:=hnh k k3;obtain⟨o,ho,hlo⟩:=k3;have b2:((CheckFast.beforeF ops).getD i 0).testBit k=false:=by
          cases hb:((CheckFast.beforeF ops).getD i 0).testBit k with
          | false=>rfl
          | true=>have:=AY hlex i k hoi hb; omega
         rw [← hSp];exact v7 hl g3 fun hld=>(hat k ⟨o,ho,hlo⟩ (hno k o ho hkl) b2 hld).2
        ·have hSp:S i=S p:=hconst p i e hp fun m h1 h2 hh=>hex ⟨m,h1,h2,hh⟩
         rw [← hSp];have:=(mm hl g3).1;rw [this] at g3; exact g3
    obtain⟨p',hlone,hp',hH'⟩:=hst;have hset:∀ k,(listed.setIfInBounds i true).getD k false=true↔(listed.getD k false=true∨k=i):=by
     intro k;by_cases e:i=k
     ·subst e;have hlt:i < listed.size:=aI;simp [hlt]
     ·simp only [Array.getD_eq_getD_getElem?,mX e];exact⟨fun h=>.inl h,fun h=>by rcases h with h | h; exact h; exact absurd h.symm e⟩
    refine A5 hcall hI' hA' hoi hlone fun r'' w' u hI'' hE'' hv=>?_
    obtain⟨q1,q2⟩:=pD g4;refine ih (listed.setIfInBounds i true) (a.put oi.dst u) w' r'' (fun t=>if oi.dst=some t then rc.v else f t) p' (by simpa using hsz) ?_ hI'' (hE'.trans hE'') ((hA'.mono hE''.le).put hv q1 fun t=>rfl) ?_ hp' (fun k hh=>by rw [hset]; exact hH' k hh) ?_
    ·have hlt:i < listed.size:=aI;have:=Bh listed.toList i (by simp [hlt] at hun; simp [hlt,hun]);rw [Array.toList_setIfInBounds]; omega
    ·refine hT.step hoi g1 (fun k=>hset k) (fun k o t hk ho h1 h2 h3=>?_) fun t=>rfl
     rcases hpair i k oi o hk hoi ho with h' | ⟨_,h'⟩
     ·exact hpost k o ho h' h3
     ·exact(Oper.apart_spec h').2.1 t h1 h2
    ·intro j o hj ho e he hb;rw [hset] at hj ⊢;rcases hj with hj | hj
     ·exact .inl (hD j o hj ho e he hb)
     ·subst hj; rw [hoi] at ho; cases ho;exact .inl (hedges e he hb)
 have hrep:∀ k,¬ (Array.replicate ops.size false).getD k false=true:=by
  intro k;by_cases h:k < ops.size <;> simp [h]
 refine main ops.size _ a0 w0 r (aQ tm) 0 bH bH (by simp only [S,e4]; exact hI) (by simp only [S,e4]; exact Ext.refl _ _ _) hA (fun t=>.inr ⟨fun k o _ _=>hrep k,rfl⟩) aI (fun k _=>⟨fun h=>absurd h (hrep k),fun h=>by omega⟩) (fun i o h=>absurd h (hrep i))
end
section
open Go.RowKit
variable {P:Program} {r:Ren}
theorem Ws {ev:Operand→Option LV} {ρ : Operand→Value} {o:Oper} {cs:List LV} {mk:Nat→LV} (hev:∀ x l,ev x=some l→VR r l (ρ x)) (h:ot P ev o.op=some (cs,mk)) :
  ∃ (c:Array Value) (e:TypeId) (mkR:Nat→Value),(∀ w,(execOp ρ o).run P w=.ok (.value (mkR w.heap.size)) { w with heap:=w.heap.push (.cells c e (0,0)) })∧(∀ r':Ren,r.le r'→VRs r' cs c.toList)∧(∀ l∈cs,l.plain=true) ∧
    ∀ (r':Ren) id B,r' id=some (B,0,0)→VR r' (mk id) (mkR B):=by
 obtain⟨dst,op,type,pos,after,guard⟩:=o;simp only at h;cases op <;> simp only [ot] at h <;> try (simp at h; done)
 case alloc t =>
  cases hz:lT P t with
  | none=>simp [hz] at h
  | some zs =>
    simp [hz] at h;obtain⟨rfl,rfl⟩:=h;obtain⟨z,z1,z2,z3⟩:=qN (r:=r) hz;refine⟨z.cells,t,fun B=>.pointer (some ⟨B,0,none⟩),fun w=>by simp [execOp,Instr.alloc,z1,newVar,newRow],fun r' _=>?_,z2,fun r' id B hr=>by simp only [VR]; exact⟨B,0,0,hr,rfl⟩⟩;obtain⟨z',z1',z2',z3'⟩:=qN (r:=r') hz;have:z=z':=by
     have a1:=z1 default; have a2:=z1' default;rw [a1] at a2; cases a2; rfl
    rw [this]; exact z3'
 case makeSlice t lo co =>
  split at h
  case h_2=>simp at h
  rename_i elem k len k' cap hu hl hc;have hlv:=hev _ _ hl;have hcv:=hev _ _ hc;simp only [VR] at hlv hcv;split at h
  case h_2=>simp at h
  rename_i size zero bytes hs hz hby;by_cases hcd:zero.length=size∧1≤size∧len≤cap∧cap≤100000∧bytes≤100000
  ·obtain⟨c1,c2,c3,c4,c5⟩:=hcd;have hcond:(Nat.beq zero.length size && Nat.ble 1 size && Nat.ble len cap && Nat.ble cap 100000 && Nat.ble bytes 100000)=true:=by
    simp [b7,c1,dh c2,dh c3,dh c4,dh c5]
   simp [hcond] at h;obtain⟨rfl,rfl⟩:=h;obtain⟨z,z1,z2,z3⟩:=qN (r:=r) hz;refine⟨(Array.range (cap * zero.length)).map (fun i=>z.cells[i % z.cells.size]!),elem,fun B=>.slice (some ⟨B,0,none⟩) len cap,fun w=>?_,fun r' _=>?_,yu cap z2,fun r' id B hr=>by simp only [VR]; exact⟨B,0,0,hr,rfl⟩⟩
   ·obtain⟨inf,i1,i2⟩:=Lz hby w;have hbc:(bytes:Int) * (cap:Int)≤100000 * 100000:=by
     have:=Nat.mul_le_mul c5 c4;have h2:((bytes * cap:Nat):Int)≤((100000 * 100000:Nat):Int):=by exact_mod_cast this
     simpa using h2
    have hbl:(bytes:Int) * (len:Int)≤100000 * 100000:=by
     have:=Nat.mul_le_mul c5 (kc c3 c4);have h2:((bytes * len:Nat):Int)≤((100000 * 100000:Nat):Int):=by exact_mod_cast this
     simpa using h2
    simp only [execOp,hlv,hcv,Instr.makeSlice,bw,bK hu,br,asInt,asIntOf,bT,i1,i2,mq];rw [A9 (n:=len) aI,A9 (n:=cap) aI];have hf:(decide ((cap:Int) < 0) || decide ((bytes:Int) * (cap:Int) > 2 ^ 48) || decide ((len:Int) < 0) || decide ((len:Int) > (cap:Int)))=false:=by
     simp only [Bool.or_eq_false_iff,v_];refine⟨⟨⟨by omega,by omega⟩,by omega⟩,by omega⟩
    simp only [hf,gd,dn,bw,run_askRoom,br,eI hs,kI,bT];by_cases e0:cap * size=0
    ·have he:∀ f g:Nat→Value,Array.map f (Array.range 0)=Array.map g (Array.range 0):=fun f g=>by simp
     simp only [e0,eR,bw,bT,br,c1];rw [he _ (fun i=>z.cells[i % z.cells.size]!)];simp [newRow]
    ·simp only [e0,dn,bw,z1,bT,br,c1];simp [newRow]
   ·obtain⟨z',z1',z2',z3'⟩:=qN (r:=r') hz;have:z=z':=by
     have a1:=z1 default; have a2:=z1' default;rw [a1] at a2; cases a2; rfl
    rw [this]; exact AB z3' cap
  ·have hcond:(Nat.beq zero.length size && Nat.ble 1 size && Nat.ble len cap && Nat.ble cap 100000 && Nat.ble bytes 100000)=false:=by
    rw [qQ];intro ht;simp only [bg,b7,cu] at ht;exact hcd ⟨ht.1.1.1.1,aS ht.1.1.1.2,aS ht.1.1.2,aS ht.1.2,aS ht.2⟩
   simp [hcond] at h
 case buildSlice t len parts =>
  split at h
  case h_2=>simp at h
  rename_i elem ps hu hp;split at h
  case h_2=>simp at h
  rename_i size zero hs hz;obtain⟨z,z1,z2,z3⟩:=qN (r:=r) hz;cases hc:(Nat.beq zero.length size && Nat.ble 1 size && Nat.ble (len * size) 100000) with
  | false=>simp [hc] at h
  | true =>
    simp only [hc,aw] at h;simp only [bg,b7,cu] at hc;obtain⟨⟨c1,c2⟩,c3⟩:=hc;have c3:=aS c3;cases hf:kz (fun i=>some (i * size,size)) (gQ len zero) ps with
    | none=>simp [hf] at h
    | some cs' =>
      simp [hf] at h;obtain⟨rfl,rfl⟩:=h;have hrep:=AB (r:=r) (z:=z.cells) z3 len;obtain⟨vs,k1,k2⟩:=yD (place':=fun i=>some (i * size,size)) (fun i x hx=>hx) hf (A4 hev hp) hrep;refine⟨vs.toArray,elem,fun B=>.slice (some ⟨B,0,none⟩) len len,fun w=>?_,fun r' hr'=>by simpa using k2.mono hr',LH ps _ _ hf (yu len z2),fun r' id B hr=>by simp only [VR]; exact⟨B,0,0,hr,rfl⟩⟩;have hpe:(parts.map fun(i,x)=>(i,ρ x))=(parts.toList.map fun(i,x)=>(i,ρ x)).toArray:=by
       apply Array.ext'; simp
      simp only [execOp,hpe,Instr.buildSlice,bw,bK hu,br,eI hs];rw [av aI];simp only [sy,c1] at k1;by_cases e0:len * size=0
      ·simp only [e0,eR,bw,bT,br];simp only [e0] at k1;have he:∀ f g:Nat→Value,Array.map f (Array.range 0)=Array.map g (Array.range 0):=fun f g=>by simp
       rw [he _ (fun i=>z.cells[i % z.cells.size]!),k1];simp [newRow]
      ·simp only [e0,dn,bw,z1,bT,br];simp only [k1];simp [newRow]
theorem Wx {ev:Operand→Option LV} {o:Op} {s s':St} {n:LN} (hf:qw o=true) (h:gT P ev o s=some (n,s')):∃ cs mk,ot P ev o=some (cs,mk)∧n=.val (mk s.n)∧s.new (.cells cs none)=some s':=by
 cases o <;> simp only [qw] at hf <;> try (cases hf; done)
 case alloc t =>
  simp only [gT,bm] at h;cases hz:mO P t with
  | none=>simp [hz] at h
  | some z =>
    simp only [hz] at h;cases hc:ow z with
    | none=>simp [hc] at h
    | some l =>
      simp only [hc,sY] at h;cases hl:l.cells with
      | none=>simp [hl] at h
      | some cs =>
        simp only [hl] at h;cases hs:s.new (.cells cs none) with
        | none=>simp [hs] at h
        | some s1 =>
          simp [hs] at h;obtain⟨rfl,rfl⟩:=h;exact⟨cs,fun id=>.ptr id 0,by simp [ot,lT,hz,hc,hl],rfl,hs⟩
 case makeSlice t l c =>
  simp only [gT,bm] at h;split at h
  case h_2=>simp at h
  rename_i a b h1 h2;cases hm:sf P s t a b with
  | none=>simp [hm] at h
  | some p =>
    obtain⟨v,s1⟩:=p;simp [hm] at h;obtain⟨rfl,rfl⟩:=h;unfold sf at hm;split at hm
    case h_2=>simp at hm
    rename_i elem k len k' cap hu;split at hm
    case h_2=>simp at hm
    rename_i size zero bytes hs hz hby;cases hc:(Nat.beq zero.length size && Nat.ble 1 size && Nat.ble len cap && Nat.ble cap 100000 && Nat.ble bytes 100000) with
    | false=>simp [hc] at hm
    | true =>
      simp only [hc,aw] at hm;cases hn:s.new (.cells (gQ cap zero) none) with
      | none=>simp [hn] at hm
      | some s2 =>
        simp [hn] at hm;obtain⟨rfl,rfl⟩:=hm;exact⟨gQ cap zero,fun id=>.sl id 0 len cap,by simp [ot,hu,h1,h2,hs,hz,hby,hc],rfl,hn⟩
 case buildSlice t len parts =>
  simp only [gT,bm] at h;cases hp:lO ev parts.toList with
  | none=>simp [hp] at h
  | some ps =>
    simp only [hp] at h;cases hm:v5 P s t len ps with
    | none=>simp [hm] at h
    | some p =>
      obtain⟨v,s1⟩:=p;simp [hm] at h;obtain⟨rfl,rfl⟩:=h;unfold v5 at hm;split at hm
      case h_2=>simp at hm
      rename_i elem hu;split at hm
      case h_2=>simp at hm
      rename_i size zero hs hz;cases hc:(Nat.beq zero.length size && Nat.ble 1 size && Nat.ble (len * size) 100000) with
      | false=>simp [hc] at hm
      | true =>
        simp only [hc,aw] at hm;cases hf:kz (fun i=>some (i * size,size)) (gQ len zero) ps with
        | none=>simp [hf] at hm
        | some cs =>
          simp only [hf] at hm;cases hn:s.new (.cells cs none) with
          | none=>simp [hn] at hm
          | some s2 =>
            simp [hn] at hm;obtain⟨rfl,rfl⟩:=hm;exact⟨cs,fun id=>.sl id 0 len len,by simp [ot,hu,hp,hs,hz,hc,hf],rfl,hn⟩
theorem Inv.adopt {W0:World} {s s':St} {w:World} (h:Inv W0 r s w) {cs:List LV} (hs:s.new (.cells cs none)=some s') {B:Nat} {c:Array Value} {e:TypeId} (hB:w.heap[B]? = some (.cells c e (0,0))) (hlo:W0.heap.size≤B)
  (hno:¬ a4j r s B) (hv:∀ r':Ren,r.le r'→VRs r' cs c.toList) (hp:∀ l∈cs,l.plain=true) :
  Inv W0 (r.put s.n (B,0,0)) s' w∧(∀ C,a4j (r.put s.n (B,0,0)) s' C→C=B∨a4j r s C):=by
 have hno':=hno;replace hno:∀ b x,s.lives b→r b=some x→x.1≠B:=fun b x h1 h2 h3=>hno' (.inl ⟨b,x,h1,h2,h3⟩)
 obtain⟨hn,hg⟩:=St.i4g hs;have hle:=Ren.i3m h (B,0,0);have hlt:B < w.heap.size:=(ft.1 hB).1;have lives:∀ b,s'.lives b→b≠s.n→s.lives b:=fun b ⟨L,h1,h2⟩ hb=>⟨L,by rw [hg,av hb] at h1; exact h1,h2⟩
 have hob:∀ b' F cs g,s'.h.get b'=some (.obj F cs g)→s.h.get b'=some (.obj F cs g):=fun b' F cs g k=>by
  rw [hg] at k;by_cases e:b'=s.n
  ·rw [aB e] at k; cases k
  ·rwa [av e] at k
 have hll:∀ b x,s'.lives b→r.put s.n (B,0,0) b=some x→(s.lives b∧r b=some x)∨x.1=B:=fun b x hb hx=>by
  by_cases e:b=s.n
  ·simp [Ren.put,e] at hx; subst hx; exact .inr rfl
  ·simp [Ren.put,e] at hx;exact .inl ⟨lives b hb e,hx⟩
 refine⟨⟨h.below,fun b x hb=>?_,fun b x hl hb=>?_,fun b hb=>?_,fun b b' x x' hb hb' hx hx' he=>?_,fun b' ds op hb=>?_,fun b' t p hb=>?_,by rw [St.i4a hs]; exact h.gl,fun b' ds hb=>?_,h.ob.step hle hob (fun b x k1 k2=>(hll b x k1 k2).imp id fun e=>by rw [e]; exact fun k=>hno' (.inr k)) (aR _) fun _ _=>rfl⟩,fun C hC=>?_⟩
 ·by_cases e:b=s.n
  ·simp [Ren.put,e] at hb; subst hb; simp; omega
  ·simp [Ren.put,e] at hb;have:=h.dom b x hb;omega
 ·by_cases e:b=s.n
  ·simp [Ren.put,e] at hb; subst hb; exact hlo
  ·simp [Ren.put,e] at hb;exact h.own b x (lives b hl e) hb
 ·rw [hg,av aI]; exact h.fresh b aI
 ·by_cases e1:b=s.n <;> by_cases e2:b'=s.n
  ·omega
  ·simp [Ren.put,e1] at hx; simp [Ren.put,e2] at hx';subst hx;exact absurd he.symm (hno b' x' (lives b' hb' e2) hx')
  ·simp [Ren.put,e1] at hx; simp [Ren.put,e2] at hx';subst hx';exact absurd he (hno b x (lives b hb e1) hx)
  ·simp [Ren.put,e1] at hx; simp [Ren.put,e2] at hx';exact h.inj b b' x x' (lives b hb e1) (lives b' hb' e2) hx hx' he
 ·rw [hg] at hb;by_cases e1:b'=s.n
  ·subst e1;simp at hb;obtain⟨rfl,rfl⟩:=hb;have hl:=(hv r r.le_refl).length;refine .inr ⟨(B,0,0),by simp [Ren.put],⟨c,e,0,0,hB,fun i l hi=>⟨hp _ (fS hi),?_⟩,fun i hi=>by simp,by simp [dv]; simp at hl; omega,fun v hv'=>?_⟩,by simp [dv]⟩
   ·obtain⟨u,k1,k2⟩:=(hv (r.put s.n (B,0,0)) hle).get hi;exact⟨u,by simpa using k1,k2⟩
   ·exact(hv r r.le_refl).all_one hp v hv'
  ·rw [av e1] at hb;rcases h.cells b' ds op hb with⟨h1,h2⟩ | ⟨x,h1,h2⟩
   ·exact .inl ⟨h1,by simp [Ren.put,e1,h2]⟩
   exact .inr ⟨x,hle _ _ h1,h2.mono hle rfl⟩
 ·rw [hg] at hb;by_cases e1:b'=s.n
  ·subst e1; simp at hb
  ·rw [av e1] at hb;obtain⟨x,h1,h0,h2⟩:=h.iter b' t p hb;exact⟨x,hle _ _ h1,h0,h2⟩
 ·rw [hg] at hb;by_cases e1:b'=s.n
  ·subst e1; simp at hb
  ·rw [av e1] at hb;rcases h.ro b' ds hb with⟨h1,h2⟩ | ⟨x,h1,c',e',f,h2,h3⟩
   ·exact .inl ⟨h1,by simp [Ren.put,e1,h2]⟩
   exact .inr ⟨x,hle _ _ h1,c',e',f,h2,fun i l hl=>let ⟨q1,u,q2,q3⟩:=h3 i l hl; ⟨q1,u,q2,q3.mono hle⟩⟩
 ·rcases hC with⟨b,x,h1,h2,rfl⟩ | ⟨b,F,cs',g,h1,h2⟩
  ·rcases hll b x h1 h2 with⟨k1,k2⟩ | k
   ·exact .inr (.inl ⟨b,x,k1,k2,rfl⟩)
   ·exact .inl k
  ·obtain⟨x,k1,k2,_⟩:=h.ob.holds b F cs' g (hob _ _ _ _ h1);exact .inr (.inr ⟨b,F,cs',g,hob _ _ _ _ h1,k2.back hle h2⟩)
theorem Inv.junk {W0:World} {s:St} {w:World} (h:Inv W0 r s w) (o:Obj):Inv W0 r s { w with heap:=w.heap.push o }∧Ext r s w r s { w with heap:=w.heap.push o }:=by
 have hheap:∀ B,B < w.heap.size→(w.heap.push o)[B]? = w.heap[B]?:=fun B hB=>by rw [Array.getElem?_push,av aI]
 have hW:=h.below.size;refine⟨⟨h.below.trans ⟨rfl,rfl,rfl,by simp,fun B hB=>hheap B aI⟩,fun b x hb=>?_,h.own,h.fresh,h.inj,fun b cs op hb=>?_,fun b t p hb=>?_,h.gl,h.ro,h.ob.step r.le_refl (fun _ _ _ _ k=>k) (fun _ _ k1 k2=>.inl ⟨k1,k2⟩) bH fun B hB=>hheap B (h.ob.inside B hB).2⟩,⟨r.le_refl,aR _,by simp,fun _ _ h=>h,fun B hB _=>hheap B hB⟩⟩
 ·have:=h.dom b x hb; simp; omega
 ·rcases h.cells b cs op hb with k | ⟨x,h1,h2⟩
  ·exact .inl k
  exact .inr ⟨x,h1,h2.mono r.le_refl (hheap _ (h.dom _ _ h1).2)⟩
 ·obtain⟨x,h1,h0,h2⟩:=h.iter b t p hb;exact⟨x,h1,h0,by rw [← h2]; exact hheap _ (h.dom _ _ h1).2⟩
theorem Xg {call:Nat→List LV→St→Option (LV×St)} (hcall:qo P call) {W0:World} {s s':St} {w:World} (hI:Inv W0 r s w) {ops:Array Oper} {f:Nat→LV} {nt:Nat} {a:Act} {d:Nat} {v0:Value}
  (hA:AR r f nt (a.put (some d) v0)) {i:Nat} {o:Oper} (ho:ops[i]? = some o) (hd:d ∉ o.looksAt ops) (hs:∀ cs b,o.op≠.select cs b) {v:LV} (h:dH call P ops f o s=some (v,s')) {Q:Exit→Act→World→Prop} {K:Act→World→Prop}
  (hK:∀ r' w' u,Inv W0 r' s' w'→Ext r s w r' s' w'→VR r' v u→K (a.put o.dst u) w'):wpOp P ops Q i K a w:=by
 have hd':∀ e,some d=some e→e ∉ o.looksAt ops:=fun e he=>by cases he; exact hd
 have hw:=wanted_put o a (some d) v0 hd';have he:=execOp_put o hs a (some d) v0 hd';unfold wpOp;simp only [ho];unfold dH at h;cases hga:mh ops f o with
 | true=>rw [hga] at h; cases h
 | false =>
 simp only [hga] at h;rw [hA.wanted ops o hga,hw] at h;cases hwt:Region.wanted o (yielded ops a.tmps) with
 | false =>
   simp [hwt] at h;obtain⟨rfl,rfl⟩:=h;simp only [gd,dn];exact hK r w undef hI (Ext.refl _ _ _) rY
 | true =>
   simp only [hwt] at h;simp only [eR]
   left
   unfold Oper.wp;rw [← he];cases hop:gT P (f9 f) o.op s with
   | none=>simp [hop] at h
   | some p =>
     obtain⟨n,s1⟩:=p;simp only [hop] at h;obtain⟨r',w',k1,k2,k3⟩:=K1 (P:=P) (ρ:=(a.put (some d) v0).eval) hI hA.eval hop;cases n with
     | val l =>
       simp at h;obtain⟨rfl,rfl⟩:=h;obtain⟨u,e,hv⟩:=k3;rw [e];exact hK r' w' u k1 k2 hv
     | skip =>
       simp at h;obtain⟨rfl,rfl⟩:=h;simp only [NR] at k3;rw [k3];exact hK r' w' undef k1 k2 rY
     | enter g args =>
       obtain⟨us,e,hv⟩:=k3;rw [e];simp only [Oper.upon];refine(hcall W0 r' g args s1 s' v w' us h k1 hv).mono fun e w'' ⟨u,r'',he,hu,hi,hx⟩=>?_
       subst he;exact hK r'' w'' u hi (k2.trans hx) hu
end
section
open Go.RowKit
variable {P:Program} {r:Ren}
abbrev Pl:=List (Oper×Nat)
def TRW (W:Pl) (R:List Rc) (f0:Nat→LV) (L:Nat→Prop) (f:Nat→LV):Prop :=
 ∀ t,(∃ (k:Nat) (o:Oper) (m:Nat) (rc:Rc),L m∧W[k]? = some (o,m)∧o.dst=some t∧R[k]? = some rc∧f t=rc.v∧∀ (k':Nat) (o':Oper) (m':Nat),k < k'→W[k']? = some (o',m')→o'.dst=some t→¬ L m') ∨
   ((∀ (k:Nat) (o:Oper) (m:Nat),W[k]? = some (o,m)→o.dst=some t→¬ L m)∧f t=f0 t)
theorem TRW.unique {W:Pl} {R:List Rc} {f0 f g:Nat→LV} {L L':Nat→Prop} (h:TRW W R f0 L f) (h':TRW W R f0 L' g) {t:Nat} (ht:∀ (k:Nat) (o:Oper) (m:Nat),W[k]? = some (o,m)→o.dst=some t→(L m↔L' m)):f t=g t:=by
 rcases h t with⟨k,o,m,rc,a1,a2,a3,a4,a5,a6⟩ | ⟨a1,a2⟩
 ·rcases h' t with⟨k',o',m',rc',b1,b2,b3,b4,b5,b6⟩ | ⟨b1,b2⟩
  ·have:k=k':=by
    rcases lg k k' with e | e | e
    ·exact absurd ((ht k' o' m' b2 b3).2 b1) (a6 k' o' m' e b2 b3)
    ·exact e
    ·exact absurd ((ht k o m a2 a3).1 a1) (b6 k o m e a2 a3)
   subst this;rw [a4] at b4; cases b4;rw [a5,b5]
  ·exact absurd ((ht k o m a2 a3).1 a1) (b1 k o m a2 a3)
 ·rcases h' t with⟨k',o',m',rc',b1,b2,b3,b4,b5,b6⟩ | ⟨b1,b2⟩
  ·exact absurd ((ht k' o' m' b2 b3).2 b1) (a1 k' o' m' b2 b3)
  ·rw [a2,b2]
theorem TRW.step {W:Pl} {R:List Rc} {f0 f g:Nat→LV} {L L':Nat→Prop} (h:TRW W R f0 L f) (huniq:∀ (k k':Nat) (o o':Oper) (m:Nat),W[k]? = some (o,m)→W[k']? = some (o',m)→k=k') {i:Nat} {oi:Oper} {mi:Nat} {rc:Rc} (ho:W[i]? = some (oi,mi)) (hr:R[i]? = some rc)
  (hL:∀ k,L' k↔(L k∨k=mi)) (hlast:∀ (k:Nat) (o:Oper) (m:Nat) t,i < k→W[k]? = some (o,m)→oi.dst=some t→o.dst=some t→¬ L m) (hg:∀ t,g t=if oi.dst=some t then rc.v else f t):TRW W R f0 L' g:=by
 intro t;by_cases hd:oi.dst=some t
 ·refine .inl ⟨i,oi,mi,rc,(hL mi).2 (.inr rfl),ho,hd,hr,by rw [hg,aB hd],fun k o m hk h1 h2 h3=>?_⟩;rcases(hL m).1 h3 with h4 | h4
  ·exact hlast k o m t hk h1 hd h2 h4
  ·subst h4; have:=huniq _ _ _ _ _ ho h1; omega
 ·have hne:∀ (k:Nat) (o:Oper) (m:Nat),W[k]? = some (o,m)→o.dst=some t→m≠mi:=fun k o m h1 h2 e=>by
   subst e;have:=huniq _ _ _ _ _ ho h1;subst this; rw [ho] at h1; cases h1; exact hd h2
  rcases h t with⟨k,o,m,rc',a1,a2,a3,a4,a5,a6⟩ | ⟨a1,a2⟩
  ·refine .inl ⟨k,o,m,rc',(hL m).2 (.inl a1),a2,a3,a4,by rw [hg,av hd]; exact a5,fun k' o' m' h1 h2 h3 h4=>?_⟩;rcases(hL m').1 h4 with h5 | h5
   ·exact a6 k' o' m' h1 h2 h3 h5
   ·exact hne k' o' m' h2 h3 h5
  ·refine .inr ⟨fun k o m h1 h2 h3=>?_,by rw [hg,av hd]; exact a2⟩;rcases(hL m).1 h3 with h5 | h5
   ·exact a1 k o m h1 h2 h5
   ·exact hne k o m h1 h2 h5
theorem FT {ops:Array Oper} {b:Array Nat} {o:Oper} {k:Nat} {f:Nat→LV} {v:LV}:∀ (hs:Pl) (ss:List St),rZ P ops b o k f v hs ss=true →
  ∀ (m:Nat) (h:Oper×Nat) (s s1:St),hs[m]? = some h→ss[m]? = some s→ss[m+1]? = some s1→bm h.1.op=false→bO b h.2 k=false→bO b k h.2=false→gZ P ops o f v s=true∧gZ P ops o f v s1=true
 | [],ss,h,m,x,s,s1,h1,h2,h3,h4,h5,h6=>by simp at h1
 | y::hs,[],h,m,x,s,s1,h1,h2,h3,h4,h5,h6=>by simp at h2
 | y::hs,[_],h,m,x,s,s1,h1,h2,h3,h4,h5,h6=>by simp at h3
 | y::hs,a::c::ss,h,m,x,s,s1,h1,h2,h3,h4,h5,h6=>by
   simp only [rZ,bg] at h;cases m with
   | zero =>
     simp at h1 h2 h3; subst h1 h2 h3;have:=h.1;simp only [h4,h5,h6,mp,bg] at this;exact this
   | succ m =>
     simp only [eG] at h1 h2 h3;exact FT hs (c::ss) h.2 m x s s1 h1 h2 h3 h4 h5 h6
theorem FO {ops:Array Oper} {b:Array Nat} {W:Pl} {ss:List St}:∀ (l:Pl) (R:List Rc),qA P ops b W ss l R=true →
  ∀ (m:Nat) (u:Oper×Nat) (rc:Rc),l[m]? = some u→R[m]? = some rc→iT u.1.op=true→rZ P ops b u.1 u.2 (aQ rc.tm) rc.v W ss=true
 | [],R,h,m,u,rc,h1,h2,h3=>by simp at h1
 | x::l,[],h,m,u,rc,h1,h2,h3=>by simp at h2
 | x::l,y::R,h,m,u,rc,h1,h2,h3=>by
   simp only [qA,bg] at h;cases m with
   | zero=>simp at h1 h2; subst h1 h2; simpa [h3] using h.1
   | succ m =>
     simp only [eG] at h1 h2;exact FO l R h.2 m u rc h1 h2 h3
theorem L_ {ops:Array Oper} {b:Array Nat} {x:Nat}:∀ (l:Pl),tW ops b x l=true→∀ (i j:Nat) (u v:Oper×Nat),i < j→l[i]? = some u→l[j]? = some v→EE ops b x u v=true
 | [],h,i,j,u,v,hij,h1,h2=>by simp at h1
 | y::l,h,i,j,u,v,hij,h1,h2=>by
   simp only [tW,bg] at h;cases j with
   | zero=>omega
   | succ j =>
     simp only [eG] at h2;cases i with
     | zero=>simp at h1; subst h1; exact j_.1 h.1 v (fS h2)
     | succ i =>
       simp only [eG] at h1;exact L_ l h.2 i j u v aI h1 h2
theorem W3 {call:Nat→List LV→St→Option (LV×St)} {nt:Nat} {ops:Array Oper} {W:Pl} {R:List Rc} {tm tm':Tm} {s':St} {b:Array Nat} {xi q:Nat} {ox:Oper}
  (hlen:R.length=W.length) (huniq:∀ (k k':Nat) (o o':Oper) (m:Nat),W[k]? = some (o,m)→W[k']? = some (o',m)→k=k')
  (hq:W[q]? = some (ox,xi)) (hpair:∀ (i j:Nat) (u v:Oper×Nat),i < j→W[i]? = some u→W[j]? = some v→bO b u.2 v.2=false∧(bO b v.2 u.2=true∨((bm u.1.op || bm v.1.op || Nat.beq u.2 xi || Nat.beq v.2 xi)=true∧u.1.apart ops v.1=true)))
  (hB:∀ (k:Nat) (o:Oper) (m:Nat),q < k→W[k]? = some (o,m)→bm o.op=false→bO b m xi=true)
  (hstep:∀ (k:Nat) (o:Oper) (m:Nat),W[k]? = some (o,m)→∃ rc,R[k]? = some rc∧dH call P ops (aQ rc.tm) o (cX R s' k)=some (rc.v,cX R s' (k+1))∧md nt rc.tm o.dst rc.v=some (fM R tm' (k+1))∧rc.tm=fM R tm' k)
  (hlex0:∀ k,k≤W.length→TRW W R (aQ tm) (fun m=>∃ a o,a < k∧W[a]? = some (o,m)) (aQ (fM R tm' k)))
  (hok:∀ (k:Nat) (o:Oper) (m:Nat) (rc:Rc),W[k]? = some (o,m)→R[k]? = some rc→iT o.op=true→∀ (j:Nat) (h:Oper×Nat),W[j]? = some h→bm h.1.op=false→bO b h.2 m=false→bO b m h.2=false →
   gZ P ops o (aQ rc.tm) rc.v (cX R s' j)=true∧gZ P ops o (aQ rc.tm) rc.v (cX R s' (j+1))=true)
  {L:Nat→Prop} {f:Nat→LV} {p i mi:Nat} {oi:Oper} (hi:W[i]? = some (oi,mi)) (hne:mi≠xi) (hun:¬ L mi) (hpre:∀ j,bO b mi j=true→L j) (hpost:∀ (k:Nat) (o:Oper) (m:Nat),W[k]? = some (o,m)→bO b m mi=true→¬ L m)
  (hT:TRW W R (aQ tm) L f) (hp:p≤W.length) (hH:∀ (k:Nat) (o:Oper) (m:Nat),W[k]? = some (o,m)→bm o.op=false→(L m↔k < p)) :
  ∃ rc p',R[i]? = some rc∧dH call P ops f oi (cX R s' p)=some (rc.v,cX R s' p')∧p'≤W.length∧(bm oi.op=true→p'=p)∧(bm oi.op=false→p'=i+1) ∧
    (∀ (k:Nat) (o:Oper) (m:Nat),W[k]? = some (o,m)→bm o.op=false→((L m∨m=mi)↔k < p')) ∧
    (∀ d,oi.dst=some d→d < nt)∧TRW W R (aQ tm) (fun m=>L m∨m=mi) (fun t=>if oi.dst=some t then rc.v else f t):=by
 have hin:i < W.length:=(bU.1 hi).1
 let S:Nat→St:=cX R s'
 let heavy:Nat→Prop:=fun k=>∃ o m,W[k]? = some (o,m)∧bm o.op=false
 have hlight:∀ (k:Nat) (o:Oper) (m:Nat),W[k]? = some (o,m)→bm o.op=true→S (k+1)=S k:=by
  intro k o m ho hl;obtain⟨rc,g1,g2,_⟩:=hstep k o m ho;exact(mm hl g2).1
 have hconst:∀ c a,a≤c→c≤W.length→(∀ k,a≤k→k < c→¬ heavy k)→S a=S c:=by
  intro c
  induction c with
  | zero=>intro a ha _ _; have:a=0:=aI
          rw [this]
  | succ c ih =>
    intro a ha hc hno;by_cases e:a=c+1
    ·rw [e]
    ·have hlt:c < W.length:=aI;have hob:W[c]? = some (W[c].1,W[c].2):=cq hlt;have hl:bm W[c].1.op=true:=by
      cases hqq:bm W[c].1.op with
      | true=>rfl
      | false=>exact absurd ⟨_,_,hob,hqq⟩ (hno c aI aI)
     rw [hlight c _ _ hob hl];exact ih a aI aI fun k h1 h2=>hno k h1 aI
 obtain⟨rc,g1,g3,g4,g5⟩:=hstep i oi mi hi;have hiq:i≠q:=fun e=>by subst e; rw [hi] at hq; cases hq; exact hne rfl
 have hsame:∀ t∈oi.looksAt ops,f t=aQ rc.tm t:=by
  intro t ht;rw [g5];refine hT.unique (hlex0 i aI) fun k o m ho hd=>?_
  rcases lg k i with e | e | e
  ·refine⟨fun _=>⟨k,o,e,ho⟩,fun _=>?_⟩;rcases(hpair k i _ _ e ho hi).2 with h | ⟨_,h⟩
   ·exact hpre m h
   ·exact absurd ht ((Oper.apart_spec h).1 t hd)
  ·subst e;rw [hi] at ho; cases ho;exact⟨fun h=>absurd h hun,fun⟨a,o',h1,h2⟩=>by have:=huniq _ _ _ _ _ h2 hi; omega⟩
  ·refine⟨fun h=>?_,fun⟨a,o',h1,h2⟩=>by have:=huniq _ _ _ _ _ h2 ho; omega⟩;rcases(hpair i k _ _ e hi ho).2 with h' | ⟨_,h'⟩
   ·exact absurd h (hpost k o m ho h')
   ·exact absurd ht ((Oper.apart_spec h').2.2 t hd)
 obtain⟨q1,q2⟩:=pD g4;have hTs:TRW W R (aQ tm) (fun m=>L m∨m=mi) (fun t=>if oi.dst=some t then rc.v else f t):=by
  refine hT.step huniq hi g1 (fun k=>Iff.rfl) (fun k o m t hk ho h1 h2 h3=>?_) fun t=>rfl
  rcases(hpair i k _ _ hk hi ho).2 with h' | ⟨_,h'⟩
  ·exact hpost k o m ho h' h3
  ·exact(Oper.apart_spec h').2.1 t h1 h2
 cases hl:bm oi.op with
 | false =>
   have hbelow:∀ (k:Nat) (o:Oper) (m:Nat),W[k]? = some (o,m)→bm o.op=false→k < i→L m:=fun k o m ho hlk hk=>by
    rcases(hpair k i _ _ hk ho hi).2 with h | ⟨h,_⟩
    ·exact hpre m h
    ·simp only [hlk,hl,mp,lV,b7,cu] at h;rcases h with h | h
     ·subst h;have:=huniq _ _ _ _ _ hq ho;subst this;exact hpre _ (hB i oi mi hk hi hl)
     ·exact absurd h hne
   have habove:∀ (k:Nat) (o:Oper) (m:Nat),W[k]? = some (o,m)→bm o.op=false→i < k→¬ L m:=fun k o m ho hlk hk hLm=>by
    rcases(hpair i k _ _ hk hi ho).2 with h | ⟨h,_⟩
    ·exact hpost k o m ho h hLm
    ·have h1:=(hH k o m ho hlk).1 hLm;exact hun ((hH i oi mi hi hl).2 aI)
   have hSp:S p=S i:=by
    rcases Nat.le_total p i with e | e
    ·refine hconst i p e aI fun k h1 h2 ⟨o,m,ho,hlk⟩=>?_
     have:=(hH k o m ho hlk).1 (hbelow k o m ho hlk h2);omega
    ·refine(hconst p i e hp fun k h1 h2 ⟨o,m,ho,hlk⟩=>?_).symm;have h3:=(hH k o m ho hlk).2 h2;rcases jH i k with h4 | h4
     ·exact habove k o m ho hlk h4 h3
     ·have:k=i:=aI;subst this; rw [hi] at ho; cases ho; exact hun h3
   refine⟨rc,i+1,g1,by rw [yy hsame]; show dH call P ops (aQ rc.tm) oi (S p)=_; rw [hSp]; exact g3,by omega,by simp,fun _=>rfl,fun k o m ho hlk=>?_,q1,hTs⟩;rcases lg k i with e | e | e
   ·exact⟨fun _=>by omega,fun _=>.inl (hbelow k o m ho hlk e)⟩
   ·subst e; rw [hi] at ho; cases ho; exact⟨fun _=>by omega,fun _=>.inr rfl⟩
   ·refine⟨fun h=>?_,fun h=>by omega⟩;rcases h with h | h
    ·exact absurd h (habove k o m ho hlk e)
    ·subst h; have:=huniq _ _ _ _ _ hi ho; omega
 | true =>
   have hnh:∀ (k:Nat) (o:Oper) (m:Nat),W[k]? = some (o,m)→bm o.op=false→m≠mi:=fun k o m ho hlk e=>by
    subst e; have:=huniq _ _ _ _ _ hi ho; subst this; rw [hi] at ho; cases ho; rw [hl] at hlk; cases hlk
   refine⟨rc,p,g1,?_,hp,fun _=>rfl,by simp,fun k o m ho hlk=>by rw [← hH k o m ho hlk]; exact⟨fun h=>by rcases h with h | h; exact h; exact absurd h (hnh k o m ho hlk),fun h=>.inl h⟩,q1,hTs⟩;rw [yy hsame];have hat:=hok i oi mi rc hi g1;rcases Nat.le_total p i with e | e
   ·by_cases hex:∃ k,p≤k∧k < i∧heavy k
    ·obtain⟨k,hk⟩:=hex;have hfirst:∃ k,(p≤k∧k < i∧heavy k)∧∀ m,m < k→¬ (p≤m∧m < i∧heavy m):=by
      revert hk
      induction k using Nat.strongRecOn with
      | _ k ihk =>
        intro hk;by_cases h:∃ m,m < k∧(p≤m∧m < i∧heavy m)
        ·obtain⟨m,hm,hqq⟩:=h; exact ihk m hm hqq
        ·exact⟨k,hk,fun m hm hqq=>h ⟨m,hm,hqq⟩⟩
     obtain⟨k,⟨k1,k2,o,m,ho,hlo⟩,k4⟩:=hfirst;have hSp:S p=S k:=hconst k p k1 aI fun m h1 h2 hh=>k4 m h2 ⟨h1,by omega,hh⟩
     have hnl:¬ L m:=fun h=>by have:=(hH k o m ho hlo).1 h; omega
     have b1:=(hpair k i _ _ k2 ho hi).1;have b2:bO b mi m=false:=by
      cases hb:bO b mi m with
      | false=>rfl
      | true=>exact absurd (hpre m hb) hnl
     show dH call P ops (aQ rc.tm) oi (S p)=some (rc.v,S p);rw [hSp];exact v7 hl g3 fun hld=>(hat hld k _ ho hlo b1 b2).1
    ·have hSp:S p=S i:=hconst i p e aI fun m h1 h2 hh=>hex ⟨m,h1,h2,hh⟩
     show dH call P ops (aQ rc.tm) oi (S p)=some (rc.v,S p);rw [hSp];have:=(mm hl g3).1;rw [this] at g3; exact g3
   ·by_cases hex:∃ k,i≤k∧k < p∧heavy k
    ·have hlast:∃ k,(i≤k∧k < p∧heavy k)∧∀ m,k < m→¬ (i≤m∧m < p∧heavy m):=by
      obtain⟨k,hk⟩:=hex;have:∀ d k,p - k=d→(i≤k∧k < p∧heavy k)→∃ k,(i≤k∧k < p∧heavy k)∧∀ m,k < m→¬ (i≤m∧m < p∧heavy m):=by
       intro d
       induction d using Nat.strongRecOn with
       | _ d ihd =>
         intro k hd hk;by_cases h:∃ m,k < m∧(i≤m∧m < p∧heavy m)
         ·obtain⟨m,hm,hqq⟩:=h; exact ihd (p - m) aI m rfl hqq
         ·exact⟨k,hk,fun m hm hqq=>h ⟨m,hm,hqq⟩⟩
      exact this _ k rfl hk
     obtain⟨k,⟨k1,k2,o,m,ho,hlo⟩,k4⟩:=hlast;have hSp:S (k+1)=S p:=hconst p (k+1) aI hp fun m h1 h2 hh=>k4 m aI ⟨by omega,h2,hh⟩
     have hkl:L m:=(hH k o m ho hlo).2 k2;have hki:k≠i:=fun e2=>by subst e2; rw [hi] at ho; cases ho; rw [hl] at hlo; cases hlo
     have b2:=(hpair i k _ _ aI hi ho).1;have b1:bO b m mi=false:=by
      cases hb:bO b m mi with
      | false=>rfl
      | true=>exact absurd hkl (hpost k o m ho hb)
     show dH call P ops (aQ rc.tm) oi (S p)=some (rc.v,S p);rw [← hSp];exact v7 hl g3 fun hld=>(hat hld k _ ho hlo b1 b2).2
    ·have hSp:S i=S p:=hconst p i e hp fun m h1 h2 hh=>hex ⟨m,h1,h2,hh⟩
     show dH call P ops (aQ rc.tm) oi (S p)=some (rc.v,S p);rw [← hSp];have:=(mm hl g3).1;rw [this] at g3; exact g3
end
section
open Go.RowKit
variable {P:Program} {r:Ren}
theorem Xt {ev ev':Operand→Option LV} {o:Op} (h:∀ x∈o.operands,ev x=ev' x):ot P ev o=ot P ev' o:=by
 cases o <;> simp only [Op.operands] at h <;> simp only [ot]
 case makeSlice t l c=>rw [h l bH,h c bH]
 case buildSlice t n ps=>rw [Bf (xs:=ps.toList) fun x hx=>h x.2 (by simp; exact⟨x.1,by simpa using hx⟩)]
theorem XD {call:Nat→List LV→St→Option (LV×St)} (hcall:qo P call) {W0:World} {nt:Nat} {ops:Array Oper} {Q:Exit→Act→World→Prop} {tm tm':Tm} {s s':St} {w0:World} {a0:Act} {rs:List Rc}
  {A B:Pl} {ox:Oper} {xi d:Nat} (hperm:(A++(ox,xi)::B).Perm ops.toList.zipIdx) (hrun:jk call P nt ops ((A++(ox,xi)::B).map (·.1)) tm s []=some (tm',s',rs)) (hlex:lL ops=true) (hsel:Region.noSelect ops=true)
  (hflt:qw ox.op=true) (hguard:ox.guard=none) (hdst:ox.dst=some d) (hpairs:tW ops (CheckFast.beforeF ops) xi (A++(ox,xi)::B)=true) (hfl:xW (CheckFast.beforeF ops) xi A B=true)
  (hrec:qA P ops (CheckFast.beforeF ops) (A++(ox,xi)::B) ((s'::rs.map (·.s)).reverse) (A++(ox,xi)::B) rs.reverse=true)
  (hI:Inv W0 r s w0) (hA:AR r (aQ tm) nt a0) (hQ:∀ r' a' w',Inv W0 r' s' w'→Ext r s w0 r' s' w'→AR r' (aQ tm') nt a'→Q .normal a' w') :
  wpAny P .any ops Q ops.size (Array.replicate ops.size false) a0 w0:=by
 obtain⟨R,e1,e2,e3,e4,e5⟩:=AM hrun;simp only [fR] at e1;subst e1;generalize hWd:A++(ox,xi)::B=W at *
 let b:=CheckFast.beforeF ops
 let q:=A.length
 have hWl:W.length=ops.size:=by rw [hperm.length_eq]; simp
 rw [ii] at e2;have hq:W[q]? = some (ox,xi):=by rw [← hWd]; simp [q]
 have hW:∀ (k:Nat) (o:Oper) (m:Nat),W[k]? = some (o,m)→ops[m]? = some o:=fun k o m h=>by
  have:=hperm.mem_iff.1 (fS h);rw [wh] at this;simpa using this
 have hpos:∀ (m:Nat) (o:Oper),ops[m]? = some o→∃ k,W[k]? = some (o,m):=fun m o h=>by
  have:(o,m)∈ops.toList.zipIdx:=by rw [wh]; simpa using h
  obtain⟨k,hk,e⟩:=pJ (hperm.mem_iff.2 this);exact⟨k,by rw [cq hk,e]⟩
 have huniq:∀ (k k':Nat) (o o':Oper) (m:Nat),W[k]? = some (o,m)→W[k']? = some (o',m)→k=k':=fun k k' o o' m h h'=>by
  have hnd:(W.map (·.2)).Nodup:=by
   rw [(hperm.map (·.2)).nodup_iff];simp [List.zipIdx_map_snd,List.nodup_range']
  have hk:=(bU.1 h).1;have hk':=(bU.1 h').1;have e1:(W.map (·.2))[k]'(by simpa using hk)=m:=by simp [(bU.1 h).2]
  have e2:(W.map (·.2))[k']'(by simpa using hk')=m:=by simp [(bU.1 h').2]
  have hpw:=wg.1 hnd;rcases lg k k' with h3 | h3 | h3
  ·exact absurd (e1.trans e2.symm) (hpw k k' (by simpa using hk) (by simpa using hk') h3)
  ·exact h3
  ·exact absurd (e2.trans e1.symm) (hpw k' k (by simpa using hk') (by simpa using hk) h3)
 have hpair:∀ (i j:Nat) (u v:Oper×Nat),i < j→W[i]? = some u→W[j]? = some v→bO b u.2 v.2=false∧(bO b v.2 u.2=true∨((bm u.1.op || bm v.1.op || Nat.beq u.2 xi || Nat.beq v.2 xi)=true∧u.1.apart ops v.1=true)):=by
  intro i j u v hij h1 h2;have:=L_ _ hpairs i j u v hij h1 h2;simp only [EE,bg,lV,pM] at this;obtain⟨t1,t2⟩:=this;refine⟨t1,t2.imp id fun t3=>⟨?_,t3.2⟩⟩;have:=t3.1;simp only [lV];exact this
 simp only [xW,bg] at hfl;obtain⟨⟨fl1,fl2⟩,Dp⟩:=hfl;have hAW:∀ k,k < q→W[k]? = A[k]?:=fun k hk=>by rw [← hWd,iY hk]
 have hBW:∀ k,q < k→W[k]? = B[k - q - 1]?:=fun k hk=>by
  rw [← hWd,kb aI];obtain⟨j,hj⟩:∃ j,k - A.length=j+1:=⟨k - A.length - 1,by omega⟩;rw [hj]; simp
 have hB:∀ (k:Nat) (o:Oper) (m:Nat),q < k→W[k]? = some (o,m)→bm o.op=false→bO b m xi=true:=fun k o m hk ho hl=>by
  rw [hBW k hk] at ho;have:=j_.1 fl1 _ (fS ho);simpa [hl] using this
 have hA':∀ (k:Nat) (o:Oper) (m:Nat),k < q→W[k]? = some (o,m)→bO b m xi=false:=fun k o m hk ho=>by
  rw [hAW k hk] at ho;have:=j_.1 fl2 _ (fS ho);simpa using this
 have hdep:∀ (k:Nat) (o:Oper) (m:Nat),W[k]? = some (o,m)→bO b m xi=true→∀ (k':Nat) (o':Oper) (m':Nat),k' < q→W[k']? = some (o',m')→bm o'.op=false→bO b m m'=true:=by
  intro k o m ho hb k' o' m' hk' ho' hl';have hkq:q < k:=by
   rcases lg k q with e | e | e
   ·rw [hA' k o m e ho] at hb; cases hb
   ·subst e;rw [hq] at ho; cases ho;have:=AY hlex xi xi (hW _ _ _ hq) hb;omega
   ·exact e
  rw [hBW k hkq] at ho;rw [hAW k' hk'] at ho';have:=j_.1 Dp _ (fS ho);simp only [lV,pM] at this;rcases this with h | h
  ·rw [show bO (CheckFast.beforeF ops) m xi=true from hb] at h; cases h
  ·have:=j_.1 h _ (fS ho');simpa [hl'] using this
 let S:Nat→St:=cX R s'
 have hstep:∀ (k:Nat) (o:Oper) (m:Nat),W[k]? = some (o,m)→∃ rc,R[k]? = some rc∧dH call P ops (aQ rc.tm) o (cX R s' k)=some (rc.v,cX R s' (k+1))∧md nt rc.tm o.dst rc.v=some (fM R tm' (k+1))∧rc.tm=fM R tm' k:=by
  intro k o m ho;obtain⟨rc,g1,g2,g3⟩:=e5 k o (by simp [ho]);have hs:cX R s' k=rc.s:=by simp [cX,g1]
  exact⟨rc,g1,by rw [hs]; exact g2,g3,by simp [fM,g1]⟩
 have hlex0:∀ k,k≤W.length→TRW W R (aQ tm) (fun m=>∃ a o,a < k∧W[a]? = some (o,m)) (aQ (fM R tm' k)):=by
  intro k
  induction k with
  | zero=>intro _ t; exact .inr ⟨fun k o m _ _ h=>by obtain⟨a,o',h1,_⟩:=h; omega,by rw [e3]⟩
  | succ k ih =>
    intro hk;have hok:W[k]? = some (W[k].1,W[k].2):=cq aI;obtain⟨rc,g1,g2,g4,g5⟩:=hstep k _ _ hok;refine(ih aI).step huniq hok g1 (fun m=>?_) (fun j o m t hj ho _ _ h=>?_) fun t=>?_
    ·constructor
     ·rintro⟨a,o,h1,h2⟩
      by_cases e:a=k
      ·subst e; rw [hok] at h2; simp at h2; exact .inr h2.2.symm
      ·exact .inl ⟨a,o,by omega,h2⟩
     ·rintro(⟨a,o,h1,h2⟩ | h)
      ·exact⟨a,o,by omega,h2⟩
      ·exact⟨k,W[k].1,by omega,by rw [hok,h]⟩
    ·obtain⟨a,o',h1,h2⟩:=h;have:=huniq _ _ _ _ _ h2 ho;omega
    ·rw [(pD g4).2 t,← g5]
 have hss:∀ m,m≤W.length→((s'::R.reverse.map (·.s)).reverse)[m]? = some (cX R s' m):=by
  intro m hm;have:(s'::R.reverse.map (·.s)).reverse=R.map (·.s)++[s']:=bH;rw [this];by_cases h:m < R.length
  ·rw [iY (by simpa using h)];simp [cX,cq h]
  ·have:m=R.length:=aI;subst this;rw [kb bH];simp [cX]
 have hok:∀ (k:Nat) (o:Oper) (m:Nat) (rc:Rc),W[k]? = some (o,m)→R[k]? = some rc→iT o.op=true→∀ (j:Nat) (h:Oper×Nat),W[j]? = some h→bm h.1.op=false→bO b h.2 m=false→bO b m h.2=false →
   gZ P ops o (aQ rc.tm) rc.v (cX R s' j)=true∧gZ P ops o (aQ rc.tm) rc.v (cX R s' (j+1))=true:=by
  intro k o m rc ho hr hl j h hj hlj h1 h2;have hok:=FO _ _ hrec k (o,m) rc ho (by simpa using hr) hl;have hjl:=(bU.1 hj).1;exact FT _ _ hok j h _ _ hj (hss j aI) (hss (j+1) aI) hlj h1 h2
 have hloc:=fun {L:Nat→Prop} {f:Nat→LV} {p i mi:Nat} {oi:Oper}=>@W3 P call nt ops W R tm tm' s' b xi q ox e2 huniq hq hpair hB hstep hlex0 hok L f p i mi oi
 obtain⟨rcx,x1,x2,x3,x4⟩:=hstep q ox xi hq;have hxheavy:bm ox.op=false:=by cases hop:ox.op <;> simp [hop,qw] at hflt <;> simp [bm]
 have hxw:∀ f:Nat→LV,lP ops f ox=true:=fun f=>by simp [lP,hguard]
 have hxa:∀ f:Nat→LV,mh ops f ox=false:=fun f=>by simp [mh,hguard]
 have hxl:∃ cs mk,ot P (f9 (aQ rcx.tm)) ox.op=some (cs,mk)∧rcx.v=mk (S q).n∧(S q).new (.cells cs none)=some (S (q+1)):=by
  simp only [dH,hxa,hxw] at x2;cases hop:gT P (f9 (aQ rcx.tm)) ox.op (cX R s' q) with
  | none=>simp [hop] at x2
  | some p =>
    obtain⟨n,s1⟩:=p;obtain⟨cs,mk,y1,y2,y3⟩:=Wx hflt hop;subst y2;simp [hop] at x2;exact⟨cs,mk,y1,x2.1.symm,y3.trans (by rw [x2.2])⟩
 obtain⟨cs,mk,y1,y2,y3⟩:=hxl;obtain⟨z1,z2⟩:=pD x3;have hdn:d < nt:=z1 d hdst;have heavyS:∀ c a,a≤c→c≤W.length→(∀ (k:Nat) (o:Oper) (m:Nat),a≤k→k < c→W[k]? = some (o,m)→bm o.op=true)→S a=S c:=by
  intro c
  induction c with
  | zero=>intro a ha _ _; have:a=0:=aI
          rw [this]
  | succ c ih =>
    intro a ha hc hno;by_cases e:a=c+1
    ·rw [e]
    ·have hob:W[c]? = some (W[c].1,W[c].2):=cq aI;obtain⟨rc,g1,g2,_⟩:=hstep c _ _ hob;have:=(mm (hno c _ _ aI aI hob) g2).1;show S a=S (c+1);rw [show S (c+1)=S c from this];exact ih a aI aI fun k o m h1 h2 h3=>hno k o m h1 aI h3
 let listedP:Array Bool→Nat→Prop:=fun listed m=>listed.getD m false=true
 let Jn:Array Bool→Act→World→Prop:=fun listed a w=>∃ (r':Ren) (f:Nat→LV) (p:Nat),Inv W0 r' (S p) w∧Ext r s w0 r' (S p) w∧AR r' f nt a∧TRW W R (aQ tm) (listedP listed) f∧p≤W.length ∧
  (∀ (k:Nat) (o:Oper) (m:Nat),W[k]? = some (o,m)→bm o.op=false→(listedP listed m↔k < p))
 let Jp:Array Bool→Act→World→Prop:=fun listed a w=>∃ (r':Ren) (f:Nat→LV) (p:Nat) (v0:Value) (Bk:Nat) (c:Array Value) (e:TypeId) (mkR:Nat→Value),Inv W0 r' (S p) w∧Ext r s w0 r' (S p) w∧AR r' f nt (a.put (some d) v0)∧TRW W R (aQ tm) (fun m=>listedP listed m∧m≠xi) f∧p≤q ∧
  (∀ (k:Nat) (o:Oper) (m:Nat),W[k]? = some (o,m)→bm o.op=false→((listedP listed m∧m≠xi)↔k < p))∧listedP listed xi∧(∀ (k:Nat) (o:Oper) (m:Nat),W[k]? = some (o,m)→bO b m xi=true→¬ listedP listed m) ∧
  a.tmps[d]? = some (mkR Bk)∧w0.heap.size≤Bk∧w.heap[Bk]? = some (.cells c e (0,0))∧¬ a4j r' (S p) Bk∧(∀ r'':Ren,r'.le r''→VRs r'' cs c.toList)∧(∀ l∈cs,l.plain=true) ∧
  (∀ (r'':Ren) id B',r'' id=some (B',0,0)→VR r'' (mk id) (mkR B'))
 have hW0:W0.heap.size≤w0.heap.size:=hI.below.size;have conv:∀ listed a w,Jp listed a w→(∀ (k:Nat) (o:Oper) (m:Nat),k < q→W[k]? = some (o,m)→bm o.op=false→listedP listed m)→Jn listed a w:=by
  rintro listed a w ⟨r',f,p,v0,Bk,c,e,mkR,j1,j2,j3,j4,j5,j6,j7,j8,j9,j10,j11,j12,j13,j14,j15⟩ hall
  have hSp:S p=S q:=heavyS q p j5 (by have:=(bU.1 hq).1; omega) fun k o m h1 h2 ho=>by
   cases hl:bm o.op with
   | true=>rfl
   | false =>
     have hne:m≠xi:=fun e'=>by subst e'; have:=huniq _ _ _ _ _ hq ho; omega
     have:=(j6 k o m ho hl).1 ⟨hall k o m h2 ho hl,hne⟩;omega
  rw [hSp] at j1 j2 j12;obtain⟨i1,i2⟩:=j1.adopt y3 j11 aI j12 j13 j14;have hqn:=(bU.1 hq).1;refine⟨r'.put (S q).n (Bk,0,0),fun t=>if ox.dst=some t then rcx.v else f t,q+1,i1,⟨Ren.le_trans j2.le (Ren.i3m j1 _),?_,j2.size,fun B hlt hB=>?_,j2.keep⟩,?_,?_,by omega,fun k o m ho hl=>?_⟩
  ·have:=(St.i4g y3).1; have:=j2.n; omega
  ·rcases i2 B hB with h | h
   ·omega
   ·exact j2.img B hlt h
  ·have hsz:a.tmps.size=nt:=by have:=j3.size; simpa [Act.put] using this
   refine⟨hsz,by have:=j3.defers; simpa [Act.put] using this,fun t ht=>?_,fun t ht=>?_⟩
   ·by_cases e':d=t
    ·subst e';simp only [hdst,eR];exact⟨mkR Bk,j9,by rw [y2]; exact j15 _ _ _ (by simp [Ren.put])⟩
    ·rw [hdst,av (by simpa using e')];obtain⟨v,k1,k2⟩:=j3.get t ht;simp only [Act.put] at k1;rw [mX e'] at k1;exact⟨v,k1,k2.mono (Ren.i3m j1 _)⟩
   ·rw [hdst,av (by simp; omega)]; exact j3.out t ht
  ·refine j4.step huniq hq x1 (fun m=>?_) (fun k o m t hk ho h1 h2 h3=>?_) fun t=>rfl
   ·constructor
    ·intro h; by_cases e':m=xi; exact .inr e'; exact .inl ⟨h,e'⟩
    ·rintro(h | h); exact h.1; rw [h]; exact j7
   ·rcases(hpair q k _ _ hk hq ho).2 with h' | ⟨_,h'⟩
    ·exact j8 k o m ho h' h3.1
    ·exact(Oper.apart_spec h').2.1 t h1 h2
  ·rcases lg k q with e' | e' | e'
   ·exact⟨fun _=>by omega,fun _=>hall k o m e' ho hl⟩
   ·subst e'; rw [hq] at ho; cases ho; exact⟨fun _=>by omega,fun _=>j7⟩
   ·exact⟨fun h=>absurd h (j8 k o m ho (hB k o m e' ho hl)),fun h=>by omega⟩
 have main:∀ (fuel:Nat) (listed:Array Bool) (a:Act) (w:World),listed.size=ops.size→listed.toList.count false=fuel →
   (∀ i o,listed.getD i false=true→ops[i]? = some o→∀ e∈o.after,Region.binds .any e=true→listed.getD e.on false=true)→(Jn listed a w∨Jp listed a w)→wpAny P .any ops Q fuel listed a w:=by
  have fin:∀ (listed:Array Bool) (a:Act) (w:World),listed.size=ops.size→(Jn listed a w∨Jp listed a w)→Region.ready .any ops listed=[]→Q .normal a w:=by
   intro listed a w hsz hJ hready;have hall:∀ i,i < ops.size→listed.getD i false=true:=by
    intro i
    induction i using Nat.strongRecOn with
    | _ i ih =>
      intro hi;cases hv:listed.getD i false with
      | true=>rfl
      | false =>
        have hoi:ops[i]? = some (ops[i]):=mr hi;have:i∈Region.ready .any ops listed:=by
         rw [mem_ready];refine⟨?_,_,hoi,fun e he hb=>ih e.on (qK hlex hoi e he hb) (Nat.lt_trans (qK hlex hoi e he hb) hi)⟩;have hlt:i < listed.size:=aI;simp [hlt] at hv ⊢; exact hv
        rw [hready] at this; cases this
   have hallW:∀ (k:Nat) (o:Oper) (m:Nat),W[k]? = some (o,m)→listedP listed m:=fun k o m ho=>hall m (ft.1 (hW k o m ho)).1
   have hJ':Jn listed a w:=by
    rcases hJ with h | h
    ·exact h
    ·exact conv listed a w h fun k o m _ ho _=>hallW k o m ho
   obtain⟨r',f,p,j1,j2,j3,j4,j5,j6⟩:=hJ';have hend:R[W.length]? = none:=gO aI;have hS:S p=s':=by
    rw [heavyS W.length p j5 (aR _) fun k o m h1 h2 ho=>by
     cases hl:bm o.op with
     | true=>rfl
     | false =>
       have:=(j6 k o m ho hl).1 (hallW k o m ho);omega]
    simp [S,cX,hend]
   have hf:f=aQ tm':=by
    funext t
    have h1:=hlex0 W.length (aR _);have h2:fM R tm' W.length=tm':=by simp [fM,hend]
    rw [h2] at h1;refine j4.unique h1 fun k o m ho _=>?_
    exact⟨fun _=>⟨k,o,(bU.1 ho).1,ho⟩,fun _=>hallW k o m ho⟩
   rw [hS] at j1 j2;rw [hf] at j3;exact hQ r' a w j1 j2 j3
  intro fuel
  induction fuel with
  | zero =>
    intro listed a w hsz hcnt hD hJ;have hr:Region.ready .any ops listed=[]:=by
     cases hr:Region.ready .any ops listed with
     | nil=>rfl
     | cons i l =>
       have:i∈Region.ready .any ops listed:=by rw [hr]; simp
       obtain⟨h1,o,ho,_⟩:=mem_ready.1 this;have hlt:i < listed.size:=by rw [hsz]; exact(ft.1 ho).1
       have:(false:Bool)∈listed.toList:=by
        simp [hlt] at h1;rw [← h1]; simp
       rw [List.count_eq_zero] at hcnt;exact absurd this hcnt
    exact⟨hr,fin listed a w hsz hJ hr⟩
  | succ fuel ih =>
    intro listed a w hsz hcnt hD hJ;refine⟨fun hr=>fin listed a w hsz hJ hr,fun i hi=>?_⟩;obtain⟨hun,oi,hoi,hedges⟩:=mem_ready.1 hi;have hin:i < ops.size:=(ft.1 hoi).1;have hlt:i < listed.size:=aI;have hun':¬ listedP listed i:=by
     simp [listedP,hlt] at hun ⊢; exact hun
    obtain⟨ki,hki⟩:=hpos i oi hoi;have hpre:∀ j,bO b i j=true→listedP listed j:=fun j hj=>t6 hlex (D:=listedP listed) hD i j hoi hedges hj
    have hpost:∀ (k:Nat) (o:Oper) (m:Nat),W[k]? = some (o,m)→bO b m i=true→¬ listedP listed m:=fun k o m ho hj hl =>
     hun' (t6 hlex (D:=listedP listed) hD m i (hW k o m ho) (hD m o hl (hW k o m ho)) hj)
    have hset:∀ k,listedP (listed.setIfInBounds i true) k↔(listedP listed k∨k=i):=by
     intro k;show(listed.setIfInBounds i true).getD k false=true↔(listed.getD k false=true∨k=i);by_cases e:i=k
     ·subst e;simp [hlt]
     ·simp only [Array.getD_eq_getD_getElem?,mX e];exact⟨fun h=>.inl h,fun h=>by rcases h with h | h; exact h; exact absurd h.symm e⟩
    have hcnt':(listed.setIfInBounds i true).toList.count false=fuel:=by
     have:=Bh listed.toList i (by simp [hlt] at hun; simp [hlt,hun]);rw [Array.toList_setIfInBounds]; omega
    have hD':∀ j o,(listed.setIfInBounds i true).getD j false=true→ops[j]? = some o→∀ e∈o.after,Region.binds .any e=true→(listed.setIfInBounds i true).getD e.on false=true:=by
     intro j o hj ho e he hb;have hj':=(hset j).1 hj;refine(hset e.on).2 ?_;rcases hj' with hj' | hj'
     ·exact .inl (hD j o hj' ho e he hb)
     ·subst hj'; rw [hoi] at ho; cases ho;exact .inl (hedges e he hb)
    have hgo:∀ a' w',(Jn (listed.setIfInBounds i true) a' w'∨Jp (listed.setIfInBounds i true) a' w')→wpAny P .any ops Q fuel (listed.setIfInBounds i true) a' w' :=
     fun a' w' h=>ih _ a' w' (by simpa using hsz) hcnt' hD' h
    have hJ':Jn listed a w∨(Jp listed a w∧∃ (k:Nat) (o:Oper) (m:Nat),k < q∧W[k]? = some (o,m)∧bm o.op=false∧¬ listedP listed m):=by
     rcases hJ with h | h
     ·exact .inl h
     ·by_cases hall:∀ (k:Nat) (o:Oper) (m:Nat),k < q→W[k]? = some (o,m)→bm o.op=false→listedP listed m
      ·exact .inl (conv listed a w h hall)
      ·right
       refine⟨h,?_⟩;apply Classical.byContradiction;intro hno;exact hall fun k o m h1 h2 h3=>Classical.byContradiction fun h4=>hno ⟨k,o,m,h1,h2,h3,h4⟩
    rcases hJ' with⟨r',f,p,j1,j2,j3,j4,j5,j6⟩ | ⟨⟨r',f,p,v0,Bk,c,e,mkR,j1,j2,j3,j4,j5,j6,j7,j8,j9,j10,j11,j12,j13,j14,j15⟩,k0,o0,m0,hk0,ho0,hl0,hn0⟩
    ·by_cases hx:i=xi
     ·-- the new block itself
      subst hx;have:=huniq _ _ _ _ _ hki hq;subst this;rw [hki] at hq;have eo:oi=ox:=by cases hq; rfl
      subst eo;have hsame:∀ t∈oi.looksAt ops,f t=aQ rcx.tm t:=by
       intro t ht;rw [x4];refine j4.unique (hlex0 q (by have:=(bU.1 hki).1; omega)) fun k o m ho hd'=>?_
       rcases lg k q with e | e | e
       ·refine⟨fun _=>⟨k,o,e,ho⟩,fun _=>?_⟩;rcases(hpair k q _ _ e ho hki).2 with h | ⟨_,h⟩
        ·exact hpre m h
        ·exact absurd ht ((Oper.apart_spec h).1 t hd')
       ·subst e;rw [hki] at ho; cases ho;exact⟨fun h=>absurd h hun',fun⟨a,o',h1,h2⟩=>by have:=huniq _ _ _ _ _ h2 hki; omega⟩
       ·refine⟨fun h=>?_,fun⟨a,o',h1,h2⟩=>by have:=huniq _ _ _ _ _ h2 ho; omega⟩;rcases(hpair q k _ _ e hki ho).2 with h' | ⟨_,h'⟩
        ·exact absurd h (hpost k o m ho h')
        ·exact absurd ht ((Oper.apart_spec h').2.2 t hd')
      have hlf:ot P (f9 f) oi.op=some (cs,mk):=by
       rw [← y1];refine Xt fun x hx=>?_
       cases x with
       | tmp t =>
         simp only [f9];rw [hsame t];simp only [Oper.looksAt,gz,List.mem_filterMap];exact .inl ⟨.tmp t,by simpa using hx,rfl⟩
       | _=>rfl
      obtain⟨c,e,mkR,f1,f2,f3,f4⟩:=Ws (P:=P) (r:=r') (ρ:=a.eval) j3.eval hlf;have hpq:p≤q:=by
       have:=j6 q oi i hki hxheavy;rcases jH q p with h | h
       ·exact absurd (this.2 h) hun'
       ·exact h
      unfold wpOp;simp only [hoi];have hwant:Region.wanted oi (yielded ops a.tmps)=true:=by simp [Region.wanted,hguard]
      rw [aB hwant]
      left
      unfold Oper.wp;rw [f1];simp only [Oper.upon];obtain⟨k1,k2⟩:=j1.junk (.cells c e (0,0));obtain⟨v0,u1,u2⟩:=j3.get d hdn;refine hgo _ _ (.inr ⟨r',f,p,v0,w.heap.size,c,e,mkR,k1,j2.trans k2,?_,?_,hpq,fun k o m ho hl=>?_,(hset i).2 (.inr rfl),fun k o m ho hb hlm=>?_,?_,j2.size,by simp,j1.unowned (aR _),f2,f3,f4⟩)
      ·have hsz':=j3.size;refine⟨by simp [Act.put,hdst,hsz'],by simp [Act.put,hdst,j3.defers],fun t ht=>?_,j3.out⟩;by_cases e':d=t
       ·subst e'; exact⟨v0,by simp [Act.put,hdst,hsz',hdn],u2⟩
       ·obtain⟨v,g1,g2⟩:=j3.get t ht;exact⟨v,by simp only [Act.put,hdst]; rw [mX e',mX e']; exact g1,g2⟩
      ·have:(fun m=>listedP (listed.setIfInBounds i true) m∧m≠i)=listedP listed:=by
        funext m
        apply propext;rw [hset];exact⟨fun⟨h1,h2⟩=>h1.resolve_right h2,fun h=>⟨.inl h,fun e'=>by subst e'; exact hun' h⟩⟩
       rw [this]; exact j4
      ·rw [hset,← j6 k o m ho hl];exact⟨fun⟨h1,h2⟩=>h1.resolve_right h2,fun h=>⟨.inl h,fun e'=>by subst e'; exact hun' h⟩⟩
      ·rcases(hset m).1 hlm with h | h
       ·exact hpost k o m ho hb h
       ·subst h;have:=AY hlex m m (hW k o m ho) hb;omega
      ·have hsz':=j3.size;simp [Act.put,hdst,hsz',hdn]
     ·obtain⟨rc,p',l1,l2,l3,l4,l5,l6,l7,l8⟩:=hloc hki hx hun' hpre hpost j4 j5 j6;refine A5 hcall j1 j3 hoi l2 fun r'' w' u hI'' hE'' hv=>?_
      refine hgo _ _ (.inl ⟨r'',_,p',hI'',j2.trans hE'',(j3.mono hE''.le).put hv l7 fun t=>rfl,?_,l3,fun k o m ho hl=>by rw [hset]; exact l6 k o m ho hl⟩);have:listedP (listed.setIfInBounds i true)=fun m=>listedP listed m∨m=i:=by
       funext m; exact propext (hset m)
      rw [this]; exact l8
    ·-- the new block is df,its number is not
     have hx:i≠xi:=fun e'=>by subst e'; exact hun' j7
     have hind:bO b i xi=false:=by
      cases hb:bO b i xi with
      | false=>rfl
      | true=>exact absurd (hpre m0 (hdep ki oi i hki hb k0 o0 m0 hk0 ho0 hl0)) hn0
     have hxind:bO b xi i=false:=by
      cases hb:bO b xi i with
      | false=>rfl
      | true=>exact absurd j7 (hpost q ox xi hq hb)
     have hapart:ox.apart ops oi=true∨oi.apart ops ox=true:=by
      have hne:ki≠q:=fun e'=>by subst e'; rw [hki] at hq; cases hq; exact hx rfl
      rcases jH ki q with h | h
      ·rcases(hpair ki q _ _ h hki hq).2 with h' | ⟨_,h'⟩
       ·rw [hxind] at h'; cases h'
       ·exact .inr h'
      ·rcases(hpair q ki _ _ aI hq hki).2 with h' | ⟨_,h'⟩
       ·rw [hind] at h'; cases h'
       ·exact .inl h'
     have hdl:d ∉ oi.looksAt ops:=by
      rcases hapart with h | h
      ·exact(Oper.apart_spec h).1 d hdst
      ·exact(Oper.apart_spec h).2.2 d hdst
     have hdd:oi.dst≠some d:=by
      rcases hapart with h | h
      ·exact(Oper.apart_spec h).2.1 d hdst
      ·exact fun e'=>(Oper.apart_spec h).2.1 d e' hdst
     obtain⟨rc,p',l1,l2,l3,l4,l5,l6,l7,l8⟩:=hloc (L:=fun m=>listedP listed m∧m≠xi) hki hx (fun h=>hun' h.1) (fun j hj=>⟨hpre j hj,fun e'=>by subst e'; rw [hind] at hj; cases hj⟩) (fun k o m ho hb h=>hpost k o m ho hb h.1) j4 (by have:=(bU.1 hq).1; omega) j6;have hp':p'≤q:=by
      cases hl:bm oi.op with
      | true=>rw [l4 hl]; exact j5
      | false =>
        rw [l5 hl];rcases lg ki q with h | h | h
        ·exact h
        ·subst h; rw [hki] at hq; cases hq; exact absurd rfl hx
        ·rw [hB ki oi i h hki hl] at hind; cases hind
     refine Xg hcall j1 j3 hoi hdl (fun cs' bb=>Region.noSelect_spec hsel i oi cs' bb hoi) l2 fun r'' w' u hI'' hE'' hv=>?_
     have hlt':Bk < w.heap.size:=(ft.1 j11).1;have hL:(fun m=>listedP (listed.setIfInBounds i true) m∧m≠xi)=fun m=>(listedP listed m∧m≠xi)∨m=i:=by
      funext m
      apply propext;rw [hset];constructor
      ·rintro⟨h1 | h1,h2⟩
       ·exact .inl ⟨h1,h2⟩
       ·exact .inr h1
      ·rintro(⟨h1,h2⟩ | h1)
       ·exact⟨.inl h1,h2⟩
       ·exact⟨.inr h1,by rw [h1]; exact hx⟩
     refine hgo _ _ (.inr ⟨r'',_,p',v0,Bk,c,e,mkR,hI'',j2.trans hE'',?_,by rw [hL]; exact l8,hp',fun k o m ho hl=>?_,(hset xi).2 (.inl j7),fun k o m ho hb hlm=>?_,?_,j10,?_,fun ho=>j12 (hE''.img Bk hlt' ho),fun r3 h3=>j13 r3 (Ren.le_trans hE''.le h3),j14,j15⟩)
     ·have hcomm:(a.put oi.dst u).put (some d) v0=(a.put (some d) v0).put oi.dst u:=Act.put_comm a u v0 fun e' he' h'=>by cases h'; exact hdd he'
      rw [hcomm];exact(j3.mono hE''.le).put hv l7 fun t=>rfl
     ·rw [show(listedP (listed.setIfInBounds i true) m∧m≠xi)=((listedP listed m∧m≠xi)∨m=i) from congrFun hL m];exact l6 k o m ho hl
     ·rcases(hset m).1 hlm with h | h
      ·exact j8 k o m ho hb h
      ·subst h; rw [hind] at hb; cases hb
     ·cases hd0:oi.dst with
      | none=>exact j9
      | some e' =>
        have hne:e'≠d:=fun h=>hdd (by rw [hd0,h])
        simp only [Act.put];rw [mX hne]; exact j9
     ·rw [hE''.keep Bk hlt' j12]; exact j11
 have hrep:∀ k,¬ listedP (Array.replicate ops.size false) k:=by
  intro k;by_cases h:k < ops.size <;> simp [listedP,h]
 refine main ops.size _ a0 w0 bH bH (fun i o h=>absurd h (hrep i)) (.inl ⟨r,aQ tm,0,by simp only [S,e4]; exact hI,by simp only [S,e4]; exact Ext.refl _ _ _,hA,fun t=>.inr ⟨fun k o m _ _=>hrep m,rfl⟩,by omega,fun k o m _ _=>⟨fun h=>absurd h (hrep m),fun h=>by omega⟩⟩)
end
section
open Go.RowKit
variable {P:Program}
def tH:LX→Exit
 | .normal=>.normal
 | .exit id=>.exit id
 | .ret=>.ret
def R7 (P:Program) (ctr:sq) (n:Nat):Prop :=
 ∀ (W0:World) (nt:Nat) (c:Code) (tm tm':Tm) (s s':St) (x:LX),dI P ctr n nt c tm s=some (x,tm',s')→∀ (r:Ren) (a:Act) (w:World),Inv W0 r s w→AR r (aQ tm) nt a →
   ∀ Q:Exit→Act→World→Prop,(∀ r' a' w',Inv W0 r' s' w'→Ext r s w r' s' w'→AR r' (aQ tm') nt a'→Q (tH x) a' w')→c.wp P Q a w
theorem Me {b:Array Nat} {all:Pl}:∀ {l A B:Pl} {x:Oper×Nat},r7 b all l=some (A,x,B)→l=A++x::B
 | [],A,B,x,h=>by simp [r7] at h
 | y::ys,A,B,x,h=>by
   simp only [r7] at h;cases hc:(qw y.1.op && all.any (fun z=>!bm z.1.op && !Nat.beq z.2 y.2 && !bO b z.2 y.2 && !bO b y.2 z.2)) with
   | true =>
     simp only [hc,aw,a8,bn] at h;obtain⟨rfl,rfl,rfl⟩:=h;rfl
   | false =>
     simp only [hc,aD] at h;cases hf:r7 b all ys with
     | none=>simp [hf] at h
     | some p =>
       obtain⟨l,x',r⟩:=p;simp only [hf,a8,bn] at h;obtain⟨rfl,rfl,rfl⟩:=h;rw [Me hf]; rfl
theorem Md {b:Array Nat} {x:Nat}:∀ {l A B:Pl},r5 b x l=(A,B)→l=A++B
 | [],A,B,h=>by simp [r5] at h; obtain⟨rfl,rfl⟩:=h; rfl
 | y::ys,A,B,h=>by
   simp only [r5] at h;cases hc:bO b y.2 x with
   | true=>simp only [hc,aw,bn] at h; obtain⟨rfl,rfl⟩:=h; rfl
   | false =>
     simp only [hc,aD] at h;cases hf:r5 b x ys with
     | mk l r =>
       simp only [hf,bn] at h;obtain⟨rfl,rfl⟩:=h;rw [Md hf]; rfl
theorem Ma {call:Nat→List LV→St→Option (LV×St)} (hcall:qo P call) {W0:World} {r:Ren} {nt id:Nat} {ops:Array Oper} {tm tm':Tm} {s s':St} {w:World} {a:Act}
  (h:yj call P nt ops tm s=some (tm',s')) (hI:Inv W0 r s w) (hA:AR r (aQ tm) nt a) {Q:Exit→Act→World→Prop}
  (hQ:∀ r' a' w',Inv W0 r' s' w'→Ext r s w r' s' w'→AR r' (aQ tm') nt a'→Q .normal a' w'):(Code.region id ops true).wp P Q a w:=by
 unfold yj at h;cases hf:r7 (CheckFast.beforeF ops) ops.toList.zipIdx ops.toList.zipIdx with
 | none=>simp [hf] at h
 | some p =>
   obtain⟨A0,x,B0⟩:=p;simp only [hf] at h;cases hs:r5 (CheckFast.beforeF ops) x.2 B0 with
   | mk B1 B2 =>
     simp only [hs] at h;cases hl:jk call P nt ops (((A0++B1)++x::B2).map (·.1)) tm s [] with
     | none=>simp only [hl] at h; cases h
     | some p =>
       obtain⟨tm1,s1,rs⟩:=p;simp only [hl] at h;cases hc:(P.follows .mixedOrders && lL ops && Region.noSelect ops && qw x.1.op && x.1.guard.isNone && x.1.dst.isSome && tW ops (CheckFast.beforeF ops) x.2 ((A0++B1)++x::B2) && xW (CheckFast.beforeF ops) x.2 (A0++B1) B2 &&
        qA P ops (CheckFast.beforeF ops) ((A0++B1)++x::B2) ((s1::rs.map (·.s)).reverse) ((A0++B1)++x::B2) rs.reverse) with
       | false=>simp only [hc,aD] at h; cases h
       | true =>
         simp only [hc,aw,a8,bn] at h;obtain⟨rfl,rfl⟩:=h;simp only [bg] at hc;obtain⟨⟨⟨⟨⟨⟨⟨⟨c1,c2⟩,c3⟩,c4⟩,c5⟩,c6⟩,c7⟩,c8⟩,c9⟩:=hc;obtain⟨ox,xi⟩:=x;obtain⟨d,hd⟩:=Option.isSome_iff_exists.1 c6;have hperm:((A0++B1)++(ox,xi)::B2).Perm ops.toList.zipIdx:=by
          rw [Me hf,Md hs,mW];exact List.Perm.append_left _ List.perm_middle
         refine wp_region_any c1 ?_;exact XD hcall hperm hl c2 c3 c4 (Option.isNone_iff_eq_none.1 c5) hd c7 c8 c9 (hI.draw _) hA fun r' a' w' h1 h2 h3=>hQ r' a' w' h1 ((Ext.draw _).trans h2) h3
theorem XE {call:Nat→List LV→St→Option (LV×St)} (hcall:qo P call) {W0:World} {r:Ren} {nt id:Nat} {ops:Array Oper} {d:Bool} {tm tm':Tm} {s s':St} {w:World} {a:Act}
  (h:vz call P nt ops d tm s=some (tm',s')) (hI:Inv W0 r s w) (hA:AR r (aQ tm) nt a) {Q:Exit→Act→World→Prop}
  (hQ:∀ r' a' w',Inv W0 r' s' w'→Ext r s w r' s' w'→AR r' (aQ tm') nt a'→Q .normal a' w'):(Code.region id ops d).wp P Q a w:=by
 unfold vz at h;cases d with
 | false =>
   simp only at h;cases hl:jk call P nt ops ops.toList tm s [] with
   | none=>simp [hl] at h
   | some p =>
     obtain⟨tm1,s1,rs⟩:=p;simp [hl] at h;obtain⟨rfl,rfl⟩:=h;refine wp_region ?_;have:=Lt hcall (Q:=Q) 0 (fun j=>by simp) hl hI hA hQ;rw [List.range_eq_range'];simpa using this
 | true =>
   simp only at h;cases hc:(P.follows .mixedOrders && vA ops) with
   | false=>simp only [hc,aD] at h; exact Ma hcall h hI hA hQ
   | true =>
     simp only [hc,aw] at h;cases hl:jk call P nt ops ops.toList tm s [] with
     | none=>simp [hl] at h
     | some p =>
       obtain⟨tm1,s1,rs⟩:=p;simp only [hl] at h;cases hr:rR P ops (CheckFast.beforeF ops) ((s1::rs.map (·.s)).reverse) 0 ops.toList rs.reverse with
       | false=>simp only [hr,aD] at h; exact Ma hcall h hI hA hQ
       | true =>
         simp only [hr,aw,a8,bn] at h;obtain⟨rfl,rfl⟩:=h;simp only [bg] at hc;refine wp_region_any hc.1 ?_;exact Xl hcall hl hc.2 hr (hI.draw _) hA fun r' a' w' h1 h2 h3=>hQ r' a' w' h1 ((Ext.draw _).trans h2) h3
theorem Ba:∀ (vs:List LV) (k:Nat) (tm tm':Tm),ib vs k tm=some tm'→∀ t,aQ tm' t=if k≤t∧t < k+vs.length then(vs[t - k]?).getD .undef else aQ tm t
 | [],k,tm,tm',h,t=>by simp [ib] at h; subst h; rw [av bH]
 | v::vs,k,tm,tm',h,t=>by
   simp only [ib] at h;cases hs:tm.set 16 k v with
   | none=>simp [hs] at h
   | some tm1 =>
     simp only [hs] at h;rw [Ba vs (k+1) tm1 tm' h t];have hg:=Tr.i4h _ _ _ _ _ hs t;by_cases h1:k+1≤t∧t < k+1+vs.length
     ·rw [aB h1,aB (by simp; omega),show t - k=(t - (k+1))+1 by omega,eG]
     ·rw [av h1];by_cases e:t=k
      ·subst e;rw [aB bH];simp [aQ,hg]
      ·rw [av (by simp; omega)];simp [aQ,hg,e]
theorem FX {W0:World} {r:Ren} {s:St} {w:World} (hI:Inv W0 r s w) {f:Nat→LV} {nt:Nat} {a:Act} (hA:AR r f nt a):∀ {rs:List ResultVar} {vs:List LV},gm P f s rs=some vs →
  ∃ us:List Value,VRs r vs us∧(rs.mapM (fun | .tmp t=>pure (a.tmps.getD t undef) | .cell x t=>do loadVar t (← asAddr (a.tmps.getD x undef)):ResultVar→Sem Value)).run P w=.ok us w
 | [],vs,h=>by simp [gm] at h; subst h; exact⟨[],by simp [VRs],by simp⟩
 | .tmp t::rest,vs,h=>by
   simp only [gm] at h;cases h1:gm P f s rest with
   | none=>simp [h1] at h
   | some ls =>
     simp [h1] at h; subst h;obtain⟨us,k1,k2⟩:=FX hI hA h1;have hv:=hA.eval (.tmp t) (f t) rfl;simp only [Act.eval] at hv;refine⟨a.tmps.getD t undef::us,by simp only [VRs]; exact⟨_,_,rfl,hv,k1⟩,?_⟩;rw [List.mapM_cons];simp only [bw,bT,br,k2]
 | .cell x t::rest,vs,h=>by
   simp only [gm] at h;cases h1:gm P f s rest with
   | none=>cases hf:f x <;> simp [hf,h1] at h
   | some ls =>
     cases hf:f x <;> simp only [hf,h1] at h <;> try (cases h; done)
     rename_i b o;cases hl:n_ P s t b o with
     | none=>simp [hl] at h
     | some v =>
       simp [hl] at h; subst h;obtain⟨us,k1,k2⟩:=FX hI hA h1;have hv:=hA.eval (.tmp x) (f x) rfl;rw [hf] at hv;simp only [Act.eval] at hv;have hv0:=hv;obtain⟨u,q1,q2⟩:=LI (P:=P) hI hl hv;simp only [VR] at hv0;obtain⟨B,q,c,hr,e⟩:=hv0;refine⟨u::us,by simp only [VRs]; exact⟨_,_,rfl,q2,k1⟩,?_⟩;rw [e] at q1;simp only [Instr.loadAt,Instr.sureAddr,bw,bT,br] at q1;have ha:∀ A:Addr,asAddr (.pointer (some A))=pure A:=fun _=>rfl
       rw [List.mapM_cons];simp only [bw,e,ha,bT,br,q1,k2]
theorem Bg {W0:World} {r:Ren} {s:St} {w:World} (hI:Inv W0 r s w) {f:Nat→LV} {nt:Nat} {a:Act} (hA:AR r f nt a) {fn:Func} {vs:List LV} (h:gm P f s fn.results.toList=some vs) :
  ∃ v,(results fn a.tmps).run P w=.ok v w∧VR r (mj vs) v:=by
 obtain⟨us,k1,k2⟩:=FX (P:=P) hI hA h;have hm:(fn.results.mapM (fun | .tmp t=>pure (a.tmps.getD t undef) | .cell x t=>do loadVar t (← asAddr (a.tmps.getD x undef)):ResultVar→Sem Value)).run P w=.ok us.toArray w:=by
  rw [Array.mapM_eq_mapM_toList];simp only [Sem.run_map,k2,br]
 have hdef:results fn a.tmps=(do
   let vs ← fn.results.mapM (fun | .tmp t=>pure (a.tmps.getD t undef) | .cell x t=>do loadVar t (← asAddr (a.tmps.getD x undef)):ResultVar→Sem Value)
   pure (if h:vs.size=1 then vs[0] else .tuple vs)):=rfl
 rw [hdef,bw,hm];refine⟨if h:us.toArray.size=1 then us.toArray[0] else .tuple us.toArray,?_,?_⟩
 ·rfl
 ·have hl:=k1.length
  match vs,us,k1,hl with
  | [],[],k1,hl=>show VR r (.tup []) (.tuple #[]); simp only [VR]; exact⟨[],rfl,k1⟩
  | [v],[u],k1,hl=>simp only [VRs] at k1; obtain⟨u',us',e,k1,_⟩:=k1; simp at e; obtain⟨rfl,_⟩:=e; simpa [mj] using k1
  | v::v'::vs,u::u'::us,k1,hl=>simp only [mj,VR]; exact⟨_,by simp,k1⟩
def cT (P:Program) (ctr:sq):Prop :=
 ∀ (f:Nat) (g:List LV→St→Option (LV×St)),ctr f=some g→∀ (W0:World) (r:Ren) (args:List LV) (s s':St) (l:LV) (w:World) (us:List Value),g args s=some (l,s')→Inv W0 r s w→VRs r args us →
   Calls P f us.toArray w fun e w'=>∃ v r',e=.returned v∧VR r' l v∧Inv W0 r' s' w'∧Ext r s w r' s' w'
theorem Kl:cT P xA:=fun f g h=>by cases h
theorem qI {ctr:sq} (hctr:cT P ctr):∀ n,R7 P ctr n∧qo P (mb P ctr n):=by
 intro n
 induction n using Nat.strongRecOn with
 | _ n ih =>
   cases n with
   | zero=>exact⟨fun W0 nt c tm tm' s s' x h=>by simp [dI] at h,fun W0 r f args s s' l w us h=>by simp [mb] at h⟩
   | succ n =>
     obtain⟨ihc,ihf⟩:=ih n (Nat.lt_succ_self n);constructor
     ·intro W0 nt c tm tm' s s' x h r a w hI hA Q hQ;cases c with
      | skip=>simp [dI] at h; obtain⟨rfl,rfl,rfl⟩:=h; exact wp_skip (hQ r a w hI (Ext.refl _ _ _) hA)
      | label l=>simp [dI] at h; obtain⟨rfl,rfl,rfl⟩:=h; exact wp_label (hQ r a w hI (Ext.refl _ _ _) hA)
      | exit id=>simp [dI] at h; obtain⟨rfl,rfl,rfl⟩:=h; exact wp_exit (hQ r a w hI (Ext.refl _ _ _) hA)
      | ret=>simp [dI] at h; obtain⟨rfl,rfl,rfl⟩:=h; exact wp_ret (hQ r a w hI (Ext.refl _ _ _) hA)
      | region id ops d =>
        simp only [dI] at h;cases hr:vz (mb P ctr n) P nt ops d tm s with
        | none=>simp [hr] at h
        | some p =>
          obtain⟨tm1,s1⟩:=p;simp [hr] at h;obtain⟨rfl,rfl,rfl⟩:=h;exact XE ihf hr hI hA hQ
      | seq c1 c2 =>
        simp only [dI] at h;cases h1:dI P ctr n nt c1 tm s with
        | none=>simp [h1] at h
        | some p =>
          obtain⟨x1,tm1,s1⟩:=p;refine wp_seq (ihc W0 nt c1 tm tm1 s s1 x1 h1 r a w hI hA _ fun r1 a1 w1 hI1 hE1 hA1=>?_);cases x1 with
          | normal =>
            simp only [h1] at h;exact ihc W0 nt c2 tm1 tm' s1 s' x h r1 a1 w1 hI1 hA1 Q fun r2 a2 w2 hI2 hE2 hA2=>hQ r2 a2 w2 hI2 (hE1.trans hE2) hA2
          | exit id=>simp [h1] at h; obtain⟨rfl,rfl,rfl⟩:=h; exact hQ r1 a1 w1 hI1 hE1 hA1
          | ret=>simp [h1] at h; obtain⟨rfl,rfl,rfl⟩:=h; exact hQ r1 a1 w1 hI1 hE1 hA1
      | cond o c1 c2 =>
        simp only [dI] at h;split at h
        ·rename_i he;have:=hA.eval _ _ he;simp only [VR] at this;exact wp_cond_true this (ihc W0 nt c1 tm tm' s s' x h r a w hI hA Q hQ)
        ·rename_i he;have:=hA.eval _ _ he;simp only [VR] at this;exact wp_cond_false this (ihc W0 nt c2 tm tm' s s' x h r a w hI hA Q hQ)
        ·simp at h
      | block id c1 =>
        simp only [dI] at h;cases h1:dI P ctr n nt c1 tm s with
        | none=>simp [h1] at h
        | some p =>
          obtain⟨x1,tm1,s1⟩:=p;refine wp_block (ihc W0 nt c1 tm tm1 s s1 x1 h1 r a w hI hA _ fun r1 a1 w1 hI1 hE1 hA1=>?_);cases x1 with
          | normal=>simp [h1] at h; obtain⟨rfl,rfl,rfl⟩:=h; exact hQ r1 a1 w1 hI1 hE1 hA1
          | ret=>simp [h1] at h; obtain⟨rfl,rfl,rfl⟩:=h; exact hQ r1 a1 w1 hI1 hE1 hA1
          | exit k =>
            simp only [h1,b7] at h;simp only [tH,Exit.inBlock];by_cases hk:k=id
            ·simp only [hk,bD,aw,a8,bn] at h;obtain⟨rfl,rfl,rfl⟩:=h;rw [aB hk]; exact hQ r1 a1 w1 hI1 hE1 hA1
            ·simp only [hk,fX,aD,a8,bn] at h;obtain⟨rfl,rfl,rfl⟩:=h;rw [av hk]; exact hQ r1 a1 w1 hI1 hE1 hA1
      | loop c1 =>
        refine wp_loop_ghost (fun m a1 w1=>m≤n+1∧∃ tm1 s1 r1,dI P ctr m nt (.loop c1) tm1 s1=some (x,tm',s')∧Inv W0 r1 s1 w1∧Ext r s w r1 s1 w1∧AR r1 (aQ tm1) nt a1) (n+1) ⟨aR _,tm,s,r,h,hI,Ext.refl _ _ _,hA⟩ ?_
        rintro m a1 w1 ⟨hm,tm1,s1,r1,h1,hI1,hE1,hA1⟩
        cases m with
        | zero=>simp [dI] at h1
        | succ m =>
          simp only [dI] at h1;cases h2:dI P ctr m nt c1 tm1 s1 with
          | none=>simp [h2] at h1
          | some p =>
            obtain⟨x2,tm2,s2⟩:=p;refine(ih m aI).1 W0 nt c1 tm1 tm2 s1 s2 x2 h2 r1 a1 w1 hI1 hA1 _ fun r2 a2 w2 hI2 hE2 hA2=>?_
            cases x2 with
            | normal =>
              simp only [h2] at h1;exact⟨m,by omega,by omega,tm2,s2,r2,h1,hI2,hE1.trans hE2,hA2⟩
            | exit id=>simp [h2] at h1; obtain⟨rfl,rfl,rfl⟩:=h1; exact hQ r2 a2 w2 hI2 (hE1.trans hE2) hA2
            | ret=>simp [h2] at h1; obtain⟨rfl,rfl,rfl⟩:=h1; exact hQ r2 a2 w2 hI2 (hE1.trans hE2) hA2
      | rangeFunc=>simp [dI] at h
      | scope=>simp [dI] at h
      | goto=>simp [dI] at h
      | refuse=>simp [dI] at h
     ·intro W0 r f args s s' l w us h hI hv;simp only [mb] at h;cases hcf:ctr f with
      | some g=>simp only [hcf] at h; exact hctr f g hcf W0 r args s s' l w us h hI hv
      | none =>
      simp only [hcf] at h;cases hf:P.funcs[f]? with
      | none=>simp [hf] at h
      | some fn =>
        simp only [hf] at h;cases hb:fn.body with
        | none=>simp [hb] at h
        | some c =>
          cases ht:ib args 0 .leaf with
          | none=>simp [hb,ht] at h
          | some tm =>
            simp only [hb,ht] at h;cases hle:Nat.ble args.length fn.ntmps with
            | false=>simp [hle] at h
            | true =>
              have hle':=aS hle;simp only [hle,aw] at h;have hul:=hv.length;have hA:AR r (aQ tm) fn.ntmps { tmps:=us.toArray++Array.replicate (fn.ntmps - us.toArray.size) undef,defers:=[] }:=by
               have hg:=Ba args 0 .leaf tm ht;refine⟨by simp; omega,rfl,fun t htt=>?_,fun t htt=>?_⟩
               ·rw [hg];by_cases h1:t < args.length
                ·rw [aB aI];obtain⟨u,q1,q2⟩:=hv.get (cq h1);refine⟨u,?_,?_⟩
                 ·rw [sv (by simp; omega)]; simpa using q1
                 ·simpa [h1] using q2
                ·rw [av aI];refine⟨undef,?_,?_⟩
                 ·rw [Array.getElem?_append_right (by simp; omega)];simp only [sw,Array.getElem?_replicate];rw [aB aI]
                 ·simp only [aQ,Tr.i3p]; exact rY
               ·rw [hg,av aI]; simp [aQ,Tr.i3p]
              cases hc:dI P ctr n fn.ntmps c tm s with
              | none=>simp [hc] at h
              | some p =>
                obtain⟨x,tm1,s1⟩:=p;refine calls_of_wp hf hb (ihc W0 fn.ntmps c tm tm1 s s1 x hc r _ w hI hA _ fun r1 a1 w1 hI1 hE1 hA1=>?_);cases x with
                | exit id=>simp [hc] at h
                | normal =>
                  simp only [hc] at h;cases hr:gm P (aQ tm1) s1 fn.results.toList with
                  | none=>simp [hr] at h
                  | some vs =>
                    simp [hr] at h;obtain⟨rfl,rfl⟩:=h;obtain⟨v,q1,q2⟩:=Bg (P:=P) hI1 hA1 hr;exact⟨hA1.defers,v,q1,v,r1,rfl,q2,hI1,hE1⟩
                | ret =>
                  simp only [hc] at h;cases hr:gm P (aQ tm1) s1 fn.results.toList with
                  | none=>simp [hr] at h
                  | some vs =>
                    simp [hr] at h;obtain⟨rfl,rfl⟩:=h;obtain⟨v,q1,q2⟩:=Bg (P:=P) hI1 hA1 hr;exact⟨hA1.defers,v,q1,v,r1,rfl,q2,hI1,hE1⟩
def isTrue:Option LV→Bool
 | some (.bool true)=>true
 | _=>false
end
section
open Go.RowKit
noncomputable section
def ar:LV→Int | .int _ n=>n | _=>0
def a7 (k:IntKind):LV→Bool | .int j _=>decide (j=k) | _=>false
def ba:LV→Bool | .bool b=>b | _=>false
def eM:LV→Bool | .bool _=>true | _=>false
def aK:LV→List UInt8 | .str s=>s | _=>[]
def cW:LV→Bool | .str _=>true | _=>false
def fO:LV→Value | .val v=>v | _=>.nilFunc
def uo:LV→Bool | .val _=>true | _=>false
def af (l:List LV) (i:Nat):LV:=match sL l i with | some v=>v | none=>.undef
def ae (n:Int):Nat:=n.toNat
def b9 (n:Int):Bool:=decide (0≤n)
def ag (a b:Nat):Bool:=Nat.ble a b
def xz (a:Nat):Bool:=Nat.beq a 0
def bR (a b:Nat):Bool:=Nat.beq a b
def aa (a b:Nat):Nat:=a+b
def dR (a b:Nat):Nat:=a - b
def ah (o i n:Nat):Nat:=o+i * n
def aJ (a b:Nat):Nat:=a * b
def HD (a b:Nat):Nat:=Nat.min a b
def ay (k:IntKind) (n:Int):Int:=iG k n
def au (op:BinOp) (k:IntKind) (x y:Int):Int:=match qp op k x y with | some (.int _ n)=>n | _=>0
def ad (op:BinOp) (x y:Int):Bool:=match o5 op x y with | some (.bool b)=>b | _=>false
def BR (op:BinOp) (k:IntKind) (x y:Int):Int:=match vt op k x y with | some (.int _ n)=>n | _=>0
def P2 (k:IntKind) (n:Int):Int:=iG k (0 - n)
def PT (k:IntKind) (n:Int):Int:=k.wrap ((BitVec.ofInt k.bits (if k.signed then -1 else k.max)) ^^^ (BitVec.ofInt k.bits n)).toNat
def GP (x y:Int):Int:=if y < x then y else x
def GO (x y:Int):Int:=if y > x then y else x
def bu (b:Bool):Bool:=!b
def lK (a b:Bool):Bool:=a && b
def ge (a b:Bool):Bool:=a == b
def bA (op:BinOp) (x y:List UInt8):Bool:=match tz op x y with | some (.bool b)=>b | _=>false
def aA (x y:List UInt8):List UInt8:=x++y
def am (x:List UInt8):Nat:=x.length
def aY (x:List UInt8) (l h:Nat):List UInt8:=(x.drop l).take (h - l)
def bz (x:List UInt8) (i:Nat):Int:=(x.getD i 0).toNat
def bf (cs:List LV) (o n:Nat):List LV:=(cs.drop o).take n
def gt (cs:List LV) (o:Nat) (vs:List LV):List LV:=cs.take o++(vs++cs.drop (o+vs.length))
def bM (a b:List LV):List LV:=a++b
def aG (cs:List LV):Nat:=cs.length
def tg (n:Nat) (z:List LV):List LV:=gQ n z
def ph (cs:List LV):Bool:=cs.all (a7 .u8)
def kD (cs:List LV):List UInt8:=cs.map fun c=>UInt8.ofNat (ar c).toNat
def u7 (cs:List LV):Bool:=cs.all (a7 .i32)
def u6 (cs:List LV):List UInt8:=gY (cs.map ar)
def xk (t:List UInt8):List LV:=(qr t).map fun n=>.int .i32 n
def zK (t:List UInt8):Nat:=(qr t).length
def HE (a b:Value):Bool:=@decide (a=b) (Classical.propDecidable _)
def mw (v:Value):Nat:=Di v
def iE (v:Value) (i:Nat):Bool:=zH v i
def mG (v:Value) (l:Nat):Bool:=xj v l
def ci (v:Value) (n l:Nat):Value:=te v n l
def aM (l:List UInt8) (p:Nat):Int:=Int.ofNat (Utf8.decode ⟨l.toArray⟩ p).1
def aP (l:List UInt8) (p:Nat):Nat:=(Utf8.decode ⟨l.toArray⟩ p).2
def ip (F:World→Prop) (v:Value) (k n:Nat):Bool:=rz F v k n
def aH (F:World→Prop) (v:Value) (k n:Nat):List LV:=o_ F v k n
inductive CT where
 | int (k:IntKind)
 | bool
 | str
 | slc
 | val
 | other
def G4 (P:Program) (t:TypeId):CT :=
 match P.underlying t with
 | some (.int k)=>.int k
 | some .bool=>.bool
 | some .string=>.str
 | some (.slice _)=>.slc
 | _=>.other
def Hv:Nat→List CT→List CT
 | 0,_=>[]
 | n+1,z=>z++Hv n z
def G5 (f:TypeId→Option (List CT)):List Field→Option (List CT)
 | []=>some []
 | x::xs=>match f x.type,G5 f xs with | some a,some b=>some (a++b) | _,_=>none
def Et (P:Program):Nat→TypeId→Option (List CT)
 | 0,_=>none
 | d+1,t=>match P.underlying t with
   | some (.struct fs)=>G5 (Et P d) fs.toList
   | some (.array n e)=>(match Et P d e with | some z=>some (Hv n z) | none=>none)
   | some _=>some [G4 P t]
   | none=>none
def DH:CT→LV→LV
 | .int k,c=>.int k (ar c)
 | .bool,c=>.bool (ba c)
 | .str,c=>.str (aK c)
 | .val,c=>.val (fO c)
 | .slc,c=>c
 | .other,c=>c
def AE:CT→LV→List Bool→List Bool
 | .int k,c,bs=>a7 k c::bs
 | .bool,c,bs=>eM c::bs
 | .str,c,bs=>cW c::bs
 | .val,c,bs=>uo c::bs
 | .slc,_,bs=>bs
 | .other,_,bs=>bs
def xS (cs:List LV):Nat→List CT→List LV
 | _,[]=>[]
 | o,t::ts=>DH t (af cs o)::xS cs (aa o 1) ts
def AW (cs:List LV):Nat→List CT→List Bool
 | _,[]=>[]
 | o,t::ts=>AE t (af cs o) (AW cs (aa o 1) ts)
def GT:CT→CT
 | .slc=>.val
 | c=>c
def yY:List CT→List CT
 | []=>[]
 | c::l=>GT c::yY l
def zw (ro:Bool) (l:List CT):List CT:=match ro with | true=>yY l | false=>l
def PA (ro:Bool) (c:CT):CT:=match ro with | true=>GT c | false=>c
def NO (s:St) (b:Nat):Bool:=match s.h.get b with | some (.ro _)=>true | _=>false
def w9:List CT→Nat
 | []=>0
 | _::l=>Nat.succ (w9 l)
def Eh (c:CT) (cs:List LV) (off:Nat):Option (List Bool×LV) :=
 match c with
 | .int k=>some ([ag (aa off 1) (aG cs),a7 k (af cs off)],.int k (ar (af cs off)))
 | .bool=>some ([ag (aa off 1) (aG cs),eM (af cs off)],.bool (ba (af cs off)))
 | .str=>some ([ag (aa off 1) (aG cs),cW (af cs off)],.str (aK (af cs off)))
 | .val=>some ([ag (aa off 1) (aG cs),uo (af cs off)],.val (fO (af cs off)))
 | .slc=>some ([ag (aa off 1) (aG cs)],af cs off)
 | .other=>some ([ag (aa off 1) (aG cs)],af cs off)
def u_ (P:Program) (ro:Bool) (t:TypeId) (cs:List LV) (off:Nat):Option (List Bool×LV) :=
 match qi P t with
 | some true=>(match bZ P t,Et P 20 t with
   | some n,some l=>cond (Nat.beq (w9 l) n) (some (ag (aa off n) (aG cs)::AW cs off (zw ro l),.agg (xS cs off (zw ro l)))) none
   | _,_=>none)
 | some false=>Eh (PA ro (G4 P t)) cs off
 | none=>none
def z5 (P:Program) (s:St) (t:TypeId) (b o:Nat):Option (List Bool×LV) :=
 match NO s b,s.look b with
 | true,some cs=>u_ P true t cs o
 | false,some cs=>u_ P false t cs o
 | _,none=>none
def El (P:Program) (s:St) (t:TypeId) (v:Value) (k:Nat):Option (List Bool×LV) :=
 match DV s,bZ P t with
 | some F,some n=>(match u_ P true t (aH F v k n) 0 with
   | some (bs,l)=>some (ip F v k n::bs,l)
   | none=>none)
 | _,_=>none
def xu:BinOp→Bool
 | .eql | .neq | .lss | .leq | .gtr | .geq=>true
 | _=>false
def u9 (P:Program) (eq:TypeId→LV→LV→Option Bool) (xs ys:List LV):List Field→Option Bool
 | []=>some true
 | f::fs =>
   cond (f.name == "_") (u9 P eq xs ys fs) <|
   match h_ P f.type xs f.offset,h_ P f.type ys f.offset with
   | some a,some b=>(match eq f.type a b,u9 P eq xs ys fs with | some p,some q=>some (lK p q) | _,_=>none)
   | _,_=>none
def pf (P:Program):Nat→TypeId→LV→LV→Option Bool
 | 0,_,_,_=>none
 | d+1,t,x,y =>
   match P.underlying t,x,y with
   | some .bool,.bool a,.bool b=>some (ge a b)
   | some (.int _),.int k a,.int k' b=>cond (decide (k=k')) (some (ad .eql a b)) none
   | some .string,.str a,.str b=>some (bA .eql a b)
   | some (.struct fs),.agg xs,.agg ys=>cond (P.stoodInHeld t) none (u9 P (pf P d) xs ys fs.toList)
   | _,_,_=>leq P (d+1) t x y
def Dj (P:Program) (op:BinOp) (t:TypeId) (a b:LV):Option (List Bool×LV) :=
 cond (vj P op t a b) (
 match a,b with
 | .slo _ _ _ _,.nils=>(match rg P op t a b with | some v=>some ([],v) | none=>none)
 | .int k x,.int k' y=>(match op with
   | .shl=>some ([b9 y],.int k (BR .shl k x y))
   | .shr=>some ([b9 y],.int k (BR .shr k x y))
   | op=>cond (decide (k=k')) (match xu op,op with
     | true,op=>some ([],.bool (ad op x y))
     | false,.quo=>some ([ad .neq y 0],.int k (au .quo k x y))
     | false,.rem=>some ([ad .neq y 0],.int k (au .rem k x y))
     | false,op=>some ([],.int k (au op k x y))) none)
 | .str x,.str y=>(match op with
   | .add=>some ([ag (aa (am x) (am y)) 1000000000],.str (aA x y))
   | op=>(match xu op with | true=>some ([],.bool (bA op x y)) | false=>none))
 | x,y=>(match op with
   | .eql=>(match pf P Op.maxDepth t x y with | some b=>some ([],.bool b) | none=>none)
   | .neq=>(match pf P Op.maxDepth t x y with | some b=>some ([],.bool (bu b)) | none=>none)
   | _=>none)) none
def BP (op:UnOp) (x:LV):Option LV :=
 match op,x with
 | .neg,.int k n=>some (.int k (P2 k n))
 | .xor,.int k n=>some (.int k (PT k n))
 | .not,.bool b=>some (.bool (bu b))
 | _,_=>none
def FA (P:Program) (t:TypeId) (x:LV) (f:Nat):Option LV :=
 match P.underlying t,x with
 | some (.struct fields),.ptr b o=>(match fields[f]? with
   | some fd=>(match bZ P fd.type with
     | some n=>cond (Nat.beq n 0) none (some (.ptr b (aa o fd.offset)))
     | none=>none)
   | none=>none)
 | some (.struct fields),.vp v k=>(match fields[f]? with
   | some fd=>(match bZ P fd.type with
     | some n=>cond (Nat.beq n 0) none (some (.vp v (aa k fd.offset)))
     | none=>none)
   | none=>none)
 | _,_=>v6 P t x f
def FB (P:Program) (t:TypeId) (x ix:LV):Option (List Bool×LV) :=
 match P.underlying t,x,ix with
 | some (.slice elem),.sl b o len _,.int _ n=>(match bZ P elem with
   | some z=>some ([b9 n,ag (aa (ae n) 1) len],.ptr b (ah o (ae n) z))
   | none=>none)
 | some (.slice elem),.slo b o len _,.int _ n=>(match bZ P elem with
   | some z=>some ([b9 n,ag (aa (ae n) 1) len],.ptr b (ah o (ae n) z))
   | none=>none)
 | some (.array len elem),.ptr b o,.int _ n=>(match bZ P elem with
   | some z=>some ([b9 n,ag (aa (ae n) 1) len],.ptr b (ah o (ae n) z))
   | none=>none)
 | some (.array len elem),.gptr b o,.int _ n=>(match bZ P elem with
   | some z=>some ([b9 n,ag (aa (ae n) 1) len],.gptr b (ah o (ae n) z))
   | none=>none)
 | some (.slice elem),.val v,.int _ n=>(match bZ P elem with
   | some z=>some ([b9 n,iE v (ae n)],.vp v (aJ (ae n) z))
   | none=>none)
 | _,_,_=>none
def Eg (P:Program) (t:TypeId) (x ix:LV):Option (List Bool×LV) :=
 match P.underlying t,x,ix with
 | some (.array len elem),.agg cs,.int _ n=>(match bZ P elem with
   | some z=>(match u_ P false elem cs (aJ (ae n) z) with | some (bs,v)=>some (b9 n::ag (aa (ae n) 1) len::bs,v) | none=>none)
   | none=>none)
 | some .string,.str s,.int _ n=>some ([b9 n,ag (aa (ae n) 1) (am s)],.int .u8 (bz s (ae n)))
 | _,_,_=>none
def qu (d:Nat):Option LV→Option (List Bool×Nat)
 | none=>some ([],d)
 | some (.int _ n)=>some ([b9 n],ae n)
 | _=>none
def Ej (P:Program) (t:TypeId) (x:LV) (lo hi mx:Option LV):Option (List Bool×LV) :=
 match P.underlying t,x,mx with
 | some .string,.str s,none=>(match qu 0 lo,qu (am s) hi with
   | some (p,l),some (q,h)=>some (p++(q++[ag l h,ag h (am s)]),.str (aY s l h))
   | _,_=>none)
 | some (.slice elem),.slo b o len d,none=>(match qu 0 lo,qu len hi,bZ P elem with
   | some (p,l),some (q,h),some n=>(match lo with
     | none=>some (p++(q++[ag h len]),.slo b (ah o l n) (dR h l) (aa d l))
     | some _=>some (p++(q++[ag l h,ag h len]),.slo b (ah o l n) (dR h l) (aa d l)))
   | _,_,_=>none)
 | some (.slice elem),.sl b o len cap,none=>(match qu 0 lo,qu len hi,bZ P elem with
   | some (p,l),some (q,h),some n=>(match lo with
     | none=>some (p++(q++[ag h cap]),.sl b o h cap)
     | some _=>some (p++(q++[ag (aa l 1) cap,ag l h,ag h cap]),.sl b (ah o l n) (dR h l) (dR cap l)))
   | _,_,_=>none)
 | some (.array n elem),.ptr b o,none=>(match lo,hi,bZ P elem with
   | none,none,some k=>some ([],.sl b o n n)
   | _,_,_=>none)
 | some (.slice elem),.val v,none=>(match qu 0 lo,hi,bZ P elem with
   | some (p,l),none,some n=>some (p++[mG v l],.val (ci v n l))
   | _,_,_=>none)
 | _,_,_=>(match pq P t x lo hi mx with | some v=>some ([],v) | none=>none)
def pA (s:St) (size:Nat):LV→Option (List Bool×List LV)
 | .nils=>some ([],[])
 | .sle=>some ([],[])
 | .sl b o len _=>(match s.look b with | some cs=>some ([ag (aa o (aJ len size)) (aG cs)],bf cs o (aJ len size)) | none=>none)
 | .slo b o len _=>(match s.look b with | some cs=>some ([ag (aa o (aJ len size)) (aG cs)],bf cs o (aJ len size)) | none=>none)
 | _=>none
def Ft (P:Program) (s:St) (src dst:TypeId) (x:LV):Option (List Bool×LV) :=
 match P.underlying src,P.underlying dst,x with
 | some _,some (.int k),.int _ n=>some ([],.int k (ay k n))
 | some _,some .string,.str t=>some ([],.str t)
 | some (.slice e),some .string,.sl b o l c=>cond (kR P e) (match pA s 1 (.sl b o l c) with | some (p,cs)=>some (p++[ph cs],.str (kD cs)) | none=>none) none
 | some (.slice e),some .string,.slo b o l c=>cond (kR P e) (match pA s 1 (.slo b o l c) with | some (p,cs)=>some (p++[ph cs],.str (kD cs)) | none=>none) none
 | some (.slice e),some .string,.nils=>cond (kR P e) (some ([],.str [])) none
 | some (.slice e),some .string,.sle=>cond (kR P e) (some ([],.str [])) none
 | _,_,_=>none
def DK (P:Program) (s:St) (src dst:TypeId) (x:LV):Option (List Bool×LV) :=
 match P.underlying src,P.underlying dst,x with
 | some (.slice e),some .string,.slo b o l c=>cond (n8 P e) (match pA s 1 (.slo b o l c) with | some (p,cs)=>some (p++[u7 cs],.str (u6 cs)) | none=>none) none
 | _,_,_=>none
def AX (P:Program) (s:St) (src dst:TypeId) (x:LV):Option (List Bool×LV):=match Ft P s src dst x with
 | some p=>some p
 | none=>DK P s src dst x
def Dk (P:Program) (argTypes:List TypeId) (x:LV):Option LV :=
 match argTypes with
 | t::_=>(match P.underlying t,x with
   | some .string,.str s=>some (.int .i64 (am s:Int))
   | some (.slice _),.val v=>some (.int .i64 ((mw v:Nat):Int))
   | _,_=>th P argTypes x)
 | _=>none
def rX (mx:Bool):LV→List LV→Option LV
 | x,[]=>some x
 | .int k x,.int _ y::ls=>rX mx (.int k (match mx with | true=>GO x y | false=>GP x y)) ls
 | _,_=>none
def zN (P:Program) (ev:Operand→Option LV) (o:Op) (s:St):Option (List Bool×LV) :=
 match o with
 | .move x=>(match ev x with | some v=>some ([],v) | none=>none)
 | .assign x=>(match ev x with | some v=>some ([],v) | none=>none)
 | .load t a=>(match ev a with | some (.ptr b o)=>z5 P s t b o | some (.gptr g o)=>(match Ae P s t g o with | some v=>some ([],v) | none=>none) | some (.vp v k)=>El P s t v k | _=>none)
 | .binOp op t x y _=>(match ev x,ev y with | some a,some b=>Dj P op t a b | _,_=>none)
 | .unOp op _ x=>(match ev x with | some a=>(match BP op a with | some v=>some ([],v) | none=>none) | none=>none)
 | .convert src dst x=>(match ev x with | some a=>AX P s src dst a | none=>none)
 | .slice t x lo hi mx=>(match ev x,mK ev lo,mK ev hi,mK ev mx with
   | some v,some l,some h,some m=>Ej P t v l h m
   | _,_,_,_=>none)
 | .fieldAddr t x f=>(match ev x with | some v=>(match FA P t v f with | some v=>some ([],v) | none=>none) | none=>none)
 | .indexAddr t x i=>(match ev x,ev i with | some v,some j=>FB P t v j | _,_=>none)
 | .index t x i=>(match ev x,ev i with | some v,some j=>Eg P t v j | _,_=>none)
 | .call c=>(match c.callee,kV ev c.args.toList with
   | .builtin .len,some [x]=>(match Dk P c.argTypes.toList x with | some v=>some ([],v) | none=>none)
   | .builtin .min,some (x::xs)=>(match rX false x xs with | some v=>some ([],v) | none=>none)
   | .builtin .max,some (x::xs)=>(match rX true x xs with | some v=>some ([],v) | none=>none)
   | _,_=>none)
 | .pick _ _ _=>none
 | o=>(match fH P ev o s with | some v=>some ([],v) | none=>none)
def ko:List Bool→Prop→Prop
 | [],K=>K
 | b::bs,K=>cond b (ko bs K) False
def Ei (P:Program) (s:St) (src dst:TypeId) (x:LV) (K:LV→St→Prop):Prop :=
 match P.underlying src,P.underlying dst,x with
 | some _,some (.slice e),.str t=>cond (n8 P e) (ko [ag (am t) 1000000] (match s.new (.cells (xk t) (some 1)) with | some s'=>K (.slo s.n 0 (zK t) 0) s' | none=>False)) False
 | _,_,_=>False
def ER (P:Program) (s:St) (argTypes:List TypeId) (x y:LV) (K:LV→St→Prop):Prop :=
 match argTypes with
 | [t,u]=>(match P.underlying t,P.underlying u with
   | some (.slice elem),some du =>
     cond (xM du) False <|
     (match bZ P elem,lT P elem,qB P elem,gK y with
     | some es,some zero,some bytes,some n =>
       cond (Nat.beq zero.length es && Nat.ble 1 es && Nat.ble bytes 1000) (match pA s es y with
       | some (bs,new)=>ko bs (match x with
         | .nils =>
           cond (ag (aJ n bytes) 140737488355328) (cond (ag n 140737488355328) (match s.new (.cells new (some es)) with | some s'=>K (.slo s.n 0 n 0) s' | none=>False) False) False
         | .sle=>cond (xz n) (K .sle s)
           (cond (ag n 1000000) (match s.new (.cells new (some es)) with | some s'=>K (.slo s.n 0 n 0) s' | none=>False) False)
         | .sl b o len cap=>(match s.h.get b with
           | some (.cells cs op) =>
             cond (ag (aa len n) cap)
              (cond (ag (aa (ah o len es) (aG new)) (aG cs)) (match s.put b (.cells (gt cs (ah o len es) new) op) with | some s'=>K (.sl b o (aa len n) cap) s' | none=>False) False)
              (cond (ag (aa len n) 1000000) (cond (ag (aa o (aJ len es)) (aG cs)) (match s.new (.cells (bM (bf cs o (aJ len es)) new) (some es)) with | some s'=>K (.slo s.n 0 (aa len n) 0) s' | none=>False) False) False)
           | _=>False)
         | .slo b o len d=>(match s.h.get b with
           | some (.cells cs (some es')) =>
             cond (Nat.beq es es') (ko [bR (aJ d es) o,ag (aa len n) 1000000,ag (aa o (aJ len es)) (aG cs)]
               (match s.put b .dead with
                | some s1=>(match s1.new (.cells (bM (bf cs o (aJ len es)) new) (some es)) with | some s'=>K (.slo s.n 0 (aa len n) 0) s' | none=>False)
                | none=>False)) False
           | _=>False)
         | _=>False)
       | none=>False) False
     | _,_,_,_=>False)
   | _,_=>False)
 | _=>False
def DJ (P:Program) (s:St) (argTypes:List TypeId) (x y:LV) (K:LV→St→Prop):Prop :=
 match argTypes with
 | t::_=>(match P.underlying t with
   | some (.slice elem)=>(match bZ P elem,gK x,gK y with
     | some es,some dl,some sl=>(match vq y (HD sl dl) with
       | some y'=>(match pA s es y' with
         | some (bs,new)=>ko bs (match x with
           | .sl b o _ _=>(match s.h.get b with
             | some (.cells cs op) =>
               cond (ag (aa o (aG new)) (aG cs)) (match s.put b (.cells (gt cs o new) op) with | some s'=>K (.int .i64 ((HD sl dl:Nat):Int)) s' | none=>False) False
             | _=>False)
           | _=>False)
         | none=>False)
       | none=>False)
     | _,_,_=>False)
   | _=>False)
 | _=>False
def Ek (P:Program) (s:St) (t:TypeId) (b o:Nat) (v:LV) (K:St→Prop):Prop :=
 match s.h.get b,v.cells,bZ P t with
 | some (.cells cs op),some vs,some n =>
   cond (Nat.beq vs.length n) (cond (ag (aa o n) (aG cs)) (match s.put b (.cells (gt cs o vs) op) with | some s'=>K s' | none=>False) False) False
 | _,_,_=>False
def FC (P:Program) (s:St) (t:TypeId) (l c:LV) (K:LV→St→Prop):Prop :=
 match P.underlying t,l,c with
 | some (.slice elem),.int _ n,.int _ m=>(match bZ P elem,lT P elem,qB P elem with
   | some size,some zero,some bytes =>
     cond (Nat.beq zero.length size && Nat.ble 1 size && Nat.ble bytes 100000) (ko [b9 n,b9 m,ag (ae n) (ae m),ag (ae m) 100000]
      (match s.new (.cells (tg (ae m) zero) none) with | some s'=>K (.sl s.n 0 (ae n) (ae m)) s' | none=>False)) False
   | _,_,_=>False)
 | _,_,_=>False
def BS (P:Program) (ev:Operand→Option LV) (o:Op) (s:St) (K:LN→St→Prop):Prop :=
 match bm o with
 | true=>(match o with
   | .pick c a b=>(match ev c,ev a,ev b with
     | some (.bool q),some x,some y=>cond q (K (.val x) s) (K (.val y) s)
     | _,_,_=>False)
   | o=>(match zN P ev o s with | some (bs,v)=>ko bs (K (.val v) s) | none=>False))
 | false =>
 match o with
 | .store t a x=>(match ev a,ev x with
   | some (.ptr b o),some v=>Ek P s t b o v fun s'=>K .skip s'
   | _,_=>False)
 | .makeSlice t l c=>(match ev l,ev c with
   | some a,some b=>FC P s t a b fun v s'=>K (.val v) s'
   | _,_=>False)
 | .convert src dst x=>(match ev x with
   | some a=>(match AX P s src dst a with
     | some (bs,v)=>ko bs (K (.val v) s)
     | none=>Ei P s src dst a fun v s'=>K (.val v) s')
   | none=>False)
 | .call c=>(match c.callee with
   | .builtin .append=>(match kV ev c.args.toList with
     | some [x,y]=>ER P s c.argTypes.toList x y fun v s'=>K (.val v) s'
     | _=>False)
   | .builtin .copy=>(match kV ev c.args.toList with
     | some [x,y]=>DJ P s c.argTypes.toList x y fun v s'=>K (.val v) s'
     | _=>False)
   | .builtin _=>False
   | _=>(match rL P ev c s with | some (n,s')=>K n s' | none=>False))
 | .next it str=>(match ev it,str with
   | some (.ptr b 0),true=>(match s.h.get b with
     | some (.iter l pos)=>cond (ag (aa pos 1) (am l))
       (match s.put b (.iter l (aa pos (aP l pos))) with
        | some s'=>K (.val (.tup [.bool true,.int .i64 (Int.ofNat pos),.int .i32 (aM l pos)])) s'
        | none=>False)
       (K (.val (.tup [.bool false])) s)
     | _=>False)
   | _,_=>False)
 | o=>(match gT P ev o s with | some (n,s')=>K n s' | none=>False)
end
end
section
open Go.RowKit
variable {P:Program}
theorem jV {b:Bool} {K:Prop}:cond b K False↔b=true∧K:=by cases b <;> simp
theorem lR:∀ {bs:List Bool} {K:Prop},ko bs K↔(∀ b∈bs,b=true)∧K
 | [],K=>by simp [ko]
 | b::bs,K=>by simp [ko,jV,lR,and_assoc]
def bN (bs:List Bool):Prop:=∀ b∈bs,b=true
theorem bv {b:Bool} {bs:List Bool}:bN (b::bs)↔b=true∧bN bs:=by simp [bN]
theorem iv {a b:List Bool}:bN (a++b)↔bN a∧bN b:=by
 simp only [bN,gz];exact⟨fun h=>⟨fun x hx=>h x (.inl hx),fun x hx=>h x (.inr hx)⟩,fun h x hx=>hx.elim (h.1 x) (h.2 x)⟩
theorem eC {a b:Nat}:ag a b=true↔a≤b:=⟨aS,dh⟩
theorem qH {n:Int}:b9 n=true↔0≤n:=by simp [b9]
theorem JN {n:Int} (h:0≤n):∃ m,n=.ofNat m∧ae n=m:=by
 cases n with
 | ofNat m=>exact⟨m,rfl,rfl⟩
 | negSucc m=>simp at h
theorem rQ:∀ (cs:List LV) (o:Nat) (vs:List LV),o+vs.length≤cs.length→lay cs o vs=some (gt cs o vs)
 | cs,o,[],h=>by
   cases cs <;> simp [lay,gt]
 | [],o,v::vs,h=>by simp at h
 | x::xs,o,v::vs,h=>by
   simp only [cZ] at h;simp only [lay,b7,AD];by_cases ho:o=0
   ·subst ho;have:=rQ xs 0 vs aI;simp [this,gt]
   ·obtain⟨o',rfl⟩:∃ o',o=o'+1:=⟨o - 1,by omega⟩;have:=rQ xs o' (v::vs) (by simp; omega);simp only [gt,cZ] at this;simp [this,gt,show o'+1+(vs.length+1)=(o'+(vs.length+1))+1 by omega]
theorem vi:∀ (cs:List LV) (o n:Nat),o+n≤cs.length→cut cs o n=some (bf cs o n)
 | [],o,n,h=>by
   have:n=0:=by simp at h; omega
   subst this; simp [cut,bf,b7]
 | x::xs,o,n,h=>by
   simp only [cZ] at h;simp only [cut,b7,AD];by_cases hn:n=0
   ·subst hn; simp [bf]
   ·obtain⟨n',rfl⟩:∃ n',n=n'+1:=⟨n - 1,by omega⟩;by_cases ho:o=0
    ·subst ho;have:=vi xs 0 n' aI;simp only [bf,List.drop_zero] at this;simp [this,bf]
    ·obtain⟨o',rfl⟩:∃ o',o=o'+1:=⟨o - 1,by omega⟩;have:=vi xs o' (n'+1) aI;simp [this,bf]
theorem Jd {cs:List LV} {o:Nat} (h:o < cs.length):cs[o]? = some (af cs o):=by
 simp only [af,pt];rw [cq h]
theorem Kx {t:CT} {c:LV} {bs:List Bool} (h:bN (AE t c bs)):DH t c=c∧bN bs:=by
 cases t <;> simp only [AE,bv] at h
 case int k =>
  obtain⟨h1,h2⟩:=h;cases c <;> simp [a7] at h1
  subst h1; exact⟨rfl,h2⟩
 case bool=>obtain⟨h1,h2⟩:=h; cases c <;> simp [eM] at h1; exact⟨rfl,h2⟩
 case str=>obtain⟨h1,h2⟩:=h; cases c <;> simp [cW] at h1; exact⟨rfl,h2⟩
 case slc=>exact⟨rfl,h⟩
 case val=>obtain⟨h1,h2⟩:=h; cases c <;> simp [uo] at h1; exact⟨rfl,h2⟩
 case other=>exact⟨rfl,h⟩
theorem Ja:∀ l:List CT,w9 l=l.length
 | []=>rfl
 | _::l=>by simp [w9,Ja l]
theorem Jx:∀ l:List CT,(yY l).length=l.length
 | []=>rfl
 | _::l=>by simp [yY,Jx l]
theorem V8 (ro:Bool) (l:List CT):(zw ro l).length=l.length:=by cases ro <;> simp [zw,Jx]
theorem Lh {cs:List LV}:∀ {l:List CT} {o:Nat},bN (AW cs o l)→o+l.length≤cs.length→xS cs o l=bf cs o l.length
 | [],o,h,hl=>by simp [xS,bf]
 | t::ts,o,h,hl=>by
   simp only [cZ] at hl;simp only [AW] at h;obtain⟨h1,h2⟩:=Kx h;have:=Lh (l:=ts) (o:=o+1) h2 aI;simp only [xS,h1,aa,this,bf,cZ];have hlt:o < cs.length:=aI;rw [jG hlt,List.take_succ_cons]
   congr 1
   have:=Jd hlt;rw [cq hlt] at this;simpa using this.symm
theorem XH {c:CT} {cs:List LV} {off:Nat} {bs:List Bool} {v:LV} (h:Eh c cs off=some (bs,v)) (hb:bN bs):off+1≤cs.length∧v=af cs off:=by
 have key:∀ d,bs=ag (aa off 1) (aG cs)::d→off+1≤cs.length:=fun d e=>by
  subst e;have:=eC.1 (bv.1 hb).1;simpa only [aa,aG] using this
 have typ:∀ c',c'=c→bs=ag (aa off 1) (aG cs)::AE c' (af cs off) []→v=DH c' (af cs off)→off+1≤cs.length∧v=af cs off:=fun c' _ e1 e2=>by
  refine⟨key _ e1,?_⟩;subst e1;rw [e2];exact(Kx (bv.1 hb).2).1
 cases c <;> simp only [Eh,a8,bn] at h <;> obtain⟨h1,h2⟩:=h <;> exact typ _ rfl h1.symm h2.symm
theorem FW {ro:Bool} {t:TypeId} {cs:List LV} {off:Nat} {bs:List Bool} {v:LV} (h:u_ P ro t cs off=some (bs,v)) (hb:bN bs):h_ P t cs off=some v:=by
 unfold u_ at h;unfold h_;cases ha:qi P t with
 | none=>simp [ha] at h
 | some g =>
   cases g with
   | true =>
     simp only [ha] at h ⊢;split at h
     ·rename_i n l hn hl;by_cases hlen:w9 l=n
      ·simp only [b7,hlen,bD,aw,a8,bn] at h;obtain⟨rfl,rfl⟩:=h;rw [bv] at hb;have h1:=eC.1 hb.1;simp only [aa,aG] at h1;rw [Ja] at hlen;simp only [hn];have hr:=V8 ro l;rw [vi cs off n h1,Lh hb.2 aI,hr,hlen]
      ·simp [b7,hlen] at h
     ·simp at h
   | false =>
     simp only [ha] at h ⊢;obtain⟨h1,rfl⟩:=XH h hb;rw [pt];exact Jd aI
theorem LQ {s:St} {t:TypeId} {b o:Nat} {bs:List Bool} {v:LV} (h:z5 P s t b o=some (bs,v)) (hb:bN bs):n_ P s t b o=some v:=by
 unfold z5 at h;unfold n_;split at h
 iterate 2
  ·rename_i cs _ hl; rw [hl]; exact FW h hb
 ·cases h
theorem LF:∀ (d:Nat) {t:TypeId} {x y:LV} {b:Bool},pf P d t x y=some b→leq P d t x y=some b:=by
 intro d
 induction d with
 | zero=>intro t x y b h; simp [pf] at h
 | succ d ih =>
   intro t x y b h;unfold pf at h;split at h
   ·rename_i e; unfold leq; rw [e]; simpa [ge] using h
   ·rename_i k a k' b' e; unfold leq; rw [e];by_cases hk:k=k'
    ·subst hk; simpa [ad,o5] using h
    ·simp [hk] at h
   ·rename_i e; unfold leq; rw [e]; simpa [bA,tz] using h
   ·rename_i fs xs ys e;unfold leq; rw [e]; simp only;cases hp:P.stoodInHeld t with
    | true=>simp [hp] at h
    | false =>
      simp only [hp,aD] at h ⊢;generalize fs.toList=fl at h ⊢;clear e
      induction fl generalizing b with
      | nil=>simpa [u9,tZ] using h
      | cons f fl ihf =>
        simp only [u9,tZ] at h ⊢;by_cases hn:f.name = "_"
        ·have:(f.name == "_")=true:=by simp [hn]
         simp only [this,aw] at h ⊢;exact ihf h
        ·have:(f.name == "_")=false:=by simp [hn]
         simp only [this,aD] at h ⊢;cases h1:h_ P f.type xs f.offset with
         | none=>simp [h1] at h
         | some a =>
           cases h2:h_ P f.type ys f.offset with
           | none=>simp [h1,h2] at h
           | some b' =>
             simp only [h1,h2] at h ⊢;cases he:pf P d f.type a b' with
             | none=>simp [he] at h
             | some p =>
               cases hr:u9 P (pf P d) xs ys fl with
               | none=>simp [he,hr] at h
               | some q =>
                 simp only [he,hr,a8] at h;rw [ih he];cases p with
                 | true=>simp only; rw [ihf hr,← h]; rfl
                 | false=>simp only; rw [← h]; rfl
   ·exact h
theorem W4 {op:BinOp} {t:TypeId} {a b:LV} {bs:List Bool} {v:LV} (h:Dj P op t a b=some (bs,v)) (hb:bN bs):rg P op t a b=some v:=by
 unfold Dj at h;unfold rg;cases hg:vj P op t a b with
 | false=>simp [hg] at h
 | true =>
   simp only [hg,aw] at h ⊢;split at h
   ·rename_i b o len d;cases hl:rg P op t (.slo b o len d) .nils with
    | none=>simp [hl] at h
    | some u =>
      simp only [hl,a8,bn] at h;obtain⟨rfl,rfl⟩:=h;unfold rg at hl;simp only [hg,aw] at hl;exact hl
   ·rename_i k x k' y;simp only;split at h
    iterate 2
     ·simp only [a8,bn] at h; obtain⟨rfl,rfl⟩:=h;have:=qH.1 (bv.1 hb).1;have hy:¬ y < 0:=aI;simp [BR,vt,hy]
    ·rename_i n1 n2;by_cases hk:k=k'
     ·subst hk;simp only [bD,aw] at h;have hgoal:qp op k x y=some v:=by
       cases op <;> simp only [xu,a8,bn] at h <;> obtain⟨rfl,rfl⟩:=h <;> (try rfl) <;> (try exact absurd rfl n1) <;> (try exact absurd rfl n2)
       case quo =>
        have h0:=(bv.1 hb).1;have:¬ y=0:=by simpa [ad,o5] using h0
        have h1:(y == 0)=false:=by simp [this]
        simp [au,qp,h1]
       case rem =>
        have h0:=(bv.1 hb).1;have:¬ y=0:=by simpa [ad,o5] using h0
        have h1:(y == 0)=false:=by simp [this]
        simp [au,qp,h1]
      cases op <;> first | exact absurd rfl n1 | exact absurd rfl n2 | (simp only [bD,aw]; exact hgoal)
     ·simp [hk] at h
   ·rename_i x y;simp only;split at h
    ·simp only [a8,bn] at h; obtain⟨rfl,rfl⟩:=h;have:=eC.1 (bv.1 hb).1;simp only [aa,am] at this;simp [tz,aA,dh this]
    ·rename_i n1;cases hc:xu op with
     | false=>simp [hc] at h
     | true =>
       simp only [hc,a8,bn] at h; obtain⟨rfl,rfl⟩:=h;cases op <;> simp [xu] at hc <;> rfl
   ·rename_i n0 n1 n2;split at h
    ·cases he:pf P Op.maxDepth t a b with
     | none=>simp [he] at h
     | some q =>
       simp only [he,a8,bn] at h; obtain⟨rfl,rfl⟩:=h;split
       ·exact(n0 _ _ _ _ rfl rfl).elim
       ·exact(n1 _ _ _ _ rfl rfl).elim
       ·exact(n2 _ _ rfl rfl).elim
       ·simp [LF _ he]
    ·cases he:pf P Op.maxDepth t a b with
     | none=>simp [he] at h
     | some q =>
       simp only [he,a8,bn] at h; obtain⟨rfl,rfl⟩:=h;split
       ·exact(n0 _ _ _ _ rfl rfl).elim
       ·exact(n1 _ _ _ _ rfl rfl).elim
       ·exact(n2 _ _ rfl rfl).elim
       ·simp [LF _ he,bu]
    ·simp at h
theorem WP {op:UnOp} {a v:LV} (h:BP op a=some v):zg op a=some v:=by
 unfold BP at h;split at h <;> simp at h <;> subst h <;> rfl
end
end Go.Lev
