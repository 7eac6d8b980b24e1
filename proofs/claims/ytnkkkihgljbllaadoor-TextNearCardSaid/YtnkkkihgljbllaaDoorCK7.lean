import Derived.Test.YtnkkkihgljbllaaDoorLc
import Derived.Test.YtnkkkihgljbllaaDoorChecked
import Derived.KernelRfl
import Derived.Test.YtnkkkihgljbllaaDoorRows
/- closed runs with arguments: a function's answer, told by the evaluator itself -/
namespace Go.Lev
set_option linter.unusedSimpArgs false
set_option linter.unusedVariables false
open Go.RowKit
open Go.Proofs.Tryd (prog)
set_option maxRecDepth 100000
noncomputable section
def G0 (P:Program) (fuel f:Nat) (args:al) (g:aL) (v:LV):Bool:=match mb P xA fuel f args ⟨.leaf,0,g⟩ with
 | some (x,_)=>aU [x] [v]
 | none=>false
theorem D6 {ρ : a4c}:∀ {cs:al},a1u cs=true→a7h ρ cs cs
 | [],_=>cA
 | c::cs,h=>by
   have h':=ml.1 h;exact aV (cY (h' c aC)) (D6 (ml.2 fun x hx=>h' x (by simp [hx])))
theorem a0j.lf {P:Program} {fuel f:Nat} {args:al} {g:aL} {v:LV} (ha:a1u args=true) (hv:a1u [v]=true) (h:G0 P fuel f args g v=true):a0j P f args (ai [] g) fun l s=>l=v∧s=ai [] g:=by
 unfold G0 at h;cases hf:mb P xA fuel f args ⟨.leaf,0,g⟩ with
 | none=>simp [hf] at h
 | some p =>
   obtain⟨x,s1⟩:=p;simp only [hf] at h;have hx:x=v:=by have:=bQ h; simpa using this
   subst hx;have h0:a0j P f args (ai [] g) fun l s'=>l=x∧s'=s1:=by
    intro W0 r w us hI hu;have:=(qI (P:=P) Kl fuel).2 W0 r f args ⟨.leaf,0,g⟩ s1 x w us hf hI hu;exact this.mono fun e w' ⟨u,r',he,k⟩=>⟨_,_,u,r',⟨rfl,rfl⟩,he,k⟩
   refine a0j.graft (ρ:=[]) (Sub.lift (List.nodup_nil) (by simp only [mN])) (by rw [cN]; rfl) (D6 ha) h0 fun l1 s2 ⟨e1,e2⟩=>?_
   subst e1;have hl:=D6 (ρ:=fun _=>none) hv;simp only [a7h] at hl;exact⟨l1,ai [] g,fun _=>none,⟨rfl,rfl⟩,⟨aR _,fun i b hi=>by simp at hi,fun b i hb hk=>by simp at hk,fun b i hk=>by simp at hk,fun b b' i hk=>by simp at hk,fun b i L' hk=>by simp at hk,fun b _=>rfl,fun b _=>by rw [b8]; rfl,rfl⟩,hl.1⟩
theorem U6 (N:Nat) (op:Int) {p:Int→Prop} (h1:∀ k:Fin N,p (Int.ofNat k.1)) (h2:∀ k:Nat,p (Int.ofNat (k+N))) (h3:∀ k:Nat,p (Int.negSucc k)):p op:=by
 cases op with
 | ofNat m =>
   by_cases h:m < N
   ·exact h1 ⟨m,h⟩
   ·have:=h2 (m - N)
    rwa [show m - N+N=m by omega] at this
 | negSucc k=>exact h3 k
def cj:al:=tp Go.Proofs.YtnkkkihgljbllaaDoor.Rows.laid_quietus_code_forms
def aZ (rest:aL):aL:=(0,cj)::rest
abbrev uJ (op a b c n:Int):LV:=.agg [.z op,.z a,.z b,.z c,.int .u64 n]
def bW:Nat→Int×Int×Int×Int×Bool
 | 1=>(0,7,0,0,true)
 | 2=>(0,7,7,0,false)
 | 3=>(0,7,7,7,false)
 | 4=>(0,7,7,7,false)
 | 5=>(0,7,7,7,false)
 | 6=>(0,7,7,7,false)
 | 7=>(0,7,7,7,false)
 | 8=>(0,7,7,15,false)
 | 9=>(0,7,7,15,false)
 | 10=>(0,7,7,0,false)
 | 11=>(0,7,0,0,false)
 | 12=>(0,0,0,40,false)
 | 13=>(0,7,0,40,false)
 | 14=>(0,0,0,0,false)
 | 15=>(0,0,0,0,false)
 | 16=>(0,0,0,0,false)
 | 17=>(0,0,0,0,false)
 | 18=>(0,0,0,0,false)
 | 19=>(0,0,0,0,false)
 | 20=>(0,0,0,0,false)
 | 21=>(0,7,0,0,false)
 | 22=>(0,0,0,0,false)
 | 23=>(1,12,7,6,false)
 | _=>(0,0,0,0,false)
def CL (t:Int×Int×Int×Int×Bool) (a b c n:Int):Prop:=t.1≤a∧a≤t.2.1∧0≤b∧b≤t.2.2.1∧0≤c∧c≤t.2.2.2.1∧(t.2.2.2.2=true∨n=0)
def cM (op a b c n:Int):Bool:=@decide (1≤op∧op≤23∧CL (bW op.toNat) a b c n) (Classical.propDecidable _)
theorem mayW_iff {op a b c n:Int}:cM op a b c n=true↔1≤op∧op≤23∧CL (bW op.toNat) a b c n:=by simp only [cM,cu]
def w_ (op:Int):Bool:=decide (op < 1∨23 < op)
theorem Ff {op:Int}:w_ op=true↔op < 1∨23 < op:=by simp [w_]
theorem Kh {op a b c n:Int} (h:op < 1∨23 < op):cM op a b c n=false:=qQ.2 fun e=>by have:=mayW_iff.1 e; omega
theorem xv {x y:Bool} {bs:bE} (h:y=x):gJ 0 1 [0] [.b x] bs [] [(0,.b y)] []:=by subst h; (exact zC)
theorem yl {c:Prop} [Decidable c] {A B:Prop} (h1:¬ c→A) (h2:c→B):cond (!decide c) A B:=by by_cases h:c <;> simp [h,h1,h2]
theorem zd (a b c n:Int):cM 1 a b c n=true↔0≤a∧a≤7∧0≤b∧b≤0∧0≤c∧c≤0∧(true=true∨n=0):=mayW_iff.trans ⟨fun h=>h.2.2,fun h=>⟨ab,ab,h⟩⟩
theorem Cs (a b c n:Int):cM 2 a b c n=true↔0≤a∧a≤7∧0≤b∧b≤7∧0≤c∧c≤0∧(false=true∨n=0):=mayW_iff.trans ⟨fun h=>h.2.2,fun h=>⟨ab,ab,h⟩⟩
theorem Cr (a b c n:Int):cM 3 a b c n=true↔0≤a∧a≤7∧0≤b∧b≤7∧0≤c∧c≤7∧(false=true∨n=0):=mayW_iff.trans ⟨fun h=>h.2.2,fun h=>⟨ab,ab,h⟩⟩
theorem Cq (a b c n:Int):cM 4 a b c n=true↔0≤a∧a≤7∧0≤b∧b≤7∧0≤c∧c≤7∧(false=true∨n=0):=mayW_iff.trans ⟨fun h=>h.2.2,fun h=>⟨ab,ab,h⟩⟩
theorem Cp (a b c n:Int):cM 5 a b c n=true↔0≤a∧a≤7∧0≤b∧b≤7∧0≤c∧c≤7∧(false=true∨n=0):=mayW_iff.trans ⟨fun h=>h.2.2,fun h=>⟨ab,ab,h⟩⟩
theorem Co (a b c n:Int):cM 6 a b c n=true↔0≤a∧a≤7∧0≤b∧b≤7∧0≤c∧c≤7∧(false=true∨n=0):=mayW_iff.trans ⟨fun h=>h.2.2,fun h=>⟨ab,ab,h⟩⟩
theorem Cn (a b c n:Int):cM 7 a b c n=true↔0≤a∧a≤7∧0≤b∧b≤7∧0≤c∧c≤7∧(false=true∨n=0):=mayW_iff.trans ⟨fun h=>h.2.2,fun h=>⟨ab,ab,h⟩⟩
theorem Cm (a b c n:Int):cM 8 a b c n=true↔0≤a∧a≤7∧0≤b∧b≤7∧0≤c∧c≤15∧(false=true∨n=0):=mayW_iff.trans ⟨fun h=>h.2.2,fun h=>⟨ab,ab,h⟩⟩
theorem Cl (a b c n:Int):cM 9 a b c n=true↔0≤a∧a≤7∧0≤b∧b≤7∧0≤c∧c≤15∧(false=true∨n=0):=mayW_iff.trans ⟨fun h=>h.2.2,fun h=>⟨ab,ab,h⟩⟩
theorem CM (a b c n:Int):cM 10 a b c n=true↔0≤a∧a≤7∧0≤b∧b≤7∧0≤c∧c≤0∧(false=true∨n=0):=mayW_iff.trans ⟨fun h=>h.2.2,fun h=>⟨ab,ab,h⟩⟩
theorem CN (a b c n:Int):cM 11 a b c n=true↔0≤a∧a≤7∧0≤b∧b≤0∧0≤c∧c≤0∧(false=true∨n=0):=mayW_iff.trans ⟨fun h=>h.2.2,fun h=>⟨ab,ab,h⟩⟩
theorem Hp (a b c n:Int):cM 12 a b c n=true↔0≤a∧a≤0∧0≤b∧b≤0∧0≤c∧c≤40∧(false=true∨n=0):=mayW_iff.trans ⟨fun h=>h.2.2,fun h=>⟨ab,ab,h⟩⟩
theorem CO (a b c n:Int):cM 13 a b c n=true↔0≤a∧a≤7∧0≤b∧b≤0∧0≤c∧c≤40∧(false=true∨n=0):=mayW_iff.trans ⟨fun h=>h.2.2,fun h=>⟨ab,ab,h⟩⟩
theorem CP (a b c n:Int):cM 14 a b c n=true↔0≤a∧a≤0∧0≤b∧b≤0∧0≤c∧c≤0∧(false=true∨n=0):=mayW_iff.trans ⟨fun h=>h.2.2,fun h=>⟨ab,ab,h⟩⟩
theorem CQ (a b c n:Int):cM 15 a b c n=true↔0≤a∧a≤0∧0≤b∧b≤0∧0≤c∧c≤0∧(false=true∨n=0):=mayW_iff.trans ⟨fun h=>h.2.2,fun h=>⟨ab,ab,h⟩⟩
theorem CR (a b c n:Int):cM 16 a b c n=true↔0≤a∧a≤0∧0≤b∧b≤0∧0≤c∧c≤0∧(false=true∨n=0):=mayW_iff.trans ⟨fun h=>h.2.2,fun h=>⟨ab,ab,h⟩⟩
theorem CU (a b c n:Int):cM 17 a b c n=true↔0≤a∧a≤0∧0≤b∧b≤0∧0≤c∧c≤0∧(false=true∨n=0):=mayW_iff.trans ⟨fun h=>h.2.2,fun h=>⟨ab,ab,h⟩⟩
theorem CV (a b c n:Int):cM 18 a b c n=true↔0≤a∧a≤0∧0≤b∧b≤0∧0≤c∧c≤0∧(false=true∨n=0):=mayW_iff.trans ⟨fun h=>h.2.2,fun h=>⟨ab,ab,h⟩⟩
theorem CX (a b c n:Int):cM 19 a b c n=true↔0≤a∧a≤0∧0≤b∧b≤0∧0≤c∧c≤0∧(false=true∨n=0):=mayW_iff.trans ⟨fun h=>h.2.2,fun h=>⟨ab,ab,h⟩⟩
theorem CY (a b c n:Int):cM 20 a b c n=true↔0≤a∧a≤0∧0≤b∧b≤0∧0≤c∧c≤0∧(false=true∨n=0):=mayW_iff.trans ⟨fun h=>h.2.2,fun h=>⟨ab,ab,h⟩⟩
theorem CZ (a b c n:Int):cM 21 a b c n=true↔0≤a∧a≤7∧0≤b∧b≤0∧0≤c∧c≤0∧(false=true∨n=0):=mayW_iff.trans ⟨fun h=>h.2.2,fun h=>⟨ab,ab,h⟩⟩
theorem C0 (a b c n:Int):cM 22 a b c n=true↔0≤a∧a≤0∧0≤b∧b≤0∧0≤c∧c≤0∧(false=true∨n=0):=mayW_iff.trans ⟨fun h=>h.2.2,fun h=>⟨ab,ab,h⟩⟩
theorem Hq (a b c n:Int):cM 23 a b c n=true↔1≤a∧a≤12∧0≤b∧b≤7∧0≤c∧c≤6∧(false=true∨n=0):=mayW_iff.trans ⟨fun h=>h.2.2,fun h=>⟨ab,ab,h⟩⟩
def D2:Gc:=fun args s=>match args with
 | [.int .i64 op]=>some ([w_ op],.b false,s)
 | _=>none
theorem M2 (op:Int) (g:aL) (K:Fk):(fG prog (fun _=>none) 60 32 [.z op] (ai [] g) (vF K))=(
 cond (ad .geq op 1) (K (.b (ad .lss op 24)) [] g) (K (.b false) [] g)):=ak
theorem S9 (op:Int) (g:aL) (h:op < 1∨23 < op):a0j prog 32 [.z op] (ai [] g) fun l s=>l=.b false∧s=ai [] g:=by
 refine a0j.mono (a0j.vc (Q:=fun l b=>l=.b false∧b=[]) cJ (n:=60) 0 rfl ?_) fun l s' ⟨b0,⟨h1,h2⟩,h3⟩=>⟨h1,by rw [h3,h2]⟩
 rw [M2];simp only [rW,iq,lQ,qC,oz,tO]
 repeat' (first | refine tK (fun _=>?_) (fun _=>?_) | refine yl (fun _=>?_) (fun _=>?_))
 all_goals first
  | (refine⟨rfl,_,_,[],⟨rfl,rfl⟩,?_⟩; rw [show decide (op < 24)=false from decide_eq_false ab]; (exact zC); done)
  | (refine⟨rfl,_,_,[],⟨rfl,rfl⟩,?_⟩; (exact zC); done)
  | omega
theorem a0j.i3i {P:Program} {f:Nat} {args:al} {v:LV} {s:St} (hfr:∀ b,s.n≤b→s.h.get b=none) (ha:a1u args=true) (hv:b4m v=true) (h:a0j P f args (ai [] s.g) fun l s'=>l=v∧s'=ai [] s.g):a0j P f args s fun l s'=>l=v∧s'=s :=
 a0j.i3e (ρ:=[]) (bs:=[]) hfr List.nodup_nil trivial (yz ha) hv h
theorem Wu:bX prog 32 D2:=by
 intro args s bs l s' hg hb hfr;unfold D2 at hg;split at hg
 ·rename_i op;simp only [a8,bn] at hg;obtain⟨rfl,rfl,rfl⟩:=hg;simp only [bv] at hb;exact a0j.i3i hfr rfl rfl (S9 op s.g (Ff.1 hb.1))
 ·cases hg
def Er:Cx:=eP [(32,D2)]
theorem H9:cT prog (cv Er):=fQ ⟨Wu,trivial⟩
theorem Xb (op a b c n:Int) (g:aL) (K:Fk):(fG prog Er 60 38 [uJ op a b c n] (ai [] g) (vF K))=(
 ck (w_ op) <|
 K (.b false) [sN [.z op,.z a,.z b,.z c,.int .u64 n]] g):=ak
def Cz (k:Int):Int:=if k=1 then 7 else if k=2 then 6 else if k=3 then 15 else if k=4 then 40 else if k=5 then 7 else if k=6 then 12 else 0
def l_ (k v:Int):Bool:=decide ((if k=6 then 1 else 0)≤v∧v≤Cz k)
def rb (k v:Int):Bool:=l_ k v
theorem NI (k v:Int) (g:aL) (K:Fk):(fG prog (fun _=>none) 60 50 [.z k,.z v] (ai [] g) (vF K))=(
 cond (ad .eql k 6) (cond (ad .geq v 1) (cond (ad .eql k 1) (K (.b (ad .leq v 7)) [] g) (cond (ad .eql k 2) (K (.b (ad .leq v 6)) [] g) (cond (ad .eql k 3) (K (.b (ad .leq v 15)) [] g) (cond (ad .eql k 4) (K (.b (ad .leq v 40)) [] g) (cond (ad .eql k 5) (K (.b (ad .leq v 7)) [] g) (cond (ad .eql k 6) (K (.b (ad .leq v 12)) [] g) (K (.b (ad .leq v 0)) [] g))))))) (K (.b false) [] g)) (cond (ad .geq v 0) (cond (ad .eql k 1) (K (.b (ad .leq v 7)) [] g) (cond (ad .eql k 2) (K (.b (ad .leq v 6)) [] g) (cond (ad .eql k 3) (K (.b (ad .leq v 15)) [] g) (cond (ad .eql k 4) (K (.b (ad .leq v 40)) [] g) (cond (ad .eql k 5) (K (.b (ad .leq v 7)) [] g) (cond (ad .eql k 6) (K (.b (ad .leq v 12)) [] g) (K (.b (ad .leq v 0)) [] g))))))) (K (.b false) [] g))):=ak
theorem QV (k v:Int) (g:aL):a0j prog 50 [.z k,.z v] (ai [] g) fun l s=>l=.b (rb k v)∧s=ai [] g:=by
 refine a0j.mono (a0j.vc (Q:=fun l b=>l=.b (rb k v)∧b=[]) cJ (n:=60) 0 rfl ?_) fun l s' ⟨b0,⟨h1,h2⟩,h3⟩=>⟨h1,by rw [h3,h2]⟩
 rw [NI];simp only [rW,iq,lQ,qC,oz,tO]
 repeat' (first | refine tK (fun _=>?_) (fun _=>?_) | refine yl (fun _=>?_) (fun _=>?_))
 all_goals (refine⟨rfl,_,_,[],⟨rfl,rfl⟩,xv ?_⟩; rw [mu]; simp [rb,l_,Cz, *]; try omega)
def Dn:Gc:=fun args s=>match args with
 | [.int .i64 k,.int .i64 v]=>some ([],.b (rb k v),s)
 | _=>none
theorem SY:bX prog 50 Dn:=by
 intro args s bs l s' hg hb hfr;unfold Dn at hg;split at hg
 ·simp only [a8,bn] at hg;obtain⟨rfl,rfl,rfl⟩:=hg;exact a0j.i3i hfr rfl rfl (QV _ _ s.g)
 ·cases hg
def G6:Cx:=eP [(50,Dn)]
theorem UV:cT prog (cv G6):=fQ ⟨SY,trivial⟩
def uh:Nat→Int×Int×Int×Bool
 | 1=>(1,0,0,true)
 | 2=>(1,1,0,false)
 | 3=>(1,1,1,false)
 | 4=>(1,1,1,false)
 | 5=>(1,1,1,false)
 | 6=>(1,1,1,false)
 | 7=>(1,1,1,false)
 | 8=>(1,1,3,false)
 | 9=>(1,1,3,false)
 | 10=>(1,1,0,false)
 | 11=>(1,0,0,false)
 | 12=>(0,0,4,false)
 | 13=>(1,0,4,false)
 | 21=>(1,0,0,false)
 | 23=>(6,5,2,false)
 | _=>(0,0,0,false)
abbrev zt (j:Int) (t:Int×Int×Int×Bool) (a b c n:Int):bE:=[sN [.z j,.z a,.z b,.z c,.int .u64 n],sN [.z t.1,.z t.2.1,.z t.2.2.1,.z (bif t.2.2.2 then 7 else 0)]]
def Hk (j:Int) (t:Int×Int×Int×Bool) (a b c n:Int) (rest:aL) (K:Fk):Prop:=bif rb t.1 a then(bif rb t.2.1 b then(bif rb t.2.2.1 c then(K (.b (bif t.2.2.2 then true else ad .eql n 0)) (zt j t a b c n) (aZ rest)) else(K (.b false) (zt j t a b c n) (aZ rest))) else(K (.b false) (zt j t a b c n) (aZ rest))) else(K (.b false) (zt j t a b c n) (aZ rest))
theorem N2 (j:Int) (t:Int×Int×Int×Bool) (a b c n:Int) (rest:aL) (H:∀ K:Fk,fG prog G6 60 38 [uJ j a b c n] (ai [] (aZ rest)) (vF K)=Hk j t a b c n rest K) (hm:cM j a b c n=(l_ t.1 a && l_ t.2.1 b && l_ t.2.2.1 c && (t.2.2.2 || decide (n=0)))):a0j prog 38 [uJ j a b c n] (ai [] (aZ rest)) fun l s=>l=.b (cM j a b c n)∧s=ai [] (aZ rest):=by
 refine a0j.mono (a0j.vc (Q:=fun l bb=>l=.b (cM j a b c n)∧bb=[]) UV (n:=60) 0 rfl ?_) fun l s' ⟨b0,⟨h1,h2⟩,h3⟩=>⟨h1,by rw [h3,h2]⟩
 rw [H,hm,Hk];simp only [show ∀ x y,rb x y=l_ x y from fun _ _=>rfl,lQ];generalize l_ t.1 a=pa;generalize l_ t.2.1 b=pb;generalize l_ t.2.2.1 c=pc;obtain⟨k0,k1,k2,e⟩:=t;cases pa <;> cases pb <;> cases pc <;> cases e <;> exact⟨rfl,_,_,[],⟨rfl,rfl⟩,xv rfl⟩
theorem Tn (op a b c n:Int) (h:1≤op∧op≤23):cM op a b c n=(l_ (uh op.toNat).1 a && l_ (uh op.toNat).2.1 b && l_ (uh op.toNat).2.2.1 c && ((uh op.toNat).2.2.2 || decide (n=0))):=by
 have:op=1∨op=2∨op=3∨op=4∨op=5∨op=6∨op=7∨op=8∨op=9∨op=10∨op=11∨op=12∨op=13∨op=14∨op=15∨op=16∨op=17∨op=18∨op=19∨op=20∨op=21∨op=22∨op=23:=ab;rw [mu];rcases this with rfl | rfl | rfl | rfl | rfl | rfl | rfl | rfl | rfl | rfl | rfl | rfl | rfl | rfl | rfl | rfl | rfl | rfl | rfl | rfl | rfl | rfl | rfl
 all_goals (rw [mayW_iff]; simp [CL,bW,uh,l_,Cz]; try omega)
theorem M7 (op a b c n:Int) (rest:aL):a0j prog 38 [uJ op a b c n] (ai [] (aZ rest)) fun l s=>l=.b (cM op a b c n)∧s=ai [] (aZ rest):=by
 by_cases h:op < 1∨23 < op
 ·rw [Kh h];refine a0j.mono (a0j.vc (Q:=fun l b=>l=.b false∧b=[]) H9 (n:=60) 0 rfl ?_) fun l s' ⟨b0,⟨h1,h2⟩,h3⟩=>⟨h1,by rw [h3,h2]⟩
  rw [Xb];simp only [Ff.2 h,aw];exact⟨rfl,_,_,[],⟨rfl,rfl⟩,by(exact zC)⟩
 ·have:op=1∨op=2∨op=3∨op=4∨op=5∨op=6∨op=7∨op=8∨op=9∨op=10∨op=11∨op=12∨op=13∨op=14∨op=15∨op=16∨op=17∨op=18∨op=19∨op=20∨op=21∨op=22∨op=23:=ab;rcases this with rfl | rfl | rfl | rfl | rfl | rfl | rfl | rfl | rfl | rfl | rfl | rfl | rfl | rfl | rfl | rfl | rfl | rfl | rfl | rfl | rfl | rfl | rfl
  all_goals exact N2 _ (uh _) a b c n rest (fun K=>by kernel_rfl) (Tn _ a b c n ab)
def CK:Gc:=fun args s=>match args,s.g with
 | [.agg [.int .i64 op,.int .i64 a,.int .i64 b,.int .i64 c,.int .u64 n]],(g0,F0)::_=>cond (Nat.beq g0 0 && aU F0 cj) (some ([],.b (cM op a b c n),s)) none
 | _,_=>none
theorem Vf:bX prog 38 CK:=by
 intro args s bs l s' hg hb hfr;unfold CK at hg;split at hg
 ·rename_i op a b c n g0 F0 rest hgl;cases hc:(Nat.beq g0 0 && aU F0 cj) with
  | false=>exact eZ
  | true =>
    rw [hc] at hg;simp only [aw,a8,bn] at hg;obtain⟨rfl,rfl,rfl⟩:=hg;rw [bg] at hc;have e1:=bt hc.1;have e2:=bQ hc.2;refine a0j.i3i hfr rfl rfl ?_;rw [hgl,e1,e2];exact M7 op a b c n rest
 ·cases hg
def cK:al:=tp Go.Proofs.YtnkkkihgljbllaaDoor.Rows.laid_quietus_code_calls
abbrev aN (rest:aL):aL:=aZ ((2,cK)::rest)
def jO:Nat→ap
 | 1=>[115,101,116]
 | 2=>[109,111,118,101]
 | 3=>[97,100,100]
 | 4=>[115,117,98]
 | 5=>[109,117,108]
 | 6=>[108,101,115,115]
 | 7=>[101,113,117,97,108]
 | 8=>[108,111,97,100]
 | 9=>[115,116,111,114,101]
 | 10=>[97,108,108,111,99]
 | 11=>[102,114,101,101]
 | 12=>[106,117,109,112]
 | 13=>[122,101,114,111]
 | 14=>[111,112,101,110]
 | 15=>[99,108,111,115,101]
 | 16=>[117,110,100,111]
 | 17=>[101,105,116,104,101,114]
 | 18=>[111,114]
 | 19=>[100,111,110,101]
 | 20=>[114,101,116,114,121]
 | 21=>[101,109,105,116]
 | 22=>[102,97,105,108]
 | 23=>[99,97,108,108]
 | _=>[]
def dj:Nat→ap
 | 1=>[108,105,115,116,46,97,100,100]
 | 2=>[108,105,115,116,46,99,117,116]
 | 3=>[108,105,115,116,46,104,97,115]
 | 4=>[116,97,98,108,101,46,112,117,116]
 | 5=>[116,97,98,108,101,46,103,101,116]
 | 6=>[116,97,98,108,101,46,100,101,108]
 | 7=>[113,117,101,117,101,46,112,117,115,104]
 | 8=>[113,117,101,117,101,46,116,97,107,101]
 | 9=>[116,114,101,101,46,115,101,116]
 | 10=>[116,114,101,101,46,102,105,110,100]
 | 11=>[116,114,101,101,46,101,114,97,115,101]
 | 12=>[116,114,101,101,46,99,111,117,110,116]
 | _=>[]
def fh (f:Nat→ap):Nat→ap→Int
 | 0,_=>0
 | k+1,s=>bif f (k+1) == s then((k+1:Nat):Int) else fh f k s
def bB (op:Int):ap:=jO op.toNat
def fP (op:Int):ap:=dj op.toNat
def dV (s:ap):Int:=fh jO 23 s
def sH (s:ap):Int:=fh dj 12 s
def iB (s:ap):Bool:=decide (fh jO 23 s≠0)
def mz (s:ap):Bool:=decide (fh dj 12 s≠0)
theorem eB {l s:ap} {A B:Prop} (h1:s=l→A) (h2:(l == s)=false→B):cond (bA .eql l s) A B:=by
 cases h:l == s with
 | true=>rw [show bA .eql l s=true from h]; exact h1 (eq_of_beq h).symm
 | false=>rw [show bA .eql l s=false from h]; exact h2 h
theorem Dw {x y:ap} {bs:bE} (h:y=x):gJ 0 1 [0] [.str x] bs [] [(0,.str y)] []:=by subst h; (exact zC)
theorem F7 {x y:Int} {p q:Bool} {bs:bE} (h:y=x) (h':q=p):gJ 0 1 [0] [.tup [.z x,.b p]] bs [] [(0,.tup [.z y,.b q])] []:=by subst h; subst h'; (exact zC)
theorem K3 {op:Int} (h:op < 1∨23 < op):bB op=[]:=by
 unfold bB;by_cases h0:op < 1
 ·rw [show op.toNat=0 by omega]; rfl
 ·exact GC
theorem KK {op:Int} (h:op < 1∨12 < op):fP op=[]:=by
 unfold fP;by_cases h0:op < 1
 ·rw [show op.toNat=0 by omega]; rfl
 ·obtain⟨k,hk⟩:∃ k,op.toNat=k+13:=⟨op.toNat - 13,ab⟩;rw [hk]; rfl
theorem M1 (op:Int) (g:aL) (K:Fk):(fG prog Er 60 16 [.z op] (ai [] g) (vF K))=(
 ck (w_ op) <|
 K (.str []) [] g):=ak
theorem Xc (op:Int) (K:Fk):(fG prog (fun _=>none) 60 54 [.z op] (ai [] []) (vF K))=(
 cond (ad .lss op 1) (K (.str []) [] []) (cond (ad .gtr op 12) (K (.str []) [] []) (ck (b9 (au .sub .i64 op 1)) <|
 ck (ag (aa (ae (au .sub .i64 op 1)) 1) 12) <|
 False))):=ak
theorem M0 (s:ap) (rest:aL) (K:Fk):(fG prog (fun _=>none) 300 70 [.str s] (ai [] (aZ rest)) (vF K))=(
 cond (bA .eql [115,101,116] s) (K (.tup [.z 1,.b true]) [] (aZ rest)) (cond (bA .eql [109,111,118,101] s) (K (.tup [.z 2,.b true]) [] (aZ rest)) (cond (bA .eql [97,100,100] s) (K (.tup [.z 3,.b true]) [] (aZ rest)) (cond (bA .eql [115,117,98] s) (K (.tup [.z 4,.b true]) [] (aZ rest)) (cond (bA .eql [109,117,108] s) (K (.tup [.z 5,.b true]) [] (aZ rest)) (cond (bA .eql [108,101,115,115] s) (K (.tup [.z 6,.b true]) [] (aZ rest)) (cond (bA .eql [101,113,117,97,108] s) (K (.tup [.z 7,.b true]) [] (aZ rest)) (cond (bA .eql [108,111,97,100] s) (K (.tup [.z 8,.b true]) [] (aZ rest)) (cond (bA .eql [115,116,111,114,101] s) (K (.tup [.z 9,.b true]) [] (aZ rest)) (cond (bA .eql [97,108,108,111,99] s) (K (.tup [.z 10,.b true]) [] (aZ rest)) (cond (bA .eql [102,114,101,101] s) (K (.tup [.z 11,.b true]) [] (aZ rest)) (cond (bA .eql [106,117,109,112] s) (K (.tup [.z 12,.b true]) [] (aZ rest)) (cond (bA .eql [122,101,114,111] s) (K (.tup [.z 13,.b true]) [] (aZ rest)) (cond (bA .eql [111,112,101,110] s) (K (.tup [.z 14,.b true]) [] (aZ rest)) (cond (bA .eql [99,108,111,115,101] s) (K (.tup [.z 15,.b true]) [] (aZ rest)) (cond (bA .eql [117,110,100,111] s) (K (.tup [.z 16,.b true]) [] (aZ rest)) (cond (bA .eql [101,105,116,104,101,114] s) (K (.tup [.z 17,.b true]) [] (aZ rest)) (cond (bA .eql [111,114] s) (K (.tup [.z 18,.b true]) [] (aZ rest)) (cond (bA .eql [100,111,110,101] s) (K (.tup [.z 19,.b true]) [] (aZ rest)) (cond (bA .eql [114,101,116,114,121] s) (K (.tup [.z 20,.b true]) [] (aZ rest)) (cond (bA .eql [101,109,105,116] s) (K (.tup [.z 21,.b true]) [] (aZ rest)) (cond (bA .eql [102,97,105,108] s) (K (.tup [.z 22,.b true]) [] (aZ rest)) (cond (bA .eql [99,97,108,108] s) (K (.tup [.z 23,.b true]) [] (aZ rest)) (K (.tup [.z 0,.b false]) [] (aZ rest))))))))))))))))))))))))):=ak
theorem MU (s:ap) (rest:aL) (K:Fk):(fG prog (fun _=>none) 300 84 [.str s] (ai [] (aN rest)) (vF K))=(
 cond (bA .eql [108,105,115,116,46,97,100,100] s) (K (.tup [.z 1,.b true]) [] (aN rest)) (cond (bA .eql [108,105,115,116,46,99,117,116] s) (K (.tup [.z 2,.b true]) [] (aN rest)) (cond (bA .eql [108,105,115,116,46,104,97,115] s) (K (.tup [.z 3,.b true]) [] (aN rest)) (cond (bA .eql [116,97,98,108,101,46,112,117,116] s) (K (.tup [.z 4,.b true]) [] (aN rest)) (cond (bA .eql [116,97,98,108,101,46,103,101,116] s) (K (.tup [.z 5,.b true]) [] (aN rest)) (cond (bA .eql [116,97,98,108,101,46,100,101,108] s) (K (.tup [.z 6,.b true]) [] (aN rest)) (cond (bA .eql [113,117,101,117,101,46,112,117,115,104] s) (K (.tup [.z 7,.b true]) [] (aN rest)) (cond (bA .eql [113,117,101,117,101,46,116,97,107,101] s) (K (.tup [.z 8,.b true]) [] (aN rest)) (cond (bA .eql [116,114,101,101,46,115,101,116] s) (K (.tup [.z 9,.b true]) [] (aN rest)) (cond (bA .eql [116,114,101,101,46,102,105,110,100] s) (K (.tup [.z 10,.b true]) [] (aN rest)) (cond (bA .eql [116,114,101,101,46,101,114,97,115,101] s) (K (.tup [.z 11,.b true]) [] (aN rest)) (cond (bA .eql [116,114,101,101,46,99,111,117,110,116] s) (K (.tup [.z 12,.b true]) [] (aN rest)) (K (.tup [.z 0,.b false]) [] (aN rest)))))))))))))):=ak
theorem Sw (rest:aL):a0j prog 16 [.z 1] (ai [] (aZ rest)) fun l st=>l=.str (bB 1)∧st=ai [] (aZ rest):=a0j.lf (fuel:=300) rfl rfl ak
theorem Sx (rest:aL):a0j prog 16 [.z 2] (ai [] (aZ rest)) fun l st=>l=.str (bB 2)∧st=ai [] (aZ rest):=a0j.lf (fuel:=300) rfl rfl ak
theorem Sy (rest:aL):a0j prog 16 [.z 3] (ai [] (aZ rest)) fun l st=>l=.str (bB 3)∧st=ai [] (aZ rest):=a0j.lf (fuel:=300) rfl rfl ak
theorem Sz (rest:aL):a0j prog 16 [.z 4] (ai [] (aZ rest)) fun l st=>l=.str (bB 4)∧st=ai [] (aZ rest):=a0j.lf (fuel:=300) rfl rfl ak
theorem SA (rest:aL):a0j prog 16 [.z 5] (ai [] (aZ rest)) fun l st=>l=.str (bB 5)∧st=ai [] (aZ rest):=a0j.lf (fuel:=300) rfl rfl ak
theorem SB (rest:aL):a0j prog 16 [.z 6] (ai [] (aZ rest)) fun l st=>l=.str (bB 6)∧st=ai [] (aZ rest):=a0j.lf (fuel:=300) rfl rfl ak
theorem SC (rest:aL):a0j prog 16 [.z 7] (ai [] (aZ rest)) fun l st=>l=.str (bB 7)∧st=ai [] (aZ rest):=a0j.lf (fuel:=300) rfl rfl ak
theorem SD (rest:aL):a0j prog 16 [.z 8] (ai [] (aZ rest)) fun l st=>l=.str (bB 8)∧st=ai [] (aZ rest):=a0j.lf (fuel:=300) rfl rfl ak
theorem SE (rest:aL):a0j prog 16 [.z 9] (ai [] (aZ rest)) fun l st=>l=.str (bB 9)∧st=ai [] (aZ rest):=a0j.lf (fuel:=300) rfl rfl ak
theorem UC (rest:aL):a0j prog 16 [.z 10] (ai [] (aZ rest)) fun l st=>l=.str (bB 10)∧st=ai [] (aZ rest):=a0j.lf (fuel:=300) rfl rfl ak
theorem UD (rest:aL):a0j prog 16 [.z 11] (ai [] (aZ rest)) fun l st=>l=.str (bB 11)∧st=ai [] (aZ rest):=a0j.lf (fuel:=300) rfl rfl ak
theorem UE (rest:aL):a0j prog 16 [.z 12] (ai [] (aZ rest)) fun l st=>l=.str (bB 12)∧st=ai [] (aZ rest):=a0j.lf (fuel:=300) rfl rfl ak
theorem UF (rest:aL):a0j prog 16 [.z 13] (ai [] (aZ rest)) fun l st=>l=.str (bB 13)∧st=ai [] (aZ rest):=a0j.lf (fuel:=300) rfl rfl ak
theorem UG (rest:aL):a0j prog 16 [.z 14] (ai [] (aZ rest)) fun l st=>l=.str (bB 14)∧st=ai [] (aZ rest):=a0j.lf (fuel:=300) rfl rfl ak
theorem UH (rest:aL):a0j prog 16 [.z 15] (ai [] (aZ rest)) fun l st=>l=.str (bB 15)∧st=ai [] (aZ rest):=a0j.lf (fuel:=300) rfl rfl ak
theorem UI (rest:aL):a0j prog 16 [.z 16] (ai [] (aZ rest)) fun l st=>l=.str (bB 16)∧st=ai [] (aZ rest):=a0j.lf (fuel:=300) rfl rfl ak
theorem UJ (rest:aL):a0j prog 16 [.z 17] (ai [] (aZ rest)) fun l st=>l=.str (bB 17)∧st=ai [] (aZ rest):=a0j.lf (fuel:=300) rfl rfl ak
theorem UK (rest:aL):a0j prog 16 [.z 18] (ai [] (aZ rest)) fun l st=>l=.str (bB 18)∧st=ai [] (aZ rest):=a0j.lf (fuel:=300) rfl rfl ak
theorem UL (rest:aL):a0j prog 16 [.z 19] (ai [] (aZ rest)) fun l st=>l=.str (bB 19)∧st=ai [] (aZ rest):=a0j.lf (fuel:=300) rfl rfl ak
theorem UM (rest:aL):a0j prog 16 [.z 20] (ai [] (aZ rest)) fun l st=>l=.str (bB 20)∧st=ai [] (aZ rest):=a0j.lf (fuel:=300) rfl rfl ak
theorem UN (rest:aL):a0j prog 16 [.z 21] (ai [] (aZ rest)) fun l st=>l=.str (bB 21)∧st=ai [] (aZ rest):=a0j.lf (fuel:=300) rfl rfl ak
theorem UO (rest:aL):a0j prog 16 [.z 22] (ai [] (aZ rest)) fun l st=>l=.str (bB 22)∧st=ai [] (aZ rest):=a0j.lf (fuel:=300) rfl rfl ak
theorem UP (rest:aL):a0j prog 16 [.z 23] (ai [] (aZ rest)) fun l st=>l=.str (bB 23)∧st=ai [] (aZ rest):=a0j.lf (fuel:=300) rfl rfl ak
theorem Sl (rest:aL):a0j prog 54 [.z 1] (ai [] (aN rest)) fun l st=>l=.str (fP 1)∧st=ai [] (aN rest):=a0j.lf (fuel:=300) rfl rfl ak
theorem Sm (rest:aL):a0j prog 54 [.z 2] (ai [] (aN rest)) fun l st=>l=.str (fP 2)∧st=ai [] (aN rest):=a0j.lf (fuel:=300) rfl rfl ak
theorem Sn (rest:aL):a0j prog 54 [.z 3] (ai [] (aN rest)) fun l st=>l=.str (fP 3)∧st=ai [] (aN rest):=a0j.lf (fuel:=300) rfl rfl ak
theorem So (rest:aL):a0j prog 54 [.z 4] (ai [] (aN rest)) fun l st=>l=.str (fP 4)∧st=ai [] (aN rest):=a0j.lf (fuel:=300) rfl rfl ak
theorem Sp (rest:aL):a0j prog 54 [.z 5] (ai [] (aN rest)) fun l st=>l=.str (fP 5)∧st=ai [] (aN rest):=a0j.lf (fuel:=300) rfl rfl ak
theorem Sq (rest:aL):a0j prog 54 [.z 6] (ai [] (aN rest)) fun l st=>l=.str (fP 6)∧st=ai [] (aN rest):=a0j.lf (fuel:=300) rfl rfl ak
theorem Sr (rest:aL):a0j prog 54 [.z 7] (ai [] (aN rest)) fun l st=>l=.str (fP 7)∧st=ai [] (aN rest):=a0j.lf (fuel:=300) rfl rfl ak
theorem Ss (rest:aL):a0j prog 54 [.z 8] (ai [] (aN rest)) fun l st=>l=.str (fP 8)∧st=ai [] (aN rest):=a0j.lf (fuel:=300) rfl rfl ak
theorem Su (rest:aL):a0j prog 54 [.z 9] (ai [] (aN rest)) fun l st=>l=.str (fP 9)∧st=ai [] (aN rest):=a0j.lf (fuel:=300) rfl rfl ak
theorem Uz (rest:aL):a0j prog 54 [.z 10] (ai [] (aN rest)) fun l st=>l=.str (fP 10)∧st=ai [] (aN rest):=a0j.lf (fuel:=300) rfl rfl ak
theorem UA (rest:aL):a0j prog 54 [.z 11] (ai [] (aN rest)) fun l st=>l=.str (fP 11)∧st=ai [] (aN rest):=a0j.lf (fuel:=300) rfl rfl ak
theorem UB (rest:aL):a0j prog 54 [.z 12] (ai [] (aN rest)) fun l st=>l=.str (fP 12)∧st=ai [] (aN rest):=a0j.lf (fuel:=300) rfl rfl ak
theorem P9 (op:Int) (rest:aL):a0j prog 16 [.z op] (ai [] (aZ rest)) fun l s=>l=.str (bB op)∧s=ai [] (aZ rest):=by
 by_cases h:op < 1∨23 < op
 ·rw [K3 h];refine a0j.mono (a0j.vc (Q:=fun l b=>l=.str []∧b=[]) H9 (n:=60) 0 rfl ?_) fun l s' ⟨b0,⟨h1,h2⟩,h3⟩=>⟨h1,by rw [h3,h2]⟩
  rw [M1];simp only [Ff.2 h,aw];exact⟨rfl,_,_,[],⟨rfl,rfl⟩,Dw rfl⟩
 ·have:op=1∨op=2∨op=3∨op=4∨op=5∨op=6∨op=7∨op=8∨op=9∨op=10∨op=11∨op=12∨op=13∨op=14∨op=15∨op=16∨op=17∨op=18∨op=19∨op=20∨op=21∨op=22∨op=23:=ab;rcases this with rfl | rfl | rfl | rfl | rfl | rfl | rfl | rfl | rfl | rfl | rfl | rfl | rfl | rfl | rfl | rfl | rfl | rfl | rfl | rfl | rfl | rfl | rfl
  ·exact Sw rest
  ·exact Sx rest
  ·exact Sy rest
  ·exact Sz rest
  ·exact SA rest
  ·exact SB rest
  ·exact SC rest
  ·exact SD rest
  ·exact SE rest
  ·exact UC rest
  ·exact UD rest
  ·exact UE rest
  ·exact UF rest
  ·exact UG rest
  ·exact UH rest
  ·exact UI rest
  ·exact UJ rest
  ·exact UK rest
  ·exact UL rest
  ·exact UM rest
  ·exact UN rest
  ·exact UO rest
  ·exact UP rest
def rJ (op:Int):Bool:=decide (op < 1∨12 < op)
def JS:Gc:=fun args s=>match args,s.g with
 | [.int .i64 op],[]=>some ([rJ op],.str [],s)
 | _,_=>none
theorem VP (op:Int) (h:op < 1∨12 < op):a0j prog 54 [.z op] (ai [] []) fun l s=>l=.str []∧s=ai [] []:=by
 refine a0j.mono (a0j.vc (Q:=fun l b=>l=.str []∧b=[]) cJ (n:=60) 0 rfl ?_) fun l s' ⟨b0,⟨h1,h2⟩,h3⟩=>⟨h1,by rw [h3,h2]⟩
 rw [Xc];simp only [rW,iq,lQ,qC,oz,tO]
 repeat' (first | refine tK (fun _=>?_) (fun _=>?_) | refine yl (fun _=>?_) (fun _=>?_))
 all_goals first
  | exact⟨rfl,_,_,[],⟨rfl,rfl⟩,Dw rfl⟩
  | omega
theorem W9:bX prog 54 JS:=by
 intro args s bs l s' hg hb hfr;unfold JS at hg;split at hg
 ·rename_i op hgl;simp only [a8,bn] at hg;obtain⟨rfl,rfl,rfl⟩:=hg;simp only [bv] at hb;refine a0j.i3i hfr rfl rfl ?_;rw [hgl];exact VP op (by simpa [rJ] using hb.1)
 ·cases hg
theorem P8 (op:Int) (rest:aL):a0j prog 54 [.z op] (ai [] (aN rest)) fun l s=>l=.str (fP op)∧s=ai [] (aN rest):=by
 by_cases h:op < 1∨12 < op
 ·rw [KK h];exact ju W9 [.z op] (ai [] (aN rest)) [rJ op] (.str []) (ai [] (aN rest)) rfl (by simp [bN,rJ,h]) (fun b _=>by rw [b8]; rfl)
 ·have:op=1∨op=2∨op=3∨op=4∨op=5∨op=6∨op=7∨op=8∨op=9∨op=10∨op=11∨op=12:=ab;rcases this with rfl | rfl | rfl | rfl | rfl | rfl | rfl | rfl | rfl | rfl | rfl | rfl
  ·exact Sl rest
  ·exact Sm rest
  ·exact Sn rest
  ·exact So rest
  ·exact Sp rest
  ·exact Sq rest
  ·exact Sr rest
  ·exact Ss rest
  ·exact Su rest
  ·exact Uz rest
  ·exact UA rest
  ·exact UB rest
theorem Xa (s:ap) (rest:aL):a0j prog 70 [.str s] (ai [] (aZ rest)) fun l st=>l=.tup [.z (dV s),.b (iB s)]∧st=ai [] (aZ rest):=by
 refine a0j.mono (a0j.vc (Q:=fun l bb=>l=.tup [.z (dV s),.b (iB s)]∧bb=[]) cJ (n:=300) 0 rfl ?_) fun l s' ⟨b0,⟨h1,h2⟩,h3⟩=>⟨h1,by rw [h3,h2]⟩
 rw [M0];refine eB (fun e=>?_) (fun e1=>?_)
 ·exact eu
 refine eB (fun e=>?_) (fun e2=>?_)
 ·exact eu
 refine eB (fun e=>?_) (fun e3=>?_)
 ·exact eu
 refine eB (fun e=>?_) (fun e4=>?_)
 ·exact eu
 refine eB (fun e=>?_) (fun e5=>?_)
 ·exact eu
 refine eB (fun e=>?_) (fun e6=>?_)
 ·exact eu
 refine eB (fun e=>?_) (fun e7=>?_)
 ·exact eu
 refine eB (fun e=>?_) (fun e8=>?_)
 ·exact eu
 refine eB (fun e=>?_) (fun e9=>?_)
 ·exact eu
 refine eB (fun e=>?_) (fun e10=>?_)
 ·exact eu
 refine eB (fun e=>?_) (fun e11=>?_)
 ·exact eu
 refine eB (fun e=>?_) (fun e12=>?_)
 ·exact eu
 refine eB (fun e=>?_) (fun e13=>?_)
 ·exact eu
 refine eB (fun e=>?_) (fun e14=>?_)
 ·exact eu
 refine eB (fun e=>?_) (fun e15=>?_)
 ·exact eu
 refine eB (fun e=>?_) (fun e16=>?_)
 ·exact eu
 refine eB (fun e=>?_) (fun e17=>?_)
 ·exact eu
 refine eB (fun e=>?_) (fun e18=>?_)
 ·exact eu
 refine eB (fun e=>?_) (fun e19=>?_)
 ·exact eu
 refine eB (fun e=>?_) (fun e20=>?_)
 ·exact eu
 refine eB (fun e=>?_) (fun e21=>?_)
 ·exact eu
 refine eB (fun e=>?_) (fun e22=>?_)
 ·exact eu
 refine eB (fun e=>?_) (fun e23=>?_)
 ·exact eu
 have e0:fh jO 23 s=0:=by
  simp only [fh,jO,e1,e2,e3,e4,e5,e6,e7,e8,e9,e10,e11,e12,e13,e14,e15,e16,e17,e18,e19,e20,e21,e22,e23,aD]
 exact⟨rfl,_,_,[],⟨rfl,rfl⟩,F7 e0 (by simp [iB,e0])⟩
theorem W_ (s:ap) (rest:aL):a0j prog 84 [.str s] (ai [] (aN rest)) fun l st=>l=.tup [.z (sH s),.b (mz s)]∧st=ai [] (aN rest):=by
 refine a0j.mono (a0j.vc (Q:=fun l bb=>l=.tup [.z (sH s),.b (mz s)]∧bb=[]) cJ (n:=300) 0 rfl ?_) fun l s' ⟨b0,⟨h1,h2⟩,h3⟩=>⟨h1,by rw [h3,h2]⟩
 rw [MU];refine eB (fun e=>?_) (fun e1=>?_)
 ·exact eu
 refine eB (fun e=>?_) (fun e2=>?_)
 ·exact eu
 refine eB (fun e=>?_) (fun e3=>?_)
 ·exact eu
 refine eB (fun e=>?_) (fun e4=>?_)
 ·exact eu
 refine eB (fun e=>?_) (fun e5=>?_)
 ·exact eu
 refine eB (fun e=>?_) (fun e6=>?_)
 ·exact eu
 refine eB (fun e=>?_) (fun e7=>?_)
 ·exact eu
 refine eB (fun e=>?_) (fun e8=>?_)
 ·exact eu
 refine eB (fun e=>?_) (fun e9=>?_)
 ·exact eu
 refine eB (fun e=>?_) (fun e10=>?_)
 ·exact eu
 refine eB (fun e=>?_) (fun e11=>?_)
 ·exact eu
 refine eB (fun e=>?_) (fun e12=>?_)
 ·exact eu
 have e0:fh dj 12 s=0:=by
  simp only [fh,dj,e1,e2,e3,e4,e5,e6,e7,e8,e9,e10,e11,e12,aD]
 exact⟨rfl,_,_,[],⟨rfl,rfl⟩,F7 e0 (by simp [mz,e0])⟩
def Dx:Gc:=fun args s=>match args,s.g with
 | [.int .i64 op],(g0,F0)::_=>cond (Nat.beq g0 0 && aU F0 cj) (some ([],.str (bB op),s)) none
 | _,_=>none
theorem V1:bX prog 16 Dx:=by
 intro args s bs l s' hg hb hfr;unfold Dx at hg;split at hg
 ·rename_i op g0 F0 rest hgl;cases hc:(Nat.beq g0 0 && aU F0 cj) with
  | false=>exact eZ
  | true =>
    rw [hc] at hg;simp only [aw,a8,bn] at hg;obtain⟨rfl,rfl,rfl⟩:=hg;simp only [bg] at hc;obtain⟨c1,c2⟩:=hc;refine a0j.i3i hfr rfl rfl ?_;rw [hgl,bt c1,bQ c2];exact P9 op rest
 ·cases hg
def Dt:Gc:=fun args s=>match args,s.g with
 | [.int .i64 op],(g0,F0)::(g1,F1)::_=>cond (Nat.beq g0 0 && aU F0 cj && (Nat.beq g1 2 && aU F1 cK)) (some ([],.str (fP op),s)) none
 | _,_=>none
theorem VN:bX prog 54 Dt:=by
 intro args s bs l s' hg hb hfr;unfold Dt at hg;split at hg
 ·rename_i op g0 F0 g1 F1 rest hgl;cases hc:(Nat.beq g0 0 && aU F0 cj && (Nat.beq g1 2 && aU F1 cK)) with
  | false=>exact eZ
  | true =>
    rw [hc] at hg;simp only [aw,a8,bn] at hg;obtain⟨rfl,rfl,rfl⟩:=hg;simp only [bg] at hc;obtain⟨⟨c1,c2⟩,c3,c4⟩:=hc;refine a0j.i3i hfr rfl rfl ?_;rw [hgl,bt c1,bQ c2,bt c3,bQ c4];exact P8 op rest
 ·cases hg
def Ck:Gc:=fun args st=>match args,st.g with
 | [.str s],(g0,F0)::_=>cond (Nat.beq g0 0 && aU F0 cj) (some ([],.tup [.z (dV s),.b (iB s)],st)) none
 | _,_=>none
theorem Tu:bX prog 70 Ck:=by
 intro args s bs l s' hg hb hfr;unfold Ck at hg;split at hg
 ·rename_i s g0 F0 rest hgl;cases hc:(Nat.beq g0 0 && aU F0 cj) with
  | false=>exact eZ
  | true =>
    rw [hc] at hg;simp only [aw,a8,bn] at hg;obtain⟨rfl,rfl,rfl⟩:=hg;simp only [bg] at hc;obtain⟨c1,c2⟩:=hc;refine a0j.i3i hfr rfl rfl ?_;rw [hgl,bt c1,bQ c2];exact Xa s rest
 ·cases hg
def Ef:Gc:=fun args st=>match args,st.g with
 | [.str s],(g0,F0)::(g1,F1)::_=>cond (Nat.beq g0 0 && aU F0 cj && (Nat.beq g1 2 && aU F1 cK)) (some ([],.tup [.z (sH s),.b (mz s)],st)) none
 | _,_=>none
theorem WL:bX prog 84 Ef:=by
 intro args s bs l s' hg hb hfr;unfold Ef at hg;split at hg
 ·rename_i s g0 F0 g1 F1 rest hgl;cases hc:(Nat.beq g0 0 && aU F0 cj && (Nat.beq g1 2 && aU F1 cK)) with
  | false=>exact eZ
  | true =>
    rw [hc] at hg;simp only [aw,a8,bn] at hg;obtain⟨rfl,rfl,rfl⟩:=hg;simp only [bg] at hc;obtain⟨⟨c1,c2⟩,c3,c4⟩:=hc;refine a0j.i3i hfr rfl rfl ?_;rw [hgl,bt c1,bQ c2,bt c3,bQ c4];exact W_ s rest
 ·cases hg
def gi:al:=tp Go.Proofs.YtnkkkihgljbllaaDoor.Rows.laid_quietus_quietusref13_names
abbrev xh:aL:=aN [(1,gi)]
def rN:Nat→Int×Int×Int×Bool
 | 1=>(7,-1,-1,true)
 | 2=>(7,7,-1,false)
 | 3=>(7,7,7,false)
 | 4=>(7,7,7,false)
 | 5=>(7,7,7,false)
 | 6=>(7,7,7,false)
 | 7=>(7,7,7,false)
 | 8=>(7,7,15,false)
 | 9=>(7,7,15,false)
 | 10=>(7,7,-1,false)
 | 11=>(7,-1,-1,false)
 | 12=>(-1,-1,40,false)
 | 13=>(7,-1,40,false)
 | 14=>(-1,-1,-1,false)
 | 15=>(-1,-1,-1,false)
 | 16=>(-1,-1,-1,false)
 | 17=>(-1,-1,-1,false)
 | 18=>(-1,-1,-1,false)
 | 19=>(-1,-1,-1,false)
 | 20=>(-1,-1,-1,false)
 | 21=>(7,-1,-1,false)
 | 22=>(-1,-1,-1,false)
 | 23=>(12,7,6,false)
 | _=>(0,0,0,false)
def rA (op:Int):Int:=(rN op.toNat).1
def rB (op:Int):Int:=(rN op.toNat).2.1
def rC (op:Int):Int:=(rN op.toNat).2.2.1
def rD (op:Int):Bool:=(rN op.toNat).2.2.2
def iP (op:Int):Bool:=decide (1≤op∧op≤23)
theorem TM {op:Int} (h:op < 1∨23 < op):rN op.toNat=(0,0,0,false):=by
 by_cases h0:op < 1
 ·rw [show op.toNat=0 by omega]; rfl
 ·exact GC
abbrev uR (op:Int):LV:=.tup [.agg [.str (bB op),.z (rA op),.z (rB op),.z (rC op),.b (rD op)],.b (iP op)]
theorem Jz (op:Int) (g:aL):a0j prog 43 [.z op] (ai [] g) fun l st=>l=uR op∧st=ai [] g:=by
 have out:∀ op:Int,(op < 1∨23 < op)→a0j prog 43 [.z op] (ai [] g) (fun l st=>l=LV.tup [.agg [.str [],.z 0,.z 0,.z 0,.b false],.b false]∧st=ai [] g)→a0j prog 43 [.z op] (ai [] g) fun l st=>l=uR op∧st=ai [] g:=fun op h H=>a0j.mono H fun l s ⟨h1,h2⟩=>⟨by rw [h1,uR,K3 h,rA,rB,rC,rD,TM h,iP,decide_eq_false ab],h2⟩
 refine U6 24 op (p:=fun op=>a0j prog 43 [.z op] (ai [] g) fun l st=>l=uR op∧st=ai [] g) (fun k=>?_) (fun k=>?_) (fun k=>?_)
 ·match k with
  | ⟨0,_⟩=>exact gB
  | ⟨1,_⟩=>exact gB
  | ⟨2,_⟩=>exact gB
  | ⟨3,_⟩=>exact gB
  | ⟨4,_⟩=>exact gB
  | ⟨5,_⟩=>exact gB
  | ⟨6,_⟩=>exact gB
  | ⟨7,_⟩=>exact gB
  | ⟨8,_⟩=>exact gB
  | ⟨9,_⟩=>exact gB
  | ⟨10,_⟩=>exact gB
  | ⟨11,_⟩=>exact gB
  | ⟨12,_⟩=>exact gB
  | ⟨13,_⟩=>exact gB
  | ⟨14,_⟩=>exact gB
  | ⟨15,_⟩=>exact gB
  | ⟨16,_⟩=>exact gB
  | ⟨17,_⟩=>exact gB
  | ⟨18,_⟩=>exact gB
  | ⟨19,_⟩=>exact gB
  | ⟨20,_⟩=>exact gB
  | ⟨21,_⟩=>exact gB
  | ⟨22,_⟩=>exact gB
  | ⟨23,_⟩=>exact gB
  | ⟨m+24,h⟩=>omega
 ·exact out _ BM (a0j.lf (fuel:=300) rfl rfl ak)
 ·exact out _ ab (a0j.lf (fuel:=300) rfl rfl ak)
def zx:Gc:=fun args s=>match args with
 | [.int .i64 op]=>some ([],uR op,s)
 | _=>none
theorem Jy:bX prog 43 zx:=by
 intro args s bs l s' hg hb hfr;unfold zx at hg;split at hg
 ·rename_i op;simp only [a8,bn] at hg;obtain⟨rfl,rfl,rfl⟩:=hg;exact a0j.i3i hfr rfl rfl (Jz op s.g)
 ·cases hg
theorem rcx (op:Int) (K:Fk):(fG prog (fun _=>none) 60 45 [.z op] (ai [] []) (vF K))=(
 cond (ad .lss op 1) (K (.str []) [] []) (cond (ad .gtr op 12) (K (.str []) [] []) (ck (b9 (au .sub .i64 op 1)) <|
 ck (ag (aa (ae (au .sub .i64 op 1)) 1) 12) <|
 False))):=ak
theorem WH (op:Int) (h:op < 1∨12 < op):a0j prog 45 [.z op] (ai [] []) fun l s=>l=.str []∧s=ai [] []:=by
 refine a0j.mono (a0j.vc (Q:=fun l b=>l=.str []∧b=[]) cJ (n:=60) 0 rfl ?_) fun l s' ⟨b0,⟨h1,h2⟩,h3⟩=>⟨h1,by rw [h3,h2]⟩
 rw [rcx];simp only [rW,iq,lQ,qC,oz,tO]
 repeat' (first | refine tK (fun _=>?_) (fun _=>?_) | refine yl (fun _=>?_) (fun _=>?_))
 all_goals first
  | exact⟨rfl,_,_,[],⟨rfl,rfl⟩,Dw rfl⟩
  | omega
def Hu:Gc:=fun args s=>match args,s.g with
 | [.int .i64 op],[]=>(match s.lay [] [] [] with
   | some s'=>some ([rJ op],.str [],s')
   | none=>none)
 | _,_=>none
theorem Vr:bX prog 45 Hu:=by
 intro args s bs l s' hg hb hfr;unfold Hu at hg;split at hg
 ·rename_i op hgl;split at hg
  ·rename_i s1 hs1;simp only [a8,bn] at hg;obtain⟨rfl,rfl,rfl⟩:=hg;simp only [bv] at hb;obtain⟨k1,_⟩:=hb;refine a0j.lay (bs:=[]) (args0:=[.z op]) (bs':=[]) (v0:=.str []) hfr hs1 aC
    trivial fv ?_
    fun κ h1 h2=>⟨trivial,cY rfl⟩
   rw [hgl]; exact(WH op (by simpa [rJ] using k1))
  ·cases hg
 ·cases hg
theorem RD (op:Int):a0j prog 45 [.z op] (ai [] xh) fun l s=>l=.str (fP op)∧s=ai [] xh:=by
 by_cases h:op < 1∨12 < op
 ·rw [KK h];exact ju Vr [.z op] (ai [] xh) [rJ op] (.str []) (ai [] xh) rfl (by simp [bN,rJ,h]) (fun b _=>by rw [b8]; rfl)
 ·have:op=1∨op=2∨op=3∨op=4∨op=5∨op=6∨op=7∨op=8∨op=9∨op=10∨op=11∨op=12:=ab;rcases this with rfl | rfl | rfl | rfl | rfl | rfl | rfl | rfl | rfl | rfl | rfl | rfl
  all_goals exact a0j.lf (fuel:=300) rfl rfl ak
def D9:Gc:=fun args s=>match args,s.g with
 | [.int .i64 op],[(g0,F0),(g1,F1),(g2,F2)]=>cond (Nat.beq g0 0 && aU F0 cj && (Nat.beq g1 2 && aU F1 cK && (Nat.beq g2 1 && aU F2 gi))) (some ([],.str (fP op),s)) none
 | _,_=>none
theorem WG:bX prog 45 D9:=by
 intro args s bs l s' hg hb hfr;unfold D9 at hg;split at hg
 ·rename_i op g0 F0 g1 F1 g2 F2 hgl;cases hc:(Nat.beq g0 0 && aU F0 cj && (Nat.beq g1 2 && aU F1 cK && (Nat.beq g2 1 && aU F2 gi))) with
  | false=>exact eZ
  | true =>
    rw [hc] at hg;simp only [aw,a8,bn] at hg;obtain⟨rfl,rfl,rfl⟩:=hg;simp only [bg] at hc;obtain⟨⟨c1,c2⟩,⟨c3,c4⟩,c5,c6⟩:=hc;have e:s.g=xh:=by rw [hgl,bt c1,bQ c2,bt c3,bQ c4,bt c5,bQ c6]; rfl
    refine a0j.i3i hfr rfl rfl ?_;rw [e]; exact RD op
 ·cases hg
def eV (n m:Int):Bool:=decide ((n=0∧m < 0)∨(0≤n∧n≤m))
def my (n m:Int):Bool:=eV n m
theorem PS (n m:Int) (K:Fk):(fG prog (fun _=>none) 60 44 [.z n,.z m] (ai []) (vF K))=(
 cond (ad .eql n 0) (cond (ad .lss m 0) (K (.b true) [] []) (cond (ad .geq n 0) (K (.b (ad .leq n m)) [] []) (K (.b false) [] []))) (cond (ad .geq n 0) (K (.b (ad .leq n m)) [] []) (K (.b false) [] []))):=ak
theorem R3 (n m:Int):a0j prog 44 [.z n,.z m] (ai []) fun l s=>l=.b (my n m)∧s=ai []:=by
 refine a0j.mono (a0j.vc (Q:=fun l b=>l=.b (my n m)∧b=[]) cJ (n:=60) 0 rfl ?_) fun l s' ⟨b0,⟨h1,h2⟩,h3⟩=>⟨h1,by rw [h3,h2]⟩
 rw [PS];simp only [rW,iq,lQ,qC,oz,tO]
 repeat' (first | refine tK (fun _=>?_) (fun _=>?_) | refine yl (fun _=>?_) (fun _=>?_))
 all_goals (refine⟨rfl,_,[],[],⟨rfl,rfl⟩,xv ?_⟩; rw [mu]; simp [my,eV]; try omega)
def BV:Gc:=fun args s=>match args,s.g with
 | [.int .i64 n,.int .i64 m],[]=>(match s.lay [] [] [] with
   | some s'=>some ([],.b (my n m),s')
   | none=>none)
 | _,_=>none
theorem Uh:bX prog 44 BV:=by
 intro args s bs l s' hg hb hfr;unfold BV at hg;split at hg
 ·rename_i n m hgl;split at hg
  ·rename_i s1 hs1;simp only [a8,bn] at hg;obtain⟨rfl,rfl,rfl⟩:=hg;refine a0j.lay (bs:=[]) (args0:=[.z n,.z m]) (bs':=[]) (v0:=.b (my n m)) hfr hs1 aC
    trivial fv ?_
    fun κ h1 h2=>⟨trivial,ir⟩
   rw [hgl]; exact(R3 n m)
  ·cases hg
 ·cases hg
def G7:Cx:=eP [(43,zx),(44,jm BV)]
theorem UW:cT prog (cv G7):=fQ ⟨Jy,ju Uh,trivial⟩
abbrev mQ (op:Int) (a:Int) (b:Int) (c:Int) (n:Int):bE:=[sN [.z op,.z a,.z b,.z c,.int .u64 n],sN [.str (bB op),.z (rA op),.z (rB op),.z (rC op),.b (rD op)]]
theorem N5 (op a b c n:Int) (g:aL) (K:Fk):(fG prog G7 60 29 [uJ op a b c n] (ai [] g) (vF K))=(
 cond (bu (iP op)) (K (.b false) (mQ op a b c n) g) (cond (bu (rD op)) (cond (ad .neq n 0) (K (.b false) (mQ op a b c n) g) (cond (bu (my a (rA op))) (K (.b false) (mQ op a b c n) g) (cond (bu (my b (rB op))) (K (.b false) (mQ op a b c n) g) (cond (bu (my c (rC op))) (K (.b false) (mQ op a b c n) g) (cond (ad .neq op 23) (K (.b true) (mQ op a b c n) g) (K (.b (ad .geq a 1)) (mQ op a b c n) g)))))) (cond (bu (my a (rA op))) (K (.b false) (mQ op a b c n) g) (cond (bu (my b (rB op))) (K (.b false) (mQ op a b c n) g) (cond (bu (my c (rC op))) (K (.b false) (mQ op a b c n) g) (cond (ad .neq op 23) (K (.b true) (mQ op a b c n) g) (K (.b (ad .geq a 1)) (mQ op a b c n) g))))))):=ak
theorem Vg (op a b c n:Int) (h:1≤op∧op≤23):cM op a b c n=(eV a (rA op) && eV b (rB op) && eV c (rC op) && (rD op || decide (n=0)) && (decide (op≠23) || decide (1≤a))):=by
 have:op=1∨op=2∨op=3∨op=4∨op=5∨op=6∨op=7∨op=8∨op=9∨op=10∨op=11∨op=12∨op=13∨op=14∨op=15∨op=16∨op=17∨op=18∨op=19∨op=20∨op=21∨op=22∨op=23:=ab;rw [mu];rcases this with rfl | rfl | rfl | rfl | rfl | rfl | rfl | rfl | rfl | rfl | rfl | rfl | rfl | rfl | rfl | rfl | rfl | rfl | rfl | rfl | rfl | rfl | rfl
 ·rw [zd]; simp [eV,rA,rB,rC,rD,rN]; try omega
 ·rw [Cs]; simp [eV,rA,rB,rC,rD,rN]; try omega
 ·rw [Cr]; simp [eV,rA,rB,rC,rD,rN]; try omega
 ·rw [Cq]; simp [eV,rA,rB,rC,rD,rN]; try omega
 ·rw [Cp]; simp [eV,rA,rB,rC,rD,rN]; try omega
 ·rw [Co]; simp [eV,rA,rB,rC,rD,rN]; try omega
 ·rw [Cn]; simp [eV,rA,rB,rC,rD,rN]; try omega
 ·rw [Cm]; simp [eV,rA,rB,rC,rD,rN]; try omega
 ·rw [Cl]; simp [eV,rA,rB,rC,rD,rN]; try omega
 ·rw [CM]; simp [eV,rA,rB,rC,rD,rN]; try omega
 ·rw [CN]; simp [eV,rA,rB,rC,rD,rN]; try omega
 ·rw [Hp]; simp [eV,rA,rB,rC,rD,rN]; try omega
 ·rw [CO]; simp [eV,rA,rB,rC,rD,rN]; try omega
 ·rw [CP]; simp [eV,rA,rB,rC,rD,rN]; try omega
 ·rw [CQ]; simp [eV,rA,rB,rC,rD,rN]; try omega
 ·rw [CR]; simp [eV,rA,rB,rC,rD,rN]; try omega
 ·rw [CU]; simp [eV,rA,rB,rC,rD,rN]; try omega
 ·rw [CV]; simp [eV,rA,rB,rC,rD,rN]; try omega
 ·rw [CX]; simp [eV,rA,rB,rC,rD,rN]; try omega
 ·rw [CY]; simp [eV,rA,rB,rC,rD,rN]; try omega
 ·rw [CZ]; simp [eV,rA,rB,rC,rD,rN]; try omega
 ·rw [C0]; simp [eV,rA,rB,rC,rD,rN]; try omega
 ·rw [Hq]; simp [eV,rA,rB,rC,rD,rN]; try omega
theorem Px (op a b c n:Int) (g:aL):a0j prog 29 [uJ op a b c n] (ai [] g) fun l s=>l=.b (cM op a b c n)∧s=ai [] g:=by
 refine a0j.mono (a0j.vc (Q:=fun l b'=>l=.b (cM op a b c n)∧b'=[]) UW (n:=60) 0 rfl ?_) fun l s' ⟨b0,⟨h1,h2⟩,h3⟩=>⟨h1,by rw [h3,h2]⟩
 rw [N5];by_cases h:op < 1∨23 < op
 ·rw [show iP op=false from decide_eq_false ab,Kh h];exact⟨rfl,_,[],[],⟨rfl,rfl⟩,xv rfl⟩
 ·rw [show iP op=true from decide_eq_true ab];have hm:=Vg op a b c n ab;simp only [show ∀ x y,my x y=eV x y from fun _ _=>rfl,rW,qC];generalize eV a (rA op)=pa at *;generalize eV b (rB op)=pb at *;generalize eV c (rC op)=pc at *;generalize rD op=pd at *;rw [hm];by_cases h0:n=0 <;> by_cases h3:op=23 <;> by_cases h4:1≤a <;> cases pa <;> cases pb <;> cases pc <;> cases pd <;> (simp only [h0,h3,h4,bD,fX]; exact⟨rfl,_,[],[],⟨rfl,rfl⟩,xv (by first | rfl | simp [h3])⟩)
def DC:Gc:=fun args s=>match args with
 | [.agg [.int .i64 op,.int .i64 a,.int .i64 b,.int .i64 c,.int .u64 n]]=>some ([],.b (cM op a b c n),s)
 | _=>none
theorem V7:bX prog 29 DC:=by
 intro args s bs l s' hg hb hfr;unfold DC at hg;split at hg
 ·rename_i op a b c n;simp only [a8,bn] at hg;obtain⟨rfl,rfl,rfl⟩:=hg;exact a0j.i3i hfr rfl rfl (Px op a b c n s.g)
 ·cases hg
end
end Go.Lev
