/- a line: code's and the reference's are one -/
import Derived.Test.YticekakedhinkaaDoorCQ6
import Derived.Test.YticekakedhinkaaDoorLc
import Derived.Test.YticekakedhinkaaDoorChecked
import Derived.KernelRfl
namespace Go.Lev
set_option linter.unusedSimpArgs false
set_option linter.unusedVariables false
open Go.RowKit
open Go.Proofs.Tryd (prog)
set_option maxRecDepth 100000
noncomputable section
def sgW (s v:Int):List UInt8:=if s=0 then [] else 32::pvW s v
def lineW (op a b c n:Int):List UInt8:=nameW op++sgW (fA op) a++sgW (fB op) b++sgW (fC op) c++sgW (fD op) n
theorem op_cases {op:Int} (h1:1≤op) (h2:op≤23):op=1∨op=2∨op=3∨op=4∨op=5∨op=6∨op=7∨op=8∨op=9∨op=10∨op=11∨op=12∨op=13∨op=14∨op=15∨op=16∨op=17∨op=18∨op=19∨op=20∨op=21∨op=22∨op=23:=by omega
theorem fD_two {op:Int} (h1:1≤op) (h2:op≤23):fD op=0∨fD op=7:=by
 rcases op_cases h1 h2 with rfl | rfl | rfl | rfl | rfl | rfl | rfl | rfl | rfl | rfl | rfl | rfl | rfl | rfl | rfl | rfl | rfl | rfl | rfl | rfl | rfl | rfl | rfl <;> first | exact .inl rfl | exact .inr rfl
theorem may_b {op a b c n:Int} (h:mayW op a b c n=true):(1≤op∧op≤23)∧(0≤a∧a≤40)∧(0≤b∧b≤40)∧0≤c∧c≤40:=by
 obtain⟨h1,h2,_⟩:=mayW_iff.1 h
 rcases op_cases h1 h2 with rfl | rfl | rfl | rfl | rfl | rfl | rfl | rfl | rfl | rfl | rfl | rfl | rfl | rfl | rfl | rfl | rfl | rfl | rfl | rfl | rfl | rfl | rfl
 ·have:=(mw1 a b c n).1 h; omega
 ·have:=(mw2 a b c n).1 h; omega
 ·have:=(mw3 a b c n).1 h; omega
 ·have:=(mw4 a b c n).1 h; omega
 ·have:=(mw5 a b c n).1 h; omega
 ·have:=(mw6 a b c n).1 h; omega
 ·have:=(mw7 a b c n).1 h; omega
 ·have:=(mw8 a b c n).1 h; omega
 ·have:=(mw9 a b c n).1 h; omega
 ·have:=(mw10 a b c n).1 h; omega
 ·have:=(mw11 a b c n).1 h; omega
 ·have:=(mw12 a b c n).1 h; omega
 ·have:=(mw13 a b c n).1 h; omega
 ·have:=(mw14 a b c n).1 h; omega
 ·have:=(mw15 a b c n).1 h; omega
 ·have:=(mw16 a b c n).1 h; omega
 ·have:=(mw17 a b c n).1 h; omega
 ·have:=(mw18 a b c n).1 h; omega
 ·have:=(mw19 a b c n).1 h; omega
 ·have:=(mw20 a b c n).1 h; omega
 ·have:=(mw21 a b c n).1 h; omega
 ·have:=(mw22 a b c n).1 h; omega
 ·have:=(mw23 a b c n).1 h; omega
theorem pv_len {s n:Int} (h0:0≤n) (h1:n≤18446744073709551615):(pvW s n).length≤30:=by
 have:=decW_len h0 h1
 have hc:∀ m:Nat,(clN m).length≤30:=fun m=>by
  unfold clN; split <;> simp
 unfold pvW
 split
 ·simp only [List.length_cons]; omega
 ·split
  ·exact hc _
  ·split
   ·simp only [List.length_cons]; omega
   ·omega
theorem sg_len {s n:Int} (h0:0≤n) (h1:n≤18446744073709551615):(sgW s n).length≤31:=by
 have:=pv_len (s:=s) h0 h1
 unfold sgW; split <;> simp <;> omega
theorem name_len (op:Int):(nameW op).length≤30:=by
 have hc:∀ m:Nat,(nmN m).length≤30:=fun m=>by
  unfold nmN; split <;> simp
 exact hc _
theorem pvB_small {s n:Int} (h0:0≤n) (h1:n≤40):pvB s n=true:=pvB_iff.2 ⟨h0,by omega,fun _=>by omega,fun _=>by omega⟩
theorem w40 {n:Int} (h0:0≤n) (h1:n≤40):xwr .u64 n=n:=wrap_u64 h0 (by omega)
def r0W (op a:Int):List UInt8:=if rA op < 0 then [] else if op=23 then 32::callW a else 32::114::decW a
def r1W (op b:Int):List UInt8:=if rB op < 0 then [] else if op=23 then 32::decW b else 32::114::decW b
def r2W (op c:Int):List UInt8:=if rC op < 0 then [] else if op=8∨op=9 then 32::decW c else if op=12∨op=13 then 32::108::decW c else 32::114::decW c
def r3W (op n:Int):List UInt8:=if rD op=true then 32::decW n else []
theorem line_eq {op:Int} (h1:1≤op) (h2:op≤23) (a b c n:Int):nameW op++r0W op a++r1W op b++r2W op c++r3W op n=lineW op a b c n:=by
 rcases op_cases h1 h2 with rfl | rfl | rfl | rfl | rfl | rfl | rfl | rfl | rfl | rfl | rfl | rfl | rfl | rfl | rfl | rfl | rfl | rfl | rfl | rfl | rfl | rfl | rfl <;> rfl
theorem cxP_ok:CtrOk prog (ctrOf cxP):=cxl_ok ⟨nameG_ok,fdG_ok,pvG_ok,trivial⟩
theorem cxL_ok:CtrOk prog (ctrOf cxL):=cxl_ok ⟨rowG_ok,takeG_ok rcallG_ok,wrapG_ok dcG_ok,trivial⟩
abbrev insA (op a b c n:Int):LV:=.agg [.int .i64 op,.int .i64 a,.int .i64 b,.int .i64 c,.int .u64 n]
theorem cat32 (t x:List UInt8):xscat t (xscat [32] x)=t++32::x:=rfl
theorem slen (a b:List UInt8) (h:a.length+b.length≤1000000000):xle (xadd (xsln a) (xsln b)) 1000000000=true:=t_le h
theorem slen1 (b:List UInt8) (h:1+b.length≤1000000000):xle (xadd 1 (xsln b)) 1000000000=true:=t_le h
set_option maxHeartbeats 1000000 in
theorem pi_f (op a b c n:Int) (h:mayW op a b c n=true) (hn:0≤n∧n≤18446744073709551615):SFun prog 13 [insA op a b c n] (mkS [] gt4) fun l s=>l=.str (lineW op a b c n)∧s=mkS [] gt4:=by
 refine SFun.mono (SFun.pieces (Q:=fun l b'=>l=.str (lineW op a b c n)∧b'=[]) 41 0 piL [2] (by kernel_rfl) rfl rfl rfl ?_) fun l s' ⟨b0,⟨h1,h2⟩,h3⟩=>⟨h1,by rw [h3,h2]⟩
 obtain⟨⟨o1,o2⟩,⟨a1,a2⟩,⟨b1,b2⟩,c1,c2⟩:=may_b h
 have wa:=w40 a1 a2; have wb:=w40 b1 b2; have wc:=w40 c1 c2
 have f1:=isFt_self
 have pa:=pvB_small (s:=fA op) a1 a2; have pb:=pvB_small (s:=fB op) b1 b2; have pc:=pvB_small (s:=fC op) c1 c2
 have pd:pvB (fD op) n=true:=pvB_iff.2 ⟨hn.1,hn.2,fun e=>by rcases fD_two o1 o2 with q | q <;> omega,fun e=>by rcases fD_two o1 o2 with q | q <;> omega⟩
 have la:=pv_len (s:=fA op) a1 (by omega); have lb:=pv_len (s:=fB op) b1 (by omega); have lc:=pv_len (s:=fC op) c1 (by omega); have ld:=pv_len (s:=fD op) hn.1 hn.2
 have sa:=sg_len (s:=fA op) a1 (by omega); have sb:=sg_len (s:=fB op) b1 (by omega); have sc:=sg_len (s:=fC op) c1 (by omega); have sd:=sg_len (s:=fD op) hn.1 hn.2
 have ln:=name_len op
 let tx:Nat→List UInt8:=fun k=>match k with
  | 0=>nameW op
  | 1=>nameW op++sgW (fA op) a
  | 2=>nameW op++sgW (fA op) a++sgW (fB op) b
  | 3=>nameW op++sgW (fA op) a++sgW (fB op) b++sgW (fC op) c
  | _=>lineW op a b c n
 refine SSp.to cxP_ok (n:=40) (g:=gt4) 4 4 rfl (σ:=Unit) (fun _=>piT op (nameW op) 0) (fun _=>piH op a b c n) (mkS_le (Nat.zero_le _)) (by kernel_rfl) ?_ fun _=>?_
 ·rw [pi_a,t_leq o1,t_leq o2,wa,wb,wc]
  exact⟨rfl,(),[.id 0,.id 1],by(exact zC)⟩
 refine SSp.code_to (g:=gt4) 5 rfl (σ:=Unit) (fun _=>piT op (lineW op a b c n) 4) (fun _=>piH op a b c n) (by kernel_rfl) ?_ fun _=>?_
 ·refine SCode.loop_vc cxP_ok (n:=40) (n0:=0) 0 (by kernel_rfl) (σ:={k:Nat // k≤4}) (fun k=>piT op (tx k.1) (k.1:Int)) (fun _=>piH op a b c n) (fun k=>4 - k.1) (fun _=>Nat.zero_le _) (fun⟨k,hk⟩=>?_) ⟨0,by omega⟩
  dsimp only
  have hk:k=0∨k=1∨k=2∨k=3∨k=4:=by omega
  rcases hk with rfl | rfl | rfl | rfl | rfl
  ·show xcode _ _ _ _ _ (mkTm 41 (piT op (tx 0) 0)) _ _
   have e:tx 1=tx 0++sgW (fA op) a:=rfl
   have lt:(tx 0).length≤150:=by show(nameW op).length≤150; first | omega | (simp only [List.length_append]; omega)
   generalize tx 0=t0 at *
   rw [pi_l0]
   by_cases z:fA op=0
   ·rw [show sgW (fA op) a=[] from if_pos z,List.append_nil] at e
    (refine zR ?_)
    exact⟨rfl,⟨1,by omega⟩,by simp only; omega,[.id 0,.id 1],by dsimp only; rw [e]; (exact zC)⟩
   ·rw [show sgW (fA op) a=32::pvW (fA op) a from if_neg z] at e
    have q1:=slen1 (pvW (fA op) a) (by omega)
    have q2:=slen t0 (xscat [32] (pvW (fA op) a)) (by show t0.length+(32::pvW (fA op) a).length≤_; simp only [List.length_cons]; omega)
    simp only [f1,pa,q1,q2,cat32]
    (refine zR ?_)
    exact⟨rfl,⟨1,by omega⟩,by simp only; omega,[.id 0,.id 1],by dsimp only; rw [e]; (exact zC)⟩
  ·show xcode _ _ _ _ _ (mkTm 41 (piT op (tx 1) 1)) _ _
   have e:tx 2=tx 1++sgW (fB op) b:=rfl
   have lt:(tx 1).length≤150:=by show(nameW op++sgW (fA op) a).length≤150; first | omega | (simp only [List.length_append]; omega)
   generalize tx 1=t0 at *
   rw [pi_l1]
   by_cases z:fB op=0
   ·rw [show sgW (fB op) b=[] from if_pos z,List.append_nil] at e
    (refine zR ?_)
    exact⟨rfl,⟨2,by omega⟩,by simp only; omega,[.id 0,.id 1],by dsimp only; rw [e]; (exact zC)⟩
   ·rw [show sgW (fB op) b=32::pvW (fB op) b from if_neg z] at e
    have q1:=slen1 (pvW (fB op) b) (by omega)
    have q2:=slen t0 (xscat [32] (pvW (fB op) b)) (by show t0.length+(32::pvW (fB op) b).length≤_; simp only [List.length_cons]; omega)
    simp only [f1,pb,q1,q2,cat32]
    (refine zR ?_)
    exact⟨rfl,⟨2,by omega⟩,by simp only; omega,[.id 0,.id 1],by dsimp only; rw [e]; (exact zC)⟩
  ·show xcode _ _ _ _ _ (mkTm 41 (piT op (tx 2) 2)) _ _
   have e:tx 3=tx 2++sgW (fC op) c:=rfl
   have lt:(tx 2).length≤150:=by show(nameW op++sgW (fA op) a++sgW (fB op) b).length≤150; first | omega | (simp only [List.length_append]; omega)
   generalize tx 2=t0 at *
   rw [pi_l2]
   by_cases z:fC op=0
   ·rw [show sgW (fC op) c=[] from if_pos z,List.append_nil] at e
    (refine zR ?_)
    exact⟨rfl,⟨3,by omega⟩,by simp only; omega,[.id 0,.id 1],by dsimp only; rw [e]; (exact zC)⟩
   ·rw [show sgW (fC op) c=32::pvW (fC op) c from if_neg z] at e
    have q1:=slen1 (pvW (fC op) c) (by omega)
    have q2:=slen t0 (xscat [32] (pvW (fC op) c)) (by show t0.length+(32::pvW (fC op) c).length≤_; simp only [List.length_cons]; omega)
    simp only [f1,pc,q1,q2,cat32]
    (refine zR ?_)
    exact⟨rfl,⟨3,by omega⟩,by simp only; omega,[.id 0,.id 1],by dsimp only; rw [e]; (exact zC)⟩
  ·show xcode _ _ _ _ _ (mkTm 41 (piT op (tx 3) 3)) _ _
   have e:tx 4=tx 3++sgW (fD op) n:=rfl
   have lt:(tx 3).length≤150:=by show(nameW op++sgW (fA op) a++sgW (fB op) b++sgW (fC op) c).length≤150; first | omega | (simp only [List.length_append]; omega)
   generalize tx 3=t0 at *
   rw [pi_l3]
   by_cases z:fD op=0
   ·rw [show sgW (fD op) n=[] from if_pos z,List.append_nil] at e
    (refine zR ?_)
    exact⟨rfl,⟨4,by omega⟩,by simp only; omega,[.id 0,.id 1],by dsimp only; rw [e]; (exact zC)⟩
   ·rw [show sgW (fD op) n=32::pvW (fD op) n from if_neg z] at e
    have q1:=slen1 (pvW (fD op) n) (by omega)
    have q2:=slen t0 (xscat [32] (pvW (fD op) n)) (by show t0.length+(32::pvW (fD op) n).length≤_; simp only [List.length_cons]; omega)
    simp only [f1,pd,q1,q2,cat32]
    (refine zR ?_)
    exact⟨rfl,⟨4,by omega⟩,by simp only; omega,[.id 0,.id 1],by dsimp only; rw [e]; (exact zC)⟩
  ·show xcode _ _ _ _ _ (mkTm 41 (piT op (tx 4) 4)) _ _
   rw [pi_l4]
   exact⟨rfl,(),[.id 0,.id 1],by(exact zC)⟩
 refine SSp.last cxP_ok (n:=40) (mkS_le (Nat.zero_le _)) ?_
 rw [pi_z]
 exact⟨trivial,rfl,_,_,[],⟨rfl,rfl⟩,by(exact zC)⟩
end
end Go.Lev
