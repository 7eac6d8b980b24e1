/- chapter 10: a view, in lists: Know and Read, of the code and of the reference -/
import Derived.Test.YtopbikapcboigaaCW23
import Derived.Test.YtopbikapcboigaaCW13
import Derived.Test.YtopbikapcboigaaLc
import Derived.Test.YtopbikapcboigaaChecked
import Derived.KernelRfl
namespace Go.Lev
set_option linter.unusedSimpArgs false
set_option linter.unusedVariables false
open Go.RowKit
open Go.Proofs.Try (prog)
set_option maxRecDepth 100000
noncomputable section
def eqL (a b:List LV):Bool:=@decide (a=b) (Classical.propDecidable _)
theorem eqL_self (a:List LV):eqL a a=true:=by simp [eqL]
theorem eqL_eq {a b:List LV} (h:eqL a b=true):a=b:=by simpa [eqL] using h
def inV (sz:Nat) (a:Int):Prop:=1≤a∧a < sz
instance (sz:Nat) (a:Int):Decidable (inV sz a):=inferInstanceAs (Decidable (_∧_))
def knE (sz:Nat) (ks:CL) (a x:Int):Int:=if inV sz a then(match fndV ks a with | some w=>if w=x then 0 else 14 | none=>0) else 2
def knC (sz:Nat) (ks:CL) (a x:Int):CL:=if inV sz a∧fndV ks a=none then ks++[(a,x)] else ks
def spL (sz:Nat) (ks:CL):List Int:=(List.range sz).map fun(a:Nat)=>fnd ks (a:Int)+1
def rdV (sz:Nat) (ks:CL) (ls:List Lv) (a:Int):Int:=if inV sz a then(match getL ls a with | some v=>v | none=>fV ks a) else 0
def rdE (sz:Nat) (ks:CL) (ls:List Lv) (a:Int):Int:=if inV sz a then(if(getL ls a).isSome∨(fndV ks a).isSome then 0 else 11) else 2
def rdD (sz:Nat) (ks:CL) (ls:List Lv) (a nd:Int):Int:=if rdE sz ks ls a=11 then a else nd
structure OkK (sz:Nat) (ks:CL):Prop where
 n:ks.length≤90000
 s:sz≤256
def okK (sz n:Nat) (kc:List LV):Bool:=@decide (∃ ks:CL,kc=encL cell ks∧n=ks.length∧OkK sz ks) (Classical.propDecidable _)
theorem okK_iff {sz n:Nat} {kc:List LV}:okK sz n kc=true↔∃ ks:CL,kc=encL cell ks∧n=ks.length∧OkK sz ks:=by simp only [okK,decide_eq_true_eq]
theorem okK_enc {sz:Nat} {ks:CL} (h:OkK sz ks):okK sz ks.length (encL cell ks)=true:=okK_iff.2 ⟨ks,rfl,rfl,h⟩
def spW (sz:Nat) (kc:List LV):List LV:=encL (cI .i64) (spL sz (decC kc))
def knEW (sz:Nat) (kc:List LV) (a x:Int):Int:=knE sz (decC kc) a x
def knNW (sz:Nat) (kc:List LV) (a x:Int):Nat:=(knC sz (decC kc) a x).length
def knCW (sz:Nat) (kc:List LV) (a x:Int):List LV:=encL cell (knC sz (decC kc) a x)
def rdVW (sz:Nat) (kc cs:List LV) (a:Int):Int:=rdV sz (decC kc) (decLs cs) a
def rdEW (sz:Nat) (kc cs:List LV) (a:Int):Int:=rdE sz (decC kc) (decLs cs) a
def rdDW (sz:Nat) (kc cs:List LV) (a nd:Int):Int:=rdD sz (decC kc) (decLs cs) a nd
theorem spL_len (sz:Nat) (ks:CL):(spL sz ks).length=sz:=by simp [spL]
theorem spL_nth {sz:Nat} {ks:CL} {p:Nat} (h:p < sz):nthD (encL (cI .i64) (spL sz ks)) p=.int .i64 (fnd ks (p:Int)+1):=by
 rw [encIi64_nth (by rw [spL_len]; exact h)]; simp [spL]
theorem spL_n (sz:Nat) (ks:CL):(encL (cI .i64) (spL sz ks)).length=sz:=by rw [encIi64_len,spL_len]
theorem fnd_push {ks:CL} {p:Int} (x:Int) (hn:fndV ks p=none) (b:Int):fnd (ks++[(p,x)]) b=if b=p then(ks.length:Int) else fnd ks b:=by
 have hp:fnd ks p = -1:=by
  rcases fnd_cases ks p with⟨i,hi,h1,h2,h3,_⟩ | ⟨h2,_,_⟩
  ·rw [hn] at h3; cases h3
  ·exact h2
 by_cases c:b=p
 ·subst c
  rw [if_pos rfl]
  unfold fnd at hp ⊢
  rw [List.findIdx?_append]
  cases h:ks.findIdx? (fun x=>x.1 == b) with
  | some i=>rw [h] at hp; simp at hp
  | none=>simp [List.findIdx?_cons]
 ·rw [if_neg c]
  unfold fnd
  rw [List.findIdx?_append]
  cases h:ks.findIdx? (fun x=>x.1 == b) with
  | some i=>simp
  | none=>simp [List.findIdx?_cons,Ne.symm c]
theorem spL_push {sz:Nat} {ks:CL} {p:Nat} (x:Int) (h:p < sz) (hn:fndV ks (p:Int)=none):(spL sz ks).set p (ks.length+1:Int)=spL sz (ks++[((p:Int),x)]):=by
 refine List.ext_getElem (by simp [spL]) fun i h1 h2=>?_
 rw [List.getElem_set]
 simp only [spL,List.getElem_map,List.getElem_range,fnd_push x hn]
 by_cases c:p=i
 ·subst c; simp
 ·rw [if_neg c,if_neg (by omega)]
abbrev vwH (sz n:Nat) (kc sc:List LV) (nd most:Int) (d:Nat) (cs:List LV):List LB:=[.cells [.slo 1 0 n 0,.slo 2 0 sz 0,.int .i64 nd,.ptr 3 0] none,.cells kc (some 2),.cells sc (some 1),.cells [.int .i64 most,.slo 4 0 d 0] none,.obj lvF cs 5,.dead]
def cxv1:Cx:=cxl [(70,lgetG),(94,ogetG),(67,placeG)]
abbrev vwI (sz n:Nat) (kc sc:List LV) (nd most:Int) (d:Nat) (cs:List LV):List LB:=[.cells [.slo 6 0 n 0,.slo 2 0 sz 0,.int .i64 nd,.ptr 3 0] none,.dead,.cells sc (some 1),.cells [.int .i64 most,.slo 4 0 d 0] none,.obj lvF cs 5,.dead,.cells kc (some 2)]
abbrev vwJ (sz n:Nat) (kc sc:List LV) (nd most:Int) (d:Nat) (cs:List LV):List LB:=[.cells [.slo 1 0 n 0,.slo 2 0 sz 0,.int .i64 nd,.ptr 3 0] none,.cells kc (some 2),.cells sc (some 1),.cells [.int .i64 most,.slo 4 0 d 0] none,.obj lvF cs 6,.dead,.dead]
abbrev kn_x_b1 (sz:Nat) (n:Nat) (nd:Int) (most:Int) (d:Nat) (kc:List LV) (sc:List LV) (cs:List LV):List (Option LB):=[sN [.slo 1 0 n 0,.slo 2 0 sz 0,.int .i64 nd,.ptr 3 0],sC kc 2,sC sc 1,sN [.int .i64 most,.slo 4 0 d 0],some (.obj lvF cs 5),sD]
theorem kn_x (sz n:Nat) (a x nd most:Int) (d:Nat) (kc sc cs:List LV) (K:Fk):(xfun prog cxv1 60 27 [.ptr 0 0,.int .i64 a,.int .u64 x] (mkS (vwH sz n kc sc nd most d cs)) (vF K))=(
 bif xcm .geq a 1 then(
 bif xnot (xcm .lss a ↑sz) then(
 K (.int .i64 2) (kn_x_b1 sz n nd most d kc sc cs) [])
 else(
 ck (xnn a) <|
 ck (xle (xadd (xnat a) 1) sz) <|
 ck (xle (xadd (xix 0 (xnat a) 1) 1) (xln sc)) <|
 ck (isI .i64 (nthD sc (xix 0 (xnat a) 1))) <|
 bif xcm .gtr (asI (nthD sc (xix 0 (xnat a) 1))) 0 then(
 ck (xnn (xar .sub .i64 (asI (nthD sc (xix 0 (xnat a) 1))) 1)) <|
 ck (xle (xadd (xnat (xar .sub .i64 (asI (nthD sc (xix 0 (xnat a) 1))) 1)) 1) n) <|
 ck (xle (xadd (xadd (xix 0 (xnat (xar .sub .i64 (asI (nthD sc (xix 0 (xnat a) 1))) 1)) 2) 1) 1) (xln kc)) <|
 ck (isI .u64 (nthD kc (xadd (xix 0 (xnat (xar .sub .i64 (asI (nthD sc (xix 0 (xnat a) 1))) 1)) 2) 1))) <|
 bif xcm .neq (asI (nthD kc (xadd (xix 0 (xnat (xar .sub .i64 (asI (nthD sc (xix 0 (xnat a) 1))) 1)) 2) 1))) x then(
 K (.int .i64 14) (kn_x_b1 sz n nd most d kc sc cs) [])
 else(
 K (.int .i64 0) (kn_x_b1 sz n nd most d kc sc cs) []))
 else(
 ck (xle (xadd n 1) 1000000) <|
 ck (xle (xadd 0 (xmul n 2)) (xln kc)) <|
 ck (xnn a) <|
 ck (xle (xadd (xnat a) 1) sz) <|
 ck (xle (xadd (xix 0 (xnat a) 1) 1) (xln sc)) <|
 K (.int .i64 0) [sN [.slo 7 0 (xadd n 1) 0,.slo 2 0 sz 0,.int .i64 nd,.ptr 3 0],sD,sC (xlay sc (xix 0 (xnat a) 1) [.int .i64 ↑(xadd n 1)]) 1,sN [.int .i64 most,.slo 4 0 d 0],some (.obj lvF cs 5),sD,sN [.int .i64 a,.int .u64 x],sC (xcat (xcut kc 0 (xmul n 2)) [.int .i64 a,.int .u64 x]) 2] [])))
 else(
 K (.int .i64 2) (kn_x_b1 sz n nd most d kc sc cs) [])):=by kernel_rfl
abbrev rd_x_b1 (sz:Nat) (n:Nat) (nd:Int) (most:Int) (d:Nat) (kc:List LV) (sc:List LV) (cs:List LV):List (Option LB):=[sN [.slo 1 0 n 0,.slo 2 0 sz 0,.int .i64 nd,.ptr 3 0],sC kc 2,sC sc 1,sN [.int .i64 most,.slo 4 0 d 0],some (.obj lvF cs 6),sD,sD]
abbrev rd_x_b2 (sz:Nat) (n:Nat) (nd:Int) (most:Int) (d:Nat) (kc:List LV) (sc:List LV) (cs:List LV):List (Option LB):=[sN [.slo 1 0 n 0,.slo 2 0 sz 0,.int .i64 nd,.ptr 3 0],sC kc 2,sC sc 1,sN [.int .i64 most,.slo 4 0 d 0],some (.obj lvF cs 5),sD]
theorem rd_x (sz n:Nat) (a nd most:Int) (d:Nat) (kc sc cs:List LV) (K:Fk):(xfun prog cxv1 60 40 [.ptr 0 0,.int .i64 a] (mkS (vwH sz n kc sc nd most d cs)) (vF K))=(
 bif xcm .geq a 1 then(
 bif xnot (xcm .lss a ↑sz) then(
 K (.tup [.int .u64 0,.int .i64 2]) (rd_x_b2 sz n nd most d kc sc cs) [])
 else(
 ck (okR most cs d) <|
 ck (isF lvF lvF) <|
 bif lgB cs a then(
 K (.tup [.int .u64 (lgV cs a),.int .i64 0]) (rd_x_b1 sz n nd most d kc sc cs) [])
 else(
 ck (xnn a) <|
 ck (xle (xadd (xnat a) 1) sz) <|
 ck (xle (xadd (xix 0 (xnat a) 1) 1) (xln sc)) <|
 ck (isI .i64 (nthD sc (xix 0 (xnat a) 1))) <|
 bif xcm .gtr (asI (nthD sc (xix 0 (xnat a) 1))) 0 then(
 ck (xnn (xar .sub .i64 (asI (nthD sc (xix 0 (xnat a) 1))) 1)) <|
 ck (xle (xadd (xnat (xar .sub .i64 (asI (nthD sc (xix 0 (xnat a) 1))) 1)) 1) n) <|
 ck (xle (xadd (xadd (xix 0 (xnat (xar .sub .i64 (asI (nthD sc (xix 0 (xnat a) 1))) 1)) 2) 1) 1) (xln kc)) <|
 ck (isI .u64 (nthD kc (xadd (xix 0 (xnat (xar .sub .i64 (asI (nthD sc (xix 0 (xnat a) 1))) 1)) 2) 1))) <|
 K (.tup [.int .u64 (asI (nthD kc (xadd (xix 0 (xnat (xar .sub .i64 (asI (nthD sc (xix 0 (xnat a) 1))) 1)) 2) 1))),.int .i64 0]) (rd_x_b1 sz n nd most d kc sc cs) [])
 else(
 K (.tup [.int .u64 0,.int .i64 11]) [sN [.slo 1 0 n 0,.slo 2 0 sz 0,.int .i64 a,.ptr 3 0],sC kc 2,sC sc 1,sN [.int .i64 most,.slo 4 0 d 0],some (.obj lvF cs 6),sD,sD] []))))
 else(
 K (.tup [.int .u64 0,.int .i64 2]) (rd_x_b2 sz n nd most d kc sc cs) [])):=by kernel_rfl
end
end Go.Lev
