/- chapter 9: levels, in lists, and as objects: the row of levels of the code, and of the reference -/
import Derived.Test.YtopbikapcboigaaCW2
import Derived.Test.YtopbikapcboigaaLc
import Derived.Test.YtopbikapcboigaaChecked
import Derived.KernelRfl
namespace Go.Lev
set_option linter.unusedSimpArgs false
set_option linter.unusedVariables false
open Go.RowKit
open Go.Proofs.Try (prog)
set_option maxRecDepth 100000
noncomputable section
def decIi64:List LV→List Int
 | .int _ a::r=>a::decIi64 r
 | _=>[]
theorem decIi64_enc:∀ xs,decIi64 (encL (cI .i64) xs)=xs
 | []=>rfl
 | x::r=>by simp [encL,cI,decIi64,decIi64_enc r]
def okIi64 (cs:List LV) (n:Nat):Bool:=@decide (cs=encL (cI .i64) (decIi64 cs)∧(decIi64 cs).length=n∧n≤9223372036854775807) (Classical.propDecidable _)
theorem okIi64_iff {cs:List LV} {n:Nat}:okIi64 cs n=true↔∃ xs,cs=encL (cI .i64) xs∧xs.length=n∧n≤9223372036854775807:=by
 simp only [okIi64,decide_eq_true_eq]
 exact⟨fun h=>⟨_,h⟩,fun⟨xs,h1,h2⟩=>by subst h1; rw [decIi64_enc]; exact⟨rfl,h2⟩⟩
theorem okIi64_enc {xs:List Int} (h:xs.length≤9223372036854775807):okIi64 (encL (cI .i64) xs) xs.length=true:=okIi64_iff.2 ⟨_,rfl,rfl,h⟩
theorem encIi64_len (xs:List Int):(encL (cI .i64) xs).length=xs.length:=by rw [encL_length (cI_len .i64)]; omega
theorem encIi64_push (xs:List Int) (y:Int):xcat (xcut (encL (cI .i64) xs) 0 xs.length) [.int .i64 y]=encL (cI .i64) (xs++[y]):=by
 rw [xcut_all (by rw [encIi64_len]; omega),encL_append]; rfl
theorem encIi64_nth {xs:List Int} {i:Nat} (h:i < xs.length):nthD (encL (cI .i64) xs) i=.int .i64 xs[i]:=by
 have:=encL_nth (cI_len .i64) (j:=0) h (by omega)
 simp only [Nat.mul_one,Nat.add_zero] at this
 exact this
theorem noIds_Ii64 (xs:List Int):noIds (encL (cI .i64) xs)=true:=noIds_encL (fun _=>rfl) xs
abbrev Lv:=CL×List Int
def totC:List Lv→Nat
 | []=>0
 | x::r=>x.1.length+totC r
def totF:List Lv→Nat
 | []=>0
 | x::r=>x.2.length+totF r
def inK (x:CL):Prop:=∀ c∈x,1≤c.1∧c.1 < 256
theorem okC_e (xs:CL) (h:xs.length≤1000):okC (encL cell xs) xs.length=true:=okC_enc (by omega)
theorem le_e (xs:CL) (h:xs.length≤1000):xle xs.length 1000000=true:=t_le (by omega)
abbrev at1 {α : Type} (F:Nat→Nat→List LV→List LV→α) (x0:Lv) : α:=F x0.1.length x0.2.length (encL cell x0.1) (encL (cI .i64) x0.2)
abbrev at2 {α : Type} (F:Nat→Nat→Nat→Nat→List LV→List LV→List LV→List LV→α) (x0 x1:Lv) : α:=F x0.1.length x0.2.length x1.1.length x1.2.length (encL cell x0.1) (encL (cI .i64) x0.2) (encL cell x1.1) (encL (cI .i64) x1.2)
abbrev at3 {α : Type} (F:Nat→Nat→Nat→Nat→Nat→Nat→List LV→List LV→List LV→List LV→List LV→List LV→α) (x0 x1 x2:Lv) : α:=F x0.1.length x0.2.length x1.1.length x1.2.length x2.1.length x2.2.length (encL cell x0.1) (encL (cI .i64) x0.2) (encL cell x1.1) (encL (cI .i64) x1.2) (encL cell x2.1) (encL (cI .i64) x2.2)
abbrev at4 {α : Type} (F:Nat→Nat→Nat→Nat→Nat→Nat→Nat→Nat→List LV→List LV→List LV→List LV→List LV→List LV→List LV→List LV→α) (x0 x1 x2 x3:Lv) : α:=F x0.1.length x0.2.length x1.1.length x1.2.length x2.1.length x2.2.length x3.1.length x3.2.length (encL cell x0.1) (encL (cI .i64) x0.2) (encL cell x1.1) (encL (cI .i64) x1.2) (encL cell x2.1) (encL (cI .i64) x2.2) (encL cell x3.1) (encL (cI .i64) x3.2)
abbrev at5 {α : Type} (F:Nat→Nat→Nat→Nat→Nat→Nat→Nat→Nat→Nat→Nat→List LV→List LV→List LV→List LV→List LV→List LV→List LV→List LV→List LV→List LV→α) (x0 x1 x2 x3 x4:Lv) : α:=F x0.1.length x0.2.length x1.1.length x1.2.length x2.1.length x2.2.length x3.1.length x3.2.length x4.1.length x4.2.length (encL cell x0.1) (encL (cI .i64) x0.2) (encL cell x1.1) (encL (cI .i64) x1.2) (encL cell x2.1) (encL (cI .i64) x2.2) (encL cell x3.1) (encL (cI .i64) x3.2) (encL cell x4.1) (encL (cI .i64) x4.2)
abbrev at6 {α : Type} (F:Nat→Nat→Nat→Nat→Nat→Nat→Nat→Nat→Nat→Nat→Nat→Nat→List LV→List LV→List LV→List LV→List LV→List LV→List LV→List LV→List LV→List LV→List LV→List LV→α) (x0 x1 x2 x3 x4 x5:Lv) : α:=F x0.1.length x0.2.length x1.1.length x1.2.length x2.1.length x2.2.length x3.1.length x3.2.length x4.1.length x4.2.length x5.1.length x5.2.length (encL cell x0.1) (encL (cI .i64) x0.2) (encL cell x1.1) (encL (cI .i64) x1.2) (encL cell x2.1) (encL (cI .i64) x2.2) (encL cell x3.1) (encL (cI .i64) x3.2) (encL cell x4.1) (encL (cI .i64) x4.2) (encL cell x5.1) (encL (cI .i64) x5.2)
structure OkLs (ls:List Lv):Prop where
 ne:ls≠[]
 six:ls.length≤6
 uq:∀ x∈ls,uniq x.1∧inK x.1
 c:totC ls≤96
 f:totF ls≤100000
def getL:List Lv→Int→Option Int
 | [],_=>none
 | x::r,a=>match fndV x.1 a with | some v=>some v | none=>getL r a
def celL:List Lv→CL
 | []=>[]
 | x::r=>pls (celL r) x.1
def inm:List Lv→Lv
 | []=>([],[])
 | x::_=>x
def outs:List Lv→List Lv
 | []=>[]
 | _::r=>r
def encLv (x:Lv):LV:=.tup [.agg (encL cell x.1),.agg (encL (cI .i64) x.2)]
def decLv:LV→Lv
 | .tup [.agg a,.agg b]=>(decC a,decIi64 b)
 | _=>([],[])
def encLs (ls:List Lv):List LV:=ls.map encLv
def decLs (cs:List LV):List Lv:=cs.map decLv
theorem decLs_enc (ls:List Lv):decLs (encLs ls)=ls:=by
 simp only [decLs,encLs,List.map_map]
 conv=>rhs; rw [← List.map_id ls]
 refine List.map_congr_left fun x _=>?_
 simp [encLv,decLv,decC_enc,decIi64_enc]
theorem encLs_inj {a b:List Lv} (h:encLs a=encLs b):a=b:=by rw [← decLs_enc a,h,decLs_enc]
def ptrs (k:Nat):List Lv→List LV
 | []=>[]
 | _::r=>.ptr k 0::ptrs (k+4) r
def hidC (k:Nat):List Lv→List LB
 | []=>[]
 | x::r=>.cells [.ptr (k+1) 0,.slo (k+3) 0 x.2.length 0] none::.cells [.int .i64 96,.slo (k+2) 0 x.1.length 0] none::.cells (encL cell x.1) (some 2)::.cells (encL (cI .i64) x.2) (some 1)::hidC (k+4) r
def slos (k:Nat):List Lv→List LV
 | []=>[]
 | x::r=>.slo (k+1) 0 x.2.length 0::.slo k 0 x.1.length 0::slos (k+2) r
def hidR (k:Nat):List Lv→List LB
 | []=>[]
 | x::r=>.cells (encL cell x.1) (some 2)::.cells (encL (cI .i64) x.2) (some 1)::hidR (k+2) r
def lvK:Kd:={ σ:={ls:List Lv // OkLs ls},enc:=fun v=>encLs v.1,sh:=fun v _ k=>(.cells (ptrs k v.1).reverse (some 1),hidC k v.1) }
def orK:Kd:={ σ:={ls:List Lv // OkLs ls},enc:=fun v=>encLs v.1,sh:=fun v _ k=>(.cells (slos k v.1).reverse (some 2),hidR k v.1) }
theorem lws_app {ρ : Srcs}:∀ {a b c d:List LV},LVWs ρ a c→LVWs ρ b d→LVWs ρ (a++b) (c++d)
 | [],b,[],d,_,h=>h
 | x::a,b,y::c,d,h,k=>by simp only [LVWs] at h; simp only [List.cons_append,LVWs]; exact⟨h.1,lws_app h.2 k⟩
 | [],_,_::_,_,h,_=>by simp only [LVWs] at h
 | _::_,_,[],_,h,_=>by simp only [LVWs] at h
theorem lws_rev {ρ : Srcs}:∀ {a c:List LV},LVWs ρ a c→LVWs ρ a.reverse c.reverse
 | [],[],_=>lws_nil
 | x::a,y::c,h=>by simp only [LVWs] at h; simp only [List.reverse_cons]; exact lws_app (lws_rev h.2) (lws_cons h.1 lws_nil)
 | [],_::_,h=>by simp only [LVWs] at h
 | _::_,[],h=>by simp only [LVWs] at h
theorem hidC_len:∀ (ls:List Lv) (k:Nat),(hidC k ls).length=4 * ls.length
 | [],k=>rfl
 | x::r,k=>by simp only [hidC,List.length_cons,hidC_len r]; omega
theorem hidR_len:∀ (ls:List Lv) (k:Nat),(hidR k ls).length=2 * ls.length
 | [],k=>rfl
 | x::r,k=>by simp only [hidR,List.length_cons,hidR_len r]; omega
theorem hidC_re {ρ : Srcs}:∀ (ls:List Lv) (k k':Nat),(∀ i,i < 4 * ls.length→ρ (k+i)=some (.id (k'+i)))→blksOk ρ (hidC k ls) (hidC k' ls)∧LVWs ρ (ptrs k ls) (ptrs k' ls)
 | [],k,k',h=>⟨bk_nil,lws_nil⟩
 | x::r,k,k',h=>by
   simp only [List.length_cons] at h
   obtain⟨q1,q2⟩:=hidC_re r (k+4) (k'+4) fun i hi=>by
    have:=h (4+i) (by omega)
    rw [show k+(4+i)=k+4+i by omega,show k'+(4+i)=k'+4+i by omega] at this
    exact this
   have h0:=h 0 (by omega)
   have h1:=h 1 (by omega)
   have h2:=h 2 (by omega)
   have h3:=h 3 (by omega)
   exact⟨bk_cons (lb_cells (lws_cons (lw_ptr h1) (lws_cons (lw_slo h3) lws_nil)) (by simp)) (bk_cons (lb_cells (lws_cons lw_int (lws_cons (lw_slo h2) lws_nil)) (by simp)) (bk_cons (lb_same (noids_c _)) (bk_cons (lb_same (noIds_Ii64 _)) q1))),lws_cons (lw_ptr h0) q2⟩
theorem hidR_re {ρ : Srcs}:∀ (ls:List Lv) (k k':Nat),(∀ i,i < 2 * ls.length→ρ (k+i)=some (.id (k'+i)))→blksOk ρ (hidR k ls) (hidR k' ls)∧LVWs ρ (slos k ls) (slos k' ls)
 | [],k,k',h=>⟨bk_nil,lws_nil⟩
 | x::r,k,k',h=>by
   simp only [List.length_cons] at h
   obtain⟨q1,q2⟩:=hidR_re r (k+2) (k'+2) fun i hi=>by
    have:=h (2+i) (by omega)
    rw [show k+(2+i)=k+2+i by omega,show k'+(2+i)=k'+2+i by omega] at this
    exact this
   have h0:=h 0 (by omega)
   have h1:=h 1 (by omega)
   exact⟨bk_cons (lb_same (noids_c _)) (bk_cons (lb_same (noIds_Ii64 _)) q1),lws_cons (lw_slo h1) (lws_cons (lw_slo h0) q2)⟩
theorem any_ptrs:∀ (ls:List Lv) (k:Nat),LV.any ∉ ptrs k ls
 | [],k=>by simp [ptrs]
 | x::r,k=>by simp only [ptrs,List.mem_cons,not_or]; exact⟨fun h=>(by cases h),any_ptrs r _⟩
theorem any_slos:∀ (ls:List Lv) (k:Nat),LV.any ∉ slos k ls
 | [],k=>by simp [slos]
 | x::r,k=>by simp only [slos,List.mem_cons,not_or]; exact⟨fun h=>(by cases h),fun h=>(by cases h),any_slos r _⟩
theorem rev_ne {a:List LV} (h:a≠[]):∃ c cs,a.reverse=c::cs:=by
 cases hr:a.reverse with
 | nil=>exact absurd (by simpa using hr) h
 | cons c cs=>exact⟨c,cs,rfl⟩
theorem lvK_ok:lvK.Ok:=by
 refine⟨fun v b k b' k' ρ hb hρ=>?_,fun v b k=>?_⟩
 ·obtain⟨q1,q2⟩:=hidC_re v.1 k k' fun i hi=>hρ i (by show i < (hidC k v.1).length; rw [hidC_len]; exact hi)
  exact bk_cons (lb_cells (lws_rev q2) (by rw [List.mem_reverse]; exact any_ptrs _ _)) q1
 ·obtain⟨c,cs,e⟩:=rev_ne (a:=ptrs k v.1) (by
   obtain⟨ls,h⟩:=v
   cases ls with
   | nil=>exact absurd rfl h.ne
   | cons x r=>simp [ptrs])
  exact⟨c,cs,some 1,by show LB.cells _ _=_; rw [e]⟩
theorem orK_ok:orK.Ok:=by
 refine⟨fun v b k b' k' ρ hb hρ=>?_,fun v b k=>?_⟩
 ·obtain⟨q1,q2⟩:=hidR_re v.1 k k' fun i hi=>hρ i (by show i < (hidR k v.1).length; rw [hidR_len]; exact hi)
  exact bk_cons (lb_cells (lws_rev q2) (by rw [List.mem_reverse]; exact any_slos _ _)) q1
 ·obtain⟨c,cs,e⟩:=rev_ne (a:=slos k v.1) (by
   obtain⟨ls,h⟩:=v
   cases ls with
   | nil=>exact absurd rfl h.ne
   | cons x r=>simp [slos])
  exact⟨c,cs,some 2,by show LB.cells _ _=_; rw [e]⟩
def lvF:OP:=lvK.F
def orF:OP:=orK.F
def okR (most:Int) (cs:List LV) (d:Nat):Bool:=@decide (∃ ls:List Lv,cs=encLs ls∧d=ls.length∧OkLs ls∧(totC ls:Int)≤most∧most≤96) (Classical.propDecidable _)
theorem okR_iff {most:Int} {cs:List LV} {d:Nat}:okR most cs d=true↔∃ ls:List Lv,cs=encLs ls∧d=ls.length∧OkLs ls∧(totC ls:Int)≤most∧most≤96:=by simp only [okR,decide_eq_true_eq]
theorem Ls.cases {ls:List Lv} (h:OkLs ls) {p:Prop} (h1:∀ a,ls=[a]→p) (h2:∀ a b,ls=[a,b]→p) (h3:∀ a b c,ls=[a,b,c]→p) (h4:∀ a b c d,ls=[a,b,c,d]→p) (h5:∀ a b c d e,ls=[a,b,c,d,e]→p) (h6:∀ a b c d e f,ls=[a,b,c,d,e,f]→p):p:=by
 have:=h.six
 match ls,h with
 | [],h=>exact absurd rfl h.ne
 | [a],_=>exact h1 a rfl
 | [a,b],_=>exact h2 a b rfl
 | [a,b,c],_=>exact h3 a b c rfl
 | [a,b,c,d],_=>exact h4 a b c d rfl
 | [a,b,c,d,e],_=>exact h5 a b c d e rfl
 | [a,b,c,d,e,f],_=>exact h6 a b c d e f rfl
 | _::_::_::_::_::_::_::_,_=>simp at this
def lvU (most:Int) (ls:List Lv) (A:List LB):List LB:=.cells [.int .i64 most,.slo 1 0 ls.length 0] none::.cells (ptrs (A.length+3) ls).reverse (some 1)::.dead::A++hidC (A.length+3) ls
def orU (most:Int) (ls:List Lv) (A:List LB):List LB:=.cells [.int .i64 most,.slo 1 0 ls.length 0] none::.cells (slos (A.length+3) ls).reverse (some 2)::.dead::A++hidR (A.length+3) ls
theorem blksOk_app {ρ : Srcs}:∀ {a c b d:List LB},blksOk ρ a c→blksOk ρ b d→blksOk ρ (a++b) (c++d)
 | [],[],b,d,_,h=>h
 | x::a,y::c,b,d,h,k=>by simp only [blksOk] at h; exact bk_cons h.1 (blksOk_app h.2 k)
 | [],_::_,_,_,h,_=>by simp only [blksOk] at h
 | _::_,[],_,_,h,_=>by simp only [blksOk] at h
abbrev Own3 (A:List LB):Prop:=∀ ρ : Srcs,(∀ t,t < A.length+3→ρ t=some (.id t))→blksOk ρ A A
theorem lvU_self (most:Int) (ls:List Lv) {A:List LB} (hA:Own3 A):∀ ρ : Srcs,(∀ t,t < (lvU most ls A).length→ρ t=some (.id t))→blksOk ρ (lvU most ls A) (lvU most ls A):=fun ρ h=>by
 have hl:(lvU most ls A).length=A.length+3+4 * ls.length:=by simp only [lvU,List.length_cons,List.length_append,List.cons_append,hidC_len]; omega
 obtain⟨q1,q2⟩:=hidC_re (ρ:=ρ) ls (A.length+3) (A.length+3) fun i hi=>h _ (by omega)
 exact bk_cons (lb_cells (lws_cons lw_int (lws_cons (lw_slo (h 1 (by omega))) lws_nil)) (by simp)) (bk_cons (lb_cells (lws_rev q2) (by rw [List.mem_reverse]; exact any_ptrs _ _)) (bk_cons lb_dead (blksOk_app (hA ρ fun t ht=>h t (by omega)) q1)))
theorem orU_self (most:Int) (ls:List Lv) {A:List LB} (hA:Own3 A):∀ ρ : Srcs,(∀ t,t < (orU most ls A).length→ρ t=some (.id t))→blksOk ρ (orU most ls A) (orU most ls A):=fun ρ h=>by
 have hl:(orU most ls A).length=A.length+3+2 * ls.length:=by simp only [orU,List.length_cons,List.length_append,List.cons_append,hidR_len]; omega
 obtain⟨q1,q2⟩:=hidR_re (ρ:=ρ) ls (A.length+3) (A.length+3) fun i hi=>h _ (by omega)
 exact bk_cons (lb_cells (lws_cons lw_int (lws_cons (lw_slo (h 1 (by omega))) lws_nil)) (by simp)) (bk_cons (lb_cells (lws_rev q2) (by rw [List.mem_reverse]; exact any_slos _ _)) (bk_cons lb_dead (blksOk_app (hA ρ fun t ht=>h t (by omega)) q1)))
abbrev lvB (most:Int) (d:Nat) (A:List LB):List LB:=.cells [.int .i64 most,.slo 1 0 d 0] none::.dead::.dead::A
abbrev lvS (most:Int) (d:Nat) (cs:List LV) (A:List LB):List LB:=.cells [.int .i64 most,.slo 1 0 d 0] none::.obj lvF cs 2::.dead::A
abbrev orS (most:Int) (d:Nat) (cs:List LV) (A:List LB):List LB:=.cells [.int .i64 most,.slo 1 0 d 0] none::.obj orF cs 2::.dead::A
abbrev lvS' (most:Int) (d:Nat) (cs:List LV) (A:List LB):List LB:=.cells [.int .i64 most,.slo 1 0 d 0] none::.obj lvF cs (A.length+3)::.dead::A++[.dead]
abbrev orS' (most:Int) (d:Nat) (cs:List LV) (A:List LB):List LB:=.cells [.int .i64 most,.slo 1 0 d 0] none::.obj orF cs (A.length+3)::.dead::A++[.dead]
theorem lvB_cl (most:Int) (d:Nat) {A:List LB} (hA:Own3 A) {l:LV} (hl:noId l=true):∀ ρ : Srcs,(∀ t,t < (lvB most d A).length→ρ t=some (.id t))→blksOk ρ ((lvB most d A).set 1 .dead) ((lvB most d A).set 1 .dead)∧LVW ρ l l:=fun ρ h =>
 ⟨bk_cons (lb_cells (lws_cons lw_int (lws_cons (lw_slo (h 1 (by simp))) lws_nil)) (by simp)) (bk_cons lb_dead (bk_cons lb_dead (hA ρ fun t ht=>h t (by simpa using ht)))),lw_noid hl⟩
def lvQ (most:Int) (ls:List Lv) (A:List LB) (l:LV):LV→List LB→Prop:=fun l1 b=>l1=l∧OkLs ls∧b=lvU most ls A
def orQ (most:Int) (ls:List Lv) (A:List LB) (l:LV):LV→List LB→Prop:=fun l1 b=>l1=l∧OkLs ls∧b=orU most ls A
theorem lv_meth {f nt:Nat} {L ts:List Nat} {args:List LV} {most:Int} {ls ls':List Lv} {A A':List LB} {l:LV} (hf:fnOk prog f nt ts args.length=true) (ht:(initTm args 0 .leaf).isSome=true) (hin:allIn ts L=true) (hs:Nat.blt 0 (sp prog f).length=true)
  (hA:Own3 A') (hn:A.length≤A'.length) (hl:∀ ρ : Srcs,(∀ t,t < A'.length+3→ρ t=some (.id t))→LVW ρ l l)
  (h:OkLs ls→SSp prog nt ((sp prog f).drop 0) (A.length+3) (tm0 args) (mkS (lvU most ls A)) (vK L (endK (A.length+3) ts L [] (lvQ most ls' A' l)))) :
  SFun prog f args (mkS (lvS most ls.length (encLs ls) A)) fun l1 t=>l1=l∧t=mkS (lvS' most ls'.length (encLs ls') A'):=by
 have key:=SFun.shut (P:=prog) (f:=f) (args:=args) (K:=lvK) (bs:=lvS most ls.length (encLs ls) A) (B:=lvB most ls'.length A') (cs:=encLs ls') (l:=l) (g:=[]) lvK_ok 1 (by simp only [lvS,lvB,List.length_cons]; omega) (by simp) (fun ρ h=>⟨(lvB_cl most _ hA (l:=.nilp) rfl ρ h).1,hl ρ fun t ht=>h t (by simpa using ht)⟩) ?_
 ·exact key
 refine SFun.pieces (Q:=fun l1 b=>l1=l∧∃ v:lvK.σ,lvK.enc v=encLs ls'∧b=(lvB most ls'.length A').set 1 (lvK.sh v 1 (lvB most ls'.length A').length).1++(lvK.sh v 1 (lvB most ls'.length A').length).2) nt (A.length+3) L ts hf rfl ht hin ?_
 refine SSp.unpack lvK_ok 1 hs (Nat.le_refl _) rfl fun⟨ls1,h1⟩ e=>?_
 obtain rfl:ls1=ls:=encLs_inj e
 exact endK_mono (fun l1 b ⟨q1,q2,q3⟩=>⟨q1,⟨_,q2⟩,rfl,q3⟩) (h h1)
theorem or_meth {f nt:Nat} {L ts:List Nat} {args:List LV} {most:Int} {ls ls':List Lv} {A A':List LB} {l:LV} (hf:fnOk prog f nt ts args.length=true) (ht:(initTm args 0 .leaf).isSome=true) (hin:allIn ts L=true) (hs:Nat.blt 0 (sp prog f).length=true)
  (hA:Own3 A') (hn:A.length≤A'.length) (hl:∀ ρ : Srcs,(∀ t,t < A'.length+3→ρ t=some (.id t))→LVW ρ l l)
  (h:OkLs ls→SSp prog nt ((sp prog f).drop 0) (A.length+3) (tm0 args) (mkS (orU most ls A)) (vK L (endK (A.length+3) ts L [] (orQ most ls' A' l)))) :
  SFun prog f args (mkS (orS most ls.length (encLs ls) A)) fun l1 t=>l1=l∧t=mkS (orS' most ls'.length (encLs ls') A'):=by
 have key:=SFun.shut (P:=prog) (f:=f) (args:=args) (K:=orK) (bs:=orS most ls.length (encLs ls) A) (B:=lvB most ls'.length A') (cs:=encLs ls') (l:=l) (g:=[]) orK_ok 1 (by simp only [orS,lvB,List.length_cons]; omega) (by simp) (fun ρ h=>⟨(lvB_cl most _ hA (l:=.nilp) rfl ρ h).1,hl ρ fun t ht=>h t (by simpa using ht)⟩) ?_
 ·exact key
 refine SFun.pieces (Q:=fun l1 b=>l1=l∧∃ v:orK.σ,orK.enc v=encLs ls'∧b=(lvB most ls'.length A').set 1 (orK.sh v 1 (lvB most ls'.length A').length).1++(orK.sh v 1 (lvB most ls'.length A').length).2) nt (A.length+3) L ts hf rfl ht hin ?_
 refine SSp.unpack orK_ok 1 hs (Nat.le_refl _) rfl fun⟨ls1,h1⟩ e=>?_
 obtain rfl:ls1=ls:=encLs_inj e
 exact endK_mono (fun l1 b ⟨q1,q2,q3⟩=>⟨q1,⟨_,q2⟩,rfl,q3⟩) (h h1)
theorem lv_end {ts L:List Nat} {vs:List LV} {x:LX} {most:Int} {ls:List Lv} {A:List LB} {l:LV} (h:OkLs ls) (hx:isEnd x) (hA:Own3 A) (hl:noId l=true) (e:l=oneOrTup (ts.map (valAt L vs))):endK (A.length+3) ts L [] (lvQ most ls A l) x vs (somes (lvU most ls A)) [] :=
 ⟨hx,rfl,l,_,_,⟨rfl,h,rfl⟩,by rw [← e]; exact conv_self (by simp only [lvU,List.length_cons,List.length_append,List.cons_append]; omega) hl (lvU_self most ls hA)⟩
theorem or_end {ts L:List Nat} {vs:List LV} {x:LX} {most:Int} {ls:List Lv} {A:List LB} {l:LV} (h:OkLs ls) (hx:isEnd x) (hA:Own3 A) (hl:noId l=true) (e:l=oneOrTup (ts.map (valAt L vs))):endK (A.length+3) ts L [] (orQ most ls A l) x vs (somes (orU most ls A)) [] :=
 ⟨hx,rfl,l,_,_,⟨rfl,h,rfl⟩,by rw [← e]; exact conv_self (by simp only [orU,List.length_cons,List.length_append,List.cons_append]; omega) hl (orU_self most ls hA)⟩
theorem own3_nil:Own3 []:=fun ρ _=>bk_nil
end
end Go.Lev
