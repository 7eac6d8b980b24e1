/- ArenaParts (P11.2 to P11.4): for any size of heap and any asks the law returns true; what was there stays as it was. No condition. -/
import Derived.Test.YtopbikapcboigaaCQ9
import Derived.Test.YtopbikapcboigaaLc
import Derived.Test.YtopbikapcboigaaChecked
import Derived.KernelRfl
import Derived.Test.YtopbikapcboigaaLc
namespace Go.Lev
set_option linter.unusedSimpArgs false
set_option linter.unusedVariables false
open Go.RowKit
open Go.Proofs.Try (prog)
set_option maxRecDepth 100000
noncomputable section
structure AqR where
 k:Int
 a:Int
 q:Bool
abbrev aqE (x:AqR):List LV:=[.int .i64 x.k,.int .i64 x.a,.bool x.q]
theorem aqE_len (x:AqR):(aqE x).length=3:=rfl
theorem aq_0 {xs:List AqR} {i:Nat} (h:i < xs.length):nthD (encL aqE xs) (i * 3)=.int .i64 xs[i].k:=encL_nth aqE_len (j:=0) h (by omega)
theorem aq_1 {xs:List AqR} {i:Nat} (h:i < xs.length):nthD (encL aqE xs) (i * 3+1)=.int .i64 xs[i].a:=encL_nth aqE_len (j:=1) h (by omega)
theorem aq_n (xs:List AqR):(encL aqE xs).length=xs.length * 3:=encL_length aqE_len xs
theorem aq_noids (xs:List AqR):noIds (encL aqE xs)=true:=noIds_encL (fun _=>rfl) xs
def aq_bd (x:AqR):Prop:=(IntKind.i64.min≤x.k∧x.k≤IntKind.i64.max)∧(IntKind.i64.min≤x.a∧x.a≤IntKind.i64.max)
theorem aq_row {H:Type} {enc:TypeId×Value→H} {W:World} {a:Option Addr} {len cap:Nat} {d:DataW H} {ps:List MemPlace} (h:DataW.Trod enc prog W 0 (fun _=>true) true 34 (.slice a len cap) d ps) :
  ∃ xs:List AqR,xs.length=len∧len≤9223372036854775807∧(∀ x∈xs,aq_bd x)∧RowArg W (.slice a len cap) len (encL aqE xs):=by
 obtain⟨xs,q1,q2,q3,q4⟩:=row_arg (f:=aqE) (ok:=aq_bd) aqE_len (by omega) Go.Proofs.Try.underlying34 (by kernel_rfl) h fun cs n x hl hx=>by
  have hf:=fl_ok 8 (l:=[(0,.int .i64),(1,.int .i64),(2,.bool)]) (by kernel_rfl) hx
  obtain⟨_,e0,z0,rfl,b0⟩:=hf (0,.int .i64) (by simp)
  obtain⟨_,e1,z1,rfl,b1⟩:=hf (1,.int .i64) (by simp)
  obtain⟨_,e2,z2,rfl⟩:=hf (2,.bool) (by simp)
  refine⟨⟨z0,z1,z2⟩,⟨b0,b1⟩,fun i l hi=>?_⟩
  match i with
  | 0=>simp at hi; subst hi; exact⟨rfl,_,e0,by simp only [VR]⟩
  | 1=>simp at hi; subst hi; exact⟨rfl,_,e1,by simp only [VR]⟩
  | 2=>simp at hi; subst hi; exact⟨rfl,_,e2,by simp only [VR]⟩
  | i+3=>simp at hi
 exact⟨xs,q1,q2,q3,q4⟩
theorem runs11:isTrue (lrun prog 4000 3 [])=true:=by kernel_rfl
theorem cxap_ok:CtrOk prog (ctrOf cxap):=cxl_ok ⟨runG_ok runs11,frsG_ok,whO_ok,withinG_ok,alG_ok,frG_ok,gvG_ok,lcellsG_ok,raG_ok,parG_ok,trivial⟩
theorem eNew:([.tup [.agg [],.agg []]]:List LV)=l1 [] []:=rfl
def inR (x:Int):Prop:=0≤x∧x≤18446744073709551615
def vrC (c:CL):Prop:=∀ x∈c,inR x.2
theorem vrC_pl:∀ {p:CL} {x:Int×Int},vrC p→inR x.2→vrC (pl p x)
 | [],x,_,h=>fun y hy=>by simp [pl] at hy; subst hy; exact h
 | c::r,x,hp,h=>by
   rw [pl]; split
   ·intro y hy
    rcases List.mem_cons.1 hy with rfl | hy
    ·exact h
    ·exact hp y (by simp [hy])
   ·intro y hy
    rcases List.mem_cons.1 hy with rfl | hy
    ·exact hp _ (by simp)
    ·exact vrC_pl (fun z hz=>hp z (by simp [hz])) h y hy
theorem inU_ap:∀ (p:CL) {l:List Int},inU l→vrC p→inU (apN l p)
 | [],l,h,_=>h
 | c::r,l,h,k=>by
   show inU (apN (ap1 l c) r)
   refine inU_ap r ?_ fun x hx=>k x (by simp [hx])
   unfold ap1; split
   ·intro u hu
    rcases List.mem_or_eq_of_mem_set hu with hu | rfl
    ·exact h u hu
    ·exact k c (by simp)
   ·exact h
theorem inU_nxt {us:List Int} {p:CL} (h:inU us) (k:vrC p):inU (nxt us p):=by
 refine inU_ap p (fun u hu=>?_) k
 simp only [hw0,List.mem_map] at hu
 obtain⟨i,_,rfl⟩:=hu
 split
 ·omega
 ·exact inU_get h i
theorem nxg {us:List Int} {p:CL} (h:32≤us.length) (h2:us.length≤256) (hu:uniq p) {i:Nat} (hi1:1≤i) (hi:i < us.length):(nxt us p).getD i 0=gt us p i:=nxt_get h h2 hu hi hi1
theorem g0 (us:List Int) (i:Nat):gt us [] (i:Int)=us.getD i 0:=rfl
theorem lvf {us:List Int} {p:CL} (fr:List Int) (hu:uniq p) (hk:inK p) (hp:p.length≤96) (hf:fr.length≤1000):okR 96 (l1 p fr) 1=true∧lcN (l1 p fr)=p.length∧lcC (l1 p fr)=encL cell p∧okC (encL cell p) p.length=true∧apC (encL (cI .u64) us) (encL cell p)=encL (cI .u64) (nxt us p) :=
 ⟨okR_1 hu hk (by omega) (by omega) hf,by rw [lcN,decLs_enc,cel_1 hu],by rw [lcC,decLs_enc,cel_1 hu],okC_enc (by omega),by rw [apC,decIu64_enc,decC_enc]; rfl⟩
theorem uq1 (c:Int×Int):uniq (pl [] c):=uniq_pl trivial
theorem uqb (c d:Int×Int):uniq (pls [] [c,d]):=uniq_pls _ trivial
theorem k1 {a x:Int} (h:1≤a∧a < 256):inK (pl [] (a,x)):=inK_pls (xs:=[]) [(a,x)] (fun x hx=>(by cases hx)) fun y hy=>by simp at hy; subst hy; exact h
theorem k2 {a x b y:Int} (h:1≤a∧a < 256) (k:1≤b∧b < 256):inK (pls [] [(a,x),(b,y)]):=inK_pls _ (fun x hx=>by cases hx) fun z hz=>by
 simp only [List.mem_cons,List.not_mem_nil,or_false] at hz
 rcases hz with rfl | rfl
 ·exact h
 ·exact k
theorem gp1 (us:List Int) (a x b:Int):gt us (pl [] (a,x)) b=if a=b then x else gt us [] b:=gt_pl us [] a x b
theorem gp2 (us:List Int) (a x b y c:Int):gt us (pls [] [(a,x),(b,y)]) c=if b=c then y else if a=c then x else gt us [] c:=by
 show gt us (pl (pl [] (a,x)) (b,y)) c=_
 rw [gt_pl,gt_pl]
theorem set_J (xs:List Int) (i:Nat) (y:Int) (h:i < xs.length):xlay (encL (cI .i64) xs) i [.int .i64 y]=encL (cI .i64) (xs.set i y):=by
 have e:=encL_set (cI_len .i64) xs i y h
 rw [Nat.mul_one] at e; exact e
theorem clsJ {s:Int} (h:1≤s∧s≤16):1≤clsW s∧clsW s≤4:=by unfold clsW; split <;> (try split) <;> (try split) <;> (try split) <;> (try split) <;> omega
theorem frs_gt {k i:Nat} (h:5 < k):(frsL k).getD i 0=if i=5 then 14 else 0:=by
 rw [frsL,set_gt (by simpa using h)]
 have:(List.replicate k (0:Int)).getD i 0=0:=by simp only [List.getD_eq_getElem?_getD,List.getElem?_replicate]; split <;> rfl
 rw [this]
 by_cases e:i=5
 ·subst e; rfl
 ·rw [if_neg (by omega),if_neg e]
theorem pi_new {k:Nat} (h1:32≤k) (h2:k≤256):PI (frsL k) (List.replicate 257 0) 14 [] (fun _=>[]):=by
 have l:(frsL k).length=k:=by simp [frsL]
 refine⟨by omega,by omega,by simp,by rw [frs_gt (by omega)]; rfl,by omega,rfl,fun q c h=>(by cases h),fun x hx=>?_,fun c h1 h2=>?_,fun c x _ _ h=>(by cases h),fun c _ _=>List.nodup_nil,fun i i1 i2 _=>?_⟩
 ·exact absurd (by simp only [List.getD_eq_getElem?_getD,List.getElem?_replicate]; split <;> rfl) hx
 ·show(frsL k).getD c 0=0
  rw [frs_gt (by omega),if_neg (by omega)]
 ·rw [frs_gt (by omega),if_neg (by omega)]; exact .inl rfl
theorem inU_frs (k:Nat):inU (frsL k):=fun u hu=>by
 rcases List.mem_or_eq_of_mem_set hu with hu | rfl
 ·rw [List.eq_of_mem_replicate hu]; omega
 ·omega
abbrev ApP (ws st:List Int):Prop:=inU ws∧∃ e cs R,PI ws st e cs R
abbrev ApS (sz:Nat):Type:={q:Nat×List Int×List Int // q.1≤60∧q.2.1.length=sz∧ApP q.2.1 q.2.2}
theorem ap_same {ws st:List Int} (h:ApP ws st):ApP (nxt ws []) st:=by
 obtain⟨hu,e,cs,R,I⟩:=h
 exact⟨inU_nxt hu fun x hx=>(by cases hx),e,cs,R,I.same (nxt_len _ I.n1 I.n2) fun i h1 h2=>by rw [nxg (p:=[]) I.n1 I.n2 trivial h1 h2]; rfl⟩
theorem ap_free {ws st:List Int} (h:ApP ws st) {b:Nat} (hs:st.getD b 0=1):∃ c:Nat,1≤c∧c≤4∧15≤b∧b < ws.length - 1∧ws.getD (b - 1) 0=(c:Int)+8∧ApP (nxt ws (pl [] ((b:Int) - 1,(c:Int)+8 - 8))) (st.set b 2):=by
 obtain⟨hu,e,cs,R,I⟩:=h
 obtain⟨q,c,hq,rfl,hw⟩:=I.live hs
 have hb:=I.bd hq; have el:=I.el
 refine⟨c,by omega,by omega,by omega,by omega,by simpa using hw,inU_nxt hu (vrC_pl (p:=[]) (fun x hx=>(by cases hx)) (by simp only [inR]; omega)),e,cs,R,I.free hq hw (nxt_len _ I.n1 I.n2) fun i h1 h2=>?_⟩
 rw [nxg I.n1 I.n2 (uq1 _) h1 h2,gp1,g0]
 by_cases k:i=q
 ·rw [if_pos (by omega),if_pos k]; omega
 ·rw [if_neg (by omega),if_neg k]
theorem ap_give {ws st:List Int} (h:ApP ws st) {b:Nat} (hs:st.getD b 0=2):∃ c:Nat,1≤c∧c≤4∧15≤b∧b < ws.length - 1∧ws.getD (b - 1) 0=(c:Int)∧ApP (nxt ws (pls [] [((b:Int),gt ws [] (c:Int)),((c:Int),(b:Int))])) (st.set b 3):=by
 obtain⟨hu,e,cs,R,I⟩:=h
 obtain⟨q,c,hq,rfl,hw⟩:=I.rest hs
 have hb:=I.bd hq; have el:=I.el; have n2:=I.n2
 have hg:=inU_get hu c
 refine⟨c,by omega,by omega,by omega,by omega,by simpa using hw,inU_nxt hu (vrC_pl (vrC_pl (p:=[]) (fun x hx=>(by cases hx)) (by rw [g0]; exact hg)) (by simp only [inR]; omega)),e,cs,_,I.give hq hs (nxt_len _ I.n1 I.n2) fun i h1 h2=>?_⟩
 rw [nxg I.n1 I.n2 (uqb _ _) h1 h2,gp2,g0,g0]
 by_cases k:i=c
 ·rw [if_pos (by omega),if_pos k]
 ·rw [if_neg (by omega),if_neg k]
  by_cases k':i=q+1
  ·rw [if_pos (by omega),if_pos k']
  ·rw [if_neg (by omega),if_neg k']
theorem ap_pop {ws st:List Int} (h:ApP ws st) {c:Nat} (c1:1≤c) (c2:c≤4) (hf:ws.getD c 0≠0):∃ f:Nat,ws.getD c 0=(f:Int)∧15≤f∧f < ws.length - 1∧st.getD f 0=3∧ApP (nxt ws (pls [] [((c:Int),gt ws [] (f:Int)),((f:Int) - 1,(c:Int)+8)])) (st.set f 1):=by
 obtain⟨hu,e,cs,R,I⟩:=h
 obtain⟨q,r,hq,hR,hw,h3⟩:=I.first c1 c2 hf
 have hb:=I.bd hq; have el:=I.el; have n2:=I.n2
 have hg:=inU_get hu (q+1)
 refine⟨q+1,hw,by omega,by omega,h3,inU_nxt hu (vrC_pl (vrC_pl (p:=[]) (fun x hx=>(by cases hx)) (by rw [g0]; exact hg)) (by simp only [inR]; omega)),e,cs,_,I.pop hq hR (nxt_len _ I.n1 I.n2) fun i h1 h2=>?_⟩
 rw [nxg I.n1 I.n2 (uqb _ _) h1 h2,gp2,g0,g0]
 by_cases k:i=c
 ·rw [if_neg (by omega),if_pos (by omega),if_pos k]
 ·rw [if_neg k]
  by_cases k':i=q
  ·rw [if_pos (by omega),if_pos k']
  ·rw [if_neg (by omega),if_neg (by omega),if_neg k']
theorem ap_bump {ws st:List Int} (h:ApP ws st) {c:Nat} (c1:1≤c) (c2:c≤4):∃ e:Nat,ws.getD 5 0=(e:Int)∧14≤e∧e≤ws.length∧(e+1+2 ^ c≤ws.length→st.getD (e+1) 0=0∧ApP (nxt ws (pls [] [(5,(e:Int)+1+szW (c:Int)),((e:Int),(c:Int)+8)])) (st.set (e+1) 1)):=by
 obtain⟨hu,e,cs,R,I⟩:=h
 have he:14≤e:=I.pt.le; have n2:=I.n2; have hp:=pw_b c1 c2
 refine⟨e,I.e5,he,I.el,fun hr=>⟨I.unused,inU_nxt hu (vrC_pl (vrC_pl (p:=[]) (fun x hx=>(by cases hx)) (by rw [szW_c c1 c2]; simp only [inR]; omega)) (by simp only [inR]; omega)),_,_,_,I.bump c1 c2 hr (nxt_len _ I.n1 I.n2) fun i h1 h2=>?_⟩⟩
 rw [nxg I.n1 I.n2 (uqb _ _) h1 h2,gp2,g0,szW_c c1 c2]
 by_cases k:i=e
 ·rw [if_pos (by omega),if_neg (by omega),if_pos k]
 ·rw [if_neg (by omega),if_neg k]
  by_cases k':i=5
  ·rw [if_pos (by omega),if_pos k']; omega
  ·rw [if_neg (by omega),if_neg k']
end
end Go.Lev
