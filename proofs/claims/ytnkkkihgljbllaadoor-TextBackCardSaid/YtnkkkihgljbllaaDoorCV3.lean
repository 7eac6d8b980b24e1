/- text: a text cut into lines of words, as lists; split -/
import Derived.Test.YtnkkkihgljbllaaDoorCV1
import Derived.Test.YtnkkkihgljbllaaDoorLc
import Derived.Test.YtnkkkihgljbllaaDoorChecked
import Derived.KernelRfl
namespace Go.Lev
set_option linter.unusedSimpArgs false
set_option linter.unusedVariables false
open Go.RowKit
open Go.Proofs.Tryd (prog)
set_option maxRecDepth 100000
noncomputable section
abbrev Wd:=List UInt8×Int
abbrev wdC (x:Wd):List LV:=[.str x.1,.int .i64 x.2]
structure LnS where
 ws:List Wd
 e:Int
structure LnV where
 v:Value
 s:LnS
abbrev lnC (x:LnV):List LV:=[.val x.v,.int .i64 x.s.e]
theorem wdC_len (x:Wd):(wdC x).length=2:=rfl
theorem lnC_len (x:LnV):(lnC x).length=2:=rfl
theorem wd_n (xs:List Wd):(encL wdC xs).length=xs.length * 2:=encL_length wdC_len xs
theorem ln_n (xs:List LnV):(encL lnC xs).length=xs.length * 2:=encL_length lnC_len xs
theorem noids_wd (xs:List Wd):noIds (encL wdC xs)=true:=noIds_encL (fun _=>rfl) xs
theorem noids_ln (xs:List LnV):noIds (encL lnC xs)=true:=noIds_encL (fun _=>rfl) xs
theorem wd_push (xs:List Wd) (a:List UInt8) (z:Int):xcat (xcut (encL wdC xs) 0 (xs.length * 2)) [.str a,.int .i64 z]=encL wdC (xs++[(a,z)]):=by
 rw [xcut_all (by rw [wd_n]; omega),encL_append]; rfl
theorem can_wd (xs:List Wd):(encL wdC xs).all lvCan=true:=by
 induction xs with
 | nil=>rfl
 | cons x r ih=>rw [encL,List.all_append,ih]; rfl
theorem can_ln (xs:List LnV):(encL lnC xs).all lvCan=true:=by
 induction xs with
 | nil=>rfl
 | cons x r ih=>rw [encL,List.all_append,ih]; rfl
structure SpS where
 ws:List Wd
 e:Int
 c:Int
 s:Int
 f:Int
 m:Bool
def spW (t:List UInt8) (S:SpS) (i:Nat):List Wd:=if S.s = -1 then S.ws else S.ws++[(xscut t (xnat S.s) i,S.f)]
def spL (t:List UInt8) (S:SpS) (i:Nat):LnS:=if S.m then⟨S.ws,S.e⟩ else⟨spW t S i,S.c⟩
def spN (S:SpS):SpS:=⟨[],0,1,-1,S.f,false⟩
def spR (t:List UInt8) (S:SpS) (i:Nat) (r:Int):SpS :=
 if S.m then { S with c:=S.c+1 }
 else if r=59 then⟨spW t S i,S.c,S.c+1,-1,S.f,true⟩
 else if r=32∨r=9 then⟨spW t S i,S.e,S.c+1,-1,S.f,false⟩
 else if S.s = -1 then⟨S.ws,S.e,S.c+1,i,S.c,false⟩
 else { S with c:=S.c+1 }
def spG (t:List UInt8) (p:Nat) (S:SpS):List LnS :=
 if h:p < t.length then
  if xrn t p=10 then spL t S p::spG t (p+xrw t p) (spN S) else spG t (p+xrw t p) (spR t S p (xrn t p))
 else if 1 < S.c then [spL t S t.length] else []
termination_by t.length - p
decreasing_by all_goals (have:=rn_w h; omega)
def spZ:SpS:=⟨[],0,1,-1,0,false⟩
def spA (t:List UInt8):List LnS:=spG t 0 spZ
structure SpOk (t:List UInt8) (p:Nat) (S:SpS):Prop where
 ht:t.length≤4000
 hp:p≤t.length
 hc:1≤S.c∧S.c≤p+1
 hf:0≤S.f∧S.f≤p+1
 hs:S.s = -1∨0≤S.s∧S.s≤p
 hw:S.ws.length≤p
theorem spW_len {t:List UInt8} {S:SpS} {i:Nat}:(spW t S i).length≤S.ws.length+1:=by unfold spW; split <;> simp
theorem SpOk.next {t:List UInt8} {p:Nat} {S:SpS} (h:SpOk t p S) (hp:p < t.length) (r:Int):SpOk t (p+xrw t p) (spR t S p r):=by
 have hw:=rn_w hp
 obtain⟨h1,h2,h3,h4,h5,h6⟩:=h
 have hl:=spW_len (t:=t) (S:=S) (i:=p)
 unfold spR
 split
 ·exact⟨h1,hw.2,⟨by first | exact .inl rfl | (simp only; omega) | (exact .inl trivial) | (dsimp only; omega),by first | exact .inl rfl | (simp only; omega) | (exact .inl trivial) | (dsimp only; omega)⟩,⟨by first | exact .inl rfl | (simp only; omega) | (exact .inl trivial) | (dsimp only; omega),by first | exact .inl rfl | (simp only; omega) | (exact .inl trivial) | (dsimp only; omega)⟩,by first | exact .inl rfl | (simp only; omega) | (exact .inl trivial) | (dsimp only; omega),by first | exact .inl rfl | (simp only; omega) | (exact .inl trivial) | (dsimp only; omega)⟩
 ·split
  ·exact⟨h1,hw.2,⟨by first | exact .inl rfl | (simp only; omega) | (exact .inl trivial) | (dsimp only; omega),by first | exact .inl rfl | (simp only; omega) | (exact .inl trivial) | (dsimp only; omega)⟩,⟨by first | exact .inl rfl | (simp only; omega) | (exact .inl trivial) | (dsimp only; omega),by first | exact .inl rfl | (simp only; omega) | (exact .inl trivial) | (dsimp only; omega)⟩,by first | exact .inl rfl | (simp only; omega) | (exact .inl trivial) | (dsimp only; omega),by first | exact .inl rfl | (simp only; omega) | (exact .inl trivial) | (dsimp only; omega)⟩
  ·split
   ·exact⟨h1,hw.2,⟨by first | exact .inl rfl | (simp only; omega) | (exact .inl trivial) | (dsimp only; omega),by first | exact .inl rfl | (simp only; omega) | (exact .inl trivial) | (dsimp only; omega)⟩,⟨by first | exact .inl rfl | (simp only; omega) | (exact .inl trivial) | (dsimp only; omega),by first | exact .inl rfl | (simp only; omega) | (exact .inl trivial) | (dsimp only; omega)⟩,by first | exact .inl rfl | (simp only; omega) | (exact .inl trivial) | (dsimp only; omega),by first | exact .inl rfl | (simp only; omega) | (exact .inl trivial) | (dsimp only; omega)⟩
   ·split
    ·exact⟨h1,hw.2,⟨by first | exact .inl rfl | (simp only; omega) | (exact .inl trivial) | (dsimp only; omega),by first | exact .inl rfl | (simp only; omega) | (exact .inl trivial) | (dsimp only; omega)⟩,⟨by first | exact .inl rfl | (simp only; omega) | (exact .inl trivial) | (dsimp only; omega),by first | exact .inl rfl | (simp only; omega) | (exact .inl trivial) | (dsimp only; omega)⟩,by first | exact .inl rfl | (simp only; omega) | (exact .inl trivial) | (dsimp only; omega),by first | exact .inl rfl | (simp only; omega) | (exact .inl trivial) | (dsimp only; omega)⟩
    ·exact⟨h1,hw.2,⟨by first | exact .inl rfl | (simp only; omega) | (exact .inl trivial) | (dsimp only; omega),by first | exact .inl rfl | (simp only; omega) | (exact .inl trivial) | (dsimp only; omega)⟩,⟨by first | exact .inl rfl | (simp only; omega) | (exact .inl trivial) | (dsimp only; omega),by first | exact .inl rfl | (simp only; omega) | (exact .inl trivial) | (dsimp only; omega)⟩,by first | exact .inl rfl | (simp only; omega) | (exact .inl trivial) | (dsimp only; omega),by first | exact .inl rfl | (simp only; omega) | (exact .inl trivial) | (dsimp only; omega)⟩
theorem SpOk.line {t:List UInt8} {p:Nat} {S:SpS} (h:SpOk t p S) (hp:p < t.length):SpOk t (p+xrw t p) (spN S):=by
 have hw:=rn_w hp
 obtain⟨h1,h2,h3,h4,h5,h6⟩:=h
 exact⟨h1,hw.2,⟨by simp only [spN]; omega,by simp only [spN]; omega⟩,⟨by simp only [spN]; omega,by simp only [spN]; omega⟩,.inl rfl,by simp [spN]⟩
theorem SpOk.zero {t:List UInt8} (h:t.length≤4000):SpOk t 0 spZ:=⟨h,by omega,⟨by simp [spZ],by simp [spZ]⟩,⟨by simp [spZ],by simp [spZ]⟩,.inl rfl,by simp [spZ]⟩
structure StL (q:SQ) (ls:List LnV):Prop where
 c:∀ W,q.F W→∀ x∈ls,RowArg W x.v x.s.ws.length (encL wdC x.s.ws)
theorem StL.push {q q':SQ} {ls:List LnV} {v:Value} {L:LnS} {n:Nat} {cs:List LV} (h:StL q ls) (hn:n=L.ws.length) (hc:cs=encL wdC L.ws) (hq:q'.F=fun W=>q.F W∧RowArg W v n cs):StL q' (ls++[⟨v,L⟩]):=by
 subst hn hc
 refine⟨fun W hW x hx=>?_⟩
 rw [hq] at hW
 rcases List.mem_append.1 hx with hx | hx
 ·exact h.c W hW.1 x hx
 ·rw [List.mem_singleton.1 hx]; exact hW.2
theorem StL.nil:StL stNil []:=⟨fun _ _ x hx=>by simp at hx⟩
theorem ln_at (ls:List LnV) (a b:LV):(encL lnC ls++[a,b])[ls.length * 2]? = some a:=by
 rw [List.getElem?_append_right (by rw [ln_n]; omega),ln_n]; simp
theorem ln_set (ls:List LnV) (a:LV) (v:Value) (L:LnS):(encL lnC ls++[a,.int .i64 L.e]).set (ls.length * 2) (.val v)=encL lnC (ls++[⟨v,L⟩]):=by
 rw [List.set_append_right _ _ (by rw [ln_n]; omega),ln_n,encL_append]; simp [encL]
theorem lws_self {ρ : Srcs}:∀ {cs:List LV},noIds cs=true→LVWs ρ cs cs
 | [],_=>lws_nil
 | c::cs,h=>by
   have h':=noIds_mem.1 h
   exact lws_cons (lw_noid (h' c (by simp))) (lws_self (noIds_mem.2 fun x hx=>h' x (by simp [hx])))
theorem lws_app {ρ : Srcs}:∀ {a a' b b':List LV},LVWs ρ a a'→LVWs ρ b b'→LVWs ρ (a++b) (a'++b')
 | [],[],b,b',_,k=>k
 | x::a,y::a',b,b',h,k=>by simp only [LVWs] at h; exact lws_cons h.1 (lws_app h.2 k)
 | [],_::_,b,b',h,k=>by simp only [LVWs] at h
 | _::_,[],b,b',h,k=>by simp only [LVWs] at h
theorem lb_tail {ρ : Srcs} {c:Nat} {cs tl tl':List LV} {op:Option Nat} (hno:noIds cs=true) (h:LVWs ρ tl tl') (k:LV.any ∉ tl):LBW ρ (.id c) (.cells (cs++tl) op) (some (.cells (cs++tl') op)) :=
 lb_cells (lws_app (lws_self hno) h) fun hm=>(List.mem_append.1 hm).elim (fun h=>noId_any hno h) k
structure LpX (t:List UInt8) where
 q:SQ
 ls:List LnV
 S:SpS
 pd:Option LnS
 p:Nat
 hS:StL q ls
 hO:SpOk t p S
 hl:ls.length+pd.toList.length≤p
 hR:ls.map LnV.s++(pd.toList++spG t p S)=spA t
 hP:∀ L,pd=some L→S=spN S
structure FnX (t:List UInt8) where
 q:SQ
 ls:List LnV
 S:SpS
 pd:Option LnS
 hS:StL q ls
 hR:ls.map LnV.s++pd.toList=spA t
abbrev lpG (t:List UInt8) (o:LB) (ls:List LnV) (S:SpS) (p:Nat) (pd:Option LnS):List LB:=match pd with
 | none=>snH t ls.length S.ws.length S.e S.c S.s S.f S.m (encL lnC ls) (encL wdC S.ws) p o
 | some L=>snP t (ls.length+1) L.ws.length S.f (encL lnC ls++[.slo 2 0 L.ws.length 0,.int .i64 L.e]) (encL wdC L.ws) p o
theorem ln_cat (ls:List LnV) (tl:List LV):xcat (xcut (encL lnC ls) 0 (ls.length * 2)) tl=encL lnC ls++tl:=by
 rw [xcut_all (by rw [ln_n]; omega)]; rfl
set_option maxHeartbeats 4000000 in
theorem sn_round (t:List UInt8) (o:LB) (ls:List LnV) (S:SpS) (p:Nat) (ho:o=.dead∨∃ F,o=.obj stF [.fact F] 5) (hO:SpOk t p S) (hl:ls.length≤p) (hp:p < t.length) (K:Pk)
  (hK:∀ (S':SpS) (pd:Option LnS) (ρ : List Src) (vs:List LV) (bs:List (Option LB)),spG t p S=pd.toList++spG t (p+xrw t p) S'→SpOk t (p+xrw t p) S'→(∀ L,pd=some L→S'=spN S')→convOk 0 34 slL vs bs ρ (snT t) (lpG t o ls S' (p+xrw t p) pd)→K .normal vs bs []) :
  xsp prog snX 60 34 ((spineL (loopOf (nthC (sp prog 46) 4))).drop 2) (mkTm 34 (snT1 t p (xrn t p))) (mkS (lpG t o ls S (p+xrw t p) none) []) (vK slL K):=by
 obtain⟨ws,e,c,s,f,m⟩:=S
 have nl:=noids_ln ls; have nw:=noids_wd ws
 have lnn:=ln_n ls; have wnn:=wd_n ws
 have wp:=wd_push ws
 have lcat:=ln_cat ls
 have z1:xle (ls.length+1) 1000000=true:=t_le (by have:=hO.ht; omega)
 have z2:xle (ls.length * 2) (ls.length * 2)=true:=t_le (Nat.le_refl _)
 have z3:xeq ls.length ls.length=true:=t_eq rfl
 have hw:=rn_w hp
 have hO1:=hO.line hp
 have hO2:=hO.next hp (xrn t p)
 have e1:xar .add .i64 c 1=c+1:=by have:=hO.hc; have:=hO.ht; dsimp only at *; exact add_i64 (by show _≤c+1; omega) (by show c+1≤_; omega)
 dsimp only [lpG]
 rw [sn_b]; simp only [sn_b_b1,sn_b_b2]
 by_cases r1:xrn t p=10
 ·have y1:xcm .eql (xrn t p) 10=true:=t_eql r1
  have hG:spG t p ⟨ws,e,c,s,f,m⟩=[spL t ⟨ws,e,c,s,f,m⟩ p]++spG t (p+xrw t p) ⟨[],0,1,-1,f,false⟩:=by rw [spG,dif_pos hp,if_pos r1]; rfl
  rcases ho with rfl | ⟨F,rfl⟩
  ·cases m with
   | true =>
     have hR : [spL t ⟨ws,e,c,s,f,true⟩ p]=[⟨ws,e⟩]:=by simp [spL]
     have y2:xnot true=false:=rfl
     simp only [y1,y2,z1,z2,z3,wnn,lnn,lcat,wd_mul,wd_add,wd_ln,Nat.zero_add,cond_true,cond_false]
     refine hK ⟨[],0,1,-1,f,false⟩ (some ⟨ws,e⟩) [.id 0,.id 7,.id 2,.id 3,.id 4,.id 5] _ _ (by rw [hG,hR]; first | done | rfl) hO1 (fun _ _=>rfl) ?_
     (refine⟨by kernel_rfl,?_,?_⟩ <;> repeat first | exact okTms_nil | refine okTms_cons ?_ ?_ | exact okBlks_nil | refine okBlks_cons ?_ ?_ | exact lws_nil | refine lws_cons ?_ ?_ | exact lb_dead | exact lb_iter | exact lb_same (by assumption) | exact lb_obj rfl | refine lb_tail (by assumption) ?_ (by simp) | refine lb_cells ?_ (by simp) | exact lw_noid rfl | exact lw_ptr rfl | exact lw_slo rfl)
   | false =>
     have y2:xnot false=true:=rfl
     by_cases hs:s = -1
     ·have hR : [spL t ⟨ws,e,c,s,f,false⟩ p]=[⟨ws,c⟩]:=by simp [spL,spW,hs]
      have y3:xcm .neq s (-1)=false:=f_neq hs
      simp only [y1,y2,y3,z1,z2,z3,wnn,lnn,lcat,wd_mul,wd_add,wd_ln,Nat.zero_add,cond_true,cond_false]
      refine hK ⟨[],0,1,-1,f,false⟩ (some ⟨ws,c⟩) [.id 0,.id 7,.id 2,.id 3,.id 4,.id 5] _ _ (by rw [hG,hR]; first | done | rfl) hO1 (fun _ _=>rfl) ?_
      (refine⟨by kernel_rfl,?_,?_⟩ <;> repeat first | exact okTms_nil | refine okTms_cons ?_ ?_ | exact okBlks_nil | refine okBlks_cons ?_ ?_ | exact lws_nil | refine lws_cons ?_ ?_ | exact lb_dead | exact lb_iter | exact lb_same (by assumption) | exact lb_obj rfl | refine lb_tail (by assumption) ?_ (by simp) | refine lb_cells ?_ (by simp) | exact lw_noid rfl | exact lw_ptr rfl | exact lw_slo rfl)
     ·have hR : [spL t ⟨ws,e,c,s,f,false⟩ p]=[⟨ws++[(xscut t (xnat s) p,f)],c⟩]:=by simp [spL,spW,hs]
      have y3:xcm .neq s (-1)=true:=t_neq hs
      have x1:xnn s=true:=xnn_iff.2 (by have:=hO.hs; dsimp only at this; omega)
      have x2:xle (xnat s) p=true:=t_le (by have:=hO.hs; dsimp only at this; unfold xnat; omega)
      have x3:xle p (xsln t)=true:=t_le (show p≤t.length by omega)
      have x4:xle (ws.length+1) 1000000=true:=t_le (by have:=hO.hw; have:=hO.ht; dsimp only at *; omega)
      have x5:xle (ws.length * 2) (ws.length * 2)=true:=t_le (Nat.le_refl _)
      have x6:xeq ws.length ws.length=true:=t_eq rfl
      simp only [y1,y2,y3,z1,z2,z3,x1,x2,x3,x4,x5,x6,wnn,lnn,lcat,wd_mul,wd_add,wd_ln,Nat.zero_add,cond_true,cond_false]
      have wp1:=wp (xscut t (xnat s) p) f
      have nw1:=noids_wd (ws++[(xscut t (xnat s) p,f)])
      have lw1:(ws++[(xscut t (xnat s) p,f)]).length=ws.length+1:=by simp
      refine hK ⟨[],0,1,-1,f,false⟩ (some ⟨ws++[(xscut t (xnat s) p,f)],c⟩) [.id 0,.id 9,.id 7,.id 3,.id 4,.id 5] _ _ (by rw [hG,hR]; first | done | rfl) hO1 (fun _ _=>rfl) ?_
      dsimp only [lpG]
      rw [lw1,← wp1]
      rw [← wp1] at nw1
      (refine⟨by kernel_rfl,?_,?_⟩ <;> repeat first | exact okTms_nil | refine okTms_cons ?_ ?_ | exact okBlks_nil | refine okBlks_cons ?_ ?_ | exact lws_nil | refine lws_cons ?_ ?_ | exact lb_dead | exact lb_iter | exact lb_same (by assumption) | exact lb_obj rfl | refine lb_tail (by assumption) ?_ (by simp) | refine lb_cells ?_ (by simp) | exact lw_noid rfl | exact lw_ptr rfl | exact lw_slo rfl)
  ·cases m with
   | true =>
     have hR : [spL t ⟨ws,e,c,s,f,true⟩ p]=[⟨ws,e⟩]:=by simp [spL]
     have y2:xnot true=false:=rfl
     simp only [y1,y2,z1,z2,z3,wnn,lnn,lcat,wd_mul,wd_add,wd_ln,Nat.zero_add,cond_true,cond_false]
     refine hK ⟨[],0,1,-1,f,false⟩ (some ⟨ws,e⟩) [.id 0,.id 7,.id 2,.id 3,.id 4,.id 5] _ _ (by rw [hG,hR]; first | done | rfl) hO1 (fun _ _=>rfl) ?_
     (refine⟨by kernel_rfl,?_,?_⟩ <;> repeat first | exact okTms_nil | refine okTms_cons ?_ ?_ | exact okBlks_nil | refine okBlks_cons ?_ ?_ | exact lws_nil | refine lws_cons ?_ ?_ | exact lb_dead | exact lb_iter | exact lb_same (by assumption) | exact lb_obj rfl | refine lb_tail (by assumption) ?_ (by simp) | refine lb_cells ?_ (by simp) | exact lw_noid rfl | exact lw_ptr rfl | exact lw_slo rfl)
   | false =>
     have y2:xnot false=true:=rfl
     by_cases hs:s = -1
     ·have hR : [spL t ⟨ws,e,c,s,f,false⟩ p]=[⟨ws,c⟩]:=by simp [spL,spW,hs]
      have y3:xcm .neq s (-1)=false:=f_neq hs
      simp only [y1,y2,y3,z1,z2,z3,wnn,lnn,lcat,wd_mul,wd_add,wd_ln,Nat.zero_add,cond_true,cond_false]
      refine hK ⟨[],0,1,-1,f,false⟩ (some ⟨ws,c⟩) [.id 0,.id 7,.id 2,.id 3,.id 4,.id 5] _ _ (by rw [hG,hR]; first | done | rfl) hO1 (fun _ _=>rfl) ?_
      (refine⟨by kernel_rfl,?_,?_⟩ <;> repeat first | exact okTms_nil | refine okTms_cons ?_ ?_ | exact okBlks_nil | refine okBlks_cons ?_ ?_ | exact lws_nil | refine lws_cons ?_ ?_ | exact lb_dead | exact lb_iter | exact lb_same (by assumption) | exact lb_obj rfl | refine lb_tail (by assumption) ?_ (by simp) | refine lb_cells ?_ (by simp) | exact lw_noid rfl | exact lw_ptr rfl | exact lw_slo rfl)
     ·have hR : [spL t ⟨ws,e,c,s,f,false⟩ p]=[⟨ws++[(xscut t (xnat s) p,f)],c⟩]:=by simp [spL,spW,hs]
      have y3:xcm .neq s (-1)=true:=t_neq hs
      have x1:xnn s=true:=xnn_iff.2 (by have:=hO.hs; dsimp only at this; omega)
      have x2:xle (xnat s) p=true:=t_le (by have:=hO.hs; dsimp only at this; unfold xnat; omega)
      have x3:xle p (xsln t)=true:=t_le (show p≤t.length by omega)
      have x4:xle (ws.length+1) 1000000=true:=t_le (by have:=hO.hw; have:=hO.ht; dsimp only at *; omega)
      have x5:xle (ws.length * 2) (ws.length * 2)=true:=t_le (Nat.le_refl _)
      have x6:xeq ws.length ws.length=true:=t_eq rfl
      simp only [y1,y2,y3,z1,z2,z3,x1,x2,x3,x4,x5,x6,wnn,lnn,lcat,wd_mul,wd_add,wd_ln,Nat.zero_add,cond_true,cond_false]
      have wp1:=wp (xscut t (xnat s) p) f
      have nw1:=noids_wd (ws++[(xscut t (xnat s) p,f)])
      have lw1:(ws++[(xscut t (xnat s) p,f)]).length=ws.length+1:=by simp
      refine hK ⟨[],0,1,-1,f,false⟩ (some ⟨ws++[(xscut t (xnat s) p,f)],c⟩) [.id 0,.id 9,.id 7,.id 3,.id 4,.id 5] _ _ (by rw [hG,hR]; first | done | rfl) hO1 (fun _ _=>rfl) ?_
      dsimp only [lpG]
      rw [lw1,← wp1]
      rw [← wp1] at nw1
      (refine⟨by kernel_rfl,?_,?_⟩ <;> repeat first | exact okTms_nil | refine okTms_cons ?_ ?_ | exact okBlks_nil | refine okBlks_cons ?_ ?_ | exact lws_nil | refine lws_cons ?_ ?_ | exact lb_dead | exact lb_iter | exact lb_same (by assumption) | exact lb_obj rfl | refine lb_tail (by assumption) ?_ (by simp) | refine lb_cells ?_ (by simp) | exact lw_noid rfl | exact lw_ptr rfl | exact lw_slo rfl)
 ·have y1:xcm .eql (xrn t p) 10=false:=f_eql r1
  have hR:spG t p ⟨ws,e,c,s,f,m⟩=spG t (p+xrw t p) (spR t ⟨ws,e,c,s,f,m⟩ p (xrn t p)):=by rw [spG,dif_pos hp,if_neg r1]
  rcases ho with rfl | ⟨F,rfl⟩
  ·cases m with
   | true =>
     simp only [y1,e1,cond_true,cond_false]
     have eS:spR t ⟨ws,e,c,s,f,true⟩ p (xrn t p)=⟨ws,e,c+1,s,f,true⟩:=by simp [spR,spW]
     refine hK ⟨ws,e,c+1,s,f,true⟩ none [.id 0,.id 1,.id 2,.id 3,.id 4,.id 5] _ _ (by rw [hR,← eS]; rfl) (by rw [← eS]; exact hO2) (fun _ h=>by cases h) ?_
     (refine⟨by kernel_rfl,?_,?_⟩ <;> repeat first | exact okTms_nil | refine okTms_cons ?_ ?_ | exact okBlks_nil | refine okBlks_cons ?_ ?_ | exact lws_nil | refine lws_cons ?_ ?_ | exact lb_dead | exact lb_iter | exact lb_same (by assumption) | exact lb_obj rfl | refine lb_tail (by assumption) ?_ (by simp) | refine lb_cells ?_ (by simp) | exact lw_noid rfl | exact lw_ptr rfl | exact lw_slo rfl)
   | false =>
     by_cases r2:xrn t p=59
     ·have y2:xcm .eql (xrn t p) 59=true:=t_eql r2
      by_cases hs:s = -1
      ·subst hs
       have y3:xcm .neq (-1) (-1)=false:=f_neq rfl
       simp only [y1,y2,y3,e1,cond_true,cond_false]
       have eS:spR t ⟨ws,e,c,-1,f,false⟩ p (xrn t p)=⟨ws,c,c+1,-1,f,true⟩:=by simp [spR,spW,r2]
       refine hK ⟨ws,c,c+1,-1,f,true⟩ none [.id 0,.id 1,.id 2,.id 3,.id 4,.id 5] _ _ (by rw [hR,← eS]; rfl) (by rw [← eS]; exact hO2) (fun _ h=>by cases h) ?_
       (refine⟨by kernel_rfl,?_,?_⟩ <;> repeat first | exact okTms_nil | refine okTms_cons ?_ ?_ | exact okBlks_nil | refine okBlks_cons ?_ ?_ | exact lws_nil | refine lws_cons ?_ ?_ | exact lb_dead | exact lb_iter | exact lb_same (by assumption) | exact lb_obj rfl | refine lb_tail (by assumption) ?_ (by simp) | refine lb_cells ?_ (by simp) | exact lw_noid rfl | exact lw_ptr rfl | exact lw_slo rfl)
      ·have y3:xcm .neq s (-1)=true:=t_neq hs
       have x1:xnn s=true:=xnn_iff.2 (by have:=hO.hs; dsimp only at this; omega)
       have x2:xle (xnat s) p=true:=t_le (by have:=hO.hs; dsimp only at this; unfold xnat; omega)
       have x3:xle p (xsln t)=true:=t_le (show p≤t.length by omega)
       have x4:xle (ws.length+1) 1000000=true:=t_le (by have:=hO.hw; have:=hO.ht; dsimp only at *; omega)
       have x5:xle (ws.length * 2) (ws.length * 2)=true:=t_le (Nat.le_refl _)
       have x6:xeq ws.length ws.length=true:=t_eq rfl
       simp only [y1,y2,y3,e1,x1,x2,x3,x4,x5,x6,wnn,lnn,lcat,wd_mul,wd_add,wd_ln,Nat.zero_add,cond_true,cond_false]
       have eS:spR t ⟨ws,e,c,s,f,false⟩ p (xrn t p)=⟨ws++[(xscut t (xnat s) p,f)],c,c+1,-1,f,true⟩:=by simp [spR,spW,r2,hs]
       have wp1:=wp (xscut t (xnat s) p) f
       have nw1:=noids_wd (ws++[(xscut t (xnat s) p,f)])
       have lw1:(ws++[(xscut t (xnat s) p,f)]).length=ws.length+1:=by simp
       refine hK ⟨ws++[(xscut t (xnat s) p,f)],c,c+1,-1,f,true⟩ none [.id 0,.id 1,.id 7,.id 3,.id 4,.id 5] _ _ (by rw [hR,← eS]; rfl) (by rw [← eS]; exact hO2) (fun _ h=>by cases h) ?_
       dsimp only [lpG]
       rw [lw1,← wp1]
       rw [← wp1] at nw1
       (refine⟨by kernel_rfl,?_,?_⟩ <;> repeat first | exact okTms_nil | refine okTms_cons ?_ ?_ | exact okBlks_nil | refine okBlks_cons ?_ ?_ | exact lws_nil | refine lws_cons ?_ ?_ | exact lb_dead | exact lb_iter | exact lb_same (by assumption) | exact lb_obj rfl | refine lb_tail (by assumption) ?_ (by simp) | refine lb_cells ?_ (by simp) | exact lw_noid rfl | exact lw_ptr rfl | exact lw_slo rfl)
     ·have y2:xcm .eql (xrn t p) 59=false:=f_eql r2
      by_cases r3:xrn t p=32
      ·have y4:xcm .eql (xrn t p) 32=true:=t_eql r3
       by_cases hs:s = -1
       ·subst hs
        have y3:xcm .neq (-1) (-1)=false:=f_neq rfl
        simp only [y1,y2,y3,y4,e1,cond_true,cond_false]
        have eS:spR t ⟨ws,e,c,-1,f,false⟩ p (xrn t p)=⟨ws,e,c+1,-1,f,false⟩:=by simp [spR,spW,r3]
        refine hK ⟨ws,e,c+1,-1,f,false⟩ none [.id 0,.id 1,.id 2,.id 3,.id 4,.id 5] _ _ (by rw [hR,← eS]; rfl) (by rw [← eS]; exact hO2) (fun _ h=>by cases h) ?_
        (refine⟨by kernel_rfl,?_,?_⟩ <;> repeat first | exact okTms_nil | refine okTms_cons ?_ ?_ | exact okBlks_nil | refine okBlks_cons ?_ ?_ | exact lws_nil | refine lws_cons ?_ ?_ | exact lb_dead | exact lb_iter | exact lb_same (by assumption) | exact lb_obj rfl | refine lb_tail (by assumption) ?_ (by simp) | refine lb_cells ?_ (by simp) | exact lw_noid rfl | exact lw_ptr rfl | exact lw_slo rfl)
       ·have y3:xcm .neq s (-1)=true:=t_neq hs
        have x1:xnn s=true:=xnn_iff.2 (by have:=hO.hs; dsimp only at this; omega)
        have x2:xle (xnat s) p=true:=t_le (by have:=hO.hs; dsimp only at this; unfold xnat; omega)
        have x3:xle p (xsln t)=true:=t_le (show p≤t.length by omega)
        have x4:xle (ws.length+1) 1000000=true:=t_le (by have:=hO.hw; have:=hO.ht; dsimp only at *; omega)
        have x5:xle (ws.length * 2) (ws.length * 2)=true:=t_le (Nat.le_refl _)
        have x6:xeq ws.length ws.length=true:=t_eq rfl
        simp only [y1,y2,y3,y4,e1,x1,x2,x3,x4,x5,x6,wnn,lnn,lcat,wd_mul,wd_add,wd_ln,Nat.zero_add,cond_true,cond_false]
        have eS:spR t ⟨ws,e,c,s,f,false⟩ p (xrn t p)=⟨ws++[(xscut t (xnat s) p,f)],e,c+1,-1,f,false⟩:=by simp [spR,spW,r3,hs]
        have wp1:=wp (xscut t (xnat s) p) f
        have nw1:=noids_wd (ws++[(xscut t (xnat s) p,f)])
        have lw1:(ws++[(xscut t (xnat s) p,f)]).length=ws.length+1:=by simp
        refine hK ⟨ws++[(xscut t (xnat s) p,f)],e,c+1,-1,f,false⟩ none [.id 0,.id 1,.id 7,.id 3,.id 4,.id 5] _ _ (by rw [hR,← eS]; rfl) (by rw [← eS]; exact hO2) (fun _ h=>by cases h) ?_
        dsimp only [lpG]
        rw [lw1,← wp1]
        rw [← wp1] at nw1
        (refine⟨by kernel_rfl,?_,?_⟩ <;> repeat first | exact okTms_nil | refine okTms_cons ?_ ?_ | exact okBlks_nil | refine okBlks_cons ?_ ?_ | exact lws_nil | refine lws_cons ?_ ?_ | exact lb_dead | exact lb_iter | exact lb_same (by assumption) | exact lb_obj rfl | refine lb_tail (by assumption) ?_ (by simp) | refine lb_cells ?_ (by simp) | exact lw_noid rfl | exact lw_ptr rfl | exact lw_slo rfl)
      ·have y4:xcm .eql (xrn t p) 32=false:=f_eql r3
       by_cases r4:xrn t p=9
       ·have y5:xcm .eql (xrn t p) 9=true:=t_eql r4
        by_cases hs:s = -1
        ·subst hs
         have y3:xcm .neq (-1) (-1)=false:=f_neq rfl
         simp only [y1,y2,y3,y4,y5,e1,cond_true,cond_false]
         have eS:spR t ⟨ws,e,c,-1,f,false⟩ p (xrn t p)=⟨ws,e,c+1,-1,f,false⟩:=by simp [spR,spW,r4]
         refine hK ⟨ws,e,c+1,-1,f,false⟩ none [.id 0,.id 1,.id 2,.id 3,.id 4,.id 5] _ _ (by rw [hR,← eS]; rfl) (by rw [← eS]; exact hO2) (fun _ h=>by cases h) ?_
         (refine⟨by kernel_rfl,?_,?_⟩ <;> repeat first | exact okTms_nil | refine okTms_cons ?_ ?_ | exact okBlks_nil | refine okBlks_cons ?_ ?_ | exact lws_nil | refine lws_cons ?_ ?_ | exact lb_dead | exact lb_iter | exact lb_same (by assumption) | exact lb_obj rfl | refine lb_tail (by assumption) ?_ (by simp) | refine lb_cells ?_ (by simp) | exact lw_noid rfl | exact lw_ptr rfl | exact lw_slo rfl)
        ·have y3:xcm .neq s (-1)=true:=t_neq hs
         have x1:xnn s=true:=xnn_iff.2 (by have:=hO.hs; dsimp only at this; omega)
         have x2:xle (xnat s) p=true:=t_le (by have:=hO.hs; dsimp only at this; unfold xnat; omega)
         have x3:xle p (xsln t)=true:=t_le (show p≤t.length by omega)
         have x4:xle (ws.length+1) 1000000=true:=t_le (by have:=hO.hw; have:=hO.ht; dsimp only at *; omega)
         have x5:xle (ws.length * 2) (ws.length * 2)=true:=t_le (Nat.le_refl _)
         have x6:xeq ws.length ws.length=true:=t_eq rfl
         simp only [y1,y2,y3,y4,y5,e1,x1,x2,x3,x4,x5,x6,wnn,lnn,lcat,wd_mul,wd_add,wd_ln,Nat.zero_add,cond_true,cond_false]
         have eS:spR t ⟨ws,e,c,s,f,false⟩ p (xrn t p)=⟨ws++[(xscut t (xnat s) p,f)],e,c+1,-1,f,false⟩:=by simp [spR,spW,r4,hs]
         have wp1:=wp (xscut t (xnat s) p) f
         have nw1:=noids_wd (ws++[(xscut t (xnat s) p,f)])
         have lw1:(ws++[(xscut t (xnat s) p,f)]).length=ws.length+1:=by simp
         refine hK ⟨ws++[(xscut t (xnat s) p,f)],e,c+1,-1,f,false⟩ none [.id 0,.id 1,.id 7,.id 3,.id 4,.id 5] _ _ (by rw [hR,← eS]; rfl) (by rw [← eS]; exact hO2) (fun _ h=>by cases h) ?_
         dsimp only [lpG]
         rw [lw1,← wp1]
         rw [← wp1] at nw1
         (refine⟨by kernel_rfl,?_,?_⟩ <;> repeat first | exact okTms_nil | refine okTms_cons ?_ ?_ | exact okBlks_nil | refine okBlks_cons ?_ ?_ | exact lws_nil | refine lws_cons ?_ ?_ | exact lb_dead | exact lb_iter | exact lb_same (by assumption) | exact lb_obj rfl | refine lb_tail (by assumption) ?_ (by simp) | refine lb_cells ?_ (by simp) | exact lw_noid rfl | exact lw_ptr rfl | exact lw_slo rfl)
       ·have y5:xcm .eql (xrn t p) 9=false:=f_eql r4
        by_cases hs:s = -1
        ·have y6:xcm .eql s (-1)=true:=t_eql hs
         simp only [y1,y2,y4,y5,y6,e1,cond_true,cond_false]
         have eS:spR t ⟨ws,e,c,s,f,false⟩ p (xrn t p)=⟨ws,e,c+1,p,c,false⟩:=by simp [spR,spW,r2,r3,r4,hs]
         refine hK ⟨ws,e,c+1,p,c,false⟩ none [.id 0,.id 1,.id 2,.id 3,.id 4,.id 5] _ _ (by rw [hR,← eS]; rfl) (by rw [← eS]; exact hO2) (fun _ h=>by cases h) ?_
         (refine⟨by kernel_rfl,?_,?_⟩ <;> repeat first | exact okTms_nil | refine okTms_cons ?_ ?_ | exact okBlks_nil | refine okBlks_cons ?_ ?_ | exact lws_nil | refine lws_cons ?_ ?_ | exact lb_dead | exact lb_iter | exact lb_same (by assumption) | exact lb_obj rfl | refine lb_tail (by assumption) ?_ (by simp) | refine lb_cells ?_ (by simp) | exact lw_noid rfl | exact lw_ptr rfl | exact lw_slo rfl)
        ·have y6:xcm .eql s (-1)=false:=f_eql hs
         simp only [y1,y2,y4,y5,y6,e1,cond_true,cond_false]
         have eS:spR t ⟨ws,e,c,s,f,false⟩ p (xrn t p)=⟨ws,e,c+1,s,f,false⟩:=by simp [spR,spW,r2,r3,r4,hs]
         refine hK ⟨ws,e,c+1,s,f,false⟩ none [.id 0,.id 1,.id 2,.id 3,.id 4,.id 5] _ _ (by rw [hR,← eS]; rfl) (by rw [← eS]; exact hO2) (fun _ h=>by cases h) ?_
         (refine⟨by kernel_rfl,?_,?_⟩ <;> repeat first | exact okTms_nil | refine okTms_cons ?_ ?_ | exact okBlks_nil | refine okBlks_cons ?_ ?_ | exact lws_nil | refine lws_cons ?_ ?_ | exact lb_dead | exact lb_iter | exact lb_same (by assumption) | exact lb_obj rfl | refine lb_tail (by assumption) ?_ (by simp) | refine lb_cells ?_ (by simp) | exact lw_noid rfl | exact lw_ptr rfl | exact lw_slo rfl)
  ·cases m with
   | true =>
     simp only [y1,e1,cond_true,cond_false]
     have eS:spR t ⟨ws,e,c,s,f,true⟩ p (xrn t p)=⟨ws,e,c+1,s,f,true⟩:=by simp [spR,spW]
     refine hK ⟨ws,e,c+1,s,f,true⟩ none [.id 0,.id 1,.id 2,.id 3,.id 4,.id 5] _ _ (by rw [hR,← eS]; rfl) (by rw [← eS]; exact hO2) (fun _ h=>by cases h) ?_
     (refine⟨by kernel_rfl,?_,?_⟩ <;> repeat first | exact okTms_nil | refine okTms_cons ?_ ?_ | exact okBlks_nil | refine okBlks_cons ?_ ?_ | exact lws_nil | refine lws_cons ?_ ?_ | exact lb_dead | exact lb_iter | exact lb_same (by assumption) | exact lb_obj rfl | refine lb_tail (by assumption) ?_ (by simp) | refine lb_cells ?_ (by simp) | exact lw_noid rfl | exact lw_ptr rfl | exact lw_slo rfl)
   | false =>
     by_cases r2:xrn t p=59
     ·have y2:xcm .eql (xrn t p) 59=true:=t_eql r2
      by_cases hs:s = -1
      ·subst hs
       have y3:xcm .neq (-1) (-1)=false:=f_neq rfl
       simp only [y1,y2,y3,e1,cond_true,cond_false]
       have eS:spR t ⟨ws,e,c,-1,f,false⟩ p (xrn t p)=⟨ws,c,c+1,-1,f,true⟩:=by simp [spR,spW,r2]
       refine hK ⟨ws,c,c+1,-1,f,true⟩ none [.id 0,.id 1,.id 2,.id 3,.id 4,.id 5] _ _ (by rw [hR,← eS]; rfl) (by rw [← eS]; exact hO2) (fun _ h=>by cases h) ?_
       (refine⟨by kernel_rfl,?_,?_⟩ <;> repeat first | exact okTms_nil | refine okTms_cons ?_ ?_ | exact okBlks_nil | refine okBlks_cons ?_ ?_ | exact lws_nil | refine lws_cons ?_ ?_ | exact lb_dead | exact lb_iter | exact lb_same (by assumption) | exact lb_obj rfl | refine lb_tail (by assumption) ?_ (by simp) | refine lb_cells ?_ (by simp) | exact lw_noid rfl | exact lw_ptr rfl | exact lw_slo rfl)
      ·have y3:xcm .neq s (-1)=true:=t_neq hs
       have x1:xnn s=true:=xnn_iff.2 (by have:=hO.hs; dsimp only at this; omega)
       have x2:xle (xnat s) p=true:=t_le (by have:=hO.hs; dsimp only at this; unfold xnat; omega)
       have x3:xle p (xsln t)=true:=t_le (show p≤t.length by omega)
       have x4:xle (ws.length+1) 1000000=true:=t_le (by have:=hO.hw; have:=hO.ht; dsimp only at *; omega)
       have x5:xle (ws.length * 2) (ws.length * 2)=true:=t_le (Nat.le_refl _)
       have x6:xeq ws.length ws.length=true:=t_eq rfl
       simp only [y1,y2,y3,e1,x1,x2,x3,x4,x5,x6,wnn,lnn,lcat,wd_mul,wd_add,wd_ln,Nat.zero_add,cond_true,cond_false]
       have eS:spR t ⟨ws,e,c,s,f,false⟩ p (xrn t p)=⟨ws++[(xscut t (xnat s) p,f)],c,c+1,-1,f,true⟩:=by simp [spR,spW,r2,hs]
       have wp1:=wp (xscut t (xnat s) p) f
       have nw1:=noids_wd (ws++[(xscut t (xnat s) p,f)])
       have lw1:(ws++[(xscut t (xnat s) p,f)]).length=ws.length+1:=by simp
       refine hK ⟨ws++[(xscut t (xnat s) p,f)],c,c+1,-1,f,true⟩ none [.id 0,.id 1,.id 7,.id 3,.id 4,.id 5] _ _ (by rw [hR,← eS]; rfl) (by rw [← eS]; exact hO2) (fun _ h=>by cases h) ?_
       dsimp only [lpG]
       rw [lw1,← wp1]
       rw [← wp1] at nw1
       (refine⟨by kernel_rfl,?_,?_⟩ <;> repeat first | exact okTms_nil | refine okTms_cons ?_ ?_ | exact okBlks_nil | refine okBlks_cons ?_ ?_ | exact lws_nil | refine lws_cons ?_ ?_ | exact lb_dead | exact lb_iter | exact lb_same (by assumption) | exact lb_obj rfl | refine lb_tail (by assumption) ?_ (by simp) | refine lb_cells ?_ (by simp) | exact lw_noid rfl | exact lw_ptr rfl | exact lw_slo rfl)
     ·have y2:xcm .eql (xrn t p) 59=false:=f_eql r2
      by_cases r3:xrn t p=32
      ·have y4:xcm .eql (xrn t p) 32=true:=t_eql r3
       by_cases hs:s = -1
       ·subst hs
        have y3:xcm .neq (-1) (-1)=false:=f_neq rfl
        simp only [y1,y2,y3,y4,e1,cond_true,cond_false]
        have eS:spR t ⟨ws,e,c,-1,f,false⟩ p (xrn t p)=⟨ws,e,c+1,-1,f,false⟩:=by simp [spR,spW,r3]
        refine hK ⟨ws,e,c+1,-1,f,false⟩ none [.id 0,.id 1,.id 2,.id 3,.id 4,.id 5] _ _ (by rw [hR,← eS]; rfl) (by rw [← eS]; exact hO2) (fun _ h=>by cases h) ?_
        (refine⟨by kernel_rfl,?_,?_⟩ <;> repeat first | exact okTms_nil | refine okTms_cons ?_ ?_ | exact okBlks_nil | refine okBlks_cons ?_ ?_ | exact lws_nil | refine lws_cons ?_ ?_ | exact lb_dead | exact lb_iter | exact lb_same (by assumption) | exact lb_obj rfl | refine lb_tail (by assumption) ?_ (by simp) | refine lb_cells ?_ (by simp) | exact lw_noid rfl | exact lw_ptr rfl | exact lw_slo rfl)
       ·have y3:xcm .neq s (-1)=true:=t_neq hs
        have x1:xnn s=true:=xnn_iff.2 (by have:=hO.hs; dsimp only at this; omega)
        have x2:xle (xnat s) p=true:=t_le (by have:=hO.hs; dsimp only at this; unfold xnat; omega)
        have x3:xle p (xsln t)=true:=t_le (show p≤t.length by omega)
        have x4:xle (ws.length+1) 1000000=true:=t_le (by have:=hO.hw; have:=hO.ht; dsimp only at *; omega)
        have x5:xle (ws.length * 2) (ws.length * 2)=true:=t_le (Nat.le_refl _)
        have x6:xeq ws.length ws.length=true:=t_eq rfl
        simp only [y1,y2,y3,y4,e1,x1,x2,x3,x4,x5,x6,wnn,lnn,lcat,wd_mul,wd_add,wd_ln,Nat.zero_add,cond_true,cond_false]
        have eS:spR t ⟨ws,e,c,s,f,false⟩ p (xrn t p)=⟨ws++[(xscut t (xnat s) p,f)],e,c+1,-1,f,false⟩:=by simp [spR,spW,r3,hs]
        have wp1:=wp (xscut t (xnat s) p) f
        have nw1:=noids_wd (ws++[(xscut t (xnat s) p,f)])
        have lw1:(ws++[(xscut t (xnat s) p,f)]).length=ws.length+1:=by simp
        refine hK ⟨ws++[(xscut t (xnat s) p,f)],e,c+1,-1,f,false⟩ none [.id 0,.id 1,.id 7,.id 3,.id 4,.id 5] _ _ (by rw [hR,← eS]; rfl) (by rw [← eS]; exact hO2) (fun _ h=>by cases h) ?_
        dsimp only [lpG]
        rw [lw1,← wp1]
        rw [← wp1] at nw1
        (refine⟨by kernel_rfl,?_,?_⟩ <;> repeat first | exact okTms_nil | refine okTms_cons ?_ ?_ | exact okBlks_nil | refine okBlks_cons ?_ ?_ | exact lws_nil | refine lws_cons ?_ ?_ | exact lb_dead | exact lb_iter | exact lb_same (by assumption) | exact lb_obj rfl | refine lb_tail (by assumption) ?_ (by simp) | refine lb_cells ?_ (by simp) | exact lw_noid rfl | exact lw_ptr rfl | exact lw_slo rfl)
      ·have y4:xcm .eql (xrn t p) 32=false:=f_eql r3
       by_cases r4:xrn t p=9
       ·have y5:xcm .eql (xrn t p) 9=true:=t_eql r4
        by_cases hs:s = -1
        ·subst hs
         have y3:xcm .neq (-1) (-1)=false:=f_neq rfl
         simp only [y1,y2,y3,y4,y5,e1,cond_true,cond_false]
         have eS:spR t ⟨ws,e,c,-1,f,false⟩ p (xrn t p)=⟨ws,e,c+1,-1,f,false⟩:=by simp [spR,spW,r4]
         refine hK ⟨ws,e,c+1,-1,f,false⟩ none [.id 0,.id 1,.id 2,.id 3,.id 4,.id 5] _ _ (by rw [hR,← eS]; rfl) (by rw [← eS]; exact hO2) (fun _ h=>by cases h) ?_
         (refine⟨by kernel_rfl,?_,?_⟩ <;> repeat first | exact okTms_nil | refine okTms_cons ?_ ?_ | exact okBlks_nil | refine okBlks_cons ?_ ?_ | exact lws_nil | refine lws_cons ?_ ?_ | exact lb_dead | exact lb_iter | exact lb_same (by assumption) | exact lb_obj rfl | refine lb_tail (by assumption) ?_ (by simp) | refine lb_cells ?_ (by simp) | exact lw_noid rfl | exact lw_ptr rfl | exact lw_slo rfl)
        ·have y3:xcm .neq s (-1)=true:=t_neq hs
         have x1:xnn s=true:=xnn_iff.2 (by have:=hO.hs; dsimp only at this; omega)
         have x2:xle (xnat s) p=true:=t_le (by have:=hO.hs; dsimp only at this; unfold xnat; omega)
         have x3:xle p (xsln t)=true:=t_le (show p≤t.length by omega)
         have x4:xle (ws.length+1) 1000000=true:=t_le (by have:=hO.hw; have:=hO.ht; dsimp only at *; omega)
         have x5:xle (ws.length * 2) (ws.length * 2)=true:=t_le (Nat.le_refl _)
         have x6:xeq ws.length ws.length=true:=t_eq rfl
         simp only [y1,y2,y3,y4,y5,e1,x1,x2,x3,x4,x5,x6,wnn,lnn,lcat,wd_mul,wd_add,wd_ln,Nat.zero_add,cond_true,cond_false]
         have eS:spR t ⟨ws,e,c,s,f,false⟩ p (xrn t p)=⟨ws++[(xscut t (xnat s) p,f)],e,c+1,-1,f,false⟩:=by simp [spR,spW,r4,hs]
         have wp1:=wp (xscut t (xnat s) p) f
         have nw1:=noids_wd (ws++[(xscut t (xnat s) p,f)])
         have lw1:(ws++[(xscut t (xnat s) p,f)]).length=ws.length+1:=by simp
         refine hK ⟨ws++[(xscut t (xnat s) p,f)],e,c+1,-1,f,false⟩ none [.id 0,.id 1,.id 7,.id 3,.id 4,.id 5] _ _ (by rw [hR,← eS]; rfl) (by rw [← eS]; exact hO2) (fun _ h=>by cases h) ?_
         dsimp only [lpG]
         rw [lw1,← wp1]
         rw [← wp1] at nw1
         (refine⟨by kernel_rfl,?_,?_⟩ <;> repeat first | exact okTms_nil | refine okTms_cons ?_ ?_ | exact okBlks_nil | refine okBlks_cons ?_ ?_ | exact lws_nil | refine lws_cons ?_ ?_ | exact lb_dead | exact lb_iter | exact lb_same (by assumption) | exact lb_obj rfl | refine lb_tail (by assumption) ?_ (by simp) | refine lb_cells ?_ (by simp) | exact lw_noid rfl | exact lw_ptr rfl | exact lw_slo rfl)
       ·have y5:xcm .eql (xrn t p) 9=false:=f_eql r4
        by_cases hs:s = -1
        ·have y6:xcm .eql s (-1)=true:=t_eql hs
         simp only [y1,y2,y4,y5,y6,e1,cond_true,cond_false]
         have eS:spR t ⟨ws,e,c,s,f,false⟩ p (xrn t p)=⟨ws,e,c+1,p,c,false⟩:=by simp [spR,spW,r2,r3,r4,hs]
         refine hK ⟨ws,e,c+1,p,c,false⟩ none [.id 0,.id 1,.id 2,.id 3,.id 4,.id 5] _ _ (by rw [hR,← eS]; rfl) (by rw [← eS]; exact hO2) (fun _ h=>by cases h) ?_
         (refine⟨by kernel_rfl,?_,?_⟩ <;> repeat first | exact okTms_nil | refine okTms_cons ?_ ?_ | exact okBlks_nil | refine okBlks_cons ?_ ?_ | exact lws_nil | refine lws_cons ?_ ?_ | exact lb_dead | exact lb_iter | exact lb_same (by assumption) | exact lb_obj rfl | refine lb_tail (by assumption) ?_ (by simp) | refine lb_cells ?_ (by simp) | exact lw_noid rfl | exact lw_ptr rfl | exact lw_slo rfl)
        ·have y6:xcm .eql s (-1)=false:=f_eql hs
         simp only [y1,y2,y4,y5,y6,e1,cond_true,cond_false]
         have eS:spR t ⟨ws,e,c,s,f,false⟩ p (xrn t p)=⟨ws,e,c+1,s,f,false⟩:=by simp [spR,spW,r2,r3,r4,hs]
         refine hK ⟨ws,e,c+1,s,f,false⟩ none [.id 0,.id 1,.id 2,.id 3,.id 4,.id 5] _ _ (by rw [hR,← eS]; rfl) (by rw [← eS]; exact hO2) (fun _ h=>by cases h) ?_
         (refine⟨by kernel_rfl,?_,?_⟩ <;> repeat first | exact okTms_nil | refine okTms_cons ?_ ?_ | exact okBlks_nil | refine okBlks_cons ?_ ?_ | exact lws_nil | refine lws_cons ?_ ?_ | exact lb_dead | exact lb_iter | exact lb_same (by assumption) | exact lb_obj rfl | refine lb_tail (by assumption) ?_ (by simp) | refine lb_cells ?_ (by simp) | exact lw_noid rfl | exact lw_ptr rfl | exact lw_slo rfl)
set_option maxHeartbeats 4000000 in
theorem sn_fin (t:List UInt8) (o:LB) (ls:List LnV) (S:SpS) (ho:o=.dead∨∃ F,o=.obj stF [.fact F] 5) (hO:SpOk t t.length S) (hl:ls.length≤t.length) (K:Pk)
  (hK:∀ (S':SpS) (pd:Option LnS) (ρ : List Src) (vs:List LV) (bs:List (Option LB)),[spL t S t.length]=pd.toList→convOk 0 34 slL vs bs ρ (snT2 t) (lpG t o ls S' t.length pd)→K .normal vs bs []) :
  xcode prog snX 60 34 (nthC (sp prog 46) 6) (mkTm 34 (snT3 t true)) (mkS (lpG t o ls S t.length none) []) (vK slL K):=by
 obtain⟨ws,e,c,s,f,m⟩:=S
 have nl:=noids_ln ls; have nw:=noids_wd ws
 have lnn:=ln_n ls; have wnn:=wd_n ws
 have wp:=wd_push ws
 have lcat:=ln_cat ls
 have z1:xle (ls.length+1) 1000000=true:=t_le (by have:=hO.ht; omega)
 have z2:xle (ls.length * 2) (ls.length * 2)=true:=t_le (Nat.le_refl _)
 have z3:xeq ls.length ls.length=true:=t_eq rfl
 dsimp only [lpG]
 rw [sn_d]
 have y1:true=true:=rfl
 rcases ho with rfl | ⟨F,rfl⟩
 ·cases m with
  | true =>
    have hR : [spL t ⟨ws,e,c,s,f,true⟩ t.length]=[⟨ws,e⟩]:=by simp [spL]
    have y2:xnot true=false:=rfl
    simp only [y2,z1,z2,z3,wnn,lnn,lcat,wd_mul,wd_add,wd_ln,Nat.zero_add,cond_true,cond_false]
    refine hK ⟨[],0,1,-1,f,false⟩ (some ⟨ws,e⟩) [.id 0,.id 7,.id 2,.id 3,.id 4,.id 5] _ _ (by first | exact hR | (rw [hR]; rfl)) ?_
    (refine⟨by kernel_rfl,?_,?_⟩ <;> repeat first | exact okTms_nil | refine okTms_cons ?_ ?_ | exact okBlks_nil | refine okBlks_cons ?_ ?_ | exact lws_nil | refine lws_cons ?_ ?_ | exact lb_dead | exact lb_iter | exact lb_same (by assumption) | exact lb_obj rfl | refine lb_tail (by assumption) ?_ (by simp) | refine lb_cells ?_ (by simp) | exact lw_noid rfl | exact lw_ptr rfl | exact lw_slo rfl)
  | false =>
    have y2:xnot false=true:=rfl
    by_cases hs:s = -1
    ·have hR : [spL t ⟨ws,e,c,s,f,false⟩ t.length]=[⟨ws,c⟩]:=by simp [spL,spW,hs]
     have y3:xcm .neq s (-1)=false:=f_neq hs
     simp only [y2,y3,z1,z2,z3,wnn,lnn,lcat,wd_mul,wd_add,wd_ln,Nat.zero_add,cond_true,cond_false]
     refine hK ⟨[],0,1,-1,f,false⟩ (some ⟨ws,c⟩) [.id 0,.id 7,.id 2,.id 3,.id 4,.id 5] _ _ (by first | exact hR | (rw [hR]; rfl)) ?_
     (refine⟨by kernel_rfl,?_,?_⟩ <;> repeat first | exact okTms_nil | refine okTms_cons ?_ ?_ | exact okBlks_nil | refine okBlks_cons ?_ ?_ | exact lws_nil | refine lws_cons ?_ ?_ | exact lb_dead | exact lb_iter | exact lb_same (by assumption) | exact lb_obj rfl | refine lb_tail (by assumption) ?_ (by simp) | refine lb_cells ?_ (by simp) | exact lw_noid rfl | exact lw_ptr rfl | exact lw_slo rfl)
    ·have hR : [spL t ⟨ws,e,c,s,f,false⟩ t.length]=[⟨ws++[(xscut t (xnat s) t.length,f)],c⟩]:=by simp [spL,spW,hs]
     have y3:xcm .neq s (-1)=true:=t_neq hs
     have x1:xnn s=true:=xnn_iff.2 (by have:=hO.hs; dsimp only at this; omega)
     have x2:xle (xnat s) t.length=true:=t_le (by have:=hO.hs; dsimp only at this; unfold xnat; omega)
     have x3:xle t.length t.length=true:=t_le (show t.length≤t.length by omega)
     have x4:xle (ws.length+1) 1000000=true:=t_le (by have:=hO.hw; have:=hO.ht; dsimp only at *; omega)
     have x5:xle (ws.length * 2) (ws.length * 2)=true:=t_le (Nat.le_refl _)
     have x6:xeq ws.length ws.length=true:=t_eq rfl
     have x7:xnat ((t.length:Nat):Int)=t.length:=rfl
     have x8:xsln t=t.length:=rfl
     simp only [y2,y3,z1,z2,z3,x7,x8,x1,x2,x3,x4,x5,x6,wnn,lnn,lcat,wd_mul,wd_add,wd_ln,Nat.zero_add,cond_true,cond_false]
     have wp1:=wp (xscut t (xnat s) t.length) f
     have nw1:=noids_wd (ws++[(xscut t (xnat s) t.length,f)])
     have lw1:(ws++[(xscut t (xnat s) t.length,f)]).length=ws.length+1:=by simp
     refine hK ⟨[],0,1,-1,f,false⟩ (some ⟨ws++[(xscut t (xnat s) t.length,f)],c⟩) [.id 0,.id 9,.id 7,.id 3,.id 4,.id 5] _ _ (by first | exact hR | (rw [hR]; rfl)) ?_
     dsimp only [lpG]
     rw [lw1,← wp1]
     rw [← wp1] at nw1
     (refine⟨by kernel_rfl,?_,?_⟩ <;> repeat first | exact okTms_nil | refine okTms_cons ?_ ?_ | exact okBlks_nil | refine okBlks_cons ?_ ?_ | exact lws_nil | refine lws_cons ?_ ?_ | exact lb_dead | exact lb_iter | exact lb_same (by assumption) | exact lb_obj rfl | refine lb_tail (by assumption) ?_ (by simp) | refine lb_cells ?_ (by simp) | exact lw_noid rfl | exact lw_ptr rfl | exact lw_slo rfl)
 ·cases m with
  | true =>
    have hR : [spL t ⟨ws,e,c,s,f,true⟩ t.length]=[⟨ws,e⟩]:=by simp [spL]
    have y2:xnot true=false:=rfl
    simp only [y2,z1,z2,z3,wnn,lnn,lcat,wd_mul,wd_add,wd_ln,Nat.zero_add,cond_true,cond_false]
    refine hK ⟨[],0,1,-1,f,false⟩ (some ⟨ws,e⟩) [.id 0,.id 7,.id 2,.id 3,.id 4,.id 5] _ _ (by first | exact hR | (rw [hR]; rfl)) ?_
    (refine⟨by kernel_rfl,?_,?_⟩ <;> repeat first | exact okTms_nil | refine okTms_cons ?_ ?_ | exact okBlks_nil | refine okBlks_cons ?_ ?_ | exact lws_nil | refine lws_cons ?_ ?_ | exact lb_dead | exact lb_iter | exact lb_same (by assumption) | exact lb_obj rfl | refine lb_tail (by assumption) ?_ (by simp) | refine lb_cells ?_ (by simp) | exact lw_noid rfl | exact lw_ptr rfl | exact lw_slo rfl)
  | false =>
    have y2:xnot false=true:=rfl
    by_cases hs:s = -1
    ·have hR : [spL t ⟨ws,e,c,s,f,false⟩ t.length]=[⟨ws,c⟩]:=by simp [spL,spW,hs]
     have y3:xcm .neq s (-1)=false:=f_neq hs
     simp only [y2,y3,z1,z2,z3,wnn,lnn,lcat,wd_mul,wd_add,wd_ln,Nat.zero_add,cond_true,cond_false]
     refine hK ⟨[],0,1,-1,f,false⟩ (some ⟨ws,c⟩) [.id 0,.id 7,.id 2,.id 3,.id 4,.id 5] _ _ (by first | exact hR | (rw [hR]; rfl)) ?_
     (refine⟨by kernel_rfl,?_,?_⟩ <;> repeat first | exact okTms_nil | refine okTms_cons ?_ ?_ | exact okBlks_nil | refine okBlks_cons ?_ ?_ | exact lws_nil | refine lws_cons ?_ ?_ | exact lb_dead | exact lb_iter | exact lb_same (by assumption) | exact lb_obj rfl | refine lb_tail (by assumption) ?_ (by simp) | refine lb_cells ?_ (by simp) | exact lw_noid rfl | exact lw_ptr rfl | exact lw_slo rfl)
    ·have hR : [spL t ⟨ws,e,c,s,f,false⟩ t.length]=[⟨ws++[(xscut t (xnat s) t.length,f)],c⟩]:=by simp [spL,spW,hs]
     have y3:xcm .neq s (-1)=true:=t_neq hs
     have x1:xnn s=true:=xnn_iff.2 (by have:=hO.hs; dsimp only at this; omega)
     have x2:xle (xnat s) t.length=true:=t_le (by have:=hO.hs; dsimp only at this; unfold xnat; omega)
     have x3:xle t.length t.length=true:=t_le (show t.length≤t.length by omega)
     have x4:xle (ws.length+1) 1000000=true:=t_le (by have:=hO.hw; have:=hO.ht; dsimp only at *; omega)
     have x5:xle (ws.length * 2) (ws.length * 2)=true:=t_le (Nat.le_refl _)
     have x6:xeq ws.length ws.length=true:=t_eq rfl
     have x7:xnat ((t.length:Nat):Int)=t.length:=rfl
     have x8:xsln t=t.length:=rfl
     simp only [y2,y3,z1,z2,z3,x7,x8,x1,x2,x3,x4,x5,x6,wnn,lnn,lcat,wd_mul,wd_add,wd_ln,Nat.zero_add,cond_true,cond_false]
     have wp1:=wp (xscut t (xnat s) t.length) f
     have nw1:=noids_wd (ws++[(xscut t (xnat s) t.length,f)])
     have lw1:(ws++[(xscut t (xnat s) t.length,f)]).length=ws.length+1:=by simp
     refine hK ⟨[],0,1,-1,f,false⟩ (some ⟨ws++[(xscut t (xnat s) t.length,f)],c⟩) [.id 0,.id 9,.id 7,.id 3,.id 4,.id 5] _ _ (by first | exact hR | (rw [hR]; rfl)) ?_
     dsimp only [lpG]
     rw [lw1,← wp1]
     rw [← wp1] at nw1
     (refine⟨by kernel_rfl,?_,?_⟩ <;> repeat first | exact okTms_nil | refine okTms_cons ?_ ?_ | exact okBlks_nil | refine okBlks_cons ?_ ?_ | exact lws_nil | refine lws_cons ?_ ?_ | exact lb_dead | exact lb_iter | exact lb_same (by assumption) | exact lb_obj rfl | refine lb_tail (by assumption) ?_ (by simp) | refine lb_cells ?_ (by simp) | exact lw_noid rfl | exact lw_ptr rfl | exact lw_slo rfl)
end
end Go.Lev
