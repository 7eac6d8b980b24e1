import Derived.Test.YtnkkkihgljbllaaDoorLc
import Derived.Test.YtnkkkihgljbllaaDoorChecked
import Derived.KernelRfl
/- text: a text cut into lines of words: its trees -/
namespace Go.Lev
set_option linter.unusedSimpArgs false
set_option linter.unusedVariables false
open Go.RowKit
open Go.Proofs.Tryd (prog)
set_option maxRecDepth 100000
noncomputable section
abbrev lX:List Nat:=[0,2,3,4,5,12,13,25]
abbrev oP:Cx:=fun _=>none
abbrev MX (t:ap) (nl nw:Nat) (e c s f:Int) (m:Bool):al:=[.str t,.slo 1 0 nl 0,.slo 2 0 nw 0,.z e,.z c,.z s,.z f,.b m]
abbrev sI (t:ap):List (Nat×LV):=[(0,.str t),(2,.nils),(3,.ptr 0 0),(12,.ptr 3 0)]
abbrev zF (t:ap) (i:Nat) (r:Int):List (Nat×LV):=[(0,.str t),(2,.nils),(3,.ptr 0 0),(12,.ptr 3 0),(13,.tup [.b true,.z (.ofNat i),.int .i32 r])]
abbrev td (t:ap):List (Nat×LV):=[(0,.str t),(2,.nils),(3,.ptr 0 0)]
abbrev Dg (t:ap) (q:Bool):List (Nat×LV):=[(0,.str t),(2,.nils),(3,.ptr 0 0),(25,.b q)]
abbrev MW (t:ap) (nl nw:Nat) (f:Int) (lx wx:al) (p:Nat) (o:LB):a9:=[.cells [.str t,.slo 1 0 nl 0,.nils,.z (Int.ofNat 0),.z (Int.ofNat 1),.z (Int.negSucc 0),.z f,.b false] none,.cells lx (some 2),.cells wx (some 2),.iter t p,o,.dead]
abbrev yV (t:ap) (nl:Nat) (f:Int) (lx:al) (p:Nat) (o:LB):a9:=[.cells [.str t,.slo 1 0 nl 0,.nils,.z (Int.ofNat 0),.z (Int.ofNat 1),.z (Int.negSucc 0),.z f,.b false] none,.cells lx (some 2),.dead,.iter t p,.dead,.dead,o,.dead]
abbrev ui (t:ap) (nl nw:Nat) (e c s f:Int) (m:Bool) (lx wx:al) (p:Nat) (o:LB):a9:=[.cells (MX t nl nw e c s f m) none,.cells lx (some 2),.cells wx (some 2),.iter t p,o,.dead]
theorem PI (t:ap) (K:Pk):(bc prog oP 60 34 (bS (sp prog 46) 0 4) (cO [.str t]) (ai [] []) (vK lX K))=(
 K .normal [.str t,.nils,.ptr 0 0,.tup [],.tup [],.ptr 1 0,.tup [],.tup []] [sN [.str t,.nils,.nils,.z 0,.z 1,.z (-1),.z 0,.b false],some (.iter t 0)] []):=ak
theorem Hx (t:ap) (nl nw:Nat) (e c s f:Int) (m:Bool) (lx wx:al) (p:Nat) (o:LB) (K:Pk):(bc prog oP 60 34 (bS (cG (ce (bi (sp prog 46) 4))) 0 2) (aF 34 (sI t)) (ai (ui t nl nw e c s f m lx wx p o) []) (vK lX K))=(
 cond (ag (aa p 1) (am t)) (K .normal [.str t,.nils,.ptr 0 0,.any,.any,.ptr 3 0,.tup [.b true,.z (Int.ofNat p),.int .i32 (aM t p)],.any] [sN [.str t,.slo 1 0 nl 0,.slo 2 0 nw 0,.z e,.z c,.z s,.z f,.b m],sC lx 2,sC wx 2,some (.iter t (aa p (aP t p))),some o,sD] []) (K (.exit 0) [.str t,.nils,.ptr 0 0,.any,.any,.ptr 3 0,.tup [.b false],.any] [sN [.str t,.slo 1 0 nl 0,.slo 2 0 nw 0,.z e,.z c,.z s,.z f,.b m],sC lx 2,sC wx 2,some (.iter t p),some o,sD] [])):=ak
abbrev ye (t:ap) (nl:Nat) (nw:Nat) (e:Int) (c:Int) (s:Int) (f:Int) (m:Bool) (lx:al) (wx:al) (p:Nat) (o:LB):bE:=[sN [.str t,.slo 1 0 nl 0,.slo 2 0 nw 0,.z e,.z (au .add .i64 c 1),.z s,.z f,.b m],sC lx 2,sC wx 2,some (.iter t p),some o,sD]
abbrev EM (t:ap) (nl:Nat) (nw:Nat) (e:Int) (c:Int) (s:Int) (f:Int) (m:Bool) (lx:al) (wx:al) (p:Nat) (o:LB) (i:Nat):bE:=[sN [.str t,.slo 1 0 nl 0,.slo 7 0 (aa nw 1) 0,.z e,.z (au .add .i64 c 1),.z (-1),.z f,.b m],sC lx 2,sD,some (.iter t p),some o,sD,sN [.str (aY t (ae s) i),.z f],sC (bM (bf wx 0 (aJ nw 2)) [.str (aY t (ae s) i),.z f]) 2]
theorem PJ (t:ap) (nl nw:Nat) (e c s f:Int) (m:Bool) (lx wx:al) (p:Nat) (o:LB) (i:Nat) (r:Int) (K:Pk):(bc prog oP 60 34 ((cG (ce (bi (sp prog 46) 4))).drop 2) (aF 34 (zF t i r)) (ai (ui t nl nw e c s f m lx wx p o) []) (vK lX K))=(
 cond (ad .eql r 10) (cond (bu m) (cond (ad .neq s (-1)) (ck (b9 s) <|
 ck (ag (ae s) i) <|
 ck (ag i (am t)) <|
 ck (ag (aa nw 1) 1000000) <|
 ck (ag (aa 0 (aJ nw 2)) (aG wx)) <|
 ck (bR nw nw) <|
 ck (bR nw nw) <|
 ck (ag (aa nl 1) 1000000) <|
 ck (ag (aa 0 (aJ nl 2)) (aG lx)) <|
 ck (bR nl nl) <|
 ck (bR nl nl) <|
 K .normal [.str t,.nils,.ptr 0 0,.z (Int.ofNat i),.int .i32 r,.ptr 3 0,.tup [.b true,.z (Int.ofNat i),.int .i32 r],.any] [sN [.str t,.slo 9 0 (aa nl 1) 0,.nils,.z 0,.z 1,.z (-1),.z f,.b false],sD,sD,some (.iter t p),some o,sD,sN [.str (aY t (ae s) i),.z f],sC (bM (bf wx 0 (aJ nw 2)) [.str (aY t (ae s) i),.z f]) 2,sN [.slo 7 0 (aa nw 1) 0,.z c],sC (bM (bf lx 0 (aJ nl 2)) [.slo 7 0 (aa nw 1) 0,.z c]) 2] []) (ck (ag (aa nl 1) 1000000) <|
 ck (ag (aa 0 (aJ nl 2)) (aG lx)) <|
 ck (bR nl nl) <|
 ck (bR nl nl) <|
 K .normal [.str t,.nils,.ptr 0 0,.z (Int.ofNat i),.int .i32 r,.ptr 3 0,.tup [.b true,.z (Int.ofNat i),.int .i32 r],.any] [sN [.str t,.slo 7 0 (aa nl 1) 0,.nils,.z 0,.z 1,.z (-1),.z f,.b false],sD,sC wx 2,some (.iter t p),some o,sD,sN [.slo 2 0 nw 0,.z c],sC (bM (bf lx 0 (aJ nl 2)) [.slo 2 0 nw 0,.z c]) 2] [])) (ck (ag (aa nl 1) 1000000) <|
 ck (ag (aa 0 (aJ nl 2)) (aG lx)) <|
 ck (bR nl nl) <|
 ck (bR nl nl) <|
 K .normal [.str t,.nils,.ptr 0 0,.z (Int.ofNat i),.int .i32 r,.ptr 3 0,.tup [.b true,.z (Int.ofNat i),.int .i32 r],.any] [sN [.str t,.slo 7 0 (aa nl 1) 0,.nils,.z 0,.z 1,.z (-1),.z f,.b false],sD,sC wx 2,some (.iter t p),some o,sD,sN [.slo 2 0 nw 0,.z e],sC (bM (bf lx 0 (aJ nl 2)) [.slo 2 0 nw 0,.z e]) 2] [])) (cond m (K .normal [.str t,.nils,.ptr 0 0,.z (Int.ofNat i),.int .i32 r,.ptr 3 0,.tup [.b true,.z (Int.ofNat i),.int .i32 r],.any] (ye t nl nw e c s f m lx wx p o) []) (cond (ad .eql r 59) (cond (ad .neq s (-1)) (ck (b9 s) <|
 ck (ag (ae s) i) <|
 ck (ag i (am t)) <|
 ck (ag (aa nw 1) 1000000) <|
 ck (ag (aa 0 (aJ nw 2)) (aG wx)) <|
 ck (bR nw nw) <|
 ck (bR nw nw) <|
 K .normal [.str t,.nils,.ptr 0 0,.z (Int.ofNat i),.int .i32 r,.ptr 3 0,.tup [.b true,.z (Int.ofNat i),.int .i32 r],.any] [sN [.str t,.slo 1 0 nl 0,.slo 7 0 (aa nw 1) 0,.z c,.z (au .add .i64 c 1),.z (-1),.z f,.b true],sC lx 2,sD,some (.iter t p),some o,sD,sN [.str (aY t (ae s) i),.z f],sC (bM (bf wx 0 (aJ nw 2)) [.str (aY t (ae s) i),.z f]) 2] []) (K .normal [.str t,.nils,.ptr 0 0,.z (Int.ofNat i),.int .i32 r,.ptr 3 0,.tup [.b true,.z (Int.ofNat i),.int .i32 r],.any] [sN [.str t,.slo 1 0 nl 0,.slo 2 0 nw 0,.z c,.z (au .add .i64 c 1),.z s,.z f,.b true],sC lx 2,sC wx 2,some (.iter t p),some o,sD] [])) (cond (ad .eql r 32) (cond (ad .neq s (-1)) (ck (b9 s) <|
 ck (ag (ae s) i) <|
 ck (ag i (am t)) <|
 ck (ag (aa nw 1) 1000000) <|
 ck (ag (aa 0 (aJ nw 2)) (aG wx)) <|
 ck (bR nw nw) <|
 ck (bR nw nw) <|
 K .normal [.str t,.nils,.ptr 0 0,.z (Int.ofNat i),.int .i32 r,.ptr 3 0,.tup [.b true,.z (Int.ofNat i),.int .i32 r],.any] (EM t nl nw e c s f m lx wx p o i) []) (K .normal [.str t,.nils,.ptr 0 0,.z (Int.ofNat i),.int .i32 r,.ptr 3 0,.tup [.b true,.z (Int.ofNat i),.int .i32 r],.any] (ye t nl nw e c s f m lx wx p o) [])) (cond (ad .eql r 9) (cond (ad .neq s (-1)) (ck (b9 s) <|
 ck (ag (ae s) i) <|
 ck (ag i (am t)) <|
 ck (ag (aa nw 1) 1000000) <|
 ck (ag (aa 0 (aJ nw 2)) (aG wx)) <|
 ck (bR nw nw) <|
 ck (bR nw nw) <|
 K .normal [.str t,.nils,.ptr 0 0,.z (Int.ofNat i),.int .i32 r,.ptr 3 0,.tup [.b true,.z (Int.ofNat i),.int .i32 r],.any] (EM t nl nw e c s f m lx wx p o i) []) (K .normal [.str t,.nils,.ptr 0 0,.z (Int.ofNat i),.int .i32 r,.ptr 3 0,.tup [.b true,.z (Int.ofNat i),.int .i32 r],.any] (ye t nl nw e c s f m lx wx p o) [])) (cond (ad .eql s (-1)) (K .normal [.str t,.nils,.ptr 0 0,.z (Int.ofNat i),.int .i32 r,.ptr 3 0,.tup [.b true,.z (Int.ofNat i),.int .i32 r],.any] [sN [.str t,.slo 1 0 nl 0,.slo 2 0 nw 0,.z e,.z (au .add .i64 c 1),.z (Int.ofNat i),.z c,.b m],sC lx 2,sC wx 2,some (.iter t p),some o,sD] []) (K .normal [.str t,.nils,.ptr 0 0,.z (Int.ofNat i),.int .i32 r,.ptr 3 0,.tup [.b true,.z (Int.ofNat i),.int .i32 r],.any] (ye t nl nw e c s f m lx wx p o) []))))))):=ak
theorem PK (t:ap) (nl nw:Nat) (e c s f:Int) (m:Bool) (lx wx:al) (p:Nat) (o:LB) (K:Pk):(bc prog oP 60 34 (bS (sp prog 46) 5 1) (aF 34 (td t)) (ai (ui t nl nw e c s f m lx wx p o) []) (vK lX K))=(
 K .normal [.str t,.nils,.ptr 0 0,.any,.any,.any,.any,.b (ad .gtr c 1)] [sN [.str t,.slo 1 0 nl 0,.slo 2 0 nw 0,.z e,.z c,.z s,.z f,.b m],sC lx 2,sC wx 2,some (.iter t p),some o,sD] []):=ak
theorem Hy (t:ap) (nl nw:Nat) (e c s f:Int) (m:Bool) (lx wx:al) (p:Nat) (o:LB) (q:Bool) (K:Pk):(aX prog oP 60 34 (bi (sp prog 46) 6) (aF 34 (Dg t q)) (ai (ui t nl nw e c s f m lx wx p o) []) (vK lX K))=(
 cond q (cond (bu m) (cond (ad .neq s (-1)) (ck (b9 s) <|
 ck (ag (ae s) (ae ↑(am t))) <|
 ck (ag (ae ↑(am t)) (am t)) <|
 ck (ag (aa nw 1) 1000000) <|
 ck (ag (aa 0 (aJ nw 2)) (aG wx)) <|
 ck (bR nw nw) <|
 ck (bR nw nw) <|
 ck (ag (aa nl 1) 1000000) <|
 ck (ag (aa 0 (aJ nl 2)) (aG lx)) <|
 ck (bR nl nl) <|
 ck (bR nl nl) <|
 K .normal [.str t,.nils,.ptr 0 0,.any,.any,.any,.any,.b q] [sN [.str t,.slo 9 0 (aa nl 1) 0,.nils,.z 0,.z 1,.z (-1),.z f,.b false],sD,sD,some (.iter t p),some o,sD,sN [.str (aY t (ae s) (ae ↑(am t))),.z f],sC (bM (bf wx 0 (aJ nw 2)) [.str (aY t (ae s) (ae ↑(am t))),.z f]) 2,sN [.slo 7 0 (aa nw 1) 0,.z c],sC (bM (bf lx 0 (aJ nl 2)) [.slo 7 0 (aa nw 1) 0,.z c]) 2] []) (ck (ag (aa nl 1) 1000000) <|
 ck (ag (aa 0 (aJ nl 2)) (aG lx)) <|
 ck (bR nl nl) <|
 ck (bR nl nl) <|
 K .normal [.str t,.nils,.ptr 0 0,.any,.any,.any,.any,.b q] [sN [.str t,.slo 7 0 (aa nl 1) 0,.nils,.z 0,.z 1,.z (-1),.z f,.b false],sD,sC wx 2,some (.iter t p),some o,sD,sN [.slo 2 0 nw 0,.z c],sC (bM (bf lx 0 (aJ nl 2)) [.slo 2 0 nw 0,.z c]) 2] [])) (ck (ag (aa nl 1) 1000000) <|
 ck (ag (aa 0 (aJ nl 2)) (aG lx)) <|
 ck (bR nl nl) <|
 ck (bR nl nl) <|
 K .normal [.str t,.nils,.ptr 0 0,.any,.any,.any,.any,.b q] [sN [.str t,.slo 7 0 (aa nl 1) 0,.nils,.z 0,.z 1,.z (-1),.z f,.b false],sD,sC wx 2,some (.iter t p),some o,sD,sN [.slo 2 0 nw 0,.z e],sC (bM (bf lx 0 (aJ nl 2)) [.slo 2 0 nw 0,.z e]) 2] [])) (K .normal [.str t,.nils,.ptr 0 0,.any,.any,.any,.any,.b q] [sN [.str t,.slo 1 0 nl 0,.slo 2 0 nw 0,.z e,.z c,.z s,.z f,.b m],sC lx 2,sC wx 2,some (.iter t p),some o,sD] [])):=ak
theorem PL (t:ap) (nl nw:Nat) (e c s f:Int) (m:Bool) (lx wx:al) (p:Nat) (o:LB) (K:Pk):(bc prog oP 60 34 ((sp prog 46).drop 7) (aF 34 (td t)) (ai (ui t nl nw e c s f m lx wx p o) []) (vK lX K))=(
 K .ret [.str t,.slo 1 0 nl 0,.ptr 0 0,.any,.any,.any,.any,.any] [sN [.str t,.slo 1 0 nl 0,.slo 2 0 nw 0,.z e,.z c,.z s,.z f,.b m],sC lx 2,sC wx 2,some (.iter t p),some o,sD] []):=ak
theorem PO (t:ap) (nl:Nat) (f:Int) (lx:al) (p:Nat) (o:LB) (K:Pk):(bc prog oP 60 34 (bS (cG (ce (bi (sp prog 46) 4))) 0 0) (aF 34 (sI t)) (ai (yV t nl f lx p o) []) (vK lX K))=(
 K .normal [.str t,.nils,.ptr 0 0,.any,.any,.ptr 3 0,.any,.any] [sN [.str t,.slo 1 0 nl 0,.nils,.z 0,.z 1,.z (-1),.z f,.b false],sC lx 2,sD,some (.iter t p),sD,sD,some o,sD] []):=ak
theorem PM (t:ap) (nl:Nat) (f:Int) (lx:al) (p:Nat) (o:LB) (K:Pk):(bc prog oP 60 34 ((sp prog 46).drop 7) (aF 34 (td t)) (ai (yV t nl f lx p o) []) (vK lX K))=(
 K .ret [.str t,.slo 1 0 nl 0,.ptr 0 0,.any,.any,.any,.any,.any] [sN [.str t,.slo 1 0 nl 0,.nils,.z 0,.z 1,.z (-1),.z f,.b false],sC lx 2,sD,some (.iter t p),sD,sD,some o,sD] []):=ak
abbrev Wd:=ap×Int
abbrev lu (x:Wd):al:=[.str x.1,.z x.2]
structure ic where
 ws:List Wd
 e:Int
structure LnV where
 v:Value
 s:ic
abbrev ik (x:LnV):al:=[.val x.v,.z x.s.e]
theorem VG (x:Wd):(lu x).length=2:=rfl
theorem EB (x:LnV):(ik x).length=2:=rfl
theorem zI (xs:List Wd):(aj lu xs).length=xs.length * 2:=iW VG xs
theorem p8 (xs:List LnV):(aj ik xs).length=xs.length * 2:=iW EB xs
theorem mT (xs:List Wd):a1u (aj lu xs)=true:=iu (fun _=>rfl) xs
theorem pv (xs:List LnV):a1u (aj ik xs)=true:=iu (fun _=>rfl) xs
theorem JJ (xs:List Wd) (a:ap) (z:Int):bM (bf (aj lu xs) 0 (xs.length * 2)) [.str a,.z z]=aj lu (xs++[(a,z)]):=by
 rw [j0 (by rw [zI]; omega),g9]; rfl
theorem DQ (xs:List Wd):(aj lu xs).all mc=true:=by
 induction xs with
 | nil=>rfl
 | cons x r ih=>rw [aj,List.all_append,ih]; rfl
theorem Sk (xs:List LnV):(aj ik xs).all mc=true:=by
 induction xs with
 | nil=>rfl
 | cons x r ih=>rw [aj,List.all_append,ih]; rfl
structure eE where
 ws:List Wd
 e:Int
 c:Int
 s:Int
 f:Int
 m:Bool
def g_ (t:ap) (S:eE) (i:Nat):List Wd:=if S.s = -1 then S.ws else S.ws++[(aY t (ae S.s) i,S.f)]
def fZ (t:ap) (S:eE) (i:Nat):ic:=if S.m then⟨S.ws,S.e⟩ else⟨g_ t S i,S.c⟩
def iK (S:eE):eE:=⟨[],0,1,-1,S.f,false⟩
def eW (t:ap) (S:eE) (i:Nat) (r:Int):eE :=
 if S.m then { S with c:=S.c+1 }
 else if r=59 then⟨g_ t S i,S.c,S.c+1,-1,S.f,true⟩
 else if r=32∨r=9 then⟨g_ t S i,S.e,S.c+1,-1,S.f,false⟩
 else if S.s = -1 then⟨S.ws,S.e,S.c+1,i,S.c,false⟩
 else { S with c:=S.c+1 }
def fx (t:ap) (p:Nat) (S:eE):List ic :=
 if h:p < t.length then
  if aM t p=10 then fZ t S p::fx t (p+aP t p) (iK S) else fx t (p+aP t p) (eW t S p (aM t p))
 else if 1 < S.c then [fZ t S t.length] else []
termination_by t.length - p
decreasing_by all_goals (have:=fF h; omega)
def i4:eE:=⟨[],0,1,-1,0,false⟩
def gp (t:ap):List ic:=fx t 0 i4
structure d2x (t:ap) (p:Nat) (S:eE):Prop where
 ht:t.length≤4000
 hp:p≤t.length
 hc:1≤S.c∧S.c≤p+1
 hf:0≤S.f∧S.f≤p+1
 hs:S.s = -1∨0≤S.s∧S.s≤p
 hw:S.ws.length≤p
theorem EO {t:ap} {S:eE} {i:Nat}:(g_ t S i).length≤S.ws.length+1:=by unfold g_; split <;> simp
theorem d2x.next {t:ap} {p:Nat} {S:eE} (h:d2x t p S) (hp:p < t.length) (r:Int):d2x t (p+aP t p) (eW t S p r):=by
 have hw:=fF hp;obtain⟨h1,h2,h3,h4,h5,h6⟩:=h;have hl:=EO (t:=t) (S:=S) (i:=p);unfold eW;split
 ·exact yK
 ·split
  ·exact yK
  ·split
   ·exact yK
   ·split
    iterate 2
     ·exact yK
theorem d2x.line {t:ap} {p:Nat} {S:eE} (h:d2x t p S) (hp:p < t.length):d2x t (p+aP t p) (iK S):=by
 have hw:=fF hp;obtain⟨h1,h2,h3,h4,h5,h6⟩:=h;exact⟨h1,hw.2,⟨by simp only [iK]; omega,by simp only [iK]; omega⟩,⟨by simp only [iK]; omega,by simp only [iK]; omega⟩,.inl rfl,by simp [iK]⟩
theorem d2x.zero {t:ap} (h:t.length≤4000):d2x t 0 i4:=⟨h,ab,⟨by simp [i4],by simp [i4]⟩,⟨by simp [i4],by simp [i4]⟩,.inl rfl,by simp [i4]⟩
structure StL (q:SQ) (ls:List LnV):Prop where
 c:∀ W,q.F W→∀ x∈ls,a4n W x.v x.s.ws.length (aj lu x.s.ws)
theorem StL.push {q q':SQ} {ls:List LnV} {v:Value} {L:ic} {n:Nat} {cs:al} (h:StL q ls) (hn:n=L.ws.length) (hc:cs=aj lu L.ws) (hq:q'.F=fun W=>q.F W∧a4n W v n cs):StL q' (ls++[⟨v,L⟩]):=by
 subst hn hc;refine⟨fun W hW x hx=>?_⟩;rw [hq] at hW;rcases gz.1 hx with hx | hx
 ·exact h.c W hW.1 x hx
 ·rw [k_.1 hx]; exact hW.2
theorem StL.nil:StL DF []:=⟨fun _ _ x hx=>by simp at hx⟩
theorem HS (ls:List LnV) (a b:LV):(aj ik ls++[a,b])[ls.length * 2]? = some a:=by
 rw [kb (by rw [p8]; omega),p8]; simp
theorem Iq (ls:List LnV) (a:LV) (v:Value) (L:ic):(aj ik ls++[a,.z L.e]).set (ls.length * 2) (.val v)=aj ik (ls++[⟨v,L⟩]):=by
 rw [List.set_append_right _ _ (by rw [p8]; omega),p8,g9]; simp [aj]
theorem Kg {ρ : a4c}:∀ {cs:al},a1u cs=true→a7h ρ cs cs
 | [],_=>cA
 | c::cs,h=>by
   have h':=ml.1 h;exact aV (cY (h' c aC)) (Kg (ml.2 fun x hx=>h' x (by simp [hx])))
theorem Jc {ρ : a4c}:∀ {a a' b b':al},a7h ρ a a'→a7h ρ b b'→a7h ρ (a++b) (a'++b')
 | [],[],b,b',_,k=>k
 | x::a,y::a',b,b',h,k=>by simp only [a7h] at h; exact aV h.1 (Jc h.2 k)
 | [],_::_,b,b',h,k=>by simp only [a7h] at h
 | _::_,[],b,b',h,k=>by simp only [a7h] at h
theorem k9 {ρ : a4c} {c:Nat} {cs tl tl':al} {op:Option Nat} (hno:a1u cs=true) (h:a7h ρ tl tl') (k:LV.any ∉ tl):LBW ρ (.id c) (.cells (cs++tl) op) (some (.cells (cs++tl') op)) :=
 dF (Jc (Kg hno) h) fun hm=>(gz.1 hm).elim (fun h=>ym hno h) k
structure X_ (t:ap) where
 q:SQ
 ls:List LnV
 S:eE
 pd:Option ic
 p:Nat
 hS:StL q ls
 hO:d2x t p S
 hl:ls.length+pd.toList.length≤p
 hR:ls.map LnV.s++(pd.toList++fx t p S)=gp t
 hP:∀ L,pd=some L→S=iK S
structure Ya (t:ap) where
 q:SQ
 ls:List LnV
 S:eE
 pd:Option ic
 hS:StL q ls
 hR:ls.map LnV.s++pd.toList=gp t
abbrev fU (t:ap) (o:LB) (ls:List LnV) (S:eE) (p:Nat) (pd:Option ic):a9:=match pd with
 | none=>ui t ls.length S.ws.length S.e S.c S.s S.f S.m (aj ik ls) (aj lu S.ws) p o
 | some L=>MW t (ls.length+1) L.ws.length S.f (aj ik ls++[.slo 2 0 L.ws.length 0,.z L.e]) (aj lu L.ws) p o
theorem Ip (ls:List LnV) (tl:al):bM (bf (aj ik ls) 0 (ls.length * 2)) tl=aj ik ls++tl:=by
 rw [j0 (by rw [p8]; omega)]; rfl
set_option maxHeartbeats 4000000 in
theorem Kw (t:ap) (o:LB) (ls:List LnV) (S:eE) (p:Nat) (ho:o=.dead∨∃ F,o=.obj bG [.fact F] 5) (hO:d2x t p S) (hl:ls.length≤p) (hp:p < t.length) (K:Pk)
  (hK:∀ (S':eE) (pd:Option ic) (ρ : List Src) (vs:al) (bs:bE),fx t p S=pd.toList++fx t (p+aP t p) S'→d2x t (p+aP t p) S'→(∀ L,pd=some L→S'=iK S')→gJ 0 34 lX vs bs ρ (sI t) (fU t o ls S' (p+aP t p) pd)→K .normal vs bs []) :
  bc prog oP 60 34 ((cG (ce (bi (sp prog 46) 4))).drop 2) (aF 34 (zF t p (aM t p))) (ai (fU t o ls S (p+aP t p) none) []) (vK lX K):=by
 obtain⟨ws,e,c,s,f,m⟩:=S;have nl:=pv ls; have nw:=mT ws;have lnn:=p8 ls; have wnn:=zI ws;have wp:=JJ ws;have lcat:=Ip ls;have z1:ag (ls.length+1) 1000000=true:=aO (by have:=hO.ht; omega);have z2:ag (ls.length * 2) (ls.length * 2)=true:=aO (aR _);have z3:bR ls.length ls.length=true:=n7 rfl;have hw:=fF hp;have hO1:=hO.line hp;have hO2:=hO.next hp (aM t p);have e1:au .add .i64 c 1=c+1:=by have:=hO.hc; have:=hO.ht; dsimp only at *; exact gb (by show _≤c+1; omega) (by show c+1≤_; omega)
 dsimp only [fU];rw [PJ]; simp only [ye,EM];by_cases r1:aM t p=10
 ·have y1:ad .eql (aM t p) 10=true:=cD r1;have hG:fx t p ⟨ws,e,c,s,f,m⟩=[fZ t ⟨ws,e,c,s,f,m⟩ p]++fx t (p+aP t p) ⟨[],0,1,-1,f,false⟩:=by rw [fx,dif_pos hp,aB r1]; rfl
  rcases ho with rfl | ⟨F,rfl⟩
  iterate 2
   ·cases m with
    | true =>
      have hR : [fZ t ⟨ws,e,c,s,f,true⟩ p]=[⟨ws,e⟩]:=by simp [fZ]
      have y2:bu true=false:=rfl;simp only [y1,y2,z1,z2,z3,wnn,lnn,lcat,cm,bP,b_,bV,aw,aD];refine hK ⟨[],0,1,-1,f,false⟩ (some ⟨ws,e⟩) [.id 0,.id 7,.id 2,.id 3,.id 4,.id 5] _ _ BK hO1 (fun _ _=>rfl) ?_
      (refine⟨ak,?_,?_⟩ <;> repeat first | exact jC | refine jE ?_ ?_ | exact jD | refine jF ?_ ?_ | exact cA | refine aV ?_ ?_ | exact eD | exact jB | exact be fu | exact gx rfl | refine k9 fu ?_ aC | refine dF ?_ aC | exact cY rfl | exact gM rfl | exact bC rfl)
    | false =>
      have y2:bu false=true:=rfl;by_cases hs:s = -1
      ·have hR : [fZ t ⟨ws,e,c,s,f,false⟩ p]=[⟨ws,c⟩]:=by simp [fZ,g_,hs]
       have y3:ad .neq s (-1)=false:=lN hs;simp only [y1,y2,y3,z1,z2,z3,wnn,lnn,lcat,cm,bP,b_,bV,aw,aD];refine hK ⟨[],0,1,-1,f,false⟩ (some ⟨ws,c⟩) [.id 0,.id 7,.id 2,.id 3,.id 4,.id 5] _ _ BK hO1 (fun _ _=>rfl) ?_
       (refine⟨ak,?_,?_⟩ <;> repeat first | exact jC | refine jE ?_ ?_ | exact jD | refine jF ?_ ?_ | exact cA | refine aV ?_ ?_ | exact eD | exact jB | exact be fu | exact gx rfl | refine k9 fu ?_ aC | refine dF ?_ aC | exact cY rfl | exact gM rfl | exact bC rfl)
      ·have hR : [fZ t ⟨ws,e,c,s,f,false⟩ p]=[⟨ws++[(aY t (ae s) p,f)],c⟩]:=by simp [fZ,g_,hs]
       have y3:ad .neq s (-1)=true:=kA hs;have x1:b9 s=true:=qH.2 wo;have x2:ag (ae s) p=true:=aO wt;have x3:ag p (am t)=true:=aO (show p≤t.length by omega);have x4:ag (ws.length+1) 1000000=true:=aO wq;have x5:ag (ws.length * 2) (ws.length * 2)=true:=aO (aR _);have x6:bR ws.length ws.length=true:=n7 rfl;simp only [y1,y2,y3,z1,z2,z3,x1,x2,x3,x4,x5,x6,wnn,lnn,lcat,cm,bP,b_,bV,aw,aD];have wp1:=wp (aY t (ae s) p) f;have nw1:=mT (ws++[(aY t (ae s) p,f)]);have lw1:(ws++[(aY t (ae s) p,f)]).length=ws.length+1:=aC;refine hK ⟨[],0,1,-1,f,false⟩ (some ⟨ws++[(aY t (ae s) p,f)],c⟩) [.id 0,.id 9,.id 7,.id 3,.id 4,.id 5] _ _ BK hO1 (fun _ _=>rfl) ?_;dsimp only [fU];rw [lw1,← wp1];rw [← wp1] at nw1
       (refine⟨ak,?_,?_⟩ <;> repeat first | exact jC | refine jE ?_ ?_ | exact jD | refine jF ?_ ?_ | exact cA | refine aV ?_ ?_ | exact eD | exact jB | exact be fu | exact gx rfl | refine k9 fu ?_ aC | refine dF ?_ aC | exact cY rfl | exact gM rfl | exact bC rfl)
 ·have y1:ad .eql (aM t p) 10=false:=cF r1;have hR:fx t p ⟨ws,e,c,s,f,m⟩=fx t (p+aP t p) (eW t ⟨ws,e,c,s,f,m⟩ p (aM t p)):=by rw [fx,dif_pos hp,av r1]
  rcases ho with rfl | ⟨F,rfl⟩
  iterate 2
   ·cases m with
    | true =>
      simp only [y1,e1,aw,aD];have eS:eW t ⟨ws,e,c,s,f,true⟩ p (aM t p)=⟨ws,e,c+1,s,f,true⟩:=by simp [eW,g_]
      refine hK ⟨ws,e,c+1,s,f,true⟩ none [.id 0,.id 1,.id 2,.id 3,.id 4,.id 5] _ _ pO pP (fun _ h=>by cases h) ?_
      (refine⟨ak,?_,?_⟩ <;> repeat first | exact jC | refine jE ?_ ?_ | exact jD | refine jF ?_ ?_ | exact cA | refine aV ?_ ?_ | exact eD | exact jB | exact be fu | exact gx rfl | refine k9 fu ?_ aC | refine dF ?_ aC | exact cY rfl | exact gM rfl | exact bC rfl)
    | false =>
      by_cases r2:aM t p=59
      ·have y2:ad .eql (aM t p) 59=true:=cD r2;by_cases hs:s = -1
       ·subst hs;have y3:ad .neq (-1) (-1)=false:=lN rfl;simp only [y1,y2,y3,e1,aw,aD];have eS:eW t ⟨ws,e,c,-1,f,false⟩ p (aM t p)=⟨ws,c,c+1,-1,f,true⟩:=by simp [eW,g_,r2]
        refine hK ⟨ws,c,c+1,-1,f,true⟩ none [.id 0,.id 1,.id 2,.id 3,.id 4,.id 5] _ _ pO pP (fun _ h=>by cases h) ?_
        (refine⟨ak,?_,?_⟩ <;> repeat first | exact jC | refine jE ?_ ?_ | exact jD | refine jF ?_ ?_ | exact cA | refine aV ?_ ?_ | exact eD | exact jB | exact be fu | exact gx rfl | refine k9 fu ?_ aC | refine dF ?_ aC | exact cY rfl | exact gM rfl | exact bC rfl)
       ·have y3:ad .neq s (-1)=true:=kA hs;have x1:b9 s=true:=qH.2 wo;have x2:ag (ae s) p=true:=aO wt;have x3:ag p (am t)=true:=aO (show p≤t.length by omega);have x4:ag (ws.length+1) 1000000=true:=aO wq;have x5:ag (ws.length * 2) (ws.length * 2)=true:=aO (aR _);have x6:bR ws.length ws.length=true:=n7 rfl;simp only [y1,y2,y3,e1,x1,x2,x3,x4,x5,x6,wnn,lnn,lcat,cm,bP,b_,bV,aw,aD];have eS:eW t ⟨ws,e,c,s,f,false⟩ p (aM t p)=⟨ws++[(aY t (ae s) p,f)],c,c+1,-1,f,true⟩:=by simp [eW,g_,r2,hs]
        have wp1:=wp (aY t (ae s) p) f;have nw1:=mT (ws++[(aY t (ae s) p,f)]);have lw1:(ws++[(aY t (ae s) p,f)]).length=ws.length+1:=aC;refine hK ⟨ws++[(aY t (ae s) p,f)],c,c+1,-1,f,true⟩ none [.id 0,.id 1,.id 7,.id 3,.id 4,.id 5] _ _ pO pP (fun _ h=>by cases h) ?_;dsimp only [fU];rw [lw1,← wp1];rw [← wp1] at nw1
        (refine⟨ak,?_,?_⟩ <;> repeat first | exact jC | refine jE ?_ ?_ | exact jD | refine jF ?_ ?_ | exact cA | refine aV ?_ ?_ | exact eD | exact jB | exact be fu | exact gx rfl | refine k9 fu ?_ aC | refine dF ?_ aC | exact cY rfl | exact gM rfl | exact bC rfl)
      ·have y2:ad .eql (aM t p) 59=false:=cF r2;by_cases r3:aM t p=32
       ·have y4:ad .eql (aM t p) 32=true:=cD r3;by_cases hs:s = -1
        ·subst hs;have y3:ad .neq (-1) (-1)=false:=lN rfl;simp only [y1,y2,y3,y4,e1,aw,aD];have eS:eW t ⟨ws,e,c,-1,f,false⟩ p (aM t p)=⟨ws,e,c+1,-1,f,false⟩:=by simp [eW,g_,r3]
         refine hK ⟨ws,e,c+1,-1,f,false⟩ none [.id 0,.id 1,.id 2,.id 3,.id 4,.id 5] _ _ pO pP (fun _ h=>by cases h) ?_
         (refine⟨ak,?_,?_⟩ <;> repeat first | exact jC | refine jE ?_ ?_ | exact jD | refine jF ?_ ?_ | exact cA | refine aV ?_ ?_ | exact eD | exact jB | exact be fu | exact gx rfl | refine k9 fu ?_ aC | refine dF ?_ aC | exact cY rfl | exact gM rfl | exact bC rfl)
        ·have y3:ad .neq s (-1)=true:=kA hs;have x1:b9 s=true:=qH.2 wo;have x2:ag (ae s) p=true:=aO wt;have x3:ag p (am t)=true:=aO (show p≤t.length by omega);have x4:ag (ws.length+1) 1000000=true:=aO wq;have x5:ag (ws.length * 2) (ws.length * 2)=true:=aO (aR _);have x6:bR ws.length ws.length=true:=n7 rfl;simp only [y1,y2,y3,y4,e1,x1,x2,x3,x4,x5,x6,wnn,lnn,lcat,cm,bP,b_,bV,aw,aD];have eS:eW t ⟨ws,e,c,s,f,false⟩ p (aM t p)=⟨ws++[(aY t (ae s) p,f)],e,c+1,-1,f,false⟩:=by simp [eW,g_,r3,hs]
         have wp1:=wp (aY t (ae s) p) f;have nw1:=mT (ws++[(aY t (ae s) p,f)]);have lw1:(ws++[(aY t (ae s) p,f)]).length=ws.length+1:=aC;refine hK ⟨ws++[(aY t (ae s) p,f)],e,c+1,-1,f,false⟩ none [.id 0,.id 1,.id 7,.id 3,.id 4,.id 5] _ _ pO pP (fun _ h=>by cases h) ?_;dsimp only [fU];rw [lw1,← wp1];rw [← wp1] at nw1
         (refine⟨ak,?_,?_⟩ <;> repeat first | exact jC | refine jE ?_ ?_ | exact jD | refine jF ?_ ?_ | exact cA | refine aV ?_ ?_ | exact eD | exact jB | exact be fu | exact gx rfl | refine k9 fu ?_ aC | refine dF ?_ aC | exact cY rfl | exact gM rfl | exact bC rfl)
       ·have y4:ad .eql (aM t p) 32=false:=cF r3;by_cases r4:aM t p=9
        ·have y5:ad .eql (aM t p) 9=true:=cD r4;by_cases hs:s = -1
         ·subst hs;have y3:ad .neq (-1) (-1)=false:=lN rfl;simp only [y1,y2,y3,y4,y5,e1,aw,aD];have eS:eW t ⟨ws,e,c,-1,f,false⟩ p (aM t p)=⟨ws,e,c+1,-1,f,false⟩:=by simp [eW,g_,r4]
          refine hK ⟨ws,e,c+1,-1,f,false⟩ none [.id 0,.id 1,.id 2,.id 3,.id 4,.id 5] _ _ pO pP (fun _ h=>by cases h) ?_
          (refine⟨ak,?_,?_⟩ <;> repeat first | exact jC | refine jE ?_ ?_ | exact jD | refine jF ?_ ?_ | exact cA | refine aV ?_ ?_ | exact eD | exact jB | exact be fu | exact gx rfl | refine k9 fu ?_ aC | refine dF ?_ aC | exact cY rfl | exact gM rfl | exact bC rfl)
         ·have y3:ad .neq s (-1)=true:=kA hs;have x1:b9 s=true:=qH.2 wo;have x2:ag (ae s) p=true:=aO wt;have x3:ag p (am t)=true:=aO (show p≤t.length by omega);have x4:ag (ws.length+1) 1000000=true:=aO wq;have x5:ag (ws.length * 2) (ws.length * 2)=true:=aO (aR _);have x6:bR ws.length ws.length=true:=n7 rfl;simp only [y1,y2,y3,y4,y5,e1,x1,x2,x3,x4,x5,x6,wnn,lnn,lcat,cm,bP,b_,bV,aw,aD];have eS:eW t ⟨ws,e,c,s,f,false⟩ p (aM t p)=⟨ws++[(aY t (ae s) p,f)],e,c+1,-1,f,false⟩:=by simp [eW,g_,r4,hs]
          have wp1:=wp (aY t (ae s) p) f;have nw1:=mT (ws++[(aY t (ae s) p,f)]);have lw1:(ws++[(aY t (ae s) p,f)]).length=ws.length+1:=aC;refine hK ⟨ws++[(aY t (ae s) p,f)],e,c+1,-1,f,false⟩ none [.id 0,.id 1,.id 7,.id 3,.id 4,.id 5] _ _ pO pP (fun _ h=>by cases h) ?_;dsimp only [fU];rw [lw1,← wp1];rw [← wp1] at nw1
          (refine⟨ak,?_,?_⟩ <;> repeat first | exact jC | refine jE ?_ ?_ | exact jD | refine jF ?_ ?_ | exact cA | refine aV ?_ ?_ | exact eD | exact jB | exact be fu | exact gx rfl | refine k9 fu ?_ aC | refine dF ?_ aC | exact cY rfl | exact gM rfl | exact bC rfl)
        ·have y5:ad .eql (aM t p) 9=false:=cF r4;by_cases hs:s = -1
         ·have y6:ad .eql s (-1)=true:=cD hs;simp only [y1,y2,y4,y5,y6,e1,aw,aD];have eS:eW t ⟨ws,e,c,s,f,false⟩ p (aM t p)=⟨ws,e,c+1,p,c,false⟩:=by simp [eW,g_,r2,r3,r4,hs]
          refine hK ⟨ws,e,c+1,p,c,false⟩ none [.id 0,.id 1,.id 2,.id 3,.id 4,.id 5] _ _ pO pP (fun _ h=>by cases h) ?_
          (refine⟨ak,?_,?_⟩ <;> repeat first | exact jC | refine jE ?_ ?_ | exact jD | refine jF ?_ ?_ | exact cA | refine aV ?_ ?_ | exact eD | exact jB | exact be fu | exact gx rfl | refine k9 fu ?_ aC | refine dF ?_ aC | exact cY rfl | exact gM rfl | exact bC rfl)
         ·have y6:ad .eql s (-1)=false:=cF hs;simp only [y1,y2,y4,y5,y6,e1,aw,aD];have eS:eW t ⟨ws,e,c,s,f,false⟩ p (aM t p)=⟨ws,e,c+1,s,f,false⟩:=by simp [eW,g_,r2,r3,r4,hs]
          refine hK ⟨ws,e,c+1,s,f,false⟩ none [.id 0,.id 1,.id 2,.id 3,.id 4,.id 5] _ _ pO pP (fun _ h=>by cases h) ?_
          (refine⟨ak,?_,?_⟩ <;> repeat first | exact jC | refine jE ?_ ?_ | exact jD | refine jF ?_ ?_ | exact cA | refine aV ?_ ?_ | exact eD | exact jB | exact be fu | exact gx rfl | refine k9 fu ?_ aC | refine dF ?_ aC | exact cY rfl | exact gM rfl | exact bC rfl)
set_option maxHeartbeats 4000000 in
theorem T7 (t:ap) (o:LB) (ls:List LnV) (S:eE) (ho:o=.dead∨∃ F,o=.obj bG [.fact F] 5) (hO:d2x t t.length S) (hl:ls.length≤t.length) (K:Pk)
  (hK:∀ (S':eE) (pd:Option ic) (ρ : List Src) (vs:al) (bs:bE),[fZ t S t.length]=pd.toList→gJ 0 34 lX vs bs ρ (td t) (fU t o ls S' t.length pd)→K .normal vs bs []) :
  aX prog oP 60 34 (bi (sp prog 46) 6) (aF 34 (Dg t true)) (ai (fU t o ls S t.length none) []) (vK lX K):=by
 obtain⟨ws,e,c,s,f,m⟩:=S;have nl:=pv ls; have nw:=mT ws;have lnn:=p8 ls; have wnn:=zI ws;have wp:=JJ ws;have lcat:=Ip ls;have z1:ag (ls.length+1) 1000000=true:=aO (by have:=hO.ht; omega);have z2:ag (ls.length * 2) (ls.length * 2)=true:=aO (aR _);have z3:bR ls.length ls.length=true:=n7 rfl;dsimp only [fU];rw [Hy];have y1:true=true:=rfl;rcases ho with rfl | ⟨F,rfl⟩
 iterate 2
  ·cases m with
   | true =>
     have hR : [fZ t ⟨ws,e,c,s,f,true⟩ t.length]=[⟨ws,e⟩]:=by simp [fZ]
     have y2:bu true=false:=rfl;simp only [y2,z1,z2,z3,wnn,lnn,lcat,cm,bP,b_,bV,aw,aD];refine hK ⟨[],0,1,-1,f,false⟩ (some ⟨ws,e⟩) [.id 0,.id 7,.id 2,.id 3,.id 4,.id 5] _ _ BL ?_
     (refine⟨ak,?_,?_⟩ <;> repeat first | exact jC | refine jE ?_ ?_ | exact jD | refine jF ?_ ?_ | exact cA | refine aV ?_ ?_ | exact eD | exact jB | exact be fu | exact gx rfl | refine k9 fu ?_ aC | refine dF ?_ aC | exact cY rfl | exact gM rfl | exact bC rfl)
   | false =>
     have y2:bu false=true:=rfl;by_cases hs:s = -1
     ·have hR : [fZ t ⟨ws,e,c,s,f,false⟩ t.length]=[⟨ws,c⟩]:=by simp [fZ,g_,hs]
      have y3:ad .neq s (-1)=false:=lN hs;simp only [y2,y3,z1,z2,z3,wnn,lnn,lcat,cm,bP,b_,bV,aw,aD];refine hK ⟨[],0,1,-1,f,false⟩ (some ⟨ws,c⟩) [.id 0,.id 7,.id 2,.id 3,.id 4,.id 5] _ _ BL ?_
      (refine⟨ak,?_,?_⟩ <;> repeat first | exact jC | refine jE ?_ ?_ | exact jD | refine jF ?_ ?_ | exact cA | refine aV ?_ ?_ | exact eD | exact jB | exact be fu | exact gx rfl | refine k9 fu ?_ aC | refine dF ?_ aC | exact cY rfl | exact gM rfl | exact bC rfl)
     ·have hR : [fZ t ⟨ws,e,c,s,f,false⟩ t.length]=[⟨ws++[(aY t (ae s) t.length,f)],c⟩]:=by simp [fZ,g_,hs]
      have y3:ad .neq s (-1)=true:=kA hs;have x1:b9 s=true:=qH.2 wo;have x2:ag (ae s) t.length=true:=aO wt;have x3:ag t.length t.length=true:=aO (show t.length≤t.length by omega);have x4:ag (ws.length+1) 1000000=true:=aO wq;have x5:ag (ws.length * 2) (ws.length * 2)=true:=aO (aR _);have x6:bR ws.length ws.length=true:=n7 rfl;have x7:ae ((t.length:Nat):Int)=t.length:=rfl;have x8:am t=t.length:=rfl;simp only [y2,y3,z1,z2,z3,x7,x8,x1,x2,x3,x4,x5,x6,wnn,lnn,lcat,cm,bP,b_,bV,aw,aD];have wp1:=wp (aY t (ae s) t.length) f;have nw1:=mT (ws++[(aY t (ae s) t.length,f)]);have lw1:(ws++[(aY t (ae s) t.length,f)]).length=ws.length+1:=aC;refine hK ⟨[],0,1,-1,f,false⟩ (some ⟨ws++[(aY t (ae s) t.length,f)],c⟩) [.id 0,.id 9,.id 7,.id 3,.id 4,.id 5] _ _ BL ?_;dsimp only [fU];rw [lw1,← wp1];rw [← wp1] at nw1
      (refine⟨ak,?_,?_⟩ <;> repeat first | exact jC | refine jE ?_ ?_ | exact jD | refine jF ?_ ?_ | exact cA | refine aV ?_ ?_ | exact eD | exact jB | exact be fu | exact gx rfl | refine k9 fu ?_ aC | refine dF ?_ aC | exact cY rfl | exact gM rfl | exact bC rfl)
theorem Ed (q:SQ) (γ : Nat):e_ q γ = .dead∨∃ F,e_ q γ = .obj bG [.fact F] γ:=by
 obtain⟨F,e,h⟩:=q;cases e
 ·exact .inr ⟨F,rfl⟩
 ·exact .inl rfl
set_option maxHeartbeats 4000000 in
theorem Wa (t:ap) (ht:t.length≤4000):a0j prog 46 [.str t] (ai [] []) fun l s=>∃ (q:SQ) (ls:List LnV),StL q ls∧ls.map LnV.s=gp t∧l=.slo 0 0 ls.length 0∧s=ai [.cells (aj ik ls) (some 2),e_ q 2,.dead] []:=by
 refine a0j.mono (a0j.i3y (Q:=fun l b=>∃ (q:SQ) (ls:List LnV),StL q ls∧ls.map LnV.s=gp t∧l=.slo 0 0 ls.length 0∧b=[.cells (aj ik ls) (some 2),e_ q 2,.dead]) 34 0 lX [2] ak rfl rfl rfl ?_) fun l s' ⟨b0,⟨q,ls,h1,h2,h3,h4⟩,h5⟩=>⟨q,ls,h1,h2,h3,by rw [h5,h4]⟩
 refine SSp.to cJ (n:=60) (g:=[]) 4 4 rfl (σ:=Unit) (fun _=>sI t) (fun _=>fU t (e_ DF 5) [] i4 0 none) (bh (bk _)) ak ?_ fun _=>?_
 ·rw [PI]; exact⟨rfl,(),[.id 0,.none,.none,.id 1,.none,.none],by(exact zC)⟩
 refine SSp.code_to (g:=[]) 5 rfl (σ:={x:SQ×List LnV×eE // StL x.1 x.2.1∧d2x t t.length x.2.2∧x.2.1.length≤t.length∧x.2.1.map LnV.s++fx t t.length x.2.2=gp t}) (fun _=>td t) (fun x=>fU t (e_ x.1.1 5) x.1.2.1 x.1.2.2 t.length none) ak ?_ fun⟨⟨q,ls,S⟩,hS,hO,hl,hR⟩=>?_
 ·refine a0n.i4d 0 ak (σ:=X_ t) (fun _=>sI t) (fun x=>fU t (e_ x.q 5) x.ls x.S x.p x.pd) (fun x=>t.length - x.p) (fun x=>bk _) (fun⟨q,ls,S,pd,p,hS,hO,hl,hR,hP⟩=>?_) ⟨DF,[],i4,none,0,StL.nil,d2x.zero ht,aC,by simp [gp],fun L h=>by cases h⟩;dsimp only;cases pd with
  | none =>
    have hR0:ls.map LnV.s++fx t p S=gp t:=hR;have hl0:ls.length≤p:=by simpa using hl
    have nl:=pv ls; have nw:=mT S.ws;refine SSp.to cJ (n:=60) (g:=[]) 2 2 rfl (σ:={_u:Unit // p < t.length}) (fun _=>zF t p (aM t p)) (fun _=>fU t (e_ q 5) ls S (p+aP t p) none) (bh (bk _)) ak ?_ fun⟨_,hp⟩=>?_
    ·dsimp only [fU];rw [Hx];by_cases hp:p < t.length
     ·have y0:ag (aa p 1) (am t)=true:=aO (show p+1≤t.length by omega);rw [y0];dsimp only [cond_true];obtain⟨F',e',h'⟩:=q;cases e' <;> exact⟨rfl,⟨(),hp⟩,[.id 0,.id 1,.id 2,.id 3,.id 4,.id 5],by(exact zC)⟩
     ·have y0:ag (aa p 1) (am t)=false:=uS (show t.length < p+1 by omega);rw [y0];dsimp only [cond_false];have ep:p=t.length:=by have:=hO.hp; omega
      refine⟨rfl,⟨(q,ls,S),hS,ep▸hO,by rw [← ep]; exact hl0,by rw [← ep]; exact hR0⟩,[.id 0,.id 1,.id 2,.id 3,.id 4,.id 5],?_⟩;dsimp only [fU];rw [← ep];obtain⟨F',e',h'⟩:=q;cases e' <;> (exact zC)
    refine SSp.last cJ (n:=60) (bh (bk _)) ?_;have hw:=fF hp;refine Kw t (e_ q 5) ls S p (Ed q 5) hO hl0 hp _ fun S' pd ρ vs bs hG hO' hP' hc=>?_
    have hpl:ls.length+pd.toList.length≤p+aP t p:=by
     have:pd.toList.length≤1:=by cases pd <;> simp
     omega
    exact⟨rfl,⟨q,ls,S',pd,p+aP t p,hS,hO',hpl,by rw [← hG]; exact hR0,hP'⟩,by dsimp only; omega,ρ,hc⟩
  | some L =>
    have hP1:=hP L rfl;refine SSp.i3t 1 (ls.length * 2) 2 4 (γ:=5) (n:=L.ws.length) (cs:=aj lu L.ws) (op:=some 2) (q:=q) ak (bk _) rfl (HS ls _ _) ab ab rfl rfl (mT _) (fun h=>by rw [fY.1 h]; rfl) fun v q1 hq1=>?_
    have hS1:StL q1 (ls++[⟨v,L⟩]):=hS.push rfl rfl hq1;rw [Iq];change SSp _ _ _ _ (aF 34 (sI t)) (ai (yV t (ls.length+1) S.f (aj ik (ls++[⟨v,L⟩])) p (e_ q1 7)) []) _;have hln:(ls++[(⟨v,L⟩:LnV)]).length=ls.length+1:=aC;rw [← hln];have hl0:(ls++[(⟨v,L⟩:LnV)]).length≤p:=by simp at hl ⊢; omega
    have hR0:(ls++[(⟨v,L⟩:LnV)]).map LnV.s++fx t p S=gp t:=by rw [← hR]; simp
    have hP2:S.ws=[]∧S.e=0∧S.c=1∧S.s = -1∧S.m=false:=by rw [hP1]; exact⟨rfl,rfl,rfl,rfl,rfl⟩
    clear hln hq1;revert hl0 hR0 hS1;generalize ls++[(⟨v,L⟩:LnV)]=ls1;intro hS1 hl0 hR0;refine SSp.to cJ (n:=60) (g:=[]) 0 0 rfl (σ:=Unit) (fun _=>sI t) (fun _=>fU t (e_ q1 5) ls1 S p none) (bh (bk _)) ak ?_ fun _=>?_
    ·rw [PO];have nl:=pv ls1;dsimp only [fU];rw [hP2.1,hP2.2.1,hP2.2.2.1,hP2.2.2.2.1,hP2.2.2.2.2];obtain⟨F',e',h'⟩:=q1;cases e' <;> exact⟨rfl,(),[.id 0,.id 1,.none,.id 3,.id 6,.id 7],by(exact zC)⟩
    have nl:=pv ls1; have nw:=mT S.ws;refine SSp.to cJ (n:=60) (g:=[]) 2 2 rfl (σ:={_u:Unit // p < t.length}) (fun _=>zF t p (aM t p)) (fun _=>fU t (e_ q1 5) ls1 S (p+aP t p) none) (bh (bk _)) ak ?_ fun⟨_,hp⟩=>?_
    ·dsimp only [fU];rw [Hx];by_cases hp:p < t.length
     ·have y0:ag (aa p 1) (am t)=true:=aO (show p+1≤t.length by omega);rw [y0];dsimp only [cond_true];obtain⟨F',e',h'⟩:=q1;cases e' <;> exact⟨rfl,⟨(),hp⟩,[.id 0,.id 1,.id 2,.id 3,.id 4,.id 5],by(exact zC)⟩
     ·have y0:ag (aa p 1) (am t)=false:=uS (show t.length < p+1 by omega);rw [y0];dsimp only [cond_false];have ep:p=t.length:=by have:=hO.hp; omega
      refine⟨rfl,⟨(q1,ls1,S),hS1,ep▸hO,by rw [← ep]; exact hl0,by rw [← ep]; exact hR0⟩,[.id 0,.id 1,.id 2,.id 3,.id 4,.id 5],?_⟩;dsimp only [fU];rw [← ep];obtain⟨F',e',h'⟩:=q1;cases e' <;> (exact zC)
    refine SSp.last cJ (n:=60) (bh (bk _)) ?_;have hw:=fF hp;refine Kw t (e_ q1 5) ls1 S p (Ed q1 5) hO hl0 hp _ fun S' pd ρ vs bs hG hO' hP' hc=>?_
    have hpl:ls1.length+pd.toList.length≤p+aP t p:=by
     have:pd.toList.length≤1:=by cases pd <;> simp
     omega
    exact⟨rfl,⟨q1,ls1,S',pd,p+aP t p,hS1,hO',hpl,by rw [← hG]; exact hR0,hP'⟩,by dsimp only; omega,ρ,hc⟩
 have nl:=pv ls; have nw:=mT S.ws;refine SSp.to cJ (n:=60) (g:=[]) 1 6 rfl (σ:=Unit) (fun _=>Dg t (ad .gtr S.c 1)) (fun _=>fU t (e_ q 5) ls S t.length none) (bh (bk _)) ak ?_ fun _=>?_
 ·dsimp only [fU];rw [PK];obtain⟨F',e',h'⟩:=q;cases e' <;> exact⟨rfl,(),[.id 0,.id 1,.id 2,.id 3,.id 4,.id 5],by(exact zC)⟩
 refine SSp.code_to (g:=[]) 7 rfl (σ:=Ya t) (fun _=>td t) (fun x=>fU t (e_ x.q 5) x.ls x.S t.length x.pd) ak ?_ fun⟨q,ls,S,pd,hS,hR⟩=>?_
 ·refine a0n.vc cJ (n:=60) (bh (bk _)) ?_;dsimp only at hO hl hR hS ⊢;rw [fx,dif_neg ab] at hR;by_cases c1:1 < S.c
  ·rw [aB c1] at hR;rw [show ad .gtr S.c 1=true from iR c1];refine T7 t (e_ q 5) ls S (Ed q 5) hO hl _ fun S' pd ρ vs bs hL hc=>?_
   exact⟨rfl,⟨q,ls,S',pd,hS,by rw [← hL]; exact hR⟩,ρ,hc⟩
  ·rw [av c1,fR] at hR;dsimp only [fU];rw [Hy,show ad .gtr S.c 1=false from ia ab];simp only [aD];refine⟨rfl,⟨q,ls,S,none,hS,by simpa using hR⟩,[.id 0,.id 1,.id 2,.id 3,.id 4,.id 5],?_⟩;dsimp only [fU];obtain⟨F',e',h'⟩:=q;cases e' <;> (exact zC)
 dsimp only;cases pd with
 | none =>
   dsimp only [fU];refine SSp.last cJ (n:=60) (bh (bk _)) ?_;rw [PL];have nl:=pv ls;refine⟨trivial,rfl,_,_,[.id 1,.id 4,.id 5],⟨q,ls,hS,by simpa using hR,rfl,rfl⟩,?_⟩;obtain⟨F',e',h'⟩:=q;cases e' <;> (exact zC)
 | some L =>
   refine SSp.i3t 1 (ls.length * 2) 2 4 (γ:=5) (n:=L.ws.length) (cs:=aj lu L.ws) (op:=some 2) (q:=q) ak (bk _) rfl (HS ls _ _) ab ab rfl rfl (mT _) (fun h=>by rw [fY.1 h]; rfl) fun v q1 hq1=>?_
   have hS1:StL q1 (ls++[⟨v,L⟩]):=hS.push rfl rfl hq1;rw [Iq];change SSp _ _ _ _ (aF 34 (td t)) (ai (yV t (ls.length+1) S.f (aj ik (ls++[⟨v,L⟩])) t.length (e_ q1 7)) []) _;refine SSp.last cJ (n:=60) (bh (bk _)) ?_;rw [PM];have nl:=pv (ls++[(⟨v,L⟩:LnV)]);have hl1:(ls++[(⟨v,L⟩:LnV)]).length=ls.length+1:=aC;rw [← hl1];have hR1:(ls++[(⟨v,L⟩:LnV)]).map LnV.s=gp t:=by rw [← hR]; simp
   clear hl1;revert hR1 hS1 nl;generalize ls++[(⟨v,L⟩:LnV)]=ls1;intro hS1 nl hR1;refine⟨trivial,rfl,_,_,[.id 1,.id 6,.id 7],⟨q1,ls1,hS1,hR1,rfl,rfl⟩,?_⟩;obtain⟨F',e',h'⟩:=q1;cases e' <;> (exact zC)
end
end Go.Lev
