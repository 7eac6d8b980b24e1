import Derived.Test.YtnkkkihgljbllaaDoorCQ9
/- rows of numbers; the inmost one -/
namespace Go.Lev
set_option linter.unusedSimpArgs false
set_option linter.unusedVariables false
open Go.RowKit
open Go.Proofs.Tryd (prog)
set_option maxRecDepth 100000
noncomputable section
theorem t4 (xs:List Int):(aj (cI .i64) xs).length=xs.length:=by rw [iW (DP .i64)]; omega
theorem Xd {xs:List Int} {i:Nat} (h:i < xs.length):af (aj (cI .i64) xs) i=.z xs[i]:=by
 have:=gc (DP .i64) (j:=0) h ab;simp only [cU,gA] at this;exact this
theorem Lu (xs:List Int):a1u (aj (cI .i64) xs)=true:=iu (fun _=>rfl) xs
def sO (o:List Int):Int:=match o.getLast? with | none => -1 | some x=>x
theorem tS (o:List Int) (x:Int):sO (o++[x])=x:=by simp [sO]
theorem Wl (a lo hi:Int) (K:Fk):(fG prog (fun _=>none) 40 19 [.z a,.z lo,.z hi] (ai []) (vF K))=(
 ck (ad .neq (au .add .i64 (au .sub .i64 hi lo) 1) 0) <|
 cond (ad .lss (au .rem .i64 a (au .add .i64 (au .sub .i64 hi lo) 1)) 0) (K (.z (au .add .i64 lo (au .add .i64 (au .sub .i64 (au .add .i64 (au .rem .i64 a (au .add .i64 (au .sub .i64 hi lo) 1)) hi) lo) 1))) [] []) (K (.z (au .add .i64 lo (au .rem .i64 a (au .add .i64 (au .sub .i64 hi lo) 1)))) [] [])):=ak
def az (a lo hi:Int):Int:=lo+a % (hi - lo+1)
def AG:Gc:=fun args s=>match args,s.g with
 | [.int .i64 a,.int .i64 lo,.int .i64 hi],[]=>some ([ad .leq lo hi,ad .leq (-1000000) lo,ad .leq hi 1000000],.z (az a lo hi),s)
 | _,_=>none
theorem Wg (a m:Int) (hm:0 < m) : -m < a.tmod m∧a.tmod m < m∧(a.tmod m=a % m∨(a.tmod m < 0∧a.tmod m+m=a % m)):=by
 have hb:=Int.emod_nonneg a (b:=m) ab;have hc:=Int.emod_lt_of_pos a hm;rcases Int.lt_or_le a 0 with h | h
 ·have e:a.tmod m = -((-a).tmod m):=by have:=Int.neg_tmod (-a) m; rw [Int.neg_neg] at this; exact this
  have h6:0≤(-a).tmod m:=Int.tmod_nonneg _ ab;have h7:(-a).tmod m < m:=Int.tmod_lt_of_pos _ hm;refine⟨ab,ab,?_⟩;have h8:m ∣ a - a.tmod m:=Int.dvd_self_sub_tmod;have h9:m ∣ a - a % m:=Int.dvd_self_sub_emod;obtain⟨u,hu⟩:=h8;obtain⟨v,hv⟩:=h9;have hd:a % m - a.tmod m=m * (u - v):=by rw [Int.mul_sub]; omega
  by_cases h0:u - v ≤ -1
  ·have:m * (u - v)≤m * (-1):=Int.mul_le_mul_of_nonneg_left h0 ab;omega
  ·by_cases h1:u - v=0
   ·rw [h1] at hd; simp at hd; exact .inl ab
   ·by_cases h2:u - v=1
    ·rw [h2] at hd; simp at hd; exact .inr ⟨ab,ab⟩
    ·have:m * 2≤m * (u - v):=Int.mul_le_mul_of_nonneg_left ab ab;omega
 ·have h6:=Int.tmod_nonneg m h;exact⟨ab,Int.tmod_lt_of_pos _ hm,.inl (Int.tmod_eq_emod_of_nonneg h)⟩
theorem jY {a lo hi:Int} (h:lo≤hi):lo≤az a lo hi∧az a lo hi≤hi:=by
 simp only [az];have hb:=Int.emod_nonneg a (b:=hi - lo+1) ab;have hc:=Int.emod_lt_of_pos a (b:=hi - lo+1) ab;omega
theorem WM (a lo hi:Int) (h:lo≤hi) (h1 : -1000000≤lo) (h2:hi≤1000000):a0j prog 19 [.z a,.z lo,.z hi] (ai []) fun l s=>l=.z (az a lo hi)∧s=ai []:=by
 refine a0j.mono (a0j.vc (Q:=fun l b=>l=.z (az a lo hi)∧b=[]) cJ (n:=40) 0 rfl ?_) fun l s' ⟨b0,⟨h1,h2⟩,h3⟩=>⟨h1,by rw [h3,h2]⟩
 have hq:=Int.emod_nonneg a (b:=hi - lo+1) ab;have e1:au .sub .i64 hi lo=hi - lo:=rV ab ab;have e2:au .add .i64 (hi - lo) 1=hi - lo+1:=gb ab ab;have e3:au .rem .i64 a (hi - lo+1)=a.tmod (hi - lo+1):=AI _ _ _ ab;obtain⟨t1,t2,t3⟩:=Wg a (hi - lo+1) ab;rw [Wl,e1,e2,e3];refine N4 (kA ab) ?_;rw [oz];refine tK (fun hn=>?_) (fun hn=>?_)
 ·have e:au .add .i64 lo (au .add .i64 (au .sub .i64 (au .add .i64 (a.tmod (hi - lo+1)) hi) lo) 1)=az a lo hi:=by
   simp only [az];rw [gb (x:=a.tmod (hi - lo+1)) ab ab,rV ab ab,gb (x:=a.tmod (hi - lo+1)+hi - lo) ab ab,gb ab ab];omega
  rw [e];exact⟨rfl,_,[],[],⟨rfl,rfl⟩,by(exact zC)⟩
 ·have e:au .add .i64 lo (a.tmod (hi - lo+1))=az a lo hi:=by
   simp only [az];rw [gb ab ab]; omega
  rw [e];exact⟨rfl,_,[],[],⟨rfl,rfl⟩,by(exact zC)⟩
theorem LD:bX prog 19 AG:=by
 intro args s bs l s' hg hb hfr;unfold AG at hg;split at hg
 ·rename_i a lo hi hgl;simp only [a8,bn] at hg;obtain⟨rfl,rfl,rfl⟩:=hg;obtain⟨k1,hb⟩:=bv.1 hb;obtain⟨k2,hb⟩:=bv.1 hb;have k3:=(bv.1 hb).1;rw [iq,cu] at k1 k2 k3;exact a0j.i3s hfr hgl rfl rfl (WM a lo hi k1 k2 k3)
 ·cases hg
def CG:Cx:=eP [(19,AG)]
theorem IV:cT prog (cv CG):=fQ ⟨LD,trivial⟩
theorem RF (n:Int) (K:Fk):(fG prog CG 40 21 [.z n] (ai []) (vF K))=(
 K (.z (az n 0 6)) [] []):=ak
abbrev dw (w:Int) (a:Int) (b:Int) (c:Int) (n:Int):bE:=[sN [.z w,.z a,.z b,.z c,.int .u64 n],sN [.z 8,.z (az a 0 6),.z 7,.z (az c 6 15),.int .u64 0]]
abbrev d9 (w:Int) (a:Int) (b:Int) (c:Int) (n:Int):bE:=[sN [.z w,.z a,.z b,.z c,.int .u64 n],sN [.z 10,.z (az a 0 6),.z (az b 0 6),.z 0,.int .u64 0]]
abbrev d_ (w:Int) (a:Int) (b:Int) (c:Int) (n:Int):bE:=[sN [.z w,.z a,.z b,.z c,.int .u64 n],sN [.z 11,.z (az a 0 6),.z 0,.z 0,.int .u64 0]]
abbrev ef (w:Int) (a:Int) (b:Int) (c:Int) (n:Int):bE:=[sN [.z w,.z a,.z b,.z c,.int .u64 n],sN [.z 21,.z (az a 0 6),.z 0,.z 0,.int .u64 0]]
abbrev jq (w:Int) (a:Int) (b:Int) (c:Int) (n:Int):bE:=[sN [.z w,.z a,.z b,.z c,.int .u64 n],sN [.z 8,.z (az a 0 6),.z (az b 0 6),.z (az c 0 3),.int .u64 0]]
abbrev jr (w:Int) (a:Int) (b:Int) (c:Int) (n:Int):bE:=[sN [.z w,.z a,.z b,.z c,.int .u64 n],sN [.z 9,.z (az a 0 6),.z (az b 0 6),.z (az c 0 3),.int .u64 0]]
abbrev jt (w:Int) (a:Int) (b:Int) (c:Int) (n:Int):bE:=[sN [.z w,.z a,.z b,.z c,.int .u64 n],sN [.z 9,.z 7,.z (az b 0 6),.z (az c 6 15),.int .u64 0]]
abbrev Ku (w:Int) (a:Int) (b:Int) (c:Int) (n:Int):bE:=[sN [.z w,.z a,.z b,.z c,.int .u64 n],sN [.z (au .add .i64 3 (az (ay .i64 (au .rem .u64 n 64)) 0 4)),.z (az a 0 6),.z (az b 0 6),.z (az c 0 6),.int .u64 0]]
abbrev Kv (w:Int) (a:Int) (b:Int) (c:Int) (n:Int):bE:=[sN [.z w,.z a,.z b,.z c,.int .u64 n],sN [.z 1,.z (az a 0 6),.z 0,.z 0,.int .u64 (au .rem .u64 n 20)]]
abbrev K_ (w:Int) (a:Int) (b:Int) (c:Int) (n:Int):bE:=[sN [.z w,.z a,.z b,.z c,.int .u64 n],sN [.z 2,.z (az a 0 6),.z (az b 0 6),.z 0,.int .u64 0]]
abbrev La (w:Int) (a:Int) (b:Int) (c:Int) (n:Int):bE:=[sN [.z w,.z a,.z b,.z c,.int .u64 n],sN [.z 1,.z (az a 0 6),.z 0,.z 0,.int .u64 n]]
abbrev dy (a:Int) (c:Int):LV:=(.agg [.z 8,.z (az a 0 6),.z 7,.z (az c 6 15),.int .u64 0])
abbrev ek (a:Int) (b:Int):LV:=(.agg [.z 10,.z (az a 0 6),.z (az b 0 6),.z 0,.int .u64 0])
abbrev em (a:Int):LV:=(.agg [.z 11,.z (az a 0 6),.z 0,.z 0,.int .u64 0])
abbrev et (a:Int):LV:=(.agg [.z 21,.z (az a 0 6),.z 0,.z 0,.int .u64 0])
abbrev jv (a:Int) (b:Int) (c:Int):LV:=(.agg [.z 8,.z (az a 0 6),.z (az b 0 6),.z (az c 0 3),.int .u64 0])
abbrev jy (a:Int) (b:Int) (c:Int):LV:=(.agg [.z 9,.z (az a 0 6),.z (az b 0 6),.z (az c 0 3),.int .u64 0])
abbrev jz (b:Int) (c:Int):LV:=(.agg [.z 9,.z 7,.z (az b 0 6),.z (az c 6 15),.int .u64 0])
abbrev Lb (a:Int) (b:Int) (c:Int) (n:Int):LV:=(.agg [.z (au .add .i64 3 (az (ay .i64 (au .rem .u64 n 64)) 0 4)),.z (az a 0 6),.z (az b 0 6),.z (az c 0 6),.int .u64 0])
abbrev Lc (a:Int) (n:Int):LV:=(.agg [.z 1,.z (az a 0 6),.z 0,.z 0,.int .u64 (au .rem .u64 n 20)])
abbrev Ld (a:Int) (b:Int):LV:=(.agg [.z 2,.z (az a 0 6),.z (az b 0 6),.z 0,.int .u64 0])
abbrev Le (a:Int) (n:Int):LV:=(.agg [.z 1,.z (az a 0 6),.z 0,.z 0,.int .u64 n])
theorem RZ (w a b c n:Int) (K:Fk):(fG prog CG 60 22 [.agg [.z w,.z a,.z b,.z c,.int .u64 n]] (ai []) (vF K))=(
 ck (ad .eql b b) <|
 ck (ad .eql b b) <|
 ck (ad .eql c c) <|
 ck (ad .eql c c) <|
 ck (ad .eql c c) <|
 ck (ad .eql c c) <|
 cond (ad .eql (az w 0 19) 0) (cond (ad .eql (az w 0 19) 0) (K (Le a n) (La w a b c n) []) (cond (ad .eql (az w 0 19) 2) (K (Lc a n) (Kv w a b c n) []) (cond (ad .eql (az w 0 19) 3) (K (Ld a b) (K_ w a b c n) []) (cond (ad .eql (az w 0 19) 4) (K (Lb a b c n) (Ku w a b c n) []) (cond (ad .eql (az w 0 19) 5) (cond (ad .eql (az w 0 19) 5) (K (dy a c) (dw w a b c n) []) (cond (ad .eql (az w 0 19) 8) (cond (ad .eql (az w 0 19) 8) (K (jz b c) (jt w a b c n) []) (cond (ad .eql (az w 0 19) 11) (K (jv a b c) (jq w a b c n) []) (cond (ad .eql (az w 0 19) 12) (K (jy a b c) (jr w a b c n) []) (cond (ad .eql (az w 0 19) 13) (cond (ad .eql (az w 0 19) 13) (K (ek a b) (d9 w a b c n) []) (cond (ad .eql (az w 0 19) 15) (K (em a) (d_ w a b c n) []) (cond (ad .eql (az w 0 19) 16) (K (dy a c) (dw w a b c n) []) (K (et a) (ef w a b c n) [])))) (cond (ad .eql (az w 0 19) 14) (K (ek a b) (d9 w a b c n) []) (cond (ad .eql (az w 0 19) 15) (K (em a) (d_ w a b c n) []) (cond (ad .eql (az w 0 19) 16) (K (dy a c) (dw w a b c n) []) (K (et a) (ef w a b c n) [])))))))) (cond (ad .eql (az w 0 19) 9) (cond (ad .eql (az w 0 19) 9) (K (jz b c) (jt w a b c n) []) (cond (ad .eql (az w 0 19) 11) (K (jv a b c) (jq w a b c n) []) (cond (ad .eql (az w 0 19) 12) (K (jy a b c) (jr w a b c n) []) (cond (ad .eql (az w 0 19) 13) (cond (ad .eql (az w 0 19) 13) (K (ek a b) (d9 w a b c n) []) (cond (ad .eql (az w 0 19) 15) (K (em a) (d_ w a b c n) []) (cond (ad .eql (az w 0 19) 16) (K (dy a c) (dw w a b c n) []) (K (et a) (ef w a b c n) [])))) (cond (ad .eql (az w 0 19) 14) (K (ek a b) (d9 w a b c n) []) (cond (ad .eql (az w 0 19) 15) (K (em a) (d_ w a b c n) []) (cond (ad .eql (az w 0 19) 16) (K (dy a c) (dw w a b c n) []) (K (et a) (ef w a b c n) [])))))))) (cond (ad .eql (az w 0 19) 10) (K (jz b c) (jt w a b c n) []) (cond (ad .eql (az w 0 19) 11) (K (jv a b c) (jq w a b c n) []) (cond (ad .eql (az w 0 19) 12) (K (jy a b c) (jr w a b c n) []) (cond (ad .eql (az w 0 19) 13) (cond (ad .eql (az w 0 19) 13) (K (ek a b) (d9 w a b c n) []) (cond (ad .eql (az w 0 19) 15) (K (em a) (d_ w a b c n) []) (cond (ad .eql (az w 0 19) 16) (K (dy a c) (dw w a b c n) []) (K (et a) (ef w a b c n) [])))) (cond (ad .eql (az w 0 19) 14) (K (ek a b) (d9 w a b c n) []) (cond (ad .eql (az w 0 19) 15) (K (em a) (d_ w a b c n) []) (cond (ad .eql (az w 0 19) 16) (K (dy a c) (dw w a b c n) []) (K (et a) (ef w a b c n) []))))))))))) (cond (ad .eql (az w 0 19) 6) (cond (ad .eql (az w 0 19) 6) (K (dy a c) (dw w a b c n) []) (cond (ad .eql (az w 0 19) 8) (cond (ad .eql (az w 0 19) 8) (K (jz b c) (jt w a b c n) []) (cond (ad .eql (az w 0 19) 11) (K (jv a b c) (jq w a b c n) []) (cond (ad .eql (az w 0 19) 12) (K (jy a b c) (jr w a b c n) []) (cond (ad .eql (az w 0 19) 13) (cond (ad .eql (az w 0 19) 13) (K (ek a b) (d9 w a b c n) []) (cond (ad .eql (az w 0 19) 15) (K (em a) (d_ w a b c n) []) (cond (ad .eql (az w 0 19) 16) (K (dy a c) (dw w a b c n) []) (K (et a) (ef w a b c n) [])))) (cond (ad .eql (az w 0 19) 14) (K (ek a b) (d9 w a b c n) []) (cond (ad .eql (az w 0 19) 15) (K (em a) (d_ w a b c n) []) (cond (ad .eql (az w 0 19) 16) (K (dy a c) (dw w a b c n) []) (K (et a) (ef w a b c n) [])))))))) (cond (ad .eql (az w 0 19) 9) (cond (ad .eql (az w 0 19) 9) (K (jz b c) (jt w a b c n) []) (cond (ad .eql (az w 0 19) 11) (K (jv a b c) (jq w a b c n) []) (cond (ad .eql (az w 0 19) 12) (K (jy a b c) (jr w a b c n) []) (cond (ad .eql (az w 0 19) 13) (cond (ad .eql (az w 0 19) 13) (K (ek a b) (d9 w a b c n) []) (cond (ad .eql (az w 0 19) 15) (K (em a) (d_ w a b c n) []) (cond (ad .eql (az w 0 19) 16) (K (dy a c) (dw w a b c n) []) (K (et a) (ef w a b c n) [])))) (cond (ad .eql (az w 0 19) 14) (K (ek a b) (d9 w a b c n) []) (cond (ad .eql (az w 0 19) 15) (K (em a) (d_ w a b c n) []) (cond (ad .eql (az w 0 19) 16) (K (dy a c) (dw w a b c n) []) (K (et a) (ef w a b c n) [])))))))) (cond (ad .eql (az w 0 19) 10) (K (jz b c) (jt w a b c n) []) (cond (ad .eql (az w 0 19) 11) (K (jv a b c) (jq w a b c n) []) (cond (ad .eql (az w 0 19) 12) (K (jy a b c) (jr w a b c n) []) (cond (ad .eql (az w 0 19) 13) (cond (ad .eql (az w 0 19) 13) (K (ek a b) (d9 w a b c n) []) (cond (ad .eql (az w 0 19) 15) (K (em a) (d_ w a b c n) []) (cond (ad .eql (az w 0 19) 16) (K (dy a c) (dw w a b c n) []) (K (et a) (ef w a b c n) [])))) (cond (ad .eql (az w 0 19) 14) (K (ek a b) (d9 w a b c n) []) (cond (ad .eql (az w 0 19) 15) (K (em a) (d_ w a b c n) []) (cond (ad .eql (az w 0 19) 16) (K (dy a c) (dw w a b c n) []) (K (et a) (ef w a b c n) []))))))))))) (cond (ad .eql (az w 0 19) 7) (K (dy a c) (dw w a b c n) []) (cond (ad .eql (az w 0 19) 8) (cond (ad .eql (az w 0 19) 8) (K (jz b c) (jt w a b c n) []) (cond (ad .eql (az w 0 19) 11) (K (jv a b c) (jq w a b c n) []) (cond (ad .eql (az w 0 19) 12) (K (jy a b c) (jr w a b c n) []) (cond (ad .eql (az w 0 19) 13) (cond (ad .eql (az w 0 19) 13) (K (ek a b) (d9 w a b c n) []) (cond (ad .eql (az w 0 19) 15) (K (em a) (d_ w a b c n) []) (cond (ad .eql (az w 0 19) 16) (K (dy a c) (dw w a b c n) []) (K (et a) (ef w a b c n) [])))) (cond (ad .eql (az w 0 19) 14) (K (ek a b) (d9 w a b c n) []) (cond (ad .eql (az w 0 19) 15) (K (em a) (d_ w a b c n) []) (cond (ad .eql (az w 0 19) 16) (K (dy a c) (dw w a b c n) []) (K (et a) (ef w a b c n) [])))))))) (cond (ad .eql (az w 0 19) 9) (cond (ad .eql (az w 0 19) 9) (K (jz b c) (jt w a b c n) []) (cond (ad .eql (az w 0 19) 11) (K (jv a b c) (jq w a b c n) []) (cond (ad .eql (az w 0 19) 12) (K (jy a b c) (jr w a b c n) []) (cond (ad .eql (az w 0 19) 13) (cond (ad .eql (az w 0 19) 13) (K (ek a b) (d9 w a b c n) []) (cond (ad .eql (az w 0 19) 15) (K (em a) (d_ w a b c n) []) (cond (ad .eql (az w 0 19) 16) (K (dy a c) (dw w a b c n) []) (K (et a) (ef w a b c n) [])))) (cond (ad .eql (az w 0 19) 14) (K (ek a b) (d9 w a b c n) []) (cond (ad .eql (az w 0 19) 15) (K (em a) (d_ w a b c n) []) (cond (ad .eql (az w 0 19) 16) (K (dy a c) (dw w a b c n) []) (K (et a) (ef w a b c n) [])))))))) (cond (ad .eql (az w 0 19) 10) (K (jz b c) (jt w a b c n) []) (cond (ad .eql (az w 0 19) 11) (K (jv a b c) (jq w a b c n) []) (cond (ad .eql (az w 0 19) 12) (K (jy a b c) (jr w a b c n) []) (cond (ad .eql (az w 0 19) 13) (cond (ad .eql (az w 0 19) 13) (K (ek a b) (d9 w a b c n) []) (cond (ad .eql (az w 0 19) 15) (K (em a) (d_ w a b c n) []) (cond (ad .eql (az w 0 19) 16) (K (dy a c) (dw w a b c n) []) (K (et a) (ef w a b c n) [])))) (cond (ad .eql (az w 0 19) 14) (K (ek a b) (d9 w a b c n) []) (cond (ad .eql (az w 0 19) 15) (K (em a) (d_ w a b c n) []) (cond (ad .eql (az w 0 19) 16) (K (dy a c) (dw w a b c n) []) (K (et a) (ef w a b c n) []))))))))))))))))) (cond (ad .eql (az w 0 19) 1) (K (Le a n) (La w a b c n) []) (cond (ad .eql (az w 0 19) 2) (K (Lc a n) (Kv w a b c n) []) (cond (ad .eql (az w 0 19) 3) (K (Ld a b) (K_ w a b c n) []) (cond (ad .eql (az w 0 19) 4) (K (Lb a b c n) (Ku w a b c n) []) (cond (ad .eql (az w 0 19) 5) (cond (ad .eql (az w 0 19) 5) (K (dy a c) (dw w a b c n) []) (cond (ad .eql (az w 0 19) 8) (cond (ad .eql (az w 0 19) 8) (K (jz b c) (jt w a b c n) []) (cond (ad .eql (az w 0 19) 11) (K (jv a b c) (jq w a b c n) []) (cond (ad .eql (az w 0 19) 12) (K (jy a b c) (jr w a b c n) []) (cond (ad .eql (az w 0 19) 13) (cond (ad .eql (az w 0 19) 13) (K (ek a b) (d9 w a b c n) []) (cond (ad .eql (az w 0 19) 15) (K (em a) (d_ w a b c n) []) (cond (ad .eql (az w 0 19) 16) (K (dy a c) (dw w a b c n) []) (K (et a) (ef w a b c n) [])))) (cond (ad .eql (az w 0 19) 14) (K (ek a b) (d9 w a b c n) []) (cond (ad .eql (az w 0 19) 15) (K (em a) (d_ w a b c n) []) (cond (ad .eql (az w 0 19) 16) (K (dy a c) (dw w a b c n) []) (K (et a) (ef w a b c n) [])))))))) (cond (ad .eql (az w 0 19) 9) (cond (ad .eql (az w 0 19) 9) (K (jz b c) (jt w a b c n) []) (cond (ad .eql (az w 0 19) 11) (K (jv a b c) (jq w a b c n) []) (cond (ad .eql (az w 0 19) 12) (K (jy a b c) (jr w a b c n) []) (cond (ad .eql (az w 0 19) 13) (cond (ad .eql (az w 0 19) 13) (K (ek a b) (d9 w a b c n) []) (cond (ad .eql (az w 0 19) 15) (K (em a) (d_ w a b c n) []) (cond (ad .eql (az w 0 19) 16) (K (dy a c) (dw w a b c n) []) (K (et a) (ef w a b c n) [])))) (cond (ad .eql (az w 0 19) 14) (K (ek a b) (d9 w a b c n) []) (cond (ad .eql (az w 0 19) 15) (K (em a) (d_ w a b c n) []) (cond (ad .eql (az w 0 19) 16) (K (dy a c) (dw w a b c n) []) (K (et a) (ef w a b c n) [])))))))) (cond (ad .eql (az w 0 19) 10) (K (jz b c) (jt w a b c n) []) (cond (ad .eql (az w 0 19) 11) (K (jv a b c) (jq w a b c n) []) (cond (ad .eql (az w 0 19) 12) (K (jy a b c) (jr w a b c n) []) (cond (ad .eql (az w 0 19) 13) (cond (ad .eql (az w 0 19) 13) (K (ek a b) (d9 w a b c n) []) (cond (ad .eql (az w 0 19) 15) (K (em a) (d_ w a b c n) []) (cond (ad .eql (az w 0 19) 16) (K (dy a c) (dw w a b c n) []) (K (et a) (ef w a b c n) [])))) (cond (ad .eql (az w 0 19) 14) (K (ek a b) (d9 w a b c n) []) (cond (ad .eql (az w 0 19) 15) (K (em a) (d_ w a b c n) []) (cond (ad .eql (az w 0 19) 16) (K (dy a c) (dw w a b c n) []) (K (et a) (ef w a b c n) []))))))))))) (cond (ad .eql (az w 0 19) 6) (cond (ad .eql (az w 0 19) 6) (K (dy a c) (dw w a b c n) []) (cond (ad .eql (az w 0 19) 8) (cond (ad .eql (az w 0 19) 8) (K (jz b c) (jt w a b c n) []) (cond (ad .eql (az w 0 19) 11) (K (jv a b c) (jq w a b c n) []) (cond (ad .eql (az w 0 19) 12) (K (jy a b c) (jr w a b c n) []) (cond (ad .eql (az w 0 19) 13) (cond (ad .eql (az w 0 19) 13) (K (ek a b) (d9 w a b c n) []) (cond (ad .eql (az w 0 19) 15) (K (em a) (d_ w a b c n) []) (cond (ad .eql (az w 0 19) 16) (K (dy a c) (dw w a b c n) []) (K (et a) (ef w a b c n) [])))) (cond (ad .eql (az w 0 19) 14) (K (ek a b) (d9 w a b c n) []) (cond (ad .eql (az w 0 19) 15) (K (em a) (d_ w a b c n) []) (cond (ad .eql (az w 0 19) 16) (K (dy a c) (dw w a b c n) []) (K (et a) (ef w a b c n) [])))))))) (cond (ad .eql (az w 0 19) 9) (cond (ad .eql (az w 0 19) 9) (K (jz b c) (jt w a b c n) []) (cond (ad .eql (az w 0 19) 11) (K (jv a b c) (jq w a b c n) []) (cond (ad .eql (az w 0 19) 12) (K (jy a b c) (jr w a b c n) []) (cond (ad .eql (az w 0 19) 13) (cond (ad .eql (az w 0 19) 13) (K (ek a b) (d9 w a b c n) []) (cond (ad .eql (az w 0 19) 15) (K (em a) (d_ w a b c n) []) (cond (ad .eql (az w 0 19) 16) (K (dy a c) (dw w a b c n) []) (K (et a) (ef w a b c n) [])))) (cond (ad .eql (az w 0 19) 14) (K (ek a b) (d9 w a b c n) []) (cond (ad .eql (az w 0 19) 15) (K (em a) (d_ w a b c n) []) (cond (ad .eql (az w 0 19) 16) (K (dy a c) (dw w a b c n) []) (K (et a) (ef w a b c n) [])))))))) (cond (ad .eql (az w 0 19) 10) (K (jz b c) (jt w a b c n) []) (cond (ad .eql (az w 0 19) 11) (K (jv a b c) (jq w a b c n) []) (cond (ad .eql (az w 0 19) 12) (K (jy a b c) (jr w a b c n) []) (cond (ad .eql (az w 0 19) 13) (cond (ad .eql (az w 0 19) 13) (K (ek a b) (d9 w a b c n) []) (cond (ad .eql (az w 0 19) 15) (K (em a) (d_ w a b c n) []) (cond (ad .eql (az w 0 19) 16) (K (dy a c) (dw w a b c n) []) (K (et a) (ef w a b c n) [])))) (cond (ad .eql (az w 0 19) 14) (K (ek a b) (d9 w a b c n) []) (cond (ad .eql (az w 0 19) 15) (K (em a) (d_ w a b c n) []) (cond (ad .eql (az w 0 19) 16) (K (dy a c) (dw w a b c n) []) (K (et a) (ef w a b c n) []))))))))))) (cond (ad .eql (az w 0 19) 7) (K (dy a c) (dw w a b c n) []) (cond (ad .eql (az w 0 19) 8) (cond (ad .eql (az w 0 19) 8) (K (jz b c) (jt w a b c n) []) (cond (ad .eql (az w 0 19) 11) (K (jv a b c) (jq w a b c n) []) (cond (ad .eql (az w 0 19) 12) (K (jy a b c) (jr w a b c n) []) (cond (ad .eql (az w 0 19) 13) (cond (ad .eql (az w 0 19) 13) (K (ek a b) (d9 w a b c n) []) (cond (ad .eql (az w 0 19) 15) (K (em a) (d_ w a b c n) []) (cond (ad .eql (az w 0 19) 16) (K (dy a c) (dw w a b c n) []) (K (et a) (ef w a b c n) [])))) (cond (ad .eql (az w 0 19) 14) (K (ek a b) (d9 w a b c n) []) (cond (ad .eql (az w 0 19) 15) (K (em a) (d_ w a b c n) []) (cond (ad .eql (az w 0 19) 16) (K (dy a c) (dw w a b c n) []) (K (et a) (ef w a b c n) [])))))))) (cond (ad .eql (az w 0 19) 9) (cond (ad .eql (az w 0 19) 9) (K (jz b c) (jt w a b c n) []) (cond (ad .eql (az w 0 19) 11) (K (jv a b c) (jq w a b c n) []) (cond (ad .eql (az w 0 19) 12) (K (jy a b c) (jr w a b c n) []) (cond (ad .eql (az w 0 19) 13) (cond (ad .eql (az w 0 19) 13) (K (ek a b) (d9 w a b c n) []) (cond (ad .eql (az w 0 19) 15) (K (em a) (d_ w a b c n) []) (cond (ad .eql (az w 0 19) 16) (K (dy a c) (dw w a b c n) []) (K (et a) (ef w a b c n) [])))) (cond (ad .eql (az w 0 19) 14) (K (ek a b) (d9 w a b c n) []) (cond (ad .eql (az w 0 19) 15) (K (em a) (d_ w a b c n) []) (cond (ad .eql (az w 0 19) 16) (K (dy a c) (dw w a b c n) []) (K (et a) (ef w a b c n) [])))))))) (cond (ad .eql (az w 0 19) 10) (K (jz b c) (jt w a b c n) []) (cond (ad .eql (az w 0 19) 11) (K (jv a b c) (jq w a b c n) []) (cond (ad .eql (az w 0 19) 12) (K (jy a b c) (jr w a b c n) []) (cond (ad .eql (az w 0 19) 13) (cond (ad .eql (az w 0 19) 13) (K (ek a b) (d9 w a b c n) []) (cond (ad .eql (az w 0 19) 15) (K (em a) (d_ w a b c n) []) (cond (ad .eql (az w 0 19) 16) (K (dy a c) (dw w a b c n) []) (K (et a) (ef w a b c n) [])))) (cond (ad .eql (az w 0 19) 14) (K (ek a b) (d9 w a b c n) []) (cond (ad .eql (az w 0 19) 15) (K (em a) (d_ w a b c n) []) (cond (ad .eql (az w 0 19) 16) (K (dy a c) (dw w a b c n) []) (K (et a) (ef w a b c n) [])))))))))))))))))):=ak
def xg (v a b c n:Int):bo :=
 if v=0∨v=1 then⟨1,az a 0 6,0,0,n⟩
 else if v=2 then⟨1,az a 0 6,0,0,au .rem .u64 n 20⟩
 else if v=3 then⟨2,az a 0 6,az b 0 6,0,0⟩
 else if v=4 then⟨au .add .i64 3 (az (ay .i64 (au .rem .u64 n 64)) 0 4),az a 0 6,az b 0 6,az c 0 6,0⟩
 else if v=5∨v=6∨v=7∨v=16 then⟨8,az a 0 6,7,az c 6 15,0⟩
 else if v=8∨v=9∨v=10 then⟨9,7,az b 0 6,az c 6 15,0⟩
 else if v=11 then⟨8,az a 0 6,az b 0 6,az c 0 3,0⟩
 else if v=12 then⟨9,az a 0 6,az b 0 6,az c 0 3,0⟩
 else if v=13∨v=14 then⟨10,az a 0 6,az b 0 6,0,0⟩
 else if v=15 then⟨11,az a 0 6,0,0,0⟩
 else⟨21,az a 0 6,0,0,0⟩
def gX (w a b c n:Int):bo:=xg (az w 0 19) a b c n
theorem TQ (n:Int):a0j prog 21 [.z n] (ai []) fun l s=>l=.z (az n 0 6)∧s=ai []:=by
 refine a0j.mono (a0j.vc (Q:=fun l b=>l=.z (az n 0 6)∧b=[]) IV (n:=40) 0 rfl ?_) fun l s' ⟨b0,⟨h1,h2⟩,h3⟩=>⟨h1,by rw [h3,h2]⟩
 rw [RF]
 (refine zR ?_)
 exact⟨rfl,_,_,[],⟨rfl,rfl⟩,by(exact zC)⟩
theorem Ro {i:bo} {x:LV} {bs:bE} (h:x=.agg (aW i)):gJ 0 1 [0] [x] bs [] [(0,.agg (aW i))] []:=by
 subst h; (exact zC)
set_option maxHeartbeats 2000000 in
theorem T5 (w a b c n:Int):a0j prog 22 [.agg [.z w,.z a,.z b,.z c,.int .u64 n]] (ai []) fun l s=>l=.agg (aW (gX w a b c n))∧s=ai []:=by
 refine a0j.mono (a0j.vc (Q:=fun l bb=>l=.agg (aW (gX w a b c n))∧bb=[]) IV (n:=60) 0 rfl ?_) fun l s' ⟨b0,⟨h1,h2⟩,h3⟩=>⟨h1,by rw [h3,h2]⟩
 rw [RZ];have hv:=jY (a:=w) (lo:=0) (hi:=19) iZ;have e:gX w a b c n=xg (az w 0 19) a b c n:=rfl;rw [e];generalize az w 0 19=v at *
 (refine zR ?_)
 rcases(show v=0∨v=1∨v=2∨v=3∨v=4∨v=5∨v=6∨v=7∨v=8∨v=9∨v=10∨v=11∨v=12∨v=13∨v=14∨v=15∨v=16∨v=17∨v=18∨v=19 by omega) with rfl | rfl | rfl | rfl | rfl | rfl | rfl | rfl | rfl | rfl | rfl | rfl | rfl | rfl | rfl | rfl | rfl | rfl | rfl | rfl <;> ((refine zR ?_); exact⟨rfl,_,_,[],⟨rfl,rfl⟩,Ro rfl⟩)
def ng (w a b c n:Int):Int:=(gX w a b c n).op
def nu (w a b c n:Int):Int:=(gX w a b c n).a
def nr (w a b c n:Int):Int:=(gX w a b c n).b
def nq (w a b c n:Int):Int:=(gX w a b c n).c
def nh (w a b c n:Int):Int:=(gX w a b c n).n
def Dc:Gc:=fun args s=>match args,s.g with
 | [.int .i64 n],[]=>some ([],.z (az n 0 6),s)
 | _,_=>none
def Df:Gc:=fun args s=>match args,s.g with
 | [.agg [.int .i64 w,.int .i64 a,.int .i64 b,.int .i64 c,.int .u64 n]],[]=>some ([],.agg [.z (ng w a b c n),.z (nu w a b c n),.z (nr w a b c n),.z (nq w a b c n),.int .u64 (nh w a b c n)],s)
 | _,_=>none
theorem Vs:bX prog 21 Dc:=by
 intro args s bs l s' hg hb hfr;unfold Dc at hg;split at hg
 ·rename_i n hgl;simp only [a8,bn] at hg;obtain⟨rfl,rfl,rfl⟩:=hg;exact a0j.i3s hfr hgl rfl rfl (TQ n)
 ·cases hg
theorem VA:bX prog 22 Df:=by
 intro args s bs l s' hg hb hfr;unfold Df at hg;split at hg
 ·rename_i w a b c n hgl;simp only [a8,bn] at hg;obtain⟨rfl,rfl,rfl⟩:=hg;exact a0j.i3s hfr hgl rfl rfl (T5 w a b c n)
 ·cases hg
def gh:Cx:=eP [(19,AG),(21,Dc),(22,Df)]
abbrev pgF:List Code:=sp prog 11
abbrev pgR:List Code:=cG (ce (bi pgF 4))
abbrev za:List Code:=cG (vu (bi pgR 2))
abbrev C3:Code:=vu (bi za 5)
abbrev C4:Code:=jR (bi (cG C3) 1)
abbrev C5:Code:=jR (bi (cG C4) 1)
abbrev C6:Code:=jR (bi (cG C5) 1)
abbrev C7:Code:=jR (bi (cG C6) 1)
abbrev C8:Code:=jR (bi (cG C7) 1)
abbrev C9:Code:=jR (bi (cG C8) 1)
abbrev C_:Code:=jR (bi (cG C9) 1)
abbrev Da:Code:=jR (bi (cG C_) 1)
abbrev Oo:Code:=jR (bi (cG Da) 1)
abbrev dY:List Nat:=[0,1,2,6,7,8,9,10,11,12,41,55,73,90,109,135,153,171,190]
abbrev oU (np:Nat) (m:Int) (calm:Bool) (nl k i:Nat):List (Nat×LV):=[(0,.slo 0 0 np 0),(1,.z m),(2,.b calm),(6,.ptr 1 0),(7,.slo 2 0 nl 0),(8,.slo 3 0 k 0),(9,.z i)]
abbrev Ch (nl k:Nat):List (Nat×LV):=[(6,.ptr 1 0),(7,.slo 2 0 nl 0),(8,.slo 3 0 k 0)]
abbrev GX (nl:Nat):List (Nat×LV):=[(6,.ptr 1 0),(7,.slo 2 0 nl 0)]
abbrev ff (np:Nat) (m:Int) (calm:Bool) (nl k i:Nat) (w:Int):List (Nat×LV):=[(0,.slo 0 0 np 0),(1,.z m),(2,.b calm),(6,.ptr 1 0),(7,.slo 2 0 nl 0),(8,.slo 3 0 k 0),(9,.z i),(10,.ptr 4 0),(11,.z k),(12,.z w)]
abbrev qX (ks ls os:al):a9:=[.ro ks,.cells [.nils] none,.cells ls (some 5),.cells os (some 1)]
abbrev dK (ks ls os:al) (xw xa xb xc xn:Int):a9:=[.ro ks,.cells [.nils] none,.cells ls (some 5),.cells os (some 1),.cells [.z xw,.z xa,.z xb,.z xc,.int .u64 xn] none]
theorem gv:cT prog (cv gh):=fQ ⟨LD,Vs,VA,trivial⟩
theorem Oq (np:Nat) (m:Int) (calm:Bool) (ks:al) (K:Pk):(bc prog gh 60 226 (bS pgF 0 4) (cO [.slo 0 0 np 0,.z m,.b calm]) (ai [.ro ks]) (vK dY K))=(
 K .normal [.slo 0 0 np 0,.z m,.b calm,.ptr 1 0,.nils,.nils,.z 0,.tup [],.tup [],.tup [],.tup [],.tup [],.tup [],.tup [],.tup [],.tup [],.tup [],.tup [],.tup []] [some (.ro ks),sN [.nils]] []):=ak
theorem Ov (np:Nat) (m:Int) (calm:Bool) (nl k i:Nat) (ks ls os:al) (K:Pk):(bc prog gh 60 226 (bS pgR 0 2) (aF 226 (oU np m calm nl k i)) (ai (qX ks ls os)) (vK dY K))=(
 cond (ad .lss ↑i ↑np) (K .normal [.slo 0 0 np 0,.z m,.b calm,.ptr 1 0,.slo 2 0 nl 0,.slo 3 0 k 0,.z ↑i,.any,.any,.any,.any,.any,.any,.any,.any,.any,.any,.any,.any] [some (.ro ks),sN [.nils],sC ls 5,sC os 1] []) (K (.exit 0) [.slo 0 0 np 0,.z m,.b calm,.ptr 1 0,.slo 2 0 nl 0,.slo 3 0 k 0,.z ↑i,.any,.any,.any,.any,.any,.any,.any,.any,.any,.any,.any,.any] [some (.ro ks),sN [.nils],sC ls 5,sC os 1] [])):=ak
abbrev EF (i:Nat) (ks:al) (ls:al) (os:al):bE:=[some (.ro ks),sN [.nils],sC ls 5,sC os 1,sN [.z (ar (af ks (ah 0 (ae ↑i) 5))),.z (ar (af ks (aa (ah 0 (ae ↑i) 5) 1))),.z (ar (af ks (aa (aa (ah 0 (ae ↑i) 5) 1) 1))),.z (ar (af ks (aa (aa (aa (ah 0 (ae ↑i) 5) 1) 1) 1))),.int .u64 (ar (af ks (aa (aa (aa (aa (ah 0 (ae ↑i) 5) 1) 1) 1) 1)))]]
theorem Ot (np:Nat) (m:Int) (calm:Bool) (nl k i:Nat) (ks ls os:al) (K:Pk):(bc prog gh 60 226 (bS za 0 5) (aF 226 (oU np m calm nl k i)) (ai (qX ks ls os)) (vK dY K))=(
 ck (ag (aa (ae ↑i) 1) np) <|
 ck (ag (aa (ah 0 (ae ↑i) 5) 5) (aG ks)) <|
 ck (a7 .i64 (af ks (ah 0 (ae ↑i) 5))) <|
 ck (a7 .i64 (af ks (aa (ah 0 (ae ↑i) 5) 1))) <|
 ck (a7 .i64 (af ks (aa (aa (ah 0 (ae ↑i) 5) 1) 1))) <|
 ck (a7 .i64 (af ks (aa (aa (aa (ah 0 (ae ↑i) 5) 1) 1) 1))) <|
 ck (a7 .u64 (af ks (aa (aa (aa (aa (ah 0 (ae ↑i) 5) 1) 1) 1) 1))) <|
 cond (ad .gtr (au .add .i64 (au .add .i64 (↑nl) (au .mul .i64 2 ↑k)) 5) m) (K (.exit 0) [.slo 0 0 np 0,.z m,.b calm,.ptr 1 0,.slo 2 0 nl 0,.slo 3 0 k 0,.z ↑i,.ptr 4 0,.z ↑k,.any,.any,.any,.any,.any,.any,.any,.any,.any,.any] (EF i ks ls os) []) (K .normal [.slo 0 0 np 0,.z m,.b calm,.ptr 1 0,.slo 2 0 nl 0,.slo 3 0 k 0,.z ↑i,.ptr 4 0,.z ↑k,.z (az (ar (af ks (ah 0 (ae ↑i) 5))) 0 40),.any,.any,.any,.any,.any,.any,.any,.any,.any] (EF i ks ls os) [])):=ak
theorem O1 (np:Nat) (m:Int) (calm:Bool) (nl k i:Nat) (w:Int) (ks ls os:al) (xw xa xb xc xn:Int) (K:Pk):(bc prog gh 60 226 (bS (cG C3) 0 1) (aF 226 (ff np m calm nl k i w)) (ai (dK ks ls os xw xa xb xc xn)) (vK dY K))=(
 cond (ad .eql w 20) (K .normal [.slo 0 0 np 0,.z m,.b calm,.ptr 1 0,.slo 2 0 nl 0,.slo 3 0 k 0,.z ↑i,.ptr 4 0,.z ↑k,.z w,.b (ad .lss (↑k) 5),.any,.any,.any,.any,.any,.any,.any,.any] [some (.ro ks),sN [.nils],sC ls 5,sC os 1,sN [.z xw,.z xa,.z xb,.z xc,.int .u64 xn]] []) (K .normal [.slo 0 0 np 0,.z m,.b calm,.ptr 1 0,.slo 2 0 nl 0,.slo 3 0 k 0,.z ↑i,.ptr 4 0,.z ↑k,.z w,.b false,.any,.any,.any,.any,.any,.any,.any,.any] [some (.ro ks),sN [.nils],sC ls 5,sC os 1,sN [.z xw,.z xa,.z xb,.z xc,.int .u64 xn]] [])):=ak
theorem N9 (q:Bool) (np:Nat) (m:Int) (calm:Bool) (nl k i:Nat) (w:Int) (ks ls os:al) (xw xa xb xc xn:Int) (K:Pk):(aX prog gh 60 226 (jS (bi (cG C3) 1)) (aF 226 ((41,.b q)::ff np m calm nl k i w)) (ai (dK ks ls os xw xa xb xc xn)) (vK dY K))=(
 ck (ag (aa nl 1) 1000000) <|
 ck (ag (aa 0 (aJ nl 5)) (aG ls)) <|
 ck (ag (aa k 1) 1000000) <|
 ck (ag (aa 0 (aJ k 1)) (aG os)) <|
 K .normal [.slo 0 0 np 0,.z m,.b calm,.ptr 1 0,.slo 6 0 (aa nl 1) 0,.slo 8 0 (aa k 1) 0,.z ↑i,.ptr 4 0,.z ↑k,.z w,.b q,.any,.any,.any,.any,.any,.any,.any,.any] [some (.ro ks),sN [.nils],sD,sD,sN [.z xw,.z xa,.z xb,.z xc,.int .u64 xn],sN [.z 14,.z 0,.z 0,.z 0,.int .u64 0],sC (bM (bf ls 0 (aJ nl 5)) [.z 14,.z 0,.z 0,.z 0,.int .u64 0]) 5,sN [.z 14],sC (bM (bf os 0 (aJ k 1)) [.z 14]) 1] []):=ak
theorem O2 (q:Bool) (np:Nat) (m:Int) (calm:Bool) (nl k i:Nat) (w:Int) (ks ls os:al) (xw xa xb xc xn:Int) (K:Pk):(bc prog gh 60 226 (bS (cG C4) 0 1) (aF 226 ((41,.b q)::ff np m calm nl k i w)) (ai (dK ks ls os xw xa xb xc xn)) (vK dY K))=(
 cond (ad .eql w 21) (K .normal [.slo 0 0 np 0,.z m,.b calm,.ptr 1 0,.slo 2 0 nl 0,.slo 3 0 k 0,.z ↑i,.ptr 4 0,.z ↑k,.z w,.b q,.b (ad .lss (↑k) 5),.any,.any,.any,.any,.any,.any,.any] [some (.ro ks),sN [.nils],sC ls 5,sC os 1,sN [.z xw,.z xa,.z xb,.z xc,.int .u64 xn]] []) (cond (ad .eql w 22) (K .normal [.slo 0 0 np 0,.z m,.b calm,.ptr 1 0,.slo 2 0 nl 0,.slo 3 0 k 0,.z ↑i,.ptr 4 0,.z ↑k,.z w,.b q,.b (ad .lss (↑k) 5),.any,.any,.any,.any,.any,.any,.any] [some (.ro ks),sN [.nils],sC ls 5,sC os 1,sN [.z xw,.z xa,.z xb,.z xc,.int .u64 xn]] []) (K .normal [.slo 0 0 np 0,.z m,.b calm,.ptr 1 0,.slo 2 0 nl 0,.slo 3 0 k 0,.z ↑i,.ptr 4 0,.z ↑k,.z w,.b q,.b false,.any,.any,.any,.any,.any,.any,.any] [some (.ro ks),sN [.nils],sC ls 5,sC os 1,sN [.z xw,.z xa,.z xb,.z xc,.int .u64 xn]] []))):=ak
theorem N_ (q:Bool) (np:Nat) (m:Int) (calm:Bool) (nl k i:Nat) (w:Int) (ks ls os:al) (xw xa xb xc xn:Int) (K:Pk):(aX prog gh 60 226 (jS (bi (cG C4) 1)) (aF 226 ((55,.b q)::ff np m calm nl k i w)) (ai (dK ks ls os xw xa xb xc xn)) (vK dY K))=(
 ck (ag (aa nl 1) 1000000) <|
 ck (ag (aa 0 (aJ nl 5)) (aG ls)) <|
 ck (ag (aa k 1) 1000000) <|
 ck (ag (aa 0 (aJ k 1)) (aG os)) <|
 K .normal [.slo 0 0 np 0,.z m,.b calm,.ptr 1 0,.slo 6 0 (aa nl 1) 0,.slo 8 0 (aa k 1) 0,.z ↑i,.ptr 4 0,.z ↑k,.z w,.any,.b q,.any,.any,.any,.any,.any,.any,.any] [some (.ro ks),sN [.nils],sD,sD,sN [.z xw,.z xa,.z xb,.z xc,.int .u64 xn],sN [.z 17,.z 0,.z 0,.z 0,.int .u64 0],sC (bM (bf ls 0 (aJ nl 5)) [.z 17,.z 0,.z 0,.z 0,.int .u64 0]) 5,sN [.z 17],sC (bM (bf os 0 (aJ k 1)) [.z 17]) 1] []):=ak
theorem O3 (q:Bool) (np:Nat) (m:Int) (calm:Bool) (nl k i:Nat) (w:Int) (ks ls os:al) (xw xa xb xc xn:Int) (K:Pk):(bc prog gh 60 226 (bS (cG C5) 0 1) (aF 226 ((55,.b q)::ff np m calm nl k i w)) (ai (dK ks ls os xw xa xb xc xn)) (vK dY K))=(
 cond (ad .eql w 23) (K .normal [.slo 0 0 np 0,.z m,.b calm,.ptr 1 0,.slo 2 0 nl 0,.slo 3 0 k 0,.z ↑i,.ptr 4 0,.z ↑k,.z w,.any,.b q,.b (ad .gtr (↑k) 0),.any,.any,.any,.any,.any,.any] [some (.ro ks),sN [.nils],sC ls 5,sC os 1,sN [.z xw,.z xa,.z xb,.z xc,.int .u64 xn]] []) (cond (ad .eql w 24) (K .normal [.slo 0 0 np 0,.z m,.b calm,.ptr 1 0,.slo 2 0 nl 0,.slo 3 0 k 0,.z ↑i,.ptr 4 0,.z ↑k,.z w,.any,.b q,.b (ad .gtr (↑k) 0),.any,.any,.any,.any,.any,.any] [some (.ro ks),sN [.nils],sC ls 5,sC os 1,sN [.z xw,.z xa,.z xb,.z xc,.int .u64 xn]] []) (K .normal [.slo 0 0 np 0,.z m,.b calm,.ptr 1 0,.slo 2 0 nl 0,.slo 3 0 k 0,.z ↑i,.ptr 4 0,.z ↑k,.z w,.any,.b q,.b false,.any,.any,.any,.any,.any,.any] [some (.ro ks),sN [.nils],sC ls 5,sC os 1,sN [.z xw,.z xa,.z xb,.z xc,.int .u64 xn]] []))):=ak
theorem Oa (q:Bool) (np:Nat) (m:Int) (calm:Bool) (nl k i:Nat) (w:Int) (ks ls os:al) (xw xa xb xc xn:Int) (K:Pk):(aX prog gh 60 226 (jS (bi (cG C5) 1)) (aF 226 ((73,.b q)::ff np m calm nl k i w)) (ai (dK ks ls os xw xa xb xc xn)) (vK dY K))=(
 ck (b9 (au .sub .i64 (↑k) 1)) <|
 ck (ag (aa (ae (au .sub .i64 (↑k) 1)) 1) k) <|
 ck (ag (aa (ah 0 (ae (au .sub .i64 (↑k) 1)) 1) 1) (aG os)) <|
 ck (a7 .i64 (af os (ah 0 (ae (au .sub .i64 (↑k) 1)) 1))) <|
 cond (ad .eql (ar (af os (ah 0 (ae (au .sub .i64 (↑k) 1)) 1))) 14) (ck (ag (aa nl 1) 1000000) <|
 ck (ag (aa 0 (aJ nl 5)) (aG ls)) <|
 ck (b9 (au .sub .i64 (↑k) 1)) <|
 ck (ag (ae (au .sub .i64 (↑k) 1)) k) <|
 K .normal [.slo 0 0 np 0,.z m,.b calm,.ptr 1 0,.slo 6 0 (aa nl 1) 0,.slo 3 0 (dR (ae (au .sub .i64 (↑k) 1)) 0) 0,.z ↑i,.ptr 4 0,.z ↑k,.z w,.any,.any,.b q,.any,.any,.any,.any,.any,.any] [some (.ro ks),sN [.nils],sD,sC os 1,sN [.z xw,.z xa,.z xb,.z xc,.int .u64 xn],sN [.z 15,.z 0,.z 0,.z 0,.int .u64 0],sC (bM (bf ls 0 (aJ nl 5)) [.z 15,.z 0,.z 0,.z 0,.int .u64 0]) 5] []) (cond (ad .eql (ar (af os (ah 0 (ae (au .sub .i64 (↑k) 1)) 1))) 17) (ck (b9 (au .sub .i64 (↑k) 1)) <|
 ck (ag (ae (au .sub .i64 (↑k) 1)) k) <|
 ck (ag (aa 0 (aJ (dR (ae (au .sub .i64 (↑k) 1)) 0) 1)) (aG os)) <|
 ck (ag (aJ (dR (ae (au .sub .i64 (↑k) 1)) 0) 8) 140737488355328) <|
 ck (ag (dR (ae (au .sub .i64 (↑k) 1)) 0) 140737488355328) <|
 ck (ag (aa (dR (ae (au .sub .i64 (↑k) 1)) 0) 1) 1000000) <|
 ck (ag (aa 0 (aJ (dR (ae (au .sub .i64 (↑k) 1)) 0) 1)) (aG (bf os 0 (aJ (dR (ae (au .sub .i64 (↑k) 1)) 0) 1)))) <|
 ck (ag (aa nl 1) 1000000) <|
 ck (ag (aa 0 (aJ nl 5)) (aG ls)) <|
 K .normal [.slo 0 0 np 0,.z m,.b calm,.ptr 1 0,.slo 9 0 (aa nl 1) 0,.slo 7 0 (aa (dR (ae (au .sub .i64 (↑k) 1)) 0) 1) 0,.z ↑i,.ptr 4 0,.z ↑k,.z w,.any,.any,.b q,.any,.any,.any,.any,.any,.any] [some (.ro ks),sN [.nils],sD,sC os 1,sN [.z xw,.z xa,.z xb,.z xc,.int .u64 xn],sD,sN [.z 18],sC (bM (bf (bf os 0 (aJ (dR (ae (au .sub .i64 (↑k) 1)) 0) 1)) 0 (aJ (dR (ae (au .sub .i64 (↑k) 1)) 0) 1)) [.z 18]) 1,sN [.z 18,.z 0,.z 0,.z 0,.int .u64 0],sC (bM (bf ls 0 (aJ nl 5)) [.z 18,.z 0,.z 0,.z 0,.int .u64 0]) 5] []) (ck (ag (aa nl 1) 1000000) <|
 ck (ag (aa 0 (aJ nl 5)) (aG ls)) <|
 ck (b9 (au .sub .i64 (↑k) 1)) <|
 ck (ag (ae (au .sub .i64 (↑k) 1)) k) <|
 K .normal [.slo 0 0 np 0,.z m,.b calm,.ptr 1 0,.slo 6 0 (aa nl 1) 0,.slo 3 0 (dR (ae (au .sub .i64 (↑k) 1)) 0) 0,.z ↑i,.ptr 4 0,.z ↑k,.z w,.any,.any,.b q,.any,.any,.any,.any,.any,.any] [some (.ro ks),sN [.nils],sD,sC os 1,sN [.z xw,.z xa,.z xb,.z xc,.int .u64 xn],sN [.z 19,.z 0,.z 0,.z 0,.int .u64 0],sC (bM (bf ls 0 (aJ nl 5)) [.z 19,.z 0,.z 0,.z 0,.int .u64 0]) 5] []))):=ak
theorem O4 (q:Bool) (np:Nat) (m:Int) (calm:Bool) (nl k i:Nat) (w:Int) (ks ls os:al) (xw xa xb xc xn:Int) (K:Pk):(bc prog gh 60 226 (bS (cG C6) 0 1) (aF 226 ((73,.b q)::ff np m calm nl k i w)) (ai (dK ks ls os xw xa xb xc xn)) (vK dY K))=(
 cond (ad .eql w 25) (cond (ad .gtr (↑k) 0) (ck (b9 (au .sub .i64 (↑k) 1)) <|
 ck (ag (aa (ae (au .sub .i64 (↑k) 1)) 1) k) <|
 ck (ag (aa (ah 0 (ae (au .sub .i64 (↑k) 1)) 1) 1) (aG os)) <|
 ck (a7 .i64 (af os (ah 0 (ae (au .sub .i64 (↑k) 1)) 1))) <|
 K .normal [.slo 0 0 np 0,.z m,.b calm,.ptr 1 0,.slo 2 0 nl 0,.slo 3 0 k 0,.z ↑i,.ptr 4 0,.z ↑k,.z w,.any,.any,.b q,.b (ad .eql (ar (af os (ah 0 (ae (au .sub .i64 (↑k) 1)) 1))) 14),.any,.any,.any,.any,.any] [some (.ro ks),sN [.nils],sC ls 5,sC os 1,sN [.z xw,.z xa,.z xb,.z xc,.int .u64 xn]] []) (K .normal [.slo 0 0 np 0,.z m,.b calm,.ptr 1 0,.slo 2 0 nl 0,.slo 3 0 k 0,.z ↑i,.ptr 4 0,.z ↑k,.z w,.any,.any,.b q,.b false,.any,.any,.any,.any,.any] [some (.ro ks),sN [.nils],sC ls 5,sC os 1,sN [.z xw,.z xa,.z xb,.z xc,.int .u64 xn]] [])) (K .normal [.slo 0 0 np 0,.z m,.b calm,.ptr 1 0,.slo 2 0 nl 0,.slo 3 0 k 0,.z ↑i,.ptr 4 0,.z ↑k,.z w,.any,.any,.b q,.b false,.any,.any,.any,.any,.any] [some (.ro ks),sN [.nils],sC ls 5,sC os 1,sN [.z xw,.z xa,.z xb,.z xc,.int .u64 xn]] [])):=ak
theorem Ob (q:Bool) (np:Nat) (m:Int) (calm:Bool) (nl k i:Nat) (w:Int) (ks ls os:al) (xw xa xb xc xn:Int) (K:Pk):(aX prog gh 60 226 (jS (bi (cG C6) 1)) (aF 226 ((90,.b q)::ff np m calm nl k i w)) (ai (dK ks ls os xw xa xb xc xn)) (vK dY K))=(
 ck (ag (aa nl 1) 1000000) <|
 ck (ag (aa 0 (aJ nl 5)) (aG ls)) <|
 K .normal [.slo 0 0 np 0,.z m,.b calm,.ptr 1 0,.slo 6 0 (aa nl 1) 0,.slo 3 0 k 0,.z ↑i,.ptr 4 0,.z ↑k,.z w,.any,.any,.any,.b q,.any,.any,.any,.any,.any] [some (.ro ks),sN [.nils],sD,sC os 1,sN [.z xw,.z xa,.z xb,.z xc,.int .u64 xn],sN [.z 16,.z 0,.z 0,.z 0,.int .u64 0],sC (bM (bf ls 0 (aJ nl 5)) [.z 16,.z 0,.z 0,.z 0,.int .u64 0]) 5] []):=ak
abbrev vD (ks:al) (ls:al) (os:al) (xw:Int) (xa:Int) (xb:Int) (xc:Int) (xn:Int):bE:=[some (.ro ks),sN [.nils],sC ls 5,sC os 1,sN [.z xw,.z xa,.z xb,.z xc,.int .u64 xn]]
theorem O5 (q:Bool) (np:Nat) (m:Int) (calm:Bool) (nl k i:Nat) (w:Int) (ks ls os:al) (xw xa xb xc xn:Int) (K:Pk):(bc prog gh 60 226 (bS (cG C7) 0 1) (aF 226 ((90,.b q)::ff np m calm nl k i w)) (ai (dK ks ls os xw xa xb xc xn)) (vK dY K))=(
 cond (ad .eql w 26) (cond (bu calm) (K .normal [.slo 0 0 np 0,.z m,.b calm,.ptr 1 0,.slo 2 0 nl 0,.slo 3 0 k 0,.z ↑i,.ptr 4 0,.z ↑k,.z w,.any,.any,.any,.b q,.b (ad .gtr (↑k) 0),.any,.any,.any,.any] (vD ks ls os xw xa xb xc xn) []) (K .normal [.slo 0 0 np 0,.z m,.b calm,.ptr 1 0,.slo 2 0 nl 0,.slo 3 0 k 0,.z ↑i,.ptr 4 0,.z ↑k,.z w,.any,.any,.any,.b q,.b false,.any,.any,.any,.any] (vD ks ls os xw xa xb xc xn) [])) (cond (ad .eql w 27) (cond (bu calm) (K .normal [.slo 0 0 np 0,.z m,.b calm,.ptr 1 0,.slo 2 0 nl 0,.slo 3 0 k 0,.z ↑i,.ptr 4 0,.z ↑k,.z w,.any,.any,.any,.b q,.b (ad .gtr (↑k) 0),.any,.any,.any,.any] (vD ks ls os xw xa xb xc xn) []) (K .normal [.slo 0 0 np 0,.z m,.b calm,.ptr 1 0,.slo 2 0 nl 0,.slo 3 0 k 0,.z ↑i,.ptr 4 0,.z ↑k,.z w,.any,.any,.any,.b q,.b false,.any,.any,.any,.any] (vD ks ls os xw xa xb xc xn) [])) (K .normal [.slo 0 0 np 0,.z m,.b calm,.ptr 1 0,.slo 2 0 nl 0,.slo 3 0 k 0,.z ↑i,.ptr 4 0,.z ↑k,.z w,.any,.any,.any,.b q,.b false,.any,.any,.any,.any] (vD ks ls os xw xa xb xc xn) []))):=ak
theorem Oc (q:Bool) (np:Nat) (m:Int) (calm:Bool) (nl k i:Nat) (w:Int) (ks ls os:al) (xw xa xb xc xn:Int) (K:Pk):(aX prog gh 60 226 (jS (bi (cG C7) 1)) (aF 226 ((109,.b q)::ff np m calm nl k i w)) (ai (dK ks ls os xw xa xb xc xn)) (vK dY K))=(
 ck (ag (aa nl 2) 1000000) <|
 ck (ag (aa 0 (aJ nl 5)) (aG ls)) <|
 K .normal [.slo 0 0 np 0,.z m,.b calm,.ptr 1 0,.slo 6 0 (aa nl 2) 0,.slo 3 0 k 0,.z ↑i,.ptr 4 0,.z ↑k,.z w,.any,.any,.any,.any,.b q,.any,.any,.any,.any] [some (.ro ks),sN [.nils],sD,sC os 1,sN [.z xw,.z xa,.z xb,.z xc,.int .u64 xn],sN [.z 13,.z (az xa 0 6),.z 0,.z (au .add .i64 (↑nl) 2),.int .u64 0,.z 20,.z 0,.z 0,.z 0,.int .u64 0],sC (bM (bf ls 0 (aJ nl 5)) [.z 13,.z (az xa 0 6),.z 0,.z (au .add .i64 (↑nl) 2),.int .u64 0,.z 20,.z 0,.z 0,.z 0,.int .u64 0]) 5] []):=ak
theorem O6 (q:Bool) (np:Nat) (m:Int) (calm:Bool) (nl k i:Nat) (w:Int) (ks ls os:al) (xw xa xb xc xn:Int) (K:Pk):(bc prog gh 60 226 (bS (cG C8) 0 1) (aF 226 ((109,.b q)::ff np m calm nl k i w)) (ai (dK ks ls os xw xa xb xc xn)) (vK dY K))=(
 cond (ad .eql w 28) (K .normal [.slo 0 0 np 0,.z m,.b calm,.ptr 1 0,.slo 2 0 nl 0,.slo 3 0 k 0,.z ↑i,.ptr 4 0,.z ↑k,.z w,.any,.any,.any,.any,.b q,.b (bu calm),.any,.any,.any] [some (.ro ks),sN [.nils],sC ls 5,sC os 1,sN [.z xw,.z xa,.z xb,.z xc,.int .u64 xn]] []) (K .normal [.slo 0 0 np 0,.z m,.b calm,.ptr 1 0,.slo 2 0 nl 0,.slo 3 0 k 0,.z ↑i,.ptr 4 0,.z ↑k,.z w,.any,.any,.any,.any,.b q,.b false,.any,.any,.any] [some (.ro ks),sN [.nils],sC ls 5,sC os 1,sN [.z xw,.z xa,.z xb,.z xc,.int .u64 xn]] [])):=ak
theorem Od (q:Bool) (np:Nat) (m:Int) (calm:Bool) (nl k i:Nat) (w:Int) (ks ls os:al) (xw xa xb xc xn:Int) (K:Pk):(aX prog gh 60 226 (jS (bi (cG C8) 1)) (aF 226 ((135,.b q)::ff np m calm nl k i w)) (ai (dK ks ls os xw xa xb xc xn)) (vK dY K))=(
 ck (ag (aa nl 2) 1000000) <|
 ck (ag (aa 0 (aJ nl 5)) (aG ls)) <|
 K .normal [.slo 0 0 np 0,.z m,.b calm,.ptr 1 0,.slo 6 0 (aa nl 2) 0,.slo 3 0 k 0,.z ↑i,.ptr 4 0,.z ↑k,.z w,.any,.any,.any,.any,.any,.b q,.any,.any,.any] [some (.ro ks),sN [.nils],sD,sC os 1,sN [.z xw,.z xa,.z xb,.z xc,.int .u64 xn],sN [.z 13,.z (az xa 0 6),.z 0,.z (au .add .i64 (↑nl) 2),.int .u64 0,.z 20,.z 0,.z 0,.z 0,.int .u64 0],sC (bM (bf ls 0 (aJ nl 5)) [.z 13,.z (az xa 0 6),.z 0,.z (au .add .i64 (↑nl) 2),.int .u64 0,.z 20,.z 0,.z 0,.z 0,.int .u64 0]) 5] []):=ak
theorem O7 (q:Bool) (np:Nat) (m:Int) (calm:Bool) (nl k i:Nat) (w:Int) (ks ls os:al) (xw xa xb xc xn:Int) (K:Pk):(bc prog gh 60 226 (bS (cG C9) 0 1) (aF 226 ((135,.b q)::ff np m calm nl k i w)) (ai (dK ks ls os xw xa xb xc xn)) (vK dY K))=(
 cond (ad .eql w 29) (K .normal [.slo 0 0 np 0,.z m,.b calm,.ptr 1 0,.slo 2 0 nl 0,.slo 3 0 k 0,.z ↑i,.ptr 4 0,.z ↑k,.z w,.any,.any,.any,.any,.any,.b q,.b (bu calm),.any,.any] [some (.ro ks),sN [.nils],sC ls 5,sC os 1,sN [.z xw,.z xa,.z xb,.z xc,.int .u64 xn]] []) (K .normal [.slo 0 0 np 0,.z m,.b calm,.ptr 1 0,.slo 2 0 nl 0,.slo 3 0 k 0,.z ↑i,.ptr 4 0,.z ↑k,.z w,.any,.any,.any,.any,.any,.b q,.b false,.any,.any] [some (.ro ks),sN [.nils],sC ls 5,sC os 1,sN [.z xw,.z xa,.z xb,.z xc,.int .u64 xn]] [])):=ak
theorem Oe (q:Bool) (np:Nat) (m:Int) (calm:Bool) (nl k i:Nat) (w:Int) (ks ls os:al) (xw xa xb xc xn:Int) (K:Pk):(aX prog gh 60 226 (jS (bi (cG C9) 1)) (aF 226 ((153,.b q)::ff np m calm nl k i w)) (ai (dK ks ls os xw xa xb xc xn)) (vK dY K))=(
 ck (ag (aa nl 2) 1000000) <|
 ck (ag (aa 0 (aJ nl 5)) (aG ls)) <|
 K .normal [.slo 0 0 np 0,.z m,.b calm,.ptr 1 0,.slo 6 0 (aa nl 2) 0,.slo 3 0 k 0,.z ↑i,.ptr 4 0,.z ↑k,.z w,.any,.any,.any,.any,.any,.any,.b q,.any,.any] [some (.ro ks),sN [.nils],sD,sC os 1,sN [.z xw,.z xa,.z xb,.z xc,.int .u64 xn],sN [.z 13,.z (az xa 0 6),.z 0,.z (au .add .i64 (↑nl) 2),.int .u64 0,.z 22,.z 0,.z 0,.z 0,.int .u64 0],sC (bM (bf ls 0 (aJ nl 5)) [.z 13,.z (az xa 0 6),.z 0,.z (au .add .i64 (↑nl) 2),.int .u64 0,.z 22,.z 0,.z 0,.z 0,.int .u64 0]) 5] []):=ak
theorem O8 (q:Bool) (np:Nat) (m:Int) (calm:Bool) (nl k i:Nat) (w:Int) (ks ls os:al) (xw xa xb xc xn:Int) (K:Pk):(bc prog gh 60 226 (bS (cG C_) 0 1) (aF 226 ((153,.b q)::ff np m calm nl k i w)) (ai (dK ks ls os xw xa xb xc xn)) (vK dY K))=(
 cond (ad .eql w 30) (K .normal [.slo 0 0 np 0,.z m,.b calm,.ptr 1 0,.slo 2 0 nl 0,.slo 3 0 k 0,.z ↑i,.ptr 4 0,.z ↑k,.z w,.any,.any,.any,.any,.any,.any,.b q,.b true,.any] [some (.ro ks),sN [.nils],sC ls 5,sC os 1,sN [.z xw,.z xa,.z xb,.z xc,.int .u64 xn]] []) (K .normal [.slo 0 0 np 0,.z m,.b calm,.ptr 1 0,.slo 2 0 nl 0,.slo 3 0 k 0,.z ↑i,.ptr 4 0,.z ↑k,.z w,.any,.any,.any,.any,.any,.any,.b q,.b (ad .eql w 31),.any] [some (.ro ks),sN [.nils],sC ls 5,sC os 1,sN [.z xw,.z xa,.z xb,.z xc,.int .u64 xn]] [])):=ak
theorem Of (q:Bool) (np:Nat) (m:Int) (calm:Bool) (nl k i:Nat) (w:Int) (ks ls os:al) (xw xa xb xc xn:Int) (K:Pk):(aX prog gh 60 226 (jS (bi (cG C_) 1)) (aF 226 ((171,.b q)::ff np m calm nl k i w)) (ai (dK ks ls os xw xa xb xc xn)) (vK dY K))=(
 ck (ag (aa nl 2) 1000000) <|
 ck (ag (aa 0 (aJ nl 5)) (aG ls)) <|
 ck (ad .eql xw xw) <|
 ck (ad .eql xa xa) <|
 ck (ad .eql xb xb) <|
 ck (ad .eql xc xc) <|
 ck (ad .eql xn xn) <|
 ck (ad .eql xw xw) <|
 ck (ad .eql xa xa) <|
 ck (ad .eql xb xb) <|
 ck (ad .eql xc xc) <|
 ck (ad .eql xn xn) <|
 K .normal [.slo 0 0 np 0,.z m,.b calm,.ptr 1 0,.slo 6 0 (aa nl 2) 0,.slo 3 0 k 0,.z ↑i,.ptr 4 0,.z ↑k,.z w,.any,.any,.any,.any,.any,.any,.any,.b q,.any] [some (.ro ks),sN [.nils],sD,sC os 1,sN [.z xw,.z xa,.z xb,.z xc,.int .u64 xn],sN [.z 13,.z (az xb 0 6),.z 0,.z (au .add .i64 (↑nl) 2),.int .u64 0,.z (ng xw xa xb xc xn),.z (nu xw xa xb xc xn),.z (nr xw xa xb xc xn),.z (nq xw xa xb xc xn),.int .u64 (nh xw xa xb xc xn)],sC (bM (bf ls 0 (aJ nl 5)) [.z 13,.z (az xb 0 6),.z 0,.z (au .add .i64 (↑nl) 2),.int .u64 0,.z (ng xw xa xb xc xn),.z (nu xw xa xb xc xn),.z (nr xw xa xb xc xn),.z (nq xw xa xb xc xn),.int .u64 (nh xw xa xb xc xn)]) 5] []):=ak
theorem O9 (q:Bool) (np:Nat) (m:Int) (calm:Bool) (nl k i:Nat) (w:Int) (ks ls os:al) (xw xa xb xc xn:Int) (K:Pk):(bc prog gh 60 226 (bS (cG Da) 0 1) (aF 226 ((171,.b q)::ff np m calm nl k i w)) (ai (dK ks ls os xw xa xb xc xn)) (vK dY K))=(
 cond (ad .eql w 32) (K .normal [.slo 0 0 np 0,.z m,.b calm,.ptr 1 0,.slo 2 0 nl 0,.slo 3 0 k 0,.z ↑i,.ptr 4 0,.z ↑k,.z w,.any,.any,.any,.any,.any,.any,.any,.b q,.b (bu calm)] [some (.ro ks),sN [.nils],sC ls 5,sC os 1,sN [.z xw,.z xa,.z xb,.z xc,.int .u64 xn]] []) (K .normal [.slo 0 0 np 0,.z m,.b calm,.ptr 1 0,.slo 2 0 nl 0,.slo 3 0 k 0,.z ↑i,.ptr 4 0,.z ↑k,.z w,.any,.any,.any,.any,.any,.any,.any,.b q,.b false] [some (.ro ks),sN [.nils],sC ls 5,sC os 1,sN [.z xw,.z xa,.z xb,.z xc,.int .u64 xn]] [])):=ak
theorem Og (q:Bool) (np:Nat) (m:Int) (calm:Bool) (nl k i:Nat) (w:Int) (ks ls os:al) (xw xa xb xc xn:Int) (K:Pk):(aX prog gh 60 226 (jS (bi (cG Da) 1)) (aF 226 ((190,.b q)::ff np m calm nl k i w)) (ai (dK ks ls os xw xa xb xc xn)) (vK dY K))=(
 ck (ag (aa nl 2) 1000000) <|
 ck (ag (aa 0 (aJ nl 5)) (aG ls)) <|
 ck (ad .eql xb xb) <|
 ck (ad .eql xb xb) <|
 K .normal [.slo 0 0 np 0,.z m,.b calm,.ptr 1 0,.slo 6 0 (aa nl 2) 0,.slo 3 0 k 0,.z ↑i,.ptr 4 0,.z ↑k,.z w,.any,.any,.any,.any,.any,.any,.any,.any,.b q] [some (.ro ks),sN [.nils],sD,sC os 1,sN [.z xw,.z xa,.z xb,.z xc,.int .u64 xn],sN [.z (ng xw xa xb xc xn),.z (nu xw xa xb xc xn),.z (nr xw xa xb xc xn),.z (nq xw xa xb xc xn),.int .u64 (nh xw xa xb xc xn),.z 13,.z (az xb 0 6),.z 0,.z ↑nl,.int .u64 0],sC (bM (bf ls 0 (aJ nl 5)) [.z (ng xw xa xb xc xn),.z (nu xw xa xb xc xn),.z (nr xw xa xb xc xn),.z (nq xw xa xb xc xn),.int .u64 (nh xw xa xb xc xn),.z 13,.z (az xb 0 6),.z 0,.z ↑nl,.int .u64 0]) 5] []):=ak
theorem Oh (q:Bool) (np:Nat) (m:Int) (calm:Bool) (nl k i:Nat) (w:Int) (ks ls os:al) (xw xa xb xc xn:Int) (K:Pk):(aX prog gh 60 226 Oo (aF 226 ((190,.b q)::ff np m calm nl k i w)) (ai (dK ks ls os xw xa xb xc xn)) (vK dY K))=(
 ck (ag (aa nl 1) 1000000) <|
 ck (ag (aa 0 (aJ nl 5)) (aG ls)) <|
 K .normal [.slo 0 0 np 0,.z m,.b calm,.ptr 1 0,.slo 6 0 (aa nl 1) 0,.slo 3 0 k 0,.z ↑i,.ptr 4 0,.z ↑k,.z w,.any,.any,.any,.any,.any,.any,.any,.any,.b q] [some (.ro ks),sN [.nils],sD,sC os 1,sN [.z xw,.z xa,.z xb,.z xc,.int .u64 xn],sN [.z (ng xw xa xb xc xn),.z (nu xw xa xb xc xn),.z (nr xw xa xb xc xn),.z (nq xw xa xb xc xn),.int .u64 (nh xw xa xb xc xn)],sC (bM (bf ls 0 (aJ nl 5)) [.z (ng xw xa xb xc xn),.z (nu xw xa xb xc xn),.z (nr xw xa xb xc xn),.z (nq xw xa xb xc xn),.int .u64 (nh xw xa xb xc xn)]) 5] []):=ak
theorem Ow (np:Nat) (m:Int) (calm:Bool) (nl k i:Nat) (ks ls os:al) (K:Pk):(bc prog gh 60 226 (pgR.drop 3) (aF 226 (oU np m calm nl k i)) (ai (qX ks ls os)) (vK dY K))=(
 K .normal [.slo 0 0 np 0,.z m,.b calm,.ptr 1 0,.slo 2 0 nl 0,.slo 3 0 k 0,.z (au .add .i64 (↑i) 1),.any,.any,.any,.any,.any,.any,.any,.any,.any,.any,.any,.any] [some (.ro ks),sN [.nils],sC ls 5,sC os 1] []):=ak
theorem Ou (nl k:Nat) (ks ls os:al) (K:Pk):(aX prog gh 60 226 (ce (bi pgF 5)) (aF 226 (Ch nl k)) (ai (qX ks ls os)) (vK dY K))=(
 cond (ad .gtr (↑k) 0) (ck (b9 (au .sub .i64 (↑k) 1)) <|
 ck (ag (aa (ae (au .sub .i64 (↑k) 1)) 1) k) <|
 ck (ag (aa (ah 0 (ae (au .sub .i64 (↑k) 1)) 1) 1) (aG os)) <|
 ck (a7 .i64 (af os (ah 0 (ae (au .sub .i64 (↑k) 1)) 1))) <|
 cond (ad .eql (ar (af os (ah 0 (ae (au .sub .i64 (↑k) 1)) 1))) 14) (ck (ag (aa nl 1) 1000000) <|
 ck (ag (aa 0 (aJ nl 5)) (aG ls)) <|
 ck (b9 (au .sub .i64 (↑k) 1)) <|
 ck (ag (ae (au .sub .i64 (↑k) 1)) k) <|
 K .normal [.any,.any,.any,.ptr 1 0,.slo 5 0 (aa nl 1) 0,.slo 3 0 (dR (ae (au .sub .i64 (↑k) 1)) 0) 0,.any,.any,.any,.any,.any,.any,.any,.any,.any,.any,.any,.any,.any] [some (.ro ks),sN [.nils],sD,sC os 1,sN [.z 15,.z 0,.z 0,.z 0,.int .u64 0],sC (bM (bf ls 0 (aJ nl 5)) [.z 15,.z 0,.z 0,.z 0,.int .u64 0]) 5] []) (cond (ad .eql (ar (af os (ah 0 (ae (au .sub .i64 (↑k) 1)) 1))) 17) (ck (b9 (au .sub .i64 (↑k) 1)) <|
 ck (ag (ae (au .sub .i64 (↑k) 1)) k) <|
 ck (ag (aa 0 (aJ (dR (ae (au .sub .i64 (↑k) 1)) 0) 1)) (aG os)) <|
 ck (ag (aJ (dR (ae (au .sub .i64 (↑k) 1)) 0) 8) 140737488355328) <|
 ck (ag (dR (ae (au .sub .i64 (↑k) 1)) 0) 140737488355328) <|
 ck (ag (aa (dR (ae (au .sub .i64 (↑k) 1)) 0) 1) 1000000) <|
 ck (ag (aa 0 (aJ (dR (ae (au .sub .i64 (↑k) 1)) 0) 1)) (aG (bf os 0 (aJ (dR (ae (au .sub .i64 (↑k) 1)) 0) 1)))) <|
 ck (ag (aa nl 1) 1000000) <|
 ck (ag (aa 0 (aJ nl 5)) (aG ls)) <|
 K .normal [.any,.any,.any,.ptr 1 0,.slo 8 0 (aa nl 1) 0,.slo 6 0 (aa (dR (ae (au .sub .i64 (↑k) 1)) 0) 1) 0,.any,.any,.any,.any,.any,.any,.any,.any,.any,.any,.any,.any,.any] [some (.ro ks),sN [.nils],sD,sC os 1,sD,sN [.z 18],sC (bM (bf (bf os 0 (aJ (dR (ae (au .sub .i64 (↑k) 1)) 0) 1)) 0 (aJ (dR (ae (au .sub .i64 (↑k) 1)) 0) 1)) [.z 18]) 1,sN [.z 18,.z 0,.z 0,.z 0,.int .u64 0],sC (bM (bf ls 0 (aJ nl 5)) [.z 18,.z 0,.z 0,.z 0,.int .u64 0]) 5] []) (ck (ag (aa nl 1) 1000000) <|
 ck (ag (aa 0 (aJ nl 5)) (aG ls)) <|
 ck (b9 (au .sub .i64 (↑k) 1)) <|
 ck (ag (ae (au .sub .i64 (↑k) 1)) k) <|
 K .normal [.any,.any,.any,.ptr 1 0,.slo 5 0 (aa nl 1) 0,.slo 3 0 (dR (ae (au .sub .i64 (↑k) 1)) 0) 0,.any,.any,.any,.any,.any,.any,.any,.any,.any,.any,.any,.any,.any] [some (.ro ks),sN [.nils],sD,sC os 1,sN [.z 19,.z 0,.z 0,.z 0,.int .u64 0],sC (bM (bf ls 0 (aJ nl 5)) [.z 19,.z 0,.z 0,.z 0,.int .u64 0]) 5] []))) (K (.exit 3) [.any,.any,.any,.ptr 1 0,.slo 2 0 nl 0,.slo 3 0 k 0,.any,.any,.any,.any,.any,.any,.any,.any,.any,.any,.any,.any,.any] [some (.ro ks),sN [.nils],sC ls 5,sC os 1] [])):=ak
theorem Ox (nl:Nat) (ks ls os:al) (K:Pk):(bc prog gh 60 226 (pgF.drop 6) (aF 226 (GX nl)) (ai (qX ks ls os)) (vK dY K))=(
 cond (ad .eql (↑nl) 0) (ck (ag (aa nl 1) 1000000) <|
 ck (ag (aa 0 (aJ nl 5)) (aG ls)) <|
 K .ret [.any,.any,.any,.ptr 1 0,.slo 5 0 (aa nl 1) 0,.any,.any,.any,.any,.any,.any,.any,.any,.any,.any,.any,.any,.any,.any] [some (.ro ks),sN [.slo 5 0 (aa nl 1) 0],sD,sC os 1,sN [.z 1,.z 0,.z 0,.z 0,.int .u64 1],sC (bM (bf ls 0 (aJ nl 5)) [.z 1,.z 0,.z 0,.z 0,.int .u64 1]) 5] []) (K .ret [.any,.any,.any,.ptr 1 0,.slo 2 0 nl 0,.any,.any,.any,.any,.any,.any,.any,.any,.any,.any,.any,.any,.any,.any] [some (.ro ks),sN [.slo 2 0 nl 0],sC ls 5,sC os 1] [])):=ak
end
end Go.Lev
