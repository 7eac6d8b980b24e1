/- chapter 11: a parted heap's blocks and lists; Lists of the code as a contract where there are any -/
import Derived.Test.YtopbikapcboigaaCQ5
import Derived.Test.YtopbikapcboigaaLc
import Derived.Test.YtopbikapcboigaaChecked
import Derived.KernelRfl
namespace Go.Lev
set_option linter.unusedSimpArgs false
set_option linter.unusedVariables false
open Go.RowKit
open Go.Proofs.Try (prog)
set_option maxRecDepth 100000
noncomputable section
def bkOf (ws:List Int) (b:Nat×Nat):Blk:=(((b.1+1:Nat):Int),(b.2:Int),decide (8 < ws.getD b.1 0))
theorem hd_cl {c:Nat} {h:Int} (h1:1≤c) (h2:c≤4) (h3:h=(c:Int)+8∨h=c):hdOk h∧hdC h=c∧hdN h=2 ^ c:=by
 have e:hdC h=c:=by unfold hdC; split <;> omega
 exact⟨by unfold hdOk; omega,e,by rw [hdN,e]; rfl⟩
theorem PtC.bk {ws:List Int} {e:Nat}:∀ {cs:List (Nat×Nat)} {p:Nat},PtC e p cs→(∀ q c,(q,c)∈cs→ws.getD q 0=(c:Int)+8∨ws.getD q 0=c)→∀ acc,bkW ws e p acc=some (acc++cs.map (bkOf ws))
 | [],p,h,_,acc=>by simp only [PtC] at h; rw [bkW_end (by omega)]; simp
 | (q,c)::r,p,h,k,acc=>by
   obtain⟨rfl,h1,h2,h3⟩:=h
   dsimp only at h1 h2 h3 ⊢
   have hp:=pw_b h1 h2
   have hle:=h3.le
   obtain⟨g1,g2,g3⟩:=hd_cl h1 h2 (k q c (by simp))
   rw [bkW_go (by omega) g1 (by rw [g3]; exact hle),g3,PtC.bk h3 (fun q' c' h'=>k q' c' (by simp [h']))]
   have:hdB q (ws.getD q 0)=bkOf ws (q,c):=by rw [hdB,bkOf,g2]
   rw [this]; simp
theorem PI.bkF {ws st:List Int} {e:Nat} {cs:List (Nat×Nat)} {R:Nat→List Nat} (I:PI ws st e cs R):bkF ws=some (cs.map (bkOf ws)):=by
 have n1:=I.n1; have n2:=I.n2; have el:=I.el; have he:14≤e:=I.pt.le
 rw [Go.Lev.bkF,if_pos (by rw [I.e5]; omega),I.e5,show((e:Nat):Int).toNat=e from rfl]
 exact I.pt.bk (fun q c h=>by rcases I.hd q c h with h' | h' | h' <;> omega) []
theorem lsW_chn {ws:List Int} {bs:List Blk} {c:Int}:∀ (l:List Nat) (a:Int) (row:List Int),Chn ws a l→(∀ x∈l,isBk bs c (x:Int)∧x≠0)→(∀ x∈l,((x:Nat):Int) ∉ row)→l.Nodup→lsW ws bs c a row=some (row++l.map Int.ofNat)
 | [],a,row,h,_,_,_=>by simp only [Chn] at h; subst h; rw [lsW_end]; simp
 | x::r,a,row,h,hb,hn,nd=>by
   obtain⟨rfl,h2⟩:=h
   obtain⟨b1,b2⟩:=hb x (by simp)
   rw [lsW_go (by omega) ⟨b1,hn x (by simp)⟩,show((x:Nat):Int).toNat=x from rfl,lsW_chn r _ _ h2 (fun y hy=>hb y (by simp [hy])) (fun y hy hm=>?_) (List.nodup_cons.1 nd).2]
   ·simp
   ·rcases List.mem_append.1 hm with hm | hm
    ·exact hn y (by simp [hy]) hm
    ·have e:y=x:=by simp at hm; omega
     subst e; exact(List.nodup_cons.1 nd).1 hy
theorem PI.ls {ws st:List Int} {e:Nat} {cs:List (Nat×Nat)} {R:Nat→List Nat} (I:PI ws st e cs R) {c:Nat} (h1:1≤c) (h2:c≤4):ls1 ws (cs.map (bkOf ws)) c=some ((R c).map Int.ofNat):=by
 rw [ls1,lsW_chn (R c) _ [] (I.ch c h1 h2) (fun x hx=>?_) (fun x _ h=>by cases h) (I.nd c h1 h2)]
 ·simp
 ·obtain⟨q,hq,rfl⟩:=I.rc c x h1 h2 hx
  refine⟨⟨bkOf ws (q,c),List.mem_map.2 ⟨_,hq,rfl⟩,rfl,rfl,?_⟩,by omega⟩
  rcases I.hd q c hq with h | h | h
  ·exact absurd hx h.2.2
  ·exact absurd hx h.2.2
  ·show decide (8 < ws.getD q 0)=false
   rw [h.1]; simp; omega
theorem PI.lsAll {ws st:List Int} {e:Nat} {cs:List (Nat×Nat)} {R:Nat→List Nat} (I:PI ws st e cs R):lsAll ws=some ((R 1).map Int.ofNat,(R 2).map Int.ofNat,(R 3).map Int.ofNat,(R 4).map Int.ofNat):=by
 rw [Go.Lev.lsAll,I.bkF]
 simp [I.ls]
def lrL (us:List Int):List Int×List Int×List Int×List Int:=(lsAll us).getD ([],[],[],[])
def lsS (wc:List LV):Bool:=(lsAll (decIu64 wc)).isSome
def lrN1 (wc:List LV):Nat:=(lrL (decIu64 wc)).1.length
def lrN2 (wc:List LV):Nat:=(lrL (decIu64 wc)).2.1.length
def lrN3 (wc:List LV):Nat:=(lrL (decIu64 wc)).2.2.1.length
def lrN4 (wc:List LV):Nat:=(lrL (decIu64 wc)).2.2.2.length
def lrC1 (wc:List LV):List LV:=encL (cI .i64) (lrL (decIu64 wc)).1
def lrC2 (wc:List LV):List LV:=encL (cI .i64) (lrL (decIu64 wc)).2.1
def lrC3 (wc:List LV):List LV:=encL (cI .i64) (lrL (decIu64 wc)).2.2.1
def lrC4 (wc:List LV):List LV:=encL (cI .i64) (lrL (decIu64 wc)).2.2.2
theorem lsg_c (n:Nat) (wc:List LV) (k1:okU wc n=true) (k2:xle n 100000=true) (k3:lsS wc=true):SFun prog 31 [.slo 0 0 n 0] (mkS [.cells wc (some 1)]) fun l t=>l=.tup [.slo 1 0 4 0,.int .i64 0]∧t=mkS [.cells wc (some 1),.cells [.slo 2 0 (lrN1 wc) 0,.slo 3 0 (lrN2 wc) 0,.slo 4 0 (lrN3 wc) 0,.slo 5 0 (lrN4 wc) 0] (some 1),.cells (lrC1 wc) (some 1),.cells (lrC2 wc) (some 1),.cells (lrC3 wc) (some 1),.cells (lrC4 wc) (some 1)]:=by
 obtain⟨us,rfl,rfl,h1,h2⟩:=okU_iff.1 k1
 rw [wd_le,decide_eq_true_eq] at k2
 rw [lsS,decIu64_enc] at k3
 refine SFun.mono (ls_ok us h2 k2) fun l t ⟨b,hq,ht⟩=>?_
 rcases hq with⟨q1,_⟩ | ⟨r1,r2,r3,r4,q1,q2,q3⟩
 ·rw [q1] at k3; cases k3
 ·refine⟨q2,by rw [ht,q3]; simp only [lrN1,lrN2,lrN3,lrN4,lrC1,lrC2,lrC3,lrC4,decIu64_enc,lrL,q1]; rfl⟩
def lsG:Gc:=fun args s=>match args,s.g with
 | [.slo q 0 n 0],[]=>(match s.h.get q with
   | some (.cells wc (some 1))=>(match s.lay [q] [.cells wc (some 1)] [.cells [.slo (Nat.succ s.n) 0 (lrN1 wc) 0,.slo (Nat.succ (Nat.succ s.n)) 0 (lrN2 wc) 0,.slo (Nat.succ (Nat.succ (Nat.succ s.n))) 0 (lrN3 wc) 0,.slo (Nat.succ (Nat.succ (Nat.succ (Nat.succ s.n)))) 0 (lrN4 wc) 0] (some 1),.cells (lrC1 wc) (some 1),.cells (lrC2 wc) (some 1),.cells (lrC3 wc) (some 1),.cells (lrC4 wc) (some 1)] with
     | some s'=>some ([okU wc n,xle n 100000,lsS wc],.tup [.slo s.n 0 4 0,.int .i64 0],s')
     | none=>none)
   | _=>none)
 | _,_=>none
theorem lsG_ok:GOk prog 31 lsG:=by
 intro args s bs l s' hg hb hfr
 unfold lsG at hg
 split at hg
 ·rename_i q n hgl
  split at hg
  ·rename_i wc hb0
   split at hg
   ·rename_i s1 hs1
    simp only [Option.some.injEq,Prod.mk.injEq] at hg
    obtain⟨rfl,rfl,rfl⟩:=hg
    simp only [allT_cons] at hb
    obtain⟨k1,k2,k3,_⟩:=hb
    have no:noIds wc=true:=okU_no k1
    refine SFun.lay (bs:=[.cells wc (some 1)]) (args0:=[.slo 0 0 n 0]) (bs':=[.cells wc (some 1),.cells [.slo 2 0 (lrN1 wc) 0,.slo 3 0 (lrN2 wc) 0,.slo 4 0 (lrN3 wc) 0,.slo 5 0 (lrN4 wc) 0] (some 1),.cells (lrC1 wc) (some 1),.cells (lrC2 wc) (some 1),.cells (lrC3 wc) (some 1),.cells (lrC4 wc) (some 1)]) (v0:=.tup [.slo 1 0 4 0,.int .i64 0]) hfr hs1 (by simp)
     ⟨⟨there hfr hb0,_,hb0,lb_same (by(exact zId)),fun κ hκ=>lb_same (by(exact zId))⟩,trivial⟩ (by(exact zTl)) ?_
     fun κ h1 h2=>⟨⟨lb_same (by(exact zId)),lb_cells (lws_cons (lw_slo (h2 1 (by simp))) (lws_cons (lw_slo (h2 2 (by simp))) (lws_cons (lw_slo (h2 3 (by simp))) (lws_cons (lw_slo (h2 4 (by simp))) lws_nil)))) (by simp),lb_same (noIds_Ii64 _),lb_same (noIds_Ii64 _),lb_same (noIds_Ii64 _),lb_same (noIds_Ii64 _),trivial⟩,(lw_tup (lws_cons (lw_slo (h2 0 (by simp))) (lws_cons (lw_int) lws_nil)))⟩
    rw [hgl]; exact(lsg_c n wc k1 k2 k3)
   ·cases hg
  ·cases hg
 ·cases hg
end
end Go.Lev
