/- chapter 11: a view that knows all the words of a row of one's own -/
import Derived.Test.YtopbikapcboigaaCZ10
import Derived.Test.YtopbikapcboigaaLc
import Derived.Test.YtopbikapcboigaaChecked
import Derived.KernelRfl
namespace Go.Lev
set_option linter.unusedSimpArgs false
set_option linter.unusedVariables false
open Go.RowKit
open Go.Proofs.Try (prog)
set_option maxRecDepth 100000
noncomputable section
theorem held_x (n lo hi:Int) (K:Fk):(xfun prog (fun _=>none) 40 38 [.int .i64 n,.int .i64 lo,.int .i64 hi] (mkS []) (vF K))=(
 bif xcm .lss n lo then(
 K (.int .i64 lo) [] [])
 else(
 bif xcm .gtr n hi then(
 K (.int .i64 hi) [] [])
 else(
 K (.int .i64 n) [] []))):=by kernel_rfl
def hldV (n lo hi:Int):Int:=if n < lo then lo else if hi < n then hi else n
def heldG:Gc:=fun args s=>match args,s.g with
 | [.int .i64 n,.int .i64 lo,.int .i64 hi],[]=>some ([],.int .i64 (hldV n lo hi),s)
 | _,_=>none
theorem held_ok (n lo hi:Int):SFun prog 38 [.int .i64 n,.int .i64 lo,.int .i64 hi] (mkS []) fun l s=>l=.int .i64 (hldV n lo hi)∧s=mkS []:=by
 refine SFun.mono (SFun.vc (Q:=fun l b=>l=.int .i64 (hldV n lo hi)∧b=[]) noCx_ok (n:=40) 0 rfl ?_) fun l s' ⟨b0,⟨h1,h2⟩,h3⟩=>⟨h1,by rw [h3,h2]⟩
 rw [held_x]
 simp only [xcm_lss,xcm_gtr,hldV]
 refine ite_way (fun h0=>?_) (fun h0=>?_)
 ·rw [if_pos h0]; exact⟨rfl,_,[],[],⟨rfl,rfl⟩,by(exact zC)⟩
 rw [if_neg h0]
 refine ite_way (fun h1=>?_) (fun h1=>?_)
 ·rw [if_pos h1]; exact⟨rfl,_,[],[],⟨rfl,rfl⟩,by(exact zC)⟩
 ·rw [if_neg h1]; exact⟨rfl,_,[],[],⟨rfl,rfl⟩,by(exact zC)⟩
theorem heldG_ok:GOk prog 38 heldG:=by
 intro args s bs l s' hg hb hfr
 unfold heldG at hg
 split at hg
 ·rename_i a lo hi hgl
  simp only [Option.some.injEq,Prod.mk.injEq] at hg
  obtain⟨rfl,rfl,rfl⟩:=hg
  exact SFun.pure hfr hgl rfl rfl (held_ok a lo hi)
 ·cases hg
theorem hld_cl {n lo hi:Int} (h:lo≤hi):hldV n lo hi=xmn (xmx n lo) hi:=by
 simp only [hldV,wd_mn,wd_mx]; split <;> split <;> (try split) <;> omega
theorem encIu64_len (xs:List Int):(encL (cI .u64) xs).length=xs.length:=by rw [encL_length (cI_len .u64)]; omega
theorem encIu64_nth {xs:List Int} {i:Nat} (h:i < xs.length):nthD (encL (cI .u64) xs) i=.int .u64 xs[i]:=by
 have:=encL_nth (cI_len .u64) (j:=0) h (by omega)
 simp only [Nat.mul_one,Nat.add_zero] at this
 exact this
theorem noIds_Iu64 (xs:List Int):noIds (encL (cI .u64) xs)=true:=noIds_encL (fun _=>rfl) xs
theorem spW_enc (sz:Nat) (ks:CL):spW sz (encL cell ks)=encL (cI .i64) (spL sz ks):=by rw [spW,decC_enc]
def vhV (ws:List Int) (p:Nat):Int:=ws.getD p 0
end
end Go.Lev
