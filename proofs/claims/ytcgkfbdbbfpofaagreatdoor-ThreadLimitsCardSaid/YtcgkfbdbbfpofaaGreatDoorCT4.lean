/- ThreadLimits (P27.1): for any number of programs and any thread the law returns true; nothing is changed. Condition: the listed package-level variables hold what the program's text lays. -/
import Derived.Test.YtcgkfbdbbfpofaaGreatDoorCX11
import Derived.Test.YtcgkfbdbbfpofaaGreatDoorCX10
import Derived.Test.YtcgkfbdbbfpofaaGreatDoorCX9
import Derived.Test.YtcgkfbdbbfpofaaGreatDoorCX8
import Derived.Test.YtcgkfbdbbfpofaaGreatDoorCX7
import Derived.Test.YtcgkfbdbbfpofaaGreatDoorCX6
import Derived.Test.YtcgkfbdbbfpofaaGreatDoorCX5
import Derived.Test.YtcgkfbdbbfpofaaGreatDoorCX4
import Derived.Test.YtcgkfbdbbfpofaaGreatDoorCX3
import Derived.Test.YtcgkfbdbbfpofaaGreatDoorCX2
import Derived.Test.YtcgkfbdbbfpofaaGreatDoorCX1
import Derived.Test.YtcgkfbdbbfpofaaGreatDoorCX0
import Derived.Test.YtcgkfbdbbfpofaaGreatDoorCZ11
import Derived.Test.YtcgkfbdbbfpofaaGreatDoorCZ10
import Derived.Test.YtcgkfbdbbfpofaaGreatDoorCZ9
import Derived.Test.YtcgkfbdbbfpofaaGreatDoorCZ8
import Derived.Test.YtcgkfbdbbfpofaaGreatDoorCZ7
import Derived.Test.YtcgkfbdbbfpofaaGreatDoorCZ6
import Derived.Test.YtcgkfbdbbfpofaaGreatDoorCU5
import Derived.Test.YtcgkfbdbbfpofaaGreatDoorCU4
import Derived.Test.YtcgkfbdbbfpofaaGreatDoorCU3
import Derived.Test.YtcgkfbdbbfpofaaGreatDoorCU2
import Derived.Test.YtcgkfbdbbfpofaaGreatDoorCU1
import Derived.Test.YtcgkfbdbbfpofaaGreatDoorCU0
import Derived.Test.YtcgkfbdbbfpofaaGreatDoorCT6
import Derived.Test.YtcgkfbdbbfpofaaGreatDoorLc
import Derived.Test.YtcgkfbdbbfpofaaGreatDoorChecked
import Derived.KernelRfl
import Derived.Test.YtcgkfbdbbfpofaaGreatDoorLc
import Derived.Test.YtcgkfbdbbfpofaaGreatDoorLc
import Derived.Test.YtcgkfbdbbfpofaaGreatDoorLc
import Derived.Test.YtcgkfbdbbfpofaaGreatDoorRows
namespace Go.Lev
set_option linter.unusedSimpArgs false
set_option linter.unusedVariables false
open Go.RowKit
open Go.Proofs.Tryz (prog)
set_option maxRecDepth 100000
noncomputable section
def runGt:Gc:=fun args s=>match args,s.g with
 | [],[(g0,F0)]=>cond (Nat.beq g0 0 && eqbs F0 formsL) (some ([],.bool true,s)) none
 | _,_=>none
def cxtl:Cx:=cxl [(4,runGt)]
theorem tl_n (me n:Int) (K:Pk):(xsp prog cxtl 60 137 (seg (sp prog 3) 0 7) (tm0 [.int .u8 n,.int .i64 me]) (mkS [] gtab) (vK tlL K))=(
 K .normal [.int .i64 me,.bool false,.ptr 0 0,.ptr 11 0,.nils,.int .i64 (xwr .i64 (xar .rem .u8 n 12)),.tup []] [sN [.int .i64 0,.int .i64 0,.int .i64 0,.int .i64 4,.int .u64 0,.int .i64 0,.int .i64 0,.int .i64 9],sN [.int .i64 32,.int .i64 1,.int .i64 1,.int .i64 4,.int .u64 0],sN [.int .i64 0,.int .i64 0,.int .i64 0,.int .i64 4,.int .u64 0],sN [.int .i64 32,.int .i64 1,.int .i64 1,.int .i64 4,.int .u64 0],sN [.int .u64 0,.int .u64 0,.int .u64 0,.int .u64 0,.int .u64 0,.int .u64 0,.int .u64 0,.int .u64 0,.int .u64 0,.int .u64 0,.int .u64 0,.int .u64 0,.int .u64 0,.int .u64 0,.int .u64 0,.int .u64 0,.int .u64 0,.int .u64 0,.int .u64 0,.int .u64 0,.int .u64 0,.int .u64 0,.int .u64 0,.int .u64 0,.int .u64 0,.int .u64 0,.int .u64 0,.int .u64 0,.int .u64 0,.int .u64 0,.int .u64 0,.int .u64 0],sN [.sl 4 0 32 32],sN [.int .u64 0,.bool false,.int .i64 0],sN [.int .i64 1,.sl 6 0 1 1],sN [.int .u64 0],sN [.int .u64 0,.int .u64 0,.int .u64 0,.int .u64 0],sN [.sl 9 0 4 4],sN [.int .i64 32,.int .i64 1,.int .i64 1,.int .i64 4,.int .u64 0,.ptr 5 0,.ptr 7 0,.ptr 8 0,.ptr 10 0,.int .i64 0]] gtab):=by kernel_rfl
theorem runGt_ok:GOk prog 4 runGt:=by
 intro args s bs l s' hg hb hfr
 unfold runGt at hg
 split at hg
 ·rename_i g0 F0 hgl
  cases hc:(Nat.beq g0 0 && eqbs F0 formsL) with
  | false=>rw [hc] at hg; cases hg
  | true =>
    rw [hc] at hg
    simp only [cond_true,Option.some.injEq,Prod.mk.injEq] at hg
    obtain⟨rfl,rfl,rfl⟩:=hg
    simp only [Bool.and_eq_true] at hc
    obtain⟨c1,c2⟩:=hc
    have e:s.g=gtab:=by rw [hgl,Nat.eq_of_beq_eq_true c1,eqbs_eq c2]; rfl
    refine SFun.closedC cxr_ok (fuel:=20000) hfr ?_
    rw [e]; exact runs27
 ·cases hg
theorem cxtl_ok:CtrOk prog (ctrOf cxtl):=cxl_ok ⟨runGt_ok,trivial⟩
theorem tl_me (k:Int) (h1:∀ q:Nat,okE (lsp prog (ctrOf cxr) 20000 137 ((sp prog 3).drop 7) (mkTm 137 (tlT (Int.ofNat (q+4)) k)) (mkS tlH gtab))=true) (h2:∀ q:Nat,okE (lsp prog (ctrOf cxr) 20000 137 ((sp prog 3).drop 7) (mkTm 137 (tlT (Int.negSucc q) k)) (mkS tlH gtab))=true) (h3:okE (lsp prog (ctrOf cxr) 20000 137 ((sp prog 3).drop 7) (mkTm 137 (tlT 0 k)) (mkS tlH gtab))=true) (h4:okE (lsp prog (ctrOf cxr) 20000 137 ((sp prog 3).drop 7) (mkTm 137 (tlT 1 k)) (mkS tlH gtab))=true) (h5:okE (lsp prog (ctrOf cxr) 20000 137 ((sp prog 3).drop 7) (mkTm 137 (tlT 2 k)) (mkS tlH gtab))=true) (h6:okE (lsp prog (ctrOf cxr) 20000 137 ((sp prog 3).drop 7) (mkTm 137 (tlT 3 k)) (mkS tlH gtab))=true) (me:Int):okE (lsp prog (ctrOf cxr) 20000 137 ((sp prog 3).drop 7) (mkTm 137 (tlT me k)) (mkS tlH gtab))=true:=by
 match me with
 | .negSucc q=>exact h2 q
 | .ofNat 0=>exact h3
 | .ofNat 1=>exact h4
 | .ofNat 2=>exact h5
 | .ofNat 3=>exact h6
 | .ofNat (q+4)=>exact h1 q
theorem rk6 (me:Int):SSp prog 137 ((sp prog 3).drop 7) 0 (mkTm 137 (tlT me (6))) (mkS tlH gtab) (vK tlL (endK 0 [4] tlL gtab fun l _=>l=.bool true)):=by
 match me with
 | .negSucc q=>exact cut_to (k:=10) rfl (by kernel_rfl) (tk6b q) (rest_k (ts6b q))
 | .ofNat 0=>exact cut_to (k:=10) rfl (by kernel_rfl) (tk60 ) (rest_k (ts60))
 | .ofNat 1=>exact cut_to (k:=10) rfl (by kernel_rfl) (tk61 ) (rest_k (ts61))
 | .ofNat 2=>exact cut_to (k:=10) rfl (by kernel_rfl) (tk62 ) (rest_k (ts62))
 | .ofNat 3=>exact cut_to (k:=10) rfl (by kernel_rfl) (tk63 ) (rest_k (ts63))
 | .ofNat (q+4)=>exact cut_to (k:=10) rfl (by kernel_rfl) (tk6a q) (rest_k (ts6a q))
theorem rk7 (me:Int):SSp prog 137 ((sp prog 3).drop 7) 0 (mkTm 137 (tlT me (7))) (mkS tlH gtab) (vK tlL (endK 0 [4] tlL gtab fun l _=>l=.bool true)):=by
 match me with
 | .negSucc q=>exact cut_to (k:=10) rfl (by kernel_rfl) (tk7b q) (rest_k (ts7b q 0))
 | .ofNat 0=>exact cut_to (k:=10) rfl (by kernel_rfl) (tk70 ) (rest_k (ts70  0))
 | .ofNat 1=>exact cut_to (k:=10) rfl (by kernel_rfl) (tk71 ) (rest_k (ts71  0))
 | .ofNat 2=>exact cut_to (k:=10) rfl (by kernel_rfl) (tk72 ) (rest_k (ts72  0))
 | .ofNat 3=>exact cut_to (k:=10) rfl (by kernel_rfl) (tk73 ) (rest_k (ts73  0))
 | .ofNat (q+4)=>exact cut_to (k:=10) rfl (by kernel_rfl) (tk7a q) (rest_k (ts7a q 0))
theorem rk8 (me:Int):SSp prog 137 ((sp prog 3).drop 7) 0 (mkTm 137 (tlT me (8))) (mkS tlH gtab) (vK tlL (endK 0 [4] tlL gtab fun l _=>l=.bool true)):=by
 match me with
 | .negSucc q=>exact cut_to (k:=10) rfl (by kernel_rfl) (tk8b q) (rest_k (ts7b q 1))
 | .ofNat 0=>exact cut_to (k:=10) rfl (by kernel_rfl) (tk80 ) (rest_k (ts70  1))
 | .ofNat 1=>exact cut_to (k:=10) rfl (by kernel_rfl) (tk81 ) (rest_k (ts71  1))
 | .ofNat 2=>exact cut_to (k:=10) rfl (by kernel_rfl) (tk82 ) (rest_k (ts72  1))
 | .ofNat 3=>exact cut_to (k:=10) rfl (by kernel_rfl) (tk83 ) (rest_k (ts73  1))
 | .ofNat (q+4)=>exact cut_to (k:=10) rfl (by kernel_rfl) (tk8a q) (rest_k (ts7a q 1))
theorem rk9 (me:Int):SSp prog 137 ((sp prog 3).drop 7) 0 (mkTm 137 (tlT me (9))) (mkS tlH gtab) (vK tlL (endK 0 [4] tlL gtab fun l _=>l=.bool true)):=by
 match me with
 | .negSucc q=>exact cut_to (k:=10) rfl (by kernel_rfl) (tk9b q) (rest_k (ts7b q 2))
 | .ofNat 0=>exact cut_to (k:=10) rfl (by kernel_rfl) (tk90 ) (rest_k (ts70  2))
 | .ofNat 1=>exact cut_to (k:=10) rfl (by kernel_rfl) (tk91 ) (rest_k (ts71  2))
 | .ofNat 2=>exact cut_to (k:=10) rfl (by kernel_rfl) (tk92 ) (rest_k (ts72  2))
 | .ofNat 3=>exact cut_to (k:=10) rfl (by kernel_rfl) (tk93 ) (rest_k (ts73  2))
 | .ofNat (q+4)=>exact cut_to (k:=10) rfl (by kernel_rfl) (tk9a q) (rest_k (ts7a q 2))
theorem rk10 (me:Int):SSp prog 137 ((sp prog 3).drop 7) 0 (mkTm 137 (tlT me (10))) (mkS tlH gtab) (vK tlL (endK 0 [4] tlL gtab fun l _=>l=.bool true)):=by
 match me with
 | .negSucc q=>exact cut_to (k:=10) rfl (by kernel_rfl) (tk10b q) (rest_k (ts7b q 3))
 | .ofNat 0=>exact cut_to (k:=10) rfl (by kernel_rfl) (tk100 ) (rest_k (ts70  3))
 | .ofNat 1=>exact cut_to (k:=10) rfl (by kernel_rfl) (tk101 ) (rest_k (ts71  3))
 | .ofNat 2=>exact cut_to (k:=10) rfl (by kernel_rfl) (tk102 ) (rest_k (ts72  3))
 | .ofNat 3=>exact cut_to (k:=10) rfl (by kernel_rfl) (tk103 ) (rest_k (ts73  3))
 | .ofNat (q+4)=>exact cut_to (k:=10) rfl (by kernel_rfl) (tk10a q) (rest_k (ts7a q 3))
theorem rk11 (me:Int):SSp prog 137 ((sp prog 3).drop 7) 0 (mkTm 137 (tlT me (11))) (mkS tlH gtab) (vK tlL (endK 0 [4] tlL gtab fun l _=>l=.bool true)):=by
 match me with
 | .negSucc q=>exact cut_to (k:=10) rfl (by kernel_rfl) (tk11b q) (rest_k (ts7b q 4))
 | .ofNat 0=>exact cut_to (k:=10) rfl (by kernel_rfl) (tk110 ) (rest_k (ts70  4))
 | .ofNat 1=>exact cut_to (k:=10) rfl (by kernel_rfl) (tk111 ) (rest_k (ts71  4))
 | .ofNat 2=>exact cut_to (k:=10) rfl (by kernel_rfl) (tk112 ) (rest_k (ts72  4))
 | .ofNat 3=>exact cut_to (k:=10) rfl (by kernel_rfl) (tk113 ) (rest_k (ts73  4))
 | .ofNat (q+4)=>exact cut_to (k:=10) rfl (by kernel_rfl) (tk11a q) (rest_k (ts7a q 4))
theorem tl_all (k:Nat) (hk:k < 12) (me:Int):SSp prog 137 ((sp prog 3).drop 7) 0 (mkTm 137 (tlT me ((k:Int)))) (mkS tlH gtab) (vK tlL (endK 0 [4] tlL gtab fun l _=>l=.bool true)):=by
 have:k=0∨k=1∨k=2∨k=3∨k=4∨k=5∨k=6∨k=7∨k=8∨k=9∨k=10∨k=11:=by omega
 rcases this with rfl | rfl | rfl | rfl | rfl | rfl | rfl | rfl | rfl | rfl | rfl | rfl
 ·exact rest_of (tl_me 0 tr0a tr0b tr00 tr01 tr02 tr03 me)
 ·exact rest_of (tl_me 1 tr1a tr1b tr10 tr11 tr12 tr13 me)
 ·exact rest_of (tl_me 2 tr2a tr2b tr20 tr21 tr22 tr23 me)
 ·exact rest_of (tl_me 3 tr3a tr3b tr30 tr31 tr32 tr33 me)
 ·exact rest_of (tl_me 4 tr4a tr4b tr40 tr41 tr42 tr43 me)
 ·exact rest_of (tl_me 5 tr5a tr5b tr50 tr51 tr52 tr53 me)
 ·exact rk6 me
 ·exact rk7 me
 ·exact rk8 me
 ·exact rk9 me
 ·exact rk10 me
 ·exact rk11 me
theorem limits_fun (n me:Int) (hn:0≤n∧n≤255):SFun prog 3 [.int .u8 n,.int .i64 me] (mkS [] gtab) fun l _=>l=.bool true:=by
 refine SFun.mono (SFun.pieces (Q:=fun l _=>l=.bool true) 137 0 tlL [4] (by kernel_rfl) rfl rfl rfl ?_) fun l s' ⟨b0,h1,_⟩=>h1
 obtain⟨N,rfl⟩:∃ N:Nat,n=(N:Int):=⟨n.toNat,by omega⟩
 have er:xwr .i64 (xar .rem .u8 (N:Int) 12)=((N % 12:Nat):Int):=by
  have e1:xar .rem .u8 (N:Int) 12=((N % 12:Nat):Int):=by rw [xar_rem _ _ _ (by omega),Int.tmod_eq_emod_of_nonneg (by omega)]; rfl
  rw [e1]; exact wrap_i64 (by omega) (by omega)
 refine SSp.to cxtl_ok (n:=60) (g:=gtab) 7 7 rfl (σ:=Unit) (fun _=>tlT me ((N % 12:Nat):Int)) (fun _=>tlH) (mkS_le (Nat.zero_le _)) (by kernel_rfl) ?_ fun _=>(tl_all (N % 12) (Nat.mod_lt _ (by omega)) me)
 rw [tl_n,er]
 exact⟨rfl,(),[.id 0,.id 1,.id 2,.id 3,.id 4,.id 5,.id 6,.id 7,.id 8,.id 9,.id 10,.id 11],by(exact zC)⟩
theorem limits_any (W:World) (hg:Gl W gtab) (n me:Int) (hn:0≤n∧n≤255) :
  Calls prog 3 #[.int .u8 n,.int .i64 me] W fun e W'=>e=.returned (.bool true)∧Below W.heap.size W W':=by
 refine SFun.top (rows:=[]) (g:=gtab) (us:=[.int .u8 n,.int .i64 me]) trivial hg (fun r h=>?_) (limits_fun n me hn)
 simp only [VRs,VR]
 exact⟨_,_,rfl,rfl,_,_,rfl,rfl,rfl⟩
end
end Go.Lev
