/- strings.Builder: WriteString and String of a builder of its own block, with all that stays -/
import Derived.Test.YtnkkkihgljbllaaDoorCZ1
namespace Go.Lev
set_option linter.unusedSimpArgs false
set_option linter.unusedVariables false
open Go.RowKit
open Go.Proofs.Tryd (prog)
set_option maxRecDepth 100000
abbrev bytesV (l:List UInt8):List Value:=l.map fun b=>.int .u8 b.toNat
def RowB (e:Nat) (v:Value) (l:List UInt8) (w:World):Prop:=(v=.slice none 0 0∧l=[])∨∃ g cap cur,l≠[]∧v=.slice (some ⟨g,0,none⟩) l.length cap∧w.heap[g]? = some (.cells cur e (0,0))∧l.length≤cap∧cap≤maxLen∧cur.size=cap * 1∧cur.toList.take (l.length * 1)=bytesV l
theorem RowB.kept {e:Nat} {v:Value} {l:List UInt8} {w w':World} (h:RowB e v l w) (hk:∀ k,v.ownBlock=some k→w'.heap[k]? = w.heap[k]?):RowB e v l w':=by
 rcases h with h | ⟨g,cap,cur,h0,rfl,h1,h2⟩
 ·exact .inl h
 ·exact .inr ⟨g,cap,cur,h0,rfl,by rw [hk g rfl]; exact h1,h2⟩
theorem RowB.lt {e:Nat} {v:Value} {l:List UInt8} {w:World} (h:RowB e v l w) {k:Nat} (hk:v.ownBlock=some k):k < w.heap.size:=by
 rcases h with⟨rfl,_⟩ | ⟨g,cap,cur,_,rfl,h1,_⟩
 ·cases hk
 ·simp only [Value.ownBlock,Option.some.injEq] at hk
  subst hk
  exact(Array.getElem?_eq_some_iff.1 h1).1
theorem RowB.own {e:Nat} {v:Value} {l:List UInt8} {w:World} (h:RowB e v l w):w.ownsRow 0 e 1 v l.length (bytesV l):=by
 refine⟨by simp [bytesV],?_⟩
 rcases h with⟨rfl,rfl⟩ | ⟨g,cap,cur,_,rfl,h1,h2,h3,h4,h5⟩
 ·exact .inl ⟨rfl,rfl⟩
 ·exact .inr ⟨g,cap,cur,rfl,Nat.zero_le _,h1,h2,h3,h4,h5⟩
section
variable {P:Program} {t u ty e:TypeId} {i:TypeInfo}
theorem ap_str (ht:P.underlying t=some (.slice e)) (hu:P.underlying u=some .string) (hi:P.info? e=some i) (hz:i.zero=some (.int .u8 0)) (hs:i.size=1) (hb:i.bytes=1)
  {v:Value} {l:List UInt8} {w:World} (h:RowB e v l w) (s:ByteArray) (hl:l.length+s.size≤1000000) :
  ∃ v' w',(Builtin.append_ #[t,u] ty #[v,.string s]).run P w=.ok v' w'∧RowB e v' (l++s.data.toList) w'∧w.grownBy w' v.ownBlock∧(v'.ownBlock=v.ownBlock∨∃ g,v'.ownBlock=some g∧w.heap.size≤g):=by
 have hml:1000000≤maxLen:=by unfold maxLen; omega
 have hsz:s.size=s.data.toList.length:=by rw [Array.length_toList]; rfl
 have hsc:Lib.strCells s=bytesV s.data.toList:=rfl
 rcases h with⟨rfl,rfl⟩ | ⟨g,cap,cur,h0,rfl,h1,h2,h3,h4,h5⟩
 ·rw [List.length_nil] at hl
  obtain⟨v',w',k1,k2,k3,k4⟩:=Lib.run_append_own_string (P:=P) (w:=w) w.heap.size t u ty e i ht hu hi hz hs hb (.slice none 0 0) 0 [] (World.ownsRow_nil _ _ _ _) s (by omega) (by omega) (Nat.le_refl _)
  refine⟨v',w',k1,?_,k3,?_⟩
  ·rcases k2.2 with⟨q1,q2⟩ | ⟨g,cap,cur,q1,q2,q3,q4,q5,q6,q7⟩
   ·have:s.data.toList=[]:=List.length_eq_zero_iff.1 (by rw [← hsz]; omega)
    exact .inl ⟨q1,by rw [this]; rfl⟩
   ·refine .inr ⟨g,cap,cur,fun e=>?_,by rw [q1,List.nil_append,← hsz,Nat.zero_add],q3,by simp only [List.nil_append,← hsz]; omega,q5,q6,?_⟩
    ·have hz0:s.size=0:=by rw [hsz]; rw [List.nil_append] at e; rw [e]; rfl
     have:=(k4.2 ⟨rfl,hz0⟩).symm.trans q1
     cases this
    ·have:=q7
     simp only [List.nil_append,← hsz]
     rw [show s.size * 1=(0+s.size) * 1 by omega,q7]; rfl
  ·rcases k2.2 with⟨q1,q2⟩ | ⟨g,cap,cur,q1,q2,q3,q4,q5,q6,q7⟩
   ·exact .inl (by rw [q1])
   ·exact .inr ⟨g,by rw [q1]; rfl,q2⟩
 ·have hlen:(bytesV l++bytesV s.data.toList).length=(l.length+s.size) * 1:=by rw [List.length_append,bytesV,bytesV,List.length_map,List.length_map,hsz,Nat.mul_one]
  have hcat:bytesV (l++s.data.toList)=bytesV l++bytesV s.data.toList:=List.map_append
  have hll:(l++s.data.toList).length=l.length+s.size:=by rw [List.length_append,hsz]
  by_cases hroom:l.length+s.size≤cap
  ·have hr:=Lib.run_append_room_string (P:=P) (w:=w) t u ty e i ht hu hi hs g l.length cap cur h1 s hroom (by omega)
   refine⟨_,_,hr,.inr ⟨g,cap,_,fun e=>h0 (List.append_eq_nil_iff.1 e).1,by rw [hll],setRow_heap w g cur _ e _ h1,by rw [hll]; exact hroom,h3,?_,?_⟩,⟨rfl,rfl,rfl,by simp [World.setRow],fun k _ hk=>setRow_other w g k _ (fun e=>hk (by simp [Value.ownBlock,e]))⟩,.inl rfl⟩
   ·simp only [List.size_toArray,List.length_append,List.length_take,List.length_drop,Array.length_toList,Lib.strCells_length]
    omega
   ·have ht':cur.toList.take l.length=bytesV l:=by simpa using h5
    rw [ht',hsc,hll,hcat,← hlen]
    exact List.take_left
  ·have hown:w.ownsRow 0 e 1 (.slice (some ⟨g,0,none⟩) l.length cap) l.length (bytesV l):=RowB.own (.inr ⟨g,cap,cur,h0,rfl,h1,h2,h3,h4,h5⟩)
   have holds:∀ j u,(bytesV l)[j]? = some u→w.cell? ((⟨g,0,none⟩:Addr).add j)=some u:=hown.cells (g:=g) rfl
   have hr:=Lib.run_append_grow_string (P:=P) (w:=w) t u ty e i (.int .u8 0) ht hu hi hz ⟨g,0,none⟩ l.length cap (bytesV l) (by rw [hs]; simp [bytesV]) holds s (by omega) (by omega) (by rw [hb]; exact growslice_fits (by omega) (by omega))
   have hge:=grownCap_ge w (l.length+s.size) cap e
   have hcm2:grownCap w (l.length+s.size) cap e≤maxLen:=grownCap_le_maxLen w (l.length+s.size) cap e (by omega)
   refine⟨_,_,hr,.inr ⟨w.heap.size,_,_,fun e=>h0 (List.append_eq_nil_iff.1 e).1,by rw [hll],heap_alloc_new w.drew _,by rw [hll]; exact hge,hcm2,?_,?_⟩,⟨rfl,rfl,rfl,by simp,fun k hk _=>Lib.alloc_old w.drew _ k hk⟩,.inr ⟨_,rfl,Nat.le_refl _⟩⟩
   ·have hz1:(Value.int IntKind.u8 0).cells.size=1:=rfl
    simp only [Array.size_append,List.size_toArray,size_zeroCells,hz1,bytesV,List.length_map,Lib.strCells_length]
    omega
   ·simp only [Array.toList_append,List.append_assoc]
    rw [← List.append_assoc,hsc,hll,hcat,← hlen]
    exact List.take_left
end
def BldA (T e b:Nat) (p v:Value) (l:List UInt8) (w:World):Prop:=w.heap[b]? = some (.cells #[p,v] T (0,0))∧(p=.pointer none∨p=.pointer (some ⟨b,0,none⟩))∧RowB e v l w∧v.ownBlock≠some b
end Go.Lev
