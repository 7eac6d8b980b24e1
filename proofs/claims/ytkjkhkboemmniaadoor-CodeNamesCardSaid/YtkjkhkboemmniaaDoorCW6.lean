/- CodeNames (P14.1): for any numbers the law returns true; what was there stays as it was. Condition: the listed package-level variables hold what the program's text lays. -/
import Derived.Test.YtkjkhkboemmniaaDoorCW5
import Derived.Test.YtkjkhkboemmniaaDoorLc
import Derived.Test.YtkjkhkboemmniaaDoorChecked
import Derived.KernelRfl

import Derived.Test.YtkjkhkboemmniaaDoorLc
import Derived.Test.YtkjkhkboemmniaaDoorRows
namespace Go.Lev
open Go.RowKit
set_option linter.unusedVariables false
set_option linter.unusedSimpArgs false
set_option maxRecDepth 100000
noncomputable section
def gtab : Glb := tab2 []
def runGt : Gc := fun args s => match args, s.g with
  | [], [(g0, F0), (g1, F1)] => cond (Nat.beq g0 0 && eqbs F0 formsL && (Nat.beq g1 1 && eqbs F1 callsL)) (some ([], .bool true, s)) none
  | _, _ => none
def cxm : Cx := cxl [(3, runGt), (10, nameG), (12, callG), (8, opG), (9, whichG)]
theorem names_x (a b : Int) (K : Fk) : (xfun Go.Proofs.Tryd.prog cxm 60 6 [.int .i64 a, .int .i64 b] (mkS [] gtab) (vF K)) = (
  bif xcm .geq a 1 then (
   bif xnot (xbq (xstr .neq (nameW a) []) (xcm .leq a 23)) then (
    K (.bool false) [] gtab)
   else (
    bif xstr .neq (nameW a) [] then (
     bif xnot (xbq (xstr .eql (nameW a) (nameW b)) (xcm .eql a b)) then (
      K (.bool false) [] gtab)
     else (
      bif xstr .neq (nameW a) [] then (
       bif xnot (opB (nameW a)) then (
        K (.bool false) [] gtab)
       else (
        bif xcm .neq (opW (nameW a)) a then (
         K (.bool false) [] gtab)
        else (
         bif xcm .geq a 1 then (
          bif xnot (xbq (xstr .neq (callW a) []) (xcm .leq a 12)) then (
           K (.bool false) [] gtab)
          else (
           bif xstr .neq (callW a) [] then (
            bif xnot (xbq (xstr .eql (callW a) (callW b)) (xcm .eql a b)) then (
             K (.bool false) [] gtab)
            else (
             bif xstr .neq (callW a) [] then (
              bif xnot (whB (callW a)) then (
               K (.bool false) [] gtab)
              else (
               bif xcm .neq (whW (callW a)) a then (
                K (.bool false) [] gtab)
               else (
                bif xnot (opB (callW a)) then (
                 K (.bool (xcm .eql (opW (callW a)) 0)) [] gtab)
                else (
                 K (.bool false) [] gtab))))
             else (
              bif xnot (opB (callW a)) then (
               K (.bool (xcm .eql (opW (callW a)) 0)) [] gtab)
              else (
               K (.bool false) [] gtab))))
           else (
            bif xstr .neq (callW a) [] then (
             bif xnot (whB (callW a)) then (
              K (.bool false) [] gtab)
             else (
              bif xcm .neq (whW (callW a)) a then (
               K (.bool false) [] gtab)
              else (
               bif xnot (opB (callW a)) then (
                K (.bool (xcm .eql (opW (callW a)) 0)) [] gtab)
               else (
                K (.bool false) [] gtab))))
            else (
             bif xnot (opB (callW a)) then (
              K (.bool (xcm .eql (opW (callW a)) 0)) [] gtab)
             else (
              K (.bool false) [] gtab)))))
         else (
          bif xnot (xbq (xstr .neq (callW a) []) false) then (
           K (.bool false) [] gtab)
          else (
           bif xstr .neq (callW a) [] then (
            bif xnot (xbq (xstr .eql (callW a) (callW b)) (xcm .eql a b)) then (
             K (.bool false) [] gtab)
            else (
             bif xstr .neq (callW a) [] then (
              bif xnot (whB (callW a)) then (
               K (.bool false) [] gtab)
              else (
               bif xcm .neq (whW (callW a)) a then (
                K (.bool false) [] gtab)
               else (
                bif xnot (opB (callW a)) then (
                 K (.bool (xcm .eql (opW (callW a)) 0)) [] gtab)
                else (
                 K (.bool false) [] gtab))))
             else (
              bif xnot (opB (callW a)) then (
               K (.bool (xcm .eql (opW (callW a)) 0)) [] gtab)
              else (
               K (.bool false) [] gtab))))
           else (
            bif xstr .neq (callW a) [] then (
             bif xnot (whB (callW a)) then (
              K (.bool false) [] gtab)
             else (
              bif xcm .neq (whW (callW a)) a then (
               K (.bool false) [] gtab)
              else (
               bif xnot (opB (callW a)) then (
                K (.bool (xcm .eql (opW (callW a)) 0)) [] gtab)
               else (
                K (.bool false) [] gtab))))
            else (
             bif xnot (opB (callW a)) then (
              K (.bool (xcm .eql (opW (callW a)) 0)) [] gtab)
             else (
              K (.bool false) [] gtab))))))))
      else (
       bif xcm .geq a 1 then (
        bif xnot (xbq (xstr .neq (callW a) []) (xcm .leq a 12)) then (
         K (.bool false) [] gtab)
        else (
         bif xstr .neq (callW a) [] then (
          bif xnot (xbq (xstr .eql (callW a) (callW b)) (xcm .eql a b)) then (
           K (.bool false) [] gtab)
          else (
           bif xstr .neq (callW a) [] then (
            bif xnot (whB (callW a)) then (
             K (.bool false) [] gtab)
            else (
             bif xcm .neq (whW (callW a)) a then (
              K (.bool false) [] gtab)
             else (
              bif xnot (opB (callW a)) then (
               K (.bool (xcm .eql (opW (callW a)) 0)) [] gtab)
              else (
               K (.bool false) [] gtab))))
           else (
            bif xnot (opB (callW a)) then (
             K (.bool (xcm .eql (opW (callW a)) 0)) [] gtab)
            else (
             K (.bool false) [] gtab))))
         else (
          bif xstr .neq (callW a) [] then (
           bif xnot (whB (callW a)) then (
            K (.bool false) [] gtab)
           else (
            bif xcm .neq (whW (callW a)) a then (
             K (.bool false) [] gtab)
            else (
             bif xnot (opB (callW a)) then (
              K (.bool (xcm .eql (opW (callW a)) 0)) [] gtab)
             else (
              K (.bool false) [] gtab))))
          else (
           bif xnot (opB (callW a)) then (
            K (.bool (xcm .eql (opW (callW a)) 0)) [] gtab)
           else (
            K (.bool false) [] gtab)))))
       else (
        bif xnot (xbq (xstr .neq (callW a) []) false) then (
         K (.bool false) [] gtab)
        else (
         bif xstr .neq (callW a) [] then (
          bif xnot (xbq (xstr .eql (callW a) (callW b)) (xcm .eql a b)) then (
           K (.bool false) [] gtab)
          else (
           bif xstr .neq (callW a) [] then (
            bif xnot (whB (callW a)) then (
             K (.bool false) [] gtab)
            else (
             bif xcm .neq (whW (callW a)) a then (
              K (.bool false) [] gtab)
             else (
              bif xnot (opB (callW a)) then (
               K (.bool (xcm .eql (opW (callW a)) 0)) [] gtab)
              else (
               K (.bool false) [] gtab))))
           else (
            bif xnot (opB (callW a)) then (
             K (.bool (xcm .eql (opW (callW a)) 0)) [] gtab)
            else (
             K (.bool false) [] gtab))))
         else (
          bif xstr .neq (callW a) [] then (
           bif xnot (whB (callW a)) then (
            K (.bool false) [] gtab)
           else (
            bif xcm .neq (whW (callW a)) a then (
             K (.bool false) [] gtab)
            else (
             bif xnot (opB (callW a)) then (
              K (.bool (xcm .eql (opW (callW a)) 0)) [] gtab)
             else (
              K (.bool false) [] gtab))))
          else (
           bif xnot (opB (callW a)) then (
            K (.bool (xcm .eql (opW (callW a)) 0)) [] gtab)
           else (
            K (.bool false) [] gtab))))))))
    else (
     bif xstr .neq (nameW a) [] then (
      bif xnot (opB (nameW a)) then (
       K (.bool false) [] gtab)
      else (
       bif xcm .neq (opW (nameW a)) a then (
        K (.bool false) [] gtab)
       else (
        bif xcm .geq a 1 then (
         bif xnot (xbq (xstr .neq (callW a) []) (xcm .leq a 12)) then (
          K (.bool false) [] gtab)
         else (
          bif xstr .neq (callW a) [] then (
           bif xnot (xbq (xstr .eql (callW a) (callW b)) (xcm .eql a b)) then (
            K (.bool false) [] gtab)
           else (
            bif xstr .neq (callW a) [] then (
             bif xnot (whB (callW a)) then (
              K (.bool false) [] gtab)
             else (
              bif xcm .neq (whW (callW a)) a then (
               K (.bool false) [] gtab)
              else (
               bif xnot (opB (callW a)) then (
                K (.bool (xcm .eql (opW (callW a)) 0)) [] gtab)
               else (
                K (.bool false) [] gtab))))
            else (
             bif xnot (opB (callW a)) then (
              K (.bool (xcm .eql (opW (callW a)) 0)) [] gtab)
             else (
              K (.bool false) [] gtab))))
          else (
           bif xstr .neq (callW a) [] then (
            bif xnot (whB (callW a)) then (
             K (.bool false) [] gtab)
            else (
             bif xcm .neq (whW (callW a)) a then (
              K (.bool false) [] gtab)
             else (
              bif xnot (opB (callW a)) then (
               K (.bool (xcm .eql (opW (callW a)) 0)) [] gtab)
              else (
               K (.bool false) [] gtab))))
           else (
            bif xnot (opB (callW a)) then (
             K (.bool (xcm .eql (opW (callW a)) 0)) [] gtab)
            else (
             K (.bool false) [] gtab)))))
        else (
         bif xnot (xbq (xstr .neq (callW a) []) false) then (
          K (.bool false) [] gtab)
         else (
          bif xstr .neq (callW a) [] then (
           bif xnot (xbq (xstr .eql (callW a) (callW b)) (xcm .eql a b)) then (
            K (.bool false) [] gtab)
           else (
            bif xstr .neq (callW a) [] then (
             bif xnot (whB (callW a)) then (
              K (.bool false) [] gtab)
             else (
              bif xcm .neq (whW (callW a)) a then (
               K (.bool false) [] gtab)
              else (
               bif xnot (opB (callW a)) then (
                K (.bool (xcm .eql (opW (callW a)) 0)) [] gtab)
               else (
                K (.bool false) [] gtab))))
            else (
             bif xnot (opB (callW a)) then (
              K (.bool (xcm .eql (opW (callW a)) 0)) [] gtab)
             else (
              K (.bool false) [] gtab))))
          else (
           bif xstr .neq (callW a) [] then (
            bif xnot (whB (callW a)) then (
             K (.bool false) [] gtab)
            else (
             bif xcm .neq (whW (callW a)) a then (
              K (.bool false) [] gtab)
             else (
              bif xnot (opB (callW a)) then (
               K (.bool (xcm .eql (opW (callW a)) 0)) [] gtab)
              else (
               K (.bool false) [] gtab))))
           else (
            bif xnot (opB (callW a)) then (
             K (.bool (xcm .eql (opW (callW a)) 0)) [] gtab)
            else (
             K (.bool false) [] gtab))))))))
     else (
      bif xcm .geq a 1 then (
       bif xnot (xbq (xstr .neq (callW a) []) (xcm .leq a 12)) then (
        K (.bool false) [] gtab)
       else (
        bif xstr .neq (callW a) [] then (
         bif xnot (xbq (xstr .eql (callW a) (callW b)) (xcm .eql a b)) then (
          K (.bool false) [] gtab)
         else (
          bif xstr .neq (callW a) [] then (
           bif xnot (whB (callW a)) then (
            K (.bool false) [] gtab)
           else (
            bif xcm .neq (whW (callW a)) a then (
             K (.bool false) [] gtab)
            else (
             bif xnot (opB (callW a)) then (
              K (.bool (xcm .eql (opW (callW a)) 0)) [] gtab)
             else (
              K (.bool false) [] gtab))))
          else (
           bif xnot (opB (callW a)) then (
            K (.bool (xcm .eql (opW (callW a)) 0)) [] gtab)
           else (
            K (.bool false) [] gtab))))
        else (
         bif xstr .neq (callW a) [] then (
          bif xnot (whB (callW a)) then (
           K (.bool false) [] gtab)
          else (
           bif xcm .neq (whW (callW a)) a then (
            K (.bool false) [] gtab)
           else (
            bif xnot (opB (callW a)) then (
             K (.bool (xcm .eql (opW (callW a)) 0)) [] gtab)
            else (
             K (.bool false) [] gtab))))
         else (
          bif xnot (opB (callW a)) then (
           K (.bool (xcm .eql (opW (callW a)) 0)) [] gtab)
          else (
           K (.bool false) [] gtab)))))
      else (
       bif xnot (xbq (xstr .neq (callW a) []) false) then (
        K (.bool false) [] gtab)
       else (
        bif xstr .neq (callW a) [] then (
         bif xnot (xbq (xstr .eql (callW a) (callW b)) (xcm .eql a b)) then (
          K (.bool false) [] gtab)
         else (
          bif xstr .neq (callW a) [] then (
           bif xnot (whB (callW a)) then (
            K (.bool false) [] gtab)
           else (
            bif xcm .neq (whW (callW a)) a then (
             K (.bool false) [] gtab)
            else (
             bif xnot (opB (callW a)) then (
              K (.bool (xcm .eql (opW (callW a)) 0)) [] gtab)
             else (
              K (.bool false) [] gtab))))
          else (
           bif xnot (opB (callW a)) then (
            K (.bool (xcm .eql (opW (callW a)) 0)) [] gtab)
           else (
            K (.bool false) [] gtab))))
        else (
         bif xstr .neq (callW a) [] then (
          bif xnot (whB (callW a)) then (
           K (.bool false) [] gtab)
          else (
           bif xcm .neq (whW (callW a)) a then (
            K (.bool false) [] gtab)
           else (
            bif xnot (opB (callW a)) then (
             K (.bool (xcm .eql (opW (callW a)) 0)) [] gtab)
            else (
             K (.bool false) [] gtab))))
         else (
          bif xnot (opB (callW a)) then (
           K (.bool (xcm .eql (opW (callW a)) 0)) [] gtab)
          else (
           K (.bool false) [] gtab)))))))))
  else (
   bif xnot (xbq (xstr .neq (nameW a) []) false) then (
    K (.bool false) [] gtab)
   else (
    bif xstr .neq (nameW a) [] then (
     bif xnot (xbq (xstr .eql (nameW a) (nameW b)) (xcm .eql a b)) then (
      K (.bool false) [] gtab)
     else (
      bif xstr .neq (nameW a) [] then (
       bif xnot (opB (nameW a)) then (
        K (.bool false) [] gtab)
       else (
        bif xcm .neq (opW (nameW a)) a then (
         K (.bool false) [] gtab)
        else (
         bif xcm .geq a 1 then (
          bif xnot (xbq (xstr .neq (callW a) []) (xcm .leq a 12)) then (
           K (.bool false) [] gtab)
          else (
           bif xstr .neq (callW a) [] then (
            bif xnot (xbq (xstr .eql (callW a) (callW b)) (xcm .eql a b)) then (
             K (.bool false) [] gtab)
            else (
             bif xstr .neq (callW a) [] then (
              bif xnot (whB (callW a)) then (
               K (.bool false) [] gtab)
              else (
               bif xcm .neq (whW (callW a)) a then (
                K (.bool false) [] gtab)
               else (
                bif xnot (opB (callW a)) then (
                 K (.bool (xcm .eql (opW (callW a)) 0)) [] gtab)
                else (
                 K (.bool false) [] gtab))))
             else (
              bif xnot (opB (callW a)) then (
               K (.bool (xcm .eql (opW (callW a)) 0)) [] gtab)
              else (
               K (.bool false) [] gtab))))
           else (
            bif xstr .neq (callW a) [] then (
             bif xnot (whB (callW a)) then (
              K (.bool false) [] gtab)
             else (
              bif xcm .neq (whW (callW a)) a then (
               K (.bool false) [] gtab)
              else (
               bif xnot (opB (callW a)) then (
                K (.bool (xcm .eql (opW (callW a)) 0)) [] gtab)
               else (
                K (.bool false) [] gtab))))
            else (
             bif xnot (opB (callW a)) then (
              K (.bool (xcm .eql (opW (callW a)) 0)) [] gtab)
             else (
              K (.bool false) [] gtab)))))
         else (
          bif xnot (xbq (xstr .neq (callW a) []) false) then (
           K (.bool false) [] gtab)
          else (
           bif xstr .neq (callW a) [] then (
            bif xnot (xbq (xstr .eql (callW a) (callW b)) (xcm .eql a b)) then (
             K (.bool false) [] gtab)
            else (
             bif xstr .neq (callW a) [] then (
              bif xnot (whB (callW a)) then (
               K (.bool false) [] gtab)
              else (
               bif xcm .neq (whW (callW a)) a then (
                K (.bool false) [] gtab)
               else (
                bif xnot (opB (callW a)) then (
                 K (.bool (xcm .eql (opW (callW a)) 0)) [] gtab)
                else (
                 K (.bool false) [] gtab))))
             else (
              bif xnot (opB (callW a)) then (
               K (.bool (xcm .eql (opW (callW a)) 0)) [] gtab)
              else (
               K (.bool false) [] gtab))))
           else (
            bif xstr .neq (callW a) [] then (
             bif xnot (whB (callW a)) then (
              K (.bool false) [] gtab)
             else (
              bif xcm .neq (whW (callW a)) a then (
               K (.bool false) [] gtab)
              else (
               bif xnot (opB (callW a)) then (
                K (.bool (xcm .eql (opW (callW a)) 0)) [] gtab)
               else (
                K (.bool false) [] gtab))))
            else (
             bif xnot (opB (callW a)) then (
              K (.bool (xcm .eql (opW (callW a)) 0)) [] gtab)
             else (
              K (.bool false) [] gtab))))))))
      else (
       bif xcm .geq a 1 then (
        bif xnot (xbq (xstr .neq (callW a) []) (xcm .leq a 12)) then (
         K (.bool false) [] gtab)
        else (
         bif xstr .neq (callW a) [] then (
          bif xnot (xbq (xstr .eql (callW a) (callW b)) (xcm .eql a b)) then (
           K (.bool false) [] gtab)
          else (
           bif xstr .neq (callW a) [] then (
            bif xnot (whB (callW a)) then (
             K (.bool false) [] gtab)
            else (
             bif xcm .neq (whW (callW a)) a then (
              K (.bool false) [] gtab)
             else (
              bif xnot (opB (callW a)) then (
               K (.bool (xcm .eql (opW (callW a)) 0)) [] gtab)
              else (
               K (.bool false) [] gtab))))
           else (
            bif xnot (opB (callW a)) then (
             K (.bool (xcm .eql (opW (callW a)) 0)) [] gtab)
            else (
             K (.bool false) [] gtab))))
         else (
          bif xstr .neq (callW a) [] then (
           bif xnot (whB (callW a)) then (
            K (.bool false) [] gtab)
           else (
            bif xcm .neq (whW (callW a)) a then (
             K (.bool false) [] gtab)
            else (
             bif xnot (opB (callW a)) then (
              K (.bool (xcm .eql (opW (callW a)) 0)) [] gtab)
             else (
              K (.bool false) [] gtab))))
          else (
           bif xnot (opB (callW a)) then (
            K (.bool (xcm .eql (opW (callW a)) 0)) [] gtab)
           else (
            K (.bool false) [] gtab)))))
       else (
        bif xnot (xbq (xstr .neq (callW a) []) false) then (
         K (.bool false) [] gtab)
        else (
         bif xstr .neq (callW a) [] then (
          bif xnot (xbq (xstr .eql (callW a) (callW b)) (xcm .eql a b)) then (
           K (.bool false) [] gtab)
          else (
           bif xstr .neq (callW a) [] then (
            bif xnot (whB (callW a)) then (
             K (.bool false) [] gtab)
            else (
             bif xcm .neq (whW (callW a)) a then (
              K (.bool false) [] gtab)
             else (
              bif xnot (opB (callW a)) then (
               K (.bool (xcm .eql (opW (callW a)) 0)) [] gtab)
              else (
               K (.bool false) [] gtab))))
           else (
            bif xnot (opB (callW a)) then (
             K (.bool (xcm .eql (opW (callW a)) 0)) [] gtab)
            else (
             K (.bool false) [] gtab))))
         else (
          bif xstr .neq (callW a) [] then (
           bif xnot (whB (callW a)) then (
            K (.bool false) [] gtab)
           else (
            bif xcm .neq (whW (callW a)) a then (
             K (.bool false) [] gtab)
            else (
             bif xnot (opB (callW a)) then (
              K (.bool (xcm .eql (opW (callW a)) 0)) [] gtab)
             else (
              K (.bool false) [] gtab))))
          else (
           bif xnot (opB (callW a)) then (
            K (.bool (xcm .eql (opW (callW a)) 0)) [] gtab)
           else (
            K (.bool false) [] gtab))))))))
    else (
     bif xstr .neq (nameW a) [] then (
      bif xnot (opB (nameW a)) then (
       K (.bool false) [] gtab)
      else (
       bif xcm .neq (opW (nameW a)) a then (
        K (.bool false) [] gtab)
       else (
        bif xcm .geq a 1 then (
         bif xnot (xbq (xstr .neq (callW a) []) (xcm .leq a 12)) then (
          K (.bool false) [] gtab)
         else (
          bif xstr .neq (callW a) [] then (
           bif xnot (xbq (xstr .eql (callW a) (callW b)) (xcm .eql a b)) then (
            K (.bool false) [] gtab)
           else (
            bif xstr .neq (callW a) [] then (
             bif xnot (whB (callW a)) then (
              K (.bool false) [] gtab)
             else (
              bif xcm .neq (whW (callW a)) a then (
               K (.bool false) [] gtab)
              else (
               bif xnot (opB (callW a)) then (
                K (.bool (xcm .eql (opW (callW a)) 0)) [] gtab)
               else (
                K (.bool false) [] gtab))))
            else (
             bif xnot (opB (callW a)) then (
              K (.bool (xcm .eql (opW (callW a)) 0)) [] gtab)
             else (
              K (.bool false) [] gtab))))
          else (
           bif xstr .neq (callW a) [] then (
            bif xnot (whB (callW a)) then (
             K (.bool false) [] gtab)
            else (
             bif xcm .neq (whW (callW a)) a then (
              K (.bool false) [] gtab)
             else (
              bif xnot (opB (callW a)) then (
               K (.bool (xcm .eql (opW (callW a)) 0)) [] gtab)
              else (
               K (.bool false) [] gtab))))
           else (
            bif xnot (opB (callW a)) then (
             K (.bool (xcm .eql (opW (callW a)) 0)) [] gtab)
            else (
             K (.bool false) [] gtab)))))
        else (
         bif xnot (xbq (xstr .neq (callW a) []) false) then (
          K (.bool false) [] gtab)
         else (
          bif xstr .neq (callW a) [] then (
           bif xnot (xbq (xstr .eql (callW a) (callW b)) (xcm .eql a b)) then (
            K (.bool false) [] gtab)
           else (
            bif xstr .neq (callW a) [] then (
             bif xnot (whB (callW a)) then (
              K (.bool false) [] gtab)
             else (
              bif xcm .neq (whW (callW a)) a then (
               K (.bool false) [] gtab)
              else (
               bif xnot (opB (callW a)) then (
                K (.bool (xcm .eql (opW (callW a)) 0)) [] gtab)
               else (
                K (.bool false) [] gtab))))
            else (
             bif xnot (opB (callW a)) then (
              K (.bool (xcm .eql (opW (callW a)) 0)) [] gtab)
             else (
              K (.bool false) [] gtab))))
          else (
           bif xstr .neq (callW a) [] then (
            bif xnot (whB (callW a)) then (
             K (.bool false) [] gtab)
            else (
             bif xcm .neq (whW (callW a)) a then (
              K (.bool false) [] gtab)
             else (
              bif xnot (opB (callW a)) then (
               K (.bool (xcm .eql (opW (callW a)) 0)) [] gtab)
              else (
               K (.bool false) [] gtab))))
           else (
            bif xnot (opB (callW a)) then (
             K (.bool (xcm .eql (opW (callW a)) 0)) [] gtab)
            else (
             K (.bool false) [] gtab))))))))
     else (
      bif xcm .geq a 1 then (
       bif xnot (xbq (xstr .neq (callW a) []) (xcm .leq a 12)) then (
        K (.bool false) [] gtab)
       else (
        bif xstr .neq (callW a) [] then (
         bif xnot (xbq (xstr .eql (callW a) (callW b)) (xcm .eql a b)) then (
          K (.bool false) [] gtab)
         else (
          bif xstr .neq (callW a) [] then (
           bif xnot (whB (callW a)) then (
            K (.bool false) [] gtab)
           else (
            bif xcm .neq (whW (callW a)) a then (
             K (.bool false) [] gtab)
            else (
             bif xnot (opB (callW a)) then (
              K (.bool (xcm .eql (opW (callW a)) 0)) [] gtab)
             else (
              K (.bool false) [] gtab))))
          else (
           bif xnot (opB (callW a)) then (
            K (.bool (xcm .eql (opW (callW a)) 0)) [] gtab)
           else (
            K (.bool false) [] gtab))))
        else (
         bif xstr .neq (callW a) [] then (
          bif xnot (whB (callW a)) then (
           K (.bool false) [] gtab)
          else (
           bif xcm .neq (whW (callW a)) a then (
            K (.bool false) [] gtab)
           else (
            bif xnot (opB (callW a)) then (
             K (.bool (xcm .eql (opW (callW a)) 0)) [] gtab)
            else (
             K (.bool false) [] gtab))))
         else (
          bif xnot (opB (callW a)) then (
           K (.bool (xcm .eql (opW (callW a)) 0)) [] gtab)
          else (
           K (.bool false) [] gtab)))))
      else (
       bif xnot (xbq (xstr .neq (callW a) []) false) then (
        K (.bool false) [] gtab)
       else (
        bif xstr .neq (callW a) [] then (
         bif xnot (xbq (xstr .eql (callW a) (callW b)) (xcm .eql a b)) then (
          K (.bool false) [] gtab)
         else (
          bif xstr .neq (callW a) [] then (
           bif xnot (whB (callW a)) then (
            K (.bool false) [] gtab)
           else (
            bif xcm .neq (whW (callW a)) a then (
             K (.bool false) [] gtab)
            else (
             bif xnot (opB (callW a)) then (
              K (.bool (xcm .eql (opW (callW a)) 0)) [] gtab)
             else (
              K (.bool false) [] gtab))))
          else (
           bif xnot (opB (callW a)) then (
            K (.bool (xcm .eql (opW (callW a)) 0)) [] gtab)
           else (
            K (.bool false) [] gtab))))
        else (
         bif xstr .neq (callW a) [] then (
          bif xnot (whB (callW a)) then (
           K (.bool false) [] gtab)
          else (
           bif xcm .neq (whW (callW a)) a then (
            K (.bool false) [] gtab)
           else (
            bif xnot (opB (callW a)) then (
             K (.bool (xcm .eql (opW (callW a)) 0)) [] gtab)
            else (
             K (.bool false) [] gtab))))
         else (
          bif xnot (opB (callW a)) then (
           K (.bool (xcm .eql (opW (callW a)) 0)) [] gtab)
          else (
           K (.bool false) [] gtab)))))))))) := by kernel_rfl
theorem runs14 : isTrue (lrun Go.Proofs.Tryd.prog 8000 3 gtab) = true := by kernel_rfl
theorem runGt_ok : GOk Go.Proofs.Tryd.prog 3 runGt := by
  intro args s bs l s' hg hb hfr
  unfold runGt at hg
  split at hg
  · rename_i g0 F0 g1 F1 hgl
    cases hc : (Nat.beq g0 0 && eqbs F0 formsL && (Nat.beq g1 1 && eqbs F1 callsL)) with
    | false => rw [hc] at hg; cases hg
    | true =>
      rw [hc] at hg
      simp only [cond_true, Option.some.injEq, Prod.mk.injEq] at hg
      obtain ⟨rfl, rfl, rfl⟩ := hg
      simp only [Bool.and_eq_true] at hc
      obtain ⟨⟨c1, c2⟩, c3, c4⟩ := hc
      have e : s.g = gtab := by
        rw [hgl, Nat.eq_of_beq_eq_true c1, eqbs_eq c2, Nat.eq_of_beq_eq_true c3, eqbs_eq c4]; rfl
      refine SFun.closed (fuel := 8000) hfr ?_
      rw [e]; exact runs14
  · cases hg
theorem cxm_ok : CtrOk Go.Proofs.Tryd.prog (ctrOf cxm) := cxl_ok ⟨runGt_ok, nameG_ok, callG_ok, opG_ok, whichG_ok, trivial⟩
theorem all_lt {p : Nat → Bool} {n : Nat} (h : (List.range n).all p = true) {k : Nat} (hk : k < n) : p k = true := List.all_eq_true.1 h k (List.mem_range.2 hk)
theorem nm_all : ((List.range 24).all fun k => decide (wantN nmN 23 (nmN k) = (k : Int))) = true := by kernel_rfl
theorem cl_all : ((List.range 13).all fun k => decide (wantN clN 12 (clN k) = (k : Int))) = true := by kernel_rfl
theorem nc_all : ((List.range 13).all fun k => decide (wantN nmN 23 (clN k) = 0)) = true := by kernel_rfl
theorem opW_name (a : Int) : opW (nameW a) = if 1 ≤ a ∧ a ≤ 23 then a else 0 := by
  by_cases h : 1 ≤ a ∧ a ≤ 23
  · rw [if_pos h]
    have := of_decide_eq_true (all_lt nm_all (k := a.toNat) (by omega))
    rw [opW, nameW, this]; omega
  · rw [if_neg h, nameW_out (by omega)]; exact of_decide_eq_true (all_lt nm_all (k := 0) (by omega))
theorem whW_call (a : Int) : whW (callW a) = if 1 ≤ a ∧ a ≤ 12 then a else 0 := by
  by_cases h : 1 ≤ a ∧ a ≤ 12
  · rw [if_pos h]
    have := of_decide_eq_true (all_lt cl_all (k := a.toNat) (by omega))
    rw [whW, callW, this]; omega
  · rw [if_neg h, callW_out (by omega)]; exact of_decide_eq_true (all_lt cl_all (k := 0) (by omega))
theorem opW_call (a : Int) : opW (callW a) = 0 := by
  by_cases h : 1 ≤ a ∧ a ≤ 12
  · exact of_decide_eq_true (all_lt nc_all (k := a.toNat) (by omega))
  · rw [callW_out (by omega)]; exact of_decide_eq_true (all_lt nm_all (k := 0) (by omega))
theorem name_nil {a : Int} (h : 1 ≤ a ∧ a ≤ 23) : nameW a ≠ [] := fun e => by
  have h1 := opW_name a
  rw [e, if_pos h, show opW [] = 0 from of_decide_eq_true (all_lt nm_all (k := 0) (by omega))] at h1
  omega
theorem call_nil {a : Int} (h : 1 ≤ a ∧ a ≤ 12) : callW a ≠ [] := fun e => by
  have h1 := whW_call a
  rw [e, if_pos h, show whW [] = 0 from of_decide_eq_true (all_lt cl_all (k := 0) (by omega))] at h1
  omega
theorem name_inj {a b : Int} (h : 1 ≤ a ∧ a ≤ 23) : nameW a = nameW b ↔ a = b := ⟨fun e => by
  have h1 := opW_name a
  rw [e, if_pos h, opW_name] at h1
  split at h1 <;> omega, fun e => by rw [e]⟩
theorem call_inj {a b : Int} (h : 1 ≤ a ∧ a ≤ 12) : callW a = callW b ↔ a = b := ⟨fun e => by
  have h1 := whW_call a
  rw [e, if_pos h, whW_call] at h1
  split at h1 <;> omega, fun e => by rw [e]⟩
theorem s_neq (x y : List UInt8) : xstr .neq x y = !(x == y) := rfl
theorem s_eql (x y : List UInt8) : xstr .eql x y = (x == y) := rfl
theorem beq_dk {x y : List UInt8} {p : Prop} [Decidable p] (h : x = y ↔ p) : (x == y) = decide p := by rw [Bool.eq_iff_iff]; simp [h]
theorem bq_self (x : Bool) : xbq x x = true := by cases x <;> rfl
theorem names_fun (a b : Int) : SFun Go.Proofs.Tryd.prog 6 [.int .i64 a, .int .i64 b] (mkS [] gtab) fun l _ => l = .bool true := by
  refine SFun.mono (SFun.vc (Q := fun l _ => l = .bool true) cxm_ok (n := 60) 0 rfl ?_) fun l s' ⟨b0, h1, _⟩ => h1
  rw [names_x]
  have b1 : ∀ x : Bool, xnot x = !x := fun x => by cases x <;> rfl
  have x1 : opB (callW a) = false := by simp only [opB]; exact decide_eq_false (fun h => h (opW_call a))
  have x2 : xcm .eql (opW (callW a)) 0 = true := by rw [xcm_eql, opW_call]; rfl
  have n0 : xstr .neq (nameW a) [] = decide (1 ≤ a ∧ a ≤ 23) := by
    rw [s_neq]
    by_cases h : 1 ≤ a ∧ a ≤ 23
    · simp [h, name_nil h]
    · rw [nameW_out (by omega)]; simp [h]
  have c0 : xstr .neq (callW a) [] = decide (1 ≤ a ∧ a ≤ 12) := by
    rw [s_neq]
    by_cases h : 1 ≤ a ∧ a ≤ 12
    · simp [h, call_nil h]
    · rw [callW_out (by omega)]; simp [h]
  have n1 : 1 ≤ a ∧ a ≤ 23 → xbq (xstr .eql (nameW a) (nameW b)) (xcm .eql a b) = true := fun h => by rw [s_eql, beq_dk (name_inj h), xcm_eql, bq_self]
  have c1 : 1 ≤ a ∧ a ≤ 12 → xbq (xstr .eql (callW a) (callW b)) (xcm .eql a b) = true := fun h => by rw [s_eql, beq_dk (call_inj h), xcm_eql, bq_self]
  have n2 : 1 ≤ a ∧ a ≤ 23 → opB (nameW a) = true := fun h => by
    have := opW_name a
    rw [if_pos h] at this
    simp only [opB]; exact decide_eq_true (by rw [show wantN nmN 23 (nameW a) = a from this]; omega)
  have c2 : 1 ≤ a ∧ a ≤ 12 → whB (callW a) = true := fun h => by
    have := whW_call a
    rw [if_pos h] at this
    simp only [whB]; exact decide_eq_true (by rw [show wantN clN 12 (callW a) = a from this]; omega)
  have n3 : 1 ≤ a ∧ a ≤ 23 → xcm .neq (opW (nameW a)) a = false := fun h => by rw [opW_name, if_pos h, xcm_neq]; simp
  have c3 : 1 ≤ a ∧ a ≤ 12 → xcm .neq (whW (callW a)) a = false := fun h => by rw [whW_call, if_pos h, xcm_neq]; simp
  have t1 : xbq true true = true := rfl
  have t2 : xbq false false = true := rfl
  rcases (show a < 1 ∨ (1 ≤ a ∧ a ≤ 12) ∨ (12 < a ∧ a ≤ 23) ∨ 23 < a by omega) with h | h | h | h
  · rw [decide_eq_false (by omega)] at n0 c0
    have e1 : xcm .geq a 1 = false := by rw [xcm_geq]; exact decide_eq_false (by omega)
    simp only [b1, x1, x2, n0, c0, e1, t1, t2, cond_true, cond_false, Bool.not_true, Bool.not_false]
    exact ⟨rfl, _, _, [], rfl, leafB rfl⟩
  · have h' : 1 ≤ a ∧ a ≤ 23 := by omega
    rw [decide_eq_true (by omega)] at n0 c0
    have e1 : xcm .geq a 1 = true := by rw [xcm_geq]; exact decide_eq_true (by omega)
    have e2 : xcm .leq a 23 = true := by rw [xcm_leq]; exact decide_eq_true (by omega)
    have e3 : xcm .leq a 12 = true := by rw [xcm_leq]; exact decide_eq_true (by omega)
    simp only [b1, x1, x2, n0, c0, e1, e2, e3, n1 h', n2 h', n3 h', c1 h, c2 h, c3 h, t1, t2, cond_true, cond_false, Bool.not_true, Bool.not_false]
    exact ⟨rfl, _, _, [], rfl, leafB rfl⟩
  · have h' : 1 ≤ a ∧ a ≤ 23 := by omega
    rw [decide_eq_true (by omega)] at n0
    rw [decide_eq_false (by omega)] at c0
    have e1 : xcm .geq a 1 = true := by rw [xcm_geq]; exact decide_eq_true (by omega)
    have e2 : xcm .leq a 23 = true := by rw [xcm_leq]; exact decide_eq_true (by omega)
    have e3 : xcm .leq a 12 = false := by rw [xcm_leq]; exact decide_eq_false (by omega)
    simp only [b1, x1, x2, n0, c0, e1, e2, e3, n1 h', n2 h', n3 h', t1, t2, cond_true, cond_false, Bool.not_true, Bool.not_false]
    exact ⟨rfl, _, _, [], rfl, leafB rfl⟩
  · rw [decide_eq_false (by omega)] at n0 c0
    have e1 : xcm .geq a 1 = true := by rw [xcm_geq]; exact decide_eq_true (by omega)
    have e2 : xcm .leq a 23 = false := by rw [xcm_leq]; exact decide_eq_false (by omega)
    have e3 : xcm .leq a 12 = false := by rw [xcm_leq]; exact decide_eq_false (by omega)
    simp only [b1, x1, x2, n0, c0, e1, e2, e3, t1, t2, cond_true, cond_false, Bool.not_true, Bool.not_false]
    exact ⟨rfl, _, _, [], rfl, leafB rfl⟩
theorem names_any {W : World} (hg : Gl W gtab) (a b : Int) : Calls Go.Proofs.Tryd.prog 6 #[.int .i64 a, .int .i64 b] W fun e W' => e = .returned (.bool true) ∧ Below W.heap.size W W' := by
  refine SFun.top (rows := []) (g := gtab) (us := [.int .i64 a, .int .i64 b]) trivial hg (fun r h => ?_) (names_fun a b)
  simp only [VRs, VR]
  exact ⟨_, _, rfl, rfl, _, _, rfl, rfl, rfl⟩
end
end Go.Lev
