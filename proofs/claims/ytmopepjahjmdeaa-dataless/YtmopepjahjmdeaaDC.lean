/- DataLess: data less a row still fit, and data with a value that may not be do not. Proved for every world, every order, every argument that the statement takes. -/
import Derived.Test.YtmopepjahjmdeaaDB
import Derived.Test.YtmopepjahjmdeaaVDl
import Derived.WalkKit
import Derived.ProofKit
import Derived.OpenShut
import Derived.ShutString
import Derived.ChangeOld
import Derived.Below
namespace Go.Proofs.Ytmopepjahjmdeaa
open Go.Ev
set_option linter.unusedVariables false
/- roadbook/roadbooklaw04.DataLess -/
def t7_h : Hints := fun i => if i = 8 then some ([0, 1, 6, 7, 8, 9, 10, 14, 15, 16, 17, 18, 19, 20, 21, 22, 23, 24, 25, 26, 27, 28, 29, 30, 31, 32, 33, 34, 35, 36, 37, 38, 39, 40, 41, 42, 43, 44, 45, 46, 47, 48, 49, 50, 51, 52, 53, 54, 55, 56, 57, 58, 59, 60, 61, 62, 63, 64, 65, 66, 67, 68, 69, 70, 71, 72, 73, 74, 75, 76, 77, 78, 79, 80, 81, 82, 83, 84, 85, 86, 87, 88, 89, 90, 91, 92, 93, 94, 95, 96, 97, 98, 99, 100, 101, 102, 103, 104, 105, 106, 107, 108, 109, 110, 111, 112, 113, 114, 115, 116, 117, 118, 119, 120, 121, 122, 123, 124, 125, 126, 127, 128, 129, 130, 131, 132, 133, 134, 135, 136, 137, 138, 139, 140, 141, 142, 143, 144, 145, 146, 147, 148, 149, 150], [4, 5, 11, 12, 200011, 200012], []) else if i = 13 then some ([0, 1, 6, 7, 8, 9, 10, 17, 18, 19, 20, 21, 22, 23, 24, 25, 26, 27, 28, 29, 30, 31, 32, 33, 34, 35, 36, 37, 38, 39, 40, 41, 42, 43, 44, 45, 46, 47, 48, 49, 50, 51, 52, 53, 54, 55, 56, 57, 58, 59, 60, 61, 62, 63, 64, 65, 66, 67, 68, 69, 70, 71, 72, 73, 74, 75, 76, 77, 78, 79, 80, 81, 82, 83, 84, 85, 86, 87, 88, 89, 90, 91, 92, 93, 94, 95, 96, 97, 98, 99, 100, 101, 102, 103, 104, 105, 106, 107, 108, 109, 110, 111, 112, 113, 114, 115, 116, 117, 118, 119, 120, 121, 122, 123, 124, 125, 126, 127, 128, 129, 130, 131, 132, 133, 134, 135, 136, 137, 138, 139, 140, 141, 142, 143, 144, 145, 146, 147, 148, 149, 150], [4, 5, 11, 12, 14, 15, 200011, 200012], []) else none
def t7_lp8 (P : Program) (fn : Func) (N n : Nat) (x0 : D) (x1 : D) (x2 : Int) (x3 : Int) (v13 : Int) (b200011 : List D) (b200012 : List D) : Option AV := evLoop (preL t7_h (sub [1, 1, 1, 1, 1, 1, 0, 1, 0, 0] (bodyOf fn))) (evCode P (envS (envR D6 [] [] []) [(11, 0), (12, 0)]) t7_h N (sub [1, 1, 1, 1, 1, 1, 0, 1, 0, 0] (bodyOf fn))) n ⟨[dead, dead, dat 3 (.lit (.int .i64 x2)), dat 3 (.lit (.int .i64 x3)), bxp 4 38, bxp 5 41, dead, dead, dead, dead, dead, bxp 11 41, bxp 12 41, dat 3 (.lit (.int .i64 v13)), dead, dead, dead, dead, dead, dead, dead, dead, dead, dead, dead, dead, dead, dead, dead, dead, dead, dead, dead, dead, dead, dead, dead, dead, dead, dead, dead, dead, dead, dead, dead, dead, dead, dead, dead, dead, dead, dead, dead, dead, dead, dead, dead, dead, dead, dead, dead, dead, dead, dead, dead, dead, dead, dead, dead, dead, dead, dead, dead, dead, dead, dead, dead, dead, dead, dead, dead, dead, dead, dead, dead, dead, dead, dead, dead, dead, dead, dead, dead, dead, dead, dead, dead, dead, dead, dead, dead, dead, dead, dead, dead, dead, dead, dead, dead, dead, dead, dead, dead, dead, dead, dead, dead, dead, dead, dead, dead, dead, dead, dead, dead, dead, dead, dead, dead, dead, dead, dead, dead, dead, dead, dead, dead, dead, dead, dead, dead, dead, dead, dead, dead, dead, dead, dead, dead, dead, dead], lookB [(4, some ⟨38, x0, 0, none⟩), (5, some ⟨41, x1, 0, none⟩), (11, some ⟨41, .nil, 0, some (⟨7, 41, .agg [.slice [] []], 0, 0, 0, [200013]⟩)⟩), (12, some ⟨41, .nil, 0, some (⟨7, 41, .agg [.slice [] []], 0, 0, 0, [200014]⟩)⟩), (200011, some ⟨39, .slice b200011 [], 1, none⟩), (200012, some ⟨39, .slice b200012 [], 1, none⟩)]⟩ (blockK 0 (seqC P (envS (envR D6 [] [] []) [(11, 0), (12, 0)]) t7_h N (sub [1, 1, 1, 1, 1, 1, 1] (bodyOf fn)) (finK P fn) ))
def t7_lp13 (P : Program) (fn : Func) (N n : Nat) (x0 : D) (x1 : D) (x2 : Int) (x3 : Int) (v13 : Int) (b200011 : List D) (b200012 : List D) (m0 : Nat) (v16 : Int) (b14 : List D) (b15 : List D) : Option AV := evLoop (preL t7_h (sub [1, 1, 1, 1, 1, 1, 0, 1, 0, 0, 1, 0, 0, 1, 1, 0, 1, 0, 0] (bodyOf fn))) (evCode P (envS (envR D6 [] [] []) [(11, 0), (12, 0)]) t7_h N (sub [1, 1, 1, 1, 1, 1, 0, 1, 0, 0, 1, 0, 0, 1, 1, 0, 1, 0, 0] (bodyOf fn))) n ⟨[dead, dead, dat 3 (.lit (.int .i64 x2)), dat 3 (.lit (.int .i64 x3)), bxp 4 38, bxp 5 41, dead, dead, dead, dead, dead, bxp 11 41, bxp 12 41, dat 3 (.lit (.int .i64 v13)), bxp 14 23, bxp 15 23, dat 3 (.lit (.int .i64 v16)), dead, dead, dead, dead, dead, dead, dead, dead, dead, dead, dead, dead, dead, dead, dead, dead, dead, dead, dead, dead, dead, dead, dead, dead, dead, dead, dead, dead, dead, dead, dead, dead, dead, dead, dead, dead, dead, dead, dead, dead, dead, dead, dead, dead, dead, dead, dead, dead, dead, dead, dead, dead, dead, dead, dead, dead, dead, dead, dead, dead, dead, dead, dead, dead, dead, dead, dead, dead, dead, dead, dead, dead, dead, dead, dead, dead, dead, dead, dead, dead, dead, dead, dead, dead, dead, dead, dead, dead, dead, dead, dead, dead, dead, dead, dead, dead, dead, dead, dead, dead, dead, dead, dead, dead, dead, dead, dead, dead, dead, dead, dead, dead, dead, dead, dead, dead, dead, dead, dead, dead, dead, dead, dead, dead, dead, dead, dead, dead, dead, dead, dead, dead, dead, dead], lookB [(4, some ⟨38, x0, 0, none⟩), (5, some ⟨41, x1, 0, none⟩), (11, some ⟨41, .nil, 0, some (⟨7, 41, .agg [.slice [] []], 0, 0, 0, [200013]⟩)⟩), (12, some ⟨41, .nil, 0, some (⟨7, 41, .agg [.slice [] []], 0, 0, 0, [200014]⟩)⟩), (14, some ⟨23, .slice b14 [], 1, none⟩), (15, some ⟨23, .slice b15 [], 1, none⟩), (200011, some ⟨39, .slice b200011 [], 1, none⟩), (200012, some ⟨39, .slice b200012 [], 1, none⟩)]⟩ (blockK 2 (seqC P (envS (envR D6 [] [] []) [(11, 0), (12, 0)]) t7_h N (sub [1, 1, 1, 1, 1, 1, 0, 1, 0, 0, 1, 0, 0, 1, 1, 1] (bodyOf fn)) (blockK 1 (seqC P (envS (envR D6 [] [] []) [(11, 0), (12, 0)]) t7_h N (sub [1, 1, 1, 1, 1, 1, 0, 1, 0, 0, 1, 1] (bodyOf fn)) (seqK (fun s => evLoop (preL t7_h (sub [1, 1, 1, 1, 1, 1, 0, 1, 0, 0] (bodyOf fn))) (evCode P (envS (envR D6 [] [] []) [(11, 0), (12, 0)]) t7_h N (sub [1, 1, 1, 1, 1, 1, 0, 1, 0, 0] (bodyOf fn))) m0 ((preL t7_h (sub [1, 1, 1, 1, 1, 1, 0, 1, 0, 0] (bodyOf fn))) s) (blockK 0 (seqC P (envS (envR D6 [] [] []) [(11, 0), (12, 0)]) t7_h N (sub [1, 1, 1, 1, 1, 1, 1] (bodyOf fn)) (finK P fn) ))) (blockK 0 (seqC P (envS (envR D6 [] [] []) [(11, 0), (12, 0)]) t7_h N (sub [1, 1, 1, 1, 1, 1, 1] (bodyOf fn)) (finK P fn) ))) )) ))
theorem t7_lp13_step  (N n : Nat) (x0 : D) (x1 : D) (x2 : Int) (x3 : Int) (v13 : Int) (b200011 : List D) (b200012 : List D) (m0 : Nat) (v16 : Int) (b14 : List D) (b15 : List D) : t7_lp13 Try.prog Try.f7 N (n + 1) x0 x1 x2 x3 v13 b200011 b200012 m0 v16 b14 b15 =
  bif (decide (0 ≤ v13) && decide (v13 < ((elemsD (fieldD x1 0)).length : Int))) then
    bif decide (v16 < ((elemsD ((elemsD (fieldD x1 0)).getD (v13).toNat .nil)).length : Int)) then
      bif ((v13 == x2) == true) then
        bif (v16 == x3) then
          bif (decide (0 ≤ v13) && decide (v13 < ((elemsD (fieldD x1 0)).length : Int))) then
            bif (decide (0 ≤ v16) && decide (v16 < ((elemsD ((elemsD (fieldD x1 0)).getD (v13).toNat .nil)).length : Int))) then
              bif (decide (0 ≤ (1 : Int)) && decide ((1 : Int) ≤ ((elemsD ((elemsD ((elemsD (fieldD x1 0)).getD (v13).toNat .nil)).getD (v16).toNat .nil)).length : Int)) && decide (((elemsD ((elemsD ((elemsD (fieldD x1 0)).getD (v13).toNat .nil)).getD (v16).toNat .nil)).length : Int) ≤ ((elemsD ((elemsD ((elemsD (fieldD x1 0)).getD (v13).toNat .nil)).getD (v16).toNat .nil)).length : Int))) then
                bif decide (1 + (((elemsD ((elemsD ((elemsD (fieldD x1 0)).getD (v13).toNat .nil)).getD (v16).toNat .nil)).drop ((1 : Int) : Int).toNat).take (((elemsD ((elemsD ((elemsD (fieldD x1 0)).getD (v13).toNat .nil)).getD (v16).toNat .nil)).length : Int) - (1 : Int)).toNat).length ≤ 2147483648) then
                  bif decide ((b15).length + 1 ≤ 2147483648) then
                    t7_lp13 Try.prog Try.f7 N n x0 x1 x2 x3 v13 b200011 b200012 m0 (IntKind.wrap .i64 (v16 + 1)) b14 (b15 ++ [.slice ([.agg [.lit (.int .i64 3), .lit (.int .i64 0)]] ++ (((elemsD ((elemsD ((elemsD (fieldD x1 0)).getD (v13).toNat .nil)).getD (v16).toNat .nil)).drop ((1 : Int) : Int).toNat).take (((elemsD ((elemsD ((elemsD (fieldD x1 0)).getD (v13).toNat .nil)).getD (v16).toNat .nil)).length : Int) - (1 : Int)).toNat)) []])
                  else none
                else none
              else none
            else none
          else none
        else bif (decide (0 ≤ v13) && decide (v13 < ((elemsD (fieldD x1 0)).length : Int))) then
            bif (decide (0 ≤ v16) && decide (v16 < ((elemsD ((elemsD (fieldD x1 0)).getD (v13).toNat .nil)).length : Int))) then
              bif decide ((b14).length + 1 ≤ 2147483648) then
                bif (decide (0 ≤ v13) && decide (v13 < ((elemsD (fieldD x1 0)).length : Int))) then
                  bif (decide (0 ≤ v16) && decide (v16 < ((elemsD ((elemsD (fieldD x1 0)).getD (v13).toNat .nil)).length : Int))) then
                    bif decide ((b15).length + 1 ≤ 2147483648) then
                      t7_lp13 Try.prog Try.f7 N n x0 x1 x2 x3 v13 b200011 b200012 m0 (IntKind.wrap .i64 (v16 + 1)) (b14 ++ [(elemsD ((elemsD (fieldD x1 0)).getD (v13).toNat .nil)).getD (v16).toNat .nil]) (b15 ++ [(elemsD ((elemsD (fieldD x1 0)).getD (v13).toNat .nil)).getD (v16).toNat .nil])
                    else none
                  else none
                else none
              else none
            else none
          else none
      else bif (decide (0 ≤ v13) && decide (v13 < ((elemsD (fieldD x1 0)).length : Int))) then
          bif (decide (0 ≤ v16) && decide (v16 < ((elemsD ((elemsD (fieldD x1 0)).getD (v13).toNat .nil)).length : Int))) then
            bif decide ((b14).length + 1 ≤ 2147483648) then
              bif (decide (0 ≤ v13) && decide (v13 < ((elemsD (fieldD x1 0)).length : Int))) then
                bif (decide (0 ≤ v16) && decide (v16 < ((elemsD ((elemsD (fieldD x1 0)).getD (v13).toNat .nil)).length : Int))) then
                  bif decide ((b15).length + 1 ≤ 2147483648) then
                    t7_lp13 Try.prog Try.f7 N n x0 x1 x2 x3 v13 b200011 b200012 m0 (IntKind.wrap .i64 (v16 + 1)) (b14 ++ [(elemsD ((elemsD (fieldD x1 0)).getD (v13).toNat .nil)).getD (v16).toNat .nil]) (b15 ++ [(elemsD ((elemsD (fieldD x1 0)).getD (v13).toNat .nil)).getD (v16).toNat .nil])
                  else none
                else none
              else none
            else none
          else none
        else none
    else bif decide ((b200011).length + 1 ≤ 2147483648) then
        bif decide ((b200012).length + 1 ≤ 2147483648) then
          t7_lp8 Try.prog Try.f7 N m0 x0 x1 x2 x3 (IntKind.wrap .i64 (v13 + 1)) (b200011 ++ [.slice b14 []]) (b200012 ++ [.slice b15 []])
        else none
      else none
  else none := by kernel_rfl
theorem t7_lp8_step  (N n : Nat) (x0 : D) (x1 : D) (x2 : Int) (x3 : Int) (v13 : Int) (b200011 : List D) (b200012 : List D) : t7_lp8 Try.prog Try.f7 N (n + 1) x0 x1 x2 x3 v13 b200011 b200012 =
  bif decide (v13 < ((elemsD (fieldD x1 0)).length : Int)) then
    t7_lp13 Try.prog Try.f7 N N x0 x1 x2 x3 v13 b200011 b200012 n 0 [] []
  else bif ((fitsD x0 (.agg [.slice b200011 []])) == true) then
      bif ((!(fitsD x0 (.agg [.slice b200012 []]))) == true) then
        some (dat 4 (.lit (.bool (mayCat x0))))
      else some (dat 4 (.lit (.bool false)))
    else some (dat 4 (.lit (.bool false))) := by kernel_rfl
theorem t7 (N : Nat) (x0 : D) (x1 : D) (x2 : Int) (x3 : Int) : evFn Try.prog (envS (envR D6 [] [] []) [(11, 0), (12, 0)]) t7_h N Try.f7 [dat 38 x0, dat 41 x1, dat 3 (.lit (.int .i64 x2)), dat 3 (.lit (.int .i64 x3))] =
  bif ((!(fewData x1)) == false) then
    bif ((decide (((elemsD (fieldD x0 0)).length : Int) > 10)) == false) then
      bif ((!(fitsD x0 x1)) == false) then
        bif ((decide (x2 < 0)) == false) then
          bif ((decide (x2 ≥ ((elemsD (fieldD x1 0)).length : Int))) == false) then
            bif ((decide (x3 < 0)) == false) then
              bif (decide (0 ≤ x2) && decide (x2 < ((elemsD (fieldD x1 0)).length : Int))) then
                bif decide (x3 ≥ ((elemsD ((elemsD (fieldD x1 0)).getD (x2).toNat .nil)).length : Int)) then
                  some (dat 4 (.lit (.bool true)))
                else t7_lp8 Try.prog Try.f7 N N x0 x1 x2 x3 0 [] []
              else none
            else some (dat 4 (.lit (.bool true)))
          else some (dat 4 (.lit (.bool true)))
        else some (dat 4 (.lit (.bool true)))
      else some (dat 4 (.lit (.bool true)))
    else some (dat 4 (.lit (.bool true)))
  else some (dat 4 (.lit (.bool true))) := by kernel_rfl

end Go.Proofs.Ytmopepjahjmdeaa

namespace Go.Proofs.Ytmopepjahjmdeaa
open Go.Ev
set_option linter.unusedVariables false
set_option maxRecDepth 10000
set_option linter.unusedSimpArgs false
set_option simprocs false

theorem lessF_t {q : Int} {r : D} {l : List D} {j : Nat} (h : ((j : Int) == q) = true) : lessF q (r :: l) j = lessF q l (j + 1) := by
  show (bif (j : Int) == q then lessF q l (j + 1) else r :: lessF q l (j + 1)) = _
  rw [h]; rfl
theorem lessF_f {q : Int} {r : D} {l : List D} {j : Nat} (h : ((j : Int) == q) = false) : lessF q (r :: l) j = r :: lessF q l (j + 1) := by
  show (bif (j : Int) == q then lessF q l (j + 1) else r :: lessF q l (j + 1)) = _
  rw [h]; rfl
theorem badF_t {q : Int} {r : D} {l : List D} {j : Nat} (h : ((j : Int) == q) = true) : badF q (r :: l) j = badRow r :: badF q l (j + 1) := by
  show (bif (j : Int) == q then badRow r else r) :: badF q l (j + 1) = _
  rw [h]; rfl
theorem badF_f {q : Int} {r : D} {l : List D} {j : Nat} (h : ((j : Int) == q) = false) : badF q (r :: l) j = r :: badF q l (j + 1) := by
  show (bif (j : Int) == q then badRow r else r) :: badF q l (j + 1) = _
  rw [h]; rfl
theorem less_rows {N m0 i : Nat} {x0 x1 : D} {ts rs : List D} {t q : Int} {b11 b12 : List D} (hts : elemsD (fieldD x1 0) = ts) (hi : i < ts.length) (h4 : ts.length ≤ 4) (hrs : elemsD (ts.getD i .nil) = rs) (h8 : rs.length ≤ 8)
    (hw : ∀ r ∈ rs, 1 ≤ (elemsD r).length ∧ (elemsD r).length ≤ 4) (hb1 : b11.length ≤ 4) (hb2 : b12.length ≤ 4) : ∀ (n j : Nat) (b14 b15 : List D), j ≤ rs.length → rs.length - j < n → b14.length ≤ j → b15.length ≤ j →
    t7_lp13 Try.prog Try.f7 N n x0 x1 t q (i : Int) b11 b12 m0 (j : Int) b14 b15 = t7_lp8 Try.prog Try.f7 N m0 x0 x1 t q ((i + 1 : Nat) : Int) (b11 ++ [.slice (b14 ++ lessF (atRow i t q) (rs.drop j) j) []]) (b12 ++ [.slice (b15 ++ badF (atRow i t q) (rs.drop j) j) []])
  | 0, j, b14, b15, _, h, _, _ => by omega
  | n + 1, j, b14, b15, hj, h, g1, g2 => by
    have ci : (decide (0 ≤ (i : Int)) && decide ((i : Int) < (ts.length : Int))) = true := below_iff.2 (show 0 ≤ (i : Int) ∧ (i : Int) < (ts.length : Int) by omega)
    rw [t7_lp13_step, hts, Int.toNat_natCast i, Int.toNat_natCast j, hrs, ci, cond_true]
    by_cases hlt : j < rs.length
    · have cj : (decide (0 ≤ (j : Int)) && decide ((j : Int) < (rs.length : Int))) = true := below_iff.2 (show 0 ≤ (j : Int) ∧ (j : Int) < (rs.length : Int) by omega)
      have w1 : IntKind.wrap .i64 ((j : Int) + 1) = ((j + 1 : Nat) : Int) := by rw [l_wrapI (l_in (by omega) (by omega))]; omega
      have hd : rs.drop j = rs.getD j .nil :: rs.drop (j + 1) := by rw [l_get hlt]; exact List.drop_eq_getElem_cons hlt
      have hr := hw (rs.getD j .nil) (by rw [l_get hlt]; exact List.getElem_mem hlt)
      rw [l_lt hlt, cond_true, w1, hd]
      generalize rs.getD j .nil = r at hr
      have k1 : decide (b14.length + 1 ≤ 2147483648) = true := dT (by omega)
      have k2 : decide (b15.length + 1 ≤ 2147483648) = true := dT (by omega)
      have k3 : decide (1 + (((elemsD r).drop ((1 : Int) : Int).toNat).take (((elemsD r).length : Int) - (1 : Int)).toNat).length ≤ 2147483648) = true := dT (by
        have h1 := List.length_take_le ((((elemsD r).length : Int) - (1 : Int)).toNat) ((elemsD r).drop ((1 : Int) : Int).toNat)
        omega)
      have k4 : (decide (0 ≤ (1 : Int)) && decide ((1 : Int) ≤ ((elemsD r).length : Int)) && decide (((elemsD r).length : Int) ≤ ((elemsD r).length : Int))) = true := by
        rw [Bool.and_eq_true, Bool.and_eq_true, decide_eq_true_eq, decide_eq_true_eq, decide_eq_true_eq]
        omega
      simp only [cj, k1, k2, k3, k4, cond_true, beq_true]
      have miss : ((j : Int) == atRow i t q) = false → t7_lp13 Try.prog Try.f7 N n x0 x1 t q (i : Int) b11 b12 m0 ((j + 1 : Nat) : Int) (b14 ++ [r]) (b15 ++ [r]) = t7_lp8 Try.prog Try.f7 N m0 x0 x1 t q ((i + 1 : Nat) : Int) (b11 ++ [.slice (b14 ++ lessF (atRow i t q) (r :: rs.drop (j + 1)) j) []]) (b12 ++ [.slice (b15 ++ badF (atRow i t q) (r :: rs.drop (j + 1)) j) []]) := by
        intro e3
        have key := less_rows (N := N) (m0 := m0) (x0 := x0) (t := t) (q := q) hts hi h4 hrs h8 hw hb1 hb2 n (j + 1) (b14 ++ [r]) (b15 ++ [r]) (by omega) (by omega) (by rw [List.length_append]; exact Nat.succ_le_succ g1) (by rw [List.length_append]; exact Nat.succ_le_succ g2)
        rw [List.append_assoc b14, List.append_assoc b15] at key
        rw [lessF_f e3, badF_f e3]
        exact key
      cases e1 : ((i : Int) == t) with
      | true =>
        have hR : atRow i t q = q := by unfold atRow; rw [e1]; rfl
        cases e2 : ((j : Int) == q) with
        | true =>
          simp only [cond_true]
          have e3 : ((j : Int) == atRow i t q) = true := by rw [hR]; exact e2
          have key := less_rows (N := N) (m0 := m0) (x0 := x0) (t := t) (q := q) hts hi h4 hrs h8 hw hb1 hb2 n (j + 1) b14 (b15 ++ [badRow r]) (by omega) (by omega) (by omega) (by rw [List.length_append]; exact Nat.succ_le_succ g2)
          rw [List.append_assoc b15] at key
          rw [lessF_t e3, badF_t e3]
          exact key
        | false =>
          simp only [cond_true, cond_false]
          exact miss (by rw [hR]; exact e2)
      | false =>
        simp only [cond_true, cond_false]
        refine miss ?_
        have hR : atRow i t q = -1 := by unfold atRow; rw [e1]; rfl
        rw [hR, beq_eq_false_iff_ne]
        omega
    · have w2 : IntKind.wrap .i64 ((i : Int) + 1) = ((i + 1 : Nat) : Int) := by rw [l_wrapI (l_in (by omega) (by omega))]; omega
      have hd : rs.drop j = [] := List.drop_of_length_le (by omega)
      rw [l_ge hlt, cond_false, dT (show b11.length + 1 ≤ 2147483648 by omega), cond_true, dT (show b12.length + 1 ≤ 2147483648 by omega), cond_true, w2, hd,
        show lessF (atRow i t q) [] j = [] from rfl, show badF (atRow i t q) [] j = [] from rfl, List.append_nil, List.append_nil]

theorem less_tabs {N : Nat} {x0 x1 : D} {ts : List D} {t q : Int} (hts : elemsD (fieldD x1 0) = ts) (h4 : ts.length ≤ 4) (hN : 8 < N) (h8 : ∀ x ∈ ts, (elemsD x).length ≤ 8 ∧ ∀ r ∈ elemsD x, 1 ≤ (elemsD r).length ∧ (elemsD r).length ≤ 4)
    (A : fitsD x0 (catD (lessT t q ts 0)) = true) (B : fitsD x0 (catD (badT t q ts 0)) = false) (C : mayCat x0 = true) : ∀ (n i : Nat) (b11 b12 : List D), i ≤ ts.length → ts.length - i < n → b11.length ≤ i → b12.length ≤ i →
    b11 ++ lessT t q (ts.drop i) i = lessT t q ts 0 → b12 ++ badT t q (ts.drop i) i = badT t q ts 0 →
    t7_lp8 Try.prog Try.f7 N n x0 x1 t q (i : Int) b11 b12 = some (dat 4 (.lit (.bool true)))
  | 0, i, b11, b12, _, h, _, _, _, _ => by omega
  | n + 1, i, b11, b12, hi, h, g1, g2, a1, a2 => by
    rw [t7_lp8_step, hts]
    by_cases hlt : i < ts.length
    · have hm : ts.getD i .nil ∈ ts := by rw [l_get hlt]; exact List.getElem_mem hlt
      obtain ⟨u1, u2⟩ := h8 _ hm
      have key : t7_lp13 Try.prog Try.f7 N N x0 x1 t q (i : Int) b11 b12 n 0 [] [] = _ := less_rows (N := N) (m0 := n) (x0 := x0) (t := t) (q := q) (b11 := b11) (b12 := b12) hts hlt h4 rfl u1 u2 (by omega) (by omega) N 0 [] [] (Nat.zero_le _) (by omega) (Nat.le_refl _) (Nat.le_refl _)
      have hd : ts.drop i = ts.getD i .nil :: ts.drop (i + 1) := by rw [l_get hlt]; exact List.drop_eq_getElem_cons hlt
      rw [hd] at a1 a2
      rw [l_lt hlt, cond_true, key]
      refine less_tabs hts h4 hN h8 A B C n (i + 1) _ _ (by omega) (by omega) (by rw [List.length_append]; exact Nat.succ_le_succ g1) (by rw [List.length_append]; exact Nat.succ_le_succ g2) ?_ ?_
      · rw [List.append_assoc b11]
        exact a1
      · rw [List.append_assoc b12]
        exact a2
    · have hd : ts.drop i = [] := List.drop_of_length_le (by omega)
      rw [hd, show lessT t q [] i = [] from rfl, List.append_nil] at a1
      rw [hd, show badT t q [] i = [] from rfl, List.append_nil] at a2
      have A' : fitsD x0 (.agg [.slice b11 []]) = true := by rw [a1]; exact A
      have B' : fitsD x0 (.agg [.slice b12 []]) = false := by rw [a2]; exact B
      rw [l_ge hlt, cond_false, A', B', C]
      rfl

theorem k7 : FnOK Try.prog 7 Try.f7 := ⟨Try.func7, rfl, by kernel_rfl⟩
theorem law7 {n2 n3 : Nat} (x0 x1 : D) {x2 x3 : D} (h2 : Ty Try.prog n2 3 x2) (h3 : Ty Try.prog n3 3 x3) :
    CallOK Try.prog 7 [dat 38 x0, dat 41 x1, dat 3 x2, dat 3 x3] (dat 4 (.lit (.bool true))) := by
  obtain ⟨t, rfl, _⟩ := ty3' h2
  obtain ⟨q, rfl, _⟩ := ty3' h3
  have e0 : (dat 4 (.lit (.bool true)) : AV) = mkRes Try.prog 4 (.lit (.bool true)) := (m4 (.lit (.bool true))).symm
  rw [e0]
  refine fn_ok hm (envOK_S envD6 [(11, 0), (12, 0)]) k7 ((t7 12 x0 x1 t q).trans ?_)
  rw [← e0]
  cases q1 : fewData x1 with
  | false => rfl
  | true =>
    by_cases q2 : ((elemsD (fieldD x0 0)).length : Int) > 10
    · rw [dT q2]
      rfl
    · rw [dF q2]
      cases q3 : fitsD x0 x1 with
      | false => rfl
      | true =>
        by_cases p1 : t < 0
        · rw [dT p1]
          rfl
        · by_cases p2 : t ≥ ((elemsD (fieldD x1 0)).length : Int)
          · rw [dF p1, dT p2]
            rfl
          · by_cases p3 : q < 0
            · rw [dF p1, dF p2, dT p3]
              rfl
            · have g1 : (decide (0 ≤ t) && decide (t < ((elemsD (fieldD x1 0)).length : Int))) = true := below_iff.2 (show 0 ≤ t ∧ t < ((elemsD (fieldD x1 0)).length : Int) by omega)
              by_cases p4 : q ≥ ((elemsD ((elemsD (fieldD x1 0)).getD t.toNat .nil)).length : Int)
              · rw [dF p1, dF p2, dF p3, g1, dT p4]
                rfl
              · obtain ⟨f1, f2, f3⟩ := fits_iff.1 q3
                have f1' : mayCat (catD (tabs x0)) = true := f1
                obtain ⟨m1, m2, _⟩ := mayCat_iff.1 f1
                have h8 : ∀ x ∈ tabs x1, (elemsD x).length ≤ 8 ∧ ∀ r ∈ elemsD x, 1 ≤ (elemsD r).length ∧ (elemsD r).length ≤ 4 := by
                  intro x hx
                  obtain ⟨i, hi, rfl⟩ := List.getElem_of_mem hx
                  have hi' : i < (tabs x0).length := by omega
                  have hf := f3 i hi'
                  rw [l_get hi] at hf
                  obtain ⟨d1, d2, _, _⟩ := mayDef_iff.1 (cat_def f1' hi')
                  unfold fitsTab at hf
                  rw [Bool.and_eq_true, decide_eq_true_eq, List.all_eq_true] at hf
                  refine ⟨by omega, fun r hr => ?_⟩
                  have := hf.2 r hr
                  unfold fitsRow at this
                  rw [Bool.and_eq_true, beq_iff_eq] at this
                  omega
                have A := less_fits (cs := tabs x0) (ts := tabs x1) (t := t) (q := q) q3
                have B := bad_not (cs := tabs x0) (ts := tabs x1) (t := t) (q := q) f2 (show 0 ≤ t ∧ t < ((elemsD (fieldD x1 0)).length : Int) by omega) (show 0 ≤ q ∧ q < ((elemsD ((elemsD (fieldD x1 0)).getD t.toNat .nil)).length : Int) by omega)
                have key : t7_lp8 Try.prog Try.f7 12 12 x0 x1 t q 0 [] [] = _ := less_tabs (N := 12) (x0 := x0) (x1 := x1) (ts := tabs x1) (t := t) (q := q) rfl (by omega) (by omega) h8 A B f1 12 0 [] [] (Nat.zero_le _) (by omega) (Nat.le_refl _) (Nat.le_refl _) rfl rfl
                rw [dF p1, dF p2, dF p3, g1, dF p4, key]
                rfl

end Go.Proofs.Ytmopepjahjmdeaa

namespace Go.Proofs.Ytmopepjahjmdeaa
open Go.Ev
open Go.ChangeShapes Go.WideShapes Go.ChangeAt Go.RowKit
set_option linter.unusedVariables false

namespace dataLessLaw

theorem own : ownKnob Try.prog.godebug = none := by kernel_rfl
theorem laidOut : laidOutB Try.prog = true := by kernel_rfl
theorem types : okTypes Try.prog [3, 23, 32, 34, 36, 38, 39, 41, 85] = true := by kernel_rfl

set_option maxRecDepth 100000 in
theorem lifted (os : Os) (started : os.Started) (H : Type) (enc : TypeId × Value → H) :
    ReturnsInHanded {} Try.checked os 7 .any (Rows.dataLessSpec.pre6 enc Try.prog Try.f7 Rows.dataLessRow.domain false) (Rows.dataLessSpec.post enc Try.prog Try.f7 false true false false) := by
  refine returnsInHanded_of_change (C := Try.checked) own started (by kernel_rfl) Try.func7
    (ChangeSpec.witness6 (enc := enc) (C := Try.checked) false ⟨#[], #[.agg #[.slice none 0 0], .agg #[.slice none 0 0], .int .i64 0, .int .i64 0], []⟩ 8 (by kernel_rfl) (by kernel_rfl) (by kernel_rfl) (by kernel_rfl)) ?_
  intro W base args ds gs before hval0 hW hcnd _
  have hval : ∀ (j : Nat) t v, Try.f7.params[j]? = some t → args[j]? = some v → Value.okWide Try.prog W .any base t v := hval0
  have hW' := hW
  obtain ⟨p, q, hA0, hV, rfl, hfz, hnd⟩ := hW
  have hA : DataW.TrodAll enc Try.prog W 0 (fun _ => true) true Try.f7.params.toList args.toList ds p := hA0
  rw [Try.params7] at hA hval
  obtain ⟨v0, vs0, d0, ds0, p0, q0, hargs, rfl, rfl, h0, r0⟩ := trodAll_cons hA
  obtain ⟨v1, vs1, d1, ds1, p1, q1, rfl, rfl, rfl, h1, r1⟩ := trodAll_cons r0
  obtain ⟨v2, vs2, d2, ds2, p2, q2, rfl, rfl, rfl, h2, r2⟩ := trodAll_cons r1
  obtain ⟨v3, vs3, d3, ds3, p3, q3, rfl, rfl, rfl, h3, r3⟩ := trodAll_cons r2
  obtain ⟨rfl, rfl, rfl⟩ := trodAll_nil r3
  obtain rfl : args = #[v0, v1, v2, v3] := by cases args; simp_all
  obtain ⟨rfl, rfl⟩ := trodVars_none hV
  have lt0 : ∀ x ∈ p0, x.block < W.heap.size := by obtain ⟨m, hm⟩ := h0; exact DataW.trod_lt m _ _ _ hm
  obtain ⟨n0, x0, ty0, rep0⟩ := arg_rep types (by decide) (hval 0 38 v0 rfl rfl) h0
  have lt1 : ∀ x ∈ p1, x.block < W.heap.size := by obtain ⟨m, hm⟩ := h1; exact DataW.trod_lt m _ _ _ hm
  obtain ⟨n1, x1, ty1, rep1⟩ := arg_rep types (by decide) (hval 1 41 v1 rfl rfl) h1
  have lt2 : ∀ x ∈ p2, x.block < W.heap.size := by obtain ⟨m, hm⟩ := h2; exact DataW.trod_lt m _ _ _ hm
  obtain ⟨n2, x2, ty2, rep2⟩ := arg_rep types (by decide) (hval 2 3 v2 rfl rfl) h2
  have lt3 : ∀ x ∈ p3, x.block < W.heap.size := by obtain ⟨m, hm⟩ := h3; exact DataW.trod_lt m _ _ _ hm
  obtain ⟨n3, x3, ty3, rep3⟩ := arg_rep types (by decide) (hval 3 3 v3 rfl rfl) h3
  clear hA0 hval0
  refine (calls_true Try.underlying4 (law7 x0 x1 ty2 ty3) (w := W) (vs := [v0, v1, v2, v3]) ⟨⟨rfl, rep0⟩, ⟨rfl, rep1⟩, ⟨rfl, rep2⟩, ⟨rfl, rep3⟩, trivial⟩).mono fun e W' ⟨he, bel⟩ => ?_
  subst he
  exact ⟨_, rfl, _, _, _, [], _, [], hW', trodAll_mk1 (shut_bool Try.underlying4 _), (trodAll_cons_mk (Below.trod laidOut (by kernel_rfl) (of_decide_eq_true (by kernel_rfl)) h0 bel lt0) (trodAll_cons_mk (Below.trod laidOut (by kernel_rfl) (of_decide_eq_true (by kernel_rfl)) h1 bel lt1) (trodAll_cons_mk (Below.trod laidOut (by kernel_rfl) (of_decide_eq_true (by kernel_rfl)) h2 bel lt2) (trodAll_cons_mk (Below.trod laidOut (by kernel_rfl) (of_decide_eq_true (by kernel_rfl)) h3 bel lt3) trodAll_mk0)))), rfl, bel.frame _, fun h => by cases h⟩

theorem over : Rows.dataLessRow.holds Try.pinned (OpenSpec.ofChange Rows.dataLessSpec) :=
  OpenClaim.holds_of_wide 7 Try.f7 rfl rfl rfl rfl rfl rfl rfl ⟨rfl, rfl, rfl, rfl, rfl⟩ rfl rfl rfl rfl rfl (by kernel_rfl) Try.func7 (by kernel_rfl)
    (of_decide_eq_true (by kernel_rfl)) (by unfold Func.isWrapper; first | (rw [if_pos (by decide +kernel)]; kernel_rfl) | (rw [if_neg (by decide +kernel)]; exact ⟨rfl, rfl⟩))
    (fun os started H enc _ => lifted os started H enc)

end dataLessLaw

/-- The statement. -/
theorem dataLessProved : Rows.DataLessSaid := dataLessLaw.over

end Go.Proofs.Ytmopepjahjmdeaa
