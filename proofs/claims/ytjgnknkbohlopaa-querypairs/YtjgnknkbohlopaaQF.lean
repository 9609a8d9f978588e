/- QueryPairs: each pair is of one column of one set, and one of the other; the other way round it is turned; each of its columns is one of the orders. Proved for every world, every order, every argument that the statement takes. -/
import Derived.Test.YtjgnknkbohlopaaQE2
import Derived.Test.YtjgnknkbohlopaaV3
import Derived.WalkKit
import Derived.ProofKit
import Derived.OpenShut
import Derived.ShutString
import Derived.ChangeOld
import Derived.Below
namespace Go.Proofs.Ytjgnknkbohlopaa
namespace X
open Go.Ev
set_option linter.unusedVariables false
/- roadbook/roadbooklaw05.QueryPairs -/
def t5_h : Hints := fun i => if i = 11 then some ([0, 1, 4, 5, 6, 7, 8, 9, 10, 15, 16, 17, 18, 19, 20, 21, 22, 23, 24, 25, 26, 27, 28, 29, 30, 31, 32, 33, 34, 35, 36, 37, 38, 39, 40, 41, 42, 43, 44, 45, 46, 47, 48, 49, 50, 51, 52, 53, 54, 55, 56, 57, 58, 59, 60, 61, 62, 63, 64, 65, 66, 67, 68, 69, 70, 71, 72, 73, 74, 75, 76, 77, 78, 79, 80, 81, 82, 83, 84, 85, 86, 87, 88, 89, 90, 91, 92, 93, 94, 95, 96, 97, 98, 99, 100, 101, 102, 103, 104, 105, 106, 107, 108, 109, 110, 111, 112, 113, 114, 115, 116, 117, 118, 119, 120, 121, 122, 123, 124, 125, 126, 127, 128, 129, 130, 131, 132, 133, 134, 135, 136, 137, 138, 139, 140, 141, 142, 143, 144, 145, 146, 147, 148, 149, 150, 151, 152, 153, 154, 155, 156, 157, 158, 159, 160, 161, 162, 163, 164, 165, 166, 167, 168, 169, 170, 171, 172, 173], [], []) else if i = 17 then some ([0, 1, 4, 5, 6, 7, 8, 9, 10, 19, 20, 21, 22, 23, 24, 25, 26, 27, 28, 29, 30, 31, 32, 33, 34, 35, 36, 37, 38, 39, 40, 41, 42, 43, 44, 45, 46, 47, 48, 49, 50, 51, 52, 53, 54, 55, 56, 57, 58, 59, 60, 61, 62, 63, 64, 65, 66, 67, 68, 69, 70, 71, 72, 73, 74, 75, 76, 77, 78, 79, 80, 81, 82, 83, 84, 85, 86, 87, 88, 89, 90, 91, 92, 93, 94, 95, 96, 97, 98, 99, 100, 101, 102, 103, 104, 105, 106, 107, 108, 109, 110, 111, 112, 113, 114, 115, 116, 117, 118, 119, 120, 121, 122, 123, 124, 125, 126, 127, 128, 129, 130, 131, 132, 133, 134, 135, 136, 137, 138, 139, 140, 141, 142, 143, 144, 145, 146, 147, 148, 149, 150, 151, 152, 153, 154, 155, 156, 157, 158, 159, 160, 161, 162, 163, 164, 165, 166, 167, 168, 169, 170, 171, 172, 173], [], []) else none
def t5_lp11 (P : Program) (fn : Func) (N n : Nat) (x0 : D) (x1 : D) (x2 : Int) (x3 : Int) (v14 : Int) : Option AV := evLoop (preL t5_h (sub [1, 1, 1, 1, 1, 1, 1, 1, 0, 1, 0, 0] (bodyOf fn))) (evCode P (envR QA [] [] []) t5_h N (sub [1, 1, 1, 1, 1, 1, 1, 1, 0, 1, 0, 0] (bodyOf fn))) n ⟨[dead, dead, dat 3 (.lit (.int .i64 x2)), dat 3 (.lit (.int .i64 x3)), dead, dead, dead, dead, dead, dead, dead, dat 46 (.slice (pairsL x1 x2 x3) []), dat 46 (.slice (pairsL x1 x3 x2) []), dat 25 (.slice (ordersL x1) []), dat 3 (.lit (.int .i64 v14)), dead, dead, dead, dead, dead, dead, dead, dead, dead, dead, dead, dead, dead, dead, dead, dead, dead, dead, dead, dead, dead, dead, dead, dead, dead, dead, dead, dead, dead, dead, dead, dead, dead, dead, dead, dead, dead, dead, dead, dead, dead, dead, dead, dead, dead, dead, dead, dead, dead, dead, dead, dead, dead, dead, dead, dead, dead, dead, dead, dead, dead, dead, dead, dead, dead, dead, dead, dead, dead, dead, dead, dead, dead, dead, dead, dead, dead, dead, dead, dead, dead, dead, dead, dead, dead, dead, dead, dead, dead, dead, dead, dead, dead, dead, dead, dead, dead, dead, dead, dead, dead, dead, dead, dead, dead, dead, dead, dead, dead, dead, dead, dead, dead, dead, dead, dead, dead, dead, dead, dead, dead, dead, dead, dead, dead, dead, dead, dead, dead, dead, dead, dead, dead, dead, dead, dead, dead, dead, dead, dead, dead, dead, dead, dead, dead, dead, dead, dead, dead, dead, dead, dead, dead, dead, dead, dead, dead, dead, dead], lookB []⟩ (blockK 0 (seqC P (envR QA [] [] []) t5_h N (sub [1, 1, 1, 1, 1, 1, 1, 1, 1] (bodyOf fn)) (finK P fn) ))
def t5_lp17 (P : Program) (fn : Func) (N n : Nat) (x0 : D) (x1 : D) (x2 : Int) (x3 : Int) (v14 : Int) (m0 : Nat) (v17 : Int) (v18 : Int) : Option AV := evLoop (preL t5_h (sub [1, 1, 1, 1, 1, 1, 1, 1, 0, 1, 0, 0, 1, 0, 0, 1, 1, 1, 0, 1, 0, 0] (bodyOf fn))) (evCode P (envR QA [] [] []) t5_h N (sub [1, 1, 1, 1, 1, 1, 1, 1, 0, 1, 0, 0, 1, 0, 0, 1, 1, 1, 0, 1, 0, 0] (bodyOf fn))) n ⟨[dead, dead, dat 3 (.lit (.int .i64 x2)), dat 3 (.lit (.int .i64 x3)), dead, dead, dead, dead, dead, dead, dead, dat 46 (.slice (pairsL x1 x2 x3) []), dat 46 (.slice (pairsL x1 x3 x2) []), dat 25 (.slice (ordersL x1) []), dat 3 (.lit (.int .i64 v14)), dat 4 (.lit (.bool (bitB x2 (IntKind.wrap .i64 (Int.tdiv (intD (fieldD ((pairsL x1 x2 x3).getD (v14).toNat .nil) 0)) 4))))), dat 4 (.lit (.bool (bitB x3 (IntKind.wrap .i64 (Int.tdiv (intD (fieldD ((pairsL x1 x2 x3).getD (v14).toNat .nil) 1)) 4))))), dat 3 (.lit (.int .i64 v17)), dat 3 (.lit (.int .i64 v18)), dead, dead, dead, dead, dead, dead, dead, dead, dead, dead, dead, dead, dead, dead, dead, dead, dead, dead, dead, dead, dead, dead, dead, dead, dead, dead, dead, dead, dead, dead, dead, dead, dead, dead, dead, dead, dead, dead, dead, dead, dead, dead, dead, dead, dead, dead, dead, dead, dead, dead, dead, dead, dead, dead, dead, dead, dead, dead, dead, dead, dead, dead, dead, dead, dead, dead, dead, dead, dead, dead, dead, dead, dead, dead, dead, dead, dead, dead, dead, dead, dead, dead, dead, dead, dead, dead, dead, dead, dead, dead, dead, dead, dead, dead, dead, dead, dead, dead, dead, dead, dead, dead, dead, dead, dead, dead, dead, dead, dead, dead, dead, dead, dead, dead, dead, dead, dead, dead, dead, dead, dead, dead, dead, dead, dead, dead, dead, dead, dead, dead, dead, dead, dead, dead, dead, dead, dead, dead, dead, dead, dead, dead, dead, dead, dead, dead, dead, dead, dead, dead, dead, dead, dead, dead, dead], lookB []⟩ (blockK 2 (seqC P (envR QA [] [] []) t5_h N (sub [1, 1, 1, 1, 1, 1, 1, 1, 0, 1, 0, 0, 1, 0, 0, 1, 1, 1, 1] (bodyOf fn)) (blockK 1 (seqC P (envR QA [] [] []) t5_h N (sub [1, 1, 1, 1, 1, 1, 1, 1, 0, 1, 0, 0, 1, 1] (bodyOf fn)) (seqK (fun s => evLoop (preL t5_h (sub [1, 1, 1, 1, 1, 1, 1, 1, 0, 1, 0, 0] (bodyOf fn))) (evCode P (envR QA [] [] []) t5_h N (sub [1, 1, 1, 1, 1, 1, 1, 1, 0, 1, 0, 0] (bodyOf fn))) m0 ((preL t5_h (sub [1, 1, 1, 1, 1, 1, 1, 1, 0, 1, 0, 0] (bodyOf fn))) s) (blockK 0 (seqC P (envR QA [] [] []) t5_h N (sub [1, 1, 1, 1, 1, 1, 1, 1, 1] (bodyOf fn)) (finK P fn) ))) (blockK 0 (seqC P (envR QA [] [] []) t5_h N (sub [1, 1, 1, 1, 1, 1, 1, 1, 1] (bodyOf fn)) (finK P fn) ))) )) ))
theorem t5_lp17_step (N n : Nat) (x0 : D) (x1 : D) (x2 : Int) (x3 : Int) (v14 : Int) (m0 : Nat) (v17 : Int) (v18 : Int) : t5_lp17 Try.prog Try.f5 N (n + 1) x0 x1 x2 x3 v14 m0 v17 v18 =
  bif decide (v18 < ((ordersL x1).length : Int)) then
    bif (decide (0 ≤ v18) && decide (v18 < ((ordersL x1).length : Int))) then
      bif (decide (0 ≤ v14) && decide (v14 < ((pairsL x1 x2 x3).length : Int))) then
        bif (((intD ((ordersL x1).getD (v18).toNat .nil)) == (intD (fieldD ((pairsL x1 x2 x3).getD (v14).toNat .nil) 0))) == false) then
          bif (decide (0 ≤ v18) && decide (v18 < ((ordersL x1).length : Int))) then
            bif (decide (0 ≤ v14) && decide (v14 < ((pairsL x1 x2 x3).length : Int))) then
              bif ((intD ((ordersL x1).getD (v18).toNat .nil)) == (intD (fieldD ((pairsL x1 x2 x3).getD (v14).toNat .nil) 1))) then
                t5_lp17 Try.prog Try.f5 N n x0 x1 x2 x3 v14 m0 (IntKind.wrap .i64 (v17 + 1)) (IntKind.wrap .i64 (v18 + 1))
              else t5_lp17 Try.prog Try.f5 N n x0 x1 x2 x3 v14 m0 v17 (IntKind.wrap .i64 (v18 + 1))
            else none
          else none
        else t5_lp17 Try.prog Try.f5 N n x0 x1 x2 x3 v14 m0 (IntKind.wrap .i64 (v17 + 1)) (IntKind.wrap .i64 (v18 + 1))
      else none
    else none
  else bif ((!(bitB x2 (IntKind.wrap .i64 (Int.tdiv (intD (fieldD ((pairsL x1 x2 x3).getD (v14).toNat .nil) 0)) 4)))) == false) then
      bif ((!(bitB x3 (IntKind.wrap .i64 (Int.tdiv (intD (fieldD ((pairsL x1 x2 x3).getD (v14).toNat .nil) 1)) 4)))) == false) then
        bif ((v17 != 2) == false) then
          bif (decide (0 ≤ v14) && decide (v14 < ((pairsL x1 x3 x2).length : Int))) then
            bif (decide (0 ≤ v14) && decide (v14 < ((pairsL x1 x2 x3).length : Int))) then
              bif (decide (0 ≤ v14) && decide (v14 < ((pairsL x1 x2 x3).length : Int))) then
                bif (!(((intD (fieldD ((pairsL x1 x3 x2).getD (v14).toNat .nil) 0)) == (intD (fieldD ((pairsL x1 x2 x3).getD (v14).toNat .nil) 1))) && (((intD (fieldD ((pairsL x1 x3 x2).getD (v14).toNat .nil) 1)) == (intD (fieldD ((pairsL x1 x2 x3).getD (v14).toNat .nil) 0))) && true))) then
                  some (dat 4 (.lit (.bool false)))
                else t5_lp11 Try.prog Try.f5 N m0 x0 x1 x2 x3 (IntKind.wrap .i64 (v14 + 1))
              else none
            else none
          else none
        else some (dat 4 (.lit (.bool false)))
      else some (dat 4 (.lit (.bool false)))
    else some (dat 4 (.lit (.bool false))) := by kernel_rfl
theorem t5_lp11_step (N n : Nat) (x0 : D) (x1 : D) (x2 : Int) (x3 : Int) (v14 : Int) : t5_lp11 Try.prog Try.f5 N (n + 1) x0 x1 x2 x3 v14 =
  bif decide (v14 < ((pairsL x1 x2 x3).length : Int)) then
    bif (decide (0 ≤ v14) && decide (v14 < ((pairsL x1 x2 x3).length : Int))) then
      bif (decide (0 ≤ v14) && decide (v14 < ((pairsL x1 x2 x3).length : Int))) then
        t5_lp17 Try.prog Try.f5 N N x0 x1 x2 x3 v14 n 0 0
      else none
    else none
  else some (dat 4 (.lit (.bool true))) := by kernel_rfl
theorem t5 (N : Nat) (x0 : D) (x1 : D) (x2 : Int) (x3 : Int) : evFn Try.prog (envR QA [] [] []) t5_h N Try.f5 [dat 24 x0, dat 28 x1, dat 3 (.lit (.int .i64 x2)), dat 3 (.lit (.int .i64 x3))] =
  bif ((!(fewQ fewB x0 x1)) == false) then
    bif ((!(mayQ x0 x1)) == false) then
      bif ((decide (x2 < 0)) == false) then
        bif ((decide (x3 < 0)) == false) then
          bif ((decide (x2 > 15)) == false) then
            bif ((decide (x3 > 15)) == false) then
              bif ((andI .i64 x2 x3) != 0) then
                some (dat 4 (.lit (.bool true)))
              else bif decide ((qP x1).length ≤ 2147483647) then
                  bif decide ((qP x1).length ≤ 2147483647) then
                    bif decide ((qP x1).length ≤ 400000) then
                      bif ((((pairsL x1 x2 x3).length : Int) != ((pairsL x1 x3 x2).length : Int)) == false) then
                        bif decide ((qP x1).length ≤ 2147483647) then
                          bif ((decide (((pairsL x1 x2 x3).length : Int) > ((newL x1 x2 x3).length : Int))) == false) then
                            bif ((((ordersL x1).length : Int) == 0) == false) then
                              bif (decide (0 ≤ (0 : Int)) && decide ((0 : Int) < ((ordersL x1).length : Int))) then
                                bif ((intD ((ordersL x1).getD 0 .nil)) != (-1)) then
                                  some (dat 4 (.lit (.bool false)))
                                else t5_lp11 Try.prog Try.f5 N N x0 x1 x2 x3 0
                              else none
                            else some (dat 4 (.lit (.bool false)))
                          else some (dat 4 (.lit (.bool false)))
                        else none
                      else some (dat 4 (.lit (.bool false)))
                    else none
                  else none
                else none
            else some (dat 4 (.lit (.bool true)))
          else some (dat 4 (.lit (.bool true)))
        else some (dat 4 (.lit (.bool true)))
      else some (dat 4 (.lit (.bool true)))
    else some (dat 4 (.lit (.bool true)))
  else some (dat 4 (.lit (.bool true))) := by kernel_rfl

end X
end Go.Proofs.Ytjgnknkbohlopaa

namespace Go.Proofs.Ytjgnknkbohlopaa
namespace X
open Go.Ev
set_option linter.unusedVariables false
set_option maxRecDepth 10000
set_option linter.unusedSimpArgs false

def ordI (q : D) : List Int := cset ((ordRaw q).map intD)
theorem orders_eq (q : D) : ordersL q = (ordI q).map litI := by
  unfold ordersL compD sortD ordI cset
  rw [map_litI]
theorem orders_len (q : D) : (ordersL q).length = (ordI q).length := by rw [orders_eq, List.length_map]
theorem ord_len (q : D) : (ordI q).length ≤ 3 + 2 * (qP q).length := Nat.le_trans (cset_len _) (by rw [List.length_map]; exact ordRaw_len q)
theorem pair_col {e : D} (h : pairE e = true) : (0 ≤ pairA e ∧ pairA e < 16) ∧ (0 ≤ pairB e ∧ pairB e < 16) ∧ pairA e ≠ pairB e := by
  have hE := h
  unfold pairE at h
  simp only [Bool.and_eq_true, beq_iff_eq, Bool.not_eq_true', beq_eq_false_iff_ne] at h
  obtain ⟨hmay, h6, h1, h2, hne⟩ := h
  have hl := pair_len hmay h6
  have g0 : (kids e).getD 0 .nil ∈ kids e := by rw [l_get (show 0 < (kids e).length by omega)]; exact List.getElem_mem _
  have g1 : (kids e).getD 1 .nil ∈ kids e := by rw [l_get (show 1 < (kids e).length by omega)]; exact List.getElem_mem _
  have o0 := (may_part hmay g0).2
  have o1 := (may_part hmay g1).2
  rw [okK_succ, Bool.and_eq_true] at o0 o1
  obtain ⟨_, _, a1, a2, _⟩ := fits_op o0.1
  obtain ⟨_, _, b1, b2, _⟩ := fits_op o1.1
  have eA : pairA e = colI ((kids e).getD 0 .nil) := by unfold pairA; rw [hE]; rfl
  have eB : pairB e = colI ((kids e).getD 1 .nil) := by unfold pairB; rw [hE]; rfl
  rw [eA, eB]
  exact ⟨by omega, by omega, hne⟩
theorem ordRaw_ge (q : D) : ∀ z ∈ (ordRaw q).map intD, -1 ≤ z := by
  intro z hz
  rw [List.mem_map] at hz
  obtain ⟨x, hx, rfl⟩ := hz
  unfold ordRaw at hx
  simp only [List.mem_append, List.mem_singleton, List.mem_flatMap] at hx
  have hc : ∀ c : Int, x ∈ ordCol c → -1 ≤ intD x := by
    intro c hx
    unfold ordCol at hx
    cases hb : belowB c 16 with
    | false => rw [hb, cond_false] at hx; cases hx
    | true =>
      rw [hb, cond_true, List.mem_singleton] at hx
      have := below_iff.1 hb
      rw [hx]
      show -1 ≤ c
      omega
  rcases hx with ((hx | ⟨e, _, hx⟩) | hx) | hx
  · rw [hx]; decide
  · unfold ordOf at hx
    cases hp : pairE e with
    | false => rw [hp, cond_false] at hx; cases hx
    | true =>
      rw [hp, cond_true] at hx
      obtain ⟨h1, h2, _⟩ := pair_col hp
      simp only [List.mem_cons, List.not_mem_nil, or_false] at hx
      rcases hx with rfl | rfl
      · show -1 ≤ pairA e
        omega
      · show -1 ≤ pairB e
        omega
  · exact hc _ hx
  · exact hc _ hx
theorem ord_first (q : D) : ∃ l, ordI q = -1 :: l := by
  have hm : (-1 : Int) ∈ ordI q := by
    unfold ordI
    rw [mem_cset]
    unfold ordRaw
    simp [litI, intD]
  have hs := cset_lt ((ordRaw q).map intD)
  have hs : (ordI q).Pairwise (· < ·) := hs
  cases hl : ordI q with
  | nil => rw [hl] at hm; cases hm
  | cons x l =>
    rw [hl] at hs hm
    have hx : -1 ≤ x := by
      refine ordRaw_ge q x (mem_cset.1 ?_)
      show x ∈ ordI q
      rw [hl]
      exact List.mem_cons_self ..
    rcases List.mem_cons.1 hm with h | h
    · exact ⟨l, by rw [← h]⟩
    · have := (List.pairwise_cons.1 hs).1 _ h
      omega
theorem ord_pair {q e : D} (he : e ∈ qP q) (hp : pairE e = true) : (ordI q).contains (pairA e) = true ∧ (ordI q).contains (pairB e) = true := by
  have key : ∀ z : Int, litI z ∈ ordOf e → (ordI q).contains z = true := by
    intro z hz
    rw [List.contains_iff_mem]
    unfold ordI
    rw [mem_cset, List.mem_map]
    refine ⟨litI z, ?_, rfl⟩
    unfold ordRaw
    simp only [List.mem_append, List.mem_flatMap]
    exact .inl (.inl (.inr ⟨e, he, hz⟩))
  unfold ordOf at key
  rw [hp] at key
  exact ⟨key _ (by simp), key _ (by simp)⟩
theorem tdiv4 {z : Int} (h : 0 ≤ z ∧ z < 16) : IntKind.wrap .i64 (Int.tdiv z 4) = splitA z := by rw [wrap_div h, (split_in h).1]
/-- What is asked of one pair. -/
theorem pair_fine {q x : D} {a b : Int} (ha : 0 ≤ a ∧ a ≤ 15) (hb : 0 ≤ b ∧ b ≤ 15) (hx : x ∈ pairsL q a b) :
    bitB a (IntKind.wrap .i64 (Int.tdiv (intD (fieldD x 0)) 4)) = true ∧ bitB b (IntKind.wrap .i64 (Int.tdiv (intD (fieldD x 1)) 4)) = true ∧ (ordI q).countP (fun z => z == intD (fieldD x 0) || z == intD (fieldD x 1)) = 2 := by
  obtain ⟨e, he, hp, u, v, rfl, huv, h1, h2⟩ := pairs_mem hx
  obtain ⟨c1, c2, c3⟩ := pair_col hp
  obtain ⟨o1, o2⟩ := ord_pair he hp
  have hu : 0 ≤ u ∧ u < 16 := by rcases huv with ⟨rfl, _⟩ | ⟨rfl, _⟩ <;> assumption
  have hv : 0 ≤ v ∧ v < 16 := by rcases huv with ⟨_, rfl⟩ | ⟨_, rfl⟩ <;> assumption
  have hne : u ≠ v := by rcases huv with ⟨rfl, rfl⟩ | ⟨rfl, rfl⟩; exact c3; exact fun h => c3 h.symm
  have ou : (ordI q).contains u = true := by rcases huv with ⟨rfl, _⟩ | ⟨rfl, _⟩ <;> assumption
  have ov : (ordI q).contains v = true := by rcases huv with ⟨_, rfl⟩ | ⟨_, rfl⟩ <;> assumption
  show bitB a (IntKind.wrap .i64 (Int.tdiv u 4)) = true ∧ bitB b (IntKind.wrap .i64 (Int.tdiv v 4)) = true ∧ (ordI q).countP (fun z => z == u || z == v) = 2
  rw [has_col] at h1 h2
  rw [tdiv4 hu, tdiv4 hv, bit_in ha (split_lt u), bit_in hb (split_lt v), count_two (ordI q) (cset_nodup _) hne, ou, ov]
  exact ⟨h1, h2, rfl⟩
theorem pairs_17 {N m0 i : Nat} {c q : D} {a b : Int} (hP : (qP q).length ≤ 8) (ha : 0 ≤ a ∧ a ≤ 15) (hb : 0 ≤ b ∧ b ≤ 15) (hd : andI .i64 a b = 0) (hi : i < (pairsL q a b).length) : ∀ (n k m : Nat), k ≤ (ordI q).length → (ordI q).length - k < n → m ≤ k →
    m + ((ordI q).drop k).countP (fun z => z == intD (fieldD ((pairsL q a b).getD i .nil) 0) || z == intD (fieldD ((pairsL q a b).getD i .nil) 1)) = 2 →
    t5_lp17 Try.prog Try.f5 N n c q a b (i : Int) m0 (m : Int) (k : Int) = t5_lp11 Try.prog Try.f5 N m0 c q a b (IntKind.wrap .i64 ((i : Int) + 1))
  | 0, k, m, _, h, _, _ => by omega
  | n + 1, k, m, hk, h, hmk, hs => by
    have hol := ord_len q
    have hmem : (pairsL q a b).getD i .nil ∈ pairsL q a b := by rw [l_get hi]; exact List.getElem_mem hi
    obtain ⟨g1, g2, _⟩ := pair_fine ha hb hmem
    rw [t5_lp17_step, orders_len]
    by_cases hlt : k < (ordI q).length
    · have e1 : intD ((ordersL q).getD k .nil) = (ordI q)[k] := by
        rw [orders_eq, l_get (by simpa using hlt), List.getElem_map]
        rfl
      have hw : IntKind.wrap .i64 ((m : Int) + 1) = ((m + 1 : Nat) : Int) := by rw [l_wrapI (l_in (by omega) (by omega))]; rfl
      rw [List.drop_eq_getElem_cons hlt, List.countP_cons] at hs
      rw [l_idx hlt, l_lt hlt, cond_true, cond_true, l_idx hi, cond_true, cond_true, cond_true, Int.toNat_natCast, Int.toNat_natCast, e1, hw, l_wrap (by unfold maxLen; omega) hlt]
      cases h1 : ((ordI q)[k] == intD (fieldD ((pairsL q a b).getD i .nil) 0)) with
      | true =>
        rw [show (true == false) = false from rfl, cond_false]
        rw [h1] at hs
        exact pairs_17 hP ha hb hd hi n (k + 1) (m + 1) (by omega) (by omega) (by omega) (by simp only [Bool.true_or, if_true] at hs; omega)
      | false =>
        rw [beq_self_eq_true, cond_true]
        rw [h1, Bool.false_or] at hs
        cases h2 : ((ordI q)[k] == intD (fieldD ((pairsL q a b).getD i .nil) 1)) with
        | true =>
          rw [cond_true]
          rw [h2] at hs
          exact pairs_17 hP ha hb hd hi n (k + 1) (m + 1) (by omega) (by omega) (by omega) (by simp only [if_true] at hs; omega)
        | false =>
          rw [cond_false]
          rw [h2] at hs
          exact pairs_17 hP ha hb hd hi n (k + 1) m (by omega) (by omega) (by omega) (by simp only [Bool.false_eq_true, if_false] at hs; omega)
    · rw [List.drop_of_length_le (by omega), List.countP_nil] at hs
      have hm2 : m = 2 := by omega
      subst hm2
      have hi' : i < (pairsL q b a).length := by rw [pairs_turn hd, List.length_map]; exact hi
      have ht : (pairsL q b a).getD i .nil = swapD ((pairsL q a b).getD i .nil) := by
        rw [l_get hi', l_get hi]
        simp only [pairs_turn hd, List.getElem_map]
      rw [l_ge hlt, cond_false, Int.toNat_natCast, g1, g2, l_idx hi, l_idx hi', ht]
      generalize t5_lp11 Try.prog Try.f5 N m0 c q a b (IntKind.wrap .i64 ((i : Int) + 1)) = W
      have s0 : intD (fieldD (swapD ((pairsL q a b).getD i .nil)) 0) = intD (fieldD ((pairsL q a b).getD i .nil) 1) := rfl
      have s1 : intD (fieldD (swapD ((pairsL q a b).getD i .nil)) 1) = intD (fieldD ((pairsL q a b).getD i .nil) 0) := rfl
      rw [s0, s1, beq_self_eq_true (intD (fieldD ((pairsL q a b).getD i .nil) 1)), beq_self_eq_true (intD (fieldD ((pairsL q a b).getD i .nil) 0))]
      rfl
theorem pairs_11 {N : Nat} {c q : D} {a b : Int} (hN : 30 ≤ N) (hP : (qP q).length ≤ 8) (ha : 0 ≤ a ∧ a ≤ 15) (hb : 0 ≤ b ∧ b ≤ 15) (hd : andI .i64 a b = 0) (hp : (pairsL q a b).length ≤ 8) : ∀ (n i : Nat), i ≤ (pairsL q a b).length → (pairsL q a b).length - i < n →
    t5_lp11 Try.prog Try.f5 N n c q a b (i : Int) = some (dat 4 (.lit (.bool true)))
  | 0, i, _, h => by omega
  | n + 1, i, hi, h => by
    have hol := ord_len q
    rw [t5_lp11_step]
    by_cases hlt : i < (pairsL q a b).length
    · have hmem : (pairsL q a b).getD i .nil ∈ pairsL q a b := by rw [l_get hlt]; exact List.getElem_mem hlt
      obtain ⟨_, _, g3⟩ := pair_fine ha hb hmem
      rw [l_idx hlt, l_lt hlt, cond_true, cond_true, cond_true]
      have h17 := pairs_17 (N := N) (m0 := n) (c := c) hP ha hb hd hlt N 0 0 (Nat.zero_le _) (by omega) (Nat.le_refl _) (by rw [List.drop_zero, g3])
      refine Eq.trans h17 ?_
      rw [l_wrap (by unfold maxLen; omega) hlt]
      exact pairs_11 hN hP ha hb hd hp n (i + 1) (by omega) (by omega)
    · rw [l_ge hlt, cond_false]
theorem k5 : FnOK Try.prog 5 Try.f5 := ⟨Try.func5, rfl, by kernel_rfl⟩
theorem lawPairs {n0 n1 n2 n3 : Nat} {c q x2 x3 : D} (h0 : Ty Try.prog n0 24 c) (h1 : Ty Try.prog n1 28 q) (h2 : Ty Try.prog n2 3 x2) (h3 : Ty Try.prog n3 3 x3) :
    CallOK Try.prog 5 [dat 24 c, dat 28 q, dat 3 x2, dat 3 x3] (dat 4 (.lit (.bool true))) := by
  obtain ⟨a, rfl, _⟩ := ty3' h2
  obtain ⟨b, rfl, _⟩ := ty3' h3
  refine law_ok envQA k5 ((t5 40 c q a b).trans ?_)
  cases hf : fewQ fewB c q with
  | false => rfl
  | true =>
    cases hmq : mayQ c q with
    | false => rfl
    | true =>
      by_cases a0 : a < 0
      · rw [dT a0]; rfl
      rw [dF a0]
      by_cases b0 : b < 0
      · rw [dT b0]; rfl
      rw [dF b0]
      by_cases a1 : a > 15
      · rw [dT a1]; rfl
      rw [dF a1]
      by_cases b1 : b > 15
      · rw [dT b1]; rfl
      rw [dF b1]
      by_cases e1 : andI .i64 a b = 0
      rotate_left
      · rw [show (andI .i64 a b != 0) = true from bne_iff_ne.2 e1]; rfl
      have hP := (few_len hf).1
      have hnl := new_len q a b
      have hpl : (pairsL q a b).length ≤ (newL q a b).length := by
        have := flat_le (k := 1) (newL q a b) (f := fun i => pairOf a b ((qP q).getD (intD i).toNat .nil)) fun x _ => pairOf_len _ _ _
        unfold pairsL
        omega
      have E1 : (((pairsL q a b).length : Int) != ((pairsL q b a).length : Int)) = false := by rw [pairs_turn e1, List.length_map]; simp
      obtain ⟨l, hl⟩ := ord_first q
      have ho : ordersL q = litI (-1) :: l.map litI := by rw [orders_eq, hl]; rfl
      have lp := pairs_11 (N := 40) (c := c) (q := q) (a := a) (b := b) (by omega) hP (by omega) (by omega) e1 (by omega) 40 0 (Nat.zero_le _) (by omega)
      have lp : t5_lp11 Try.prog Try.f5 40 40 c q a b 0 = _ := lp
      rw [show (andI .i64 a b != 0) = false by rw [e1]; rfl, dT (show (qP q).length ≤ 2147483647 by omega), dT (show (qP q).length ≤ 400000 by omega), E1, dF (show ¬ ((pairsL q a b).length : Int) > ((newL q a b).length : Int) by omega), lp, natEq0, ho, dT (show (0 : Int) < (((litI (-1) :: l.map litI : List D)).length : Int) by rw [List.length_cons]; omega)]
      rfl

end X
end Go.Proofs.Ytjgnknkbohlopaa

namespace Go.Proofs.Ytjgnknkbohlopaa
open Go.Ev
open Go.ChangeShapes Go.WideShapes Go.ChangeAt Go.RowKit
set_option linter.unusedVariables false

namespace queryPairsLaw

theorem own : ownKnob Try.prog.godebug = none := by kernel_rfl
theorem laidOut : laidOutB Try.prog = true := by kernel_rfl
theorem types : okTypes Try.prog [3, 25, 26, 40, 38, 22, 66, 24, 28] = true := by kernel_rfl

set_option maxRecDepth 100000 in
theorem lifted (os : Os) (started : os.Started) (H : Type) (enc : TypeId × Value → H) :
    ReturnsInHanded {} Try.checked os 5 .any (Rows.queryPairsSpec.pre6 enc Try.prog Try.f5 Rows.queryPairsRow.domain false) (Rows.queryPairsSpec.post enc Try.prog Try.f5 false true false false) := by
  refine returnsInHanded_of_change (C := Try.checked) own started (by kernel_rfl) Try.func5
    (ChangeSpec.witness6 (enc := enc) (C := Try.checked) false ⟨#[], #[.agg #[.slice none 0 0], .agg #[.slice none 0 0, .slice none 0 0, .int .i64 0, .slice none 0 0, .slice none 0 0, .int .i64 0], .int .i64 0, .int .i64 0], []⟩ 8 (by kernel_rfl) (by kernel_rfl) (by kernel_rfl) (by kernel_rfl)) ?_
  intro W base args ds gs before hval0 hW hcnd _
  have hval : ∀ (j : Nat) t v, Try.f5.params[j]? = some t → args[j]? = some v → Value.okWide Try.prog W .any base t v := hval0
  have hW' := hW
  obtain ⟨p, q, hA0, hV, rfl, hfz, hnd⟩ := hW
  have hA : DataW.TrodAll enc Try.prog W 0 (fun _ => true) true Try.f5.params.toList args.toList ds p := hA0
  rw [Try.params5] at hA hval
  obtain ⟨v0, vs0, d0, ds0, p0, q0, hargs, rfl, rfl, h0, r0⟩ := trodAll_cons hA
  obtain ⟨v1, vs1, d1, ds1, p1, q1, rfl, rfl, rfl, h1, r1⟩ := trodAll_cons r0
  obtain ⟨v2, vs2, d2, ds2, p2, q2, rfl, rfl, rfl, h2, r2⟩ := trodAll_cons r1
  obtain ⟨v3, vs3, d3, ds3, p3, q3, rfl, rfl, rfl, h3, r3⟩ := trodAll_cons r2
  obtain ⟨rfl, rfl, rfl⟩ := trodAll_nil r3
  obtain rfl : args = #[v0, v1, v2, v3] := by cases args; simp_all
  obtain ⟨rfl, rfl⟩ := trodVars_none hV
  have lt0 : ∀ x ∈ p0, x.block < W.heap.size := by obtain ⟨m, hm⟩ := h0; exact DataW.trod_lt m _ _ _ hm
  obtain ⟨n0, x0, ty0, rep0⟩ := arg_rep types (by decide) (hval 0 24 v0 rfl rfl) h0
  have lt1 : ∀ x ∈ p1, x.block < W.heap.size := by obtain ⟨m, hm⟩ := h1; exact DataW.trod_lt m _ _ _ hm
  obtain ⟨n1, x1, ty1, rep1⟩ := arg_rep types (by decide) (hval 1 28 v1 rfl rfl) h1
  have lt2 : ∀ x ∈ p2, x.block < W.heap.size := by obtain ⟨m, hm⟩ := h2; exact DataW.trod_lt m _ _ _ hm
  obtain ⟨n2, x2, ty2, rep2⟩ := arg_rep types (by decide) (hval 2 3 v2 rfl rfl) h2
  have lt3 : ∀ x ∈ p3, x.block < W.heap.size := by obtain ⟨m, hm⟩ := h3; exact DataW.trod_lt m _ _ _ hm
  obtain ⟨n3, x3, ty3, rep3⟩ := arg_rep types (by decide) (hval 3 3 v3 rfl rfl) h3
  clear hA0 hval0
  refine (calls_true Try.underlying4 (tabOn_none (by kernel_rfl) _ _) (X.lawPairs ty0 ty1 ty2 ty3) (w := W) (vs := [v0, v1, v2, v3]) ⟨⟨rfl, rep0⟩, ⟨rfl, rep1⟩, ⟨rfl, rep2⟩, ⟨rfl, rep3⟩, trivial⟩).mono fun e W' ⟨he, bel⟩ => ?_
  subst he
  exact ⟨_, rfl, _, _, _, [], _, [], hW', trodAll_mk1 (shut_bool Try.underlying4 _), (trodAll_cons_mk (Below.trod laidOut (by kernel_rfl) (of_decide_eq_true (by kernel_rfl)) h0 bel lt0) (trodAll_cons_mk (Below.trod laidOut (by kernel_rfl) (of_decide_eq_true (by kernel_rfl)) h1 bel lt1) (trodAll_cons_mk (Below.trod laidOut (by kernel_rfl) (of_decide_eq_true (by kernel_rfl)) h2 bel lt2) (trodAll_cons_mk (Below.trod laidOut (by kernel_rfl) (of_decide_eq_true (by kernel_rfl)) h3 bel lt3) trodAll_mk0)))), rfl, bel.frame _, fun h => by cases h⟩

theorem over : Rows.queryPairsRow.holds Try.pinned (OpenSpec.ofChange Rows.queryPairsSpec) :=
  OpenClaim.holds_of_wide 5 Try.f5 rfl rfl rfl rfl rfl rfl rfl ⟨rfl, rfl, rfl, rfl, rfl⟩ rfl rfl rfl rfl rfl (by kernel_rfl) Try.func5 (by kernel_rfl)
    (of_decide_eq_true (by kernel_rfl)) (by unfold Func.isWrapper; first | (rw [if_pos (by decide +kernel)]; kernel_rfl) | (rw [if_neg (by decide +kernel)]; exact ⟨rfl, rfl⟩))
    (fun os started H enc _ => lifted os started H enc)

end queryPairsLaw

/-- The statement. -/
theorem queryPairsProved : Rows.QueryPairsSaid := queryPairsLaw.over

end Go.Proofs.Ytjgnknkbohlopaa
