/- What the evaluator comes to, function by function: by the kernel. Nothing here is trusted. -/
import Derived.Test.YtbabfocagkkboaaDoorTS
namespace Go.Proofs.YtbabfocagkkboaaDoor
namespace X
open Go.Ev
set_option linter.unusedVariables false
/- roadbook/roadbookref06.part -/
def t31_h : Hints := fun _ =>  none
theorem t31 (K : Nat) (N : Nat) (x0 : List UInt8) (x1 : Int) : evFn Tryd.prog (envH (R5 K) []) t31_h N Tryd.f31 [dat 9 (.lit (.string x0)), dat 3 (.lit (.int .i64 x1))] =
  bif (((((x0).length : Nat) : Int) == 0) == false) then
    bif decide (x1 > 5) then
      some (tupA [24, 3] (.agg [.agg [.lit (.int .i64 0), .slice [] []], .lit (.int .i64 0)]))
    else bif (decide (0 ≤ (0 : Int)) && decide ((0 : Int) < (((x0).length : Nat) : Int))) then
        bif ((decide (((x0.getD (0 : Int).toNat 0).toNat : Int) ≥ 48)) == true) then
          bif (decide (0 ≤ (0 : Int)) && decide ((0 : Int) < (((x0).length : Nat) : Int))) then
            bif decide (((x0.getD (0 : Int).toNat 0).toNat : Int) ≤ 51) then
              bif (decide (0 ≤ (0 : Int)) && decide ((0 : Int) < (((x0).length : Nat) : Int))) then
                some (tupA [24, 3] (.agg [.agg [.lit (.int .i64 (IntKind.wrap .i64 ((IntKind.wrap .i64 ((x0.getD (0 : Int).toNat 0).toNat : Int)) - 48))), .slice [] []], .lit (.int .i64 1)]))
              else none
            else bif (decide (0 ≤ (0 : Int)) && decide ((0 : Int) < (((x0).length : Nat) : Int))) then
                bif (((x0.getD (0 : Int).toNat 0).toNat : Int) != 40) then
                  some (tupA [24, 3] (.agg [.agg [.lit (.int .i64 0), .slice [] []], .lit (.int .i64 0)]))
                else bif (decide (0 ≤ (1 : Int)) && decide ((1 : Int) ≤ (((x0).length : Nat) : Int)) && decide ((((x0).length : Nat) : Int) ≤ (((x0).length : Nat) : Int))) then
                    bif ((IntKind.wrap .i64 (x1 + 1)) == 6 - (K : Int)) then
                      bif (((partK K ((x0.drop ((1 : Int) : Int).toNat).take ((((x0).length : Nat) : Int) - (1 : Int)).toNat)).2 : Int) == 0) then
                        some (tupA [24, 3] (.agg [.agg [.lit (.int .i64 0), .slice [] []], .lit (.int .i64 0)]))
                      else bif (decide (0 ≤ (IntKind.wrap .i64 (1 + ((partK K ((x0.drop ((1 : Int) : Int).toNat).take ((((x0).length : Nat) : Int) - (1 : Int)).toNat)).2 : Int)))) && decide ((IntKind.wrap .i64 (1 + ((partK K ((x0.drop ((1 : Int) : Int).toNat).take ((((x0).length : Nat) : Int) - (1 : Int)).toNat)).2 : Int))) ≤ (((x0).length : Nat) : Int)) && decide ((((x0).length : Nat) : Int) ≤ (((x0).length : Nat) : Int))) then
                          bif ((IntKind.wrap .i64 (x1 + 1)) == 6 - (K : Int)) then
                            bif ((((partK K ((x0.drop ((IntKind.wrap .i64 (1 + ((partK K ((x0.drop ((1 : Int) : Int).toNat).take ((((x0).length : Nat) : Int) - (1 : Int)).toNat)).2 : Int))) : Int).toNat).take ((((x0).length : Nat) : Int) - (IntKind.wrap .i64 (1 + ((partK K ((x0.drop ((1 : Int) : Int).toNat).take ((((x0).length : Nat) : Int) - (1 : Int)).toNat)).2 : Int)))).toNat)).2 : Int) == 0) == false) then
                              bif ((decide ((IntKind.wrap .i64 ((IntKind.wrap .i64 (1 + ((partK K ((x0.drop ((1 : Int) : Int).toNat).take ((((x0).length : Nat) : Int) - (1 : Int)).toNat)).2 : Int))) + ((partK K ((x0.drop ((IntKind.wrap .i64 (1 + ((partK K ((x0.drop ((1 : Int) : Int).toNat).take ((((x0).length : Nat) : Int) - (1 : Int)).toNat)).2 : Int))) : Int).toNat).take ((((x0).length : Nat) : Int) - (IntKind.wrap .i64 (1 + ((partK K ((x0.drop ((1 : Int) : Int).toNat).take ((((x0).length : Nat) : Int) - (1 : Int)).toNat)).2 : Int)))).toNat)).2 : Int))) ≥ (((x0).length : Nat) : Int))) == false) then
                                bif (decide (0 ≤ (IntKind.wrap .i64 ((IntKind.wrap .i64 (1 + ((partK K ((x0.drop ((1 : Int) : Int).toNat).take ((((x0).length : Nat) : Int) - (1 : Int)).toNat)).2 : Int))) + ((partK K ((x0.drop ((IntKind.wrap .i64 (1 + ((partK K ((x0.drop ((1 : Int) : Int).toNat).take ((((x0).length : Nat) : Int) - (1 : Int)).toNat)).2 : Int))) : Int).toNat).take ((((x0).length : Nat) : Int) - (IntKind.wrap .i64 (1 + ((partK K ((x0.drop ((1 : Int) : Int).toNat).take ((((x0).length : Nat) : Int) - (1 : Int)).toNat)).2 : Int)))).toNat)).2 : Int)))) && decide ((IntKind.wrap .i64 ((IntKind.wrap .i64 (1 + ((partK K ((x0.drop ((1 : Int) : Int).toNat).take ((((x0).length : Nat) : Int) - (1 : Int)).toNat)).2 : Int))) + ((partK K ((x0.drop ((IntKind.wrap .i64 (1 + ((partK K ((x0.drop ((1 : Int) : Int).toNat).take ((((x0).length : Nat) : Int) - (1 : Int)).toNat)).2 : Int))) : Int).toNat).take ((((x0).length : Nat) : Int) - (IntKind.wrap .i64 (1 + ((partK K ((x0.drop ((1 : Int) : Int).toNat).take ((((x0).length : Nat) : Int) - (1 : Int)).toNat)).2 : Int)))).toNat)).2 : Int))) < (((x0).length : Nat) : Int))) then
                                  bif (((x0.getD (IntKind.wrap .i64 ((IntKind.wrap .i64 (1 + ((partK K ((x0.drop ((1 : Int) : Int).toNat).take ((((x0).length : Nat) : Int) - (1 : Int)).toNat)).2 : Int))) + ((partK K ((x0.drop ((IntKind.wrap .i64 (1 + ((partK K ((x0.drop ((1 : Int) : Int).toNat).take ((((x0).length : Nat) : Int) - (1 : Int)).toNat)).2 : Int))) : Int).toNat).take ((((x0).length : Nat) : Int) - (IntKind.wrap .i64 (1 + ((partK K ((x0.drop ((1 : Int) : Int).toNat).take ((((x0).length : Nat) : Int) - (1 : Int)).toNat)).2 : Int)))).toNat)).2 : Int)) : Int).toNat 0).toNat : Int) != 41) then
                                    some (tupA [24, 3] (.agg [.agg [.lit (.int .i64 0), .slice [] []], .lit (.int .i64 0)]))
                                  else some (tupA [24, 3] (.agg [nodeD [(partK K ((x0.drop ((1 : Int) : Int).toNat).take ((((x0).length : Nat) : Int) - (1 : Int)).toNat)).1, (partK K ((x0.drop ((IntKind.wrap .i64 (1 + ((partK K ((x0.drop ((1 : Int) : Int).toNat).take ((((x0).length : Nat) : Int) - (1 : Int)).toNat)).2 : Int))) : Int).toNat).take ((((x0).length : Nat) : Int) - (IntKind.wrap .i64 (1 + ((partK K ((x0.drop ((1 : Int) : Int).toNat).take ((((x0).length : Nat) : Int) - (1 : Int)).toNat)).2 : Int)))).toNat)).1], .lit (.int .i64 (IntKind.wrap .i64 ((IntKind.wrap .i64 (((partK K ((x0.drop ((1 : Int) : Int).toNat).take ((((x0).length : Nat) : Int) - (1 : Int)).toNat)).2 : Int) + ((partK K ((x0.drop ((IntKind.wrap .i64 (1 + ((partK K ((x0.drop ((1 : Int) : Int).toNat).take ((((x0).length : Nat) : Int) - (1 : Int)).toNat)).2 : Int))) : Int).toNat).take ((((x0).length : Nat) : Int) - (IntKind.wrap .i64 (1 + ((partK K ((x0.drop ((1 : Int) : Int).toNat).take ((((x0).length : Nat) : Int) - (1 : Int)).toNat)).2 : Int)))).toNat)).2 : Int))) + 2)))]))
                                else none
                              else some (tupA [24, 3] (.agg [.agg [.lit (.int .i64 0), .slice [] []], .lit (.int .i64 0)]))
                            else some (tupA [24, 3] (.agg [.agg [.lit (.int .i64 0), .slice [] []], .lit (.int .i64 0)]))
                          else none
                        else none
                    else none
                  else none
              else none
          else none
        else bif (decide (0 ≤ (0 : Int)) && decide ((0 : Int) < (((x0).length : Nat) : Int))) then
            bif (((x0.getD (0 : Int).toNat 0).toNat : Int) != 40) then
              some (tupA [24, 3] (.agg [.agg [.lit (.int .i64 0), .slice [] []], .lit (.int .i64 0)]))
            else bif (decide (0 ≤ (1 : Int)) && decide ((1 : Int) ≤ (((x0).length : Nat) : Int)) && decide ((((x0).length : Nat) : Int) ≤ (((x0).length : Nat) : Int))) then
                bif ((IntKind.wrap .i64 (x1 + 1)) == 6 - (K : Int)) then
                  bif (((partK K ((x0.drop ((1 : Int) : Int).toNat).take ((((x0).length : Nat) : Int) - (1 : Int)).toNat)).2 : Int) == 0) then
                    some (tupA [24, 3] (.agg [.agg [.lit (.int .i64 0), .slice [] []], .lit (.int .i64 0)]))
                  else bif (decide (0 ≤ (IntKind.wrap .i64 (1 + ((partK K ((x0.drop ((1 : Int) : Int).toNat).take ((((x0).length : Nat) : Int) - (1 : Int)).toNat)).2 : Int)))) && decide ((IntKind.wrap .i64 (1 + ((partK K ((x0.drop ((1 : Int) : Int).toNat).take ((((x0).length : Nat) : Int) - (1 : Int)).toNat)).2 : Int))) ≤ (((x0).length : Nat) : Int)) && decide ((((x0).length : Nat) : Int) ≤ (((x0).length : Nat) : Int))) then
                      bif ((IntKind.wrap .i64 (x1 + 1)) == 6 - (K : Int)) then
                        bif ((((partK K ((x0.drop ((IntKind.wrap .i64 (1 + ((partK K ((x0.drop ((1 : Int) : Int).toNat).take ((((x0).length : Nat) : Int) - (1 : Int)).toNat)).2 : Int))) : Int).toNat).take ((((x0).length : Nat) : Int) - (IntKind.wrap .i64 (1 + ((partK K ((x0.drop ((1 : Int) : Int).toNat).take ((((x0).length : Nat) : Int) - (1 : Int)).toNat)).2 : Int)))).toNat)).2 : Int) == 0) == false) then
                          bif ((decide ((IntKind.wrap .i64 ((IntKind.wrap .i64 (1 + ((partK K ((x0.drop ((1 : Int) : Int).toNat).take ((((x0).length : Nat) : Int) - (1 : Int)).toNat)).2 : Int))) + ((partK K ((x0.drop ((IntKind.wrap .i64 (1 + ((partK K ((x0.drop ((1 : Int) : Int).toNat).take ((((x0).length : Nat) : Int) - (1 : Int)).toNat)).2 : Int))) : Int).toNat).take ((((x0).length : Nat) : Int) - (IntKind.wrap .i64 (1 + ((partK K ((x0.drop ((1 : Int) : Int).toNat).take ((((x0).length : Nat) : Int) - (1 : Int)).toNat)).2 : Int)))).toNat)).2 : Int))) ≥ (((x0).length : Nat) : Int))) == false) then
                            bif (decide (0 ≤ (IntKind.wrap .i64 ((IntKind.wrap .i64 (1 + ((partK K ((x0.drop ((1 : Int) : Int).toNat).take ((((x0).length : Nat) : Int) - (1 : Int)).toNat)).2 : Int))) + ((partK K ((x0.drop ((IntKind.wrap .i64 (1 + ((partK K ((x0.drop ((1 : Int) : Int).toNat).take ((((x0).length : Nat) : Int) - (1 : Int)).toNat)).2 : Int))) : Int).toNat).take ((((x0).length : Nat) : Int) - (IntKind.wrap .i64 (1 + ((partK K ((x0.drop ((1 : Int) : Int).toNat).take ((((x0).length : Nat) : Int) - (1 : Int)).toNat)).2 : Int)))).toNat)).2 : Int)))) && decide ((IntKind.wrap .i64 ((IntKind.wrap .i64 (1 + ((partK K ((x0.drop ((1 : Int) : Int).toNat).take ((((x0).length : Nat) : Int) - (1 : Int)).toNat)).2 : Int))) + ((partK K ((x0.drop ((IntKind.wrap .i64 (1 + ((partK K ((x0.drop ((1 : Int) : Int).toNat).take ((((x0).length : Nat) : Int) - (1 : Int)).toNat)).2 : Int))) : Int).toNat).take ((((x0).length : Nat) : Int) - (IntKind.wrap .i64 (1 + ((partK K ((x0.drop ((1 : Int) : Int).toNat).take ((((x0).length : Nat) : Int) - (1 : Int)).toNat)).2 : Int)))).toNat)).2 : Int))) < (((x0).length : Nat) : Int))) then
                              bif (((x0.getD (IntKind.wrap .i64 ((IntKind.wrap .i64 (1 + ((partK K ((x0.drop ((1 : Int) : Int).toNat).take ((((x0).length : Nat) : Int) - (1 : Int)).toNat)).2 : Int))) + ((partK K ((x0.drop ((IntKind.wrap .i64 (1 + ((partK K ((x0.drop ((1 : Int) : Int).toNat).take ((((x0).length : Nat) : Int) - (1 : Int)).toNat)).2 : Int))) : Int).toNat).take ((((x0).length : Nat) : Int) - (IntKind.wrap .i64 (1 + ((partK K ((x0.drop ((1 : Int) : Int).toNat).take ((((x0).length : Nat) : Int) - (1 : Int)).toNat)).2 : Int)))).toNat)).2 : Int)) : Int).toNat 0).toNat : Int) != 41) then
                                some (tupA [24, 3] (.agg [.agg [.lit (.int .i64 0), .slice [] []], .lit (.int .i64 0)]))
                              else some (tupA [24, 3] (.agg [nodeD [(partK K ((x0.drop ((1 : Int) : Int).toNat).take ((((x0).length : Nat) : Int) - (1 : Int)).toNat)).1, (partK K ((x0.drop ((IntKind.wrap .i64 (1 + ((partK K ((x0.drop ((1 : Int) : Int).toNat).take ((((x0).length : Nat) : Int) - (1 : Int)).toNat)).2 : Int))) : Int).toNat).take ((((x0).length : Nat) : Int) - (IntKind.wrap .i64 (1 + ((partK K ((x0.drop ((1 : Int) : Int).toNat).take ((((x0).length : Nat) : Int) - (1 : Int)).toNat)).2 : Int)))).toNat)).1], .lit (.int .i64 (IntKind.wrap .i64 ((IntKind.wrap .i64 (((partK K ((x0.drop ((1 : Int) : Int).toNat).take ((((x0).length : Nat) : Int) - (1 : Int)).toNat)).2 : Int) + ((partK K ((x0.drop ((IntKind.wrap .i64 (1 + ((partK K ((x0.drop ((1 : Int) : Int).toNat).take ((((x0).length : Nat) : Int) - (1 : Int)).toNat)).2 : Int))) : Int).toNat).take ((((x0).length : Nat) : Int) - (IntKind.wrap .i64 (1 + ((partK K ((x0.drop ((1 : Int) : Int).toNat).take ((((x0).length : Nat) : Int) - (1 : Int)).toNat)).2 : Int)))).toNat)).2 : Int))) + 2)))]))
                            else none
                          else some (tupA [24, 3] (.agg [.agg [.lit (.int .i64 0), .slice [] []], .lit (.int .i64 0)]))
                        else some (tupA [24, 3] (.agg [.agg [.lit (.int .i64 0), .slice [] []], .lit (.int .i64 0)]))
                      else none
                    else none
                else none
              else none
          else none
      else none
  else some (tupA [24, 3] (.agg [.agg [.lit (.int .i64 0), .slice [] []], .lit (.int .i64 0)])) := by kernel_rfl

end X
end Go.Proofs.YtbabfocagkkboaaDoor

namespace Go.Proofs.YtbabfocagkkboaaDoor
namespace X
open Go.Ev
set_option linter.unusedVariables false
set_option linter.unusedSimpArgs false

theorem k31 : FnOK Tryd.prog 31 Tryd.f31 := ⟨Tryd.func31, rfl, by kernel_rfl⟩
theorem t31z (N : Nat) (x0 : List UInt8) : evFn Tryd.prog (envH [] []) t31_h N Tryd.f31 [dat 9 (.lit (.string x0)), dat 3 (.lit (.int .i64 6))] =
  bif (((((x0).length : Nat) : Int) == 0) == false) then some (tupA [24, 3] (.agg [.agg [.lit (.int .i64 0), .slice [] []], .lit (.int .i64 0)])) else some (tupA [24, 3] (.agg [.agg [.lit (.int .i64 0), .slice [] []], .lit (.int .i64 0)])) := by kernel_rfl
theorem c31z : ∀ args d, (e31 0).2.2.1 args = true → (e31 0).2.2.2 args = some d → CallOK Tryd.prog 31 args (mkRes Tryd.prog 43 d) :=
  ent2p k31 fun x y d hq h ⟨_, hx⟩ ⟨_, hy⟩ => by
    cases h
    obtain ⟨z, rfl, hz⟩ := ty3' hy
    obtain ⟨s, rfl, hs⟩ := ty9' hx
    rw [n9, n3]
    have hq : (z == 6 - ((0 : Nat) : Int)) = true := hq
    have : z = 6 := by have := eq_of_beq hq; omega
    subst this
    refine fn_ok hm env0 k31 ((t31z 0 s).trans ?_)
    rw [m43]
    cases (((((s).length : Nat) : Int) == 0) == false) <;> rfl
theorem int_eq0 (n : Nat) : (((n : Nat) : Int) == 0) = (n == 0) := by
  cases h : (n == 0) with
  | true => rw [eq_of_beq h]; rfl
  | false =>
    have : n ≠ 0 := by simpa using h
    rw [beq_eq_false_iff_ne]; omega
theorem int_ne (n m : Nat) : (((n : Nat) : Int) != ((m : Nat) : Int)) = (n != m) := by
  cases h : (n != m) with
  | true => rw [bne_iff_ne] at h ⊢; omega
  | false =>
    have : n = m := by simpa using h
    rw [this]; simp
theorem int_ge (n m : Nat) : decide (((n : Nat) : Int) ≥ ((m : Nat) : Int)) = decide (n ≥ m) := by
  by_cases h : n ≥ m
  · rw [decide_eq_true h, decide_eq_true_eq]; omega
  · rw [decide_eq_false h, decide_eq_false_iff_not]; omega
theorem int_ge' (n m : Nat) : decide (((n : Nat) : Int) ≤ ((m : Nat) : Int)) = decide (n ≤ m) := int_ge m n
theorem tk {s : List UInt8} {n : Nat} : (s.drop ((n : Nat) : Int).toNat).take (((s.length : Nat) : Int) - ((n : Nat) : Int)).toNat = s.drop n := by
  rw [Int.toNat_natCast]
  exact List.take_of_length_le (by rw [List.length_drop]; omega)
theorem part_le (k : Nat) (s : List UInt8) : (partK k s).2 ≤ s.length := by
  by_cases h : (partK k s).2 = 0
  · omega
  · exact (part_sound k s h).1
theorem c31 (K : Nat) (hK : K ≤ 20) (henv : EnvOK Tryd.prog (envH (R5 K) [])) : ∀ args d, (e31 (K + 1)).2.2.1 args = true → (e31 (K + 1)).2.2.2 args = some d → CallOK Tryd.prog 31 args (mkRes Tryd.prog 43 d) :=
  ent2p k31 fun x y d hq h ⟨_, hx⟩ ⟨_, hy⟩ => by
    cases h
    obtain ⟨z, rfl, hz⟩ := ty3' hy
    obtain ⟨s, rfl, hs⟩ := ty9' hx
    rw [n9, n3]
    have hq : (z == 6 - ((K + 1 : Nat) : Int)) = true := hq
    have hz' : z = 5 - (K : Int) := by have := eq_of_beq hq; omega
    have h5 : decide (z > 5) = false := by rw [decide_eq_false_iff_not]; omega
    rw [inR_iff] at hz
    have hw : IntKind.wrap .i64 (z + 1) = z + 1 := wrap_in (by rw [inR_iff]; omega)
    have hk : (z + 1 == 6 - (K : Int)) = true := by rw [beq_iff_eq]; omega
    unfold maxLen at hs
    refine fn_ok hm henv k31 ((t31 K 0 s z).trans ?_)
    rw [m43, h5, hw, hk]
    show _ = some (tupA [24, 3] (.agg [(partK (K + 1) s).1, .lit (.int .i64 ((partK (K + 1) s).2 : Int))]))
    have p1 := part_le K (s.drop 1)
    rw [List.length_drop] at p1
    have t1 : (s.drop ((1 : Int) : Int).toNat).take (((s.length : Nat) : Int) - (1 : Int)).toNat = s.drop 1 := tk (n := 1)
    rw [t1]
    by_cases h0 : s.length = 0
    · have : s = [] := List.length_eq_zero_iff.1 h0
      subst this
      rfl
    · have e0 : ((((s).length : Nat) : Int) == 0) = false := by rw [int_eq0, beq_eq_false_iff_ne]; exact h0
      have e0' : (s.length == 0) = false := by rw [beq_eq_false_iff_ne]; exact h0
      have w1 : IntKind.wrap .i64 (1 + ((partK K (s.drop 1)).2 : Int)) = ((1 + (partK K (s.drop 1)).2 : Nat) : Int) := by
        rw [wrap_in (by rw [inR_iff]; omega)]; omega
      have i0 : (decide (0 ≤ (0 : Int)) && decide ((0 : Int) < (((s).length : Nat) : Int))) = true := by
        rw [Bool.and_eq_true, decide_eq_true_eq, decide_eq_true_eq]; omega
      have i1 : (decide (0 ≤ (1 : Int)) && decide ((1 : Int) ≤ (((s).length : Nat) : Int)) && decide ((((s).length : Nat) : Int) ≤ (((s).length : Nat) : Int))) = true := by
        rw [Bool.and_eq_true, Bool.and_eq_true, decide_eq_true_eq, decide_eq_true_eq, decide_eq_true_eq]; omega
      have i2 : (decide (0 ≤ ((1 + (partK K (s.drop 1)).2 : Nat) : Int)) && decide (((1 + (partK K (s.drop 1)).2 : Nat) : Int) ≤ (((s).length : Nat) : Int)) && decide ((((s).length : Nat) : Int) ≤ (((s).length : Nat) : Int))) = true := by
        rw [Bool.and_eq_true, Bool.and_eq_true, decide_eq_true_eq, decide_eq_true_eq, decide_eq_true_eq]; omega
      have p2 := part_le K (s.drop (1 + (partK K (s.drop 1)).2))
      rw [List.length_drop] at p2
      have w2 : IntKind.wrap .i64 (((1 + (partK K (s.drop 1)).2 : Nat) : Int) + ((partK K (s.drop (1 + (partK K (s.drop 1)).2))).2 : Int)) = ((1 + (partK K (s.drop 1)).2 + (partK K (s.drop (1 + (partK K (s.drop 1)).2))).2 : Nat) : Int) := by
        rw [wrap_in (by rw [inR_iff]; omega)]; omega
      have w3 : IntKind.wrap .i64 (((partK K (s.drop 1)).2 : Int) + ((partK K (s.drop (1 + (partK K (s.drop 1)).2))).2 : Int)) = (((partK K (s.drop 1)).2 + (partK K (s.drop (1 + (partK K (s.drop 1)).2))).2 : Nat) : Int) := by
        rw [wrap_in (by rw [inR_iff]; omega)]; omega
      have w4 : decide (1 + (partK K (s.drop 1)).2 + (partK K (s.drop (1 + (partK K (s.drop 1)).2))).2 ≥ s.length) = false → IntKind.wrap .i64 ((((partK K (s.drop 1)).2 + (partK K (s.drop (1 + (partK K (s.drop 1)).2))).2 : Nat) : Int) + 2) = (((partK K (s.drop 1)).2 + (partK K (s.drop (1 + (partK K (s.drop 1)).2))).2 + 2 : Nat) : Int) := by
        intro h
        rw [decide_eq_false_iff_not] at h
        rw [wrap_in (by rw [inR_iff]; omega)]; omega
      have w5 : IntKind.wrap .i64 ((IntKind.wrap .i64 ((s.getD 0 0).toNat : Int)) - 48) = ((s.getD 0 0).toNat : Int) - 48 := by
        have := (s.getD 0 0).toNat_lt
        have h1 : IntKind.wrap .i64 ((s.getD 0 0).toNat : Int) = ((s.getD 0 0).toNat : Int) := wrap_in (by rw [inR_iff]; omega)
        rw [h1]
        exact wrap_in (by rw [inR_iff]; omega)
      have g48 : decide (((s.getD 0 0).toNat : Int) ≥ 48) = decide (48 ≤ (s.getD 0 0).toNat) := int_ge _ 48
      have g51 : decide (((s.getD 0 0).toNat : Int) ≤ 51) = decide ((s.getD 0 0).toNat ≤ 51) := int_ge' _ 51
      have g40 : (((s.getD 0 0).toNat : Int) != 40) = ((s.getD 0 0).toNat != 40) := int_ne _ 40
      rw [e0, i0, show (0 : Int).toNat = 0 from rfl, g48, g51, g40, i1, int_eq0, w1, tk, i2, int_eq0, w2, w3, w5, int_ge, Int.toNat_natCast]
      have g41 : (((s.getD (1 + (partK K (s.drop 1)).2 + (partK K (s.drop (1 + (partK K (s.drop 1)).2))).2) 0).toNat : Int) != 41) = ((s.getD (1 + (partK K (s.drop 1)).2 + (partK K (s.drop (1 + (partK K (s.drop 1)).2))).2) 0).toNat != 41) := int_ne _ 41
      rw [g41, partK_succ, e0']
      have i3 : decide (1 + (partK K (s.drop 1)).2 + (partK K (s.drop (1 + (partK K (s.drop 1)).2))).2 ≥ s.length) = false → (decide (0 ≤ ((1 + (partK K (s.drop 1)).2 + (partK K (s.drop (1 + (partK K (s.drop 1)).2))).2 : Nat) : Int)) && decide (((1 + (partK K (s.drop 1)).2 + (partK K (s.drop (1 + (partK K (s.drop 1)).2))).2 : Nat) : Int) < (((s).length : Nat) : Int))) = true := by
        intro h
        rw [decide_eq_false_iff_not] at h
        rw [Bool.and_eq_true, decide_eq_true_eq, decide_eq_true_eq]; omega
      cases b1 : decide (48 ≤ (s.getD 0 0).toNat) <;> cases b2 : decide ((s.getD 0 0).toNat ≤ 51) <;> cases b3 : ((s.getD 0 0).toNat != 40) <;> cases b4 : ((partK K (s.drop 1)).2 == 0) <;>
        cases b5 : ((partK K (s.drop (1 + (partK K (s.drop 1)).2))).2 == 0) <;> cases b6 : decide (1 + (partK K (s.drop 1)).2 + (partK K (s.drop (1 + (partK K (s.drop 1)).2))).2 ≥ s.length) <;>
        first
        | rfl
        | (rw [i3 b6, w4 b6]; cases b7 : ((s.getD (1 + (partK K (s.drop 1)).2 + (partK K (s.drop (1 + (partK K (s.drop 1)).2))).2) 0).toNat != 41) <;> rfl)
theorem envR5 : ∀ K : Nat, K ≤ 20 → EnvOK Tryd.prog (envH (R5 K) [])
  | 0, _ => envOK_cons' (envOK_cons env0 c25) c31z
  | K + 1, h => envOK_cons' (envOK_cons env0 c25) (c31 K (by omega) (envR5 K (by omega)))
def R6 : Tab := e31 5 :: e14 :: []
theorem envR6 : EnvOK Tryd.prog (envH R6 []) := envOK_cons' (envOK_cons env0 c14) (c31 4 (by omega) (envR5 4 (by omega)))
end X
end Go.Proofs.YtbabfocagkkboaaDoor

namespace Go.Proofs.YtbabfocagkkboaaDoor
namespace X
open Go.Ev
set_option linter.unusedVariables false
/- roadbook/roadbookref06.Read -/
def t12_h : Hints := fun _ =>  none
theorem t12 (N : Nat) (x0 : List UInt8) : evFn Tryd.prog (envH R6 []) t12_h N Tryd.f12 [dat 9 (.lit (.string x0))] =
  bif (1 == 6 - ((5 : Nat) : Int)) then
    bif ((((partK 5 x0).2 : Int) == 0) == false) then
      bif ((((partK 5 x0).2 : Int) != (((x0).length : Nat) : Int)) == false) then
        bif (!(mayT ((partK 5 x0).1))) then
          some (tupA [24, 4] (.agg [.agg [.lit (.int .i64 0), .slice [] []], .lit (.bool false)]))
        else some (tupA [24, 4] (.agg [(partK 5 x0).1, .lit (.bool true)]))
      else some (tupA [24, 4] (.agg [.agg [.lit (.int .i64 0), .slice [] []], .lit (.bool false)]))
    else some (tupA [24, 4] (.agg [.agg [.lit (.int .i64 0), .slice [] []], .lit (.bool false)]))
  else none := by kernel_rfl

end X
end Go.Proofs.YtbabfocagkkboaaDoor

namespace Go.Proofs.YtbabfocagkkboaaDoor
namespace X
open Go.Ev
set_option linter.unusedVariables false
set_option linter.unusedSimpArgs false

theorem k12 : FnOK Tryd.prog 12 Tryd.f12 := ⟨Tryd.func12, rfl, by kernel_rfl⟩
def e12 : FuncId × TypeId × (List AV → Bool) × (List AV → Option D) := (12, 27, yes, ent [9] (f1 fun x => some (.agg [rdTree (strD x), .lit (.bool (rdIs (strD x)))])))
theorem c12 : ∀ args d, e12.2.2.2 args = some d → CallOK Tryd.prog 12 args (mkRes Tryd.prog 27 d) :=
  ent1 k12 fun x d h ⟨_, hx⟩ => by
    cases h
    obtain ⟨s, rfl, hs⟩ := ty9' hx
    rw [n9]
    refine fn_ok hm envR6 k12 ((t12 0 s).trans ?_)
    have h1 : ((1 : Int) == 6 - ((5 : Nat) : Int)) = true := rfl
    rw [m27, h1, cond_true, int_eq0, int_ne]
    show _ = some (tupA [24, 4] (.agg [rdTree s, .lit (.bool (rdIs s))]))
    unfold rdTree rdIs
    rcases read_part s with ⟨h, hr⟩ | ⟨h, hr⟩
    · rw [hr]
      cases b1 : ((partK 5 s).2 == 0) with
      | true => rfl
      | false =>
        cases b2 : ((partK 5 s).2 != s.length) with
        | true => rfl
        | false =>
          rw [b1, b2, Bool.or_self, Bool.false_or] at h
          rw [h]
          rfl
    · rw [hr]
      rw [Bool.or_eq_false_iff, Bool.or_eq_false_iff] at h
      rw [h.1.1, h.1.2, h.2]
      rfl
def R7 : Tab := e12 :: []
theorem envR7 : EnvOK Tryd.prog (envH R7 []) := envOK_cons env0 c12
end X
end Go.Proofs.YtbabfocagkkboaaDoor

namespace Go.Proofs.YtbabfocagkkboaaDoor
namespace X
open Go.Ev
set_option linter.unusedVariables false
/- roadbook/roadbookref06.First -/
def t22_h : Hints := fun _ =>  none
theorem t22 (N : Nat) (x0 : Int) : evFn Tryd.prog (envH R7 []) t22_h N Tryd.f22 [dat 3 (.lit (.int .i64 x0))] =
  bif ((decide (x0 < 1)) == false) then
    bif decide (x0 > 4) then
      some (dat 24 (.agg [.lit (.int .i64 0), .slice [] []]))
    else bif (decide (0 ≤ (IntKind.wrap .i64 (x0 - 1))) && decide ((IntKind.wrap .i64 (x0 - 1)) < 4)) then
        some (dat 24 (rdTree (strD ([.lit (.string ([48] : List UInt8)), .lit (.string ([40, 48, 49, 41] : List UInt8)), .lit (.string ([40, 40, 48, 49, 41, 50, 41] : List UInt8)), .lit (.string ([40, 40, 40, 48, 49, 41, 50, 41, 51, 41] : List UInt8))].getD (IntKind.wrap .i64 (x0 - 1)).toNat .nil))))
      else none
  else some (dat 24 (.agg [.lit (.int .i64 0), .slice [] []])) := by kernel_rfl

end X
end Go.Proofs.YtbabfocagkkboaaDoor

namespace Go.Proofs.YtbabfocagkkboaaDoor
namespace X
open Go.Ev
set_option linter.unusedVariables false
set_option linter.unusedSimpArgs false

theorem k22 : FnOK Tryd.prog 22 Tryd.f22 := ⟨Tryd.func22, rfl, by kernel_rfl⟩
theorem t22_1 : evFn Tryd.prog (envH R7 []) t22_h 6 Tryd.f22 [dat 3 (.lit (.int .i64 1))] = some (dat 24 (firstD 1)) := by kernel_rfl
theorem t22_2 : evFn Tryd.prog (envH R7 []) t22_h 6 Tryd.f22 [dat 3 (.lit (.int .i64 2))] = some (dat 24 (firstD 2)) := by kernel_rfl
theorem t22_3 : evFn Tryd.prog (envH R7 []) t22_h 6 Tryd.f22 [dat 3 (.lit (.int .i64 3))] = some (dat 24 (firstD 3)) := by kernel_rfl
theorem t22_4 : evFn Tryd.prog (envH R7 []) t22_h 6 Tryd.f22 [dat 3 (.lit (.int .i64 4))] = some (dat 24 (firstD 4)) := by kernel_rfl
def e22 : FuncId × TypeId × (List AV → Bool) × (List AV → Option D) := (22, 24, yes, ent [3] (f1 fun x => some (firstD (intD x))))
theorem c22 : ∀ args d, e22.2.2.2 args = some d → CallOK Tryd.prog 22 args (mkRes Tryd.prog 24 d) :=
  ent1 k22 fun x d h ⟨_, hx⟩ => by
    cases h
    obtain ⟨z, rfl, hz⟩ := ty3' hx
    rw [n3]
    show CallOK Tryd.prog 22 [dat 3 (.lit (.int .i64 z))] (mkRes Tryd.prog 24 (firstD z))
    by_cases h1 : z < 1
    · refine fn_ok hm envR7 k22 ((t22 6 z).trans ?_)
      have d : decide (z < 1) = true := by simpa using h1
      rw [d, first_out (.inl h1), m24]
      rfl
    · by_cases h4 : 4 < z
      · refine fn_ok hm envR7 k22 ((t22 6 z).trans ?_)
        have d : decide (z < 1) = false := by simpa using h1
        have d4 : decide (z > 4) = true := by simpa using h4
        rw [d, d4, first_out (.inr h4), m24]
        rfl
      · have : z = 1 ∨ z = 2 ∨ z = 3 ∨ z = 4 := by omega
        rcases this with rfl | rfl | rfl | rfl
        · exact fn_ok hm envR7 k22 t22_1
        · exact fn_ok hm envR7 k22 t22_2
        · exact fn_ok hm envR7 k22 t22_3
        · exact fn_ok hm envR7 k22 t22_4
end X
end Go.Proofs.YtbabfocagkkboaaDoor
