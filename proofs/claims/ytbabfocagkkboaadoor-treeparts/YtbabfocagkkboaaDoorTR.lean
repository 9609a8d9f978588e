/- The document's own: tables. Nothing here is trusted. -/
import Derived.Test.YtbabfocagkkboaaDoorTE
import Derived.Test.YtbabfocagkkboaaDoorVTt
namespace Go.Proofs.YtbabfocagkkboaaDoor
namespace X
open Go.Ev
set_option linter.unusedVariables false
set_option linter.unusedSimpArgs false

theorem u39 : Tryd.prog.underlying 39 = some (.slice 3) := by kernel_rfl
theorem m39 (x : D) : mkRes Tryd.prog 39 x = dat 39 x := by kernel_rfl
theorem m45 (x : D) : mkRes Tryd.prog 45 x = tupA [39, 4] x := by kernel_rfl
def e20 (K : Nat) : FuncId × TypeId × (List AV → Bool) × (List AV → Option D) := (20, 4, preD (q2 fun x y => okT K x), ent [24, 24] (f2 fun x y => some (.lit (.bool (eqK K x y)))))
def R1 (K : Nat) : Tab := e20 K :: []
def e32 (K : Nat) : FuncId × TypeId × (List AV → Bool) × (List AV → Option D) := (32, 45, preD (q2 fun x y => intD y == 5 - (K : Int)), ent [24, 3] (f2 fun x y => some (.agg [.slice (lvK K x).1 [], .lit (.bool (lvK K x).2)])))
def R2 (K : Nat) : Tab := e32 K :: []
end X
end Go.Proofs.YtbabfocagkkboaaDoor

namespace Go.Proofs.YtbabfocagkkboaaDoor
namespace X
open Go.Ev
set_option linter.unusedVariables false
/- roadbook/roadbookref06.leaves -/
def t32_h : Hints := fun _ =>  none
theorem t32 (K : Nat) (N : Nat) (x0 : D) (x1 : Int) : evFn Tryd.prog (envH (R2 K) []) t32_h N Tryd.f32 [dat 24 x0, dat 3 (.lit (.int .i64 x1))] =
  bif decide (x1 > 4) then
    some (tupA [39, 4] (.agg [.slice [] [], .lit (.bool false)]))
  else bif (((elemsD (fieldD x0 1)).length : Int) == 0) then
      bif ((decide ((intD (fieldD x0 0)) ≥ 0)) == true) then
        some (tupA [39, 4] (.agg [.slice [.lit (.int .i64 (intD (fieldD x0 0)))] [], .lit (.bool (decide ((intD (fieldD x0 0)) ≤ 3)))]))
      else some (tupA [39, 4] (.agg [.slice [.lit (.int .i64 (intD (fieldD x0 0)))] [], .lit (.bool false)]))
    else bif ((((elemsD (fieldD x0 1)).length : Int) != 2) == false) then
        bif ((intD (fieldD x0 0)) != 0) then
          some (tupA [39, 4] (.agg [.slice [] [], .lit (.bool false)]))
        else bif (decide (0 ≤ (0 : Int)) && decide ((0 : Int) < ((elemsD (fieldD x0 1)).length : Int))) then
            bif ((IntKind.wrap .i64 (x1 + 1)) == 5 - (K : Int)) then
              bif (decide (0 ≤ (1 : Int)) && decide ((1 : Int) < ((elemsD (fieldD x0 1)).length : Int))) then
                bif ((IntKind.wrap .i64 (x1 + 1)) == 5 - (K : Int)) then
                  bif decide (((lvK K ((elemsD (fieldD x0 1)).getD 0 .nil)).1).length ≤ 2147483648) then
                    bif decide (((lvK K ((elemsD (fieldD x0 1)).getD 0 .nil)).1).length + ((lvK K ((elemsD (fieldD x0 1)).getD 1 .nil)).1).length ≤ 2147483648) then
                      bif (((lvK K ((elemsD (fieldD x0 1)).getD 0 .nil)).2) == true) then
                        some (tupA [39, 4] (.agg [.slice (((lvK K ((elemsD (fieldD x0 1)).getD 0 .nil)).1) ++ ((lvK K ((elemsD (fieldD x0 1)).getD 1 .nil)).1)) [], .lit (.bool ((lvK K ((elemsD (fieldD x0 1)).getD 1 .nil)).2))]))
                      else some (tupA [39, 4] (.agg [.slice (((lvK K ((elemsD (fieldD x0 1)).getD 0 .nil)).1) ++ ((lvK K ((elemsD (fieldD x0 1)).getD 1 .nil)).1)) [], .lit (.bool false)]))
                    else none
                  else none
                else none
              else none
            else none
          else none
      else some (tupA [39, 4] (.agg [.slice [] [], .lit (.bool false)])) := by kernel_rfl

end X
end Go.Proofs.YtbabfocagkkboaaDoor

namespace Go.Proofs.YtbabfocagkkboaaDoor
namespace X
open Go.Ev
set_option linter.unusedVariables false
set_option linter.unusedSimpArgs false

theorem k32 : FnOK Tryd.prog 32 Tryd.f32 := ⟨Tryd.func32, rfl, by kernel_rfl⟩
theorem t32z (N : Nat) (x0 : D) : evFn Tryd.prog (envH [] []) t32_h N Tryd.f32 [dat 24 x0, dat 3 (.lit (.int .i64 5))] = some (tupA [39, 4] (.agg [.slice [] [], .lit (.bool false)])) := by kernel_rfl
theorem c32z : ∀ args d, (e32 0).2.2.1 args = true → (e32 0).2.2.2 args = some d → CallOK Tryd.prog 32 args (mkRes Tryd.prog 45 d) :=
  ent2p k32 fun x y d hq h ⟨_, hx⟩ ⟨_, hy⟩ => by
    cases h
    obtain ⟨z, rfl, hz⟩ := ty3' hy
    rw [n24, n3]
    have hq : (z == 5 - ((0 : Nat) : Int)) = true := hq
    have : z = 5 := by have := eq_of_beq hq; omega
    subst this
    exact fn_ok hm env0 k32 (t32z 0 x)
theorem c32 (K : Nat) (hK : K ≤ 20) (henv : EnvOK Tryd.prog (envH (R2 K) [])) : ∀ args d, (e32 (K + 1)).2.2.1 args = true → (e32 (K + 1)).2.2.2 args = some d → CallOK Tryd.prog 32 args (mkRes Tryd.prog 45 d) :=
  ent2p k32 fun x y d hq h ⟨_, hx⟩ ⟨_, hy⟩ => by
    cases h
    obtain ⟨z, rfl, hz⟩ := ty3' hy
    rw [n24, n3]
    have hq : (z == 5 - ((K + 1 : Nat) : Int)) = true := hq
    have hz' : z = 4 - (K : Int) := by have := eq_of_beq hq; omega
    have h4 : decide (z > 4) = false := by rw [decide_eq_false_iff_not]; omega
    rw [inR_iff] at hz
    have hw : IntKind.wrap .i64 (z + 1) = z + 1 := wrap_in (by rw [inR_iff]; omega)
    have hk : (z + 1 == 5 - (K : Int)) = true := by rw [beq_iff_eq]; omega
    refine fn_ok hm henv k32 ((t32 K 0 x z).trans ?_)
    rw [m45, h4, cond_false, hw, hk]
    show _ = some (tupA [39, 4] (.agg [.slice (lvK (K + 1) x).1 [], .lit (.bool (lvK (K + 1) x).2)]))
    rw [lvK_succ, show elemsD (fieldD x 1) = tkids x from rfl, show intD (fieldD x 0) = tocc x from rfl]
    cases h1 : (((tkids x).length : Int) == 0) with
    | true => cases h2 : decide (tocc x ≥ 0) <;> rfl
    | false =>
      cases h3 : (((tkids x).length : Int) != 2) with
      | true => rfl
      | false =>
        obtain ⟨l0, l1⟩ := len2 h3
        rw [l0, l1]
        cases h5 : (tocc x != 0) with
        | true => rfl
        | false =>
          have q0 := lv_len K ((tkids x).getD 0 .nil)
          have q1' := lv_len K ((tkids x).getD 1 .nil)
          have hpw : 2 ^ K ≤ 2 ^ 20 := Nat.pow_le_pow_right (by omega) hK
          have d1 : decide (((lvK K ((tkids x).getD 0 .nil)).1).length ≤ 2147483648) = true := by rw [decide_eq_true_eq]; omega
          have d2 : decide (((lvK K ((tkids x).getD 0 .nil)).1).length + ((lvK K ((tkids x).getD 1 .nil)).1).length ≤ 2147483648) = true := by rw [decide_eq_true_eq]; omega
          rw [d1, d2]
          cases h6 : (lvK K ((tkids x).getD 0 .nil)).2 with
          | true => simp only [cond_true, cond_false, Bool.true_and, Bool.or_self, beq_self_eq_true, h6]
          | false => simp [h6]
theorem envR2 : ∀ K : Nat, K ≤ 20 → EnvOK Tryd.prog (envH (R2 K) [])
  | 0, _ => envOK_cons' env0 c32z
  | K + 1, h => envOK_cons' env0 (c32 K (by omega) (envR2 K (by omega)))
end X
end Go.Proofs.YtbabfocagkkboaaDoor

namespace Go.Proofs.YtbabfocagkkboaaDoor
namespace X
open Go.Ev
set_option linter.unusedVariables false
/- roadbook/roadbookref06.Leaves -/
def t29_h : Hints := fun _ =>  none
theorem t29 (N : Nat) (x0 : D) : evFn Tryd.prog (envH (R2 4) []) t29_h N Tryd.f29 [dat 24 x0] =
  bif (1 == 5 - ((4 : Nat) : Int)) then
    some (dat 39 (.slice ((lvK 4 x0).1) []))
  else none := by kernel_rfl

end X
end Go.Proofs.YtbabfocagkkboaaDoor

namespace Go.Proofs.YtbabfocagkkboaaDoor
namespace X
open Go.Ev
set_option linter.unusedVariables false
set_option linter.unusedSimpArgs false

theorem k29 : FnOK Tryd.prog 29 Tryd.f29 := ⟨Tryd.func29, rfl, by kernel_rfl⟩
def e29 : FuncId × TypeId × (List AV → Bool) × (List AV → Option D) := (29, 39, yes, ent [24] (f1 fun x => some (.slice (lvK 4 x).1 [])))
theorem c29 : ∀ args d, e29.2.2.2 args = some d → CallOK Tryd.prog 29 args (mkRes Tryd.prog 39 d) :=
  ent1 k29 fun x d h ⟨_, hx⟩ => by
    cases h
    rw [n24]
    exact fn_ok hm (envR2 4 (by omega)) k29 (t29 0 x)
def SN : Tab := e29 :: SL
theorem envSN : EnvOK Tryd.prog (envH SN []) := envOK_cons envSL c29
end X
end Go.Proofs.YtbabfocagkkboaaDoor
