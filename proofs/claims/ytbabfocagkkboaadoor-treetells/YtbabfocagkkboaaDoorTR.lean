/- The document's own: tables. Nothing here is trusted. -/
import Derived.Test.YtbabfocagkkboaaDoorTE
import Derived.Test.YtbabfocagkkboaaDoorVTt
namespace Go.Proofs.YtbabfocagkkboaaDoor
namespace X
open Go.Ev
set_option linter.unusedVariables false
set_option linter.unusedSimpArgs false

theorem u39 : Tryd.prog.underlying 39 = some (.slice 3) := by kernel_rfl
theorem m39 (x : D) : mkRes Tryd.prog 39 x = dat 39 x := by kernel_rfl
theorem m45 (x : D) : mkRes Tryd.prog 45 x = tupA [39, 4] x := by kernel_rfl
def e20 (K : Nat) : FuncId × TypeId × (List AV → Bool) × (List AV → Option D) := (20, 4, preD (q2 fun x y => okT K x), ent [24, 24] (f2 fun x y => some (.lit (.bool (eqK K x y)))))
def R1 (K : Nat) : Tab := e20 K :: []
def e32 (K : Nat) : FuncId × TypeId × (List AV → Bool) × (List AV → Option D) := (32, 45, preD (q2 fun x y => intD y == 5 - (K : Int)), ent [24, 3] (f2 fun x y => some (.agg [.slice (lvK K x).1 [], .lit (.bool (lvK K x).2)])))
def R2 (K : Nat) : Tab := e32 K :: []
end X
end Go.Proofs.YtbabfocagkkboaaDoor

namespace Go.Proofs.YtbabfocagkkboaaDoor
namespace X
open Go.Ev
set_option linter.unusedVariables false
/- roadbook/roadbookref06.Same -/
def t20_h : Hints := fun i => if i = 4 then some ([0, 1, 4, 6, 7, 8, 9, 10, 11, 12, 13, 14, 15, 16, 17, 18, 19, 20, 21, 22, 23, 24, 25, 26, 27, 28, 29, 30, 31, 32, 33, 34, 35, 36, 37, 38, 39, 40], [2, 3], []) else none
def t20_lp4 (P : Program) (fn : Func) (K : Nat) (N n : Nat) (x0 : D) (x1 : D) (v5 : Int) : Option AV := evLoop (preL t20_h (sub [1, 1, 0, 1, 0, 0] (bodyOf fn))) (evCode P (envH (R1 K) []) t20_h N (sub [1, 1, 0, 1, 0, 0] (bodyOf fn))) n ⟨[dead, dead, bxp 2 24, bxp 3 24, dead, dat 3 (.lit (.int .i64 v5)), dead, dead, dead, dead, dead, dead, dead, dead, dead, dead, dead, dead, dead, dead, dead, dead, dead, dead, dead, dead, dead, dead, dead, dead, dead, dead, dead, dead, dead, dead, dead, dead, dead, dead, dead], lookB [(2, some ⟨24, x0, 0, none⟩), (3, some ⟨24, x1, 0, none⟩)]⟩ (blockK 0 (seqC P (envH (R1 K) []) t20_h N (sub [1, 1, 1] (bodyOf fn)) (finK P fn) ))
theorem t20_lp4_step (K : Nat) (N n : Nat) (x0 : D) (x1 : D) (v5 : Int) : t20_lp4 Tryd.prog Tryd.f20 K N (n + 1) x0 x1 v5 =
  bif decide (v5 < ((elemsD (fieldD x0 1)).length : Int)) then
    bif (decide (0 ≤ v5) && decide (v5 < ((elemsD (fieldD x0 1)).length : Int))) then
      bif (decide (0 ≤ v5) && decide (v5 < ((elemsD (fieldD x1 1)).length : Int))) then
        bif okT K ((elemsD (fieldD x0 1)).getD (v5).toNat .nil) then
          bif (!(eqK K ((elemsD (fieldD x0 1)).getD (v5).toNat .nil) ((elemsD (fieldD x1 1)).getD (v5).toNat .nil))) then
            some (dat 4 (.lit (.bool false)))
          else t20_lp4 Tryd.prog Tryd.f20 K N n x0 x1 (IntKind.wrap .i64 (v5 + 1))
        else none
      else none
    else none
  else some (dat 4 (.lit (.bool true))) := by kernel_rfl
theorem t20 (K : Nat) (N : Nat) (x0 : D) (x1 : D) : evFn Tryd.prog (envH (R1 K) []) t20_h N Tryd.f20 [dat 24 x0, dat 24 x1] =
  bif (((intD (fieldD x0 0)) != (intD (fieldD x1 0))) == false) then
    bif (((elemsD (fieldD x0 1)).length : Int) != ((elemsD (fieldD x1 1)).length : Int)) then
      some (dat 4 (.lit (.bool false)))
    else t20_lp4 Tryd.prog Tryd.f20 K N N x0 x1 0
  else some (dat 4 (.lit (.bool false))) := by kernel_rfl

end X
end Go.Proofs.YtbabfocagkkboaaDoor

namespace Go.Proofs.YtbabfocagkkboaaDoor
namespace X
open Go.Ev
set_option linter.unusedVariables false
set_option linter.unusedSimpArgs false

theorem k20 : FnOK Tryd.prog 20 Tryd.f20 := ⟨Tryd.func20, rfl, by kernel_rfl⟩
theorem same_loop {K N : Nat} {x0 x1 : D} (hl : (tkids x0).length ≤ maxLen) (hlen : (tkids x0).length = (tkids x1).length) (hok : ∀ p ∈ tkids x0, okT K p = true) : ∀ (n i : Nat), i ≤ (tkids x0).length → (tkids x0).length - i < n →
    t20_lp4 Tryd.prog Tryd.f20 K N n x0 x1 (i : Int) = some (dat 4 (.lit (.bool (eq2 (eqK K) ((tkids x0).drop i) ((tkids x1).drop i)))))
  | 0, i, _, h => by omega
  | n + 1, i, hi, h => by
    rw [t20_lp4_step, show elemsD (fieldD x0 1) = tkids x0 from rfl, show elemsD (fieldD x1 1) = tkids x1 from rfl]
    by_cases hlt : i < (tkids x0).length
    · have hlt1 : i < (tkids x1).length := by omega
      have h1 : decide ((i : Int) < ((tkids x0).length : Int)) = true := by simpa using hlt
      rw [idx_ok hlt, idx_ok hlt1, h1, cond_true, cond_true, cond_true, Int.toNat_natCast, getD_lt hlt, getD_lt hlt1, hok _ (List.getElem_mem hlt), cond_true, List.drop_eq_getElem_cons hlt, List.drop_eq_getElem_cons hlt1, eq2_cons]
      cases hb : eqK K (tkids x0)[i] (tkids x1)[i] with
      | false => rfl
      | true =>
        rw [Bool.not_true, cond_false, Bool.true_and, wrap_step hl hlt]
        exact same_loop hl hlen hok n (i + 1) (by omega) (by omega)
    · have h1 : decide ((i : Int) < ((tkids x0).length : Int)) = false := by simpa using hlt
      have h4 : (tkids x0).drop i = [] := List.drop_of_length_le (by omega)
      have h5 : (tkids x1).drop i = [] := List.drop_of_length_le (by omega)
      rw [h1, h4, h5, cond_false]
      rfl
theorem c20 (K : Nat) (henv : EnvOK Tryd.prog (envH (R1 K) [])) : ∀ args d, (e20 (K + 1)).2.2.1 args = true → (e20 (K + 1)).2.2.2 args = some d → CallOK Tryd.prog 20 args (mkRes Tryd.prog 4 d) :=
  ent2p k20 fun x y d hq h ⟨_, hx⟩ ⟨_, hy⟩ => by
    cases h
    rw [n24, n24]
    have hq : okT (K + 1) x = true := hq
    rw [okT_succ, List.all_eq_true] at hq
    obtain ⟨hl, _⟩ := ty_len hx
    refine fn_ok hm henv k20 ((t20 K ((tkids x).length + 1) x y).trans ?_)
    rw [m4, show elemsD (fieldD x 1) = tkids x from rfl, show elemsD (fieldD y 1) = tkids y from rfl, show intD (fieldD x 0) = tocc x from rfl, show intD (fieldD y 0) = tocc y from rfl]
    show _ = some (dat 4 (.lit (.bool (eqK (K + 1) x y))))
    rw [eqK_succ]
    cases ho : (tocc x == tocc y) with
    | false =>
      have : (tocc x != tocc y) = true := by unfold bne; rw [ho]; rfl
      rw [this]
      rfl
    | true =>
      have : (tocc x != tocc y) = false := by unfold bne; rw [ho]; rfl
      rw [this, Bool.true_and]
      by_cases he : (tkids x).length = (tkids y).length
      · have : (((tkids x).length : Int) != ((tkids y).length : Int)) = false := by rw [he]; simp
        have hlp := same_loop (K := K) (N := (tkids x).length + 1) hl he hq ((tkids x).length + 1) 0 (Nat.zero_le _) (by omega)
        rw [List.drop_zero, List.drop_zero] at hlp
        rw [this, show (false == false) = true from rfl, cond_true, cond_false]
        exact hlp
      · have : (((tkids x).length : Int) != ((tkids y).length : Int)) = true := by rw [bne_iff_ne]; omega
        have hne : eq2 (eqK K) (tkids x) (tkids y) = false := by
          cases h : eq2 (eqK K) (tkids x) (tkids y) with
          | false => rfl
          | true => exact absurd (eq2_len h) he
        rw [this, hne]
        rfl
theorem envR1 : ∀ K : Nat, EnvOK Tryd.prog (envH (R1 K) [])
  | 0 => envOK_cons' env0 (fun args d hp hd => by
      exfalso
      have hp : q2 (fun x y => okT 0 x) (args.map (·.d)) = true := hp
      unfold q2 at hp
      split at hp
      · simp [okT] at hp
      · cases hp)
  | K + 1 => envOK_cons' env0 (c20 K (envR1 K))
def SM : Tab := e20 130 :: SL
theorem envSM : EnvOK Tryd.prog (envH SM []) := envOK_cons' envSL (c20 129 (envR1 129))
end X
end Go.Proofs.YtbabfocagkkboaaDoor

namespace Go.Proofs.YtbabfocagkkboaaDoor
namespace X
open Go.Ev
set_option linter.unusedVariables false
/- roadbook/roadbookref06.leaves -/
def t32_h : Hints := fun _ =>  none
theorem t32 (K : Nat) (N : Nat) (x0 : D) (x1 : Int) : evFn Tryd.prog (envH (R2 K) []) t32_h N Tryd.f32 [dat 24 x0, dat 3 (.lit (.int .i64 x1))] =
  bif decide (x1 > 4) then
    some (tupA [39, 4] (.agg [.slice [] [], .lit (.bool false)]))
  else bif (((elemsD (fieldD x0 1)).length : Int) == 0) then
      bif ((decide ((intD (fieldD x0 0)) ≥ 0)) == true) then
        some (tupA [39, 4] (.agg [.slice [.lit (.int .i64 (intD (fieldD x0 0)))] [], .lit (.bool (decide ((intD (fieldD x0 0)) ≤ 3)))]))
      else some (tupA [39, 4] (.agg [.slice [.lit (.int .i64 (intD (fieldD x0 0)))] [], .lit (.bool false)]))
    else bif ((((elemsD (fieldD x0 1)).length : Int) != 2) == false) then
        bif ((intD (fieldD x0 0)) != 0) then
          some (tupA [39, 4] (.agg [.slice [] [], .lit (.bool false)]))
        else bif (decide (0 ≤ (0 : Int)) && decide ((0 : Int) < ((elemsD (fieldD x0 1)).length : Int))) then
            bif ((IntKind.wrap .i64 (x1 + 1)) == 5 - (K : Int)) then
              bif (decide (0 ≤ (1 : Int)) && decide ((1 : Int) < ((elemsD (fieldD x0 1)).length : Int))) then
                bif ((IntKind.wrap .i64 (x1 + 1)) == 5 - (K : Int)) then
                  bif decide (((lvK K ((elemsD (fieldD x0 1)).getD 0 .nil)).1).length ≤ 2147483648) then
                    bif decide (((lvK K ((elemsD (fieldD x0 1)).getD 0 .nil)).1).length + ((lvK K ((elemsD (fieldD x0 1)).getD 1 .nil)).1).length ≤ 2147483648) then
                      bif (((lvK K ((elemsD (fieldD x0 1)).getD 0 .nil)).2) == true) then
                        some (tupA [39, 4] (.agg [.slice (((lvK K ((elemsD (fieldD x0 1)).getD 0 .nil)).1) ++ ((lvK K ((elemsD (fieldD x0 1)).getD 1 .nil)).1)) [], .lit (.bool ((lvK K ((elemsD (fieldD x0 1)).getD 1 .nil)).2))]))
                      else some (tupA [39, 4] (.agg [.slice (((lvK K ((elemsD (fieldD x0 1)).getD 0 .nil)).1) ++ ((lvK K ((elemsD (fieldD x0 1)).getD 1 .nil)).1)) [], .lit (.bool false)]))
                    else none
                  else none
                else none
              else none
            else none
          else none
      else some (tupA [39, 4] (.agg [.slice [] [], .lit (.bool false)])) := by kernel_rfl

end X
end Go.Proofs.YtbabfocagkkboaaDoor

namespace Go.Proofs.YtbabfocagkkboaaDoor
namespace X
open Go.Ev
set_option linter.unusedVariables false
set_option linter.unusedSimpArgs false

theorem k32 : FnOK Tryd.prog 32 Tryd.f32 := ⟨Tryd.func32, rfl, by kernel_rfl⟩
theorem t32z (N : Nat) (x0 : D) : evFn Tryd.prog (envH [] []) t32_h N Tryd.f32 [dat 24 x0, dat 3 (.lit (.int .i64 5))] = some (tupA [39, 4] (.agg [.slice [] [], .lit (.bool false)])) := by kernel_rfl
theorem c32z : ∀ args d, (e32 0).2.2.1 args = true → (e32 0).2.2.2 args = some d → CallOK Tryd.prog 32 args (mkRes Tryd.prog 45 d) :=
  ent2p k32 fun x y d hq h ⟨_, hx⟩ ⟨_, hy⟩ => by
    cases h
    obtain ⟨z, rfl, hz⟩ := ty3' hy
    rw [n24, n3]
    have hq : (z == 5 - ((0 : Nat) : Int)) = true := hq
    have : z = 5 := by have := eq_of_beq hq; omega
    subst this
    exact fn_ok hm env0 k32 (t32z 0 x)
theorem c32 (K : Nat) (hK : K ≤ 20) (henv : EnvOK Tryd.prog (envH (R2 K) [])) : ∀ args d, (e32 (K + 1)).2.2.1 args = true → (e32 (K + 1)).2.2.2 args = some d → CallOK Tryd.prog 32 args (mkRes Tryd.prog 45 d) :=
  ent2p k32 fun x y d hq h ⟨_, hx⟩ ⟨_, hy⟩ => by
    cases h
    obtain ⟨z, rfl, hz⟩ := ty3' hy
    rw [n24, n3]
    have hq : (z == 5 - ((K + 1 : Nat) : Int)) = true := hq
    have hz' : z = 4 - (K : Int) := by have := eq_of_beq hq; omega
    have h4 : decide (z > 4) = false := by rw [decide_eq_false_iff_not]; omega
    rw [inR_iff] at hz
    have hw : IntKind.wrap .i64 (z + 1) = z + 1 := wrap_in (by rw [inR_iff]; omega)
    have hk : (z + 1 == 5 - (K : Int)) = true := by rw [beq_iff_eq]; omega
    refine fn_ok hm henv k32 ((t32 K 0 x z).trans ?_)
    rw [m45, h4, cond_false, hw, hk]
    show _ = some (tupA [39, 4] (.agg [.slice (lvK (K + 1) x).1 [], .lit (.bool (lvK (K + 1) x).2)]))
    rw [lvK_succ, show elemsD (fieldD x 1) = tkids x from rfl, show intD (fieldD x 0) = tocc x from rfl]
    cases h1 : (((tkids x).length : Int) == 0) with
    | true => cases h2 : decide (tocc x ≥ 0) <;> rfl
    | false =>
      cases h3 : (((tkids x).length : Int) != 2) with
      | true => rfl
      | false =>
        obtain ⟨l0, l1⟩ := len2 h3
        rw [l0, l1]
        cases h5 : (tocc x != 0) with
        | true => rfl
        | false =>
          have q0 := lv_len K ((tkids x).getD 0 .nil)
          have q1' := lv_len K ((tkids x).getD 1 .nil)
          have hpw : 2 ^ K ≤ 2 ^ 20 := Nat.pow_le_pow_right (by omega) hK
          have d1 : decide (((lvK K ((tkids x).getD 0 .nil)).1).length ≤ 2147483648) = true := by rw [decide_eq_true_eq]; omega
          have d2 : decide (((lvK K ((tkids x).getD 0 .nil)).1).length + ((lvK K ((tkids x).getD 1 .nil)).1).length ≤ 2147483648) = true := by rw [decide_eq_true_eq]; omega
          rw [d1, d2]
          cases h6 : (lvK K ((tkids x).getD 0 .nil)).2 with
          | true => simp only [cond_true, cond_false, Bool.true_and, Bool.or_self, beq_self_eq_true, h6]
          | false => simp [h6]
theorem envR2 : ∀ K : Nat, K ≤ 20 → EnvOK Tryd.prog (envH (R2 K) [])
  | 0, _ => envOK_cons' env0 c32z
  | K + 1, h => envOK_cons' env0 (c32 K (by omega) (envR2 K (by omega)))
end X
end Go.Proofs.YtbabfocagkkboaaDoor

namespace Go.Proofs.YtbabfocagkkboaaDoor
namespace X
open Go.Ev
set_option linter.unusedVariables false
/- roadbook/roadbookref06.Leaves -/
def t29_h : Hints := fun _ =>  none
theorem t29 (N : Nat) (x0 : D) : evFn Tryd.prog (envH (R2 4) []) t29_h N Tryd.f29 [dat 24 x0] =
  bif (1 == 5 - ((4 : Nat) : Int)) then
    some (dat 39 (.slice ((lvK 4 x0).1) []))
  else none := by kernel_rfl

end X
end Go.Proofs.YtbabfocagkkboaaDoor

namespace Go.Proofs.YtbabfocagkkboaaDoor
namespace X
open Go.Ev
set_option linter.unusedVariables false
set_option linter.unusedSimpArgs false

theorem k29 : FnOK Tryd.prog 29 Tryd.f29 := ⟨Tryd.func29, rfl, by kernel_rfl⟩
def e29 : FuncId × TypeId × (List AV → Bool) × (List AV → Option D) := (29, 39, yes, ent [24] (f1 fun x => some (.slice (lvK 4 x).1 [])))
theorem c29 : ∀ args d, e29.2.2.2 args = some d → CallOK Tryd.prog 29 args (mkRes Tryd.prog 39 d) :=
  ent1 k29 fun x d h ⟨_, hx⟩ => by
    cases h
    rw [n24]
    exact fn_ok hm (envR2 4 (by omega)) k29 (t29 0 x)
def SN : Tab := e29 :: SL
theorem envSN : EnvOK Tryd.prog (envH SN []) := envOK_cons envSL c29
end X
end Go.Proofs.YtbabfocagkkboaaDoor
