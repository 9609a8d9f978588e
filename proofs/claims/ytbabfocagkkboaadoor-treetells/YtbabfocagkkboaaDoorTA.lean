/- What the evaluator comes to, function by function: by the kernel. Nothing here is trusted. -/
import Derived.Test.YtbabfocagkkboaaDoorRows
import Derived.Test.YtbabfocagkkboaaDoorVTr
import Derived.Test.YtbabfocagkkboaaDoorVDl
namespace Go.Proofs.YtbabfocagkkboaaDoor
namespace X
open Go.Ev
set_option linter.unusedVariables false
/- roadbook/tree.isOccurrence -/
def t30_h : Hints := fun _ =>  none
theorem t30 (N : Nat) (x0 : Int) : evFn Tryd.prog (envH [] []) t30_h N Tryd.f30 [dat 3 (.lit (.int .i64 x0))] =
  bif ((decide (x0 ≥ 0)) == true) then
    some (dat 4 (.lit (.bool (decide (x0 < 4)))))
  else some (dat 4 (.lit (.bool false))) := by kernel_rfl

/- roadbook/tree.Leaf -/
def t23_h : Hints := fun _ =>  none
theorem t23 (N : Nat) (x0 : Int) : evFn Tryd.prog (envH [] []) t23_h N Tryd.f23 [dat 3 (.lit (.int .i64 x0))] =
  some (dat 24 (.agg [.lit (.int .i64 x0), .slice [] []])) := by kernel_rfl

/- internal/strconv.small -/
def t51_h : Hints := fun _ =>  none
theorem t51 (N : Nat) (x0 : Int) : evFn Tryd.prog (envH [] []) t51_h N Tryd.f51 [dat 2 (.lit (.int .i64 x0))] =
  bif decide (x0 < 10) then
    bif (decide (0 ≤ x0) && decide (x0 ≤ (IntKind.wrap .i64 (x0 + 1))) && decide ((IntKind.wrap .i64 (x0 + 1)) ≤ (((([48, 49, 50, 51, 52, 53, 54, 55, 56, 57, 97, 98, 99, 100, 101, 102, 103, 104, 105, 106, 107, 108, 109, 110, 111, 112, 113, 114, 115, 116, 117, 118, 119, 120, 121, 122] : List UInt8)).length : Nat) : Int))) then
      some (dat 9 (.lit (.string ((([48, 49, 50, 51, 52, 53, 54, 55, 56, 57, 97, 98, 99, 100, 101, 102, 103, 104, 105, 106, 107, 108, 109, 110, 111, 112, 113, 114, 115, 116, 117, 118, 119, 120, 121, 122] : List UInt8).drop (x0 : Int).toNat).take ((IntKind.wrap .i64 (x0 + 1)) - x0).toNat))))
    else none
  else bif (decide (0 ≤ (IntKind.wrap .i64 (x0 * 2))) && decide ((IntKind.wrap .i64 (x0 * 2)) ≤ (IntKind.wrap .i64 ((IntKind.wrap .i64 (x0 * 2)) + 2))) && decide ((IntKind.wrap .i64 ((IntKind.wrap .i64 (x0 * 2)) + 2)) ≤ (((([48, 48, 48, 49, 48, 50, 48, 51, 48, 52, 48, 53, 48, 54, 48, 55, 48, 56, 48, 57, 49, 48, 49, 49, 49, 50, 49, 51, 49, 52, 49, 53, 49, 54, 49, 55, 49, 56, 49, 57, 50, 48, 50, 49, 50, 50, 50, 51, 50, 52, 50, 53, 50, 54, 50, 55, 50, 56, 50, 57, 51, 48, 51, 49, 51, 50, 51, 51, 51, 52, 51, 53, 51, 54, 51, 55, 51, 56, 51, 57, 52, 48, 52, 49, 52, 50, 52, 51, 52, 52, 52, 53, 52, 54, 52, 55, 52, 56, 52, 57, 53, 48, 53, 49, 53, 50, 53, 51, 53, 52, 53, 53, 53, 54, 53, 55, 53, 56, 53, 57, 54, 48, 54, 49, 54, 50, 54, 51, 54, 52, 54, 53, 54, 54, 54, 55, 54, 56, 54, 57, 55, 48, 55, 49, 55, 50, 55, 51, 55, 52, 55, 53, 55, 54, 55, 55, 55, 56, 55, 57, 56, 48, 56, 49, 56, 50, 56, 51, 56, 52, 56, 53, 56, 54, 56, 55, 56, 56, 56, 57, 57, 48, 57, 49, 57, 50, 57, 51, 57, 52, 57, 53, 57, 54, 57, 55, 57, 56, 57, 57] : List UInt8)).length : Nat) : Int))) then
      some (dat 9 (.lit (.string ((([48, 48, 48, 49, 48, 50, 48, 51, 48, 52, 48, 53, 48, 54, 48, 55, 48, 56, 48, 57, 49, 48, 49, 49, 49, 50, 49, 51, 49, 52, 49, 53, 49, 54, 49, 55, 49, 56, 49, 57, 50, 48, 50, 49, 50, 50, 50, 51, 50, 52, 50, 53, 50, 54, 50, 55, 50, 56, 50, 57, 51, 48, 51, 49, 51, 50, 51, 51, 51, 52, 51, 53, 51, 54, 51, 55, 51, 56, 51, 57, 52, 48, 52, 49, 52, 50, 52, 51, 52, 52, 52, 53, 52, 54, 52, 55, 52, 56, 52, 57, 53, 48, 53, 49, 53, 50, 53, 51, 53, 52, 53, 53, 53, 54, 53, 55, 53, 56, 53, 57, 54, 48, 54, 49, 54, 50, 54, 51, 54, 52, 54, 53, 54, 54, 54, 55, 54, 56, 54, 57, 55, 48, 55, 49, 55, 50, 55, 51, 55, 52, 55, 53, 55, 54, 55, 55, 55, 56, 55, 57, 56, 48, 56, 49, 56, 50, 56, 51, 56, 52, 56, 53, 56, 54, 56, 55, 56, 56, 56, 57, 57, 48, 57, 49, 57, 50, 57, 51, 57, 52, 57, 53, 57, 54, 57, 55, 57, 56, 57, 57] : List UInt8).drop ((IntKind.wrap .i64 (x0 * 2)) : Int).toNat).take ((IntKind.wrap .i64 ((IntKind.wrap .i64 (x0 * 2)) + 2)) - (IntKind.wrap .i64 (x0 * 2))).toNat))))
    else none := by kernel_rfl

end X
end Go.Proofs.YtbabfocagkkboaaDoor

namespace Go.Proofs.YtbabfocagkkboaaDoor
namespace X
open Go.Ev
set_option linter.unusedVariables false
set_option linter.unusedSimpArgs false

theorem hm : Tryd.prog.follows .mixedOrders = true := by kernel_rfl
theorem n2 (x : D) : normD Tryd.prog 2 x = .lit (.int .i64 (intD x)) := by kernel_rfl
theorem n3 (x : D) : normD Tryd.prog 3 x = .lit (.int .i64 (intD x)) := by kernel_rfl
theorem n9 (x : D) : normD Tryd.prog 9 x = x := by kernel_rfl
theorem n22 (x : D) : normD Tryd.prog 22 x = x := by kernel_rfl
theorem n24 (x : D) : normD Tryd.prog 24 x = x := by kernel_rfl
theorem n53 (x : D) : normD Tryd.prog 53 x = .lit (.int .u64 (intD x)) := by kernel_rfl
theorem m3 (x : D) : mkRes Tryd.prog 3 x = dat 3 (.lit (.int .i64 (intD x))) := by kernel_rfl
theorem m4 (x : D) : mkRes Tryd.prog 4 x = dat 4 (.lit (.bool (boolD x))) := by kernel_rfl
theorem m9 (x : D) : mkRes Tryd.prog 9 x = dat 9 x := by kernel_rfl
theorem m22 (x : D) : mkRes Tryd.prog 22 x = dat 22 x := by kernel_rfl
theorem m24 (x : D) : mkRes Tryd.prog 24 x = dat 24 x := by kernel_rfl
theorem m27 (x : D) : mkRes Tryd.prog 27 x = tupA [24, 4] x := by kernel_rfl
theorem u2 : Tryd.prog.underlying 2 = some (.int .i64) := by kernel_rfl
theorem u3 : Tryd.prog.underlying 3 = some (.int .i64) := by kernel_rfl
theorem u53 : Tryd.prog.underlying 53 = some (.int .u64) := by kernel_rfl
theorem u9 : Tryd.prog.underlying 9 = some .string := by kernel_rfl
theorem u22 : Tryd.prog.underlying 22 = some (.slice 24) := by kernel_rfl
theorem u24 : ∃ f g : Field, Tryd.prog.underlying 24 = some (.struct #[f, g]) ∧ f.type = 3 ∧ g.type = 22 := ⟨_, _, Tryd.underlying24, rfl, rfl⟩

theorem ty_int {t : TypeId} {k : IntKind} (hu : Tryd.prog.underlying t = some (.int k)) {n : Nat} {x : D} (h : Ty Tryd.prog n t x) : ∃ z, x = .lit (.int k z) ∧ (Lit.int k z).wf = true := by
  cases n with
  | zero => exact h.elim
  | succ n =>
    unfold Ty at h
    rw [hu] at h
    split at h <;> try (exact h.elim)
    all_goals simp_all
theorem ty3' {n : Nat} {x : D} (h : Ty Tryd.prog n 3 x) : ∃ z, x = .lit (.int .i64 z) ∧ inR z = true := by
  obtain ⟨z, h1, h2⟩ := ty_int u3 h
  exact ⟨z, h1, wf_inR h2⟩
theorem ty2' {n : Nat} {x : D} (h : Ty Tryd.prog n 2 x) : ∃ z, x = .lit (.int .i64 z) ∧ inR z = true := by
  obtain ⟨z, h1, h2⟩ := ty_int u2 h
  exact ⟨z, h1, wf_inR h2⟩
theorem ty9' {n : Nat} {x : D} (h : Ty Tryd.prog n 9 x) : ∃ s, x = .lit (.string s) ∧ s.length ≤ maxLen := by
  cases n with
  | zero => exact h.elim
  | succ n =>
    unfold Ty at h
    rw [u9] at h
    split at h <;> try (exact h.elim)
    all_goals simp_all
theorem ty24 {n : Nat} {x : D} (h : Ty Tryd.prog n 24 x) : ∃ z ks, x = .agg [.lit (.int .i64 z), .slice ks []] ∧ inR z = true ∧ ks.length ≤ maxLen ∧ ∀ y ∈ ks, ∃ m, Ty Tryd.prog m 24 y := by
  obtain ⟨f, g, hu, hf, hg⟩ := u24
  obtain ⟨m, a, b, rfl, h1, h2⟩ := ty_struct2 h hu
  rw [hf] at h1
  rw [hg] at h2
  obtain ⟨z, rfl, hz⟩ := ty3' h1
  obtain ⟨m2, ks, rfl, hl, hp⟩ := ty_slice h2 u22
  exact ⟨z, ks, rfl, hz, hl, fun y hy => ⟨m2, hp y hy⟩⟩
theorem ty22 {n : Nat} {x : D} (h : Ty Tryd.prog n 22 x) : ∃ ks, x = .slice ks [] ∧ ks.length ≤ maxLen ∧ ∀ y ∈ ks, ∃ m, Ty Tryd.prog m 24 y := by
  obtain ⟨m2, ks, rfl, hl, hp⟩ := ty_slice h u22
  exact ⟨ks, rfl, hl, fun y hy => ⟨m2, hp y hy⟩⟩
theorem ty_len {n : Nat} {x : D} (h : Ty Tryd.prog n 24 x) : (tkids x).length ≤ maxLen ∧ inR (tocc x) = true := by
  obtain ⟨z, ks, rfl, hz, hl, _⟩ := ty24 h
  exact ⟨hl, hz⟩
/-- Such a tree is of the form that trees are of. -/
theorem ty_cano : ∀ {k n : Nat} {x : D}, Ty Tryd.prog n 24 x → okT k x = true → cano k x
  | 0, n, x, _, h => by cases h
  | k + 1, n, x, ht, h => by
    obtain ⟨z, ks, rfl, _, _, hp⟩ := ty24 ht
    refine ⟨z, ks, rfl, fun y hy => ?_⟩
    obtain ⟨m, hm⟩ := hp y hy
    have h : (tkids (.agg [.lit (.int .i64 z), .slice ks []])).all (okT k) = true := h
    rw [List.all_eq_true] at h
    exact ty_cano hm (h y hy)

theorem k30 : FnOK Tryd.prog 30 Tryd.f30 := ⟨Tryd.func30, rfl, by kernel_rfl⟩
theorem k23 : FnOK Tryd.prog 23 Tryd.f23 := ⟨Tryd.func23, rfl, by kernel_rfl⟩
theorem k51 : FnOK Tryd.prog 51 Tryd.f51 := ⟨Tryd.func51, rfl, by kernel_rfl⟩
theorem env0 : EnvOK Tryd.prog (envH [] []) := envOK_nil
def e30 : FuncId × TypeId × (List AV → Bool) × (List AV → Option D) := (30, 4, yes, ent [3] (f1 fun x => some (.lit (.bool (isOccB (intD x))))))
def e23 : FuncId × TypeId × (List AV → Bool) × (List AV → Option D) := (23, 24, yes, ent [3] (f1 fun x => some (leafD (intD x))))
def e51 : FuncId × TypeId × (List AV → Bool) × (List AV → Option D) := (51, 9, preD (q1 fun x => decide (0 ≤ intD x) && decide (intD x < 10)), ent [2] (f1 fun x => some (.lit (.string (digitL (intD x))))))
theorem c30 : ∀ args d, e30.2.2.2 args = some d → CallOK Tryd.prog 30 args (mkRes Tryd.prog 4 d) :=
  ent1 k30 fun x d h ⟨_, hx⟩ => by
    cases h
    obtain ⟨z, rfl, hz⟩ := ty3' hx
    rw [n3]
    refine fn_ok hm env0 k30 ((t30 0 z).trans ?_)
    rw [m4]
    show _ = some (dat 4 (.lit (.bool (decide (z ≥ 0) && decide (z < 4)))))
    cases decide (z ≥ 0) <;> rfl
theorem c23 : ∀ args d, e23.2.2.2 args = some d → CallOK Tryd.prog 23 args (mkRes Tryd.prog 24 d) :=
  ent1 k23 fun x d h ⟨_, hx⟩ => by
    cases h
    obtain ⟨z, rfl, hz⟩ := ty3' hx
    rw [n3]
    exact fn_ok hm env0 k23 (t23 0 z)
theorem digit_cut {z : Int} (h0 : 0 ≤ z) (h1 : z < 10) : (([48, 49, 50, 51, 52, 53, 54, 55, 56, 57, 97, 98, 99, 100, 101, 102, 103, 104, 105, 106, 107, 108, 109, 110, 111, 112, 113, 114, 115, 116, 117, 118, 119, 120, 121, 122] : List UInt8).drop z.toNat).take 1 = digitL z := by
  obtain ⟨n, rfl⟩ : ∃ n : Nat, z = (n : Int) := ⟨z.toNat, by omega⟩
  have : n < 10 := by omega
  match n, this with
  | 0, _ => rfl
  | 1, _ => rfl
  | 2, _ => rfl
  | 3, _ => rfl
  | 4, _ => rfl
  | 5, _ => rfl
  | 6, _ => rfl
  | 7, _ => rfl
  | 8, _ => rfl
  | 9, _ => rfl
  | n + 10, h => omega
theorem c51 : ∀ args d, e51.2.2.1 args = true → e51.2.2.2 args = some d → CallOK Tryd.prog 51 args (mkRes Tryd.prog 9 d) :=
  ent1p k51 fun x d hq h ⟨_, hx⟩ => by
    cases h
    obtain ⟨z, rfl, hz⟩ := ty2' hx
    rw [n2]
    have hq : (decide (0 ≤ z) && decide (z < 10)) = true := hq
    simp only [Bool.and_eq_true, decide_eq_true_eq] at hq
    refine fn_ok hm env0 k51 ((t51 0 z).trans ?_)
    have h1 : decide (z < 10) = true := by simpa using hq.2
    have hw : IntKind.wrap .i64 (z + 1) = z + 1 := wrap_in (by rw [inR_iff]; omega)
    have h36 : (((([48, 49, 50, 51, 52, 53, 54, 55, 56, 57, 97, 98, 99, 100, 101, 102, 103, 104, 105, 106, 107, 108, 109, 110, 111, 112, 113, 114, 115, 116, 117, 118, 119, 120, 121, 122] : List UInt8)).length : Nat) : Int) = 36 := rfl
    have h2 : (decide (0 ≤ z) && decide (z ≤ z + 1) && decide (z + 1 ≤ 36)) = true := by
      simp only [Bool.and_eq_true, decide_eq_true_eq]; omega
    have h3 : (z + 1 - z).toNat = 1 := by omega
    rw [h1, cond_true, hw, h36, h2, cond_true, h3, digit_cut hq.1 hq.2, m9]
    rfl
def S0 : Tab := e51 :: e23 :: e30 :: []
theorem envS0 : EnvOK Tryd.prog (envH S0 []) := envOK_cons' (envOK_cons (envOK_cons env0 c30) c23) c51
def e33 (K : Nat) : FuncId × TypeId × (List AV → Bool) × (List AV → Option D) := (33, 3, preD (q2 fun x y => intD y == 5 - (K : Int)), ent [24, 3] (f2 fun x y => some (.lit (.int .i64 (setK K x)))))
def S1 (K : Nat) : Tab := e33 K :: S0
end X
end Go.Proofs.YtbabfocagkkboaaDoor

namespace Go.Proofs.YtbabfocagkkboaaDoor
namespace X
open Go.Ev
set_option linter.unusedVariables false
/- roadbook/tree.setOf -/
def t33_h : Hints := fun _ =>  none
theorem t33 (K : Nat) (N : Nat) (x0 : D) (x1 : Int) : evFn Tryd.prog (envH (S1 K) []) t33_h N Tryd.f33 [dat 24 x0, dat 3 (.lit (.int .i64 x1))] =
  bif decide (x1 > 4) then
    some (dat 3 (.lit (.int .i64 0)))
  else bif ((((elemsD (fieldD x0 1)).length : Int) == 0) == true) then
      bif isOccB (intD (fieldD x0 0)) then
        bif decide (0 ≤ (intD (fieldD x0 0))) then
          some (dat 3 (.lit (.int .i64 (shlI .i64 1 (intD (fieldD x0 0))))))
        else none
      else bif ((((elemsD (fieldD x0 1)).length : Int) != 2) == false) then
          bif ((intD (fieldD x0 0)) != 0) then
            some (dat 3 (.lit (.int .i64 0)))
          else bif (decide (0 ≤ (0 : Int)) && decide ((0 : Int) < ((elemsD (fieldD x0 1)).length : Int))) then
              bif ((IntKind.wrap .i64 (x1 + 1)) == 5 - (K : Int)) then
                bif (decide (0 ≤ (1 : Int)) && decide ((1 : Int) < ((elemsD (fieldD x0 1)).length : Int))) then
                  bif ((IntKind.wrap .i64 (x1 + 1)) == 5 - (K : Int)) then
                    bif (((setK K ((elemsD (fieldD x0 1)).getD 0 .nil)) == 0) == false) then
                      bif (((setK K ((elemsD (fieldD x0 1)).getD 1 .nil)) == 0) == false) then
                        bif ((andI .i64 (setK K ((elemsD (fieldD x0 1)).getD 0 .nil)) (setK K ((elemsD (fieldD x0 1)).getD 1 .nil))) != 0) then
                          some (dat 3 (.lit (.int .i64 0)))
                        else some (dat 3 (.lit (.int .i64 (orI .i64 (setK K ((elemsD (fieldD x0 1)).getD 0 .nil)) (setK K ((elemsD (fieldD x0 1)).getD 1 .nil))))))
                      else some (dat 3 (.lit (.int .i64 0)))
                    else some (dat 3 (.lit (.int .i64 0)))
                  else none
                else none
              else none
            else none
        else some (dat 3 (.lit (.int .i64 0)))
    else bif ((((elemsD (fieldD x0 1)).length : Int) != 2) == false) then
        bif ((intD (fieldD x0 0)) != 0) then
          some (dat 3 (.lit (.int .i64 0)))
        else bif (decide (0 ≤ (0 : Int)) && decide ((0 : Int) < ((elemsD (fieldD x0 1)).length : Int))) then
            bif ((IntKind.wrap .i64 (x1 + 1)) == 5 - (K : Int)) then
              bif (decide (0 ≤ (1 : Int)) && decide ((1 : Int) < ((elemsD (fieldD x0 1)).length : Int))) then
                bif ((IntKind.wrap .i64 (x1 + 1)) == 5 - (K : Int)) then
                  bif (((setK K ((elemsD (fieldD x0 1)).getD 0 .nil)) == 0) == false) then
                    bif (((setK K ((elemsD (fieldD x0 1)).getD 1 .nil)) == 0) == false) then
                      bif ((andI .i64 (setK K ((elemsD (fieldD x0 1)).getD 0 .nil)) (setK K ((elemsD (fieldD x0 1)).getD 1 .nil))) != 0) then
                        some (dat 3 (.lit (.int .i64 0)))
                      else some (dat 3 (.lit (.int .i64 (orI .i64 (setK K ((elemsD (fieldD x0 1)).getD 0 .nil)) (setK K ((elemsD (fieldD x0 1)).getD 1 .nil))))))
                    else some (dat 3 (.lit (.int .i64 0)))
                  else some (dat 3 (.lit (.int .i64 0)))
                else none
              else none
            else none
          else none
      else some (dat 3 (.lit (.int .i64 0))) := by kernel_rfl

/- internal/strconv.FormatInt -/
def t50_h : Hints := fun _ =>  none
theorem t50 (N : Nat) (x0 : Int) (x1 : Int) : evFn Tryd.prog (envH S0 []) t50_h N Tryd.f50 [dat 3 (.lit (.int .i64 x0)), dat 3 (.lit (.int .i64 x1))] =
  bif (x1 == 10) then
    bif ((decide ((0 : Int) ≤ x0)) == true) then
      bif decide (x0 < 100) then
        bif (decide (0 ≤ x0) && decide (x0 < 10)) then
          some (dat 9 (.lit (.string (digitL x0))))
        else none
      else bif decide (x0 < 0) then
          none
        else none
    else bif decide (x0 < 0) then
        none
      else none
  else none := by kernel_rfl

/- roadbook/tree.neverMay -/
def t37_h : Hints := fun _ =>  none
theorem t37 (N : Nat)  : evFn Tryd.prog (envH S0 []) t37_h N Tryd.f37 [] =
  some (dat 24 (.agg [.lit (.int .i64 0), .slice [leafD 0, leafD 0] []])) := by kernel_rfl

end X
end Go.Proofs.YtbabfocagkkboaaDoor

namespace Go.Proofs.YtbabfocagkkboaaDoor
namespace X
open Go.Ev
set_option linter.unusedVariables false
set_option linter.unusedSimpArgs false

theorem k33 : FnOK Tryd.prog 33 Tryd.f33 := ⟨Tryd.func33, rfl, by kernel_rfl⟩
theorem k50 : FnOK Tryd.prog 50 Tryd.f50 := ⟨Tryd.func50, rfl, by kernel_rfl⟩
theorem k37 : FnOK Tryd.prog 37 Tryd.f37 := ⟨Tryd.func37, rfl, by kernel_rfl⟩
theorem t33z (N : Nat) (x0 : D) : evFn Tryd.prog (envH S0 []) t33_h N Tryd.f33 [dat 24 x0, dat 3 (.lit (.int .i64 5))] = some (dat 3 (.lit (.int .i64 0))) := by kernel_rfl
theorem len2 {n : Nat} (h : ((n : Int) != 2) = false) : (decide (0 ≤ (0 : Int)) && decide ((0 : Int) < (n : Int))) = true ∧ (decide (0 ≤ (1 : Int)) && decide ((1 : Int) < (n : Int))) = true := by
  have h : (n : Int) = 2 := by simpa using h
  rw [h]
  exact ⟨rfl, rfl⟩
theorem c33z : ∀ args d, (e33 0).2.2.1 args = true → (e33 0).2.2.2 args = some d → CallOK Tryd.prog 33 args (mkRes Tryd.prog 3 d) :=
  ent2p k33 fun x y d hq h ⟨_, hx⟩ ⟨_, hy⟩ => by
    cases h
    obtain ⟨z, rfl, hz⟩ := ty3' hy
    rw [n24, n3]
    have hq : (z == 5 - ((0 : Nat) : Int)) = true := hq
    have : z = 5 := by have := eq_of_beq hq; omega
    subst this
    exact fn_ok hm envS0 k33 (t33z 0 x)
theorem c33 (K : Nat) (henv : EnvOK Tryd.prog (envH (S1 K) [])) : ∀ args d, (e33 (K + 1)).2.2.1 args = true → (e33 (K + 1)).2.2.2 args = some d → CallOK Tryd.prog 33 args (mkRes Tryd.prog 3 d) :=
  ent2p k33 fun x y d hq h ⟨_, hx⟩ ⟨_, hy⟩ => by
    cases h
    obtain ⟨z, rfl, hz⟩ := ty3' hy
    rw [n24, n3]
    have hq : (z == 5 - ((K + 1 : Nat) : Int)) = true := hq
    have hz' : z = 4 - (K : Int) := by have := eq_of_beq hq; omega
    have h4 : decide (z > 4) = false := by rw [decide_eq_false_iff_not]; omega
    rw [inR_iff] at hz
    have hw : IntKind.wrap .i64 (z + 1) = z + 1 := wrap_in (by rw [inR_iff]; omega)
    have hk : (z + 1 == 5 - (K : Int)) = true := by rw [beq_iff_eq]; omega
    refine fn_ok hm henv k33 ((t33 K 0 x z).trans ?_)
    rw [m3, h4, cond_false, hw, hk]
    show _ = some (dat 3 (.lit (.int .i64 (setK (K + 1) x))))
    rw [setK_succ, show elemsD (fieldD x 1) = tkids x from rfl, show intD (fieldD x 0) = tocc x from rfl]
    cases h1 : (((tkids x).length : Int) == 0) with
    | true =>
      cases h2 : isOccB (tocc x) with
      | true =>
        have h3 : decide (0 ≤ tocc x) = true := by
          unfold isOccB at h2
          rw [Bool.and_eq_true] at h2
          exact h2.1
        rw [h3]
        rfl
      | false =>
        have h3 : (((tkids x).length : Int) != 2) = true := by
          have := eq_of_beq h1
          rw [bne_iff_ne]; omega
        rw [h3]
        rfl
    | false =>
      cases h3 : (((tkids x).length : Int) != 2) with
      | true => rfl
      | false =>
        obtain ⟨l0, l1⟩ := len2 h3
        rw [l0, l1]
        cases h5 : (tocc x != 0) with
        | true => rfl
        | false =>
          cases h6 : (setK K ((tkids x).getD 0 .nil) == 0) <;> cases h7 : (setK K ((tkids x).getD 1 .nil) == 0) <;> cases h8 : (andI .i64 (setK K ((tkids x).getD 0 .nil)) (setK K ((tkids x).getD 1 .nil)) != 0) <;> rfl
theorem envS1 : ∀ K : Nat, EnvOK Tryd.prog (envH (S1 K) [])
  | 0 => envOK_cons' envS0 c33z
  | K + 1 => envOK_cons' envS0 (c33 K (envS1 K))
def e50 : FuncId × TypeId × (List AV → Bool) × (List AV → Option D) := (50, 9, preD (q2 fun x y => decide (0 ≤ intD x) && decide (intD x < 10) && (intD y == (10 : Int))), ent [3, 3] (f2 fun x y => some (.lit (.string (digitL (intD x))))))
theorem c50 : ∀ args d, e50.2.2.1 args = true → e50.2.2.2 args = some d → CallOK Tryd.prog 50 args (mkRes Tryd.prog 9 d) :=
  ent2p k50 fun x y d hq h ⟨_, hx⟩ ⟨_, hy⟩ => by
    cases h
    obtain ⟨z, rfl, hz⟩ := ty3' hx
    obtain ⟨u, rfl, hu⟩ := ty3' hy
    rw [n3, n3]
    have hq : (decide (0 ≤ z) && decide (z < 10) && (u == (10 : Int))) = true := hq
    rw [Bool.and_eq_true] at hq
    have h1 := hq.1
    rw [Bool.and_eq_true, decide_eq_true_eq, decide_eq_true_eq] at h1
    refine fn_ok hm envS0 k50 ((t50 0 z u).trans ?_)
    have h0 : (decide ((0 : Int) ≤ z)) = true := by simpa using h1.1
    have h100 : decide (z < 100) = true := by rw [decide_eq_true_eq]; omega
    have hp := hq.1
    rw [hq.2, cond_true, h100, hp, h0, m9]
    rfl
def S2 : Tab := e50 :: S0
theorem envS2 : EnvOK Tryd.prog (envH S2 []) := envOK_cons' envS0 c50
def e37 : FuncId × TypeId × (List AV → Bool) × (List AV → Option D) := (37, 24, yes, ent [] (f0 (some (nodeD [leafD 0, leafD 0]))))
theorem c37 : ∀ args d, e37.2.2.2 args = some d → CallOK Tryd.prog 37 args (mkRes Tryd.prog 24 d) :=
  ent0 fun d h => by
    cases h
    exact fn_ok hm envS0 k37 (t37 0)

/-! ### Two trees, part by part: by levels -/
def a44 : List AV := [dat 24 .nil, dat 24 .nil, dat 3 .nil, bxp OID 3, bxp (OID + 1) 48]
def b44 : List Ent := [⟨3, .nil, 0, none⟩, ⟨48, .nil, 0, some (clo 48 44 [OID, OID + 1])⟩]
def q44 (K : Nat) : List D → List D → Bool := fun ds es => alPre K (ds.getD 0 .nil) (intD (ds.getD 2 .nil)) (intD (es.getD 0 .nil))
def g44 (K : Nat) : List D → List D → HRes
  | [a, b, dp, _, _], [n, _] => some (dat 4 (.lit (.bool (alK K a b (intD dp) (intD n)).1)), [some ⟨3, .lit (.int .i64 (alK K a b (intD dp) (intD n)).2), 0, none⟩, some ⟨48, .nil, 0, some (clo 48 44 [OID, OID + 1])⟩])
  | _, _ => none
def h44 (K : Nat) : FuncId × TypeId × (List AV → List Ent → Bool) × (List AV → List Ent → HRes) := (44, 4, preH a44 b44 (q44 K), entH a44 b44 (g44 K))
def H1 (K : Nat) : HTab := h44 K :: []
end X
end Go.Proofs.YtbabfocagkkboaaDoor

namespace Go.Proofs.YtbabfocagkkboaaDoor
namespace X
open Go.Ev
set_option linter.unusedVariables false
/- roadbook/tree.Set -/
def t15_h : Hints := fun _ =>  none
theorem t15 (N : Nat) (x0 : D) : evFn Tryd.prog (envH (S1 4) []) t15_h N Tryd.f15 [dat 24 x0] =
  bif (1 == 5 - ((4 : Nat) : Int)) then
    some (dat 3 (.lit (.int .i64 (setK 4 x0))))
  else none := by kernel_rfl

/- internal/strconv.Itoa -/
def t49_h : Hints := fun _ =>  none
theorem t49 (N : Nat) (x0 : Int) : evFn Tryd.prog (envH S2 []) t49_h N Tryd.f49 [dat 3 (.lit (.int .i64 x0))] =
  bif (decide (0 ≤ x0) && decide (x0 < 10) && (10 == (10 : Int))) then
    some (dat 9 (.lit (.string (digitL x0))))
  else none := by kernel_rfl

/- roadbook/tree.alike$1 -/
def t44_h : Hints := fun i => if i = 5 then some ([0, 1, 3, 5, 7, 8, 9, 10, 11, 12, 13, 14, 15, 16, 17, 18, 19, 20, 21, 22, 23, 24, 25, 26, 27, 28, 29, 30, 31, 32, 33, 34, 35, 39, 40, 41, 42, 43, 44, 45, 46, 47, 48, 49, 50, 51, 52, 53, 54], [6, 1000000, 1000001], []) else none
def t44_lp5 (P : Program) (fn : Func) (K : Nat) (N n : Nat) (x0 : D) (x1 : D) (x2 : Int) (q : Int) (v38 : Int) (b1000000 : Int) : Option (AV × List (Option Ent)) := evLoop (preL t44_h (sub [1, 1, 1, 0, 1, 0, 0] (bodyOf fn))) (evCode P (envH [] (H1 K)) t44_h N (sub [1, 1, 1, 0, 1, 0, 0] (bodyOf fn))) n ⟨[dead, dead, dat 3 (.lit (.int .i64 x2)), dead, bxp 1000001 48, dead, bxp 6 24, dead, dead, dead, dead, dead, dead, dead, dead, dead, dead, dead, dead, dead, dead, dead, dead, dead, dead, dead, dead, dead, dead, dead, dead, dead, dead, dead, dead, dead, dat 22 (fieldD x0 1), dat 3 (.lit (.int .i64 ((elemsD (fieldD x0 1)).length : Int))), dat 3 (.lit (.int .i64 v38)), dead, dead, dead, dead, dead, dead, dead, dead, dead, dead, dead, dead, dead, dead, dead, dead], lookB [(6, some ⟨24, x1, 0, none⟩), (1000000, some ⟨3, .lit (.int .i64 b1000000), 0, none⟩), (1000001, some ⟨48, .nil, 0, some (clo 48 44 [1000000, 1000001])⟩)]⟩ (blockK 0 (seqC P (envH [] (H1 K)) t44_h N (sub [1, 1, 1, 1] (bodyOf fn)) (finH P fn 2) ))
theorem t44_lp5_step (K : Nat) (N n : Nat) (x0 : D) (x1 : D) (x2 : Int) (q : Int) (v38 : Int) (b1000000 : Int) : t44_lp5 Tryd.prog Tryd.f44 K N (n + 1) x0 x1 x2 q v38 b1000000 =
  bif decide (v38 < ((elemsD (fieldD x0 1)).length : Int)) then
    bif (decide (0 ≤ v38) && decide (v38 < ((elemsD (fieldD x0 1)).length : Int))) then
      bif (decide (0 ≤ v38) && decide (v38 < ((elemsD (fieldD x1 1)).length : Int))) then
        bif alPre K ((elemsD (fieldD x0 1)).getD (v38).toNat .nil) (IntKind.wrap .i64 (x2 + 1)) b1000000 then
          bif (!((alK K ((elemsD (fieldD x0 1)).getD (v38).toNat .nil) ((elemsD (fieldD x1 1)).getD (v38).toNat .nil) (IntKind.wrap .i64 (x2 + 1)) b1000000).1)) then
            some (dat 4 (.lit (.bool false)), [some ⟨3, .lit (.int .i64 ((alK K ((elemsD (fieldD x0 1)).getD (v38).toNat .nil) ((elemsD (fieldD x1 1)).getD (v38).toNat .nil) (IntKind.wrap .i64 (x2 + 1)) b1000000).2)), 0, none⟩, some ⟨48, .nil, 0, some (clo 48 44 [1000000, 1000001])⟩])
          else t44_lp5 Tryd.prog Tryd.f44 K N n x0 x1 x2 q (IntKind.wrap .i64 (v38 + 1)) ((alK K ((elemsD (fieldD x0 1)).getD (v38).toNat .nil) ((elemsD (fieldD x1 1)).getD (v38).toNat .nil) (IntKind.wrap .i64 (x2 + 1)) b1000000).2)
        else none
      else none
    else none
  else some (dat 4 (.lit (.bool true)), [some ⟨3, .lit (.int .i64 b1000000), 0, none⟩, some ⟨48, .nil, 0, some (clo 48 44 [1000000, 1000001])⟩]) := by kernel_rfl
theorem t44 (K : Nat) (N : Nat) (x0 : D) (x1 : D) (x2 : Int) (q : Int) : evFnH Tryd.prog (envH [] (H1 K)) t44_h N Tryd.f44 [dat 24 x0, dat 24 x1, dat 3 (.lit (.int .i64 x2)), bxp 1000000 3, bxp 1000001 48] [⟨3, .lit (.int .i64 q), 0, none⟩, ⟨48, .nil, 0, some (clo 48 44 [1000000, 1000001])⟩] =
  bif ((decide ((IntKind.wrap .i64 (q - 1)) < 0)) == false) then
    bif ((decide (x2 > 131072)) == false) then
      bif (((intD (fieldD x0 0)) != (intD (fieldD x1 0))) == false) then
        bif (((elemsD (fieldD x0 1)).length : Int) != ((elemsD (fieldD x1 1)).length : Int)) then
          some (dat 4 (.lit (.bool false)), [some ⟨3, .lit (.int .i64 (IntKind.wrap .i64 (q - 1))), 0, none⟩, some ⟨48, .nil, 0, some (clo 48 44 [1000000, 1000001])⟩])
        else t44_lp5 Tryd.prog Tryd.f44 K N N x0 x1 x2 q 0 (IntKind.wrap .i64 (q - 1))
      else some (dat 4 (.lit (.bool false)), [some ⟨3, .lit (.int .i64 (IntKind.wrap .i64 (q - 1))), 0, none⟩, some ⟨48, .nil, 0, some (clo 48 44 [1000000, 1000001])⟩])
    else some (dat 4 (.lit (.bool false)), [some ⟨3, .lit (.int .i64 (IntKind.wrap .i64 (q - 1))), 0, none⟩, some ⟨48, .nil, 0, some (clo 48 44 [1000000, 1000001])⟩])
  else some (dat 4 (.lit (.bool false)), [some ⟨3, .lit (.int .i64 (IntKind.wrap .i64 (q - 1))), 0, none⟩, some ⟨48, .nil, 0, some (clo 48 44 [1000000, 1000001])⟩]) := by kernel_rfl

end X
end Go.Proofs.YtbabfocagkkboaaDoor

namespace Go.Proofs.YtbabfocagkkboaaDoor
namespace X
open Go.Ev
set_option linter.unusedVariables false
set_option linter.unusedSimpArgs false

theorem k15 : FnOK Tryd.prog 15 Tryd.f15 := ⟨Tryd.func15, rfl, by kernel_rfl⟩
theorem k49 : FnOK Tryd.prog 49 Tryd.f49 := ⟨Tryd.func49, rfl, by kernel_rfl⟩
theorem k44 : FnOK Tryd.prog 44 Tryd.f44 := ⟨Tryd.func44, rfl, by kernel_rfl⟩
def e15 : FuncId × TypeId × (List AV → Bool) × (List AV → Option D) := (15, 3, yes, ent [24] (f1 fun x => some (.lit (.int .i64 (setT x)))))
theorem c15 : ∀ args d, e15.2.2.2 args = some d → CallOK Tryd.prog 15 args (mkRes Tryd.prog 3 d) :=
  ent1 k15 fun x d h ⟨_, hx⟩ => by
    cases h
    rw [n24]
    exact fn_ok hm (envS1 4) k15 (t15 0 x)
def e49 : FuncId × TypeId × (List AV → Bool) × (List AV → Option D) := (49, 9, preD (q1 fun x => decide (0 ≤ intD x) && decide (intD x < 10)), ent [3] (f1 fun x => some (.lit (.string (digitL (intD x))))))
theorem c49 : ∀ args d, e49.2.2.1 args = true → e49.2.2.2 args = some d → CallOK Tryd.prog 49 args (mkRes Tryd.prog 9 d) :=
  ent1p k49 fun x d hq h ⟨_, hx⟩ => by
    cases h
    obtain ⟨z, rfl, hz⟩ := ty3' hx
    rw [n3]
    have hq : (decide (0 ≤ z) && decide (z < 10)) = true := hq
    refine fn_ok hm envS2 k49 ((t49 0 z).trans ?_)
    rw [hq, m9]
    rfl
def S3 : Tab := e49 :: e15 :: e37 :: S0
theorem envS3 : EnvOK Tryd.prog (envH S3 []) := envOK_cons' (envOK_cons (envOK_cons envS0 c37) c15) c49

theorem al_loop {K N : Nat} {x0 x1 : D} {x2 q : Int} (hl : (tkids x0).length ≤ maxLen) (hlen : (tkids x0).length = (tkids x1).length) (h2 : 0 ≤ x2) (h3 : x2 ≤ 131072) (hok : ∀ p ∈ tkids x0, okT K p = true) : ∀ (n i : Nat) (b : Int), i ≤ (tkids x0).length → (tkids x0).length - i < n → 0 ≤ b → b ≤ 2147483647 →
    t44_lp5 Tryd.prog Tryd.f44 K N n x0 x1 x2 q (i : Int) b = some (dat 4 (.lit (.bool (al2 (fun x y m => alK K x y (x2 + 1) m) ((tkids x0).drop i) ((tkids x1).drop i) b).1)),
      [some ⟨3, .lit (.int .i64 (al2 (fun x y m => alK K x y (x2 + 1) m) ((tkids x0).drop i) ((tkids x1).drop i) b).2), 0, none⟩, some ⟨48, .nil, 0, some (clo 48 44 [1000000, 1000001])⟩])
  | 0, i, b, _, h, _, _ => by omega
  | n + 1, i, b, hi, h, h0, hb => by
    rw [t44_lp5_step, show elemsD (fieldD x0 1) = tkids x0 from rfl, show elemsD (fieldD x1 1) = tkids x1 from rfl]
    have hw : IntKind.wrap .i64 (x2 + 1) = x2 + 1 := wrap_in (by rw [inR_iff]; omega)
    rw [hw]
    by_cases hlt : i < (tkids x0).length
    · have hlt1 : i < (tkids x1).length := by omega
      have h1 : decide ((i : Int) < ((tkids x0).length : Int)) = true := by simpa using hlt
      have hpre : alPre K (tkids x0)[i] (x2 + 1) b = true := by
        simp only [alPre, Bool.and_eq_true, decide_eq_true_eq]
        exact ⟨⟨⟨⟨hok _ (List.getElem_mem hlt), h0⟩, hb⟩, by omega⟩, by omega⟩
      rw [idx_ok hlt, idx_ok hlt1, h1, cond_true, cond_true, cond_true, Int.toNat_natCast, getD_lt hlt, getD_lt hlt1, hpre, cond_true, List.drop_eq_getElem_cons hlt, List.drop_eq_getElem_cons hlt1, al2_cons]
      cases hbb : (alK K (tkids x0)[i] (tkids x1)[i] (x2 + 1) b).1 with
      | false => rw [Bool.not_false, cond_true, cond_false]
      | true =>
        obtain ⟨b0, b1⟩ := alK_bound K _ _ _ _ h0 hbb
        rw [Bool.not_true, cond_false, cond_true, wrap_step hl hlt]
        exact al_loop hl hlen h2 h3 hok n (i + 1) _ (by omega) (by omega) b0 (by omega)
    · have h1 : decide ((i : Int) < ((tkids x0).length : Int)) = false := by simpa using hlt
      have h4 : (tkids x0).drop i = [] := List.drop_of_length_le (by omega)
      have h5 : (tkids x1).drop i = [] := List.drop_of_length_le (by omega)
      rw [h1, h4, h5, cond_false]
      rfl

theorem g44_inv {K : Nat} {ds es : List D} {r : AV} {h' : List (Option Ent)} (hg : g44 K ds es = some (r, h')) : ∃ a b dp y1 y2 n u, ds = [a, b, dp, y1, y2] ∧ es = [n, u] ∧ r = dat 4 (.lit (.bool (alK K a b (intD dp) (intD n)).1)) ∧
    h' = [some ⟨3, .lit (.int .i64 (alK K a b (intD dp) (intD n)).2), 0, none⟩, some ⟨48, .nil, 0, some (clo 48 44 [OID, OID + 1])⟩] := by
  unfold g44 at hg
  split at hg
  · rename_i a b dp y1 y2 n u
    cases hg
    exact ⟨a, b, dp, y1, y2, n, u, rfl, rfl, rfl, rfl⟩
  · cases hg

theorem c44 (K : Nat) (henv : EnvOK Tryd.prog (envH [] (H1 K))) : ∀ args hh r h', (h44 (K + 1)).2.2.1 args hh = true → (h44 (K + 1)).2.2.2 args hh = some (r, h') → HCallOK Tryd.prog 44 args hh r h' :=
  entH_ok rfl rfl fun ds es r h' hq hg => by
    obtain ⟨a, b, dp, y1, y2, n, u, rfl, rfl, rfl, rfl⟩ := g44_inv hg
    refine HCallOK.typed k44.ex fun ht he => ?_
    obtain ⟨_, t0⟩ := ht (dat 24 a) (by simp [fillA, a44, dat, bxp]) rfl
    obtain ⟨_, t1⟩ := ht (dat 24 b) (by simp [fillA, a44, dat, bxp]) rfl
    obtain ⟨_, t2⟩ := ht (dat 3 dp) (by simp [fillA, a44, dat, bxp]) rfl
    obtain ⟨_, te⟩ := he ⟨3, n, 0, none⟩ (by simp [fillE, b44]) rfl rfl
    obtain ⟨z, rfl, hz⟩ := ty3' t2
    obtain ⟨q, rfl, hq2⟩ := ty3' te
    have hpre : alPre (K + 1) a z q = true := hq
    simp only [alPre, Bool.and_eq_true, decide_eq_true_eq, okT_succ, List.all_eq_true] at hpre
    obtain ⟨⟨⟨⟨p1, p2⟩, p3⟩, p4⟩, p5⟩ := hpre
    have t0 : Ty Tryd.prog _ 24 a := t0
    obtain ⟨hl, _⟩ := ty_len t0
    refine fnH_ok hm henv k44 ((t44 K ((tkids a).length + 1) a b z q).trans ?_)
    show _ = some (dat 4 (.lit (.bool (alK (K + 1) a b z q).1)), [some (⟨3, .lit (.int .i64 (alK (K + 1) a b z q).2), 0, none⟩ : Ent), some ⟨48, .nil, 0, some (clo 48 44 [1000000, 1000001])⟩])
    have hw : IntKind.wrap .i64 (q - 1) = q - 1 := wrap_in (by rw [inR_iff]; omega)
    rw [alK_succ, hw, show elemsD (fieldD a 1) = tkids a from rfl, show elemsD (fieldD b 1) = tkids b from rfl, show intD (fieldD a 0) = tocc a from rfl, show intD (fieldD b 0) = tocc b from rfl]
    by_cases h1 : q - 1 < 0
    · have d1 : decide (q - 1 < 0) = true := by simpa using h1
      rw [d1]
      rfl
    · have d1 : decide (q - 1 < 0) = false := by simpa using h1
      rw [d1]
      by_cases h2 : z > 131072
      · have d2 : decide (z > 131072) = true := by simpa using h2
        rw [d2]
        rfl
      · have d2 : decide (z > 131072) = false := by simpa using h2
        rw [d2]
        cases h3 : (tocc a != tocc b) with
        | true => rfl
        | false =>
          cases h4 : (((tkids a).length : Int) != ((tkids b).length : Int)) with
          | true => rfl
          | false =>
            have h5 : (tkids a).length = (tkids b).length := by
              have : ((tkids a).length : Int) = ((tkids b).length : Int) := by simpa using h4
              omega
            have := al_loop (K := K) (N := (tkids a).length + 1) (q := q) (x1 := b) hl h5 p4 (by omega) p1 ((tkids a).length + 1) 0 (q - 1) (Nat.zero_le _) (by omega) (by omega) (by omega)
            simpa using this
theorem envH1 : ∀ K : Nat, EnvOK Tryd.prog (envH [] (H1 K))
  | 0 => envOK_consH env0 (fun args hh r h' hp hd => by
      exfalso
      have hp : (allA a44 args && allE b44 hh && q44 0 (args.map (·.d)) (hh.map (·.d))) = true := hp
      rw [Bool.and_eq_true] at hp
      have h2 := hp.2
      simp only [q44, alPre, okT, Bool.false_and, Bool.false_eq_true] at h2)
  | K + 1 => envOK_consH env0 (c44 K (envH1 K))
end X
end Go.Proofs.YtbabfocagkkboaaDoor
