/- Trees of functions, and lemmas. Nothing here is trusted. -/
import Derived.Test.YtdacippnonhahaaDoorRows
import Derived.Test.YtdacippnonhahaaDoorZ18
import Derived.Test.YtdacippnonhahaaDoorZ19
namespace Go.Proofs.YtdacippnonhahaaDoor
section
namespace X
open Go.Ev
set_option linter.unusedVariables false
/- roadbook/tree.isOccurrence -/
def t50_h : Hints := fun _ =>  none
theorem t50 (N : Nat) (x0 : Int) : evFn Tryd.prog (envH [] []) t50_h N Tryd.f50 [dat 3 (.lit (.int .i64 x0))] =
 bif ((decide (x0 >= 0)) == true) then
  some (dat 4 (.lit (.bool (decide (x0 < 4)))))
 else some (dat 4 (.lit (.bool false))) := by kernel_rfl

/- roadbook/tree.Leaf -/
def t36_h : Hints := fun _ =>  none
theorem t36 (N : Nat) (x0 : Int) : evFn Tryd.prog (envH [] []) t36_h N Tryd.f36 [dat 3 (.lit (.int .i64 x0))] =
 some (dat 24 (.agg [.lit (.int .i64 x0), .slice [] []])) := by kernel_rfl

/- internal/strconv.small -/
def t58_h : Hints := fun _ =>  none
theorem t58 (N : Nat) (x0 : Int) : evFn Tryd.prog (envH [] []) t58_h N Tryd.f58 [dat 2 (.lit (.int .i64 x0))] =
 bif decide (x0 < 10) then
  bif (decide (0 <= x0) && decide (x0 <= (IntKind.wrap .i64 (x0 + 1))) && decide ((IntKind.wrap .i64 (x0 + 1)) <= (((([48, 49, 50, 51, 52, 53, 54, 55, 56, 57, 97, 98, 99, 100, 101, 102, 103, 104, 105, 106, 107, 108, 109, 110, 111, 112, 113, 114, 115, 116, 117, 118, 119, 120, 121, 122] : List UInt8)).length : Nat) : Int))) then
   some (dat 9 (.lit (.string ((([48, 49, 50, 51, 52, 53, 54, 55, 56, 57, 97, 98, 99, 100, 101, 102, 103, 104, 105, 106, 107, 108, 109, 110, 111, 112, 113, 114, 115, 116, 117, 118, 119, 120, 121, 122] : List UInt8).drop (x0 : Int).toNat).take ((IntKind.wrap .i64 (x0 + 1)) - x0).toNat))))
  else none
 else bif (decide (0 <= (IntKind.wrap .i64 (x0 * 2))) && decide ((IntKind.wrap .i64 (x0 * 2)) <= (IntKind.wrap .i64 ((IntKind.wrap .i64 (x0 * 2)) + 2))) && decide ((IntKind.wrap .i64 ((IntKind.wrap .i64 (x0 * 2)) + 2)) <= (((([48, 48, 48, 49, 48, 50, 48, 51, 48, 52, 48, 53, 48, 54, 48, 55, 48, 56, 48, 57, 49, 48, 49, 49, 49, 50, 49, 51, 49, 52, 49, 53, 49, 54, 49, 55, 49, 56, 49, 57, 50, 48, 50, 49, 50, 50, 50, 51, 50, 52, 50, 53, 50, 54, 50, 55, 50, 56, 50, 57, 51, 48, 51, 49, 51, 50, 51, 51, 51, 52, 51, 53, 51, 54, 51, 55, 51, 56, 51, 57, 52, 48, 52, 49, 52, 50, 52, 51, 52, 52, 52, 53, 52, 54, 52, 55, 52, 56, 52, 57, 53, 48, 53, 49, 53, 50, 53, 51, 53, 52, 53, 53, 53, 54, 53, 55, 53, 56, 53, 57, 54, 48, 54, 49, 54, 50, 54, 51, 54, 52, 54, 53, 54, 54, 54, 55, 54, 56, 54, 57, 55, 48, 55, 49, 55, 50, 55, 51, 55, 52, 55, 53, 55, 54, 55, 55, 55, 56, 55, 57, 56, 48, 56, 49, 56, 50, 56, 51, 56, 52, 56, 53, 56, 54, 56, 55, 56, 56, 56, 57, 57, 48, 57, 49, 57, 50, 57, 51, 57, 52, 57, 53, 57, 54, 57, 55, 57, 56, 57, 57] : List UInt8)).length : Nat) : Int))) then
   some (dat 9 (.lit (.string ((([48, 48, 48, 49, 48, 50, 48, 51, 48, 52, 48, 53, 48, 54, 48, 55, 48, 56, 48, 57, 49, 48, 49, 49, 49, 50, 49, 51, 49, 52, 49, 53, 49, 54, 49, 55, 49, 56, 49, 57, 50, 48, 50, 49, 50, 50, 50, 51, 50, 52, 50, 53, 50, 54, 50, 55, 50, 56, 50, 57, 51, 48, 51, 49, 51, 50, 51, 51, 51, 52, 51, 53, 51, 54, 51, 55, 51, 56, 51, 57, 52, 48, 52, 49, 52, 50, 52, 51, 52, 52, 52, 53, 52, 54, 52, 55, 52, 56, 52, 57, 53, 48, 53, 49, 53, 50, 53, 51, 53, 52, 53, 53, 53, 54, 53, 55, 53, 56, 53, 57, 54, 48, 54, 49, 54, 50, 54, 51, 54, 52, 54, 53, 54, 54, 54, 55, 54, 56, 54, 57, 55, 48, 55, 49, 55, 50, 55, 51, 55, 52, 55, 53, 55, 54, 55, 55, 55, 56, 55, 57, 56, 48, 56, 49, 56, 50, 56, 51, 56, 52, 56, 53, 56, 54, 56, 55, 56, 56, 56, 57, 57, 48, 57, 49, 57, 50, 57, 51, 57, 52, 57, 53, 57, 54, 57, 55, 57, 56, 57, 57] : List UInt8).drop ((IntKind.wrap .i64 (x0 * 2)) : Int).toNat).take ((IntKind.wrap .i64 ((IntKind.wrap .i64 (x0 * 2)) + 2)) - (IntKind.wrap .i64 (x0 * 2))).toNat))))
  else none := by kernel_rfl

end X
end
section
namespace X
open Go.Ev
set_option linter.unusedVariables false
set_option linter.unusedSimpArgs false
set_option maxRecDepth 10000

theorem hm : Tryd.prog.follows .mixedOrders = true := by kernel_rfl
theorem n2 (x : D) : normD Tryd.prog 2 x = .lit (.int .i64 (intD x)) := by kernel_rfl
theorem n3 (x : D) : normD Tryd.prog 3 x = .lit (.int .i64 (intD x)) := by kernel_rfl
theorem n9 (x : D) : normD Tryd.prog 9 x = x := by kernel_rfl
theorem n22 (x : D) : normD Tryd.prog 22 x = x := by kernel_rfl
theorem n24 (x : D) : normD Tryd.prog 24 x = x := by kernel_rfl
theorem n53 (x : D) : normD Tryd.prog 12 x = .lit (.int .u64 (intD x)) := by kernel_rfl
theorem m3 (x : D) : mkRes Tryd.prog 3 x = dat 3 (.lit (.int .i64 (intD x))) := by kernel_rfl
theorem m4 (x : D) : mkRes Tryd.prog 4 x = dat 4 (.lit (.bool (boolD x))) := by kernel_rfl
theorem m9 (x : D) : mkRes Tryd.prog 9 x = dat 9 x := by kernel_rfl
theorem m22 (x : D) : mkRes Tryd.prog 22 x = dat 22 x := by kernel_rfl
theorem m24 (x : D) : mkRes Tryd.prog 24 x = dat 24 x := by kernel_rfl
theorem m27 (x : D) : mkRes Tryd.prog 27 x = tupA [24, 4] x := by kernel_rfl
theorem u2 : Tryd.prog.underlying 2 = some (.int .i64) := by kernel_rfl
theorem u3 : Tryd.prog.underlying 3 = some (.int .i64) := by kernel_rfl
theorem u53 : Tryd.prog.underlying 12 = some (.int .u64) := by kernel_rfl
theorem u9 : Tryd.prog.underlying 9 = some .string := by kernel_rfl
theorem u22 : Tryd.prog.underlying 22 = some (.slice 24) := by kernel_rfl
theorem u24 : ∃ f g : Field, Tryd.prog.underlying 24 = some (.struct #[f, g]) /\ f.type = 3 /\ g.type = 22 := ⟨_, _, Tryd.underlying24, rfl, rfl⟩

theorem ty_int {t : TypeId} {k : IntKind} (hu : Tryd.prog.underlying t = some (.int k)) {n : Nat} {x : D} (h : Ty Tryd.prog n t x) : ∃ z, x = .lit (.int k z) /\ (Lit.int k z).wf = true := by
 cases n with
 | zero => exact h.elim
 | succ n =>
  unfold Ty at h
  rw [hu] at h
  split at h <;> try (exact h.elim)
  all_goals simp_all
theorem ty3' {n : Nat} {x : D} (h : Ty Tryd.prog n 3 x) : ∃ z, x = .lit (.int .i64 z) /\ inR z = true := by
 obtain ⟨z, h1, h2⟩ := ty_int u3 h
 exact ⟨z, h1, wf_inR h2⟩
theorem ty2' {n : Nat} {x : D} (h : Ty Tryd.prog n 2 x) : ∃ z, x = .lit (.int .i64 z) /\ inR z = true := by
 obtain ⟨z, h1, h2⟩ := ty_int u2 h
 exact ⟨z, h1, wf_inR h2⟩
theorem ty9' {n : Nat} {x : D} (h : Ty Tryd.prog n 9 x) : ∃ s, x = .lit (.string s) /\ s.length <= maxLen := by
 cases n with
 | zero => exact h.elim
 | succ n =>
  unfold Ty at h
  rw [u9] at h
  split at h <;> try (exact h.elim)
  all_goals simp_all
theorem ty24 {n : Nat} {x : D} (h : Ty Tryd.prog n 24 x) : ∃ z ks, x = .agg [.lit (.int .i64 z), .slice ks []] /\ inR z = true /\ ks.length <= maxLen /\ ∀ y ∈ ks, ∃ m, Ty Tryd.prog m 24 y := by
 obtain ⟨f, g, hu, hf, hg⟩ := u24
 obtain ⟨m, a, b, rfl, h1, h2⟩ := ty_struct2 h hu
 rw [hf] at h1
 rw [hg] at h2
 obtain ⟨z, rfl, hz⟩ := ty3' h1
 obtain ⟨m2, ks, rfl, hl, hp⟩ := ty_slice h2 u22
 exact ⟨z, ks, rfl, hz, hl, fun y hy => ⟨m2, hp y hy⟩⟩
theorem ty22 {n : Nat} {x : D} (h : Ty Tryd.prog n 22 x) : ∃ ks, x = .slice ks [] /\ ks.length <= maxLen /\ ∀ y ∈ ks, ∃ m, Ty Tryd.prog m 24 y := by
 obtain ⟨m2, ks, rfl, hl, hp⟩ := ty_slice h u22
 exact ⟨ks, rfl, hl, fun y hy => ⟨m2, hp y hy⟩⟩
theorem ty_len {n : Nat} {x : D} (h : Ty Tryd.prog n 24 x) : (tkids x).length <= maxLen /\ inR (tocc x) = true := by
 obtain ⟨z, ks, rfl, hz, hl, _⟩ := ty24 h
 exact ⟨hl, hz⟩
/-- Such a tree is of the form that trees are of. -/
theorem ty_cano : ∀ {k n : Nat} {x : D}, Ty Tryd.prog n 24 x -> okT k x = true -> cano k x
 | 0, n, x, _, h => by cases h
 | k + 1, n, x, ht, h => by
  obtain ⟨z, ks, rfl, _, _, hp⟩ := ty24 ht
  refine ⟨z, ks, rfl, fun y hy => ?_⟩
  obtain ⟨m, hm⟩ := hp y hy
  have h : (tkids (.agg [.lit (.int .i64 z), .slice ks []])).all (okT k) = true := h
  rw [List.all_eq_true] at h
  exact ty_cano hm (h y hy)

theorem k50 : FnOK Tryd.prog 50 Tryd.f50 := ⟨Tryd.func50, rfl, by kernel_rfl⟩
theorem k36 : FnOK Tryd.prog 36 Tryd.f36 := ⟨Tryd.func36, rfl, by kernel_rfl⟩
theorem k58 : FnOK Tryd.prog 58 Tryd.f58 := ⟨Tryd.func58, rfl, by kernel_rfl⟩
theorem env0 : EnvOK Tryd.prog (envH [] []) := envOK_nil
def e50 : FuncId × TypeId × (List AV -> Bool) × (List AV -> Option D) := (50, 4, yes, ent [3] (f1 fun x => some (.lit (.bool (isOccB (intD x))))))
def e36 : FuncId × TypeId × (List AV -> Bool) × (List AV -> Option D) := (36, 24, yes, ent [3] (f1 fun x => some (leafD (intD x))))
def e58 : FuncId × TypeId × (List AV -> Bool) × (List AV -> Option D) := (58, 9, preD (q1 fun x => decide (0 <= intD x) && decide (intD x < 10)), ent [2] (f1 fun x => some (.lit (.string (digitL (intD x))))))
theorem c50 : ∀ args d, e50.2.2.2 args = some d -> CallOK Tryd.prog 50 args (mkRes Tryd.prog 4 d) :=
 ent1 k50 fun x d h ⟨_, hx⟩ => by
  cases h
  obtain ⟨z, rfl, hz⟩ := ty3' hx
  rw [n3]
  refine fn_ok hm env0 k50 ((t50 0 z).trans ?_)
  rw [m4]
  show _ = some (dat 4 (.lit (.bool (decide (z >= 0) && decide (z < 4)))))
  cases decide (z >= 0) <;> rfl
theorem c36 : ∀ args d, e36.2.2.2 args = some d -> CallOK Tryd.prog 36 args (mkRes Tryd.prog 24 d) :=
 ent1 k36 fun x d h ⟨_, hx⟩ => by
  cases h
  obtain ⟨z, rfl, hz⟩ := ty3' hx
  rw [n3]
  exact fn_ok hm env0 k36 (t36 0 z)
theorem digit_cut {z : Int} (h0 : 0 <= z) (h1 : z < 10) : (([48, 49, 50, 51, 52, 53, 54, 55, 56, 57, 97, 98, 99, 100, 101, 102, 103, 104, 105, 106, 107, 108, 109, 110, 111, 112, 113, 114, 115, 116, 117, 118, 119, 120, 121, 122] : List UInt8).drop z.toNat).take 1 = digitL z := by
 obtain ⟨n, rfl⟩ : ∃ n : Nat, z = (n : Int) := ⟨z.toNat, by omega⟩
 have : n < 10 := by omega
 match n, this with
 | 0, _ => rfl
 | 1, _ => rfl
 | 2, _ => rfl
 | 3, _ => rfl
 | 4, _ => rfl
 | 5, _ => rfl
 | 6, _ => rfl
 | 7, _ => rfl
 | 8, _ => rfl
 | 9, _ => rfl
 | n + 10, h => omega
theorem c58 : ∀ args d, e58.2.2.1 args = true -> e58.2.2.2 args = some d -> CallOK Tryd.prog 58 args (mkRes Tryd.prog 9 d) :=
 ent1p k58 fun x d hq h ⟨_, hx⟩ => by
  cases h
  obtain ⟨z, rfl, hz⟩ := ty2' hx
  rw [n2]
  have hq : (decide (0 <= z) && decide (z < 10)) = true := hq
  simp only [Bool.and_eq_true, decide_eq_true_eq] at hq
  refine fn_ok hm env0 k58 ((t58 0 z).trans ?_)
  have h1 : decide (z < 10) = true := by simpa using hq.2
  have hw : IntKind.wrap .i64 (z + 1) = z + 1 := wrap_in (by rw [inR_iff]; omega)
  have h36 : (((([48, 49, 50, 51, 52, 53, 54, 55, 56, 57, 97, 98, 99, 100, 101, 102, 103, 104, 105, 106, 107, 108, 109, 110, 111, 112, 113, 114, 115, 116, 117, 118, 119, 120, 121, 122] : List UInt8)).length : Nat) : Int) = 36 := rfl
  have h2 : (decide (0 <= z) && decide (z <= z + 1) && decide (z + 1 <= 36)) = true := by
   simp only [Bool.and_eq_true, decide_eq_true_eq]; omega
  have h3 : (z + 1 - z).toNat = 1 := by omega
  rw [h1, cond_true, hw, h36, h2, cond_true, h3, digit_cut hq.1 hq.2, m9]
  rfl
abbrev Tz : Tab := []
def S0 : Tab := e58 :: e36 :: e50 :: Tz
theorem envS0 : EnvOK Tryd.prog (envH S0 []) := envOK_cons' (envOK_cons (envOK_cons env0 c50) c36) c58
def e39 (K : Nat) : FuncId × TypeId × (List AV -> Bool) × (List AV -> Option D) := (39, 3, preD (q2 fun x y => intD y == 5 - (K : Int)), ent [24, 3] (f2 fun x y => some (.lit (.int .i64 (setK K x)))))
def S1 (K : Nat) : Tab := e39 K :: S0
end X
end
section
namespace X
open Go.Ev
set_option linter.unusedVariables false
/- roadbook/tree.setOf -/
def t39_h : Hints := fun _ =>  none
theorem t39 (K : Nat) (N : Nat) (x0 : D) (x1 : Int) : evFn Tryd.prog (envH (S1 K) []) t39_h N Tryd.f39 [dat 24 x0, dat 3 (.lit (.int .i64 x1))] =
 bif decide (x1 > 4) then
  some (dat 3 (.lit (.int .i64 0)))
 else bif ((((elemsD (fieldD x0 1)).length : Int) == 0) == true) then
   bif isOccB (intD (fieldD x0 0)) then
    bif decide (0 <= (intD (fieldD x0 0))) then
     some (dat 3 (.lit (.int .i64 (shlI .i64 1 (intD (fieldD x0 0))))))
    else none
   else bif ((((elemsD (fieldD x0 1)).length : Int) != 2) == false) then
     bif ((intD (fieldD x0 0)) != 0) then
      some (dat 3 (.lit (.int .i64 0)))
     else bif (decide (0 <= (0 : Int)) && decide ((0 : Int) < ((elemsD (fieldD x0 1)).length : Int))) then
       bif ((IntKind.wrap .i64 (x1 + 1)) == 5 - (K : Int)) then
        bif (decide (0 <= (1 : Int)) && decide ((1 : Int) < ((elemsD (fieldD x0 1)).length : Int))) then
         bif ((IntKind.wrap .i64 (x1 + 1)) == 5 - (K : Int)) then
          bif (((setK K ((elemsD (fieldD x0 1)).getD 0 .nil)) == 0) == false) then
           bif (((setK K ((elemsD (fieldD x0 1)).getD 1 .nil)) == 0) == false) then
            bif ((andI .i64 (setK K ((elemsD (fieldD x0 1)).getD 0 .nil)) (setK K ((elemsD (fieldD x0 1)).getD 1 .nil))) != 0) then
             some (dat 3 (.lit (.int .i64 0)))
            else some (dat 3 (.lit (.int .i64 (orI .i64 (setK K ((elemsD (fieldD x0 1)).getD 0 .nil)) (setK K ((elemsD (fieldD x0 1)).getD 1 .nil))))))
           else some (dat 3 (.lit (.int .i64 0)))
          else some (dat 3 (.lit (.int .i64 0)))
         else none
        else none
       else none
      else none
    else some (dat 3 (.lit (.int .i64 0)))
  else bif ((((elemsD (fieldD x0 1)).length : Int) != 2) == false) then
    bif ((intD (fieldD x0 0)) != 0) then
     some (dat 3 (.lit (.int .i64 0)))
    else bif (decide (0 <= (0 : Int)) && decide ((0 : Int) < ((elemsD (fieldD x0 1)).length : Int))) then
      bif ((IntKind.wrap .i64 (x1 + 1)) == 5 - (K : Int)) then
       bif (decide (0 <= (1 : Int)) && decide ((1 : Int) < ((elemsD (fieldD x0 1)).length : Int))) then
        bif ((IntKind.wrap .i64 (x1 + 1)) == 5 - (K : Int)) then
         bif (((setK K ((elemsD (fieldD x0 1)).getD 0 .nil)) == 0) == false) then
          bif (((setK K ((elemsD (fieldD x0 1)).getD 1 .nil)) == 0) == false) then
           bif ((andI .i64 (setK K ((elemsD (fieldD x0 1)).getD 0 .nil)) (setK K ((elemsD (fieldD x0 1)).getD 1 .nil))) != 0) then
            some (dat 3 (.lit (.int .i64 0)))
           else some (dat 3 (.lit (.int .i64 (orI .i64 (setK K ((elemsD (fieldD x0 1)).getD 0 .nil)) (setK K ((elemsD (fieldD x0 1)).getD 1 .nil))))))
          else some (dat 3 (.lit (.int .i64 0)))
         else some (dat 3 (.lit (.int .i64 0)))
        else none
       else none
      else none
     else none
   else some (dat 3 (.lit (.int .i64 0))) := by kernel_rfl

/- internal/strconv.FormatInt -/
def t57_h : Hints := fun _ =>  none
theorem t57 (N : Nat) (x0 : Int) (x1 : Int) : evFn Tryd.prog (envH S0 []) t57_h N Tryd.f57 [dat 3 (.lit (.int .i64 x0)), dat 3 (.lit (.int .i64 x1))] =
 bif (x1 == 10) then
  bif ((decide ((0 : Int) <= x0)) == true) then
   bif decide (x0 < 100) then
    bif (decide (0 <= x0) && decide (x0 < 10)) then
     some (dat 9 (.lit (.string (digitL x0))))
    else none
   else bif decide (x0 < 0) then
     none
    else none
  else bif decide (x0 < 0) then
    none
   else none
 else none := by kernel_rfl

/- roadbook/tree.neverMay -/
def t53_h : Hints := fun _ =>  none
theorem t53 (N : Nat)  : evFn Tryd.prog (envH S0 []) t53_h N Tryd.f53 [] =
 some (dat 24 (.agg [.lit (.int .i64 0), .slice [leafD 0, leafD 0] []])) := by kernel_rfl

end X
end
section
namespace X
open Go.Ev
set_option linter.unusedVariables false
set_option linter.unusedSimpArgs false
set_option maxRecDepth 10000

theorem k39 : FnOK Tryd.prog 39 Tryd.f39 := ⟨Tryd.func39, rfl, by kernel_rfl⟩
theorem k57 : FnOK Tryd.prog 57 Tryd.f57 := ⟨Tryd.func57, rfl, by kernel_rfl⟩
theorem k53 : FnOK Tryd.prog 53 Tryd.f53 := ⟨Tryd.func53, rfl, by kernel_rfl⟩
theorem t39z (N : Nat) (x0 : D) : evFn Tryd.prog (envH S0 []) t39_h N Tryd.f39 [dat 24 x0, dat 3 (.lit (.int .i64 5))] = some (dat 3 (.lit (.int .i64 0))) := by kernel_rfl
theorem len2 {n : Nat} (h : ((n : Int) != 2) = false) : (decide (0 <= (0 : Int)) && decide ((0 : Int) < (n : Int))) = true /\ (decide (0 <= (1 : Int)) && decide ((1 : Int) < (n : Int))) = true := by
 have h : (n : Int) = 2 := by simpa using h
 rw [h]
 exact ⟨rfl, rfl⟩
theorem c39z : ∀ args d, (e39 0).2.2.1 args = true -> (e39 0).2.2.2 args = some d -> CallOK Tryd.prog 39 args (mkRes Tryd.prog 3 d) :=
 ent2p k39 fun x y d hq h ⟨_, hx⟩ ⟨_, hy⟩ => by
  cases h
  obtain ⟨z, rfl, hz⟩ := ty3' hy
  rw [n24, n3]
  have hq : (z == 5 - ((0 : Nat) : Int)) = true := hq
  have : z = 5 := by have := eq_of_beq hq; omega
  subst this
  exact fn_ok hm envS0 k39 (t39z 0 x)
theorem c39 (K : Nat) (henv : EnvOK Tryd.prog (envH (S1 K) [])) : ∀ args d, (e39 (K + 1)).2.2.1 args = true -> (e39 (K + 1)).2.2.2 args = some d -> CallOK Tryd.prog 39 args (mkRes Tryd.prog 3 d) :=
 ent2p k39 fun x y d hq h ⟨_, hx⟩ ⟨_, hy⟩ => by
  cases h
  obtain ⟨z, rfl, hz⟩ := ty3' hy
  rw [n24, n3]
  have hq : (z == 5 - ((K + 1 : Nat) : Int)) = true := hq
  have hz' : z = 4 - (K : Int) := by have := eq_of_beq hq; omega
  have h4 : decide (z > 4) = false := by rw [decide_eq_false_iff_not]; omega
  rw [inR_iff] at hz
  have hw : IntKind.wrap .i64 (z + 1) = z + 1 := wrap_in (by rw [inR_iff]; omega)
  have hk : (z + 1 == 5 - (K : Int)) = true := by rw [beq_iff_eq]; omega
  refine fn_ok hm henv k39 ((t39 K 0 x z).trans ?_)
  rw [m3, h4, cond_false, hw, hk]
  show _ = some (dat 3 (.lit (.int .i64 (setK (K + 1) x))))
  rw [setK_succ, show elemsD (fieldD x 1) = tkids x from rfl, show intD (fieldD x 0) = tocc x from rfl]
  cases h1 : (((tkids x).length : Int) == 0) with
  | true =>
   cases h2 : isOccB (tocc x) with
   | true =>
    have h3 : decide (0 <= tocc x) = true := by
     unfold isOccB at h2
     rw [Bool.and_eq_true] at h2
     exact h2.1
    rw [h3]
    rfl
   | false =>
    have h3 : (((tkids x).length : Int) != 2) = true := by
     have := eq_of_beq h1
     rw [bne_iff_ne]; omega
    rw [h3]
    rfl
  | false =>
   cases h3 : (((tkids x).length : Int) != 2) with
   | true => rfl
   | false =>
    obtain ⟨l0, l1⟩ := len2 h3
    rw [l0, l1]
    cases h5 : (tocc x != 0) with
    | true => rfl
    | false =>
     cases h6 : (setK K ((tkids x).getD 0 .nil) == 0) <;> cases h7 : (setK K ((tkids x).getD 1 .nil) == 0) <;> cases h8 : (andI .i64 (setK K ((tkids x).getD 0 .nil)) (setK K ((tkids x).getD 1 .nil)) != 0) <;> rfl
theorem envS1 : ∀ K : Nat, EnvOK Tryd.prog (envH (S1 K) [])
 | 0 => envOK_cons' envS0 c39z
 | K + 1 => envOK_cons' envS0 (c39 K (envS1 K))
def e57 : FuncId × TypeId × (List AV -> Bool) × (List AV -> Option D) := (57, 9, preD (q2 fun x y => decide (0 <= intD x) && decide (intD x < 10) && (intD y == (10 : Int))), ent [3, 3] (f2 fun x y => some (.lit (.string (digitL (intD x))))))
theorem c57 : ∀ args d, e57.2.2.1 args = true -> e57.2.2.2 args = some d -> CallOK Tryd.prog 57 args (mkRes Tryd.prog 9 d) :=
 ent2p k57 fun x y d hq h ⟨_, hx⟩ ⟨_, hy⟩ => by
  cases h
  obtain ⟨z, rfl, hz⟩ := ty3' hx
  obtain ⟨u, rfl, hu⟩ := ty3' hy
  rw [n3, n3]
  have hq : (decide (0 <= z) && decide (z < 10) && (u == (10 : Int))) = true := hq
  rw [Bool.and_eq_true] at hq
  have h1 := hq.1
  rw [Bool.and_eq_true, decide_eq_true_eq, decide_eq_true_eq] at h1
  refine fn_ok hm envS0 k57 ((t57 0 z u).trans ?_)
  have h0 : (decide ((0 : Int) <= z)) = true := by simpa using h1.1
  have h100 : decide (z < 100) = true := by rw [decide_eq_true_eq]; omega
  have hp := hq.1
  rw [hq.2, cond_true, h100, hp, h0, m9]
  rfl
def S2 : Tab := e57 :: S0
theorem envS2 : EnvOK Tryd.prog (envH S2 []) := envOK_cons' envS0 c57
def e53 : FuncId × TypeId × (List AV -> Bool) × (List AV -> Option D) := (53, 24, yes, ent [] (f0 (some (nodeD [leafD 0, leafD 0]))))
theorem c53 : ∀ args d, e53.2.2.2 args = some d -> CallOK Tryd.prog 53 args (mkRes Tryd.prog 24 d) :=
 ent0 fun d h => by
  cases h
  exact fn_ok hm envS0 k53 (t53 0)

/-! ### Two trees, part by part: by levels -/
def a51 : List AV := [dat 24 .nil, dat 24 .nil, dat 3 .nil, bxp OID 3, bxp (OID + 1) 54]
def b51 : List Ent := [⟨3, .nil, 0, none⟩, ⟨54, .nil, 0, some (clo 54 51 [OID, OID + 1])⟩]
def q51 (K : Nat) : List D -> List D -> Bool := fun ds es => alPre K (ds.getD 0 .nil) (intD (ds.getD 2 .nil)) (intD (es.getD 0 .nil))
def g51 (K : Nat) : List D -> List D -> HRes
 | [a, b, dp, _, _], [n, _] => some (dat 4 (.lit (.bool (alK K a b (intD dp) (intD n)).1)), [some ⟨3, .lit (.int .i64 (alK K a b (intD dp) (intD n)).2), 0, none⟩, some ⟨54, .nil, 0, some (clo 54 51 [OID, OID + 1])⟩])
 | _, _ => none
def h51 (K : Nat) : FuncId × TypeId × (List AV -> List Ent -> Bool) × (List AV -> List Ent -> HRes) := (51, 4, preH a51 b51 (q51 K), entH a51 b51 (g51 K))
def H1 (K : Nat) : HTab := h51 K :: []
end X
end
section
namespace X
open Go.Ev
set_option linter.unusedVariables false
/- roadbook/tree.Set -/
def t22_h : Hints := fun _ =>  none
theorem t22 (N : Nat) (x0 : D) : evFn Tryd.prog (envH (S1 4) []) t22_h N Tryd.f22 [dat 24 x0] =
 bif (1 == 5 - ((4 : Nat) : Int)) then
  some (dat 3 (.lit (.int .i64 (setK 4 x0))))
 else none := by kernel_rfl

/- internal/strconv.Itoa -/
def t56_h : Hints := fun _ =>  none
theorem t56 (N : Nat) (x0 : Int) : evFn Tryd.prog (envH S2 []) t56_h N Tryd.f56 [dat 3 (.lit (.int .i64 x0))] =
 bif (decide (0 <= x0) && decide (x0 < 10) && (10 == (10 : Int))) then
  some (dat 9 (.lit (.string (digitL x0))))
 else none := by kernel_rfl

/- roadbook/tree.alike$1 -/
def t51_h : Hints := fun i => if i = 5 then some ([0, 1, 3, 5, 7, 8, 9, 10, 11, 12, 13, 14, 15, 16, 17, 18, 19, 20, 21, 22, 23, 24, 25, 26, 27, 28, 29, 30, 31, 32, 33, 34, 35, 39, 40, 41, 42, 43, 44, 45, 46, 47, 48, 49, 50, 51, 52, 53, 54], [6, 1000000, 1000001], []) else none
def t51_lp5 (P : Program) (fn : Func) (K : Nat) (N n : Nat) (x0 : D) (x1 : D) (x2 : Int) (q : Int) (v38 : Int) (b1000000 : Int) : Option (AV × List (Option Ent)) := evLoop (preL t51_h (sub [1, 1, 1, 0, 1, 0, 0] (bodyOf fn))) (evCode P (envH [] (H1 K)) t51_h N (sub [1, 1, 1, 0, 1, 0, 0] (bodyOf fn))) n ⟨[dead, dead, dat 3 (.lit (.int .i64 x2)), dead, bxp 1000001 54, dead, bxp 6 24, dead, dead, dead, dead, dead, dead, dead, dead, dead, dead, dead, dead, dead, dead, dead, dead, dead, dead, dead, dead, dead, dead, dead, dead, dead, dead, dead, dead, dead, dat 22 (fieldD x0 1), dat 3 (.lit (.int .i64 ((elemsD (fieldD x0 1)).length : Int))), dat 3 (.lit (.int .i64 v38)), dead, dead, dead, dead, dead, dead, dead, dead, dead, dead, dead, dead, dead, dead, dead, dead], lookB [(6, some ⟨24, x1, 0, none⟩), (1000000, some ⟨3, .lit (.int .i64 b1000000), 0, none⟩), (1000001, some ⟨54, .nil, 0, some (clo 54 51 [1000000, 1000001])⟩)]⟩ (blockK 0 (seqC P (envH [] (H1 K)) t51_h N (sub [1, 1, 1, 1] (bodyOf fn)) (finH P fn 2) ))
theorem t51_lp5_step (K : Nat) (N n : Nat) (x0 : D) (x1 : D) (x2 : Int) (q : Int) (v38 : Int) (b1000000 : Int) : t51_lp5 Tryd.prog Tryd.f51 K N (n + 1) x0 x1 x2 q v38 b1000000 =
 bif decide (v38 < ((elemsD (fieldD x0 1)).length : Int)) then
  bif (decide (0 <= v38) && decide (v38 < ((elemsD (fieldD x0 1)).length : Int))) then
   bif (decide (0 <= v38) && decide (v38 < ((elemsD (fieldD x1 1)).length : Int))) then
    bif alPre K ((elemsD (fieldD x0 1)).getD (v38).toNat .nil) (IntKind.wrap .i64 (x2 + 1)) b1000000 then
     bif (!((alK K ((elemsD (fieldD x0 1)).getD (v38).toNat .nil) ((elemsD (fieldD x1 1)).getD (v38).toNat .nil) (IntKind.wrap .i64 (x2 + 1)) b1000000).1)) then
      some (dat 4 (.lit (.bool false)), [some ⟨3, .lit (.int .i64 ((alK K ((elemsD (fieldD x0 1)).getD (v38).toNat .nil) ((elemsD (fieldD x1 1)).getD (v38).toNat .nil) (IntKind.wrap .i64 (x2 + 1)) b1000000).2)), 0, none⟩, some ⟨54, .nil, 0, some (clo 54 51 [1000000, 1000001])⟩])
     else t51_lp5 Tryd.prog Tryd.f51 K N n x0 x1 x2 q (IntKind.wrap .i64 (v38 + 1)) ((alK K ((elemsD (fieldD x0 1)).getD (v38).toNat .nil) ((elemsD (fieldD x1 1)).getD (v38).toNat .nil) (IntKind.wrap .i64 (x2 + 1)) b1000000).2)
    else none
   else none
  else none
 else some (dat 4 (.lit (.bool true)), [some ⟨3, .lit (.int .i64 b1000000), 0, none⟩, some ⟨54, .nil, 0, some (clo 54 51 [1000000, 1000001])⟩]) := by kernel_rfl
theorem t51 (K : Nat) (N : Nat) (x0 : D) (x1 : D) (x2 : Int) (q : Int) : evFnH Tryd.prog (envH [] (H1 K)) t51_h N Tryd.f51 [dat 24 x0, dat 24 x1, dat 3 (.lit (.int .i64 x2)), bxp 1000000 3, bxp 1000001 54] [⟨3, .lit (.int .i64 q), 0, none⟩, ⟨54, .nil, 0, some (clo 54 51 [1000000, 1000001])⟩] =
 bif ((decide ((IntKind.wrap .i64 (q - 1)) < 0)) == false) then
  bif ((decide (x2 > 131072)) == false) then
   bif (((intD (fieldD x0 0)) != (intD (fieldD x1 0))) == false) then
    bif (((elemsD (fieldD x0 1)).length : Int) != ((elemsD (fieldD x1 1)).length : Int)) then
     some (dat 4 (.lit (.bool false)), [some ⟨3, .lit (.int .i64 (IntKind.wrap .i64 (q - 1))), 0, none⟩, some ⟨54, .nil, 0, some (clo 54 51 [1000000, 1000001])⟩])
    else t51_lp5 Tryd.prog Tryd.f51 K N N x0 x1 x2 q 0 (IntKind.wrap .i64 (q - 1))
   else some (dat 4 (.lit (.bool false)), [some ⟨3, .lit (.int .i64 (IntKind.wrap .i64 (q - 1))), 0, none⟩, some ⟨54, .nil, 0, some (clo 54 51 [1000000, 1000001])⟩])
  else some (dat 4 (.lit (.bool false)), [some ⟨3, .lit (.int .i64 (IntKind.wrap .i64 (q - 1))), 0, none⟩, some ⟨54, .nil, 0, some (clo 54 51 [1000000, 1000001])⟩])
 else some (dat 4 (.lit (.bool false)), [some ⟨3, .lit (.int .i64 (IntKind.wrap .i64 (q - 1))), 0, none⟩, some ⟨54, .nil, 0, some (clo 54 51 [1000000, 1000001])⟩]) := by kernel_rfl

end X
end
section
namespace X
open Go.Ev
set_option linter.unusedVariables false
set_option linter.unusedSimpArgs false
set_option maxRecDepth 10000

theorem k22 : FnOK Tryd.prog 22 Tryd.f22 := ⟨Tryd.func22, rfl, by kernel_rfl⟩
theorem k56 : FnOK Tryd.prog 56 Tryd.f56 := ⟨Tryd.func56, rfl, by kernel_rfl⟩
theorem k51 : FnOK Tryd.prog 51 Tryd.f51 := ⟨Tryd.func51, rfl, by kernel_rfl⟩
def e22 : FuncId × TypeId × (List AV -> Bool) × (List AV -> Option D) := (22, 3, yes, ent [24] (f1 fun x => some (.lit (.int .i64 (setT x)))))
theorem c22 : ∀ args d, e22.2.2.2 args = some d -> CallOK Tryd.prog 22 args (mkRes Tryd.prog 3 d) :=
 ent1 k22 fun x d h ⟨_, hx⟩ => by
  cases h
  rw [n24]
  exact fn_ok hm (envS1 4) k22 (t22 0 x)
def e56 : FuncId × TypeId × (List AV -> Bool) × (List AV -> Option D) := (56, 9, preD (q1 fun x => decide (0 <= intD x) && decide (intD x < 10)), ent [3] (f1 fun x => some (.lit (.string (digitL (intD x))))))
theorem c56 : ∀ args d, e56.2.2.1 args = true -> e56.2.2.2 args = some d -> CallOK Tryd.prog 56 args (mkRes Tryd.prog 9 d) :=
 ent1p k56 fun x d hq h ⟨_, hx⟩ => by
  cases h
  obtain ⟨z, rfl, hz⟩ := ty3' hx
  rw [n3]
  have hq : (decide (0 <= z) && decide (z < 10)) = true := hq
  refine fn_ok hm envS2 k56 ((t56 0 z).trans ?_)
  rw [hq, m9]
  rfl
def S3 : Tab := e56 :: e22 :: e53 :: S0
theorem envS3 : EnvOK Tryd.prog (envH S3 []) := envOK_cons' (envOK_cons (envOK_cons envS0 c53) c22) c56

theorem al_loop {K N : Nat} {x0 x1 : D} {x2 q : Int} (hl : (tkids x0).length <= maxLen) (hlen : (tkids x0).length = (tkids x1).length) (h2 : 0 <= x2) (h3 : x2 <= 131072) (hok : ∀ p ∈ tkids x0, okT K p = true) : ∀ (n i : Nat) (b : Int), i <= (tkids x0).length -> (tkids x0).length - i < n -> 0 <= b -> b <= 2147483647 ->
  t51_lp5 Tryd.prog Tryd.f51 K N n x0 x1 x2 q (i : Int) b = some (dat 4 (.lit (.bool (al2 (fun x y m => alK K x y (x2 + 1) m) ((tkids x0).drop i) ((tkids x1).drop i) b).1)),
   [some ⟨3, .lit (.int .i64 (al2 (fun x y m => alK K x y (x2 + 1) m) ((tkids x0).drop i) ((tkids x1).drop i) b).2), 0, none⟩, some ⟨54, .nil, 0, some (clo 54 51 [1000000, 1000001])⟩])
 | 0, i, b, _, h, _, _ => by omega
 | n + 1, i, b, hi, h, h0, hb => by
  rw [t51_lp5_step, show elemsD (fieldD x0 1) = tkids x0 from rfl, show elemsD (fieldD x1 1) = tkids x1 from rfl]
  have hw : IntKind.wrap .i64 (x2 + 1) = x2 + 1 := wrap_in (by rw [inR_iff]; omega)
  rw [hw]
  by_cases hlt : i < (tkids x0).length
  ·have hlt1 : i < (tkids x1).length := by omega
   have h1 : decide ((i : Int) < ((tkids x0).length : Int)) = true := by simpa using hlt
   have hpre : alPre K (tkids x0)[i] (x2 + 1) b = true := by
    simp only [alPre, Bool.and_eq_true, decide_eq_true_eq]
    exact ⟨⟨⟨⟨hok _ (List.getElem_mem hlt), h0⟩, hb⟩, by omega⟩, by omega⟩
   rw [idx_ok hlt, idx_ok hlt1, h1, cond_true, cond_true, cond_true, Int.toNat_natCast, getD_lt hlt, getD_lt hlt1, hpre, cond_true, List.drop_eq_getElem_cons hlt, List.drop_eq_getElem_cons hlt1, al2_cons]
   cases hbb : (alK K (tkids x0)[i] (tkids x1)[i] (x2 + 1) b).1 with
   | false => rw [Bool.not_false, cond_true, cond_false]
   | true =>
    obtain ⟨b0, b1⟩ := alK_bound K _ _ _ _ h0 hbb
    rw [Bool.not_true, cond_false, cond_true, wrap_step hl hlt]
    exact al_loop hl hlen h2 h3 hok n (i + 1) _ (by omega) (by omega) b0 (by omega)
  ·have h1 : decide ((i : Int) < ((tkids x0).length : Int)) = false := by simpa using hlt
   have h4 : (tkids x0).drop i = [] := List.drop_of_length_le (by omega)
   have h5 : (tkids x1).drop i = [] := List.drop_of_length_le (by omega)
   rw [h1, h4, h5, cond_false]
   rfl

theorem g51_inv {K : Nat} {ds es : List D} {r : AV} {h' : List (Option Ent)} (hg : g51 K ds es = some (r, h')) : ∃ a b dp y1 y2 n u, ds = [a, b, dp, y1, y2] /\ es = [n, u] /\ r = dat 4 (.lit (.bool (alK K a b (intD dp) (intD n)).1)) /\
  h' = [some ⟨3, .lit (.int .i64 (alK K a b (intD dp) (intD n)).2), 0, none⟩, some ⟨54, .nil, 0, some (clo 54 51 [OID, OID + 1])⟩] := by
 unfold g51 at hg
 split at hg
 ·rename_i a b dp y1 y2 n u
  cases hg
  exact ⟨a, b, dp, y1, y2, n, u, rfl, rfl, rfl, rfl⟩
 ·cases hg

theorem c51 (K : Nat) (henv : EnvOK Tryd.prog (envH [] (H1 K))) : ∀ args hh r h', (h51 (K + 1)).2.2.1 args hh = true -> (h51 (K + 1)).2.2.2 args hh = some (r, h') -> HCallOK Tryd.prog 51 args hh r h' :=
 entH_ok rfl rfl fun ds es r h' hq hg => by
  obtain ⟨a, b, dp, y1, y2, n, u, rfl, rfl, rfl, rfl⟩ := g51_inv hg
  refine HCallOK.typed k51.ex fun ht he => ?_
  obtain ⟨_, t0⟩ := ht (dat 24 a) (by simp [fillA, a51, dat, bxp]) rfl
  obtain ⟨_, t1⟩ := ht (dat 24 b) (by simp [fillA, a51, dat, bxp]) rfl
  obtain ⟨_, t2⟩ := ht (dat 3 dp) (by simp [fillA, a51, dat, bxp]) rfl
  obtain ⟨_, te⟩ := he ⟨3, n, 0, none⟩ (by simp [fillE, b51]) rfl rfl
  obtain ⟨z, rfl, hz⟩ := ty3' t2
  obtain ⟨q, rfl, hq2⟩ := ty3' te
  have hpre : alPre (K + 1) a z q = true := hq
  simp only [alPre, Bool.and_eq_true, decide_eq_true_eq, okT_succ, List.all_eq_true] at hpre
  obtain ⟨⟨⟨⟨p1, p2⟩, p3⟩, p4⟩, p5⟩ := hpre
  have t0 : Ty Tryd.prog _ 24 a := t0
  obtain ⟨hl, _⟩ := ty_len t0
  refine fnH_ok hm henv k51 ((t51 K ((tkids a).length + 1) a b z q).trans ?_)
  show _ = some (dat 4 (.lit (.bool (alK (K + 1) a b z q).1)), [some (⟨3, .lit (.int .i64 (alK (K + 1) a b z q).2), 0, none⟩ : Ent), some ⟨54, .nil, 0, some (clo 54 51 [1000000, 1000001])⟩])
  have hw : IntKind.wrap .i64 (q - 1) = q - 1 := wrap_in (by rw [inR_iff]; omega)
  rw [alK_succ, hw, show elemsD (fieldD a 1) = tkids a from rfl, show elemsD (fieldD b 1) = tkids b from rfl, show intD (fieldD a 0) = tocc a from rfl, show intD (fieldD b 0) = tocc b from rfl]
  by_cases h1 : q - 1 < 0
  ·have d1 : decide (q - 1 < 0) = true := by simpa using h1
   rw [d1]
   rfl
  ·have d1 : decide (q - 1 < 0) = false := by simpa using h1
   rw [d1]
   by_cases h2 : z > 131072
   ·have d2 : decide (z > 131072) = true := by simpa using h2
    rw [d2]
    rfl
   ·have d2 : decide (z > 131072) = false := by simpa using h2
    rw [d2]
    cases h3 : (tocc a != tocc b) with
    | true => rfl
    | false =>
     cases h4 : (((tkids a).length : Int) != ((tkids b).length : Int)) with
     | true => rfl
     | false =>
      have h5 : (tkids a).length = (tkids b).length := by
       have : ((tkids a).length : Int) = ((tkids b).length : Int) := by simpa using h4
       omega
      have := al_loop (K := K) (N := (tkids a).length + 1) (q := q) (x1 := b) hl h5 p4 (by omega) p1 ((tkids a).length + 1) 0 (q - 1) (Nat.zero_le _) (by omega) (by omega) (by omega)
      simpa using this
theorem envH1 : ∀ K : Nat, EnvOK Tryd.prog (envH [] (H1 K))
 | 0 => envOK_consH env0 (fun args hh r h' hp hd => by
   exfalso
   have hp : (allA a51 args && allE b51 hh && q51 0 (args.map (·.d)) (hh.map (·.d))) = true := hp
   rw [Bool.and_eq_true] at hp
   have h2 := hp.2
   simp only [q51, alPre, okT, Bool.false_and, Bool.false_eq_true] at h2)
 | K + 1 => envOK_consH env0 (c51 K (envH1 K))
end X
end
section
namespace X
open Go.Ev
set_option linter.unusedVariables false
/- roadbook/tree.May -/
def t20_h : Hints := fun _ =>  none
theorem t20 (N : Nat) (x0 : D) : evFn Tryd.prog (envH S3 []) t20_h N Tryd.f20 [dat 24 x0] =
 some (dat 4 (.lit (.bool ((setT x0) != 0)))) := by kernel_rfl

/- strconv.Itoa -/
def t55_h : Hints := fun _ =>  none
theorem t55 (N : Nat) (x0 : Int) : evFn Tryd.prog (envH S3 []) t55_h N Tryd.f55 [dat 3 (.lit (.int .i64 x0))] =
 bif (decide (0 <= x0) && decide (x0 < 10)) then
  some (dat 9 (.lit (.string (digitL x0))))
 else none := by kernel_rfl

/- roadbook/tree.alike -/
def t40_h : Hints := fun _ =>  none
theorem t40 (N : Nat) (x0 : D) (x1 : D) (x2 : Int) : evFn Tryd.prog (envH [] (H1 130)) t40_h N Tryd.f40 [dat 24 x0, dat 24 x1, dat 3 (.lit (.int .i64 x2))] =
 bif alPre 130 x0 1 x2 then
  some (dat 4 (.lit (.bool ((alK 130 x0 x1 1 x2).1))))
 else none := by kernel_rfl

end X
end
section
namespace X
open Go.Ev
set_option linter.unusedVariables false
set_option linter.unusedSimpArgs false
set_option maxRecDepth 10000

theorem k20 : FnOK Tryd.prog 20 Tryd.f20 := ⟨Tryd.func20, rfl, by kernel_rfl⟩
theorem k55 : FnOK Tryd.prog 55 Tryd.f55 := ⟨Tryd.func55, rfl, by kernel_rfl⟩
theorem k40 : FnOK Tryd.prog 40 Tryd.f40 := ⟨Tryd.func40, rfl, by kernel_rfl⟩
def e20 : FuncId × TypeId × (List AV -> Bool) × (List AV -> Option D) := (20, 4, yes, ent [24] (f1 fun x => some (.lit (.bool (mayT x)))))
theorem c20 : ∀ args d, e20.2.2.2 args = some d -> CallOK Tryd.prog 20 args (mkRes Tryd.prog 4 d) :=
 ent1 k20 fun x d h ⟨_, hx⟩ => by
  cases h
  rw [n24]
  exact fn_ok hm envS3 k20 (t20 0 x)
def e55 : FuncId × TypeId × (List AV -> Bool) × (List AV -> Option D) := (55, 9, preD (q1 fun x => decide (0 <= intD x) && decide (intD x < 10)), ent [3] (f1 fun x => some (.lit (.string (digitL (intD x))))))
theorem c55 : ∀ args d, e55.2.2.1 args = true -> e55.2.2.2 args = some d -> CallOK Tryd.prog 55 args (mkRes Tryd.prog 9 d) :=
 ent1p k55 fun x d hq h ⟨_, hx⟩ => by
  cases h
  obtain ⟨z, rfl, hz⟩ := ty3' hx
  rw [n3]
  have hq : (decide (0 <= z) && decide (z < 10)) = true := hq
  refine fn_ok hm envS3 k55 ((t55 0 z).trans ?_)
  rw [hq, m9]
  rfl
def e40 : FuncId × TypeId × (List AV -> Bool) × (List AV -> Option D) := (40, 4, preD (q3 fun x y z => alPre 130 x 1 (intD z)), ent [24, 24, 3] (f3 fun x y z => some (.lit (.bool (alK 130 x y 1 (intD z)).1))))
theorem c40 : ∀ args d, e40.2.2.1 args = true -> e40.2.2.2 args = some d -> CallOK Tryd.prog 40 args (mkRes Tryd.prog 4 d) :=
 ent3p k40 fun x y z d hq h ⟨_, hx⟩ ⟨_, hy⟩ ⟨_, hz⟩ => by
  cases h
  obtain ⟨u, rfl, hu⟩ := ty3' hz
  rw [n24, n24, n3]
  have hq : alPre 130 x 1 u = true := hq
  refine fn_ok hm (envH1 130) k40 ((t40 0 x y u).trans ?_)
  rw [hq, m4]
  rfl
def S4 : Tab := e40 :: e55 :: e20 :: S3
theorem envS4 : EnvOK Tryd.prog (envH S4 []) := envOK_cons' (envOK_cons' (envOK_cons envS3 c20) c55) c40
def e54 (K : Nat) : FuncId × TypeId × (List AV -> Bool) × (List AV -> Option D) := (54, 24, preD (q1 fun x => smK K x), ent [24] (f1 fun x => some x))
def e42 (K : Nat) : FuncId × TypeId × (List AV -> Bool) × (List AV -> Option D) := (42, 9, preD (q1 fun x => (setK K x != 0) && decide (K <= 20)), ent [24] (f1 fun x => some (.lit (.string (textK K x)))))
def S5 (K : Nat) : Tab := e54 K :: S4
def S6 (K : Nat) : Tab := e42 K :: S4
end X
end
section
namespace X
open Go.Ev
set_option linter.unusedVariables false
/- roadbook/tree.small -/
def t52_h : Hints := fun _ =>  none
theorem t52 (N : Nat) (x0 : D) : evFn Tryd.prog (envH S4 []) t52_h N Tryd.f52 [dat 24 x0] =
 bif alPre 130 x0 1 67108864 then
  some (dat 4 (.lit (.bool ((alK 130 x0 x0 1 67108864).1))))
 else none := by kernel_rfl

/- roadbook/tree.Same -/
def t24_h : Hints := fun _ =>  none
theorem t24 (N : Nat) (x0 : D) (x1 : D) : evFn Tryd.prog (envH S4 []) t24_h N Tryd.f24 [dat 24 x0, dat 24 x1] =
 bif alPre 130 x0 1 2147483647 then
  some (dat 4 (.lit (.bool ((alK 130 x0 x1 1 2147483647).1))))
 else none := by kernel_rfl

/- roadbook/tree.copied -/
def t54_h : Hints := fun i => if i = 5 then some ([0, 4, 5, 6, 7, 8, 9, 10, 11, 12, 13, 14, 15, 16, 17, 21, 22, 23, 24, 25, 26, 27, 28, 29, 30, 31, 32, 33, 34], [1, 2, 16], []) else none
def t54_lp5 (P : Program) (fn : Func) (K : Nat) (N n : Nat) (x0 : D) (v20 : Int) (b16 : List D) : Option AV := evLoop (preL t54_h (sub [1, 1, 1, 0, 1, 0, 0] (bodyOf fn))) (evCode P (envH (S5 K) []) t54_h N (sub [1, 1, 1, 0, 1, 0, 0] (bodyOf fn))) n ⟨[dead, bxp 1 24, bxp 2 24, bxp 16 22, dead, dead, dead, dead, dead, dead, dead, dead, dead, dead, dead, dead, dead, dead, dat 22 (fieldD x0 1), dat 3 (.lit (.int .i64 ((elemsD (fieldD x0 1)).length : Int))), dat 3 (.lit (.int .i64 v20)), dead, dead, dead, dead, dead, dead, dead, dead, dead, dead, dead, dead, dead, dead], lookB [(1, some ⟨24, x0, 0, none⟩), (2, some ⟨24, .agg [.lit (.int .i64 0), .slice [] []], 0, none⟩), (16, some ⟨22, .slice b16 [], 2, none⟩)]⟩ (blockK 0 (seqC P (envH (S5 K) []) t54_h N (sub [1, 1, 1, 1] (bodyOf fn)) (finK P fn) ))
theorem t54_lp5_step (K : Nat) (N n : Nat) (x0 : D) (v20 : Int) (b16 : List D) : t54_lp5 Tryd.prog Tryd.f54 K N (n + 1) x0 v20 b16 =
 bif decide (v20 < ((elemsD (fieldD x0 1)).length : Int)) then
  bif (decide (0 <= v20) && decide (v20 < ((elemsD (fieldD x0 1)).length : Int))) then
   bif smK K ((elemsD (fieldD x0 1)).getD (v20).toNat .nil) then
    bif (decide (0 <= v20) && decide (v20 < (b16.length : Int))) then
     t54_lp5 Tryd.prog Tryd.f54 K N n x0 (IntKind.wrap .i64 (v20 + 1)) (b16.set (v20).toNat ((elemsD (fieldD x0 1)).getD (v20).toNat .nil))
    else none
   else none
  else none
 else some (dat 24 (.agg [.lit (.int .i64 (intD (fieldD x0 0))), .slice b16 []])) := by kernel_rfl
theorem t54 (K : Nat) (N : Nat) (x0 : D) : evFn Tryd.prog (envH (S5 K) []) t54_h N Tryd.f54 [dat 24 x0] =
 bif (((elemsD (fieldD x0 1)).length : Int) == 0) then
  some (dat 24 (leafD (intD (fieldD x0 0))))
 else bif (decide (0 <= ((elemsD (fieldD x0 1)).length : Int)) && decide (((elemsD (fieldD x0 1)).length : Int) <= 2147483648)) then
   t54_lp5 Tryd.prog Tryd.f54 K N N x0 0 (List.replicate (((elemsD (fieldD x0 1)).length : Int)).toNat (.agg [.lit (.int .i64 0), .slice [] []] : D))
  else none := by kernel_rfl

/- roadbook/tree.written -/
def t42_h : Hints := fun _ =>  none
theorem t42 (K : Nat) (N : Nat) (x0 : D) : evFn Tryd.prog (envH (S6 K) []) t42_h N Tryd.f42 [dat 24 x0] =
 bif (((elemsD (fieldD x0 1)).length : Int) == 0) then
  bif (decide (0 <= (intD (fieldD x0 0))) && decide ((intD (fieldD x0 0)) < 10)) then
   some (dat 9 (.lit (.string (digitL (intD (fieldD x0 0))))))
  else none
 else bif (decide (0 <= (0 : Int)) && decide ((0 : Int) < ((elemsD (fieldD x0 1)).length : Int))) then
   bif ((setK K ((elemsD (fieldD x0 1)).getD 0 .nil) != 0) && decide (K <= 20)) then
    bif decide ((([40] : List UInt8)).length + (textK K ((elemsD (fieldD x0 1)).getD 0 .nil)).length <= 4294967296) then
     bif (decide (0 <= (1 : Int)) && decide ((1 : Int) < ((elemsD (fieldD x0 1)).length : Int))) then
      bif ((setK K ((elemsD (fieldD x0 1)).getD 1 .nil) != 0) && decide (K <= 20)) then
       bif decide (((([40] : List UInt8) ++ (textK K ((elemsD (fieldD x0 1)).getD 0 .nil)))).length + (textK K ((elemsD (fieldD x0 1)).getD 1 .nil)).length <= 4294967296) then
        bif decide ((((([40] : List UInt8) ++ (textK K ((elemsD (fieldD x0 1)).getD 0 .nil))) ++ (textK K ((elemsD (fieldD x0 1)).getD 1 .nil)))).length + (([41] : List UInt8)).length <= 4294967296) then
         some (dat 9 (.lit (.string (((([40] : List UInt8) ++ (textK K ((elemsD (fieldD x0 1)).getD 0 .nil))) ++ (textK K ((elemsD (fieldD x0 1)).getD 1 .nil))) ++ ([41] : List UInt8)))))
        else none
       else none
      else none
     else none
    else none
   else none
  else none := by kernel_rfl

end X
end
section
namespace X
open Go.Ev
set_option linter.unusedVariables false
set_option linter.unusedSimpArgs false
set_option maxRecDepth 10000

theorem k52 : FnOK Tryd.prog 52 Tryd.f52 := ⟨Tryd.func52, rfl, by kernel_rfl⟩
theorem k24 : FnOK Tryd.prog 24 Tryd.f24 := ⟨Tryd.func24, rfl, by kernel_rfl⟩
theorem k54 : FnOK Tryd.prog 54 Tryd.f54 := ⟨Tryd.func54, rfl, by kernel_rfl⟩
theorem k42 : FnOK Tryd.prog 42 Tryd.f42 := ⟨Tryd.func42, rfl, by kernel_rfl⟩
def e52 : FuncId × TypeId × (List AV -> Bool) × (List AV -> Option D) := (52, 4, preD (q1 fun x => smT x), ent [24] (f1 fun x => some (.lit (.bool true))))
theorem c52 : ∀ args d, e52.2.2.1 args = true -> e52.2.2.2 args = some d -> CallOK Tryd.prog 52 args (mkRes Tryd.prog 4 d) :=
 ent1p k52 fun x d hq h ⟨_, hx⟩ => by
  cases h
  rw [n24]
  have hq : smT x = true := hq
  obtain ⟨_, _, h3, h4⟩ := same_of_small (b := x) hq
  refine fn_ok hm envS4 k52 ((t52 0 x).trans ?_)
  have hr : eqT x x = true := by
   unfold smT smK at hq
   rw [Bool.and_eq_true] at hq
   exact eqK_refl 130 x hq.1
  rw [h4, cond_true, h3, hr, m4]
  rfl
def e24 : FuncId × TypeId × (List AV -> Bool) × (List AV -> Option D) := (24, 4, preD (q2 fun x y => smT x), ent [24, 24] (f2 fun x y => some (.lit (.bool (eqT x y)))))
theorem c24 : ∀ args d, e24.2.2.1 args = true -> e24.2.2.2 args = some d -> CallOK Tryd.prog 24 args (mkRes Tryd.prog 4 d) :=
 ent2p k24 fun x y d hq h ⟨_, hx⟩ ⟨_, hy⟩ => by
  cases h
  rw [n24, n24]
  have hq : smT x = true := hq
  obtain ⟨h1, h2, _, _⟩ := same_of_small (b := y) hq
  refine fn_ok hm envS4 k24 ((t24 0 x y).trans ?_)
  rw [h2, cond_true, h1, m4]
  rfl

theorem set_take {ks tl : List D} {i : Nat} (h : i < ks.length) (ht : tl.length = ks.length - i) : (ks.take i ++ tl).set i ks[i] = ks.take (i + 1) ++ tl.drop 1 := by
 cases tl with
 | nil => simp at ht; omega
 | cons b tl =>
  rw [List.set_append_right _ _ (by simp; omega)]
  have : i - (ks.take i).length = 0 := by simp; omega
  rw [this, List.set_cons_zero, List.take_succ_eq_append_getElem h, List.append_assoc]
  rfl
theorem cp_loop {K N : Nat} {x0 : D} (hl : (tkids x0).length <= maxLen) (hok : ∀ p ∈ tkids x0, smK K p = true) : ∀ (n i : Nat) (tl : List D), i <= (tkids x0).length -> (tkids x0).length - i < n -> tl.length = (tkids x0).length - i ->
  t54_lp5 Tryd.prog Tryd.f54 K N n x0 (i : Int) ((tkids x0).take i ++ tl) = some (dat 24 (.agg [.lit (.int .i64 (tocc x0)), .slice (tkids x0) []]))
 | 0, i, tl, _, h, _ => by omega
 | n + 1, i, tl, hi, h, htl => by
  rw [t54_lp5_step, show elemsD (fieldD x0 1) = tkids x0 from rfl, show intD (fieldD x0 0) = tocc x0 from rfl]
  by_cases hlt : i < (tkids x0).length
  ·have h1 : decide ((i : Int) < ((tkids x0).length : Int)) = true := by simpa using hlt
   have hlen : ((tkids x0).take i ++ tl).length = (tkids x0).length := by simp; omega
   rw [hlen, idx_ok hlt, h1, cond_true, cond_true, Int.toNat_natCast, getD_lt hlt, hok _ (List.getElem_mem hlt), cond_true, cond_true, wrap_step hl hlt, set_take hlt htl]
   exact cp_loop hl hok n (i + 1) (tl.drop 1) (by omega) (by omega) (by simp; omega)
  ·have h1 : decide ((i : Int) < ((tkids x0).length : Int)) = false := by simpa using hlt
   have hi2 : i = (tkids x0).length := by omega
   have htl0 : tl = [] := List.length_eq_zero_iff.1 (by omega)
   subst htl0
   rw [h1, cond_false, hi2, List.take_length, List.append_nil]
theorem ty_self {n : Nat} {x : D} (h : Ty Tryd.prog n 24 x) : x = .agg [.lit (.int .i64 (tocc x)), .slice (tkids x) []] := by
 obtain ⟨z, ks, rfl, _⟩ := ty24 h
 rfl
theorem c54 (K : Nat) (henv : EnvOK Tryd.prog (envH (S5 K) [])) : ∀ args d, (e54 (K + 1)).2.2.1 args = true -> (e54 (K + 1)).2.2.2 args = some d -> CallOK Tryd.prog 54 args (mkRes Tryd.prog 24 d) :=
 ent1p k54 fun x d hq h ⟨_, hx⟩ => by
  cases h
  rw [n24]
  have hq : smK (K + 1) x = true := hq
  obtain ⟨hl, _⟩ := ty_len hx
  refine fn_ok hm henv k54 ((t54 K ((tkids x).length + 1) x).trans ?_)
  rw [m24, show elemsD (fieldD x 1) = tkids x from rfl, show intD (fieldD x 0) = tocc x from rfl]
  have hself := ty_self hx
  cases h0 : (((tkids x).length : Int) == 0) with
  | true =>
   have : tkids x = [] := by
    have := eq_of_beq h0
    exact List.length_eq_zero_iff.1 (by omega)
   rw [cond_true]
   conv => rhs; rw [hself, this]
   rfl
  | false =>
   have hb : (decide (0 <= ((tkids x).length : Int)) && decide (((tkids x).length : Int) <= 2147483648)) = true := by
    have := len_le_sz K x
    unfold smK at hq
    rw [Bool.and_eq_true, decide_eq_true_eq] at hq
    rw [Bool.and_eq_true, decide_eq_true_eq, decide_eq_true_eq]
    omega
   rw [cond_false, hb, cond_true, Int.toNat_natCast]
   have := cp_loop (K := K) (N := (tkids x).length + 1) hl (fun p hp => smK_kid hq hp) ((tkids x).length + 1) 0 (List.replicate (tkids x).length (.agg [.lit (.int .i64 0), .slice [] []] : D)) (Nat.zero_le _) (by omega) (by simp)
   rw [List.take_zero, List.nil_append] at this
   refine this.trans ?_
   rw [<- hself]
theorem envS5 : ∀ K : Nat, EnvOK Tryd.prog (envH (S5 K) [])
 | 0 => envOK_cons' envS4 (fun args d hp hd => by
   exfalso
   have hp : q1 (fun x => smK 0 x) (args.map (·.d)) = true := hp
   unfold q1 at hp
   split at hp
   ·simp [smK, okT] at hp
   ·cases hp)
 | K + 1 => envOK_cons' envS4 (c54 K (envS5 K))

theorem c42 (K : Nat) (henv : EnvOK Tryd.prog (envH (S6 K) [])) : ∀ args d, (e42 (K + 1)).2.2.1 args = true -> (e42 (K + 1)).2.2.2 args = some d -> CallOK Tryd.prog 42 args (mkRes Tryd.prog 9 d) :=
 ent1p k42 fun x d hq h ⟨_, hx⟩ => by
  cases h
  rw [n24]
  have hq : ((setK (K + 1) x != 0) && decide (K + 1 <= 20)) = true := hq
  rw [Bool.and_eq_true, decide_eq_true_eq] at hq
  obtain ⟨hs, hK⟩ := hq
  refine fn_ok hm henv k42 ((t42 K 0 x).trans ?_)
  rw [m9, show elemsD (fieldD x 1) = tkids x from rfl, show intD (fieldD x 0) = tocc x from rfl]
  show _ = some (dat 9 (.lit (.string (textK (K + 1) x))))
  rw [textK_succ]
  rw [setK_succ] at hs
  cases h0 : (((tkids x).length : Int) == 0) with
  | true =>
   cases ho : isOccB (tocc x) with
   | true =>
    have hp : (decide (0 <= tocc x) && decide (tocc x < 10)) = true := by
     unfold isOccB at ho
     rw [Bool.and_eq_true, decide_eq_true_eq, decide_eq_true_eq] at ho
     rw [Bool.and_eq_true, decide_eq_true_eq, decide_eq_true_eq]
     omega
    rw [cond_true, hp]
    rfl
   | false =>
    exfalso
    have h3 : (((tkids x).length : Int) != 2) = true := by
     have := eq_of_beq h0
     rw [bne_iff_ne]; omega
    rw [h0, ho, h3] at hs
    cases hs
  | false =>
   rw [h0, Bool.false_and, cond_false] at hs
   rw [cond_false]
   cases h3 : (((tkids x).length : Int) != 2) with
   | true => rw [h3] at hs; cases hs
   | false =>
    obtain ⟨l0, l1⟩ := len2 h3
    rw [h3, Bool.false_or] at hs
    cases h4 : (tocc x != 0) with
    | true => rw [h4] at hs; cases hs
    | false =>
     rw [h4, cond_false] at hs
     cases h6 : (setK K ((tkids x).getD 0 .nil) == 0) with
     | true => rw [h6] at hs; cases hs
     | false =>
      cases h7 : (setK K ((tkids x).getD 1 .nil) == 0) with
      | true => rw [h6, h7] at hs; cases hs
      | false =>
       have p0 : ((setK K ((tkids x).getD 0 .nil) != 0) && decide (K <= 20)) = true := by
        unfold bne; rw [h6, Bool.and_eq_true, decide_eq_true_eq]; exact ⟨rfl, by omega⟩
       have p1 : ((setK K ((tkids x).getD 1 .nil) != 0) && decide (K <= 20)) = true := by
        unfold bne; rw [h7, Bool.and_eq_true, decide_eq_true_eq]; exact ⟨rfl, by omega⟩
       have q0 := text_len K ((tkids x).getD 0 .nil)
       have q1' := text_len K ((tkids x).getD 1 .nil)
       have hpw : 2 ^ K <= 2 ^ 20 := Nat.pow_le_pow_right (by omega) (by omega)
       have d1 : decide ((([40] : List UInt8)).length + (textK K ((tkids x).getD 0 .nil)).length <= 4294967296) = true := by
        rw [decide_eq_true_eq]; simp only [List.length_cons, List.length_nil]; omega
       have d2 : decide (((([40] : List UInt8) ++ (textK K ((tkids x).getD 0 .nil)))).length + (textK K ((tkids x).getD 1 .nil)).length <= 4294967296) = true := by
        rw [decide_eq_true_eq]; simp only [List.length_cons, List.length_append, List.length_nil]; omega
       have d3 : decide ((((([40] : List UInt8) ++ (textK K ((tkids x).getD 0 .nil))) ++ (textK K ((tkids x).getD 1 .nil)))).length + (([41] : List UInt8)).length <= 4294967296) = true := by
        rw [decide_eq_true_eq]; simp only [List.length_cons, List.length_append, List.length_nil]; omega
       rw [l0, l1, p0, p1, d1, d2, d3]
       simp only [cond_true]
       congr 4
theorem envS6 : ∀ K : Nat, EnvOK Tryd.prog (envH (S6 K) [])
 | 0 => envOK_cons' envS4 (fun args d hp hd => by
   exfalso
   have hp : q1 (fun x => (setK 0 x != 0) && decide (0 <= 20)) (args.map (·.d)) = true := hp
   unfold q1 at hp
   split at hp
   ·simp [setK] at hp
   ·cases hp)
 | K + 1 => envOK_cons' envS4 (c42 K (envS6 K))
def S7 : Tab := e42 4 :: e54 130 :: e24 :: e52 :: S4
theorem envS7 : EnvOK Tryd.prog (envH S7 []) := envOK_cons' (envOK_cons' (envOK_cons' (envOK_cons' envS4 c52) c24) (c54 129 (envS5 129))) (c42 3 (envS6 3))
end X
end
section
namespace X
open Go.Ev
set_option linter.unusedVariables false
/- roadbook/tree.Join -/
def t41_h : Hints := fun _ =>  none
theorem t41 (N : Nat) (x0 : D) (x1 : D) : evFn Tryd.prog (envH S7 []) t41_h N Tryd.f41 [dat 24 x0, dat 24 x1] =
 bif smT x0 then
  bif smT x1 then
   bif smK 130 x0 then
    bif smK 130 x1 then
     some (dat 24 (.agg [.lit (.int .i64 0), .slice [x0, x1] []]))
    else none
   else none
  else none
 else none := by kernel_rfl

/- roadbook/tree.Text -/
def t27_h : Hints := fun _ =>  none
theorem t27 (N : Nat) (x0 : D) : evFn Tryd.prog (envH S7 []) t27_h N Tryd.f27 [dat 24 x0] =
 bif (!(mayT x0)) then
  some (dat 9 (.lit (.string ([] : List UInt8))))
 else bif ((setK 4 x0 != 0) && decide (4 <= 20)) then
   some (dat 9 (.lit (.string (textK 4 x0))))
  else none := by kernel_rfl

end X
end
section
namespace X
open Go.Ev
set_option linter.unusedVariables false
set_option linter.unusedSimpArgs false
set_option maxRecDepth 10000

theorem k41 : FnOK Tryd.prog 41 Tryd.f41 := ⟨Tryd.func41, rfl, by kernel_rfl⟩
theorem k27 : FnOK Tryd.prog 27 Tryd.f27 := ⟨Tryd.func27, rfl, by kernel_rfl⟩
def e41 : FuncId × TypeId × (List AV -> Bool) × (List AV -> Option D) := (41, 24, preD (q2 fun x y => smT x && smT y), ent [24, 24] (f2 fun x y => some (nodeD [x, y])))
theorem c41 : ∀ args d, e41.2.2.1 args = true -> e41.2.2.2 args = some d -> CallOK Tryd.prog 41 args (mkRes Tryd.prog 24 d) :=
 ent2p k41 fun x y d hq h ⟨_, hx⟩ ⟨_, hy⟩ => by
  cases h
  rw [n24, n24]
  have hq : (smT x && smT y) = true := hq
  rw [Bool.and_eq_true] at hq
  have h1 : smK 130 x = true := hq.1
  have h2 : smK 130 y = true := hq.2
  refine fn_ok hm envS7 k41 ((t41 0 x y).trans ?_)
  rw [hq.1, hq.2, h1, h2, m24]
  rfl
def e27 : FuncId × TypeId × (List AV -> Bool) × (List AV -> Option D) := (27, 9, yes, ent [24] (f1 fun x => some (.lit (.string (textT x)))))
theorem c27 : ∀ args d, e27.2.2.2 args = some d -> CallOK Tryd.prog 27 args (mkRes Tryd.prog 9 d) :=
 ent1 k27 fun x d h ⟨_, hx⟩ => by
  cases h
  rw [n24]
  refine fn_ok hm envS7 k27 ((t27 0 x).trans ?_)
  rw [m9]
  unfold textT
  cases hm2 : mayT x with
  | false => rfl
  | true =>
   have h1 : (setK 4 x != 0) = true := hm2
   rw [h1]
   rfl
def S8 : Tab := e27 :: e41 :: S7
theorem envS8 : EnvOK Tryd.prog (envH S8 []) := envOK_cons (envOK_cons' envS7 c41) c27
def e9 (K : Nat) : FuncId × TypeId × (List AV -> Bool) × (List AV -> Option D) := (9, 3, preD (q2 fun x y => decide (0 <= intD y) && decide (intD y < (K : Int)) && decide (K <= 101)), ent [24, 3] (f2 fun x y => some (.lit (.int .i64 (szK K x (intD y))))))
def S9 (K : Nat) : Tab := e9 K :: []
end X
end
end Go.Proofs.YtdacippnonhahaaDoor
