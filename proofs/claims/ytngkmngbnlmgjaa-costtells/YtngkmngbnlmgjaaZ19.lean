/- Trees of functions, and lemmas. Nothing here is trusted. -/
import Derived.Test.YtngkmngbnlmgjaaRows
import Derived.Test.YtngkmngbnlmgjaaZ18
namespace Go.Proofs.Ytngkmngbnlmgjaa
section
namespace X
open Go.Ev
set_option linter.unusedVariables false
set_option maxRecDepth 10000
/- roadbook/cost.bounded -/
def t24_h : Hints := fun _ =>  none
theorem t24 (N : Nat) (x0 : Int) : evFn Try.prog (envR [] [] [] []) t24_h N Try.f24 [dat 3 (.lit (.int .i64 x0))] =
 some (dat 3 (.lit (.int .i64 (minI (maxI x0 0) 1125899906842624)))) := by kernel_rfl

/- roadbook/cost.rows -/
def t29_h : Hints := fun _ =>  none
theorem t29 (N : Nat) (x0 : Int) : evFn Try.prog (envR [] [] [] []) t29_h N Try.f29 [dat 3 (.lit (.int .i64 x0))] =
 some (dat 3 (.lit (.int .i64 (minI (maxI x0 0) 1099511627776)))) := by kernel_rfl

/- roadbook/roadbookref10.rows -/
def t27_h : Hints := fun _ =>  none
theorem t27 (N : Nat) (x0 : Int) : evFn Try.prog (envR [] [] [] []) t27_h N Try.f27 [dat 3 (.lit (.int .i64 x0))] =
 bif decide (x0 < 0) then
  some (dat 3 (.lit (.int .i64 0)))
 else bif decide (x0 > 1099511627776) then
   some (dat 3 (.lit (.int .i64 1099511627776)))
  else some (dat 3 (.lit (.int .i64 x0))) := by kernel_rfl

/- roadbook/roadbookref10.least -/
def t25_h : Hints := fun _ =>  none
theorem t25 (N : Nat) (x0 : Int) : evFn Try.prog (envR [] [] [] []) t25_h N Try.f25 [dat 3 (.lit (.int .i64 x0))] =
 bif decide (x0 > 1125899906842624) then
  some (dat 3 (.lit (.int .i64 1125899906842624)))
 else some (dat 3 (.lit (.int .i64 x0))) := by kernel_rfl

/- roadbook/cost.times -/
def t28_h : Hints := fun _ =>  none
theorem t28 (N : Nat) (x0 : Int) (x1 : Int) : evFn Try.prog (envR [] [] [] []) t28_h N Try.f28 [dat 3 (.lit (.int .i64 x0)), dat 3 (.lit (.int .i64 x1))] =
 bif ((decide (x1 > 0)) == true) then
  bif (!(x1 == 0)) then
   bif decide (x0 > (IntKind.wrap .i64 (Int.tdiv 1125899906842624 x1))) then
    some (dat 3 (.lit (.int .i64 1125899906842624)))
   else some (dat 3 (.lit (.int .i64 (IntKind.wrap .i64 (x0 * x1)))))
  else none
 else some (dat 3 (.lit (.int .i64 (IntKind.wrap .i64 (x0 * x1))))) := by kernel_rfl

/- math/bits.Len64 -/
def t33_h : Hints := fun _ =>  none
theorem t33 (N : Nat) (x0 : Int) : evFn Try.prog (envR [] [] [] []) t33_h N Try.f33 [dat 34 (.lit (.int .u64 x0))] =
 bif decide (x0 >= 4294967296) then
  bif decide ((Int.fdiv x0 (2 ^ min (32 : Int).toNat (IntKind.bits .u64))) >= 65536) then
   bif decide ((Int.fdiv (Int.fdiv x0 (2 ^ min (32 : Int).toNat (IntKind.bits .u64))) (2 ^ min (16 : Int).toNat (IntKind.bits .u64))) >= 256) then
    bif (decide (0 <= (IntKind.wrap .u8 (Int.fdiv (Int.fdiv (Int.fdiv x0 (2 ^ min (32 : Int).toNat (IntKind.bits .u64))) (2 ^ min (16 : Int).toNat (IntKind.bits .u64))) (2 ^ min (8 : Int).toNat (IntKind.bits .u64))))) && decide ((IntKind.wrap .u8 (Int.fdiv (Int.fdiv (Int.fdiv x0 (2 ^ min (32 : Int).toNat (IntKind.bits .u64))) (2 ^ min (16 : Int).toNat (IntKind.bits .u64))) (2 ^ min (8 : Int).toNat (IntKind.bits .u64)))) < (((len8T).length : Nat) : Int))) then
     some (dat 3 (.lit (.int .i64 (IntKind.wrap .i64 ((IntKind.wrap .i64 ((IntKind.wrap .i64 (32 + 16)) + 8)) + (IntKind.wrap .i64 ((len8T.getD (IntKind.wrap .u8 (Int.fdiv (Int.fdiv (Int.fdiv x0 (2 ^ min (32 : Int).toNat (IntKind.bits .u64))) (2 ^ min (16 : Int).toNat (IntKind.bits .u64))) (2 ^ min (8 : Int).toNat (IntKind.bits .u64))) : Int).toNat 0).toNat : Int)))))))
    else none
   else bif (decide (0 <= (IntKind.wrap .u8 (Int.fdiv (Int.fdiv x0 (2 ^ min (32 : Int).toNat (IntKind.bits .u64))) (2 ^ min (16 : Int).toNat (IntKind.bits .u64))))) && decide ((IntKind.wrap .u8 (Int.fdiv (Int.fdiv x0 (2 ^ min (32 : Int).toNat (IntKind.bits .u64))) (2 ^ min (16 : Int).toNat (IntKind.bits .u64)))) < (((len8T).length : Nat) : Int))) then
     some (dat 3 (.lit (.int .i64 (IntKind.wrap .i64 ((IntKind.wrap .i64 (32 + 16)) + (IntKind.wrap .i64 ((len8T.getD (IntKind.wrap .u8 (Int.fdiv (Int.fdiv x0 (2 ^ min (32 : Int).toNat (IntKind.bits .u64))) (2 ^ min (16 : Int).toNat (IntKind.bits .u64))) : Int).toNat 0).toNat : Int)))))))
    else none
  else bif decide ((Int.fdiv x0 (2 ^ min (32 : Int).toNat (IntKind.bits .u64))) >= 256) then
    bif (decide (0 <= (IntKind.wrap .u8 (Int.fdiv (Int.fdiv x0 (2 ^ min (32 : Int).toNat (IntKind.bits .u64))) (2 ^ min (8 : Int).toNat (IntKind.bits .u64))))) && decide ((IntKind.wrap .u8 (Int.fdiv (Int.fdiv x0 (2 ^ min (32 : Int).toNat (IntKind.bits .u64))) (2 ^ min (8 : Int).toNat (IntKind.bits .u64)))) < (((len8T).length : Nat) : Int))) then
     some (dat 3 (.lit (.int .i64 (IntKind.wrap .i64 ((IntKind.wrap .i64 (32 + 8)) + (IntKind.wrap .i64 ((len8T.getD (IntKind.wrap .u8 (Int.fdiv (Int.fdiv x0 (2 ^ min (32 : Int).toNat (IntKind.bits .u64))) (2 ^ min (8 : Int).toNat (IntKind.bits .u64))) : Int).toNat 0).toNat : Int)))))))
    else none
   else bif (decide (0 <= (IntKind.wrap .u8 (Int.fdiv x0 (2 ^ min (32 : Int).toNat (IntKind.bits .u64))))) && decide ((IntKind.wrap .u8 (Int.fdiv x0 (2 ^ min (32 : Int).toNat (IntKind.bits .u64)))) < (((len8T).length : Nat) : Int))) then
     some (dat 3 (.lit (.int .i64 (IntKind.wrap .i64 (32 + (IntKind.wrap .i64 ((len8T.getD (IntKind.wrap .u8 (Int.fdiv x0 (2 ^ min (32 : Int).toNat (IntKind.bits .u64))) : Int).toNat 0).toNat : Int)))))))
    else none
 else bif decide (x0 >= 65536) then
   bif decide ((Int.fdiv x0 (2 ^ min (16 : Int).toNat (IntKind.bits .u64))) >= 256) then
    bif (decide (0 <= (IntKind.wrap .u8 (Int.fdiv (Int.fdiv x0 (2 ^ min (16 : Int).toNat (IntKind.bits .u64))) (2 ^ min (8 : Int).toNat (IntKind.bits .u64))))) && decide ((IntKind.wrap .u8 (Int.fdiv (Int.fdiv x0 (2 ^ min (16 : Int).toNat (IntKind.bits .u64))) (2 ^ min (8 : Int).toNat (IntKind.bits .u64)))) < (((len8T).length : Nat) : Int))) then
     some (dat 3 (.lit (.int .i64 (IntKind.wrap .i64 ((IntKind.wrap .i64 ((IntKind.wrap .i64 (0 + 16)) + 8)) + (IntKind.wrap .i64 ((len8T.getD (IntKind.wrap .u8 (Int.fdiv (Int.fdiv x0 (2 ^ min (16 : Int).toNat (IntKind.bits .u64))) (2 ^ min (8 : Int).toNat (IntKind.bits .u64))) : Int).toNat 0).toNat : Int)))))))
    else none
   else bif (decide (0 <= (IntKind.wrap .u8 (Int.fdiv x0 (2 ^ min (16 : Int).toNat (IntKind.bits .u64))))) && decide ((IntKind.wrap .u8 (Int.fdiv x0 (2 ^ min (16 : Int).toNat (IntKind.bits .u64)))) < (((len8T).length : Nat) : Int))) then
     some (dat 3 (.lit (.int .i64 (IntKind.wrap .i64 ((IntKind.wrap .i64 (0 + 16)) + (IntKind.wrap .i64 ((len8T.getD (IntKind.wrap .u8 (Int.fdiv x0 (2 ^ min (16 : Int).toNat (IntKind.bits .u64))) : Int).toNat 0).toNat : Int)))))))
    else none
  else bif decide (x0 >= 256) then
    bif (decide (0 <= (IntKind.wrap .u8 (Int.fdiv x0 (2 ^ min (8 : Int).toNat (IntKind.bits .u64))))) && decide ((IntKind.wrap .u8 (Int.fdiv x0 (2 ^ min (8 : Int).toNat (IntKind.bits .u64)))) < (((len8T).length : Nat) : Int))) then
     some (dat 3 (.lit (.int .i64 (IntKind.wrap .i64 ((IntKind.wrap .i64 (0 + 8)) + (IntKind.wrap .i64 ((len8T.getD (IntKind.wrap .u8 (Int.fdiv x0 (2 ^ min (8 : Int).toNat (IntKind.bits .u64))) : Int).toNat 0).toNat : Int)))))))
    else none
   else bif (decide (0 <= (IntKind.wrap .u8 x0)) && decide ((IntKind.wrap .u8 x0) < (((len8T).length : Nat) : Int))) then
     some (dat 3 (.lit (.int .i64 (IntKind.wrap .i64 (0 + (IntKind.wrap .i64 ((len8T.getD (IntKind.wrap .u8 x0 : Int).toNat 0).toNat : Int)))))))
    else none := by kernel_rfl

end X
end
section
namespace X
open Go.Ev
set_option linter.unusedVariables false
set_option maxRecDepth 10000
set_option linter.unusedSimpArgs false

theorem hm : Try.prog.follows .mixedOrders = true := by kernel_rfl
theorem n3 (x : D) : normD Try.prog 3 x = .lit (.int .i64 (intD x)) := by kernel_rfl
theorem n4 (x : D) : normD Try.prog 4 x = .lit (.bool (boolD x)) := by kernel_rfl
theorem nU (x : D) : normD Try.prog 38 x = .lit (.int .u64 (intD x)) := by kernel_rfl
theorem nV (x : D) : normD Try.prog 34 x = .lit (.int .u64 (intD x)) := by kernel_rfl
theorem n27 (x : D) : normD Try.prog 22 x = x := by kernel_rfl
theorem m3 (x : D) : mkRes Try.prog 3 x = dat 3 (.lit (.int .i64 (intD x))) := by kernel_rfl
theorem m4 (x : D) : mkRes Try.prog 4 x = dat 4 (.lit (.bool (boolD x))) := by kernel_rfl
theorem u3 : Try.prog.underlying 3 = some (.int .i64) := by kernel_rfl
theorem u4 : Try.prog.underlying 4 = some .bool := by kernel_rfl
theorem uU : Try.prog.underlying 38 = some (.int .u64) := by kernel_rfl
theorem uV : Try.prog.underlying 34 = some (.int .u64) := by kernel_rfl
theorem u27 : Try.prog.underlying 22 = some (.slice 3) := by kernel_rfl
theorem ty_int {t : TypeId} {k : IntKind} (hu : Try.prog.underlying t = some (.int k)) {n : Nat} {x : D} (h : Ty Try.prog n t x) : ∃ z, x = .lit (.int k z) /\ (Lit.int k z).wf = true := by
 cases n with
 | zero => exact h.elim
 | succ n =>
  unfold Ty at h
  rw [hu] at h
  split at h <;> try (exact h.elim)
  all_goals simp_all
theorem ty3' {n : Nat} {x : D} (h : Ty Try.prog n 3 x) : ∃ z, x = .lit (.int .i64 z) /\ inR z = true := by
 obtain ⟨z, h1, h2⟩ := ty_int u3 h
 exact ⟨z, h1, wf_inR h2⟩
theorem ty3 {n : Nat} {x : D} (h : Ty Try.prog n 3 x) : inR (intD x) = true := by
 obtain ⟨z, rfl, hz⟩ := ty3' h
 exact hz
theorem ty4' {n : Nat} {x : D} (h : Ty Try.prog n 4 x) : ∃ b, x = .lit (.bool b) := by
 cases n with
 | zero => exact h.elim
 | succ n =>
  unfold Ty at h
  rw [u4] at h
  split at h <;> try (exact h.elim)
  all_goals simp_all
theorem ty27 {n : Nat} {x : D} (h : Ty Try.prog n 22 x) : ∃ es, x = .slice es [] /\ es.length <= maxLen /\ ∀ y ∈ es, ∃ z, y = litI z /\ inR z = true := by
 obtain ⟨m, es, rfl, hl, hp⟩ := ty_slice h u27
 exact ⟨es, rfl, hl, fun y hy => ty3' (hp y hy)⟩

def e24 : FuncId × TypeId × (List AV -> Bool) × (List AV -> Option D) := (24, 3, yes, ent [3] (f1 fun x => some (.lit (.int .i64 (leastI (posI (intD x)))))))
theorem k24 : FnOK Try.prog 24 Try.f24 := ⟨Try.func24, rfl, by kernel_rfl⟩
theorem c24 : ∀ args d, e24.2.2.2 args = some d -> CallOK Try.prog 24 args (mkRes Try.prog 3 d) :=
 ent1 k24 fun x d h _ => by
  cases h
  rw [n3]
  refine fn_ok hm envOK_nil k24 ((t24 1 (intD x)).trans ?_)
  rw [m3, bound_eq]
  rfl
def e29 : FuncId × TypeId × (List AV -> Bool) × (List AV -> Option D) := (29, 3, yes, ent [3] (f1 fun x => some (.lit (.int .i64 (rowsI (intD x))))))
theorem k29 : FnOK Try.prog 29 Try.f29 := ⟨Try.func29, rfl, by kernel_rfl⟩
theorem c29 : ∀ args d, e29.2.2.2 args = some d -> CallOK Try.prog 29 args (mkRes Try.prog 3 d) :=
 ent1 k29 fun x d h _ => by
  cases h
  rw [n3]
  refine fn_ok hm envOK_nil k29 ((t29 1 (intD x)).trans ?_)
  rw [m3, rows_eq]
  rfl
def e27 : FuncId × TypeId × (List AV -> Bool) × (List AV -> Option D) := (27, 3, yes, ent [3] (f1 fun x => some (.lit (.int .i64 (rowsI (intD x))))))
theorem k27 : FnOK Try.prog 27 Try.f27 := ⟨Try.func27, rfl, by kernel_rfl⟩
theorem c27 : ∀ args d, e27.2.2.2 args = some d -> CallOK Try.prog 27 args (mkRes Try.prog 3 d) :=
 ent1 k27 fun x d h _ => by
  cases h
  rw [n3]
  refine fn_ok hm envOK_nil k27 ((t27 1 (intD x)).trans ?_)
  rw [m3]
  unfold rowsI
  cases decide (intD x < 0) <;> cases decide (intD x > 1099511627776) <;> rfl
def e25 : FuncId × TypeId × (List AV -> Bool) × (List AV -> Option D) := (25, 3, yes, ent [3] (f1 fun x => some (.lit (.int .i64 (leastI (intD x))))))
theorem k25 : FnOK Try.prog 25 Try.f25 := ⟨Try.func25, rfl, by kernel_rfl⟩
theorem c25 : ∀ args d, e25.2.2.2 args = some d -> CallOK Try.prog 25 args (mkRes Try.prog 3 d) :=
 ent1 k25 fun x d h _ => by
  cases h
  rw [n3]
  refine fn_ok hm envOK_nil k25 ((t25 1 (intD x)).trans ?_)
  rw [m3]
  unfold leastI
  cases decide (intD x > 1125899906842624) <;> rfl
def e28 : FuncId × TypeId × (List AV -> Bool) × (List AV -> Option D) := (28, 3, preD (q2 fun x y => (decide (0 <= intD x) && decide (0 <= intD y))), ent [3, 3] (f2 fun x y => some (.lit (.int .i64 (leastI (intD x * intD y))))))
theorem k28 : FnOK Try.prog 28 Try.f28 := ⟨Try.func28, rfl, by kernel_rfl⟩
theorem c28 : ∀ args d, e28.2.2.1 args = true -> e28.2.2.2 args = some d -> CallOK Try.prog 28 args (mkRes Try.prog 3 d) :=
 ent2p k28 fun x y d hq h ⟨_, hx⟩ _ => by
  cases h
  rw [n3, n3]
  have hq : (decide (0 <= intD x) && decide (0 <= intD y)) = true := hq
  rw [Bool.and_eq_true, decide_eq_true_eq, decide_eq_true_eq] at hq
  have hb := inR_iff.1 (ty3 hx)
  refine fn_ok hm envOK_nil k28 ((t28 1 (intD x) (intD y)).trans ?_)
  rw [m3]
  exact times_tree hq.1 hq.2 hb.2

def e33 : FuncId × TypeId × (List AV -> Bool) × (List AV -> Option D) := (33, 3, yes, ent [34] (f1 fun x => some (.lit (.int .i64 ((bitsN (intD x).toNat : Nat) : Int)))))
theorem k33 : FnOK Try.prog 33 Try.f33 := ⟨Try.func33, rfl, by kernel_rfl⟩
theorem c33 : ∀ args d, e33.2.2.2 args = some d -> CallOK Try.prog 33 args (mkRes Try.prog 3 d) :=
 ent1 k33 fun x d h ⟨_, hx⟩ => by
  cases h
  rw [nV]
  obtain ⟨z, rfl, hz⟩ := ty_int uV hx
  obtain ⟨h0, h1⟩ := wf_u64 hz
  obtain ⟨n, rfl⟩ : ∃ n : Nat, z = (n : Int) := ⟨z.toNat, by omega⟩
  refine fn_ok hm envOK_nil k33 ((t33 1 (n : Int)).trans ?_)
  rw [m3]
  show _ = some (dat 3 (.lit (.int .i64 ((bitsN n : Nat) : Int))))
  have e32 : ∀ n : Nat, Int.fdiv (n : Int) (2 ^ min (32 : Int).toNat (IntKind.bits .u64)) = ((n / 2 ^ 32 : Nat) : Int) := fun n => fd_nat n (by decide)
  have e16 : ∀ n : Nat, Int.fdiv (n : Int) (2 ^ min (16 : Int).toNat (IntKind.bits .u64)) = ((n / 2 ^ 16 : Nat) : Int) := fun n => fd_nat n (by decide)
  have e8 : ∀ n : Nat, Int.fdiv (n : Int) (2 ^ min (8 : Int).toNat (IntKind.bits .u64)) = ((n / 2 ^ 8 : Nat) : Int) := fun n => fd_nat n (by decide)
  have w1 : IntKind.wrap .i64 (IntKind.wrap .i64 (32 + 16) + 8) = 56 := by decide
  have w2 : IntKind.wrap .i64 (32 + 16) = 48 := by decide
  have w3 : IntKind.wrap .i64 (32 + 8) = 40 := by decide
  have w4 : IntKind.wrap .i64 (IntKind.wrap .i64 (0 + 16) + 8) = 24 := by decide
  have w5 : IntKind.wrap .i64 (0 + 16) = 16 := by decide
  have w6 : IntKind.wrap .i64 (0 + 8) = 8 := by decide
  simp only [e32, e16, e8]
  rw [w1, w2, w3, w4, w5, w6]
  by_cases c32 : n >= 2 ^ 32
  ·rw [dT (show (n : Int) >= 4294967296 by omega), cond_true, bits_div c32]
   generalize hn1 : n / 2 ^ 32 = a
   have ha : a < 4294967296 := by omega
   by_cases c16 : a >= 2 ^ 16
   ·rw [dT (show (a : Int) >= 65536 by omega), cond_true, bits_div c16]
    generalize hn2 : a / 2 ^ 16 = b
    have hb : b < 65536 := by omega
    by_cases c8 : b >= 2 ^ 8
    ·rw [dT (show (b : Int) >= 256 by omega), cond_true, bits_div c8]
     refine (last8 (s := 56) (by omega) (by decide) (by decide)).trans ?_
     rw [show (56 : Int) + (bitsN (b / 2 ^ 8) : Int) = ((32 + (16 + (8 + bitsN (b / 2 ^ 8))) : Nat) : Int) by omega]
    ·rw [dF (show ¬ (b : Int) >= 256 by omega), cond_false]
     refine (last8 (s := 48) (by omega) (by decide) (by decide)).trans ?_
     rw [show (48 : Int) + (bitsN b : Int) = ((32 + (16 + bitsN b) : Nat) : Int) by omega]
   ·rw [dF (show ¬ (a : Int) >= 65536 by omega), cond_false]
    by_cases c8 : a >= 2 ^ 8
    ·rw [dT (show (a : Int) >= 256 by omega), cond_true, bits_div c8]
     refine (last8 (s := 40) (by omega) (by decide) (by decide)).trans ?_
     rw [show (40 : Int) + (bitsN (a / 2 ^ 8) : Int) = ((32 + (8 + bitsN (a / 2 ^ 8)) : Nat) : Int) by omega]
    ·rw [dF (show ¬ (a : Int) >= 256 by omega), cond_false]
     refine (last8 (s := 32) (by omega) (by decide) (by decide)).trans ?_
     rw [show (32 : Int) + (bitsN a : Int) = ((32 + bitsN a : Nat) : Int) by omega]
  ·rw [dF (show ¬ (n : Int) >= 4294967296 by omega), cond_false]
   by_cases c16 : n >= 2 ^ 16
   ·rw [dT (show (n : Int) >= 65536 by omega), cond_true, bits_div c16]
    generalize hn2 : n / 2 ^ 16 = b
    have hb : b < 65536 := by omega
    by_cases c8 : b >= 2 ^ 8
    ·rw [dT (show (b : Int) >= 256 by omega), cond_true, bits_div c8]
     refine (last8 (s := 24) (by omega) (by decide) (by decide)).trans ?_
     rw [show (24 : Int) + (bitsN (b / 2 ^ 8) : Int) = ((16 + (8 + bitsN (b / 2 ^ 8)) : Nat) : Int) by omega]
    ·rw [dF (show ¬ (b : Int) >= 256 by omega), cond_false]
     refine (last8 (s := 16) (by omega) (by decide) (by decide)).trans ?_
     rw [show (16 : Int) + (bitsN b : Int) = ((16 + bitsN b : Nat) : Int) by omega]
   ·rw [dF (show ¬ (n : Int) >= 65536 by omega), cond_false]
    by_cases c8 : n >= 2 ^ 8
    ·rw [dT (show (n : Int) >= 256 by omega), cond_true, bits_div c8]
     refine (last8 (s := 8) (by omega) (by decide) (by decide)).trans ?_
     rw [show (8 : Int) + (bitsN (n / 2 ^ 8) : Int) = ((8 + bitsN (n / 2 ^ 8) : Nat) : Int) by omega]
    ·rw [dF (show ¬ (n : Int) >= 256 by omega), cond_false]
     refine (last8 (s := 0) (by omega) (by decide) (by decide)).trans ?_
     rw [Int.zero_add]
def O1 : Tab := e33 :: e28 :: e25 :: e27 :: e29 :: e24 :: []
theorem envO1 : EnvOK Try.prog (envH O1 []) := envOK_cons (envOK_cons' (envOK_cons (envOK_cons (envOK_cons (envOK_cons envOK_nil c24) c29) c27) c25) c28) c33

end X
end
section
namespace X
open Go.Ev
set_option linter.unusedVariables false
set_option maxRecDepth 10000
/- math/bits.Len -/
def t31_h : Hints := fun _ =>  none
theorem t31 (N : Nat) (x0 : Int) : evFn Try.prog (envR O1 [] [] []) t31_h N Try.f31 [dat 34 (.lit (.int .u64 x0))] =
 some (dat 3 (.lit (.int .i64 ((bitsN (x0).toNat : Nat) : Int)))) := by kernel_rfl

/- roadbook/cost.Add -/
def t9_h : Hints := fun i => if i = 3 then some ([0, 1, 2, 4, 5, 9, 10, 11, 12, 13, 14, 15, 16, 17, 18], [], []) else none
def t9_lp3 (P : Program) (fn : Func) (N n : Nat) (x0 : D) (v3 : Int) (v8 : Int) : Option AV := evLoop (preL t9_h (sub [1, 1, 0, 1, 0, 0] (bodyOf fn))) (evCode P (envR O1 [] [] []) t9_h N (sub [1, 1, 0, 1, 0, 0] (bodyOf fn))) n ⟨[dead, dead, dead, dat 3 (.lit (.int .i64 v3)), dead, dead, dat 22 x0, dat 3 (.lit (.int .i64 ((elemsD x0).length : Int))), dat 3 (.lit (.int .i64 v8)), dead, dead, dead, dead, dead, dead, dead, dead, dead, dead], lookB []⟩ (blockK 0 (seqC P (envR O1 [] [] []) t9_h N (sub [1, 1, 1] (bodyOf fn)) (finK P fn) ))
theorem t9_lp3_step  (N n : Nat) (x0 : D) (v3 : Int) (v8 : Int) : t9_lp3 Try.prog Try.f9 N (n + 1) x0 v3 v8 =
 bif decide (v8 < ((elemsD x0).length : Int)) then
  bif (decide (0 <= v8) && decide (v8 < ((elemsD x0).length : Int))) then
   t9_lp3 Try.prog Try.f9 N n x0 (leastI (posI (IntKind.wrap .i64 (v3 + (leastI (posI (intD ((elemsD x0).getD (v8).toNat .nil)))))))) (IntKind.wrap .i64 (v8 + 1))
  else none
 else some (dat 3 (.lit (.int .i64 v3))) := by kernel_rfl
theorem t9 (N : Nat) (x0 : D) : evFn Try.prog (envR O1 [] [] []) t9_h N Try.f9 [dat 22 x0] =
 t9_lp3 Try.prog Try.f9 N N x0 0 0 := by kernel_rfl

/- roadbook/roadbookref10.Add -/
def t10_h : Hints := fun i => if i = 3 then some ([1, 2, 5, 6, 7, 8, 9, 10, 11, 12, 13, 14, 15, 16, 17, 18, 19, 20, 21, 22, 23, 24], [], []) else none
def t10_lp3 (P : Program) (fn : Func) (N n : Nat) (x0 : D) (v3 : Int) (v4 : Int) : Option AV := evLoop (preL t10_h (sub [1, 1, 0, 1, 0, 0] (bodyOf fn))) (evCode P (envR O1 [] [] []) t10_h N (sub [1, 1, 0, 1, 0, 0] (bodyOf fn))) n ⟨[dat 22 x0, dead, dead, dat 3 (.lit (.int .i64 v3)), dat 3 (.lit (.int .i64 v4)), dead, dead, dead, dead, dead, dead, dead, dead, dead, dead, dead, dead, dead, dead, dead, dead, dead, dead, dead, dead], lookB []⟩ (blockK 0 (seqC P (envR O1 [] [] []) t10_h N (sub [1, 1, 1] (bodyOf fn)) (finK P fn) ))
theorem t10_lp3_step  (N n : Nat) (x0 : D) (v3 : Int) (v4 : Int) : t10_lp3 Try.prog Try.f10 N (n + 1) x0 v3 v4 =
 bif decide (v4 < ((elemsD x0).length : Int)) then
  bif (decide (0 <= v4) && decide (v4 < ((elemsD x0).length : Int))) then
   bif decide ((intD ((elemsD x0).getD (v4).toNat .nil)) > 0) then
    bif (decide (0 <= v4) && decide (v4 < ((elemsD x0).length : Int))) then
     t10_lp3 Try.prog Try.f10 N n x0 (leastI (IntKind.wrap .i64 (v3 + (leastI (intD ((elemsD x0).getD (v4).toNat .nil)))))) (IntKind.wrap .i64 (v4 + 1))
    else none
   else t10_lp3 Try.prog Try.f10 N n x0 v3 (IntKind.wrap .i64 (v4 + 1))
  else none
 else some (dat 3 (.lit (.int .i64 v3))) := by kernel_rfl
theorem t10 (N : Nat) (x0 : D) : evFn Try.prog (envR O1 [] [] []) t10_h N Try.f10 [dat 22 x0] =
 t10_lp3 Try.prog Try.f10 N N x0 0 0 := by kernel_rfl

/- roadbook/roadbookref10.Scan -/
def t12_h : Hints := fun _ =>  none
theorem t12 (N : Nat) (x0 : Int) : evFn Try.prog (envR O1 [] [] []) t12_h N Try.f12 [dat 3 (.lit (.int .i64 x0))] =
 some (dat 3 (.lit (.int .i64 (rowsI x0)))) := by kernel_rfl

/- roadbook/roadbookref10.Nest -/
def t14_h : Hints := fun _ =>  none
theorem t14 (N : Nat) (x0 : Int) (x1 : Int) : evFn Try.prog (envR O1 [] [] []) t14_h N Try.f14 [dat 3 (.lit (.int .i64 x0)), dat 3 (.lit (.int .i64 x1))] =
 bif ((decide ((rowsI x0) > 0)) == true) then
  bif (!((rowsI x0) == 0)) then
   bif decide ((rowsI x1) > (IntKind.wrap .i64 (Int.tdiv 1125899906842624 (rowsI x0)))) then
    some (dat 3 (.lit (.int .i64 1125899906842624)))
   else some (dat 3 (.lit (.int .i64 (IntKind.wrap .i64 ((rowsI x0) * (rowsI x1))))))
  else none
 else some (dat 3 (.lit (.int .i64 (IntKind.wrap .i64 ((rowsI x0) * (rowsI x1)))))) := by kernel_rfl

/- roadbook/roadbookref10.Hash -/
def t16_h : Hints := fun _ =>  none
theorem t16 (N : Nat) (x0 : Int) (x1 : Int) : evFn Try.prog (envR O1 [] [] []) t16_h N Try.f16 [dat 3 (.lit (.int .i64 x0)), dat 3 (.lit (.int .i64 x1))] =
 some (dat 3 (.lit (.int .i64 (leastI (IntKind.wrap .i64 ((rowsI x0) + (IntKind.wrap .i64 (2 * (rowsI x1))))))))) := by kernel_rfl

/- roadbook/roadbookref10.Merge -/
def t18_h : Hints := fun _ =>  none
theorem t18 (N : Nat) (x0 : Int) (x1 : Int) : evFn Try.prog (envR O1 [] [] []) t18_h N Try.f18 [dat 3 (.lit (.int .i64 x0)), dat 3 (.lit (.int .i64 x1))] =
 some (dat 3 (.lit (.int .i64 (leastI (IntKind.wrap .i64 ((rowsI x0) + (rowsI x1))))))) := by kernel_rfl

/- roadbook/roadbookref10.Sort -/
def t20_h : Hints := fun i => if i = 4 then some ([0, 1, 2, 6, 7, 8, 9, 10, 11, 12, 13, 14, 15, 16, 17, 18], [], []) else none
def t20_lp4 (P : Program) (fn : Func) (N n : Nat) (x0 : Int) (v4 : Int) (v5 : Int) : Option AV := evLoop (preL t20_h (sub [1, 1, 1, 0, 1, 0, 0] (bodyOf fn))) (evCode P (envR O1 [] [] []) t20_h N (sub [1, 1, 1, 0, 1, 0, 0] (bodyOf fn))) n ⟨[dead, dead, dead, dat 3 (.lit (.int .i64 (rowsI x0))), dat 3 (.lit (.int .i64 v4)), dat 3 (.lit (.int .i64 v5)), dead, dead, dead, dead, dead, dead, dead, dead, dead, dead, dead, dead, dead], lookB []⟩ (blockK 0 (seqC P (envR O1 [] [] []) t20_h N (sub [1, 1, 1, 1] (bodyOf fn)) (finK P fn) ))
theorem t20_lp4_step  (N n : Nat) (x0 : Int) (v4 : Int) (v5 : Int) : t20_lp4 Try.prog Try.f20 N (n + 1) x0 v4 v5 =
 bif decide (v5 <= (rowsI x0)) then
  t20_lp4 Try.prog Try.f20 N n x0 (IntKind.wrap .i64 (v4 + 1)) (IntKind.wrap .i64 (2 * v5))
 else some (dat 3 (.lit (.int .i64 (leastI (IntKind.wrap .i64 ((rowsI x0) * v4)))))) := by kernel_rfl
theorem t20 (N : Nat) (x0 : Int) : evFn Try.prog (envR O1 [] [] []) t20_h N Try.f20 [dat 3 (.lit (.int .i64 x0))] =
 t20_lp4 Try.prog Try.f20 N N x0 0 1 := by kernel_rfl

/- roadbook/roadbookref10.Group -/
def t22_h : Hints := fun _ =>  none
theorem t22 (N : Nat) (x0 : Int) (x1 : Bool) : evFn Try.prog (envR O1 [] [] []) t22_h N Try.f22 [dat 3 (.lit (.int .i64 x0)), dat 4 (.lit (.bool x1))] =
 bif x1 then
  some (dat 3 (.lit (.int .i64 (leastI (IntKind.wrap .i64 (2 * (rowsI x0)))))))
 else some (dat 3 (.lit (.int .i64 (rowsI x0)))) := by kernel_rfl

end X
end
section
namespace X
open Go.Ev
set_option linter.unusedVariables false
set_option maxRecDepth 10000
set_option linter.unusedSimpArgs false

def e31 : FuncId × TypeId × (List AV -> Bool) × (List AV -> Option D) := (31, 3, yes, ent [34] (f1 fun x => some (.lit (.int .i64 (((bitsN (intD x).toNat : Nat) : Int))))))
theorem k31 : FnOK Try.prog 31 Try.f31 := ⟨Try.func31, rfl, by kernel_rfl⟩
theorem c31 : ∀ args d, e31.2.2.2 args = some d -> CallOK Try.prog 31 args (mkRes Try.prog 3 d) :=
 ent1 k31 fun x d h ⟨_, hx⟩ => by
  cases h
  rw [nV]
  refine fn_ok hm envO1 k31 ((t31 1 (intD x)).trans ?_)
  rw [m3]
  rfl
theorem add_loop {N : Nat} {x : D} (hl : (elemsD x).length <= maxLen) : ∀ (n i : Nat) (v : Int), i <= (elemsD x).length -> (elemsD x).length - i < n -> 0 <= v -> v <= 1125899906842624 ->
  t9_lp3 Try.prog Try.f9 N n x v (i : Int) = some (dat 3 (.lit (.int .i64 (((elemsD x).drop i |>.map intD).foldl addS v))))
 | 0, i, v, _, h, _, _ => by omega
 | n + 1, i, v, hi, h, h0, h1 => by
  rw [t9_lp3_step]
  by_cases hlt : i < (elemsD x).length
  ·have hb := least_nn (pos_nn (intD (elemsD x)[i]))
   have hc := (least_le (posI (intD (elemsD x)[i]))).1
   have e : leastI (posI (v + leastI (posI (intD (elemsD x)[i])))) = addS v (intD (elemsD x)[i]) := by
    rw [addS_eq _ _ h0 h1]
    have hp := pos_nn (intD (elemsD x)[i])
    rw [pos_if (v + _)]
    simp only [least_if] at hb ⊢
    split <;> split <;> (try split) <;> (try split) <;> omega
   rw [l_idx hlt, l_lt hlt, cond_true, cond_true, Int.toNat_natCast, l_get hlt, l_wrap hl hlt, l_wrapI (l_in (by omega) (by omega)), e]
   have h2 := addS_in (intD (elemsD x)[i]) h0 h1
   rw [add_loop hl n (i + 1) _ (by omega) (by omega) h2.1 h2.2, List.drop_eq_getElem_cons hlt]
   rfl
  ·rw [l_ge hlt, cond_false, List.drop_of_length_le (by omega)]
   rfl
theorem len27 {n : Nat} {x : D} (hx : Ty Try.prog n 22 x) : (elemsD x).length <= maxLen := by
 obtain ⟨es, rfl, h, _⟩ := ty27 hx
 exact h
def e9 : FuncId × TypeId × (List AV -> Bool) × (List AV -> Option D) := (9, 3, yes, ent [22] (f1 fun x => some (.lit (.int .i64 (addI ((elemsD x).map intD))))))
theorem k9 : FnOK Try.prog 9 Try.f9 := ⟨Try.func9, rfl, by kernel_rfl⟩
theorem c9 : ∀ args d, e9.2.2.2 args = some d -> CallOK Try.prog 9 args (mkRes Try.prog 3 d) :=
 ent1 k9 fun x d h ⟨_, hx⟩ => by
  cases h
  rw [n27]
  refine fn_ok hm envO1 k9 ((t9 ((elemsD x).length + 1) (x)).trans ?_)
  rw [m3]
  have := add_loop (N := (elemsD x).length + 1) (len27 hx) ((elemsD x).length + 1) 0 0 (Nat.zero_le _) (by omega) (by decide) (by decide)
  rw [List.drop_zero, addI_fold] at this
  exact this
theorem radd_loop {N : Nat} {x : D} (hl : (elemsD x).length <= maxLen) : ∀ (n i : Nat) (v : Int), i <= (elemsD x).length -> (elemsD x).length - i < n -> 0 <= v -> v <= 1125899906842624 ->
  t10_lp3 Try.prog Try.f10 N n x v (i : Int) = some (dat 3 (.lit (.int .i64 (((elemsD x).drop i |>.map intD).foldl addS v))))
 | 0, i, v, _, h, _, _ => by omega
 | n + 1, i, v, hi, h, h0, h1 => by
  rw [t10_lp3_step]
  by_cases hlt : i < (elemsD x).length
  ·have h2 := addS_in (intD (elemsD x)[i]) h0 h1
   have hc := (least_le (intD (elemsD x)[i])).1
   rw [l_idx hlt, l_lt hlt, cond_true, cond_true, cond_true, Int.toNat_natCast, l_get hlt, l_wrap hl hlt]
   have e2 : ((elemsD x).drop i |>.map intD).foldl addS v = ((elemsD x).drop (i + 1) |>.map intD).foldl addS (addS v (intD (elemsD x)[i])) := by
    rw [List.drop_eq_getElem_cons hlt]; rfl
   rw [e2, <- radd_loop hl n (i + 1) _ (by omega) (by omega) h2.1 h2.2]
   unfold addS
   by_cases hx : intD (elemsD x)[i] > 0
   ·have hb := least_nn (show 0 <= intD (elemsD x)[i] by omega)
    rw [dT hx, cond_true, cond_true, l_wrapI (l_in (by omega) (by omega))]
   ·rw [dF hx, cond_false, cond_false]
  ·rw [l_ge hlt, cond_false, List.drop_of_length_le (by omega)]
   rfl
def e10 : FuncId × TypeId × (List AV -> Bool) × (List AV -> Option D) := (10, 3, yes, ent [22] (f1 fun x => some (.lit (.int .i64 (addI ((elemsD x).map intD))))))
theorem k10 : FnOK Try.prog 10 Try.f10 := ⟨Try.func10, rfl, by kernel_rfl⟩
theorem c10 : ∀ args d, e10.2.2.2 args = some d -> CallOK Try.prog 10 args (mkRes Try.prog 3 d) :=
 ent1 k10 fun x d h ⟨_, hx⟩ => by
  cases h
  rw [n27]
  refine fn_ok hm envO1 k10 ((t10 ((elemsD x).length + 1) (x)).trans ?_)
  rw [m3]
  have := radd_loop (N := (elemsD x).length + 1) (len27 hx) ((elemsD x).length + 1) 0 0 (Nat.zero_le _) (by omega) (by decide) (by decide)
  rw [List.drop_zero, addI_fold] at this
  exact this
def e12 : FuncId × TypeId × (List AV -> Bool) × (List AV -> Option D) := (12, 3, yes, ent [3] (f1 fun x => some (.lit (.int .i64 (rowsI (intD x))))))
theorem k12 : FnOK Try.prog 12 Try.f12 := ⟨Try.func12, rfl, by kernel_rfl⟩
theorem c12 : ∀ args d, e12.2.2.2 args = some d -> CallOK Try.prog 12 args (mkRes Try.prog 3 d) :=
 ent1 k12 fun x d h ⟨_, hx⟩ => by
  cases h
  rw [n3]
  refine fn_ok hm envO1 k12 ((t12 1 (intD x)).trans ?_)
  rw [m3]
  rfl
def e14 : FuncId × TypeId × (List AV -> Bool) × (List AV -> Option D) := (14, 3, yes, ent [3, 3] (f2 fun x y => some (.lit (.int .i64 (nestI (intD x) (intD y))))))
theorem k14 : FnOK Try.prog 14 Try.f14 := ⟨Try.func14, rfl, by kernel_rfl⟩
theorem c14 : ∀ args d, e14.2.2.2 args = some d -> CallOK Try.prog 14 args (mkRes Try.prog 3 d) :=
 ent2 k14 fun x y d h ⟨_, hx⟩ ⟨_, hy⟩ => by
  cases h
  rw [n3, n3]
  refine fn_ok hm envO1 k14 ((t14 1 (intD x) (intD y)).trans ?_)
  rw [m3]
  obtain ⟨a0, a1⟩ := rows_in (intD x)
  obtain ⟨b0, b1⟩ := rows_in (intD y)
  have e := times_tree b0 a0 (by omega)
  rw [Int.mul_comm (rowsI (intD y))] at e
  exact e
def e16 : FuncId × TypeId × (List AV -> Bool) × (List AV -> Option D) := (16, 3, yes, ent [3, 3] (f2 fun x y => some (.lit (.int .i64 (hashI (intD x) (intD y))))))
theorem k16 : FnOK Try.prog 16 Try.f16 := ⟨Try.func16, rfl, by kernel_rfl⟩
theorem c16 : ∀ args d, e16.2.2.2 args = some d -> CallOK Try.prog 16 args (mkRes Try.prog 3 d) :=
 ent2 k16 fun x y d h ⟨_, hx⟩ ⟨_, hy⟩ => by
  cases h
  rw [n3, n3]
  refine fn_ok hm envO1 k16 ((t16 1 (intD x) (intD y)).trans ?_)
  rw [m3]
  obtain ⟨a0, a1⟩ := rows_in (intD x)
  obtain ⟨b0, b1⟩ := rows_in (intD y)
  rw [l_wrapI (z := 2 * rowsI (intD y)) (l_in (by omega) (by omega)), l_wrapI (l_in (by omega) (by omega))]
  rfl
def e18 : FuncId × TypeId × (List AV -> Bool) × (List AV -> Option D) := (18, 3, yes, ent [3, 3] (f2 fun x y => some (.lit (.int .i64 (mergeI (intD x) (intD y))))))
theorem k18 : FnOK Try.prog 18 Try.f18 := ⟨Try.func18, rfl, by kernel_rfl⟩
theorem c18 : ∀ args d, e18.2.2.2 args = some d -> CallOK Try.prog 18 args (mkRes Try.prog 3 d) :=
 ent2 k18 fun x y d h ⟨_, hx⟩ ⟨_, hy⟩ => by
  cases h
  rw [n3, n3]
  refine fn_ok hm envO1 k18 ((t18 1 (intD x) (intD y)).trans ?_)
  rw [m3]
  obtain ⟨a0, a1⟩ := rows_in (intD x)
  obtain ⟨b0, b1⟩ := rows_in (intD y)
  rw [l_wrapI (l_in (by omega) (by omega))]
  rfl
theorem sort_loop {N : Nat} {x : Int} : ∀ (n k : Nat), k <= bitsN (rowsI x).toNat -> bitsN (rowsI x).toNat - k < n ->
  t20_lp4 Try.prog Try.f20 N n x (k : Int) ((2 ^ k : Nat) : Int) = some (dat 3 (.lit (.int .i64 (sortI x))))
 | 0, k, _, h => by omega
 | n + 1, k, hk, h => by
  obtain ⟨h0, h1⟩ := rows_in x
  have h41 := bits_41 (n := (rowsI x).toNat) (by omega)
  have hp : 2 ^ k <= 2 ^ 41 := Nat.pow_le_pow_right (by decide) (by omega)
  have hp2 : (2 : Nat) ^ 41 = 2199023255552 := by decide
  have hp0 : (0 : Int) <= ((2 ^ k : Nat) : Int) := Int.natCast_nonneg _
  have hp1 : ((2 ^ k : Nat) : Int) <= 2199023255552 := by rw [hp2] at hp; exact Int.ofNat_le.2 hp
  rw [t20_lp4_step]
  by_cases hle : ((2 ^ k : Nat) : Int) <= rowsI x
  ·have hlt : k < bitsN (rowsI x).toNat := bits_ge (by omega)
   have e1 : IntKind.wrap .i64 ((k : Int) + 1) = ((k + 1 : Nat) : Int) := by rw [l_wrapI (l_in (by omega) (by omega))]; rfl
   have e2 : IntKind.wrap .i64 (2 * ((2 ^ k : Nat) : Int)) = ((2 ^ (k + 1) : Nat) : Int) := by
    rw [l_wrapI (l_in (by omega) (by omega)), Nat.pow_succ]; omega
   rw [dT hle, cond_true, e1, e2]
   exact sort_loop n (k + 1) hlt (by omega)
  ·have hge : bitsN (rowsI x).toNat <= k := bits_le (by omega)
   have hkk : bitsN (rowsI x).toNat = k := by omega
   obtain ⟨s1, s2, s3⟩ := sort_eq x
   rw [dF hle, cond_false]
   have : rowsI x * (k : Int) = sortI x := by rw [s1, hkk]
   rw [this, l_wrapI (l_in (by omega) (by omega)), least_of s3]
def e20 : FuncId × TypeId × (List AV -> Bool) × (List AV -> Option D) := (20, 3, yes, ent [3] (f1 fun x => some (.lit (.int .i64 (sortI (intD x))))))
theorem k20 : FnOK Try.prog 20 Try.f20 := ⟨Try.func20, rfl, by kernel_rfl⟩
theorem c20 : ∀ args d, e20.2.2.2 args = some d -> CallOK Try.prog 20 args (mkRes Try.prog 3 d) :=
 ent1 k20 fun x d h ⟨_, hx⟩ => by
  cases h
  rw [n3]
  refine fn_ok hm envO1 k20 ((t20 (bitsN (rowsI (intD x)).toNat + 1) (intD x)).trans ?_)
  rw [m3]
  exact sort_loop (N := bitsN (rowsI (intD x)).toNat + 1) (bitsN (rowsI (intD x)).toNat + 1) 0 (Nat.zero_le _) (by omega)
def e22 : FuncId × TypeId × (List AV -> Bool) × (List AV -> Option D) := (22, 3, yes, ent [3, 4] (f2 fun x y => some (.lit (.int .i64 (groupI (intD x) (boolD y))))))
theorem k22 : FnOK Try.prog 22 Try.f22 := ⟨Try.func22, rfl, by kernel_rfl⟩
theorem c22 : ∀ args d, e22.2.2.2 args = some d -> CallOK Try.prog 22 args (mkRes Try.prog 3 d) :=
 ent2 k22 fun x y d h ⟨_, hx⟩ ⟨_, hy⟩ => by
  cases h
  rw [n3, n4]
  refine fn_ok hm envO1 k22 ((t22 1 (intD x) (boolD y)).trans ?_)
  rw [m3]
  obtain ⟨a0, a1⟩ := rows_in (intD x)
  rw [l_wrapI (z := 2 * rowsI (intD x)) (l_in (by omega) (by omega))]
  unfold groupI
  cases boolD y <;> rfl
def O2 : Tab := e22 :: e20 :: e18 :: e16 :: e14 :: e12 :: e10 :: e9 :: e31 :: O1
theorem envO2 : EnvOK Try.prog (envH O2 []) := envOK_cons (envOK_cons (envOK_cons (envOK_cons (envOK_cons (envOK_cons (envOK_cons (envOK_cons (envOK_cons envO1 c31) c9) c10) c12) c14) c16) c18) c20) c22

end X
end
section
namespace X
open Go.Ev
set_option linter.unusedVariables false
set_option maxRecDepth 10000
/- roadbook/cost.each -/
def t30_h : Hints := fun _ =>  none
theorem t30 (N : Nat) (x0 : Int) (x1 : Int) : evFn Try.prog (envR O2 [] [] []) t30_h N Try.f30 [dat 3 (.lit (.int .i64 x0)), dat 3 (.lit (.int .i64 x1))] =
 bif (x0 == 1) then
  some (dat 3 (.lit (.int .i64 2)))
 else bif (x0 == 2) then
   some (dat 3 (.lit (.int .i64 ((bitsN ((IntKind.wrap .u64 x1)).toNat : Nat) : Int))))
  else some (dat 3 (.lit (.int .i64 1))) := by kernel_rfl

end X
end
section
namespace X
open Go.Ev
set_option linter.unusedVariables false
set_option maxRecDepth 10000
set_option linter.unusedSimpArgs false

def e30 : FuncId × TypeId × (List AV -> Bool) × (List AV -> Option D) := (30, 3, preD (q2 fun x y => decide (0 <= intD y)), ent [3, 3] (f2 fun x y => some (.lit (.int .i64 (eachI (intD x) (intD y))))))
theorem k30 : FnOK Try.prog 30 Try.f30 := ⟨Try.func30, rfl, by kernel_rfl⟩
theorem c30 : ∀ args d, e30.2.2.1 args = true -> e30.2.2.2 args = some d -> CallOK Try.prog 30 args (mkRes Try.prog 3 d) :=
 ent2p k30 fun x y d hq h ⟨_, hx⟩ ⟨_, hy⟩ => by
  cases h
  rw [n3, n3]
  have hq : (decide (0 <= intD y)) = true := hq
  refine fn_ok hm envO2 k30 ((t30 1 (intD x) (intD y)).trans ?_)
  rw [m3]
  have hq : 0 <= intD y := of_decide_eq_true hq
  have hb := inR_iff.1 (ty3 hy)
  rw [wrap_u64 hq (by omega)]
  unfold eachI
  cases (intD x == 1) <;> cases (intD x == 2) <;> rfl
def O3 : Tab := e30 :: O2
theorem envO3 : EnvOK Try.prog (envH O3 []) := envOK_cons' envO2 c30

end X
end
section
namespace X
open Go.Ev
set_option linter.unusedVariables false
set_option maxRecDepth 10000
/- roadbook/cost.rowsCost -/
def t26_h : Hints := fun _ =>  none
theorem t26 (N : Nat) (x0 : Int) (x1 : Int) : evFn Try.prog (envR O3 [] [] []) t26_h N Try.f26 [dat 3 (.lit (.int .i64 x0)), dat 3 (.lit (.int .i64 x1))] =
 bif decide (0 <= (rowsI x1)) then
  bif (decide (0 <= (rowsI x1)) && decide (0 <= (eachI x0 (rowsI x1)))) then
   some (dat 3 (.lit (.int .i64 (leastI ((rowsI x1) * (eachI x0 (rowsI x1)))))))
  else none
 else none := by kernel_rfl

end X
end
section
namespace X
open Go.Ev
set_option linter.unusedVariables false
set_option maxRecDepth 10000
set_option linter.unusedSimpArgs false

def e26 : FuncId × TypeId × (List AV -> Bool) × (List AV -> Option D) := (26, 3, yes, ent [3, 3] (f2 fun x y => some (.lit (.int .i64 (rowsCostI (intD x) (intD y))))))
theorem k26 : FnOK Try.prog 26 Try.f26 := ⟨Try.func26, rfl, by kernel_rfl⟩
theorem c26 : ∀ args d, e26.2.2.2 args = some d -> CallOK Try.prog 26 args (mkRes Try.prog 3 d) :=
 ent2 k26 fun x y d h ⟨_, hx⟩ ⟨_, hy⟩ => by
  cases h
  rw [n3, n3]
  refine fn_ok hm envO3 k26 ((t26 1 (intD x) (intD y)).trans ?_)
  rw [m3]
  obtain ⟨a0, a1⟩ := rows_in (intD y)
  have he := each_in (intD x) a0 a1
  rw [he, dT a0]
  rfl
def O4 : Tab := e26 :: O3
theorem envO4 : EnvOK Try.prog (envH O4 []) := envOK_cons envO3 c26

end X
end
section
namespace X
open Go.Ev
set_option linter.unusedVariables false
set_option maxRecDepth 10000
/- roadbook/cost.Scan -/
def t11_h : Hints := fun _ =>  none
theorem t11 (N : Nat) (x0 : Int) : evFn Try.prog (envR O4 [] [] []) t11_h N Try.f11 [dat 3 (.lit (.int .i64 x0))] =
 some (dat 3 (.lit (.int .i64 (rowsCostI 0 x0)))) := by kernel_rfl

/- roadbook/cost.Nest -/
def t13_h : Hints := fun _ =>  none
theorem t13 (N : Nat) (x0 : Int) (x1 : Int) : evFn Try.prog (envR O4 [] [] []) t13_h N Try.f13 [dat 3 (.lit (.int .i64 x0)), dat 3 (.lit (.int .i64 x1))] =
 bif (decide (0 <= (rowsI x0)) && decide (0 <= (rowsI x1))) then
  some (dat 3 (.lit (.int .i64 (leastI ((rowsI x0) * (rowsI x1))))))
 else none := by kernel_rfl

/- roadbook/cost.Hash -/
def t15_h : Hints := fun _ =>  none
theorem t15 (N : Nat) (x0 : Int) (x1 : Int) : evFn Try.prog (envR O4 [] [] []) t15_h N Try.f15 [dat 3 (.lit (.int .i64 x0)), dat 3 (.lit (.int .i64 x1))] =
 some (dat 3 (.lit (.int .i64 (addI ([.lit (.int .i64 (rowsCostI 0 x0)), .lit (.int .i64 (rowsCostI 1 x1))].map intD))))) := by kernel_rfl

/- roadbook/cost.Merge -/
def t17_h : Hints := fun _ =>  none
theorem t17 (N : Nat) (x0 : Int) (x1 : Int) : evFn Try.prog (envR O4 [] [] []) t17_h N Try.f17 [dat 3 (.lit (.int .i64 x0)), dat 3 (.lit (.int .i64 x1))] =
 some (dat 3 (.lit (.int .i64 (addI ([.lit (.int .i64 (rowsCostI 0 x0)), .lit (.int .i64 (rowsCostI 0 x1))].map intD))))) := by kernel_rfl

/- roadbook/cost.Sort -/
def t19_h : Hints := fun _ =>  none
theorem t19 (N : Nat) (x0 : Int) : evFn Try.prog (envR O4 [] [] []) t19_h N Try.f19 [dat 3 (.lit (.int .i64 x0))] =
 some (dat 3 (.lit (.int .i64 (rowsCostI 2 x0)))) := by kernel_rfl

/- roadbook/cost.Group -/
def t21_h : Hints := fun _ =>  none
theorem t21 (N : Nat) (x0 : Int) (x1 : Bool) : evFn Try.prog (envR O4 [] [] []) t21_h N Try.f21 [dat 3 (.lit (.int .i64 x0)), dat 4 (.lit (.bool x1))] =
 bif x1 then
  some (dat 3 (.lit (.int .i64 (rowsCostI 1 x0))))
 else some (dat 3 (.lit (.int .i64 (rowsCostI 0 x0)))) := by kernel_rfl

end X
end
section
namespace X
open Go.Ev
set_option linter.unusedVariables false
set_option maxRecDepth 10000
set_option linter.unusedSimpArgs false

def e11 : FuncId × TypeId × (List AV -> Bool) × (List AV -> Option D) := (11, 3, yes, ent [3] (f1 fun x => some (.lit (.int .i64 (rowsI (intD x))))))
theorem k11 : FnOK Try.prog 11 Try.f11 := ⟨Try.func11, rfl, by kernel_rfl⟩
theorem c11 : ∀ args d, e11.2.2.2 args = some d -> CallOK Try.prog 11 args (mkRes Try.prog 3 d) :=
 ent1 k11 fun x d h ⟨_, hx⟩ => by
  cases h
  rw [n3]
  refine fn_ok hm envO4 k11 ((t11 1 (intD x)).trans ?_)
  rw [m3]
  rw [show rowsCostI 0 (intD x) = rowsI (intD x) from cost_scan _]
  rfl
def e13 : FuncId × TypeId × (List AV -> Bool) × (List AV -> Option D) := (13, 3, yes, ent [3, 3] (f2 fun x y => some (.lit (.int .i64 (nestI (intD x) (intD y))))))
theorem k13 : FnOK Try.prog 13 Try.f13 := ⟨Try.func13, rfl, by kernel_rfl⟩
theorem c13 : ∀ args d, e13.2.2.2 args = some d -> CallOK Try.prog 13 args (mkRes Try.prog 3 d) :=
 ent2 k13 fun x y d h ⟨_, hx⟩ ⟨_, hy⟩ => by
  cases h
  rw [n3, n3]
  refine fn_ok hm envO4 k13 ((t13 1 (intD x) (intD y)).trans ?_)
  rw [m3]
  obtain ⟨a0, a1⟩ := rows_in (intD x)
  obtain ⟨b0, b1⟩ := rows_in (intD y)
  rw [dT a0, dT b0]
  rfl
def e15 : FuncId × TypeId × (List AV -> Bool) × (List AV -> Option D) := (15, 3, yes, ent [3, 3] (f2 fun x y => some (.lit (.int .i64 (hashI (intD x) (intD y))))))
theorem k15 : FnOK Try.prog 15 Try.f15 := ⟨Try.func15, rfl, by kernel_rfl⟩
theorem c15 : ∀ args d, e15.2.2.2 args = some d -> CallOK Try.prog 15 args (mkRes Try.prog 3 d) :=
 ent2 k15 fun x y d h ⟨_, hx⟩ ⟨_, hy⟩ => by
  cases h
  rw [n3, n3]
  refine fn_ok hm envO4 k15 ((t15 1 (intD x) (intD y)).trans ?_)
  rw [m3]
  have e := cost_hash (intD x) (intD y)
  rw [<- e]
  rfl
def e17 : FuncId × TypeId × (List AV -> Bool) × (List AV -> Option D) := (17, 3, yes, ent [3, 3] (f2 fun x y => some (.lit (.int .i64 (mergeI (intD x) (intD y))))))
theorem k17 : FnOK Try.prog 17 Try.f17 := ⟨Try.func17, rfl, by kernel_rfl⟩
theorem c17 : ∀ args d, e17.2.2.2 args = some d -> CallOK Try.prog 17 args (mkRes Try.prog 3 d) :=
 ent2 k17 fun x y d h ⟨_, hx⟩ ⟨_, hy⟩ => by
  cases h
  rw [n3, n3]
  refine fn_ok hm envO4 k17 ((t17 1 (intD x) (intD y)).trans ?_)
  rw [m3]
  have e := cost_merge (intD x) (intD y)
  rw [<- e]
  rfl
def e19 : FuncId × TypeId × (List AV -> Bool) × (List AV -> Option D) := (19, 3, yes, ent [3] (f1 fun x => some (.lit (.int .i64 (sortI (intD x))))))
theorem k19 : FnOK Try.prog 19 Try.f19 := ⟨Try.func19, rfl, by kernel_rfl⟩
theorem c19 : ∀ args d, e19.2.2.2 args = some d -> CallOK Try.prog 19 args (mkRes Try.prog 3 d) :=
 ent1 k19 fun x d h ⟨_, hx⟩ => by
  cases h
  rw [n3]
  refine fn_ok hm envO4 k19 ((t19 1 (intD x)).trans ?_)
  rw [m3]
  have e := cost_sort (intD x)
  rw [<- e]
  rfl
def e21 : FuncId × TypeId × (List AV -> Bool) × (List AV -> Option D) := (21, 3, yes, ent [3, 4] (f2 fun x y => some (.lit (.int .i64 (groupI (intD x) (boolD y))))))
theorem k21 : FnOK Try.prog 21 Try.f21 := ⟨Try.func21, rfl, by kernel_rfl⟩
theorem c21 : ∀ args d, e21.2.2.2 args = some d -> CallOK Try.prog 21 args (mkRes Try.prog 3 d) :=
 ent2 k21 fun x y d h ⟨_, hx⟩ ⟨_, hy⟩ => by
  cases h
  rw [n3, n4]
  refine fn_ok hm envO4 k21 ((t21 1 (intD x) (boolD y)).trans ?_)
  rw [m3]
  have e := cost_group (intD x) (boolD y)
  rw [<- e]
  cases boolD y <;> rfl
def O5 : Tab := e21 :: e19 :: e17 :: e15 :: e13 :: e11 :: O4
theorem envO5 : EnvOK Try.prog (envH O5 []) := envOK_cons (envOK_cons (envOK_cons (envOK_cons (envOK_cons (envOK_cons envO4 c11) c13) c15) c17) c19) c21

end X
end
section
namespace X
open Go.Ev
set_option linter.unusedVariables false
set_option maxRecDepth 10000
/- roadbook/roadbooklaw10.awake -/
def t8_h : Hints := fun _ =>  none
theorem t8 (N : Nat)  : evFn Try.prog (envR O5 [] [] []) t8_h N Try.f8 [] =
 bif (((sortI 5) == 15) == true) then
  bif (((addI ([.lit (.int .i64 2), .lit (.int .i64 3)].map intD)) == 5) == true) then
   bif (((nestI 6 7) == 42) == true) then
    some (dat 4 (.lit (.bool ((hashI 1 2) == 5))))
   else some (dat 4 (.lit (.bool false)))
  else some (dat 4 (.lit (.bool false)))
 else some (dat 4 (.lit (.bool false))) := by kernel_rfl

/- roadbook/roadbooklaw10.a1 -/
def t23_h : Hints := fun _ =>  none
theorem t23 (N : Nat) (x0 : Int) : evFn Try.prog (envR O5 [] [] []) t23_h N Try.f23 [dat 3 (.lit (.int .i64 x0))] =
 some (dat 3 (.lit (.int .i64 (rowsI x0)))) := by kernel_rfl

end X
end
section
namespace X
open Go.Ev
set_option linter.unusedVariables false
set_option maxRecDepth 10000
set_option linter.unusedSimpArgs false

def e8 : FuncId × TypeId × (List AV -> Bool) × (List AV -> Option D) := (8, 4, yes, ent [] (f0 (some (.lit (.bool true)))))
theorem k8 : FnOK Try.prog 8 Try.f8 := ⟨Try.func8, rfl, by kernel_rfl⟩
theorem c8 : ∀ args d, e8.2.2.2 args = some d -> CallOK Try.prog 8 args (mkRes Try.prog 4 d) :=
 ent0 fun d h => by
  cases h
  refine fn_ok hm envO5 k8 ((t8 1).trans ?_)
  rw [m4]
  have h1 : sortI 5 = 15 := by decide +kernel
  have h2 : addI ([DataW.lit (.int .i64 2), DataW.lit (.int .i64 3)].map intD) = 5 := by decide +kernel
  have h3 : nestI 6 7 = 42 := by decide +kernel
  have h4 : hashI 1 2 = 5 := by decide +kernel
  rw [h1, h2, h3, h4]
  rfl
def e23 : FuncId × TypeId × (List AV -> Bool) × (List AV -> Option D) := (23, 3, yes, ent [3] (f1 fun x => some (.lit (.int .i64 (rowsI (intD x))))))
theorem k23 : FnOK Try.prog 23 Try.f23 := ⟨Try.func23, rfl, by kernel_rfl⟩
theorem c23 : ∀ args d, e23.2.2.2 args = some d -> CallOK Try.prog 23 args (mkRes Try.prog 3 d) :=
 ent1 k23 fun x d h ⟨_, hx⟩ => by
  cases h
  rw [n3]
  refine fn_ok hm envO5 k23 ((t23 1 (intD x)).trans ?_)
  rw [m3]
  rfl
def O6 : Tab := e23 :: e8 :: O5
theorem envO6 : EnvOK Try.prog (envH O6 []) := envOK_cons (envOK_cons envO5 c8) c23
theorem law_ok {f : FuncId} {fn : Func} {args : List AV} {env : Env} {hh : Hints} {N : Nat} (henv : EnvOK Try.prog env) (k : FnOK Try.prog f fn) (h : evFn Try.prog env hh N fn args = some (dat 4 (.lit (.bool true)))) : CallOK Try.prog f args (dat 4 (.lit (.bool true))) := by
 have h2 : evFn Try.prog env hh N fn args = some (mkRes Try.prog 4 (.lit (.bool true))) := by rw [h, m4]; rfl
 have h3 := fn_ok hm henv k h2
 rw [m4] at h3
 exact h3

end X
end
section
namespace X
open Go.Ev
set_option linter.unusedVariables false
set_option maxRecDepth 10000
/- roadbook/roadbooklaw10.CostTells -/
def t3_h : Hints := fun _ =>  none
theorem t3 (N : Nat) (x0 : D) (x1 : Int) (x2 : Int) (x3 : Bool) : evFn Try.prog (envR O6 [] [] []) t3_h N Try.f3 [dat 22 x0, dat 3 (.lit (.int .i64 x1)), dat 3 (.lit (.int .i64 x2)), dat 4 (.lit (.bool x3))] =
 bif decide (((elemsD x0).length : Int) > 1000) then
  some (dat 4 (.lit (.bool true)))
 else bif (((addI ((elemsD x0).map intD)) == (addI ((elemsD x0).map intD))) == true) then
   bif (((rowsI x1) == (rowsI x1)) == true) then
    bif (((nestI x1 x2) == (nestI x1 x2)) == true) then
     bif (((hashI x1 x2) == (hashI x1 x2)) == true) then
      bif (((mergeI x1 x2) == (mergeI x1 x2)) == true) then
       bif (((sortI x1) == (sortI x1)) == true) then
        some (dat 4 (.lit (.bool ((groupI x1 x3) == (groupI x1 x3)))))
       else some (dat 4 (.lit (.bool false)))
      else some (dat 4 (.lit (.bool false)))
     else some (dat 4 (.lit (.bool false)))
    else some (dat 4 (.lit (.bool false)))
   else some (dat 4 (.lit (.bool false)))
  else some (dat 4 (.lit (.bool false))) := by kernel_rfl

end X
end
section
namespace X
open Go.Ev
set_option linter.unusedVariables false
set_option maxRecDepth 10000
set_option linter.unusedSimpArgs false

theorem k3 : FnOK Try.prog 3 Try.f3 := ⟨Try.func3, rfl, by kernel_rfl⟩
theorem lawTells {n0 n1 n2 n3 : Nat} {l a b h : D} (h0 : Ty Try.prog n0 22 l) (h1 : Ty Try.prog n1 3 a) (h2 : Ty Try.prog n2 3 b) (h3 : Ty Try.prog n3 4 h) : CallOK Try.prog 3 [dat 22 l, dat 3 a, dat 3 b, dat 4 h] (dat 4 (.lit (.bool true))) := by
 obtain ⟨a, rfl, _⟩ := ty3' h1
 obtain ⟨b, rfl, _⟩ := ty3' h2
 obtain ⟨h, rfl⟩ := ty4' h3
 refine law_ok envO6 k3 ((t3 1 l a b h).trans ?_)
 cases decide (((elemsD l).length : Int) > 1000) with
 | true => rfl
 | false =>
  simp only [beq_self_eq_true, cond_true, cond_false]

end X
end
end Go.Proofs.Ytngkmngbnlmgjaa
