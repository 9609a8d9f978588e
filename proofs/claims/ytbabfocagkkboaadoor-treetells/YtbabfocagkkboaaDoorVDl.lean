/- Rows less one, and with one that may not be, in plain data. Nothing here is trusted. -/
import Derived.Test.YtbabfocagkkboaaDoorVD
namespace Go.Ev
set_option linter.unusedVariables false
set_option linter.unusedSimpArgs false

def badRow (r : D) : D := .slice ([.agg [.lit (.int .i64 3), .lit (.int .i64 0)]] ++ (((elemsD r).drop ((1 : Int) : Int).toNat).take (((elemsD r).length : Int) - (1 : Int)).toNat)) []
def lessF (q : Int) : List D → Nat → List D
  | [], _ => []
  | r :: rs, j => bif (j : Int) == q then lessF q rs (j + 1) else r :: lessF q rs (j + 1)
def badF (q : Int) : List D → Nat → List D
  | [], _ => []
  | r :: rs, j => (bif (j : Int) == q then badRow r else r) :: badF q rs (j + 1)
def atRow (i : Nat) (t q : Int) : Int := bif (i : Int) == t then q else -1
def lessT (t q : Int) : List D → Nat → List D
  | [], _ => []
  | x :: ts, i => .slice (lessF (atRow i t q) (elemsD x) 0) [] :: lessT t q ts (i + 1)
def badT (t q : Int) : List D → Nat → List D
  | [], _ => []
  | x :: ts, i => .slice (badF (atRow i t q) (elemsD x) 0) [] :: badT t q ts (i + 1)
theorem lessF_mem {q : Int} : ∀ {rs : List D} {j : Nat} {r : D}, r ∈ lessF q rs j → r ∈ rs
  | x :: rs, j, r, h => by
    unfold lessF at h
    cases hq : ((j : Int) == q) with
    | true => rw [hq, cond_true] at h; exact List.mem_cons_of_mem _ (lessF_mem h)
    | false =>
      rw [hq, cond_false] at h
      rcases List.mem_cons.1 h with rfl | h
      · exact List.mem_cons_self ..
      · exact List.mem_cons_of_mem _ (lessF_mem h)
theorem lessF_len (q : Int) : ∀ (rs : List D) (j : Nat), (lessF q rs j).length ≤ rs.length
  | [], j => Nat.le_refl _
  | x :: rs, j => by
    unfold lessF
    have := lessF_len q rs (j + 1)
    cases ((j : Int) == q) with
    | true => rw [cond_true, List.length_cons]; omega
    | false => rw [cond_false, List.length_cons, List.length_cons]; omega
theorem badF_len (q : Int) : ∀ (rs : List D) (j : Nat), (badF q rs j).length = rs.length
  | [], j => rfl
  | x :: rs, j => by
    unfold badF
    rw [List.length_cons, List.length_cons, badF_len q rs (j + 1)]
theorem badF_mem {q : Int} : ∀ {rs : List D} {j : Nat}, (j : Int) ≤ q → q < ((j + rs.length : Nat) : Int) → ∃ r ∈ rs, badRow r ∈ badF q rs j
  | [], j, h1, h2 => by simp at h2; omega
  | x :: rs, j, h1, h2 => by
    unfold badF
    by_cases hq : (j : Int) = q
    · have : ((j : Int) == q) = true := by simpa using hq
      rw [this, cond_true]
      exact ⟨x, List.mem_cons_self .., List.mem_cons_self ..⟩
    · obtain ⟨r, hr, hb⟩ := badF_mem (q := q) (rs := rs) (j := j + 1) (by omega) (by simp only [List.length_cons] at h2; omega)
      exact ⟨r, List.mem_cons_of_mem _ hr, List.mem_cons_of_mem _ hb⟩
theorem lessT_len (t q : Int) : ∀ (ts : List D) (i : Nat), (lessT t q ts i).length = ts.length
  | [], i => rfl
  | x :: ts, i => by unfold lessT; rw [List.length_cons, List.length_cons, lessT_len t q ts (i + 1)]
theorem badT_len (t q : Int) : ∀ (ts : List D) (i : Nat), (badT t q ts i).length = ts.length
  | [], i => rfl
  | x :: ts, i => by unfold badT; rw [List.length_cons, List.length_cons, badT_len t q ts (i + 1)]
theorem lessT_get (t q : Int) : ∀ (ts : List D) (i k : Nat), k < ts.length → (lessT t q ts i).getD k .nil = .slice (lessF (atRow (i + k) t q) (elemsD (ts.getD k .nil)) 0) []
  | x :: ts, i, 0, h => rfl
  | x :: ts, i, k + 1, h => by
    unfold lessT
    rw [List.getD_cons_succ, List.getD_cons_succ, lessT_get t q ts (i + 1) k (by simpa using h)]
    have : i + 1 + k = i + (k + 1) := by omega
    rw [this]
theorem badT_get (t q : Int) : ∀ (ts : List D) (i k : Nat), k < ts.length → (badT t q ts i).getD k .nil = .slice (badF (atRow (i + k) t q) (elemsD (ts.getD k .nil)) 0) []
  | x :: ts, i, 0, h => rfl
  | x :: ts, i, k + 1, h => by
    unfold badT
    rw [List.getD_cons_succ, List.getD_cons_succ, badT_get t q ts (i + 1) k (by simpa using h)]
    have : i + 1 + k = i + (k + 1) := by omega
    rw [this]
theorem bad_fits (T r : D) : fitsRow T (badRow r) = false := by
  unfold fitsRow badRow
  show (_ && ([(.agg [.lit (.int .i64 3), .lit (.int .i64 0)] : D)] ++ _).all mayB) = false
  rw [List.all_append]
  have : [(.agg [.lit (.int .i64 3), .lit (.int .i64 0)] : D)].all mayB = false := rfl
  rw [this, Bool.false_and, Bool.and_false]
theorem less_fits {cs ts : List D} {t q : Int} (h : fitsD (catD cs) (catD ts) = true) : fitsD (catD cs) (catD (lessT t q ts 0)) = true := by
  obtain ⟨h1, h2, h3⟩ := fits_iff.1 h
  have h2 : ts.length = cs.length := h2
  refine fits_iff.2 ⟨h1, (lessT_len t q ts 0).trans h2, fun i hi => ?_⟩
  have hi : i < cs.length := hi
  have h3 : fitsTab (cs.getD i .nil) (ts.getD i .nil) = true := h3 i hi
  show fitsTab (cs.getD i .nil) ((lessT t q ts 0).getD i .nil) = true
  rw [lessT_get t q ts 0 i (by omega)]
  unfold fitsTab at h3 ⊢
  rw [Bool.and_eq_true, decide_eq_true_eq, List.all_eq_true] at h3 ⊢
  refine ⟨?_, fun r hr => h3.2 r (lessF_mem hr)⟩
  have := lessF_len (atRow (0 + i) t q) (elemsD (ts.getD i .nil)) 0
  show ((lessF (atRow (0 + i) t q) (elemsD (ts.getD i .nil)) 0).length : Int) ≤ 8
  omega
theorem bad_not {cs ts : List D} {t q : Int} (h2 : ts.length = cs.length) (ht : 0 ≤ t ∧ t < (ts.length : Int)) (hq : 0 ≤ q ∧ q < ((elemsD (ts.getD t.toNat .nil)).length : Int)) : fitsD (catD cs) (catD (badT t q ts 0)) = false := by
  rw [← Bool.not_eq_true, fits_iff]
  rintro ⟨_, _, h3⟩
  have h3 := h3 t.toNat (show t.toNat < cs.length by omega)
  have h3 : fitsTab (cs.getD t.toNat .nil) ((badT t q ts 0).getD t.toNat .nil) = true := h3
  rw [badT_get t q ts 0 t.toNat (by omega)] at h3
  have ha : atRow (0 + t.toNat) t q = q := by
    unfold atRow
    have : (((0 + t.toNat : Nat) : Int) == t) = true := by rw [beq_iff_eq]; omega
    rw [this]
    rfl
  rw [ha] at h3
  unfold fitsTab at h3
  rw [Bool.and_eq_true, List.all_eq_true] at h3
  obtain ⟨r, _, hb⟩ := badF_mem (q := q) (rs := elemsD (ts.getD t.toNat .nil)) (j := 0) (by omega) (by omega)
  have := h3.2 (badRow r) hb
  rw [bad_fits] at this
  cases this
end Go.Ev
