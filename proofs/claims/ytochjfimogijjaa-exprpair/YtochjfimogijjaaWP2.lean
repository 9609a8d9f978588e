/- Layer 2: whether a part fits; a column's value. Nothing here is trusted. -/
import Derived.Test.YtochjfimogijjaaWT2
namespace Go.Proofs.Ytochjfimogijjaa
open Go.Ev
set_option linter.unusedVariables false
set_option linter.unusedSimpArgs false

theorem u26 : ∃ f g h k : Field, Try.prog.underlying 26 = some (.struct #[f, g, h, k]) ∧ f.type = 3 ∧ g.type = 3 ∧ h.type = 23 ∧ k.type = 24 := ⟨_, _, _, _, Try.underlying26, rfl, rfl, rfl, rfl⟩
theorem ty26 {n : Nat} {x : D} (h : Ty Try.prog n 26 x) : ∃ a b c d m, n = m + 1 ∧ x = .agg [.lit (.int .i64 a), .lit (.int .i64 b), c, d] ∧ inR a = true ∧ inR b = true ∧ Ty Try.prog m 23 c ∧ Ty Try.prog m 24 d := by
  obtain ⟨f, g, h', k, hu, hf, hg, hh, hk⟩ := u26
  cases n with
  | zero => exact h.elim
  | succ n =>
    unfold Ty at h
    rw [hu] at h
    split at h <;> try (exact h.elim)
    all_goals try (simp_all; done)
    rename_i fs ps heq
    cases heq
    obtain ⟨hlen, hp⟩ := h
    match ps, hlen with
    | [a, b, c, d], _ =>
      have h0 := hp 0 f rfl
      have h1 := hp 1 g rfl
      have h2 := hp 2 h' rfl
      have h3 := hp 3 k rfl
      rw [hf] at h0
      rw [hg] at h1
      rw [hh] at h2
      rw [hk] at h3
      obtain ⟨z, ea, hz⟩ := ty3' h0
      obtain ⟨y, eb, hy⟩ := ty3' h1
      simp at ea eb
      subst ea eb
      exact ⟨z, y, c, d, n, rfl, rfl, hz, hy, h2, h3⟩
theorem ty24 {n : Nat} {x : D} (h : Ty Try.prog n 24 x) : ∃ es m, n = m + 1 ∧ x = .slice es [] ∧ es.length ≤ maxLen ∧ ∀ y ∈ es, Ty Try.prog m 26 y := by
  cases n with
  | zero => exact h.elim
  | succ n =>
    unfold Ty at h
    rw [u24] at h
    split at h <;> try (exact h.elim)
    all_goals simp_all
/-- Parts of an expression. -/
theorem ty_kids {n : Nat} {x : D} (h : Ty Try.prog n 26 x) : (kids x).length ≤ maxLen ∧ ∀ y ∈ kids x, ∃ m, Ty Try.prog m 26 y := by
  obtain ⟨a, b, c, d, m, rfl, rfl, _, _, _, hd⟩ := ty26 h
  obtain ⟨es, k, rfl, rfl, hl, hall⟩ := ty24 hd
  exact ⟨hl, fun y hy => ⟨k, hall y hy⟩⟩
theorem ty_cols {n : Nat} {x : D} (h : Ty Try.prog n 26 x) : inR (opI x) = true ∧ inR (colI x) = true := by
  obtain ⟨a, b, c, d, m, rfl, rfl, ha, hb, _, _⟩ := ty26 h
  exact ⟨ha, hb⟩
theorem ty_val {n : Nat} {x : D} (h : Ty Try.prog n 26 x) : ∃ k m, fieldD x 2 = vv k m ∧ inR k = true ∧ inR m = true := by
  obtain ⟨a, b, c, d, m, rfl, rfl, ha, hb, hc, _⟩ := ty26 h
  exact ty23 hc

theorem fits_tree (x0 : D) : (bif ((decide ((intD (fieldD x0 0)) < 0)) == false) then
    bif ((decide ((intD (fieldD x0 0)) ≥ 11)) == false) then
      bif ((decide ((intD (fieldD x0 1)) < 0)) == false) then
        bif ((decide ((intD (fieldD x0 1)) > 15)) == false) then
          bif (!(mayB (fieldD x0 2))) then
            some (dat 4 (.lit (.bool false)))
          else bif (((intD (fieldD x0 1)) != 0) == true) then
              bif (((intD (fieldD x0 0)) != 1) == false) then
                bif ((!(((intD (fieldD (fieldD x0 2) 0)) == 0) && (((intD (fieldD (fieldD x0 2) 1)) == 0) && true))) == true) then
                  bif ((intD (fieldD x0 0)) != 0) then
                    some (dat 4 (.lit (.bool false)))
                  else bif (decide (0 ≤ (intD (fieldD x0 0))) && decide ((intD (fieldD x0 0)) < 11)) then
                      some (dat 4 (.lit (.bool (takesB (formT (intD (fieldD x0 0))) ((elemsD (fieldD x0 3)).length : Int)))))
                    else none
                else bif (decide (0 ≤ (intD (fieldD x0 0))) && decide ((intD (fieldD x0 0)) < 11)) then
                    some (dat 4 (.lit (.bool (takesB (formT (intD (fieldD x0 0))) ((elemsD (fieldD x0 3)).length : Int)))))
                  else none
              else some (dat 4 (.lit (.bool false)))
            else bif ((!(((intD (fieldD (fieldD x0 2) 0)) == 0) && (((intD (fieldD (fieldD x0 2) 1)) == 0) && true))) == true) then
                bif ((intD (fieldD x0 0)) != 0) then
                  some (dat 4 (.lit (.bool false)))
                else bif (decide (0 ≤ (intD (fieldD x0 0))) && decide ((intD (fieldD x0 0)) < 11)) then
                    some (dat 4 (.lit (.bool (takesB (formT (intD (fieldD x0 0))) ((elemsD (fieldD x0 3)).length : Int)))))
                  else none
              else bif (decide (0 ≤ (intD (fieldD x0 0))) && decide ((intD (fieldD x0 0)) < 11)) then
                  some (dat 4 (.lit (.bool (takesB (formT (intD (fieldD x0 0))) ((elemsD (fieldD x0 3)).length : Int)))))
                else none
        else some (dat 4 (.lit (.bool false)))
      else some (dat 4 (.lit (.bool false)))
    else some (dat 4 (.lit (.bool false)))
  else some (dat 4 (.lit (.bool false))) : Option AV) = some (dat 4 (.lit (.bool (fitsB x0)))) := by
  unfold fitsB opI colI kids kk nn
  generalize hop : intD (fieldD x0 0) = op
  generalize intD (fieldD x0 1) = col
  generalize (elemsD (fieldD x0 3)).length = len
  generalize mayB (fieldD x0 2) = b5
  generalize (intD (fieldD (fieldD x0 2) 0) == 0) = b6
  generalize (intD (fieldD (fieldD x0 2) 1) == 0) = b7
  have e1 : decide (op < 0) = !decide (0 ≤ op) := by by_cases h : 0 ≤ op <;> simp [h] <;> omega
  have e2 : decide (op ≥ 11) = !decide (op < 11) := by by_cases h : op < 11 <;> simp [h] <;> omega
  have e3 : decide (col < 0) = !decide (0 ≤ col) := by by_cases h : 0 ≤ col <;> simp [h] <;> omega
  have e4 : decide (col > 15) = !decide (col ≤ 15) := by by_cases h : col ≤ 15 <;> simp [h] <;> omega
  have e5 : (col != 0) = !(col == 0) := rfl
  have e6 : (op != 1) = !(op == 1) := rfl
  have e7 : (op != 0) = !(op == 0) := rfl
  rw [e1, e2, e3, e4, e5, e6, e7]
  by_cases h0 : 0 ≤ op
  · by_cases h1 : op < 11
    · rw [takes_form h0 h1]
      have d1 : decide (0 ≤ op) = true := by simpa using h0
      have d2 : decide (op < 11) = true := by simpa using h1
      rw [d1, d2]
      generalize takesN op (len : Int) = b8
      generalize decide (0 ≤ col) = b1
      generalize decide (col ≤ 15) = b2
      generalize (col == 0) = b3
      generalize (op == 1) = b4
      generalize (op == 0) = b9
      cases b1 <;> cases b2 <;> cases b3 <;> cases b4 <;> cases b5 <;> cases b6 <;> cases b7 <;> cases b8 <;> cases b9 <;> rfl
    · have d1 : decide (0 ≤ op) = true := by simpa using h0
      have d2 : decide (op < 11) = false := by simpa using h1
      rw [d1, d2]
      rfl
  · have d1 : decide (0 ≤ op) = false := by simpa using h0
    rw [d1]
    rfl

def e29 : FuncId × TypeId × (List AV → Bool) × (List AV → Option D) := (29, 4, yes, ent [26] (f1 fun x => some (.lit (.bool (fitsB x)))))
theorem k29 : FnOK Try.prog 29 Try.f29 := ⟨Try.func29, rfl, by kernel_rfl⟩
theorem c29 : ∀ args d, e29.2.2.2 args = some d → CallOK Try.prog 29 args (mkRes Try.prog 4 d) :=
  ent1 k29 fun x d h _ => by
    cases h
    rw [n26]
    refine fn_ok hm envU1 k29 ((t29 1 x).trans ?_)
    rw [m4]
    exact fits_tree x

def e38 : FuncId × TypeId × (List AV → Bool) × (List AV → Option D) := (38, 23, yes, ent [3, 27, 28] (f3 fun x y z => some (atD (intD x) (elemsD y) (elemsD z))))
theorem k38 : FnOK Try.prog 38 Try.f38 := ⟨Try.func38, rfl, by kernel_rfl⟩
theorem c38 : ∀ args d, e38.2.2.2 args = some d → CallOK Try.prog 38 args (mkRes Try.prog 23 d) :=
  ent3 k38 fun x y z d h _ _ _ => by
    cases h
    rw [n3, n27, n28]
    refine fn_ok hm envU1 k38 ((t38 1 (intD x) y z).trans ?_)
    rw [m23]
    unfold atD
    generalize Lib.idxOf ((elemsD y).map intD) (intD x) = q
    generalize hn : ((elemsD z).length : Int) = n
    have hv : (.agg [.lit (.int .i64 2), .lit (.int .i64 0)] : D) = vv 2 0 := rfl
    rw [hv]
    by_cases h1 : q < 0
    · have d1 : decide (q < 0) = true := by simpa using h1
      rw [d1]
      rfl
    · have d1 : decide (q < 0) = false := by simpa using h1
      have d2 : decide (0 ≤ q) = true := by simp; omega
      by_cases h2 : q < n
      · have d3 : decide (q < n) = true := by simpa using h2
        have d4 : decide (q ≥ n) = false := by simp; omega
        rw [d1, d2, d3, d4]
        cases mayB ((elemsD z).getD q.toNat .nil) <;> rfl
      · have d4 : decide (q ≥ n) = true := by simp; omega
        rw [d1, d4]
        rfl

def U2 : Tab := e38 :: e29 :: U1
theorem envU2 : EnvOK Try.prog (envH U2 []) := envOK_cons (envOK_cons envU1 c29) c38

end Go.Proofs.Ytochjfimogijjaa
