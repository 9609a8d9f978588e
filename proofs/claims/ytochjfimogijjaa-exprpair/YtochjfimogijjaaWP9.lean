/- Layer 2: how many parts an expression has, and has it a column. Nothing here is trusted. -/
import Derived.Test.YtochjfimogijjaaWT9
namespace Go.Proofs.Ytochjfimogijjaa
open Go.Ev
set_option linter.unusedVariables false
set_option linter.unusedSimpArgs false

theorem entp2 {f : FuncId} {fn : Func} {t t1 t2 : TypeId} {F : D → D → Option D} {pre : List AV → Bool} {q : D → D → Bool} (hf : FnOK Try.prog f fn) (hpre : ∀ args, pre args = q (args.getD 0 dead).d (args.getD 1 dead).d)
    (h : ∀ x y d, q x y = true → F x y = some d → (∃ n, Ty Try.prog n t1 x) → (∃ n, Ty Try.prog n t2 y) → CallOK Try.prog f [dat t1 (normD Try.prog t1 x), dat t2 (normD Try.prog t2 y)] (mkRes Try.prog t d)) :
    ∀ args d, pre args = true → ent [t1, t2] (f2 F) args = some d → CallOK Try.prog f args (mkRes Try.prog t d) := by
  intro args d hp hd
  have key := ent2 (P := Try.prog) (f := f) (t := t) (t1 := t1) (t2 := t2) (F := fun x y => if q x y = true then F x y else none) hf (fun x y d h' hx hy => by
    split at h'
    · rename_i hq; exact h x y d hq h' hx hy
    · cases h')
  refine key args d ?_
  unfold ent at hd ⊢
  split at hd
  · rename_i hs
    rw [if_pos hs]
    match args, hd, hp with
    | [a, b], hd, hp =>
      rw [hpre] at hp
      have hp : q a.d b.d = true := hp
      show (if q a.d b.d = true then F a.d b.d else none) = some d
      rw [if_pos hp]
      exact hd
    | [], hd, _ => cases hd
    | [_], hd, _ => cases hd
    | _ :: _ :: _ :: _, hd, _ => cases hd
  · cases hd

/-! ### How many parts -/
theorem sizeL_cons (g : D → Int → Int) (most : Int) (p : D) (l : List D) (n : Int) : sizeL g most (p :: l) n = bif decide (n ≤ most) then sizeL g most l (n + g p (most - n)) else n := rfl
theorem sizeL_over {g : D → Int → Int} {most n : Int} (h : ¬ n ≤ most) : ∀ l, sizeL g most l n = n
  | [] => rfl
  | p :: l => by
    rw [sizeL_cons]
    have : decide (n ≤ most) = false := by simpa using h
    rw [this, cond_false]
theorem sizeL_bound {g : D → Int → Int} (hg : ∀ p m, 0 ≤ m → 1 ≤ g p m ∧ g p m ≤ m + 1) {most : Int} : ∀ (l : List D) (n : Int), 1 ≤ n → n ≤ most + 1 → 1 ≤ sizeL g most l n ∧ sizeL g most l n ≤ most + 1
  | [], n, h1, h2 => ⟨h1, h2⟩
  | p :: l, n, h1, h2 => by
    rw [sizeL_cons]
    by_cases h : n ≤ most
    · have hd : decide (n ≤ most) = true := by simpa using h
      rw [hd, cond_true]
      obtain ⟨a, b⟩ := hg p (most - n) (by omega)
      exact sizeL_bound hg l _ (by omega) (by omega)
    · have hd : decide (n ≤ most) = false := by simpa using h
      rw [hd, cond_false]
      exact ⟨h1, h2⟩
theorem sizeK_bound : ∀ (k : Nat) (e : D) (m : Int), 0 ≤ m → 1 ≤ sizeK k e m ∧ sizeK k e m ≤ m + 1
  | 0, e, m, h => ⟨Int.le_refl 1, by show (1 : Int) ≤ m + 1; omega⟩
  | k + 1, e, m, h => sizeL_bound (fun p m' h' => sizeK_bound k p m' h') (kids e) 1 (by omega) (by omega)

theorem size_loop {K N : Nat} {x0 : D} {most : Int} (hK : K ≤ 1001) (hm0 : 0 ≤ most) (hm1 : most < (K : Int) + 1) (hl : (kids x0).length ≤ maxLen) : ∀ (n i : Nat) (c : Int), i ≤ (kids x0).length → (kids x0).length - i < n → 1 ≤ c → c ≤ most + 1 →
    t26_lp3 Try.prog Try.f26 K N n x0 most c (i : Int) = some (dat 3 (.lit (.int .i64 (sizeL (sizeK K) most ((kids x0).drop i) c))))
  | 0, i, c, _, h, _, _ => by omega
  | n + 1, i, c, hi, h, hc1, hc2 => by
    rw [t26_lp3_step, show elemsD (fieldD x0 3) = kids x0 from rfl]
    by_cases hlt : i < (kids x0).length
    · have h1 : decide ((i : Int) < ((kids x0).length : Int)) = true := by simpa using hlt
      rw [List.drop_eq_getElem_cons hlt, sizeL_cons, idx_ok hlt, h1]
      by_cases h2 : c ≤ most
      · have d2 : decide (c ≤ most) = true := by simpa using h2
        have hw : IntKind.wrap .i64 (most - c) = most - c := wrap_in (by rw [inR_iff]; omega)
        have hp : (decide (0 ≤ most - c) && decide (most - c < (K : Int)) && decide (K ≤ 1001)) = true := by
          simp only [Bool.and_eq_true, decide_eq_true_eq]
          omega
        obtain ⟨s1, s2⟩ := sizeK_bound K (kids x0)[i] (most - c) (by omega)
        have hw2 : IntKind.wrap .i64 (c + sizeK K (kids x0)[i] (most - c)) = c + sizeK K (kids x0)[i] (most - c) := wrap_in (by rw [inR_iff]; omega)
        rw [d2, hw, hp, Int.toNat_natCast, getD_lt hlt, hw2, wrap_step hl hlt]
        exact size_loop hK hm0 hm1 hl n (i + 1) _ (by omega) (by omega) (by omega) (by omega)
      · have d2 : decide (c ≤ most) = false := by simpa using h2
        rw [d2]
        rfl
    · have h1 : decide ((i : Int) < ((kids x0).length : Int)) = false := by simpa using hlt
      have h2 : (kids x0).drop i = [] := List.drop_of_length_le (by omega)
      rw [h1, h2]
      rfl

theorem has_loop {K N : Nat} {x0 : D} {c : Int} (hl : (kids x0).length ≤ maxLen) (hok : ∀ p ∈ kids x0, okK K p = true) : ∀ (n i : Nat), i ≤ (kids x0).length → (kids x0).length - i < n →
    t23_lp4 Try.prog Try.f23 K N n x0 c (i : Int) = some (dat 4 (.lit (.bool (((kids x0).drop i).any fun p => hasK K p c))))
  | 0, i, _, h => by omega
  | n + 1, i, hi, h => by
    rw [t23_lp4_step, show elemsD (fieldD x0 3) = kids x0 from rfl]
    by_cases hlt : i < (kids x0).length
    · have h1 : decide ((i : Int) < ((kids x0).length : Int)) = true := by simpa using hlt
      rw [List.drop_eq_getElem_cons hlt, List.any_cons, idx_ok hlt, h1, cond_true, cond_true, Int.toNat_natCast, getD_lt hlt, hok _ (List.getElem_mem hlt), cond_true, wrap_step hl hlt]
      cases hh : hasK K (kids x0)[i] c with
      | true => rfl
      | false =>
        rw [cond_false, Bool.false_or]
        exact has_loop hl hok n (i + 1) (by omega) (by omega)
    · have h1 : decide ((i : Int) < ((kids x0).length : Int)) = false := by simpa using hlt
      have h2 : (kids x0).drop i = [] := List.drop_of_length_le (by omega)
      rw [h1, h2]
      rfl

theorem k26 : FnOK Try.prog 26 Try.f26 := ⟨Try.func26, rfl, by kernel_rfl⟩
theorem k23 : FnOK Try.prog 23 Try.f23 := ⟨Try.func23, rfl, by kernel_rfl⟩
theorem c26 (K : Nat) (henv : EnvOK Try.prog (envH (U7 K) [])) : ∀ args d, (e26 (K + 1)).2.2.1 args = true → (e26 (K + 1)).2.2.2 args = some d → CallOK Try.prog 26 args (mkRes Try.prog 3 d) :=
  entp2 k26 (q := fun x y => decide (0 ≤ intD y) && decide (intD y < ((K + 1 : Nat) : Int)) && decide (K + 1 ≤ 1001)) (fun _ => rfl) fun x y d hq h ⟨_, hx⟩ ⟨_, hy⟩ => by
    cases h
    rw [n26, n3]
    simp only [Bool.and_eq_true, decide_eq_true_eq] at hq
    obtain ⟨z, rfl, _⟩ := ty3' hy
    have hq : (0 ≤ z ∧ z < ((K + 1 : Nat) : Int)) ∧ K + 1 ≤ 1001 := hq
    obtain ⟨hl, _⟩ := ty_kids hx
    refine fn_ok hm henv k26 ((t26 K ((kids x).length + 1) x z).trans ?_)
    rw [m3]
    exact size_loop (K := K) (by omega) hq.1.1 (by omega) hl ((kids x).length + 1) 0 1 (Nat.zero_le _) (by omega) (by omega) (by omega)
theorem c23 (K : Nat) (henv : EnvOK Try.prog (envH (U7 K) [])) : ∀ args d, (e23 (K + 1)).2.2.1 args = true → (e23 (K + 1)).2.2.2 args = some d → CallOK Try.prog 23 args (mkRes Try.prog 4 d) :=
  entp2 k23 (q := fun x y => okK (K + 1) x) (fun _ => rfl) fun x y d hq h ⟨_, hx⟩ ⟨_, hy⟩ => by
    cases h
    rw [n26, n3]
    simp only [okK_succ, Bool.and_eq_true, List.all_eq_true] at hq
    obtain ⟨z, rfl, _⟩ := ty3' hy
    obtain ⟨hl, _⟩ := ty_kids hx
    refine fn_ok hm henv k23 ((t23 K ((kids x).length + 1) x z).trans ?_)
    rw [m4]
    have hloop := has_loop (K := K) (N := (kids x).length + 1) (c := z) hl hq.2 ((kids x).length + 1) 0 (Nat.zero_le _) (by omega)
    rw [show intD (fieldD x 0) = opI x from rfl, show intD (fieldD x 1) = colI x from rfl]
    show _ = some (dat 4 (.lit (.bool ((opI x == 1 && colI x == z) || (kids x).any fun p => hasK K p z))))
    have hloop : t23_lp4 Try.prog Try.f23 K ((kids x).length + 1) ((kids x).length + 1) x z 0 = some (dat 4 (.lit (.bool ((kids x).any fun p => hasK K p z)))) := hloop
    rw [hloop]
    cases (opI x == 1) <;> cases (colI x == z) <;> rfl
theorem envU7 : ∀ K : Nat, EnvOK Try.prog (envH (U7 K) [])
  | 0 => envOK_cons' (envOK_cons' envU6 (fun args d hp _ => by
        exfalso
        simp only [Bool.and_eq_true, decide_eq_true_eq] at hp
        have : (0 : Int) ≤ intD (args.getD 1 dead).d := hp.1.1
        have : intD (args.getD 1 dead).d < ((0 : Nat) : Int) := hp.1.2
        omega)) (fun args d hp _ => by
        have hp : false = true := hp
        cases hp)
  | K + 1 => envOK_cons' (envOK_cons' envU6 (c26 K (envU7 K))) (c23 K (envU7 K))

def fewB (e : D) (n : Int) : Bool := decide (sizeK 1001 e n ≤ n)
def smallD : D := .agg [.lit (.int .i64 7), .lit (.int .i64 0), .agg [.lit (.int .i64 0), .lit (.int .i64 0)], .slice [.agg [.lit (.int .i64 1), .lit (.int .i64 3), .agg [.lit (.int .i64 0), .lit (.int .i64 0)], .slice [] []], .agg [.lit (.int .i64 0), .lit (.int .i64 0), .agg [.lit (.int .i64 0), .lit (.int .i64 5)], .slice [] []]] []]
def e25 : FuncId × TypeId × (List AV → Bool) × (List AV → Option D) := (25, 26, yes, ent [] (f0 (some smallD)))
def U8 : Tab := e25 :: U6

end Go.Proofs.Ytochjfimogijjaa
