/- Layer 2: Eval and Keeps. Nothing here is trusted. -/
import Derived.Test.YtjgnknkbohlopaaWC
namespace Go.Proofs.Ytjgnknkbohlopaa
namespace X
open Go.Ev
set_option linter.unusedVariables false
set_option linter.unusedSimpArgs false

def U6 : Tab := U4
theorem envU6 : EnvOK Try.prog (envH U6 []) := envU4

/-! ### How many parts; has it a column: by levels -/
def e45 (K : Nat) : FuncId × TypeId × (List AV → Bool) × (List AV → Option D) := (45, 3, fun xs => decide (0 ≤ intD (xs.getD 1 dead).d) && decide (intD (xs.getD 1 dead).d < (K : Int)) && decide (K ≤ 1001), ent [40, 3] (f2 fun x y => some (.lit (.int .i64 (sizeK K x (intD y))))))
def U7 (K : Nat) : Tab := e45 K :: U6

end X
end Go.Proofs.Ytjgnknkbohlopaa

namespace Go.Proofs.Ytjgnknkbohlopaa
namespace X
open Go.Ev
set_option linter.unusedVariables false
/- roadbook/roadbookref02.size -/
def t45_h : Hints := fun i => if i = 3 then some ([0, 3, 4, 7, 8, 9, 10, 11, 12, 13, 14, 15, 16, 17, 18, 19, 20, 21, 22, 23, 24, 25, 26, 27, 28, 29, 30], [2], []) else none
def t45_lp3 (P : Program) (fn : Func) (K : Nat) (N n : Nat) (x0 : D) (x1 : Int) (v5 : Int) (v6 : Int) : Option AV := evLoop (preL t45_h (sub [1, 1, 0, 1, 0, 0] (bodyOf fn))) (evCode P (envH (U7 K) []) t45_h N (sub [1, 1, 0, 1, 0, 0] (bodyOf fn))) n ⟨[dead, dat 3 (.lit (.int .i64 x1)), bxp 2 40, dead, dead, dat 3 (.lit (.int .i64 v5)), dat 3 (.lit (.int .i64 v6)), dead, dead, dead, dead, dead, dead, dead, dead, dead, dead, dead, dead, dead, dead, dead, dead, dead, dead, dead, dead, dead, dead, dead, dead], lookB [(2, some ⟨40, x0, 0, none⟩)]⟩ (blockK 0 (seqC P (envH (U7 K) []) t45_h N (sub [1, 1, 1] (bodyOf fn)) (finK P fn) ))
theorem t45_lp3_step (K : Nat) (N n : Nat) (x0 : D) (x1 : Int) (v5 : Int) (v6 : Int) : t45_lp3 Try.prog Try.f45 K N (n + 1) x0 x1 v5 v6 =
  bif ((decide (v6 < ((elemsD (fieldD x0 3)).length : Int))) == true) then
    bif decide (v5 ≤ x1) then
      bif (decide (0 ≤ v6) && decide (v6 < ((elemsD (fieldD x0 3)).length : Int))) then
        bif (decide (0 ≤ (IntKind.wrap .i64 (x1 - v5))) && decide ((IntKind.wrap .i64 (x1 - v5)) < (K : Int)) && decide (K ≤ 1001)) then
          t45_lp3 Try.prog Try.f45 K N n x0 x1 (IntKind.wrap .i64 (v5 + (sizeK K ((elemsD (fieldD x0 3)).getD (v6).toNat .nil) (IntKind.wrap .i64 (x1 - v5))))) (IntKind.wrap .i64 (v6 + 1))
        else none
      else none
    else some (dat 3 (.lit (.int .i64 v5)))
  else some (dat 3 (.lit (.int .i64 v5))) := by kernel_rfl
theorem t45 (K : Nat) (N : Nat) (x0 : D) (x1 : Int) : evFn Try.prog (envH (U7 K) []) t45_h N Try.f45 [dat 40 x0, dat 3 (.lit (.int .i64 x1))] =
  t45_lp3 Try.prog Try.f45 K N N x0 x1 1 0 := by kernel_rfl

end X
end Go.Proofs.Ytjgnknkbohlopaa

namespace Go.Proofs.Ytjgnknkbohlopaa
namespace X
open Go.Ev
set_option linter.unusedVariables false
set_option linter.unusedSimpArgs false

theorem entp2 {f : FuncId} {fn : Func} {t t1 t2 : TypeId} {F : D → D → Option D} {pre : List AV → Bool} {q : D → D → Bool} (hf : FnOK Try.prog f fn) (hpre : ∀ args, pre args = q (args.getD 0 dead).d (args.getD 1 dead).d)
    (h : ∀ x y d, q x y = true → F x y = some d → (∃ n, Ty Try.prog n t1 x) → (∃ n, Ty Try.prog n t2 y) → CallOK Try.prog f [dat t1 (normD Try.prog t1 x), dat t2 (normD Try.prog t2 y)] (mkRes Try.prog t d)) :
    ∀ args d, pre args = true → ent [t1, t2] (f2 F) args = some d → CallOK Try.prog f args (mkRes Try.prog t d) := by
  intro args d hp hd
  have key := ent2 (P := Try.prog) (f := f) (t := t) (t1 := t1) (t2 := t2) (F := fun x y => if q x y = true then F x y else none) hf (fun x y d h' hx hy => by
    split at h'
    · rename_i hq; exact h x y d hq h' hx hy
    · cases h')
  refine key args d ?_
  unfold ent at hd ⊢
  split at hd
  · rename_i hs
    rw [if_pos hs]
    match args, hd, hp with
    | [a, b], hd, hp =>
      rw [hpre] at hp
      have hp : q a.d b.d = true := hp
      show (if q a.d b.d = true then F a.d b.d else none) = some d
      rw [if_pos hp]
      exact hd
    | [], hd, _ => cases hd
    | [_], hd, _ => cases hd
    | _ :: _ :: _ :: _, hd, _ => cases hd
  · cases hd

/-! ### How many parts -/
theorem sizeL_cons (g : D → Int → Int) (most : Int) (p : D) (l : List D) (n : Int) : sizeL g most (p :: l) n = bif decide (n ≤ most) then sizeL g most l (n + g p (most - n)) else n := rfl
theorem sizeL_over {g : D → Int → Int} {most n : Int} (h : ¬ n ≤ most) : ∀ l, sizeL g most l n = n
  | [] => rfl
  | p :: l => by
    rw [sizeL_cons]
    have : decide (n ≤ most) = false := by simpa using h
    rw [this, cond_false]
theorem sizeL_bound {g : D → Int → Int} (hg : ∀ p m, 0 ≤ m → 1 ≤ g p m ∧ g p m ≤ m + 1) {most : Int} : ∀ (l : List D) (n : Int), 1 ≤ n → n ≤ most + 1 → 1 ≤ sizeL g most l n ∧ sizeL g most l n ≤ most + 1
  | [], n, h1, h2 => ⟨h1, h2⟩
  | p :: l, n, h1, h2 => by
    rw [sizeL_cons]
    by_cases h : n ≤ most
    · have hd : decide (n ≤ most) = true := by simpa using h
      rw [hd, cond_true]
      obtain ⟨a, b⟩ := hg p (most - n) (by omega)
      exact sizeL_bound hg l _ (by omega) (by omega)
    · have hd : decide (n ≤ most) = false := by simpa using h
      rw [hd, cond_false]
      exact ⟨h1, h2⟩
theorem sizeK_bound : ∀ (k : Nat) (e : D) (m : Int), 0 ≤ m → 1 ≤ sizeK k e m ∧ sizeK k e m ≤ m + 1
  | 0, e, m, h => ⟨Int.le_refl 1, by show (1 : Int) ≤ m + 1; omega⟩
  | k + 1, e, m, h => sizeL_bound (fun p m' h' => sizeK_bound k p m' h') (kids e) 1 (by omega) (by omega)

theorem size_loop {K N : Nat} {x0 : D} {most : Int} (hK : K ≤ 1001) (hm0 : 0 ≤ most) (hm1 : most < (K : Int) + 1) (hl : (kids x0).length ≤ maxLen) : ∀ (n i : Nat) (c : Int), i ≤ (kids x0).length → (kids x0).length - i < n → 1 ≤ c → c ≤ most + 1 →
    t45_lp3 Try.prog Try.f45 K N n x0 most c (i : Int) = some (dat 3 (.lit (.int .i64 (sizeL (sizeK K) most ((kids x0).drop i) c))))
  | 0, i, c, _, h, _, _ => by omega
  | n + 1, i, c, hi, h, hc1, hc2 => by
    rw [t45_lp3_step, show elemsD (fieldD x0 3) = kids x0 from rfl]
    by_cases hlt : i < (kids x0).length
    · have h1 : decide ((i : Int) < ((kids x0).length : Int)) = true := by simpa using hlt
      rw [List.drop_eq_getElem_cons hlt, sizeL_cons, idx_ok hlt, h1]
      by_cases h2 : c ≤ most
      · have d2 : decide (c ≤ most) = true := by simpa using h2
        have hw : IntKind.wrap .i64 (most - c) = most - c := wrap_in (by rw [inR_iff]; omega)
        have hp : (decide (0 ≤ most - c) && decide (most - c < (K : Int)) && decide (K ≤ 1001)) = true := by
          simp only [Bool.and_eq_true, decide_eq_true_eq]
          omega
        obtain ⟨s1, s2⟩ := sizeK_bound K (kids x0)[i] (most - c) (by omega)
        have hw2 : IntKind.wrap .i64 (c + sizeK K (kids x0)[i] (most - c)) = c + sizeK K (kids x0)[i] (most - c) := wrap_in (by rw [inR_iff]; omega)
        rw [d2, hw, hp, Int.toNat_natCast, getD_lt hlt, hw2, wrap_step hl hlt]
        exact size_loop hK hm0 hm1 hl n (i + 1) _ (by omega) (by omega) (by omega) (by omega)
      · have d2 : decide (c ≤ most) = false := by simpa using h2
        rw [d2]
        rfl
    · have h1 : decide ((i : Int) < ((kids x0).length : Int)) = false := by simpa using hlt
      have h2 : (kids x0).drop i = [] := List.drop_of_length_le (by omega)
      rw [h1, h2]
      rfl

theorem k45 : FnOK Try.prog 45 Try.f45 := ⟨Try.func45, rfl, by kernel_rfl⟩
theorem c45 (K : Nat) (henv : EnvOK Try.prog (envH (U7 K) [])) : ∀ args d, (e45 (K + 1)).2.2.1 args = true → (e45 (K + 1)).2.2.2 args = some d → CallOK Try.prog 45 args (mkRes Try.prog 3 d) :=
  entp2 k45 (q := fun x y => decide (0 ≤ intD y) && decide (intD y < ((K + 1 : Nat) : Int)) && decide (K + 1 ≤ 1001)) (fun _ => rfl) fun x y d hq h ⟨_, hx⟩ ⟨_, hy⟩ => by
    cases h
    rw [n26, n3]
    simp only [Bool.and_eq_true, decide_eq_true_eq] at hq
    obtain ⟨z, rfl, _⟩ := ty3' hy
    have hq : (0 ≤ z ∧ z < ((K + 1 : Nat) : Int)) ∧ K + 1 ≤ 1001 := hq
    obtain ⟨hl, _⟩ := ty_kids hx
    refine fn_ok hm henv k45 ((t45 K ((kids x).length + 1) x z).trans ?_)
    rw [m3]
    exact size_loop (K := K) (by omega) hq.1.1 (by omega) hl ((kids x).length + 1) 0 1 (Nat.zero_le _) (by omega) (by omega) (by omega)
theorem envU7 : ∀ K : Nat, EnvOK Try.prog (envH (U7 K) [])
  | 0 => envOK_cons' envU6 (fun args d hp _ => by
        exfalso
        simp only [Bool.and_eq_true, decide_eq_true_eq] at hp
        have : (0 : Int) ≤ intD (args.getD 1 dead).d := hp.1.1
        have : intD (args.getD 1 dead).d < ((0 : Nat) : Int) := hp.1.2
        omega)
  | K + 1 => envOK_cons' envU6 (c45 K (envU7 K))

def fewB (e : D) (n : Int) : Bool := decide (sizeK 1001 e n ≤ n)
def smallD : D := .agg [.lit (.int .i64 7), .lit (.int .i64 0), .agg [.lit (.int .i64 0), .lit (.int .i64 0)], .slice [.agg [.lit (.int .i64 1), .lit (.int .i64 3), .agg [.lit (.int .i64 0), .lit (.int .i64 0)], .slice [] []], .agg [.lit (.int .i64 0), .lit (.int .i64 0), .agg [.lit (.int .i64 0), .lit (.int .i64 5)], .slice [] []]] []]
def e25 : FuncId × TypeId × (List AV → Bool) × (List AV → Option D) := (25, 40, yes, ent [] (f0 (some smallD)))
def U8 : Tab := e25 :: U6

end X
end Go.Proofs.Ytjgnknkbohlopaa

namespace Go.Proofs.Ytjgnknkbohlopaa
namespace X
open Go.Ev
set_option linter.unusedVariables false
/- roadbook/roadbookref02.Few -/
def t26_h : Hints := fun _ =>  none
theorem t26 (N : Nat) (x0 : D) (x1 : Int) : evFn Try.prog (envH (U7 1001) []) t26_h N Try.f26 [dat 40 x0, dat 3 (.lit (.int .i64 x1))] =
  bif (decide (0 ≤ x1) && decide (x1 < (1001 : Int)) && decide (1001 ≤ 1001)) then
    some (dat 4 (.lit (.bool (decide ((sizeK 1001 x0 x1) ≤ x1)))))
  else none := by kernel_rfl

/- roadbook/roadbooklaw02.Small -/
def t25_h : Hints := fun _ =>  none
theorem t25 (N : Nat)  : evFn Try.prog (envH U6 []) t25_h N Try.f25 [] =
  some (dat 40 (.agg [.lit (.int .i64 7), .lit (.int .i64 0), .agg [.lit (.int .i64 0), .lit (.int .i64 0)], .slice [.agg [.lit (.int .i64 1), .lit (.int .i64 3), .agg [.lit (.int .i64 0), .lit (.int .i64 0)], .slice [] []], .agg [.lit (.int .i64 0), .lit (.int .i64 0), .agg [.lit (.int .i64 0), .lit (.int .i64 5)], .slice [] []]] []])) := by kernel_rfl

end X
end Go.Proofs.Ytjgnknkbohlopaa

namespace Go.Proofs.Ytjgnknkbohlopaa
namespace X
open Go.Ev
set_option linter.unusedVariables false
set_option linter.unusedSimpArgs false

theorem m26 (x : D) : mkRes Try.prog 40 x = dat 40 x := by kernel_rfl
theorem k25 : FnOK Try.prog 25 Try.f25 := ⟨Try.func25, rfl, by kernel_rfl⟩
theorem c25 : ∀ args d, e25.2.2.2 args = some d → CallOK Try.prog 25 args (mkRes Try.prog 40 d) :=
  ent0 fun d h => by
    cases h
    refine fn_ok hm envU6 k25 ((t25 1).trans ?_)
    rw [m26]
    rfl
theorem envU8 : EnvOK Try.prog (envH U8 []) := envOK_cons envU6 c25

theorem small_cols : colsE smallD = [.lit (.int .i64 3)] := by
  have h1 : mayE smallD = true := rfl
  have h2 : colsK 7 smallD = [litI 3] := rfl
  unfold colsE
  rw [h1, h2, cond_true]
  have h3 : sortD [litI 3] = [litI 3] := by
    unfold sortD sortI
    simp [litI, intD]
  rw [h3]
  rfl
def e26 : FuncId × TypeId × (List AV → Bool) × (List AV → Option D) := (26, 4, fun xs => decide (0 ≤ intD (xs.getD 1 dead).d) && decide (intD (xs.getD 1 dead).d ≤ 1000), ent [40, 3] (f2 fun x y => some (.lit (.bool (fewB x (intD y))))))
theorem k26 : FnOK Try.prog 26 Try.f26 := ⟨Try.func26, rfl, by kernel_rfl⟩
theorem c26 : ∀ args d, e26.2.2.1 args = true → e26.2.2.2 args = some d → CallOK Try.prog 26 args (mkRes Try.prog 4 d) :=
  entp2 k26 (q := fun x y => decide (0 ≤ intD y) && decide (intD y ≤ 1000)) (fun _ => rfl) fun x y d hq h _ ⟨_, hy⟩ => by
    cases h
    rw [n26, n3]
    simp only [Bool.and_eq_true, decide_eq_true_eq] at hq
    obtain ⟨z, rfl, _⟩ := ty3' hy
    have hq : 0 ≤ z ∧ z ≤ 1000 := hq
    refine fn_ok hm (envU7 1001) k26 ((t26 1 x z).trans ?_)
    rw [m4]
    have h1 : (decide (0 ≤ z) && decide (z < (1001 : Int)) && decide (1001 ≤ 1001)) = true := by
      simp only [Bool.and_eq_true, decide_eq_true_eq]
      omega
    rw [h1]
    rfl
def U9 : Tab := e26 :: U8
theorem envU9 : EnvOK Try.prog (envH U9 []) := envOK_cons' envU8 c26

end X
end Go.Proofs.Ytjgnknkbohlopaa
