/- What the evaluator comes to, function by function: by the kernel. Nothing here is trusted. -/
import Derived.Test.YtjgnknkbohlopaaGreatRA
namespace Go.Proofs.YtjgnknkbohlopaaGreat
namespace X
open Go.Ev
set_option linter.unusedVariables false
/- roadbook/roadbookref02.May -/
def t55_h : Hints := fun _ =>  none
theorem t55 (N : Nat) (x0 : D) : evFn Tryz.prog (envR R2 [] [] []) t55_h N Tryz.f55 [dat 35 x0] =
  bif partsP 7 1 then
    bif decide ((partsK 7 x0 1) > 30) then
      some (dat 4 (.lit (.bool false)))
    else bif deepK 7 x0 then
        some (dat 4 (.lit (.bool (fineK 7 x0))))
      else none
  else none := by kernel_rfl

end X
end Go.Proofs.YtjgnknkbohlopaaGreat

namespace Go.Proofs.YtjgnknkbohlopaaGreat
namespace X
open Go.Ev
set_option linter.unusedVariables false
set_option maxRecDepth 10000
set_option linter.unusedSimpArgs false

def e55 : FuncId × TypeId × (List AV → Bool) × (List AV → Option D) := (55, 4, yes, ent [35] (f1 fun x => some (.lit (.bool (mayE x)))))
theorem k55 : FnOK Tryz.prog 55 Tryz.f55 := ⟨Tryz.func55, rfl, by kernel_rfl⟩
theorem c55 : ∀ args d, e55.2.2.2 args = some d → CallOK Tryz.prog 55 args (mkRes Tryz.prog 4 d) :=
  ent1 k55 fun x d h _ => by
    cases h
    rw [n26]
    refine fn_ok hm envR2 k55 ((t55 1 x).trans ?_)
    rw [m4]
    show _ = some (dat 4 (.lit (.bool (mayE x))))
    obtain ⟨p1, p2⟩ := may_parts x
    rw [p1, show partsP 7 1 = true from rfl, cond_true]
    by_cases h30 : partsK 7 x 1 ≤ 30
    · rw [dF (show ¬ partsK 7 x 1 > 30 by omega), dT h30, p2 h30]
      rfl
    · rw [dT (show partsK 7 x 1 > 30 by omega), dF h30]
      rfl
def R3 : Tab := e55 :: R2
theorem envR3 : EnvOK Tryz.prog (envH R3 []) := envOK_cons envR2 c55

end X
end Go.Proofs.YtjgnknkbohlopaaGreat

namespace Go.Proofs.YtjgnknkbohlopaaGreat
namespace X
open Go.Ev
set_option linter.unusedVariables false
/- roadbook/roadbookref02.Cols -/
def t30_h : Hints := fun i => if i = 4 then some ([0, 2, 6, 7, 8, 9, 10, 11, 12, 13, 14, 15, 16, 17, 18, 19, 20, 21, 22, 23, 24], [1, 3], []) else none
def t30_lp4 (P : Program) (fn : Func) (N n : Nat) (x0 : D) (v5 : Int) (b3 : List D) : Option AV := evLoop (preL t30_h (sub [1, 1, 1, 0, 1, 0, 0] (bodyOf fn))) (evCode P (envR R3 [] [] []) t30_h N (sub [1, 1, 1, 0, 1, 0, 0] (bodyOf fn))) n ⟨[dead, bxp 1 35, dead, bxp 3 25, dat 4 (.lit (.bool (mayE x0))), dat 3 (.lit (.int .i64 v5)), dead, dead, dead, dead, dead, dead, dead, dead, dead, dead, dead, dead, dead, dead, dead, dead, dead, dead, dead], lookB [(1, some ⟨35, x0, 0, none⟩), (3, some ⟨25, .slice b3 [], 1, none⟩)]⟩ (blockK 0 (seqC P (envR R3 [] [] []) t30_h N (sub [1, 1, 1, 1] (bodyOf fn)) (finK P fn) ))
theorem t30_lp4_step (N n : Nat) (x0 : D) (v5 : Int) (b3 : List D) : t30_lp4 Tryz.prog Tryz.f30 N (n + 1) x0 v5 b3 =
  bif ((decide (v5 ≤ 15)) == true) then
    bif mayE x0 then
      bif okK 7 x0 then
        bif hasK 7 x0 v5 then
          bif decide ((b3).length + 1 ≤ 2147483648) then
            t30_lp4 Tryz.prog Tryz.f30 N n x0 (IntKind.wrap .i64 (v5 + 1)) (b3 ++ [.lit (.int .i64 v5)])
          else none
        else t30_lp4 Tryz.prog Tryz.f30 N n x0 (IntKind.wrap .i64 (v5 + 1)) b3
      else none
    else some (dat 25 (.slice b3 []))
  else some (dat 25 (.slice b3 [])) := by kernel_rfl
theorem t30 (N : Nat) (x0 : D) : evFn Tryz.prog (envR R3 [] [] []) t30_h N Tryz.f30 [dat 35 x0] =
  t30_lp4 Tryz.prog Tryz.f30 N N x0 0 [] := by kernel_rfl

/- roadbook/roadbookref02.Pair -/
def t46_h : Hints := fun _ =>  none
theorem t46 (N : Nat) (x0 : D) : evFn Tryz.prog (envR R3 [] [] []) t46_h N Tryz.f46 [dat 35 x0] =
  bif ((mayE x0) == true) then
    bif (((intD (fieldD x0 0)) == 6) == true) then
      bif (decide (0 ≤ (0 : Int)) && decide ((0 : Int) < ((elemsD (fieldD x0 3)).length : Int))) then
        bif (((intD (fieldD ((elemsD (fieldD x0 3)).getD 0 .nil) 0)) == 1) == true) then
          bif (decide (0 ≤ (1 : Int)) && decide ((1 : Int) < ((elemsD (fieldD x0 3)).length : Int))) then
            bif (((intD (fieldD ((elemsD (fieldD x0 3)).getD 1 .nil) 0)) == 1) == true) then
              bif (decide (0 ≤ (0 : Int)) && decide ((0 : Int) < ((elemsD (fieldD x0 3)).length : Int))) then
                bif (decide (0 ≤ (1 : Int)) && decide ((1 : Int) < ((elemsD (fieldD x0 3)).length : Int))) then
                  bif ((intD (fieldD ((elemsD (fieldD x0 3)).getD 0 .nil) 1)) != (intD (fieldD ((elemsD (fieldD x0 3)).getD 1 .nil) 1))) then
                    bif (decide (0 ≤ (0 : Int)) && decide ((0 : Int) < ((elemsD (fieldD x0 3)).length : Int))) then
                      bif (decide (0 ≤ (1 : Int)) && decide ((1 : Int) < ((elemsD (fieldD x0 3)).length : Int))) then
                        some (tupA [3, 3, 4] (.agg [.lit (.int .i64 (intD (fieldD ((elemsD (fieldD x0 3)).getD 0 .nil) 1))), .lit (.int .i64 (intD (fieldD ((elemsD (fieldD x0 3)).getD 1 .nil) 1))), .lit (.bool true)]))
                      else none
                    else none
                  else some (tupA [3, 3, 4] (.agg [.lit (.int .i64 0), .lit (.int .i64 0), .lit (.bool false)]))
                else none
              else none
            else some (tupA [3, 3, 4] (.agg [.lit (.int .i64 0), .lit (.int .i64 0), .lit (.bool false)]))
          else none
        else some (tupA [3, 3, 4] (.agg [.lit (.int .i64 0), .lit (.int .i64 0), .lit (.bool false)]))
      else none
    else some (tupA [3, 3, 4] (.agg [.lit (.int .i64 0), .lit (.int .i64 0), .lit (.bool false)]))
  else some (tupA [3, 3, 4] (.agg [.lit (.int .i64 0), .lit (.int .i64 0), .lit (.bool false)])) := by kernel_rfl

end X
end Go.Proofs.YtjgnknkbohlopaaGreat

namespace Go.Proofs.YtjgnknkbohlopaaGreat
namespace X
open Go.Ev
set_option linter.unusedVariables false
set_option maxRecDepth 10000
set_option linter.unusedSimpArgs false

theorem lt_uniq : ∀ {a b : List Int}, a.Pairwise (· < ·) → b.Pairwise (· < ·) → (∀ z, z ∈ a ↔ z ∈ b) → a = b
  | [], [], _, _, _ => rfl
  | [], y :: b, _, _, h => absurd ((h y).2 (List.mem_cons_self ..)) (by simp)
  | x :: a, [], _, _, h => absurd ((h x).1 (List.mem_cons_self ..)) (by simp)
  | x :: a, y :: b, ha, hb, h => by
    rw [List.pairwise_cons] at ha hb
    have h1 := (h x).1 (List.mem_cons_self ..)
    have h2 := (h y).2 (List.mem_cons_self ..)
    have hxy : x = y := by
      rcases List.mem_cons.1 h1 with h1 | h1
      · exact h1
      · rcases List.mem_cons.1 h2 with h2 | h2
        · exact h2.symm
        · have := ha.1 y h2
          have := hb.1 x h1
          omega
    subst hxy
    congr 1
    refine lt_uniq ha.2 hb.2 fun z => ⟨fun hz => ?_, fun hz => ?_⟩
    · have := (h z).1 (List.mem_cons_of_mem _ hz)
      rcases List.mem_cons.1 this with rfl | h3
      · have := ha.1 z hz
        omega
      · exact h3
    · have := (h z).2 (List.mem_cons_of_mem _ hz)
      rcases List.mem_cons.1 this with rfl | h3
      · have := hb.1 z hz
        omega
      · exact h3
/-- Numbers from k on, n of them, that are asked for. -/
def pickN (f : Int → Bool) : Nat → Int → List Int
  | 0, _ => []
  | n + 1, k => (bif f k then [k] else []) ++ pickN f n (k + 1)
theorem pickN_mem {f : Int → Bool} {z : Int} : ∀ {n : Nat} {k : Int}, z ∈ pickN f n k ↔ (k ≤ z ∧ z < k + n ∧ f z = true)
  | 0, k => by simp [pickN]; omega
  | n + 1, k => by
    unfold pickN
    rw [List.mem_append, pickN_mem (n := n) (k := k + 1)]
    by_cases hz : z = k
    · subst hz
      cases hf : f z with
      | true => simp; omega
      | false => simp
    · have : z ∉ (bif f k then [k] else []) := by cases f k <;> simp [hz]
      constructor
      · rintro (h | ⟨a, b, c⟩)
        · exact absurd h this
        · exact ⟨by omega, by omega, c⟩
      · rintro ⟨a, b, c⟩
        exact .inr ⟨by omega, by omega, c⟩
theorem pickN_lt {f : Int → Bool} : ∀ (n : Nat) (k : Int), (pickN f n k).Pairwise (· < ·)
  | 0, k => List.Pairwise.nil
  | n + 1, k => by
    unfold pickN
    rw [List.pairwise_append]
    refine ⟨by cases f k <;> simp, pickN_lt n (k + 1), fun a ha b hb => ?_⟩
    have h1 : a = k := by
      cases hf : f k with
      | true => rw [hf, cond_true, List.mem_singleton] at ha; exact ha
      | false => rw [hf, cond_false] at ha; cases ha
    have := (pickN_mem.1 hb).1
    omega
theorem pickN_len {f : Int → Bool} : ∀ (n : Nat) (k : Int), (pickN f n k).length ≤ n
  | 0, k => Nat.le_refl _
  | n + 1, k => by
    unfold pickN
    have := pickN_len (f := f) n (k + 1)
    rw [List.length_append]
    cases f k <;> simp <;> omega
theorem cols_pick {e : D} (h : mayE e = true) : colsE e = (pickN (hasK 7 e) 16 0).map litI := by
  rw [colsE_eq h]
  congr 1
  refine lt_uniq (cset_lt _) (pickN_lt _ _) fun z => ?_
  rw [mem_cset, pickN_mem, has_cols]
  constructor
  · intro hz
    have := colsI_range 7 e (mayE_ok h) z hz
    exact ⟨by omega, by omega, hz⟩
  · exact fun hz => hz.2.2
theorem rcols_loop {N : Nat} {e : D} (h : mayE e = true) : ∀ (m n : Nat) (k : Int) (l : List D), k + m = 16 → 0 ≤ k → m < n → l.length ≤ 100 - m →
    t30_lp4 Tryz.prog Tryz.f30 N n e k l = some (dat 25 (.slice (l ++ (pickN (hasK 7 e) m k).map litI) []))
  | m, 0, k, l, _, _, hn, _ => by omega
  | 0, n + 1, k, l, hk, h0, _, _ => by
    rw [t30_lp4_step, dF (show ¬ k ≤ 15 by omega), show (false == true) = false from rfl, cond_false]
    simp [pickN]
  | m + 1, n + 1, k, l, hk, h0, hn, hl => by
    rw [t30_lp4_step, dT (show k ≤ 15 by omega), beq_self_eq_true, cond_true, h, cond_true, mayE_ok h, cond_true, l_wrapI (l_in (by omega) (by omega)), dT (show l.length + 1 ≤ 2147483648 by omega)]
    unfold pickN
    cases hf : hasK 7 e k with
    | true =>
      rw [cond_true, cond_true, rcols_loop h m n (k + 1) _ (by omega) (by omega) (by omega) (by simp; omega), List.append_assoc]
      rfl
    | false =>
      rw [cond_false, rcols_loop h m n (k + 1) _ (by omega) (by omega) (by omega) (by omega)]
      rfl
def e30 : FuncId × TypeId × (List AV → Bool) × (List AV → Option D) := (30, 25, yes, ent [35] (f1 fun x => some (.slice (colsE x) [])))
theorem k30 : FnOK Tryz.prog 30 Tryz.f30 := ⟨Tryz.func30, rfl, by kernel_rfl⟩
theorem c30 : ∀ args d, e30.2.2.2 args = some d → CallOK Tryz.prog 30 args (mkRes Tryz.prog 25 d) :=
  ent1 k30 fun x d h _ => by
    cases h
    rw [n26]
    refine fn_ok hm envR3 k30 ((t30 20 x).trans ?_)
    rw [m27]
    cases hmx : mayE x with
    | false =>
      rw [t30_lp4_step, hmx, colsE_not hmx]
      rfl
    | true =>
      rw [cols_pick hmx]
      exact rcols_loop hmx 16 20 0 [] (by omega) (by omega) (by omega) (by simp)
def e46 : FuncId × TypeId × (List AV → Bool) × (List AV → Option D) := (46, 67, yes, ent [35] (f1 fun x => some (.agg [.lit (.int .i64 (pairA x)), .lit (.int .i64 (pairB x)), .lit (.bool (pairE x))])))
theorem k46 : FnOK Tryz.prog 46 Tryz.f46 := ⟨Tryz.func46, rfl, by kernel_rfl⟩
theorem c46 : ∀ args d, e46.2.2.2 args = some d → CallOK Tryz.prog 46 args (mkRes Tryz.prog 67 d) :=
  ent1 k46 fun x d h _ => by
    cases h
    rw [n26]
    refine fn_ok hm envR3 k46 ((t46 1 x).trans ?_)
    rw [m31, show intD (fieldD x 0) = opI x from rfl, show elemsD (fieldD x 3) = kids x from rfl, show intD (fieldD ((kids x).getD 0 .nil) 0) = opI ((kids x).getD 0 .nil) from rfl, show intD (fieldD ((kids x).getD 1 .nil) 0) = opI ((kids x).getD 1 .nil) from rfl,
      show intD (fieldD ((kids x).getD 0 .nil) 1) = colI ((kids x).getD 0 .nil) from rfl, show intD (fieldD ((kids x).getD 1 .nil) 1) = colI ((kids x).getD 1 .nil) from rfl]
    unfold pairA pairB pairE
    cases hmay : mayE x with
    | false => rfl
    | true =>
      cases h6 : (opI x == 6) with
      | false => rfl
      | true =>
        have hl := pair_len hmay (by simpa using h6)
        rw [hl]
        generalize colI ((kids x).getD 0 .nil) = a
        generalize colI ((kids x).getD 1 .nil) = b
        rw [show (a != b) = !(a == b) from rfl]
        generalize (opI ((kids x).getD 0 .nil) == 1) = u
        generalize (opI ((kids x).getD 1 .nil) == 1) = v
        generalize (a == b) = q
        cases u <;> cases v <;> cases q <;> rfl
def R4 : Tab := e46 :: e30 :: R3
theorem envR4 : EnvOK Tryz.prog (envH R4 []) := envOK_cons (envOK_cons envR3 c30) c46

end X
end Go.Proofs.YtjgnknkbohlopaaGreat
