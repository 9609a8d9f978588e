/- What the evaluator comes to, function by function: by the kernel. Nothing here is trusted. -/
import Derived.Test.YtbabfocagkkboaaDoorTA
namespace Go.Proofs.YtbabfocagkkboaaDoor
namespace X
open Go.Ev
set_option linter.unusedVariables false
/- roadbook/tree.May -/
def t13_h : Hints := fun _ =>  none
theorem t13 (N : Nat) (x0 : D) : evFn Tryd.prog (envH S3 []) t13_h N Tryd.f13 [dat 24 x0] =
  some (dat 4 (.lit (.bool ((setT x0) != 0)))) := by kernel_rfl

/- strconv.Itoa -/
def t43_h : Hints := fun _ =>  none
theorem t43 (N : Nat) (x0 : Int) : evFn Tryd.prog (envH S3 []) t43_h N Tryd.f43 [dat 3 (.lit (.int .i64 x0))] =
  bif (decide (0 ≤ x0) && decide (x0 < 10)) then
    some (dat 9 (.lit (.string (digitL x0))))
  else none := by kernel_rfl

/- roadbook/tree.alike -/
def t35_h : Hints := fun _ =>  none
theorem t35 (N : Nat) (x0 : D) (x1 : D) (x2 : Int) : evFn Tryd.prog (envH [] (H1 130)) t35_h N Tryd.f35 [dat 24 x0, dat 24 x1, dat 3 (.lit (.int .i64 x2))] =
  bif alPre 130 x0 1 x2 then
    some (dat 4 (.lit (.bool ((alK 130 x0 x1 1 x2).1))))
  else none := by kernel_rfl

end X
end Go.Proofs.YtbabfocagkkboaaDoor

namespace Go.Proofs.YtbabfocagkkboaaDoor
namespace X
open Go.Ev
set_option linter.unusedVariables false
set_option linter.unusedSimpArgs false

theorem k13 : FnOK Tryd.prog 13 Tryd.f13 := ⟨Tryd.func13, rfl, by kernel_rfl⟩
theorem k43 : FnOK Tryd.prog 43 Tryd.f43 := ⟨Tryd.func43, rfl, by kernel_rfl⟩
theorem k35 : FnOK Tryd.prog 35 Tryd.f35 := ⟨Tryd.func35, rfl, by kernel_rfl⟩
def e13 : FuncId × TypeId × (List AV → Bool) × (List AV → Option D) := (13, 4, yes, ent [24] (f1 fun x => some (.lit (.bool (mayT x)))))
theorem c13 : ∀ args d, e13.2.2.2 args = some d → CallOK Tryd.prog 13 args (mkRes Tryd.prog 4 d) :=
  ent1 k13 fun x d h ⟨_, hx⟩ => by
    cases h
    rw [n24]
    exact fn_ok hm envS3 k13 (t13 0 x)
def e43 : FuncId × TypeId × (List AV → Bool) × (List AV → Option D) := (43, 9, preD (q1 fun x => decide (0 ≤ intD x) && decide (intD x < 10)), ent [3] (f1 fun x => some (.lit (.string (digitL (intD x))))))
theorem c43 : ∀ args d, e43.2.2.1 args = true → e43.2.2.2 args = some d → CallOK Tryd.prog 43 args (mkRes Tryd.prog 9 d) :=
  ent1p k43 fun x d hq h ⟨_, hx⟩ => by
    cases h
    obtain ⟨z, rfl, hz⟩ := ty3' hx
    rw [n3]
    have hq : (decide (0 ≤ z) && decide (z < 10)) = true := hq
    refine fn_ok hm envS3 k43 ((t43 0 z).trans ?_)
    rw [hq, m9]
    rfl
def e35 : FuncId × TypeId × (List AV → Bool) × (List AV → Option D) := (35, 4, preD (q3 fun x y z => alPre 130 x 1 (intD z)), ent [24, 24, 3] (f3 fun x y z => some (.lit (.bool (alK 130 x y 1 (intD z)).1))))
theorem c35 : ∀ args d, e35.2.2.1 args = true → e35.2.2.2 args = some d → CallOK Tryd.prog 35 args (mkRes Tryd.prog 4 d) :=
  ent3p k35 fun x y z d hq h ⟨_, hx⟩ ⟨_, hy⟩ ⟨_, hz⟩ => by
    cases h
    obtain ⟨u, rfl, hu⟩ := ty3' hz
    rw [n24, n24, n3]
    have hq : alPre 130 x 1 u = true := hq
    refine fn_ok hm (envH1 130) k35 ((t35 0 x y u).trans ?_)
    rw [hq, m4]
    rfl
def S4 : Tab := e35 :: e43 :: e13 :: S3
theorem envS4 : EnvOK Tryd.prog (envH S4 []) := envOK_cons' (envOK_cons' (envOK_cons envS3 c13) c43) c35
def e38 (K : Nat) : FuncId × TypeId × (List AV → Bool) × (List AV → Option D) := (38, 24, preD (q1 fun x => smK K x), ent [24] (f1 fun x => some x))
def e34 (K : Nat) : FuncId × TypeId × (List AV → Bool) × (List AV → Option D) := (34, 9, preD (q1 fun x => (setK K x != 0) && decide (K ≤ 20)), ent [24] (f1 fun x => some (.lit (.string (textK K x)))))
def S5 (K : Nat) : Tab := e38 K :: S4
def S6 (K : Nat) : Tab := e34 K :: S4
end X
end Go.Proofs.YtbabfocagkkboaaDoor

namespace Go.Proofs.YtbabfocagkkboaaDoor
namespace X
open Go.Ev
set_option linter.unusedVariables false
/- roadbook/tree.small -/
def t36_h : Hints := fun _ =>  none
theorem t36 (N : Nat) (x0 : D) : evFn Tryd.prog (envH S4 []) t36_h N Tryd.f36 [dat 24 x0] =
  bif alPre 130 x0 1 67108864 then
    some (dat 4 (.lit (.bool ((alK 130 x0 x0 1 67108864).1))))
  else none := by kernel_rfl

/- roadbook/tree.Same -/
def t19_h : Hints := fun _ =>  none
theorem t19 (N : Nat) (x0 : D) (x1 : D) : evFn Tryd.prog (envH S4 []) t19_h N Tryd.f19 [dat 24 x0, dat 24 x1] =
  bif alPre 130 x0 1 2147483647 then
    some (dat 4 (.lit (.bool ((alK 130 x0 x1 1 2147483647).1))))
  else none := by kernel_rfl

/- roadbook/tree.copied -/
def t38_h : Hints := fun i => if i = 5 then some ([0, 4, 5, 6, 7, 8, 9, 10, 11, 12, 13, 14, 15, 16, 17, 21, 22, 23, 24, 25, 26, 27, 28, 29, 30, 31, 32, 33, 34], [1, 2, 16], []) else none
def t38_lp5 (P : Program) (fn : Func) (K : Nat) (N n : Nat) (x0 : D) (v20 : Int) (b16 : List D) : Option AV := evLoop (preL t38_h (sub [1, 1, 1, 0, 1, 0, 0] (bodyOf fn))) (evCode P (envH (S5 K) []) t38_h N (sub [1, 1, 1, 0, 1, 0, 0] (bodyOf fn))) n ⟨[dead, bxp 1 24, bxp 2 24, bxp 16 22, dead, dead, dead, dead, dead, dead, dead, dead, dead, dead, dead, dead, dead, dead, dat 22 (fieldD x0 1), dat 3 (.lit (.int .i64 ((elemsD (fieldD x0 1)).length : Int))), dat 3 (.lit (.int .i64 v20)), dead, dead, dead, dead, dead, dead, dead, dead, dead, dead, dead, dead, dead, dead], lookB [(1, some ⟨24, x0, 0, none⟩), (2, some ⟨24, .agg [.lit (.int .i64 0), .slice [] []], 0, none⟩), (16, some ⟨22, .slice b16 [], 2, none⟩)]⟩ (blockK 0 (seqC P (envH (S5 K) []) t38_h N (sub [1, 1, 1, 1] (bodyOf fn)) (finK P fn) ))
theorem t38_lp5_step (K : Nat) (N n : Nat) (x0 : D) (v20 : Int) (b16 : List D) : t38_lp5 Tryd.prog Tryd.f38 K N (n + 1) x0 v20 b16 =
  bif decide (v20 < ((elemsD (fieldD x0 1)).length : Int)) then
    bif (decide (0 ≤ v20) && decide (v20 < ((elemsD (fieldD x0 1)).length : Int))) then
      bif smK K ((elemsD (fieldD x0 1)).getD (v20).toNat .nil) then
        bif (decide (0 ≤ v20) && decide (v20 < (b16.length : Int))) then
          t38_lp5 Tryd.prog Tryd.f38 K N n x0 (IntKind.wrap .i64 (v20 + 1)) (b16.set (v20).toNat ((elemsD (fieldD x0 1)).getD (v20).toNat .nil))
        else none
      else none
    else none
  else some (dat 24 (.agg [.lit (.int .i64 (intD (fieldD x0 0))), .slice b16 []])) := by kernel_rfl
theorem t38 (K : Nat) (N : Nat) (x0 : D) : evFn Tryd.prog (envH (S5 K) []) t38_h N Tryd.f38 [dat 24 x0] =
  bif (((elemsD (fieldD x0 1)).length : Int) == 0) then
    some (dat 24 (leafD (intD (fieldD x0 0))))
  else bif (decide (0 ≤ ((elemsD (fieldD x0 1)).length : Int)) && decide (((elemsD (fieldD x0 1)).length : Int) ≤ 2147483648)) then
      t38_lp5 Tryd.prog Tryd.f38 K N N x0 0 (List.replicate (((elemsD (fieldD x0 1)).length : Int)).toNat (.agg [.lit (.int .i64 0), .slice [] []] : D))
    else none := by kernel_rfl

/- roadbook/tree.written -/
def t34_h : Hints := fun _ =>  none
theorem t34 (K : Nat) (N : Nat) (x0 : D) : evFn Tryd.prog (envH (S6 K) []) t34_h N Tryd.f34 [dat 24 x0] =
  bif (((elemsD (fieldD x0 1)).length : Int) == 0) then
    bif (decide (0 ≤ (intD (fieldD x0 0))) && decide ((intD (fieldD x0 0)) < 10)) then
      some (dat 9 (.lit (.string (digitL (intD (fieldD x0 0))))))
    else none
  else bif (decide (0 ≤ (0 : Int)) && decide ((0 : Int) < ((elemsD (fieldD x0 1)).length : Int))) then
      bif ((setK K ((elemsD (fieldD x0 1)).getD 0 .nil) != 0) && decide (K ≤ 20)) then
        bif decide ((([40] : List UInt8)).length + (textK K ((elemsD (fieldD x0 1)).getD 0 .nil)).length ≤ 4294967296) then
          bif (decide (0 ≤ (1 : Int)) && decide ((1 : Int) < ((elemsD (fieldD x0 1)).length : Int))) then
            bif ((setK K ((elemsD (fieldD x0 1)).getD 1 .nil) != 0) && decide (K ≤ 20)) then
              bif decide (((([40] : List UInt8) ++ (textK K ((elemsD (fieldD x0 1)).getD 0 .nil)))).length + (textK K ((elemsD (fieldD x0 1)).getD 1 .nil)).length ≤ 4294967296) then
                bif decide ((((([40] : List UInt8) ++ (textK K ((elemsD (fieldD x0 1)).getD 0 .nil))) ++ (textK K ((elemsD (fieldD x0 1)).getD 1 .nil)))).length + (([41] : List UInt8)).length ≤ 4294967296) then
                  some (dat 9 (.lit (.string (((([40] : List UInt8) ++ (textK K ((elemsD (fieldD x0 1)).getD 0 .nil))) ++ (textK K ((elemsD (fieldD x0 1)).getD 1 .nil))) ++ ([41] : List UInt8)))))
                else none
              else none
            else none
          else none
        else none
      else none
    else none := by kernel_rfl

end X
end Go.Proofs.YtbabfocagkkboaaDoor

namespace Go.Proofs.YtbabfocagkkboaaDoor
namespace X
open Go.Ev
set_option linter.unusedVariables false
set_option linter.unusedSimpArgs false

theorem k36 : FnOK Tryd.prog 36 Tryd.f36 := ⟨Tryd.func36, rfl, by kernel_rfl⟩
theorem k19 : FnOK Tryd.prog 19 Tryd.f19 := ⟨Tryd.func19, rfl, by kernel_rfl⟩
theorem k38 : FnOK Tryd.prog 38 Tryd.f38 := ⟨Tryd.func38, rfl, by kernel_rfl⟩
theorem k34 : FnOK Tryd.prog 34 Tryd.f34 := ⟨Tryd.func34, rfl, by kernel_rfl⟩
def e36 : FuncId × TypeId × (List AV → Bool) × (List AV → Option D) := (36, 4, preD (q1 fun x => smT x), ent [24] (f1 fun x => some (.lit (.bool true))))
theorem c36 : ∀ args d, e36.2.2.1 args = true → e36.2.2.2 args = some d → CallOK Tryd.prog 36 args (mkRes Tryd.prog 4 d) :=
  ent1p k36 fun x d hq h ⟨_, hx⟩ => by
    cases h
    rw [n24]
    have hq : smT x = true := hq
    obtain ⟨_, _, h3, h4⟩ := same_of_small (b := x) hq
    refine fn_ok hm envS4 k36 ((t36 0 x).trans ?_)
    have hr : eqT x x = true := by
      unfold smT smK at hq
      rw [Bool.and_eq_true] at hq
      exact eqK_refl 130 x hq.1
    rw [h4, cond_true, h3, hr, m4]
    rfl
def e19 : FuncId × TypeId × (List AV → Bool) × (List AV → Option D) := (19, 4, preD (q2 fun x y => smT x), ent [24, 24] (f2 fun x y => some (.lit (.bool (eqT x y)))))
theorem c19 : ∀ args d, e19.2.2.1 args = true → e19.2.2.2 args = some d → CallOK Tryd.prog 19 args (mkRes Tryd.prog 4 d) :=
  ent2p k19 fun x y d hq h ⟨_, hx⟩ ⟨_, hy⟩ => by
    cases h
    rw [n24, n24]
    have hq : smT x = true := hq
    obtain ⟨h1, h2, _, _⟩ := same_of_small (b := y) hq
    refine fn_ok hm envS4 k19 ((t19 0 x y).trans ?_)
    rw [h2, cond_true, h1, m4]
    rfl

theorem set_take {ks tl : List D} {i : Nat} (h : i < ks.length) (ht : tl.length = ks.length - i) : (ks.take i ++ tl).set i ks[i] = ks.take (i + 1) ++ tl.drop 1 := by
  cases tl with
  | nil => simp at ht; omega
  | cons b tl =>
    rw [List.set_append_right _ _ (by simp; omega)]
    have : i - (ks.take i).length = 0 := by simp; omega
    rw [this, List.set_cons_zero, List.take_succ_eq_append_getElem h, List.append_assoc]
    rfl
theorem cp_loop {K N : Nat} {x0 : D} (hl : (tkids x0).length ≤ maxLen) (hok : ∀ p ∈ tkids x0, smK K p = true) : ∀ (n i : Nat) (tl : List D), i ≤ (tkids x0).length → (tkids x0).length - i < n → tl.length = (tkids x0).length - i →
    t38_lp5 Tryd.prog Tryd.f38 K N n x0 (i : Int) ((tkids x0).take i ++ tl) = some (dat 24 (.agg [.lit (.int .i64 (tocc x0)), .slice (tkids x0) []]))
  | 0, i, tl, _, h, _ => by omega
  | n + 1, i, tl, hi, h, htl => by
    rw [t38_lp5_step, show elemsD (fieldD x0 1) = tkids x0 from rfl, show intD (fieldD x0 0) = tocc x0 from rfl]
    by_cases hlt : i < (tkids x0).length
    · have h1 : decide ((i : Int) < ((tkids x0).length : Int)) = true := by simpa using hlt
      have hlen : ((tkids x0).take i ++ tl).length = (tkids x0).length := by simp; omega
      rw [hlen, idx_ok hlt, h1, cond_true, cond_true, Int.toNat_natCast, getD_lt hlt, hok _ (List.getElem_mem hlt), cond_true, cond_true, wrap_step hl hlt, set_take hlt htl]
      exact cp_loop hl hok n (i + 1) (tl.drop 1) (by omega) (by omega) (by simp; omega)
    · have h1 : decide ((i : Int) < ((tkids x0).length : Int)) = false := by simpa using hlt
      have hi2 : i = (tkids x0).length := by omega
      have htl0 : tl = [] := List.length_eq_zero_iff.1 (by omega)
      subst htl0
      rw [h1, cond_false, hi2, List.take_length, List.append_nil]
theorem ty_self {n : Nat} {x : D} (h : Ty Tryd.prog n 24 x) : x = .agg [.lit (.int .i64 (tocc x)), .slice (tkids x) []] := by
  obtain ⟨z, ks, rfl, _⟩ := ty24 h
  rfl
theorem c38 (K : Nat) (henv : EnvOK Tryd.prog (envH (S5 K) [])) : ∀ args d, (e38 (K + 1)).2.2.1 args = true → (e38 (K + 1)).2.2.2 args = some d → CallOK Tryd.prog 38 args (mkRes Tryd.prog 24 d) :=
  ent1p k38 fun x d hq h ⟨_, hx⟩ => by
    cases h
    rw [n24]
    have hq : smK (K + 1) x = true := hq
    obtain ⟨hl, _⟩ := ty_len hx
    refine fn_ok hm henv k38 ((t38 K ((tkids x).length + 1) x).trans ?_)
    rw [m24, show elemsD (fieldD x 1) = tkids x from rfl, show intD (fieldD x 0) = tocc x from rfl]
    have hself := ty_self hx
    cases h0 : (((tkids x).length : Int) == 0) with
    | true =>
      have : tkids x = [] := by
        have := eq_of_beq h0
        exact List.length_eq_zero_iff.1 (by omega)
      rw [cond_true]
      conv => rhs; rw [hself, this]
      rfl
    | false =>
      have hb : (decide (0 ≤ ((tkids x).length : Int)) && decide (((tkids x).length : Int) ≤ 2147483648)) = true := by
        have := len_le_sz K x
        unfold smK at hq
        rw [Bool.and_eq_true, decide_eq_true_eq] at hq
        rw [Bool.and_eq_true, decide_eq_true_eq, decide_eq_true_eq]
        omega
      rw [cond_false, hb, cond_true, Int.toNat_natCast]
      have := cp_loop (K := K) (N := (tkids x).length + 1) hl (fun p hp => smK_kid hq hp) ((tkids x).length + 1) 0 (List.replicate (tkids x).length (.agg [.lit (.int .i64 0), .slice [] []] : D)) (Nat.zero_le _) (by omega) (by simp)
      rw [List.take_zero, List.nil_append] at this
      refine this.trans ?_
      rw [← hself]
theorem envS5 : ∀ K : Nat, EnvOK Tryd.prog (envH (S5 K) [])
  | 0 => envOK_cons' envS4 (fun args d hp hd => by
      exfalso
      have hp : q1 (fun x => smK 0 x) (args.map (·.d)) = true := hp
      unfold q1 at hp
      split at hp
      · simp [smK, okT] at hp
      · cases hp)
  | K + 1 => envOK_cons' envS4 (c38 K (envS5 K))

theorem c34 (K : Nat) (henv : EnvOK Tryd.prog (envH (S6 K) [])) : ∀ args d, (e34 (K + 1)).2.2.1 args = true → (e34 (K + 1)).2.2.2 args = some d → CallOK Tryd.prog 34 args (mkRes Tryd.prog 9 d) :=
  ent1p k34 fun x d hq h ⟨_, hx⟩ => by
    cases h
    rw [n24]
    have hq : ((setK (K + 1) x != 0) && decide (K + 1 ≤ 20)) = true := hq
    rw [Bool.and_eq_true, decide_eq_true_eq] at hq
    obtain ⟨hs, hK⟩ := hq
    refine fn_ok hm henv k34 ((t34 K 0 x).trans ?_)
    rw [m9, show elemsD (fieldD x 1) = tkids x from rfl, show intD (fieldD x 0) = tocc x from rfl]
    show _ = some (dat 9 (.lit (.string (textK (K + 1) x))))
    rw [textK_succ]
    rw [setK_succ] at hs
    cases h0 : (((tkids x).length : Int) == 0) with
    | true =>
      cases ho : isOccB (tocc x) with
      | true =>
        have hp : (decide (0 ≤ tocc x) && decide (tocc x < 10)) = true := by
          unfold isOccB at ho
          rw [Bool.and_eq_true, decide_eq_true_eq, decide_eq_true_eq] at ho
          rw [Bool.and_eq_true, decide_eq_true_eq, decide_eq_true_eq]
          omega
        rw [cond_true, hp]
        rfl
      | false =>
        exfalso
        have h3 : (((tkids x).length : Int) != 2) = true := by
          have := eq_of_beq h0
          rw [bne_iff_ne]; omega
        rw [h0, ho, h3] at hs
        cases hs
    | false =>
      rw [h0, Bool.false_and, cond_false] at hs
      rw [cond_false]
      cases h3 : (((tkids x).length : Int) != 2) with
      | true => rw [h3] at hs; cases hs
      | false =>
        obtain ⟨l0, l1⟩ := len2 h3
        rw [h3, Bool.false_or] at hs
        cases h4 : (tocc x != 0) with
        | true => rw [h4] at hs; cases hs
        | false =>
          rw [h4, cond_false] at hs
          cases h6 : (setK K ((tkids x).getD 0 .nil) == 0) with
          | true => rw [h6] at hs; cases hs
          | false =>
            cases h7 : (setK K ((tkids x).getD 1 .nil) == 0) with
            | true => rw [h6, h7] at hs; cases hs
            | false =>
              have p0 : ((setK K ((tkids x).getD 0 .nil) != 0) && decide (K ≤ 20)) = true := by
                unfold bne; rw [h6, Bool.and_eq_true, decide_eq_true_eq]; exact ⟨rfl, by omega⟩
              have p1 : ((setK K ((tkids x).getD 1 .nil) != 0) && decide (K ≤ 20)) = true := by
                unfold bne; rw [h7, Bool.and_eq_true, decide_eq_true_eq]; exact ⟨rfl, by omega⟩
              have q0 := text_len K ((tkids x).getD 0 .nil)
              have q1' := text_len K ((tkids x).getD 1 .nil)
              have hpw : 2 ^ K ≤ 2 ^ 20 := Nat.pow_le_pow_right (by omega) (by omega)
              have d1 : decide ((([40] : List UInt8)).length + (textK K ((tkids x).getD 0 .nil)).length ≤ 4294967296) = true := by
                rw [decide_eq_true_eq]; simp only [List.length_cons, List.length_nil]; omega
              have d2 : decide (((([40] : List UInt8) ++ (textK K ((tkids x).getD 0 .nil)))).length + (textK K ((tkids x).getD 1 .nil)).length ≤ 4294967296) = true := by
                rw [decide_eq_true_eq]; simp only [List.length_cons, List.length_append, List.length_nil]; omega
              have d3 : decide ((((([40] : List UInt8) ++ (textK K ((tkids x).getD 0 .nil))) ++ (textK K ((tkids x).getD 1 .nil)))).length + (([41] : List UInt8)).length ≤ 4294967296) = true := by
                rw [decide_eq_true_eq]; simp only [List.length_cons, List.length_append, List.length_nil]; omega
              rw [l0, l1, p0, p1, d1, d2, d3]
              simp only [cond_true]
              congr 4
theorem envS6 : ∀ K : Nat, EnvOK Tryd.prog (envH (S6 K) [])
  | 0 => envOK_cons' envS4 (fun args d hp hd => by
      exfalso
      have hp : q1 (fun x => (setK 0 x != 0) && decide (0 ≤ 20)) (args.map (·.d)) = true := hp
      unfold q1 at hp
      split at hp
      · simp [setK] at hp
      · cases hp)
  | K + 1 => envOK_cons' envS4 (c34 K (envS6 K))
def S7 : Tab := e34 4 :: e38 130 :: e19 :: e36 :: S4
theorem envS7 : EnvOK Tryd.prog (envH S7 []) := envOK_cons' (envOK_cons' (envOK_cons' (envOK_cons' envS4 c36) c19) (c38 129 (envS5 129))) (c34 3 (envS6 3))
end X
end Go.Proofs.YtbabfocagkkboaaDoor

namespace Go.Proofs.YtbabfocagkkboaaDoor
namespace X
open Go.Ev
set_option linter.unusedVariables false
/- roadbook/tree.Join -/
def t24_h : Hints := fun _ =>  none
theorem t24 (N : Nat) (x0 : D) (x1 : D) : evFn Tryd.prog (envH S7 []) t24_h N Tryd.f24 [dat 24 x0, dat 24 x1] =
  bif smT x0 then
    bif smT x1 then
      bif smK 130 x0 then
        bif smK 130 x1 then
          some (dat 24 (.agg [.lit (.int .i64 0), .slice [x0, x1] []]))
        else none
      else none
    else none
  else none := by kernel_rfl

/- roadbook/tree.Text -/
def t17_h : Hints := fun _ =>  none
theorem t17 (N : Nat) (x0 : D) : evFn Tryd.prog (envH S7 []) t17_h N Tryd.f17 [dat 24 x0] =
  bif (!(mayT x0)) then
    some (dat 9 (.lit (.string ([] : List UInt8))))
  else bif ((setK 4 x0 != 0) && decide (4 ≤ 20)) then
      some (dat 9 (.lit (.string (textK 4 x0))))
    else none := by kernel_rfl

end X
end Go.Proofs.YtbabfocagkkboaaDoor

namespace Go.Proofs.YtbabfocagkkboaaDoor
namespace X
open Go.Ev
set_option linter.unusedVariables false
set_option linter.unusedSimpArgs false

theorem k24 : FnOK Tryd.prog 24 Tryd.f24 := ⟨Tryd.func24, rfl, by kernel_rfl⟩
theorem k17 : FnOK Tryd.prog 17 Tryd.f17 := ⟨Tryd.func17, rfl, by kernel_rfl⟩
def e24 : FuncId × TypeId × (List AV → Bool) × (List AV → Option D) := (24, 24, preD (q2 fun x y => smT x && smT y), ent [24, 24] (f2 fun x y => some (nodeD [x, y])))
theorem c24 : ∀ args d, e24.2.2.1 args = true → e24.2.2.2 args = some d → CallOK Tryd.prog 24 args (mkRes Tryd.prog 24 d) :=
  ent2p k24 fun x y d hq h ⟨_, hx⟩ ⟨_, hy⟩ => by
    cases h
    rw [n24, n24]
    have hq : (smT x && smT y) = true := hq
    rw [Bool.and_eq_true] at hq
    have h1 : smK 130 x = true := hq.1
    have h2 : smK 130 y = true := hq.2
    refine fn_ok hm envS7 k24 ((t24 0 x y).trans ?_)
    rw [hq.1, hq.2, h1, h2, m24]
    rfl
def e17 : FuncId × TypeId × (List AV → Bool) × (List AV → Option D) := (17, 9, yes, ent [24] (f1 fun x => some (.lit (.string (textT x)))))
theorem c17 : ∀ args d, e17.2.2.2 args = some d → CallOK Tryd.prog 17 args (mkRes Tryd.prog 9 d) :=
  ent1 k17 fun x d h ⟨_, hx⟩ => by
    cases h
    rw [n24]
    refine fn_ok hm envS7 k17 ((t17 0 x).trans ?_)
    rw [m9]
    unfold textT
    cases hm2 : mayT x with
    | false => rfl
    | true =>
      have h1 : (setK 4 x != 0) = true := hm2
      rw [h1]
      rfl
def S8 : Tab := e17 :: e24 :: S7
theorem envS8 : EnvOK Tryd.prog (envH S8 []) := envOK_cons (envOK_cons' envS7 c24) c17
def e10 (K : Nat) : FuncId × TypeId × (List AV → Bool) × (List AV → Option D) := (10, 3, preD (q2 fun x y => decide (0 ≤ intD y) && decide (intD y < (K : Int)) && decide (K ≤ 101)), ent [24, 3] (f2 fun x y => some (.lit (.int .i64 (szK K x (intD y))))))
def S9 (K : Nat) : Tab := e10 K :: []
end X
end Go.Proofs.YtbabfocagkkboaaDoor
