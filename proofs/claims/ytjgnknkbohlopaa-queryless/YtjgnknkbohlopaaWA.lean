/- What the evaluator comes to, function by function: by the kernel. Nothing here is trusted. -/
import Derived.Test.YtjgnknkbohlopaaVQ
import Derived.Test.YtjgnknkbohlopaaVX
namespace Go.Proofs.Ytjgnknkbohlopaa
namespace X
open Go.Ev
set_option linter.unusedVariables false
/- slices.Index[[]int,int] -/
def t80_h : Hints := fun i => if i = 2 then some ([2, 3, 4, 5, 6, 9, 10, 11, 12, 13, 14, 15, 16, 17, 18], [], []) else none
def t80_lp2 (P : Program) (fn : Func) (N n : Nat) (x0 : D) (x1 : Int) (v8 : Int) : Option AV := evLoop (preL t80_h (sub [1, 0, 1, 0, 0] (bodyOf fn))) (evCode P (envH T7 []) t80_h N (sub [1, 0, 1, 0, 0] (bodyOf fn))) n ⟨[dat 25 x0, dat 3 (.lit (.int .i64 x1)), dead, dead, dead, dead, dead, dat 3 (.lit (.int .i64 ((elemsD x0).length : Int))), dat 3 (.lit (.int .i64 v8)), dead, dead, dead, dead, dead, dead, dead, dead, dead, dead], lookB []⟩ (blockK 0 (seqC P (envH T7 []) t80_h N (sub [1, 1] (bodyOf fn)) (finK P fn) ))
theorem t80_lp2_step  (N n : Nat) (x0 : D) (x1 : Int) (v8 : Int) : t80_lp2 Try.prog Try.f80 N (n + 1) x0 x1 v8 =
  bif decide (v8 < ((elemsD x0).length : Int)) then
    bif (decide (0 ≤ v8) && decide (v8 < ((elemsD x0).length : Int))) then
      bif (x1 == (intD ((elemsD x0).getD (v8).toNat .nil))) then
        some (dat 3 (.lit (.int .i64 v8)))
      else t80_lp2 Try.prog Try.f80 N n x0 x1 (IntKind.wrap .i64 (v8 + 1))
    else none
  else some (dat 3 (.lit (.int .i64 (-1)))) := by kernel_rfl
theorem t80 (N : Nat) (x0 : D) (x1 : Int) : evFn Try.prog (envH T7 []) t80_h N Try.f80 [dat 25 x0, dat 3 (.lit (.int .i64 x1))] =
  t80_lp2 Try.prog Try.f80 N N x0 x1 0 := by kernel_rfl

/- roadbook/expr.formOf -/
def t56_h : Hints := fun _ =>  none
theorem t56 (N : Nat) (x0 : Int) : evFn Try.prog (envH T7 []) t56_h N Try.f56 [dat 3 (.lit (.int .i64 x0))] =
  bif (decide (0 ≤ x0) && decide (x0 < (11 : Int))) then
    some (dat 86 (fieldD (.agg [.agg [.held .nilFunc, .held .nilFunc, .held .nilFunc], .agg [.held .nilFunc, .held .nilFunc, .held .nilFunc], .agg [.held .nilFunc, .held (.func (.func 71) #[] #[]), .held .nilFunc], .agg [.held .nilFunc, .held (.func (.func 72) #[] #[]), .held .nilFunc], .agg [.held .nilFunc, .held (.func (.func 73) #[] #[]), .held .nilFunc], .agg [.held .nilFunc, .held (.func (.func 74) #[] #[]), .held .nilFunc], .agg [.held .nilFunc, .held (.func (.func 75) #[] #[]), .held .nilFunc], .agg [.held .nilFunc, .held (.func (.func 76) #[] #[]), .held .nilFunc], .agg [.held .nilFunc, .held .nilFunc, .held (.func (.func 77) #[] #[])], .agg [.held .nilFunc, .held .nilFunc, .held (.func (.func 78) #[] #[])], .agg [.held (.func (.func 79) #[] #[]), .held .nilFunc, .held .nilFunc]]) (x0).toNat))
  else none := by kernel_rfl

/- (roadbook/expr.form).takes -/
def t57_h : Hints := fun _ =>  none
theorem t57 (N : Nat) (x0 : D) (x1 : Int) : evFn Try.prog (envH T7 []) t57_h N Try.f57 [dat 86 x0, dat 3 (.lit (.int .i64 x1))] =
  bif (!(isNilF (fieldD x0 0))) then
    some (dat 4 (.lit (.bool (x1 == 1))))
  else bif (!(isNilF (fieldD x0 1))) then
      some (dat 4 (.lit (.bool (x1 == 2))))
    else bif (!(isNilF (fieldD x0 2))) then
        some (dat 4 (.lit (.bool (decide (x1 ≤ 4)))))
      else some (dat 4 (.lit (.bool (x1 == 0)))) := by kernel_rfl

/- roadbook/roadbookref02.Ints -/
def t13_h : Hints := fun i => if i = 4 then some ([2, 3, 4, 6, 7, 8, 9, 10, 11, 12, 13, 14, 15, 16, 17, 18, 19, 20, 21, 22, 23, 24, 25], [], []) else none
def t13_lp4 (P : Program) (fn : Func) (N n : Nat) (x0 : D) (x1 : D) (v5 : Int) : Option AV := evLoop (preL t13_h (sub [1, 1, 0, 1, 0, 0] (bodyOf fn))) (evCode P (envH T7 []) t13_h N (sub [1, 1, 0, 1, 0, 0] (bodyOf fn))) n ⟨[dat 25 x0, dat 25 x1, dead, dead, dead, dat 3 (.lit (.int .i64 v5)), dead, dead, dead, dead, dead, dead, dead, dead, dead, dead, dead, dead, dead, dead, dead, dead, dead, dead, dead, dead], lookB []⟩ (blockK 0 (seqC P (envH T7 []) t13_h N (sub [1, 1, 1] (bodyOf fn)) (finK P fn) ))
theorem t13_lp4_step  (N n : Nat) (x0 : D) (x1 : D) (v5 : Int) : t13_lp4 Try.prog Try.f13 N (n + 1) x0 x1 v5 =
  bif decide (v5 < ((elemsD x0).length : Int)) then
    bif (decide (0 ≤ v5) && decide (v5 < ((elemsD x0).length : Int))) then
      bif (decide (0 ≤ v5) && decide (v5 < ((elemsD x1).length : Int))) then
        bif ((intD ((elemsD x0).getD (v5).toNat .nil)) != (intD ((elemsD x1).getD (v5).toNat .nil))) then
          some (dat 4 (.lit (.bool false)))
        else t13_lp4 Try.prog Try.f13 N n x0 x1 (IntKind.wrap .i64 (v5 + 1))
      else none
    else none
  else some (dat 4 (.lit (.bool true))) := by kernel_rfl
theorem t13 (N : Nat) (x0 : D) (x1 : D) : evFn Try.prog (envH T7 []) t13_h N Try.f13 [dat 25 x0, dat 25 x1] =
  bif (((elemsD x0).length : Int) != ((elemsD x1).length : Int)) then
    some (dat 4 (.lit (.bool false)))
  else t13_lp4 Try.prog Try.f13 N N x0 x1 0 := by kernel_rfl

end X
end Go.Proofs.Ytjgnknkbohlopaa

namespace Go.Proofs.Ytjgnknkbohlopaa
namespace X
open Go.Ev
set_option linter.unusedVariables false
set_option linter.unusedSimpArgs false

theorem n27 (x : D) : normD Try.prog 25 x = x := by kernel_rfl
theorem n26 (x : D) : normD Try.prog 40 x = x := by kernel_rfl
theorem n56 (x : D) : normD Try.prog 86 x = x := by kernel_rfl
theorem m56 (x : D) : mkRes Try.prog 86 x = dat 86 x := by kernel_rfl
theorem m27 (x : D) : mkRes Try.prog 25 x = dat 25 x := by kernel_rfl
theorem u27 : Try.prog.underlying 25 = some (.slice 3) := by kernel_rfl
theorem u24 : Try.prog.underlying 26 = some (.slice 40) := by kernel_rfl

theorem ty27 {n : Nat} {x : D} (h : Ty Try.prog n 25 x) : ∃ es, x = .slice es [] ∧ es.length ≤ maxLen ∧ ∀ y ∈ es, ∃ z, y = litI z ∧ inR z = true := by
  cases n with
  | zero => exact h.elim
  | succ n =>
    unfold Ty at h
    rw [u27] at h
    split at h <;> try (exact h.elim)
    all_goals try (simp_all; done)
    rename_i e es sp heq
    cases heq
    obtain ⟨rfl, hl, hp⟩ := h
    exact ⟨es, rfl, hl, fun y hy => ty3' (hp y hy)⟩

theorem len27 {n : Nat} {x : D} (hx : Ty Try.prog n 25 x) : (elemsD x).length ≤ maxLen := by
  obtain ⟨es, rfl, hl, _⟩ := ty27 hx
  exact hl

theorem wrap_step {i n : Nat} (hn : n ≤ maxLen) (h : i < n) : IntKind.wrap .i64 ((i : Int) + 1) = ((i + 1 : Nat) : Int) := by
  rw [wrap_in]
  · omega
  · rw [inR_iff]; unfold maxLen at hn; omega

theorem getD_lt {l : List D} {i : Nat} (h : i < l.length) : l.getD i .nil = l[i] := by simp [List.getD, h]

/-! ### slices.Index -/
theorem idx_loop {N : Nat} {x0 : D} {x1 : Int} (hl : (elemsD x0).length ≤ maxLen) : ∀ (n i : Nat), i ≤ (elemsD x0).length → (elemsD x0).length - i < n →
    t80_lp2 Try.prog Try.f80 N n x0 x1 (i : Int) = some (dat 3 (.lit (.int .i64 (Lib.idxFrom (((elemsD x0).drop i).map intD) x1 i))))
  | 0, i, _, h => by omega
  | n + 1, i, hi, h => by
    rw [t80_lp2_step]
    by_cases hlt : i < (elemsD x0).length
    · have h1 : decide ((i : Int) < ((elemsD x0).length : Int)) = true := by simpa using hlt
      rw [idx_ok hlt, h1, cond_true, cond_true, List.drop_eq_getElem_cons hlt, List.map_cons, Int.toNat_natCast, getD_lt hlt, Lib.idxFrom]
      rw [wrap_step hl hlt, idx_loop hl n (i + 1) (by omega) (by omega)]
      by_cases he : intD (elemsD x0)[i] = x1
      · have : (x1 == intD (elemsD x0)[i]) = true := by simp [he]
        rw [this, cond_true, if_pos he]
      · have : (x1 == intD (elemsD x0)[i]) = false := by
          rw [beq_eq_false_iff_ne]; exact fun hh => he hh.symm
        rw [this, cond_false, if_neg he]
    · have h1 : decide ((i : Int) < ((elemsD x0).length : Int)) = false := by simpa using hlt
      have h2 : (elemsD x0).drop i = [] := List.drop_of_length_le (by omega)
      rw [h1, h2, cond_false]
      rfl

def e80 : FuncId × TypeId × (List AV → Bool) × (List AV → Option D) := (80, 3, yes, ent [25, 3] (f2 fun x y => some (.lit (.int .i64 (Lib.idxOf ((elemsD x).map intD) (intD y))))))
theorem k80 : FnOK Try.prog 80 Try.f80 := ⟨Try.func80, rfl, by kernel_rfl⟩
theorem c80 : ∀ args d, e80.2.2.2 args = some d → CallOK Try.prog 80 args (mkRes Try.prog 3 d) :=
  ent2 k80 fun x y d h ⟨_, hx⟩ _ => by
    cases h
    rw [n27, n3]
    refine fn_ok hm env7 k80 ((t80 ((elemsD x).length + 1) x (intD y)).trans ?_)
    rw [m3]
    have := idx_loop (N := (elemsD x).length + 1) (x1 := intD y) (len27 hx) ((elemsD x).length + 1) 0 (Nat.zero_le _) (by omega)
    simpa [Lib.idxOf, intD] using this

/-! ### roadbookref02.Ints -/
theorem ints_loop {N : Nat} {x0 x1 : D} (hl : (elemsD x0).length ≤ maxLen) (hs : (elemsD x0).length = (elemsD x1).length) : ∀ (n i : Nat), i ≤ (elemsD x0).length → (elemsD x0).length - i < n →
    t13_lp4 Try.prog Try.f13 N n x0 x1 (i : Int) = some (dat 4 (.lit (.bool (intsB ((elemsD x0).drop i) ((elemsD x1).drop i)))))
  | 0, i, _, h => by omega
  | n + 1, i, hi, h => by
    rw [t13_lp4_step]
    by_cases hlt : i < (elemsD x0).length
    · have hlt1 : i < (elemsD x1).length := by omega
      have h1 : decide ((i : Int) < ((elemsD x0).length : Int)) = true := by simpa using hlt
      rw [idx_ok hlt, idx_ok hlt1, h1, cond_true, cond_true, cond_true, List.drop_eq_getElem_cons hlt, List.drop_eq_getElem_cons hlt1, Int.toNat_natCast, getD_lt hlt, getD_lt hlt1]
      rw [wrap_step hl hlt, ints_loop hl hs n (i + 1) (by omega) (by omega)]
      unfold intsB
      simp only [List.map_cons]
      by_cases he : intD (elemsD x0)[i] = intD (elemsD x1)[i]
      · have : (intD (elemsD x0)[i] != intD (elemsD x1)[i]) = false := by simp [he]
        rw [this, cond_false]
        simp [he]
      · have : (intD (elemsD x0)[i] != intD (elemsD x1)[i]) = true := by simp [he]
        rw [this, cond_true]
        have : (intD (elemsD x0)[i] :: ((elemsD x0).drop (i + 1)).map intD == intD (elemsD x1)[i] :: ((elemsD x1).drop (i + 1)).map intD) = false := by
          rw [beq_eq_false_iff_ne]
          intro hh
          injection hh with hh _
          exact he hh
        rw [this]
    · have h1 : decide ((i : Int) < ((elemsD x0).length : Int)) = false := by simpa using hlt
      have h2 : (elemsD x0).drop i = [] := List.drop_of_length_le (by omega)
      have h3 : (elemsD x1).drop i = [] := List.drop_of_length_le (by omega)
      rw [h1, h2, h3, cond_false]
      rfl

def e13 : FuncId × TypeId × (List AV → Bool) × (List AV → Option D) := (13, 4, yes, ent [25, 25] (f2 fun x y => some (.lit (.bool (intsB (elemsD x) (elemsD y))))))
theorem k13 : FnOK Try.prog 13 Try.f13 := ⟨Try.func13, rfl, by kernel_rfl⟩
theorem c13 : ∀ args d, e13.2.2.2 args = some d → CallOK Try.prog 13 args (mkRes Try.prog 4 d) :=
  ent2 k13 fun x y d h ⟨_, hx⟩ _ => by
    cases h
    rw [n27, n27]
    refine fn_ok hm env7 k13 ((t13 ((elemsD x).length + 1) x y).trans ?_)
    rw [m4]
    by_cases hs : (elemsD x).length = (elemsD y).length
    · have : (((elemsD x).length : Int) != ((elemsD y).length : Int)) = false := by simp [hs]
      rw [this, cond_false]
      have := ints_loop (N := (elemsD x).length + 1) (len27 hx) hs ((elemsD x).length + 1) 0 (Nat.zero_le _) (by omega)
      simpa [boolD] using this
    · have : (((elemsD x).length : Int) != ((elemsD y).length : Int)) = true := by simp; omega
      rw [this, cond_true]
      have h2 : intsB (elemsD x) (elemsD y) = false := by
        unfold intsB
        rw [beq_eq_false_iff_ne]
        intro hh
        have := congrArg List.length hh
        simp at this
        exact hs this
      rw [h2]
      rfl

/-! ### Forms -/
def fm (k : Nat) (f : FuncId) : D := .agg ((List.range 3).map fun j => .held (if j = k then .func (.func f) #[] #[] else .nilFunc))
def formL : List D := [fm 3 0, fm 3 0, fm 1 71, fm 1 72, fm 1 73, fm 1 74, fm 1 75, fm 1 76, fm 2 77, fm 2 78, fm 0 79]
def formT (n : Int) : D := fieldD (.agg formL) n.toNat
def e56 : FuncId × TypeId × (List AV → Bool) × (List AV → Option D) := (56, 86, fun xs => decide (0 ≤ intD (xs.getD 0 dead).d) && decide (intD (xs.getD 0 dead).d < 11), ent [3] (f1 fun x => some (formT (intD x))))
theorem k56 : FnOK Try.prog 56 Try.f56 := ⟨Try.func56, rfl, by kernel_rfl⟩
theorem c56 : ∀ args d, e56.2.2.1 args = true → e56.2.2.2 args = some d → CallOK Try.prog 56 args (mkRes Try.prog 86 d) := by
  intro args d hp hd
  have key : ∀ args d, ent [3] (f1 fun x => if (decide (0 ≤ intD x) && decide (intD x < 11)) = true then some (formT (intD x)) else none) args = some d → CallOK Try.prog 56 args (mkRes Try.prog 86 d) :=
    ent1 k56 fun x d h _ => by
      split at h
      · rename_i hc
        cases h
        rw [n3]
        refine fn_ok hm env7 k56 ((t56 1 (intD x)).trans ?_)
        rw [hc, m56]
        rfl
      · cases h
  refine key args d ?_
  unfold e56 ent at hd hp
  unfold ent
  simp only at hd hp
  split at hd
  · rename_i hs
    rw [if_pos hs]
    unfold shapeOK at hs
    match args, hs, hp, hd with
    | [x], _, hp, hd =>
      simp only [List.map_cons, List.map_nil, f1] at hd ⊢
      have hp' : (decide (0 ≤ intD x.d) && decide (intD x.d < 11)) = true := hp
      rw [if_pos hp']
      exact hd
    | [], hs, _, _ => simp at hs
    | _ :: _ :: _, hs, _, _ => simp at hs
  · cases hd

def e57 : FuncId × TypeId × (List AV → Bool) × (List AV → Option D) := (57, 4, yes, ent [86, 3] (f2 fun x y => some (.lit (.bool (takesB x (intD y))))))
theorem k57 : FnOK Try.prog 57 Try.f57 := ⟨Try.func57, rfl, by kernel_rfl⟩
theorem c57 : ∀ args d, e57.2.2.2 args = some d → CallOK Try.prog 57 args (mkRes Try.prog 4 d) :=
  ent2 k57 fun x y d h _ _ => by
    cases h
    rw [n56, n3]
    refine fn_ok hm env7 k57 ((t57 1 x (intD y)).trans ?_)
    rw [m4]
    unfold takesB
    cases isNilF (fieldD x 0) <;> cases isNilF (fieldD x 1) <;> cases isNilF (fieldD x 2) <;> rfl

/-! ### What forms come to -/
def isFn (f : FuncId) : D → Bool
  | .held (.func (.func g) _ _) => g == f
  | _ => false
/-- Is it the form of an op? -/
def isForm (k : Nat) (f : FuncId) (x : D) : Bool := (List.range 3).all fun j => if j = k then isFn f (fieldD x j) else isNilF (fieldD x j)
def comeK : List (Int × Nat × FuncId) := [(2, 1, 71), (3, 1, 72), (4, 1, 73), (5, 1, 74), (6, 1, 75), (7, 1, 76), (8, 2, 77), (9, 2, 78), (10, 0, 79)]
def opOf (x : D) : Int := ((comeK.find? fun c => isForm c.2.1 c.2.2 x).map (·.1)).getD 0
def comeD (x l : D) : D := opV (opOf x) (elemsD l)
def comeOK (x l : D) : Bool := comeK.any (fun c => isForm c.2.1 c.2.2 x) && takesB x ((elemsD l).length : Int)
theorem u56 : ∃ f g h : Field, Try.prog.underlying 86 = some (.struct #[f, g, h]) ∧ f.type = 82 ∧ g.type = 83 ∧ h.type = 84 := ⟨_, _, _, Try.underlying86, rfl, rfl, rfl⟩
theorem uf52 : ∃ a b c, Try.prog.underlying 82 = some (.func a b c) := ⟨_, _, _, Try.underlying82⟩
theorem uf53 : ∃ a b c, Try.prog.underlying 83 = some (.func a b c) := ⟨_, _, _, Try.underlying83⟩
theorem uf54 : ∃ a b c, Try.prog.underlying 84 = some (.func a b c) := ⟨_, _, _, Try.underlying84⟩
theorem tyF {n : Nat} {t : TypeId} {x : D} (hu : ∃ a b c, Try.prog.underlying t = some (.func a b c)) (h : Ty Try.prog n t x) : x = .held .nilFunc ∨ (∃ f, x = .held (.func (.func f) #[] #[])) ∨ ∃ f t0 y, x = bndD f t0 y := by
  obtain ⟨a, b, c, hu⟩ := hu
  cases n with
  | zero => exact h.elim
  | succ n =>
    unfold Ty at h
    rw [hu] at h
    split at h <;> try (exact h.elim)
    all_goals first
      | (simp_all; done)
      | (rcases h with rfl | ⟨f, rfl⟩
         · exact .inl rfl
         · exact .inr (.inl ⟨f, rfl⟩))
      | (obtain ⟨f, t0, y, e1, _⟩ := h; subst e1; exact .inr (.inr ⟨f, t0, y, rfl⟩))
theorem ty56 {n : Nat} {x : D} (h : Ty Try.prog n 86 x) : ∃ a b c, x = .agg [a, b, c] ∧ (∀ y ∈ [a, b, c], y = .held .nilFunc ∨ (∃ f, y = .held (.func (.func f) #[] #[])) ∨ ∃ f t0 z, y = bndD f t0 z) := by
  obtain ⟨f, g, h', hu, hf, hg, hh⟩ := u56
  cases n with
  | zero => exact h.elim
  | succ n =>
    unfold Ty at h
    rw [hu] at h
    split at h <;> try (exact h.elim)
    all_goals try (simp_all; done)
    rename_i fs ps heq
    cases heq
    obtain ⟨hlen, hp⟩ := h
    match ps, hlen with
    | [a, b, c], _ =>
      have h0 := hp 0 f rfl
      have h1 := hp 1 g rfl
      have h2 := hp 2 h' rfl
      rw [hf] at h0
      rw [hg] at h1
      rw [hh] at h2
      refine ⟨a, b, c, rfl, fun y hy => ?_⟩
      simp only [List.mem_cons, List.not_mem_nil, or_false] at hy
      rcases hy with rfl | rfl | rfl
      · exact tyF uf52 h0
      · exact tyF uf53 h1
      · exact tyF uf54 h2

theorem isForm_eq {n : Nat} {x : D} (h : Ty Try.prog n 86 x) {k : Nat} {f : FuncId} (hk : k < 3) (hf : isForm k f x = true) : x = fm k f := by
  obtain ⟨a, b, c, rfl, hall⟩ := ty56 h
  have ha := hall a (by simp)
  have hb := hall b (by simp)
  have hc := hall c (by simp)
  unfold isForm at hf
  rw [List.all_eq_true] at hf
  have h0 := hf 0 (by simp)
  have h1 := hf 1 (by simp)
  have h2 := hf 2 (by simp)
  have key : ∀ (j : Nat) (y : D), (y = .held .nilFunc ∨ (∃ f, y = .held (.func (.func f) #[] #[])) ∨ ∃ f t0 z, y = bndD f t0 z) → (if j = k then isFn f y else isNilF y) = true → y = .held (if j = k then .func (.func f) #[] #[] else .nilFunc) := by
    intro j y hy hh
    by_cases hj : j = k
    · rw [if_pos hj] at hh ⊢
      rcases hy with rfl | ⟨g, rfl⟩ | ⟨g, t0, z, rfl⟩
      · simp [isFn] at hh
      · simp only [isFn, beq_iff_eq] at hh
        rw [hh]
      · simp [isFn, bndD] at hh
    · rw [if_neg hj] at hh ⊢
      rcases hy with rfl | ⟨g, rfl⟩ | ⟨g, t0, z, rfl⟩
      · rfl
      · simp [isNilF] at hh
      · simp [isNilF, bndD] at hh
  have e0 := key 0 a ha h0
  have e1 := key 1 b hb h1
  have e2 := key 2 c hc h2
  rw [e0, e1, e2]
  rfl

theorem find_form (k : Nat) (f : FuncId) (op : Int) (h : ((comeK.find? fun c => isForm c.2.1 c.2.2 (fm k f)).map (·.1)).getD 0 = op) : opOf (fm k f) = op := h

def U1 : Tab := e80 :: e13 :: e56 :: e57 :: T7
theorem envU1 : EnvOK Try.prog (envH U1 []) := envOK_cons (envOK_cons (envOK_cons' (envOK_cons env7 c57) c56) c13) c80

/-- An op's form takes as many as it must. -/
theorem takes_form {op : Int} (h0 : 0 ≤ op) (h1 : op < 11) (n : Int) : takesB (formT op) n = takesN op n := by
  have : op = 0 ∨ op = 1 ∨ op = 2 ∨ op = 3 ∨ op = 4 ∨ op = 5 ∨ op = 6 ∨ op = 7 ∨ op = 8 ∨ op = 9 ∨ op = 10 := by omega
  rcases this with rfl | rfl | rfl | rfl | rfl | rfl | rfl | rfl | rfl | rfl | rfl <;> rfl
theorem op_form {op : Int} (h0 : 2 ≤ op) (h1 : op < 11) : opOf (formT op) = op ∧ comeK.any (fun c => isForm c.2.1 c.2.2 (formT op)) = true := by
  have : op = 2 ∨ op = 3 ∨ op = 4 ∨ op = 5 ∨ op = 6 ∨ op = 7 ∨ op = 8 ∨ op = 9 ∨ op = 10 := by omega
  rcases this with rfl | rfl | rfl | rfl | rfl | rfl | rfl | rfl | rfl <;> exact ⟨rfl, rfl⟩

end X
end Go.Proofs.Ytjgnknkbohlopaa

namespace Go.Proofs.Ytjgnknkbohlopaa
namespace X
open Go.Ev
set_option linter.unusedVariables false
/- roadbook/expr.fits -/
def t44_h : Hints := fun _ =>  none
theorem t44 (N : Nat) (x0 : D) : evFn Try.prog (envH U1 []) t44_h N Try.f44 [dat 40 x0] =
  bif ((decide ((intD (fieldD x0 0)) < 0)) == false) then
    bif ((decide ((intD (fieldD x0 0)) ≥ 11)) == false) then
      bif ((decide ((intD (fieldD x0 1)) < 0)) == false) then
        bif ((decide ((intD (fieldD x0 1)) > 15)) == false) then
          bif (!(mayB (fieldD x0 2))) then
            some (dat 4 (.lit (.bool false)))
          else bif (((intD (fieldD x0 1)) != 0) == true) then
              bif (((intD (fieldD x0 0)) != 1) == false) then
                bif ((!(((intD (fieldD (fieldD x0 2) 0)) == 0) && (((intD (fieldD (fieldD x0 2) 1)) == 0) && true))) == true) then
                  bif ((intD (fieldD x0 0)) != 0) then
                    some (dat 4 (.lit (.bool false)))
                  else bif (decide (0 ≤ (intD (fieldD x0 0))) && decide ((intD (fieldD x0 0)) < 11)) then
                      some (dat 4 (.lit (.bool (takesB (formT (intD (fieldD x0 0))) ((elemsD (fieldD x0 3)).length : Int)))))
                    else none
                else bif (decide (0 ≤ (intD (fieldD x0 0))) && decide ((intD (fieldD x0 0)) < 11)) then
                    some (dat 4 (.lit (.bool (takesB (formT (intD (fieldD x0 0))) ((elemsD (fieldD x0 3)).length : Int)))))
                  else none
              else some (dat 4 (.lit (.bool false)))
            else bif ((!(((intD (fieldD (fieldD x0 2) 0)) == 0) && (((intD (fieldD (fieldD x0 2) 1)) == 0) && true))) == true) then
                bif ((intD (fieldD x0 0)) != 0) then
                  some (dat 4 (.lit (.bool false)))
                else bif (decide (0 ≤ (intD (fieldD x0 0))) && decide ((intD (fieldD x0 0)) < 11)) then
                    some (dat 4 (.lit (.bool (takesB (formT (intD (fieldD x0 0))) ((elemsD (fieldD x0 3)).length : Int)))))
                  else none
              else bif (decide (0 ≤ (intD (fieldD x0 0))) && decide ((intD (fieldD x0 0)) < 11)) then
                  some (dat 4 (.lit (.bool (takesB (formT (intD (fieldD x0 0))) ((elemsD (fieldD x0 3)).length : Int)))))
                else none
        else some (dat 4 (.lit (.bool false)))
      else some (dat 4 (.lit (.bool false)))
    else some (dat 4 (.lit (.bool false)))
  else some (dat 4 (.lit (.bool false))) := by kernel_rfl

end X
end Go.Proofs.Ytjgnknkbohlopaa

namespace Go.Proofs.Ytjgnknkbohlopaa
namespace X
open Go.Ev
set_option linter.unusedVariables false
set_option linter.unusedSimpArgs false

theorem u26 : ∃ f g h k : Field, Try.prog.underlying 40 = some (.struct #[f, g, h, k]) ∧ f.type = 3 ∧ g.type = 3 ∧ h.type = 38 ∧ k.type = 26 := ⟨_, _, _, _, Try.underlying40, rfl, rfl, rfl, rfl⟩
theorem ty26 {n : Nat} {x : D} (h : Ty Try.prog n 40 x) : ∃ a b c d m, n = m + 1 ∧ x = .agg [.lit (.int .i64 a), .lit (.int .i64 b), c, d] ∧ inR a = true ∧ inR b = true ∧ Ty Try.prog m 38 c ∧ Ty Try.prog m 26 d := by
  obtain ⟨f, g, h', k, hu, hf, hg, hh, hk⟩ := u26
  cases n with
  | zero => exact h.elim
  | succ n =>
    unfold Ty at h
    rw [hu] at h
    split at h <;> try (exact h.elim)
    all_goals try (simp_all; done)
    rename_i fs ps heq
    cases heq
    obtain ⟨hlen, hp⟩ := h
    match ps, hlen with
    | [a, b, c, d], _ =>
      have h0 := hp 0 f rfl
      have h1 := hp 1 g rfl
      have h2 := hp 2 h' rfl
      have h3 := hp 3 k rfl
      rw [hf] at h0
      rw [hg] at h1
      rw [hh] at h2
      rw [hk] at h3
      obtain ⟨z, ea, hz⟩ := ty3' h0
      obtain ⟨y, eb, hy⟩ := ty3' h1
      simp at ea eb
      subst ea eb
      exact ⟨z, y, c, d, n, rfl, rfl, hz, hy, h2, h3⟩
theorem ty24 {n : Nat} {x : D} (h : Ty Try.prog n 26 x) : ∃ es m, n = m + 1 ∧ x = .slice es [] ∧ es.length ≤ maxLen ∧ ∀ y ∈ es, Ty Try.prog m 40 y := by
  cases n with
  | zero => exact h.elim
  | succ n =>
    unfold Ty at h
    rw [u24] at h
    split at h <;> try (exact h.elim)
    all_goals simp_all
/-- Parts of an expression. -/
theorem ty_kids {n : Nat} {x : D} (h : Ty Try.prog n 40 x) : (kids x).length ≤ maxLen ∧ ∀ y ∈ kids x, ∃ m, Ty Try.prog m 40 y := by
  obtain ⟨a, b, c, d, m, rfl, rfl, _, _, _, hd⟩ := ty26 h
  obtain ⟨es, k, rfl, rfl, hl, hall⟩ := ty24 hd
  exact ⟨hl, fun y hy => ⟨k, hall y hy⟩⟩
theorem ty_cols {n : Nat} {x : D} (h : Ty Try.prog n 40 x) : inR (opI x) = true ∧ inR (colI x) = true := by
  obtain ⟨a, b, c, d, m, rfl, rfl, ha, hb, _, _⟩ := ty26 h
  exact ⟨ha, hb⟩
theorem ty_val {n : Nat} {x : D} (h : Ty Try.prog n 40 x) : ∃ k m, fieldD x 2 = vv k m ∧ inR k = true ∧ inR m = true := by
  obtain ⟨a, b, c, d, m, rfl, rfl, ha, hb, hc, _⟩ := ty26 h
  exact ty23 hc

theorem fits_tree (x0 : D) : (bif ((decide ((intD (fieldD x0 0)) < 0)) == false) then
    bif ((decide ((intD (fieldD x0 0)) ≥ 11)) == false) then
      bif ((decide ((intD (fieldD x0 1)) < 0)) == false) then
        bif ((decide ((intD (fieldD x0 1)) > 15)) == false) then
          bif (!(mayB (fieldD x0 2))) then
            some (dat 4 (.lit (.bool false)))
          else bif (((intD (fieldD x0 1)) != 0) == true) then
              bif (((intD (fieldD x0 0)) != 1) == false) then
                bif ((!(((intD (fieldD (fieldD x0 2) 0)) == 0) && (((intD (fieldD (fieldD x0 2) 1)) == 0) && true))) == true) then
                  bif ((intD (fieldD x0 0)) != 0) then
                    some (dat 4 (.lit (.bool false)))
                  else bif (decide (0 ≤ (intD (fieldD x0 0))) && decide ((intD (fieldD x0 0)) < 11)) then
                      some (dat 4 (.lit (.bool (takesB (formT (intD (fieldD x0 0))) ((elemsD (fieldD x0 3)).length : Int)))))
                    else none
                else bif (decide (0 ≤ (intD (fieldD x0 0))) && decide ((intD (fieldD x0 0)) < 11)) then
                    some (dat 4 (.lit (.bool (takesB (formT (intD (fieldD x0 0))) ((elemsD (fieldD x0 3)).length : Int)))))
                  else none
              else some (dat 4 (.lit (.bool false)))
            else bif ((!(((intD (fieldD (fieldD x0 2) 0)) == 0) && (((intD (fieldD (fieldD x0 2) 1)) == 0) && true))) == true) then
                bif ((intD (fieldD x0 0)) != 0) then
                  some (dat 4 (.lit (.bool false)))
                else bif (decide (0 ≤ (intD (fieldD x0 0))) && decide ((intD (fieldD x0 0)) < 11)) then
                    some (dat 4 (.lit (.bool (takesB (formT (intD (fieldD x0 0))) ((elemsD (fieldD x0 3)).length : Int)))))
                  else none
              else bif (decide (0 ≤ (intD (fieldD x0 0))) && decide ((intD (fieldD x0 0)) < 11)) then
                  some (dat 4 (.lit (.bool (takesB (formT (intD (fieldD x0 0))) ((elemsD (fieldD x0 3)).length : Int)))))
                else none
        else some (dat 4 (.lit (.bool false)))
      else some (dat 4 (.lit (.bool false)))
    else some (dat 4 (.lit (.bool false)))
  else some (dat 4 (.lit (.bool false))) : Option AV) = some (dat 4 (.lit (.bool (fitsB x0)))) := by
  unfold fitsB opI colI kids kk nn
  generalize hop : intD (fieldD x0 0) = op
  generalize intD (fieldD x0 1) = col
  generalize (elemsD (fieldD x0 3)).length = len
  generalize mayB (fieldD x0 2) = b5
  generalize (intD (fieldD (fieldD x0 2) 0) == 0) = b6
  generalize (intD (fieldD (fieldD x0 2) 1) == 0) = b7
  have e1 : decide (op < 0) = !decide (0 ≤ op) := by by_cases h : 0 ≤ op <;> simp [h] <;> omega
  have e2 : decide (op ≥ 11) = !decide (op < 11) := by by_cases h : op < 11 <;> simp [h] <;> omega
  have e3 : decide (col < 0) = !decide (0 ≤ col) := by by_cases h : 0 ≤ col <;> simp [h] <;> omega
  have e4 : decide (col > 15) = !decide (col ≤ 15) := by by_cases h : col ≤ 15 <;> simp [h] <;> omega
  have e5 : (col != 0) = !(col == 0) := rfl
  have e6 : (op != 1) = !(op == 1) := rfl
  have e7 : (op != 0) = !(op == 0) := rfl
  rw [e1, e2, e3, e4, e5, e6, e7]
  by_cases h0 : 0 ≤ op
  · by_cases h1 : op < 11
    · rw [takes_form h0 h1]
      have d1 : decide (0 ≤ op) = true := by simpa using h0
      have d2 : decide (op < 11) = true := by simpa using h1
      rw [d1, d2]
      generalize takesN op (len : Int) = b8
      generalize decide (0 ≤ col) = b1
      generalize decide (col ≤ 15) = b2
      generalize (col == 0) = b3
      generalize (op == 1) = b4
      generalize (op == 0) = b9
      cases b1 <;> cases b2 <;> cases b3 <;> cases b4 <;> cases b5 <;> cases b6 <;> cases b7 <;> cases b8 <;> cases b9 <;> rfl
    · have d1 : decide (0 ≤ op) = true := by simpa using h0
      have d2 : decide (op < 11) = false := by simpa using h1
      rw [d1, d2]
      rfl
  · have d1 : decide (0 ≤ op) = false := by simpa using h0
    rw [d1]
    rfl

def e44 : FuncId × TypeId × (List AV → Bool) × (List AV → Option D) := (44, 4, yes, ent [40] (f1 fun x => some (.lit (.bool (fitsB x)))))
theorem k44 : FnOK Try.prog 44 Try.f44 := ⟨Try.func44, rfl, by kernel_rfl⟩
theorem c44 : ∀ args d, e44.2.2.2 args = some d → CallOK Try.prog 44 args (mkRes Try.prog 4 d) :=
  ent1 k44 fun x d h _ => by
    cases h
    rw [n26]
    refine fn_ok hm envU1 k44 ((t44 1 x).trans ?_)
    rw [m4]
    exact fits_tree x

def U2 : Tab := e44 :: U1
theorem envU2 : EnvOK Try.prog (envH U2 []) := envOK_cons envU1 c44

end X
end Go.Proofs.Ytjgnknkbohlopaa
