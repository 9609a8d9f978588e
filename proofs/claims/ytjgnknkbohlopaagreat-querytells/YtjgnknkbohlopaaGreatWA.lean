/- What the evaluator comes to, function by function: by the kernel. Nothing here is trusted. -/
import Derived.Test.YtjgnknkbohlopaaGreatVQ
import Derived.Test.YtjgnknkbohlopaaGreatVX
namespace Go.Proofs.YtjgnknkbohlopaaGreat
namespace X
open Go.Ev
set_option linter.unusedVariables false
/- slices.Index[[]int,int] -/
def t96_h : Hints := fun i => if i = 2 then some ([2, 3, 4, 5, 6, 9, 10, 11, 12, 13, 14, 15, 16, 17, 18], [], []) else none
def t96_lp2 (P : Program) (fn : Func) (N n : Nat) (x0 : D) (x1 : Int) (v8 : Int) : Option AV := evLoop (preL t96_h (sub [1, 0, 1, 0, 0] (bodyOf fn))) (evCode P (envH T7 []) t96_h N (sub [1, 0, 1, 0, 0] (bodyOf fn))) n ⟨[dat 25 x0, dat 3 (.lit (.int .i64 x1)), dead, dead, dead, dead, dead, dat 3 (.lit (.int .i64 ((elemsD x0).length : Int))), dat 3 (.lit (.int .i64 v8)), dead, dead, dead, dead, dead, dead, dead, dead, dead, dead], lookB []⟩ (blockK 0 (seqC P (envH T7 []) t96_h N (sub [1, 1] (bodyOf fn)) (finK P fn) ))
theorem t96_lp2_step  (N n : Nat) (x0 : D) (x1 : Int) (v8 : Int) : t96_lp2 Tryz.prog Tryz.f96 N (n + 1) x0 x1 v8 =
  bif decide (v8 < ((elemsD x0).length : Int)) then
    bif (decide (0 ≤ v8) && decide (v8 < ((elemsD x0).length : Int))) then
      bif (x1 == (intD ((elemsD x0).getD (v8).toNat .nil))) then
        some (dat 3 (.lit (.int .i64 v8)))
      else t96_lp2 Tryz.prog Tryz.f96 N n x0 x1 (IntKind.wrap .i64 (v8 + 1))
    else none
  else some (dat 3 (.lit (.int .i64 (-1)))) := by kernel_rfl
theorem t96 (N : Nat) (x0 : D) (x1 : Int) : evFn Tryz.prog (envH T7 []) t96_h N Tryz.f96 [dat 25 x0, dat 3 (.lit (.int .i64 x1))] =
  t96_lp2 Tryz.prog Tryz.f96 N N x0 x1 0 := by kernel_rfl

/- roadbook/expr.formOf -/
def t68_h : Hints := fun _ =>  none
theorem t68 (N : Nat) (x0 : Int) : evFn Tryz.prog (envH T7 []) t68_h N Tryz.f68 [dat 3 (.lit (.int .i64 x0))] =
  bif (decide (0 ≤ x0) && decide (x0 < (11 : Int))) then
    some (dat 87 (fieldD (.agg [.agg [.held .nilFunc, .held .nilFunc, .held .nilFunc], .agg [.held .nilFunc, .held .nilFunc, .held .nilFunc], .agg [.held .nilFunc, .held (.func (.func 85) #[] #[]), .held .nilFunc], .agg [.held .nilFunc, .held (.func (.func 86) #[] #[]), .held .nilFunc], .agg [.held .nilFunc, .held (.func (.func 87) #[] #[]), .held .nilFunc], .agg [.held .nilFunc, .held (.func (.func 88) #[] #[]), .held .nilFunc], .agg [.held .nilFunc, .held (.func (.func 89) #[] #[]), .held .nilFunc], .agg [.held .nilFunc, .held (.func (.func 90) #[] #[]), .held .nilFunc], .agg [.held .nilFunc, .held .nilFunc, .held (.func (.func 91) #[] #[])], .agg [.held .nilFunc, .held .nilFunc, .held (.func (.func 92) #[] #[])], .agg [.held (.func (.func 93) #[] #[]), .held .nilFunc, .held .nilFunc]]) (x0).toNat))
  else none := by kernel_rfl

/- (roadbook/expr.form).takes -/
def t69_h : Hints := fun _ =>  none
theorem t69 (N : Nat) (x0 : D) (x1 : Int) : evFn Tryz.prog (envH T7 []) t69_h N Tryz.f69 [dat 87 x0, dat 3 (.lit (.int .i64 x1))] =
  bif (!(isNilF (fieldD x0 0))) then
    some (dat 4 (.lit (.bool (x1 == 1))))
  else bif (!(isNilF (fieldD x0 1))) then
      some (dat 4 (.lit (.bool (x1 == 2))))
    else bif (!(isNilF (fieldD x0 2))) then
        some (dat 4 (.lit (.bool (decide (x1 ≤ 4)))))
      else some (dat 4 (.lit (.bool (x1 == 0)))) := by kernel_rfl

/- roadbook/roadbookref02.Ints -/
def t10_h : Hints := fun i => if i = 4 then some ([2, 3, 4, 6, 7, 8, 9, 10, 11, 12, 13, 14, 15, 16, 17, 18, 19, 20, 21, 22, 23, 24, 25], [], []) else none
def t10_lp4 (P : Program) (fn : Func) (N n : Nat) (x0 : D) (x1 : D) (v5 : Int) : Option AV := evLoop (preL t10_h (sub [1, 1, 0, 1, 0, 0] (bodyOf fn))) (evCode P (envH T7 []) t10_h N (sub [1, 1, 0, 1, 0, 0] (bodyOf fn))) n ⟨[dat 25 x0, dat 25 x1, dead, dead, dead, dat 3 (.lit (.int .i64 v5)), dead, dead, dead, dead, dead, dead, dead, dead, dead, dead, dead, dead, dead, dead, dead, dead, dead, dead, dead, dead], lookB []⟩ (blockK 0 (seqC P (envH T7 []) t10_h N (sub [1, 1, 1] (bodyOf fn)) (finK P fn) ))
theorem t10_lp4_step  (N n : Nat) (x0 : D) (x1 : D) (v5 : Int) : t10_lp4 Tryz.prog Tryz.f10 N (n + 1) x0 x1 v5 =
  bif decide (v5 < ((elemsD x0).length : Int)) then
    bif (decide (0 ≤ v5) && decide (v5 < ((elemsD x0).length : Int))) then
      bif (decide (0 ≤ v5) && decide (v5 < ((elemsD x1).length : Int))) then
        bif ((intD ((elemsD x0).getD (v5).toNat .nil)) != (intD ((elemsD x1).getD (v5).toNat .nil))) then
          some (dat 4 (.lit (.bool false)))
        else t10_lp4 Tryz.prog Tryz.f10 N n x0 x1 (IntKind.wrap .i64 (v5 + 1))
      else none
    else none
  else some (dat 4 (.lit (.bool true))) := by kernel_rfl
theorem t10 (N : Nat) (x0 : D) (x1 : D) : evFn Tryz.prog (envH T7 []) t10_h N Tryz.f10 [dat 25 x0, dat 25 x1] =
  bif (((elemsD x0).length : Int) != ((elemsD x1).length : Int)) then
    some (dat 4 (.lit (.bool false)))
  else t10_lp4 Tryz.prog Tryz.f10 N N x0 x1 0 := by kernel_rfl

end X
end Go.Proofs.YtjgnknkbohlopaaGreat

namespace Go.Proofs.YtjgnknkbohlopaaGreat
namespace X
open Go.Ev
set_option linter.unusedVariables false
set_option linter.unusedSimpArgs false

theorem n27 (x : D) : normD Tryz.prog 25 x = x := by kernel_rfl
theorem n26 (x : D) : normD Tryz.prog 35 x = x := by kernel_rfl
theorem n56 (x : D) : normD Tryz.prog 87 x = x := by kernel_rfl
theorem m56 (x : D) : mkRes Tryz.prog 87 x = dat 87 x := by kernel_rfl
theorem m27 (x : D) : mkRes Tryz.prog 25 x = dat 25 x := by kernel_rfl
theorem u27 : Tryz.prog.underlying 25 = some (.slice 3) := by kernel_rfl
theorem u24 : Tryz.prog.underlying 26 = some (.slice 35) := by kernel_rfl

theorem ty27 {n : Nat} {x : D} (h : Ty Tryz.prog n 25 x) : ∃ es, x = .slice es [] ∧ es.length ≤ maxLen ∧ ∀ y ∈ es, ∃ z, y = litI z ∧ inR z = true := by
  cases n with
  | zero => exact h.elim
  | succ n =>
    unfold Ty at h
    rw [u27] at h
    split at h <;> try (exact h.elim)
    all_goals try (simp_all; done)
    rename_i e es sp heq
    cases heq
    obtain ⟨rfl, hl, hp⟩ := h
    exact ⟨es, rfl, hl, fun y hy => ty3' (hp y hy)⟩

theorem len27 {n : Nat} {x : D} (hx : Ty Tryz.prog n 25 x) : (elemsD x).length ≤ maxLen := by
  obtain ⟨es, rfl, hl, _⟩ := ty27 hx
  exact hl

theorem wrap_step {i n : Nat} (hn : n ≤ maxLen) (h : i < n) : IntKind.wrap .i64 ((i : Int) + 1) = ((i + 1 : Nat) : Int) := by
  rw [wrap_in]
  · omega
  · rw [inR_iff]; unfold maxLen at hn; omega

theorem getD_lt {l : List D} {i : Nat} (h : i < l.length) : l.getD i .nil = l[i] := by simp [List.getD, h]

/-! ### slices.Index -/
theorem idx_loop {N : Nat} {x0 : D} {x1 : Int} (hl : (elemsD x0).length ≤ maxLen) : ∀ (n i : Nat), i ≤ (elemsD x0).length → (elemsD x0).length - i < n →
    t96_lp2 Tryz.prog Tryz.f96 N n x0 x1 (i : Int) = some (dat 3 (.lit (.int .i64 (Lib.idxFrom (((elemsD x0).drop i).map intD) x1 i))))
  | 0, i, _, h => by omega
  | n + 1, i, hi, h => by
    rw [t96_lp2_step]
    by_cases hlt : i < (elemsD x0).length
    · have h1 : decide ((i : Int) < ((elemsD x0).length : Int)) = true := by simpa using hlt
      rw [idx_ok hlt, h1, cond_true, cond_true, List.drop_eq_getElem_cons hlt, List.map_cons, Int.toNat_natCast, getD_lt hlt, Lib.idxFrom]
      rw [wrap_step hl hlt, idx_loop hl n (i + 1) (by omega) (by omega)]
      by_cases he : intD (elemsD x0)[i] = x1
      · have : (x1 == intD (elemsD x0)[i]) = true := by simp [he]
        rw [this, cond_true, if_pos he]
      · have : (x1 == intD (elemsD x0)[i]) = false := by
          rw [beq_eq_false_iff_ne]; exact fun hh => he hh.symm
        rw [this, cond_false, if_neg he]
    · have h1 : decide ((i : Int) < ((elemsD x0).length : Int)) = false := by simpa using hlt
      have h2 : (elemsD x0).drop i = [] := List.drop_of_length_le (by omega)
      rw [h1, h2, cond_false]
      rfl

def e96 : FuncId × TypeId × (List AV → Bool) × (List AV → Option D) := (96, 3, yes, ent [25, 3] (f2 fun x y => some (.lit (.int .i64 (Lib.idxOf ((elemsD x).map intD) (intD y))))))
theorem k96 : FnOK Tryz.prog 96 Tryz.f96 := ⟨Tryz.func96, rfl, by kernel_rfl⟩
theorem c96 : ∀ args d, e96.2.2.2 args = some d → CallOK Tryz.prog 96 args (mkRes Tryz.prog 3 d) :=
  ent2 k96 fun x y d h ⟨_, hx⟩ _ => by
    cases h
    rw [n27, n3]
    refine fn_ok hm env7 k96 ((t96 ((elemsD x).length + 1) x (intD y)).trans ?_)
    rw [m3]
    have := idx_loop (N := (elemsD x).length + 1) (x1 := intD y) (len27 hx) ((elemsD x).length + 1) 0 (Nat.zero_le _) (by omega)
    simpa [Lib.idxOf, intD] using this

/-! ### roadbookref02.Ints -/
theorem ints_loop {N : Nat} {x0 x1 : D} (hl : (elemsD x0).length ≤ maxLen) (hs : (elemsD x0).length = (elemsD x1).length) : ∀ (n i : Nat), i ≤ (elemsD x0).length → (elemsD x0).length - i < n →
    t10_lp4 Tryz.prog Tryz.f10 N n x0 x1 (i : Int) = some (dat 4 (.lit (.bool (intsB ((elemsD x0).drop i) ((elemsD x1).drop i)))))
  | 0, i, _, h => by omega
  | n + 1, i, hi, h => by
    rw [t10_lp4_step]
    by_cases hlt : i < (elemsD x0).length
    · have hlt1 : i < (elemsD x1).length := by omega
      have h1 : decide ((i : Int) < ((elemsD x0).length : Int)) = true := by simpa using hlt
      rw [idx_ok hlt, idx_ok hlt1, h1, cond_true, cond_true, cond_true, List.drop_eq_getElem_cons hlt, List.drop_eq_getElem_cons hlt1, Int.toNat_natCast, getD_lt hlt, getD_lt hlt1]
      rw [wrap_step hl hlt, ints_loop hl hs n (i + 1) (by omega) (by omega)]
      unfold intsB
      simp only [List.map_cons]
      by_cases he : intD (elemsD x0)[i] = intD (elemsD x1)[i]
      · have : (intD (elemsD x0)[i] != intD (elemsD x1)[i]) = false := by simp [he]
        rw [this, cond_false]
        simp [he]
      · have : (intD (elemsD x0)[i] != intD (elemsD x1)[i]) = true := by simp [he]
        rw [this, cond_true]
        have : (intD (elemsD x0)[i] :: ((elemsD x0).drop (i + 1)).map intD == intD (elemsD x1)[i] :: ((elemsD x1).drop (i + 1)).map intD) = false := by
          rw [beq_eq_false_iff_ne]
          intro hh
          injection hh with hh _
          exact he hh
        rw [this]
    · have h1 : decide ((i : Int) < ((elemsD x0).length : Int)) = false := by simpa using hlt
      have h2 : (elemsD x0).drop i = [] := List.drop_of_length_le (by omega)
      have h3 : (elemsD x1).drop i = [] := List.drop_of_length_le (by omega)
      rw [h1, h2, h3, cond_false]
      rfl

def e10 : FuncId × TypeId × (List AV → Bool) × (List AV → Option D) := (10, 4, yes, ent [25, 25] (f2 fun x y => some (.lit (.bool (intsB (elemsD x) (elemsD y))))))
theorem k10 : FnOK Tryz.prog 10 Tryz.f10 := ⟨Tryz.func10, rfl, by kernel_rfl⟩
theorem c10 : ∀ args d, e10.2.2.2 args = some d → CallOK Tryz.prog 10 args (mkRes Tryz.prog 4 d) :=
  ent2 k10 fun x y d h ⟨_, hx⟩ _ => by
    cases h
    rw [n27, n27]
    refine fn_ok hm env7 k10 ((t10 ((elemsD x).length + 1) x y).trans ?_)
    rw [m4]
    by_cases hs : (elemsD x).length = (elemsD y).length
    · have : (((elemsD x).length : Int) != ((elemsD y).length : Int)) = false := by simp [hs]
      rw [this, cond_false]
      have := ints_loop (N := (elemsD x).length + 1) (len27 hx) hs ((elemsD x).length + 1) 0 (Nat.zero_le _) (by omega)
      simpa [boolD] using this
    · have : (((elemsD x).length : Int) != ((elemsD y).length : Int)) = true := by simp; omega
      rw [this, cond_true]
      have h2 : intsB (elemsD x) (elemsD y) = false := by
        unfold intsB
        rw [beq_eq_false_iff_ne]
        intro hh
        have := congrArg List.length hh
        simp at this
        exact hs this
      rw [h2]
      rfl

/-! ### Forms -/
def fm (k : Nat) (f : FuncId) : D := .agg ((List.range 3).map fun j => .held (if j = k then .func (.func f) #[] #[] else .nilFunc))
def formL : List D := [fm 3 0, fm 3 0, fm 1 85, fm 1 86, fm 1 87, fm 1 88, fm 1 89, fm 1 90, fm 2 91, fm 2 92, fm 0 93]
def formT (n : Int) : D := fieldD (.agg formL) n.toNat
def e68 : FuncId × TypeId × (List AV → Bool) × (List AV → Option D) := (68, 87, fun xs => decide (0 ≤ intD (xs.getD 0 dead).d) && decide (intD (xs.getD 0 dead).d < 11), ent [3] (f1 fun x => some (formT (intD x))))
theorem k68 : FnOK Tryz.prog 68 Tryz.f68 := ⟨Tryz.func68, rfl, by kernel_rfl⟩
theorem c68 : ∀ args d, e68.2.2.1 args = true → e68.2.2.2 args = some d → CallOK Tryz.prog 68 args (mkRes Tryz.prog 87 d) := by
  intro args d hp hd
  have key : ∀ args d, ent [3] (f1 fun x => if (decide (0 ≤ intD x) && decide (intD x < 11)) = true then some (formT (intD x)) else none) args = some d → CallOK Tryz.prog 68 args (mkRes Tryz.prog 87 d) :=
    ent1 k68 fun x d h _ => by
      split at h
      · rename_i hc
        cases h
        rw [n3]
        refine fn_ok hm env7 k68 ((t68 1 (intD x)).trans ?_)
        rw [hc, m56]
        rfl
      · cases h
  refine key args d ?_
  unfold e68 ent at hd hp
  unfold ent
  simp only at hd hp
  split at hd
  · rename_i hs
    rw [if_pos hs]
    unfold shapeOK at hs
    match args, hs, hp, hd with
    | [x], _, hp, hd =>
      simp only [List.map_cons, List.map_nil, f1] at hd ⊢
      have hp' : (decide (0 ≤ intD x.d) && decide (intD x.d < 11)) = true := hp
      rw [if_pos hp']
      exact hd
    | [], hs, _, _ => simp at hs
    | _ :: _ :: _, hs, _, _ => simp at hs
  · cases hd

def e69 : FuncId × TypeId × (List AV → Bool) × (List AV → Option D) := (69, 4, yes, ent [87, 3] (f2 fun x y => some (.lit (.bool (takesB x (intD y))))))
theorem k69 : FnOK Tryz.prog 69 Tryz.f69 := ⟨Tryz.func69, rfl, by kernel_rfl⟩
theorem c69 : ∀ args d, e69.2.2.2 args = some d → CallOK Tryz.prog 69 args (mkRes Tryz.prog 4 d) :=
  ent2 k69 fun x y d h _ _ => by
    cases h
    rw [n56, n3]
    refine fn_ok hm env7 k69 ((t69 1 x (intD y)).trans ?_)
    rw [m4]
    unfold takesB
    cases isNilF (fieldD x 0) <;> cases isNilF (fieldD x 1) <;> cases isNilF (fieldD x 2) <;> rfl

/-! ### What forms come to -/
def isFn (f : FuncId) : D → Bool
  | .held (.func (.func g) _ _) => g == f
  | _ => false
/-- Is it the form of an op? -/
def isForm (k : Nat) (f : FuncId) (x : D) : Bool := (List.range 3).all fun j => if j = k then isFn f (fieldD x j) else isNilF (fieldD x j)
def comeK : List (Int × Nat × FuncId) := [(2, 1, 85), (3, 1, 86), (4, 1, 87), (5, 1, 88), (6, 1, 89), (7, 1, 90), (8, 2, 91), (9, 2, 92), (10, 0, 93)]
def opOf (x : D) : Int := ((comeK.find? fun c => isForm c.2.1 c.2.2 x).map (·.1)).getD 0
def comeD (x l : D) : D := opV (opOf x) (elemsD l)
def comeOK (x l : D) : Bool := comeK.any (fun c => isForm c.2.1 c.2.2 x) && takesB x ((elemsD l).length : Int)
theorem u56 : ∃ f g h : Field, Tryz.prog.underlying 87 = some (.struct #[f, g, h]) ∧ f.type = 83 ∧ g.type = 84 ∧ h.type = 85 := ⟨_, _, _, Tryz.underlying87, rfl, rfl, rfl⟩
theorem uf52 : ∃ a b c, Tryz.prog.underlying 83 = some (.func a b c) := ⟨_, _, _, Tryz.underlying83⟩
theorem uf53 : ∃ a b c, Tryz.prog.underlying 84 = some (.func a b c) := ⟨_, _, _, Tryz.underlying84⟩
theorem uf54 : ∃ a b c, Tryz.prog.underlying 85 = some (.func a b c) := ⟨_, _, _, Tryz.underlying85⟩
theorem tyF {n : Nat} {t : TypeId} {x : D} (hu : ∃ a b c, Tryz.prog.underlying t = some (.func a b c)) (h : Ty Tryz.prog n t x) : x = .held .nilFunc ∨ (∃ f, x = .held (.func (.func f) #[] #[])) ∨ ∃ f t0 y, x = bndD f t0 y := by
  obtain ⟨a, b, c, hu⟩ := hu
  cases n with
  | zero => exact h.elim
  | succ n =>
    unfold Ty at h
    rw [hu] at h
    split at h <;> try (exact h.elim)
    all_goals first
      | (simp_all; done)
      | (rcases h with rfl | ⟨f, rfl⟩
         · exact .inl rfl
         · exact .inr (.inl ⟨f, rfl⟩))
      | (obtain ⟨f, t0, y, e1, _⟩ := h; subst e1; exact .inr (.inr ⟨f, t0, y, rfl⟩))
theorem ty56 {n : Nat} {x : D} (h : Ty Tryz.prog n 87 x) : ∃ a b c, x = .agg [a, b, c] ∧ (∀ y ∈ [a, b, c], y = .held .nilFunc ∨ (∃ f, y = .held (.func (.func f) #[] #[])) ∨ ∃ f t0 z, y = bndD f t0 z) := by
  obtain ⟨f, g, h', hu, hf, hg, hh⟩ := u56
  cases n with
  | zero => exact h.elim
  | succ n =>
    unfold Ty at h
    rw [hu] at h
    split at h <;> try (exact h.elim)
    all_goals try (simp_all; done)
    rename_i fs ps heq
    cases heq
    obtain ⟨hlen, hp⟩ := h
    match ps, hlen with
    | [a, b, c], _ =>
      have h0 := hp 0 f rfl
      have h1 := hp 1 g rfl
      have h2 := hp 2 h' rfl
      rw [hf] at h0
      rw [hg] at h1
      rw [hh] at h2
      refine ⟨a, b, c, rfl, fun y hy => ?_⟩
      simp only [List.mem_cons, List.not_mem_nil, or_false] at hy
      rcases hy with rfl | rfl | rfl
      · exact tyF uf52 h0
      · exact tyF uf53 h1
      · exact tyF uf54 h2

theorem isForm_eq {n : Nat} {x : D} (h : Ty Tryz.prog n 87 x) {k : Nat} {f : FuncId} (hk : k < 3) (hf : isForm k f x = true) : x = fm k f := by
  obtain ⟨a, b, c, rfl, hall⟩ := ty56 h
  have ha := hall a (by simp)
  have hb := hall b (by simp)
  have hc := hall c (by simp)
  unfold isForm at hf
  rw [List.all_eq_true] at hf
  have h0 := hf 0 (by simp)
  have h1 := hf 1 (by simp)
  have h2 := hf 2 (by simp)
  have key : ∀ (j : Nat) (y : D), (y = .held .nilFunc ∨ (∃ f, y = .held (.func (.func f) #[] #[])) ∨ ∃ f t0 z, y = bndD f t0 z) → (if j = k then isFn f y else isNilF y) = true → y = .held (if j = k then .func (.func f) #[] #[] else .nilFunc) := by
    intro j y hy hh
    by_cases hj : j = k
    · rw [if_pos hj] at hh ⊢
      rcases hy with rfl | ⟨g, rfl⟩ | ⟨g, t0, z, rfl⟩
      · simp [isFn] at hh
      · simp only [isFn, beq_iff_eq] at hh
        rw [hh]
      · simp [isFn, bndD] at hh
    · rw [if_neg hj] at hh ⊢
      rcases hy with rfl | ⟨g, rfl⟩ | ⟨g, t0, z, rfl⟩
      · rfl
      · simp [isNilF] at hh
      · simp [isNilF, bndD] at hh
  have e0 := key 0 a ha h0
  have e1 := key 1 b hb h1
  have e2 := key 2 c hc h2
  rw [e0, e1, e2]
  rfl

theorem find_form (k : Nat) (f : FuncId) (op : Int) (h : ((comeK.find? fun c => isForm c.2.1 c.2.2 (fm k f)).map (·.1)).getD 0 = op) : opOf (fm k f) = op := h

def U1 : Tab := e96 :: e10 :: e68 :: e69 :: T7
theorem envU1 : EnvOK Tryz.prog (envH U1 []) := envOK_cons (envOK_cons (envOK_cons' (envOK_cons env7 c69) c68) c10) c96

/-- An op's form takes as many as it must. -/
theorem takes_form {op : Int} (h0 : 0 ≤ op) (h1 : op < 11) (n : Int) : takesB (formT op) n = takesN op n := by
  have : op = 0 ∨ op = 1 ∨ op = 2 ∨ op = 3 ∨ op = 4 ∨ op = 5 ∨ op = 6 ∨ op = 7 ∨ op = 8 ∨ op = 9 ∨ op = 10 := by omega
  rcases this with rfl | rfl | rfl | rfl | rfl | rfl | rfl | rfl | rfl | rfl | rfl <;> rfl
theorem op_form {op : Int} (h0 : 2 ≤ op) (h1 : op < 11) : opOf (formT op) = op ∧ comeK.any (fun c => isForm c.2.1 c.2.2 (formT op)) = true := by
  have : op = 2 ∨ op = 3 ∨ op = 4 ∨ op = 5 ∨ op = 6 ∨ op = 7 ∨ op = 8 ∨ op = 9 ∨ op = 10 := by omega
  rcases this with rfl | rfl | rfl | rfl | rfl | rfl | rfl | rfl | rfl <;> exact ⟨rfl, rfl⟩

end X
end Go.Proofs.YtjgnknkbohlopaaGreat

namespace Go.Proofs.YtjgnknkbohlopaaGreat
namespace X
open Go.Ev
set_option linter.unusedVariables false
/- roadbook/expr.fits -/
def t52_h : Hints := fun _ =>  none
theorem t52 (N : Nat) (x0 : D) : evFn Tryz.prog (envH U1 []) t52_h N Tryz.f52 [dat 35 x0] =
  bif ((decide ((intD (fieldD x0 0)) < 0)) == false) then
    bif ((decide ((intD (fieldD x0 0)) ≥ 11)) == false) then
      bif ((decide ((intD (fieldD x0 1)) < 0)) == false) then
        bif ((decide ((intD (fieldD x0 1)) > 15)) == false) then
          bif (!(mayB (fieldD x0 2))) then
            some (dat 4 (.lit (.bool false)))
          else bif (((intD (fieldD x0 1)) != 0) == true) then
              bif (((intD (fieldD x0 0)) != 1) == false) then
                bif ((!(((intD (fieldD (fieldD x0 2) 0)) == 0) && (((intD (fieldD (fieldD x0 2) 1)) == 0) && true))) == true) then
                  bif ((intD (fieldD x0 0)) != 0) then
                    some (dat 4 (.lit (.bool false)))
                  else bif (decide (0 ≤ (intD (fieldD x0 0))) && decide ((intD (fieldD x0 0)) < 11)) then
                      some (dat 4 (.lit (.bool (takesB (formT (intD (fieldD x0 0))) ((elemsD (fieldD x0 3)).length : Int)))))
                    else none
                else bif (decide (0 ≤ (intD (fieldD x0 0))) && decide ((intD (fieldD x0 0)) < 11)) then
                    some (dat 4 (.lit (.bool (takesB (formT (intD (fieldD x0 0))) ((elemsD (fieldD x0 3)).length : Int)))))
                  else none
              else some (dat 4 (.lit (.bool false)))
            else bif ((!(((intD (fieldD (fieldD x0 2) 0)) == 0) && (((intD (fieldD (fieldD x0 2) 1)) == 0) && true))) == true) then
                bif ((intD (fieldD x0 0)) != 0) then
                  some (dat 4 (.lit (.bool false)))
                else bif (decide (0 ≤ (intD (fieldD x0 0))) && decide ((intD (fieldD x0 0)) < 11)) then
                    some (dat 4 (.lit (.bool (takesB (formT (intD (fieldD x0 0))) ((elemsD (fieldD x0 3)).length : Int)))))
                  else none
              else bif (decide (0 ≤ (intD (fieldD x0 0))) && decide ((intD (fieldD x0 0)) < 11)) then
                  some (dat 4 (.lit (.bool (takesB (formT (intD (fieldD x0 0))) ((elemsD (fieldD x0 3)).length : Int)))))
                else none
        else some (dat 4 (.lit (.bool false)))
      else some (dat 4 (.lit (.bool false)))
    else some (dat 4 (.lit (.bool false)))
  else some (dat 4 (.lit (.bool false))) := by kernel_rfl

end X
end Go.Proofs.YtjgnknkbohlopaaGreat

namespace Go.Proofs.YtjgnknkbohlopaaGreat
namespace X
open Go.Ev
set_option linter.unusedVariables false
set_option linter.unusedSimpArgs false

theorem u26 : ∃ f g h k : Field, Tryz.prog.underlying 35 = some (.struct #[f, g, h, k]) ∧ f.type = 3 ∧ g.type = 3 ∧ h.type = 33 ∧ k.type = 26 := ⟨_, _, _, _, Tryz.underlying35, rfl, rfl, rfl, rfl⟩
theorem ty26 {n : Nat} {x : D} (h : Ty Tryz.prog n 35 x) : ∃ a b c d m, n = m + 1 ∧ x = .agg [.lit (.int .i64 a), .lit (.int .i64 b), c, d] ∧ inR a = true ∧ inR b = true ∧ Ty Tryz.prog m 33 c ∧ Ty Tryz.prog m 26 d := by
  obtain ⟨f, g, h', k, hu, hf, hg, hh, hk⟩ := u26
  cases n with
  | zero => exact h.elim
  | succ n =>
    unfold Ty at h
    rw [hu] at h
    split at h <;> try (exact h.elim)
    all_goals try (simp_all; done)
    rename_i fs ps heq
    cases heq
    obtain ⟨hlen, hp⟩ := h
    match ps, hlen with
    | [a, b, c, d], _ =>
      have h0 := hp 0 f rfl
      have h1 := hp 1 g rfl
      have h2 := hp 2 h' rfl
      have h3 := hp 3 k rfl
      rw [hf] at h0
      rw [hg] at h1
      rw [hh] at h2
      rw [hk] at h3
      obtain ⟨z, ea, hz⟩ := ty3' h0
      obtain ⟨y, eb, hy⟩ := ty3' h1
      simp at ea eb
      subst ea eb
      exact ⟨z, y, c, d, n, rfl, rfl, hz, hy, h2, h3⟩
theorem ty24 {n : Nat} {x : D} (h : Ty Tryz.prog n 26 x) : ∃ es m, n = m + 1 ∧ x = .slice es [] ∧ es.length ≤ maxLen ∧ ∀ y ∈ es, Ty Tryz.prog m 35 y := by
  cases n with
  | zero => exact h.elim
  | succ n =>
    unfold Ty at h
    rw [u24] at h
    split at h <;> try (exact h.elim)
    all_goals simp_all
/-- Parts of an expression. -/
theorem ty_kids {n : Nat} {x : D} (h : Ty Tryz.prog n 35 x) : (kids x).length ≤ maxLen ∧ ∀ y ∈ kids x, ∃ m, Ty Tryz.prog m 35 y := by
  obtain ⟨a, b, c, d, m, rfl, rfl, _, _, _, hd⟩ := ty26 h
  obtain ⟨es, k, rfl, rfl, hl, hall⟩ := ty24 hd
  exact ⟨hl, fun y hy => ⟨k, hall y hy⟩⟩
theorem ty_cols {n : Nat} {x : D} (h : Ty Tryz.prog n 35 x) : inR (opI x) = true ∧ inR (colI x) = true := by
  obtain ⟨a, b, c, d, m, rfl, rfl, ha, hb, _, _⟩ := ty26 h
  exact ⟨ha, hb⟩
theorem ty_val {n : Nat} {x : D} (h : Ty Tryz.prog n 35 x) : ∃ k m, fieldD x 2 = vv k m ∧ inR k = true ∧ inR m = true := by
  obtain ⟨a, b, c, d, m, rfl, rfl, ha, hb, hc, _⟩ := ty26 h
  exact ty23 hc

theorem fits_tree (x0 : D) : (bif ((decide ((intD (fieldD x0 0)) < 0)) == false) then
    bif ((decide ((intD (fieldD x0 0)) ≥ 11)) == false) then
      bif ((decide ((intD (fieldD x0 1)) < 0)) == false) then
        bif ((decide ((intD (fieldD x0 1)) > 15)) == false) then
          bif (!(mayB (fieldD x0 2))) then
            some (dat 4 (.lit (.bool false)))
          else bif (((intD (fieldD x0 1)) != 0) == true) then
              bif (((intD (fieldD x0 0)) != 1) == false) then
                bif ((!(((intD (fieldD (fieldD x0 2) 0)) == 0) && (((intD (fieldD (fieldD x0 2) 1)) == 0) && true))) == true) then
                  bif ((intD (fieldD x0 0)) != 0) then
                    some (dat 4 (.lit (.bool false)))
                  else bif (decide (0 ≤ (intD (fieldD x0 0))) && decide ((intD (fieldD x0 0)) < 11)) then
                      some (dat 4 (.lit (.bool (takesB (formT (intD (fieldD x0 0))) ((elemsD (fieldD x0 3)).length : Int)))))
                    else none
                else bif (decide (0 ≤ (intD (fieldD x0 0))) && decide ((intD (fieldD x0 0)) < 11)) then
                    some (dat 4 (.lit (.bool (takesB (formT (intD (fieldD x0 0))) ((elemsD (fieldD x0 3)).length : Int)))))
                  else none
              else some (dat 4 (.lit (.bool false)))
            else bif ((!(((intD (fieldD (fieldD x0 2) 0)) == 0) && (((intD (fieldD (fieldD x0 2) 1)) == 0) && true))) == true) then
                bif ((intD (fieldD x0 0)) != 0) then
                  some (dat 4 (.lit (.bool false)))
                else bif (decide (0 ≤ (intD (fieldD x0 0))) && decide ((intD (fieldD x0 0)) < 11)) then
                    some (dat 4 (.lit (.bool (takesB (formT (intD (fieldD x0 0))) ((elemsD (fieldD x0 3)).length : Int)))))
                  else none
              else bif (decide (0 ≤ (intD (fieldD x0 0))) && decide ((intD (fieldD x0 0)) < 11)) then
                  some (dat 4 (.lit (.bool (takesB (formT (intD (fieldD x0 0))) ((elemsD (fieldD x0 3)).length : Int)))))
                else none
        else some (dat 4 (.lit (.bool false)))
      else some (dat 4 (.lit (.bool false)))
    else some (dat 4 (.lit (.bool false)))
  else some (dat 4 (.lit (.bool false))) : Option AV) = some (dat 4 (.lit (.bool (fitsB x0)))) := by
  unfold fitsB opI colI kids kk nn
  generalize hop : intD (fieldD x0 0) = op
  generalize intD (fieldD x0 1) = col
  generalize (elemsD (fieldD x0 3)).length = len
  generalize mayB (fieldD x0 2) = b5
  generalize (intD (fieldD (fieldD x0 2) 0) == 0) = b6
  generalize (intD (fieldD (fieldD x0 2) 1) == 0) = b7
  have e1 : decide (op < 0) = !decide (0 ≤ op) := by by_cases h : 0 ≤ op <;> simp [h] <;> omega
  have e2 : decide (op ≥ 11) = !decide (op < 11) := by by_cases h : op < 11 <;> simp [h] <;> omega
  have e3 : decide (col < 0) = !decide (0 ≤ col) := by by_cases h : 0 ≤ col <;> simp [h] <;> omega
  have e4 : decide (col > 15) = !decide (col ≤ 15) := by by_cases h : col ≤ 15 <;> simp [h] <;> omega
  have e5 : (col != 0) = !(col == 0) := rfl
  have e6 : (op != 1) = !(op == 1) := rfl
  have e7 : (op != 0) = !(op == 0) := rfl
  rw [e1, e2, e3, e4, e5, e6, e7]
  by_cases h0 : 0 ≤ op
  · by_cases h1 : op < 11
    · rw [takes_form h0 h1]
      have d1 : decide (0 ≤ op) = true := by simpa using h0
      have d2 : decide (op < 11) = true := by simpa using h1
      rw [d1, d2]
      generalize takesN op (len : Int) = b8
      generalize decide (0 ≤ col) = b1
      generalize decide (col ≤ 15) = b2
      generalize (col == 0) = b3
      generalize (op == 1) = b4
      generalize (op == 0) = b9
      cases b1 <;> cases b2 <;> cases b3 <;> cases b4 <;> cases b5 <;> cases b6 <;> cases b7 <;> cases b8 <;> cases b9 <;> rfl
    · have d1 : decide (0 ≤ op) = true := by simpa using h0
      have d2 : decide (op < 11) = false := by simpa using h1
      rw [d1, d2]
      rfl
  · have d1 : decide (0 ≤ op) = false := by simpa using h0
    rw [d1]
    rfl

def e52 : FuncId × TypeId × (List AV → Bool) × (List AV → Option D) := (52, 4, yes, ent [35] (f1 fun x => some (.lit (.bool (fitsB x)))))
theorem k52 : FnOK Tryz.prog 52 Tryz.f52 := ⟨Tryz.func52, rfl, by kernel_rfl⟩
theorem c52 : ∀ args d, e52.2.2.2 args = some d → CallOK Tryz.prog 52 args (mkRes Tryz.prog 4 d) :=
  ent1 k52 fun x d h _ => by
    cases h
    rw [n26]
    refine fn_ok hm envU1 k52 ((t52 1 x).trans ?_)
    rw [m4]
    exact fits_tree x

def U2 : Tab := e52 :: U1
theorem envU2 : EnvOK Tryz.prog (envH U2 []) := envOK_cons envU1 c52

end X
end Go.Proofs.YtjgnknkbohlopaaGreat
