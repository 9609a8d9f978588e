/- Layer 2: lists, and the forms of expressions. Nothing here is trusted. -/
import Derived.Test.YtochjfimogijjaaWT1
namespace Go.Proofs.Ytochjfimogijjaa
open Go.Ev
set_option linter.unusedVariables false
set_option linter.unusedSimpArgs false

theorem n27 (x : D) : normD Try.prog 27 x = x := by kernel_rfl
theorem n26 (x : D) : normD Try.prog 26 x = x := by kernel_rfl
theorem n56 (x : D) : normD Try.prog 56 x = x := by kernel_rfl
theorem m56 (x : D) : mkRes Try.prog 56 x = dat 56 x := by kernel_rfl
theorem m27 (x : D) : mkRes Try.prog 27 x = dat 27 x := by kernel_rfl
theorem u27 : Try.prog.underlying 27 = some (.slice 3) := by kernel_rfl
theorem u24 : Try.prog.underlying 24 = some (.slice 26) := by kernel_rfl

theorem ty27 {n : Nat} {x : D} (h : Ty Try.prog n 27 x) : ∃ es, x = .slice es [] ∧ es.length ≤ maxLen ∧ ∀ y ∈ es, ∃ z, y = litI z ∧ inR z = true := by
  cases n with
  | zero => exact h.elim
  | succ n =>
    unfold Ty at h
    rw [u27] at h
    split at h <;> try (exact h.elim)
    all_goals try (simp_all; done)
    rename_i e es sp heq
    cases heq
    obtain ⟨rfl, hl, hp⟩ := h
    exact ⟨es, rfl, hl, fun y hy => ty3' (hp y hy)⟩

theorem len27 {n : Nat} {x : D} (hx : Ty Try.prog n 27 x) : (elemsD x).length ≤ maxLen := by
  obtain ⟨es, rfl, hl, _⟩ := ty27 hx
  exact hl

theorem wrap_step {i n : Nat} (hn : n ≤ maxLen) (h : i < n) : IntKind.wrap .i64 ((i : Int) + 1) = ((i + 1 : Nat) : Int) := by
  rw [wrap_in]
  · omega
  · rw [inR_iff]; unfold maxLen at hn; omega

theorem getD_lt {l : List D} {i : Nat} (h : i < l.length) : l.getD i .nil = l[i] := by simp [List.getD, h]

/-! ### slices.Index -/
theorem idx_loop {N : Nat} {x0 : D} {x1 : Int} (hl : (elemsD x0).length ≤ maxLen) : ∀ (n i : Nat), i ≤ (elemsD x0).length → (elemsD x0).length - i < n →
    t51_lp2 Try.prog Try.f51 N n x0 x1 (i : Int) = some (dat 3 (.lit (.int .i64 (Lib.idxFrom (((elemsD x0).drop i).map intD) x1 i))))
  | 0, i, _, h => by omega
  | n + 1, i, hi, h => by
    rw [t51_lp2_step]
    by_cases hlt : i < (elemsD x0).length
    · have h1 : decide ((i : Int) < ((elemsD x0).length : Int)) = true := by simpa using hlt
      rw [idx_ok hlt, h1, cond_true, cond_true, List.drop_eq_getElem_cons hlt, List.map_cons, Int.toNat_natCast, getD_lt hlt, Lib.idxFrom]
      rw [wrap_step hl hlt, idx_loop hl n (i + 1) (by omega) (by omega)]
      by_cases he : intD (elemsD x0)[i] = x1
      · have : (x1 == intD (elemsD x0)[i]) = true := by simp [he]
        rw [this, cond_true, if_pos he]
      · have : (x1 == intD (elemsD x0)[i]) = false := by
          rw [beq_eq_false_iff_ne]; exact fun hh => he hh.symm
        rw [this, cond_false, if_neg he]
    · have h1 : decide ((i : Int) < ((elemsD x0).length : Int)) = false := by simpa using hlt
      have h2 : (elemsD x0).drop i = [] := List.drop_of_length_le (by omega)
      rw [h1, h2, cond_false]
      rfl

def e51 : FuncId × TypeId × (List AV → Bool) × (List AV → Option D) := (51, 3, yes, ent [27, 3] (f2 fun x y => some (.lit (.int .i64 (Lib.idxOf ((elemsD x).map intD) (intD y))))))
theorem k51 : FnOK Try.prog 51 Try.f51 := ⟨Try.func51, rfl, by kernel_rfl⟩
theorem c51 : ∀ args d, e51.2.2.2 args = some d → CallOK Try.prog 51 args (mkRes Try.prog 3 d) :=
  ent2 k51 fun x y d h ⟨_, hx⟩ _ => by
    cases h
    rw [n27, n3]
    refine fn_ok hm env7 k51 ((t51 ((elemsD x).length + 1) x (intD y)).trans ?_)
    rw [m3]
    have := idx_loop (N := (elemsD x).length + 1) (x1 := intD y) (len27 hx) ((elemsD x).length + 1) 0 (Nat.zero_le _) (by omega)
    simpa [Lib.idxOf, intD] using this

/-! ### roadbookref02.Ints -/
theorem ints_loop {N : Nat} {x0 x1 : D} (hl : (elemsD x0).length ≤ maxLen) (hs : (elemsD x0).length = (elemsD x1).length) : ∀ (n i : Nat), i ≤ (elemsD x0).length → (elemsD x0).length - i < n →
    t16_lp4 Try.prog Try.f16 N n x0 x1 (i : Int) = some (dat 4 (.lit (.bool (intsB ((elemsD x0).drop i) ((elemsD x1).drop i)))))
  | 0, i, _, h => by omega
  | n + 1, i, hi, h => by
    rw [t16_lp4_step]
    by_cases hlt : i < (elemsD x0).length
    · have hlt1 : i < (elemsD x1).length := by omega
      have h1 : decide ((i : Int) < ((elemsD x0).length : Int)) = true := by simpa using hlt
      rw [idx_ok hlt, idx_ok hlt1, h1, cond_true, cond_true, cond_true, List.drop_eq_getElem_cons hlt, List.drop_eq_getElem_cons hlt1, Int.toNat_natCast, getD_lt hlt, getD_lt hlt1]
      rw [wrap_step hl hlt, ints_loop hl hs n (i + 1) (by omega) (by omega)]
      unfold intsB
      simp only [List.map_cons]
      by_cases he : intD (elemsD x0)[i] = intD (elemsD x1)[i]
      · have : (intD (elemsD x0)[i] != intD (elemsD x1)[i]) = false := by simp [he]
        rw [this, cond_false]
        simp [he]
      · have : (intD (elemsD x0)[i] != intD (elemsD x1)[i]) = true := by simp [he]
        rw [this, cond_true]
        have : (intD (elemsD x0)[i] :: ((elemsD x0).drop (i + 1)).map intD == intD (elemsD x1)[i] :: ((elemsD x1).drop (i + 1)).map intD) = false := by
          rw [beq_eq_false_iff_ne]
          intro hh
          injection hh with hh _
          exact he hh
        rw [this]
    · have h1 : decide ((i : Int) < ((elemsD x0).length : Int)) = false := by simpa using hlt
      have h2 : (elemsD x0).drop i = [] := List.drop_of_length_le (by omega)
      have h3 : (elemsD x1).drop i = [] := List.drop_of_length_le (by omega)
      rw [h1, h2, h3, cond_false]
      rfl

def e16 : FuncId × TypeId × (List AV → Bool) × (List AV → Option D) := (16, 4, yes, ent [27, 27] (f2 fun x y => some (.lit (.bool (intsB (elemsD x) (elemsD y))))))
theorem k16 : FnOK Try.prog 16 Try.f16 := ⟨Try.func16, rfl, by kernel_rfl⟩
theorem c16 : ∀ args d, e16.2.2.2 args = some d → CallOK Try.prog 16 args (mkRes Try.prog 4 d) :=
  ent2 k16 fun x y d h ⟨_, hx⟩ _ => by
    cases h
    rw [n27, n27]
    refine fn_ok hm env7 k16 ((t16 ((elemsD x).length + 1) x y).trans ?_)
    rw [m4]
    by_cases hs : (elemsD x).length = (elemsD y).length
    · have : (((elemsD x).length : Int) != ((elemsD y).length : Int)) = false := by simp [hs]
      rw [this, cond_false]
      have := ints_loop (N := (elemsD x).length + 1) (len27 hx) hs ((elemsD x).length + 1) 0 (Nat.zero_le _) (by omega)
      simpa [boolD] using this
    · have : (((elemsD x).length : Int) != ((elemsD y).length : Int)) = true := by simp; omega
      rw [this, cond_true]
      have h2 : intsB (elemsD x) (elemsD y) = false := by
        unfold intsB
        rw [beq_eq_false_iff_ne]
        intro hh
        have := congrArg List.length hh
        simp at this
        exact hs this
      rw [h2]
      rfl

/-! ### Forms -/
def fm (k : Nat) (f : FuncId) : D := .agg ((List.range 3).map fun j => .held (if j = k then .func (.func f) #[] #[] else .nilFunc))
def formL : List D := [fm 3 0, fm 3 0, fm 1 52, fm 1 53, fm 1 54, fm 1 55, fm 1 56, fm 1 57, fm 2 58, fm 2 59, fm 0 60]
def formT (n : Int) : D := fieldD (.agg formL) n.toNat
def e39 : FuncId × TypeId × (List AV → Bool) × (List AV → Option D) := (39, 56, fun xs => decide (0 ≤ intD (xs.getD 0 dead).d) && decide (intD (xs.getD 0 dead).d < 11), ent [3] (f1 fun x => some (formT (intD x))))
theorem k39 : FnOK Try.prog 39 Try.f39 := ⟨Try.func39, rfl, by kernel_rfl⟩
theorem c39 : ∀ args d, e39.2.2.1 args = true → e39.2.2.2 args = some d → CallOK Try.prog 39 args (mkRes Try.prog 56 d) := by
  intro args d hp hd
  have key : ∀ args d, ent [3] (f1 fun x => if (decide (0 ≤ intD x) && decide (intD x < 11)) = true then some (formT (intD x)) else none) args = some d → CallOK Try.prog 39 args (mkRes Try.prog 56 d) :=
    ent1 k39 fun x d h _ => by
      split at h
      · rename_i hc
        cases h
        rw [n3]
        refine fn_ok hm env7 k39 ((t39 1 (intD x)).trans ?_)
        rw [hc, m56]
        rfl
      · cases h
  refine key args d ?_
  unfold e39 ent at hd hp
  unfold ent
  simp only at hd hp
  split at hd
  · rename_i hs
    rw [if_pos hs]
    unfold shapeOK at hs
    match args, hs, hp, hd with
    | [x], _, hp, hd =>
      simp only [List.map_cons, List.map_nil, f1] at hd ⊢
      have hp' : (decide (0 ≤ intD x.d) && decide (intD x.d < 11)) = true := hp
      rw [if_pos hp']
      exact hd
    | [], hs, _, _ => simp at hs
    | _ :: _ :: _, hs, _, _ => simp at hs
  · cases hd

def e46 : FuncId × TypeId × (List AV → Bool) × (List AV → Option D) := (46, 4, yes, ent [56, 3] (f2 fun x y => some (.lit (.bool (takesB x (intD y))))))
theorem k46 : FnOK Try.prog 46 Try.f46 := ⟨Try.func46, rfl, by kernel_rfl⟩
theorem c46 : ∀ args d, e46.2.2.2 args = some d → CallOK Try.prog 46 args (mkRes Try.prog 4 d) :=
  ent2 k46 fun x y d h _ _ => by
    cases h
    rw [n56, n3]
    refine fn_ok hm env7 k46 ((t46 1 x (intD y)).trans ?_)
    rw [m4]
    unfold takesB
    cases isNilF (fieldD x 0) <;> cases isNilF (fieldD x 1) <;> cases isNilF (fieldD x 2) <;> rfl

/-! ### What forms come to -/
def isFn (f : FuncId) : D → Bool
  | .held (.func (.func g) _ _) => g == f
  | _ => false
/-- Is it the form of an op? -/
def isForm (k : Nat) (f : FuncId) (x : D) : Bool := (List.range 3).all fun j => if j = k then isFn f (fieldD x j) else isNilF (fieldD x j)
def comeK : List (Int × Nat × FuncId) := [(2, 1, 52), (3, 1, 53), (4, 1, 54), (5, 1, 55), (6, 1, 56), (7, 1, 57), (8, 2, 58), (9, 2, 59), (10, 0, 60)]
def opOf (x : D) : Int := ((comeK.find? fun c => isForm c.2.1 c.2.2 x).map (·.1)).getD 0
def comeD (x l : D) : D := opV (opOf x) (elemsD l)
def comeOK (x l : D) : Bool := comeK.any (fun c => isForm c.2.1 c.2.2 x) && takesB x ((elemsD l).length : Int)
def e40 : FuncId × TypeId × (List AV → Bool) × (List AV → Option D) := (40, 23, fun xs => comeOK (xs.getD 0 dead).d (xs.getD 1 dead).d, ent [56, 28] (f2 fun x y => some (comeD x y)))
theorem k40 : FnOK Try.prog 40 Try.f40 := ⟨Try.func40, rfl, by kernel_rfl⟩

theorem u56 : ∃ f g h : Field, Try.prog.underlying 56 = some (.struct #[f, g, h]) ∧ f.type = 52 ∧ g.type = 53 ∧ h.type = 54 := ⟨_, _, _, Try.underlying56, rfl, rfl, rfl⟩
theorem uf52 : ∃ a b c, Try.prog.underlying 52 = some (.func a b c) := ⟨_, _, _, Try.underlying52⟩
theorem uf53 : ∃ a b c, Try.prog.underlying 53 = some (.func a b c) := ⟨_, _, _, Try.underlying53⟩
theorem uf54 : ∃ a b c, Try.prog.underlying 54 = some (.func a b c) := ⟨_, _, _, Try.underlying54⟩
theorem tyF {n : Nat} {t : TypeId} {x : D} (hu : ∃ a b c, Try.prog.underlying t = some (.func a b c)) (h : Ty Try.prog n t x) : x = .held .nilFunc ∨ ∃ f, x = .held (.func (.func f) #[] #[]) := by
  obtain ⟨a, b, c, hu⟩ := hu
  cases n with
  | zero => exact h.elim
  | succ n =>
    unfold Ty at h
    rw [hu] at h
    split at h <;> try (exact h.elim)
    all_goals simp_all
theorem ty56 {n : Nat} {x : D} (h : Ty Try.prog n 56 x) : ∃ a b c, x = .agg [a, b, c] ∧ (∀ y ∈ [a, b, c], y = .held .nilFunc ∨ ∃ f, y = .held (.func (.func f) #[] #[])) := by
  obtain ⟨f, g, h', hu, hf, hg, hh⟩ := u56
  cases n with
  | zero => exact h.elim
  | succ n =>
    unfold Ty at h
    rw [hu] at h
    split at h <;> try (exact h.elim)
    all_goals try (simp_all; done)
    rename_i fs ps heq
    cases heq
    obtain ⟨hlen, hp⟩ := h
    match ps, hlen with
    | [a, b, c], _ =>
      have h0 := hp 0 f rfl
      have h1 := hp 1 g rfl
      have h2 := hp 2 h' rfl
      rw [hf] at h0
      rw [hg] at h1
      rw [hh] at h2
      refine ⟨a, b, c, rfl, fun y hy => ?_⟩
      simp only [List.mem_cons, List.not_mem_nil, or_false] at hy
      rcases hy with rfl | rfl | rfl
      · exact tyF uf52 h0
      · exact tyF uf53 h1
      · exact tyF uf54 h2

theorem isForm_eq {n : Nat} {x : D} (h : Ty Try.prog n 56 x) {k : Nat} {f : FuncId} (hk : k < 3) (hf : isForm k f x = true) : x = fm k f := by
  obtain ⟨a, b, c, rfl, hall⟩ := ty56 h
  have ha := hall a (by simp)
  have hb := hall b (by simp)
  have hc := hall c (by simp)
  unfold isForm at hf
  rw [List.all_eq_true] at hf
  have h0 := hf 0 (by simp)
  have h1 := hf 1 (by simp)
  have h2 := hf 2 (by simp)
  have key : ∀ (j : Nat) (y : D), (y = .held .nilFunc ∨ ∃ f, y = .held (.func (.func f) #[] #[])) → (if j = k then isFn f y else isNilF y) = true → y = .held (if j = k then .func (.func f) #[] #[] else .nilFunc) := by
    intro j y hy hh
    by_cases hj : j = k
    · rw [if_pos hj] at hh ⊢
      rcases hy with rfl | ⟨g, rfl⟩
      · simp [isFn] at hh
      · simp only [isFn, beq_iff_eq] at hh
        rw [hh]
    · rw [if_neg hj] at hh ⊢
      rcases hy with rfl | ⟨g, rfl⟩
      · rfl
      · simp [isNilF] at hh
  have e0 := key 0 a ha h0
  have e1 := key 1 b hb h1
  have e2 := key 2 c hc h2
  rw [e0, e1, e2]
  rfl

theorem find_form (k : Nat) (f : FuncId) (op : Int) (h : ((comeK.find? fun c => isForm c.2.1 c.2.2 (fm k f)).map (·.1)).getD 0 = op) : opOf (fm k f) = op := h

theorem c40 : ∀ args d, e40.2.2.1 args = true → e40.2.2.2 args = some d → CallOK Try.prog 40 args (mkRes Try.prog 23 d) := by
  intro args d hp hd
  have key : ∀ args d, ent [56, 28] (f2 fun x y => if comeOK x y = true then some (comeD x y) else none) args = some d → CallOK Try.prog 40 args (mkRes Try.prog 23 d) :=
    ent2 k40 fun x y d h ⟨_, hx⟩ _ => by
      split at h
      · rename_i hc
        cases h
        rw [n56, n28, m23]
        unfold comeOK at hc
        rw [Bool.and_eq_true, List.any_eq_true] at hc
        obtain ⟨⟨c, hcm, hform⟩, htake⟩ := hc
        have two : ∀ (l : List D), (((l.length : Int)) == 2) = true → ∀ (r : AV), (bif (decide (0 ≤ (0 : Int)) && decide ((0 : Int) < (l.length : Int))) then bif (decide (0 ≤ (1 : Int)) && decide ((1 : Int) < (l.length : Int))) then some r else none else none) = some r := by
          intro l hl r
          rw [beq_iff_eq] at hl
          rw [hl]
          rfl
        have fin : ∀ r, evFn Try.prog (envH T7 []) (fun _ => none) 1 Try.f40 [dat 56 x, dat 28 y] = some r → r = mkRes Try.prog 23 (comeD x y) → CallOK Try.prog 40 [dat 56 x, dat 28 y] (dat 23 (comeD x y)) := by
          intro r h1 h2
          have := fn_ok hm env7 k40 (h1.trans (by rw [h2]))
          rw [m23] at this
          exact this
        simp only [comeK, List.mem_cons, List.not_mem_nil, or_false] at hcm
        rcases hcm with rfl | rfl | rfl | rfl | rfl | rfl | rfl | rfl | rfl
        · have hxe := isForm_eq hx (by decide) hform; subst hxe
          exact fin _ ((t40_2 1 y).trans (two _ htake _)) (by rw [m23]; rfl)
        · have hxe := isForm_eq hx (by decide) hform; subst hxe
          exact fin _ ((t40_3 1 y).trans (two _ htake _)) (by rw [m23]; rfl)
        · have hxe := isForm_eq hx (by decide) hform; subst hxe
          exact fin _ ((t40_4 1 y).trans (two _ htake _)) (by rw [m23]; rfl)
        · have hxe := isForm_eq hx (by decide) hform; subst hxe
          exact fin _ ((t40_5 1 y).trans (two _ htake _)) (by rw [m23]; rfl)
        · have hxe := isForm_eq hx (by decide) hform; subst hxe
          exact fin _ ((t40_6 1 y).trans (two _ htake _)) (by rw [m23]; rfl)
        · have hxe := isForm_eq hx (by decide) hform; subst hxe
          exact fin _ ((t40_7 1 y).trans (two _ htake _)) (by rw [m23]; rfl)
        · have hxe := isForm_eq hx (by decide) hform; subst hxe
          exact fin _ (t40_8 1 y) (by rw [m23]; rfl)
        · have hxe := isForm_eq hx (by decide) hform; subst hxe
          exact fin _ (t40_9 1 y) (by rw [m23]; rfl)
        · have hxe := isForm_eq hx (by decide) hform; subst hxe
          refine fin (dat 23 (notD ((elemsD y).getD 0 .nil))) ((t40_10 1 y).trans ?_) (by rw [m23]; rfl)
          have hl : (elemsD y).length = 1 := by
            have : ((elemsD y).length : Int) = 1 := by simpa [takesB, fm, fieldD, partsD, isNilF] using htake
            omega
          rw [hl]
          rfl
      · cases h
  refine key args d ?_
  unfold e40 ent at hd hp
  unfold ent
  simp only at hd hp
  split at hd
  · rename_i hs
    rw [if_pos hs]
    unfold shapeOK at hs
    match args, hs, hp, hd with
    | [x, y], _, hp, hd =>
      simp only [List.map_cons, List.map_nil, f2] at hd ⊢
      have hp' : comeOK x.d y.d = true := hp
      rw [if_pos hp']
      exact hd
    | [], hs, _, _ => simp at hs
    | [_], hs, _, _ => simp at hs
    | _ :: _ :: _ :: _, hs, _, _ => simp at hs
  · cases hd

def U1 : Tab := e51 :: e16 :: e39 :: e46 :: e40 :: T7
theorem envU1 : EnvOK Try.prog (envH U1 []) := envOK_cons (envOK_cons (envOK_cons' (envOK_cons (envOK_cons' env7 c40) c46) c39) c16) c51

/-- An op's form takes as many as it must. -/
theorem takes_form {op : Int} (h0 : 0 ≤ op) (h1 : op < 11) (n : Int) : takesB (formT op) n = takesN op n := by
  have : op = 0 ∨ op = 1 ∨ op = 2 ∨ op = 3 ∨ op = 4 ∨ op = 5 ∨ op = 6 ∨ op = 7 ∨ op = 8 ∨ op = 9 ∨ op = 10 := by omega
  rcases this with rfl | rfl | rfl | rfl | rfl | rfl | rfl | rfl | rfl | rfl | rfl <;> rfl
theorem op_form {op : Int} (h0 : 2 ≤ op) (h1 : op < 11) : opOf (formT op) = op ∧ comeK.any (fun c => isForm c.2.1 c.2.2 (formT op)) = true := by
  have : op = 2 ∨ op = 3 ∨ op = 4 ∨ op = 5 ∨ op = 6 ∨ op = 7 ∨ op = 8 ∨ op = 9 ∨ op = 10 := by omega
  rcases this with rfl | rfl | rfl | rfl | rfl | rfl | rfl | rfl | rfl <;> exact ⟨rfl, rfl⟩

end Go.Proofs.Ytochjfimogijjaa
