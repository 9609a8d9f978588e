/- Trees of functions, and lemmas. Nothing here is trusted. -/
import Derived.Test.YtanjicjomcocmaaDoorZ19
import Derived.Test.YtanjicjomcocmaaDoorZ23
namespace Go.Proofs.YtanjicjomcocmaaDoor
section
namespace X
open Go.Ev
set_option linter.unusedVariables false
/- slices.Index[[]int,int] -/
def t53_h : Hints := fun i => if i = 2 then some ([2, 3, 4, 5, 6, 9, 10, 11, 12, 13, 14, 15, 16, 17, 18], [], []) else none
def t53_lp2 (P : Program) (fn : Func) (N n : Nat) (x0 : D) (x1 : Int) (v8 : Int) : Option AV := evLoop (preL t53_h (sub [1, 0, 1, 0, 0] (bodyOf fn))) (evCode P (envH T7 []) t53_h N (sub [1, 0, 1, 0, 0] (bodyOf fn))) n ⟨[dat 22 x0, dat 3 (.lit (.int .i64 x1)), dead, dead, dead, dead, dead, dat 3 (.lit (.int .i64 ((elemsD x0).length : Int))), dat 3 (.lit (.int .i64 v8)), dead, dead, dead, dead, dead, dead, dead, dead, dead, dead], lookB []⟩ (blockK 0 (seqC P (envH T7 []) t53_h N (sub [1, 1] (bodyOf fn)) (finK P fn) ))
theorem t53_lp2_step  (N n : Nat) (x0 : D) (x1 : Int) (v8 : Int) : t53_lp2 Tryd.prog Tryd.f53 N (n + 1) x0 x1 v8 =
 bif decide (v8 < ((elemsD x0).length : Int)) then
  bif (decide (0 <= v8) && decide (v8 < ((elemsD x0).length : Int))) then
   bif (x1 == (intD ((elemsD x0).getD (v8).toNat .nil))) then
    some (dat 3 (.lit (.int .i64 v8)))
   else t53_lp2 Tryd.prog Tryd.f53 N n x0 x1 (IntKind.wrap .i64 (v8 + 1))
  else none
 else some (dat 3 (.lit (.int .i64 (-1)))) := by kernel_rfl
theorem t53 (N : Nat) (x0 : D) (x1 : Int) : evFn Tryd.prog (envH T7 []) t53_h N Tryd.f53 [dat 22 x0, dat 3 (.lit (.int .i64 x1))] =
 t53_lp2 Tryd.prog Tryd.f53 N N x0 x1 0 := by kernel_rfl

/- roadbook/expr.formOf -/
def t57_h : Hints := fun _ =>  none
theorem t57 (N : Nat) (x0 : Int) : evFn Tryd.prog (envH T7 []) t57_h N Tryd.f57 [dat 3 (.lit (.int .i64 x0))] =
 bif (decide (0 <= x0) && decide (x0 < (11 : Int))) then
  some (dat 87 (fieldD (.agg [.agg [.held .nilFunc, .held .nilFunc, .held .nilFunc], .agg [.held .nilFunc, .held .nilFunc, .held .nilFunc], .agg [.held .nilFunc, .held (.func (.func 71) #[] #[]), .held .nilFunc], .agg [.held .nilFunc, .held (.func (.func 72) #[] #[]), .held .nilFunc], .agg [.held .nilFunc, .held (.func (.func 73) #[] #[]), .held .nilFunc], .agg [.held .nilFunc, .held (.func (.func 74) #[] #[]), .held .nilFunc], .agg [.held .nilFunc, .held (.func (.func 75) #[] #[]), .held .nilFunc], .agg [.held .nilFunc, .held (.func (.func 76) #[] #[]), .held .nilFunc], .agg [.held .nilFunc, .held .nilFunc, .held (.func (.func 77) #[] #[])], .agg [.held .nilFunc, .held .nilFunc, .held (.func (.func 78) #[] #[])], .agg [.held (.func (.func 79) #[] #[]), .held .nilFunc, .held .nilFunc]]) (x0).toNat))
 else none := by kernel_rfl

/- (roadbook/expr.form).takes -/
def t58_h : Hints := fun _ =>  none
theorem t58 (N : Nat) (x0 : D) (x1 : Int) : evFn Tryd.prog (envH T7 []) t58_h N Tryd.f58 [dat 87 x0, dat 3 (.lit (.int .i64 x1))] =
 bif (!(isNilF (fieldD x0 0))) then
  some (dat 4 (.lit (.bool (x1 == 1))))
 else bif (!(isNilF (fieldD x0 1))) then
   some (dat 4 (.lit (.bool (x1 == 2))))
  else bif (!(isNilF (fieldD x0 2))) then
    some (dat 4 (.lit (.bool (decide (x1 <= 4)))))
   else some (dat 4 (.lit (.bool (x1 == 0)))) := by kernel_rfl

end X
end
section
namespace X
open Go.Ev
set_option linter.unusedVariables false
set_option linter.unusedSimpArgs false

theorem n27 (x : D) : normD Tryd.prog 22 x = x := by kernel_rfl
theorem n26 (x : D) : normD Tryd.prog 40 x = x := by kernel_rfl
theorem n56 (x : D) : normD Tryd.prog 87 x = x := by kernel_rfl
theorem m56 (x : D) : mkRes Tryd.prog 87 x = dat 87 x := by kernel_rfl
theorem m27 (x : D) : mkRes Tryd.prog 22 x = dat 22 x := by kernel_rfl
theorem u27 : Tryd.prog.underlying 22 = some (.slice 3) := by kernel_rfl
theorem u24 : Tryd.prog.underlying 29 = some (.slice 40) := by kernel_rfl

theorem ty27 {n : Nat} {x : D} (h : Ty Tryd.prog n 22 x) : ∃ es, x = .slice es [] /\ es.length <= maxLen /\ ∀ y ∈ es, ∃ z, y = litI z /\ inR z = true := by
 cases n with
 | zero => exact h.elim
 | succ n =>
  unfold Ty at h
  rw [u27] at h
  split at h <;> try (exact h.elim)
  all_goals try (simp_all; done)
  rename_i e es sp heq
  cases heq
  obtain ⟨rfl, hl, hp⟩ := h
  exact ⟨es, rfl, hl, fun y hy => ty3' (hp y hy)⟩

theorem len27 {n : Nat} {x : D} (hx : Ty Tryd.prog n 22 x) : (elemsD x).length <= maxLen := by
 obtain ⟨es, rfl, hl, _⟩ := ty27 hx
 exact hl

theorem wrap_step {i n : Nat} (hn : n <= maxLen) (h : i < n) : IntKind.wrap .i64 ((i : Int) + 1) = ((i + 1 : Nat) : Int) := by
 rw [wrap_in]
 ·omega
 ·rw [inR_iff]; unfold maxLen at hn; omega

theorem getD_lt {l : List D} {i : Nat} (h : i < l.length) : l.getD i .nil = l[i] := by simp [List.getD, h]

/-! ### slices.Index -/
theorem idx_loop {N : Nat} {x0 : D} {x1 : Int} (hl : (elemsD x0).length <= maxLen) : ∀ (n i : Nat), i <= (elemsD x0).length -> (elemsD x0).length - i < n ->
  t53_lp2 Tryd.prog Tryd.f53 N n x0 x1 (i : Int) = some (dat 3 (.lit (.int .i64 (Lib.idxFrom (((elemsD x0).drop i).map intD) x1 i))))
 | 0, i, _, h => by omega
 | n + 1, i, hi, h => by
  rw [t53_lp2_step]
  by_cases hlt : i < (elemsD x0).length
  ·have h1 : decide ((i : Int) < ((elemsD x0).length : Int)) = true := by simpa using hlt
   rw [idx_ok hlt, h1, cond_true, cond_true, List.drop_eq_getElem_cons hlt, List.map_cons, Int.toNat_natCast, getD_lt hlt, Lib.idxFrom]
   rw [wrap_step hl hlt, idx_loop hl n (i + 1) (by omega) (by omega)]
   by_cases he : intD (elemsD x0)[i] = x1
   ·have : (x1 == intD (elemsD x0)[i]) = true := by simp [he]
    rw [this, cond_true, if_pos he]
   ·have : (x1 == intD (elemsD x0)[i]) = false := by
     rw [beq_eq_false_iff_ne]; exact fun hh => he hh.symm
    rw [this, cond_false, if_neg he]
  ·have h1 : decide ((i : Int) < ((elemsD x0).length : Int)) = false := by simpa using hlt
   have h2 : (elemsD x0).drop i = [] := List.drop_of_length_le (by omega)
   rw [h1, h2, cond_false]
   rfl

def e53 : FuncId × TypeId × (List AV -> Bool) × (List AV -> Option D) := (53, 3, yes, ent [22, 3] (f2 fun x y => some (.lit (.int .i64 (Lib.idxOf ((elemsD x).map intD) (intD y))))))
theorem k53 : FnOK Tryd.prog 53 Tryd.f53 := ⟨Tryd.func53, rfl, by kernel_rfl⟩
theorem c53 : ∀ args d, e53.2.2.2 args = some d -> CallOK Tryd.prog 53 args (mkRes Tryd.prog 3 d) :=
 ent2 k53 fun x y d h ⟨_, hx⟩ _ => by
  cases h
  rw [n27, n3]
  refine fn_ok hm env7 k53 ((t53 ((elemsD x).length + 1) x (intD y)).trans ?_)
  rw [m3]
  have := idx_loop (N := (elemsD x).length + 1) (x1 := intD y) (len27 hx) ((elemsD x).length + 1) 0 (Nat.zero_le _) (by omega)
  simpa [Lib.idxOf, intD] using this

/-! ### roadbookref02.Ints -/
/-! ### Forms -/
def fm (k : Nat) (f : FuncId) : D := .agg ((List.range 3).map fun j => .held (if j = k then .func (.func f) #[] #[] else .nilFunc))
def formL : List D := [fm 3 0, fm 3 0, fm 1 71, fm 1 72, fm 1 73, fm 1 74, fm 1 75, fm 1 76, fm 2 77, fm 2 78, fm 0 79]
def formT (n : Int) : D := fieldD (.agg formL) n.toNat
def e57 : FuncId × TypeId × (List AV -> Bool) × (List AV -> Option D) := (57, 87, fun xs => decide (0 <= intD (xs.getD 0 dead).d) && decide (intD (xs.getD 0 dead).d < 11), ent [3] (f1 fun x => some (formT (intD x))))
theorem k57 : FnOK Tryd.prog 57 Tryd.f57 := ⟨Tryd.func57, rfl, by kernel_rfl⟩
theorem c57 : ∀ args d, e57.2.2.1 args = true -> e57.2.2.2 args = some d -> CallOK Tryd.prog 57 args (mkRes Tryd.prog 87 d) := by
 intro args d hp hd
 have key : ∀ args d, ent [3] (f1 fun x => if (decide (0 <= intD x) && decide (intD x < 11)) = true then some (formT (intD x)) else none) args = some d -> CallOK Tryd.prog 57 args (mkRes Tryd.prog 87 d) :=
  ent1 k57 fun x d h _ => by
   split at h
   ·rename_i hc
    cases h
    rw [n3]
    refine fn_ok hm env7 k57 ((t57 1 (intD x)).trans ?_)
    rw [hc, m56]
    rfl
   ·cases h
 refine key args d ?_
 unfold e57 ent at hd hp
 unfold ent
 simp only at hd hp
 split at hd
 ·rename_i hs
  rw [if_pos hs]
  unfold shapeOK at hs
  match args, hs, hp, hd with
  | [x], _, hp, hd =>
   simp only [List.map_cons, List.map_nil, f1] at hd ⊢
   have hp' : (decide (0 <= intD x.d) && decide (intD x.d < 11)) = true := hp
   rw [if_pos hp']
   exact hd
  | [], hs, _, _ => simp at hs
  | _ :: _ :: _, hs, _, _ => simp at hs
 ·cases hd

def e58 : FuncId × TypeId × (List AV -> Bool) × (List AV -> Option D) := (58, 4, yes, ent [87, 3] (f2 fun x y => some (.lit (.bool (takesB x (intD y))))))
theorem k58 : FnOK Tryd.prog 58 Tryd.f58 := ⟨Tryd.func58, rfl, by kernel_rfl⟩
theorem c58 : ∀ args d, e58.2.2.2 args = some d -> CallOK Tryd.prog 58 args (mkRes Tryd.prog 4 d) :=
 ent2 k58 fun x y d h _ _ => by
  cases h
  rw [n56, n3]
  refine fn_ok hm env7 k58 ((t58 1 x (intD y)).trans ?_)
  rw [m4]
  unfold takesB
  cases isNilF (fieldD x 0) <;> cases isNilF (fieldD x 1) <;> cases isNilF (fieldD x 2) <;> rfl

/-! ### What forms come to -/
def isFn (f : FuncId) : D -> Bool
 | .held (.func (.func g) _ _) => g == f
 | _ => false
/-- Is it the form of an op? -/
def isForm (k : Nat) (f : FuncId) (x : D) : Bool := (List.range 3).all fun j => if j = k then isFn f (fieldD x j) else isNilF (fieldD x j)
def comeK : List (Int × Nat × FuncId) := [(2, 1, 71), (3, 1, 72), (4, 1, 73), (5, 1, 74), (6, 1, 75), (7, 1, 76), (8, 2, 77), (9, 2, 78), (10, 0, 79)]
def opOf (x : D) : Int := ((comeK.find? fun c => isForm c.2.1 c.2.2 x).map (·.1)).getD 0
def comeD (x l : D) : D := opV (opOf x) (elemsD l)
def comeOK (x l : D) : Bool := comeK.any (fun c => isForm c.2.1 c.2.2 x) && takesB x ((elemsD l).length : Int)
theorem u56 : ∃ f g h : Field, Tryd.prog.underlying 87 = some (.struct #[f, g, h]) /\ f.type = 83 /\ g.type = 84 /\ h.type = 85 := ⟨_, _, _, Tryd.underlying87, rfl, rfl, rfl⟩
theorem uf52 : ∃ a b c, Tryd.prog.underlying 83 = some (.func a b c) := ⟨_, _, _, Tryd.underlying83⟩
theorem uf53 : ∃ a b c, Tryd.prog.underlying 84 = some (.func a b c) := ⟨_, _, _, Tryd.underlying84⟩
theorem uf54 : ∃ a b c, Tryd.prog.underlying 85 = some (.func a b c) := ⟨_, _, _, Tryd.underlying85⟩
theorem tyF {n : Nat} {t : TypeId} {x : D} (hu : ∃ a b c, Tryd.prog.underlying t = some (.func a b c)) (h : Ty Tryd.prog n t x) : x = .held .nilFunc \/ (∃ f, x = .held (.func (.func f) #[] #[])) \/ (∃ f t0 y, x = bndD f t0 y) \/ ∃ l, x = .held (.func (.yield l) #[] #[]) := by
 obtain ⟨a, b, c, hu⟩ := hu
 cases n with
 | zero => exact h.elim
 | succ n =>
  unfold Ty at h
  rw [hu] at h
  split at h <;> try (exact h.elim)
  all_goals first
   | (simp_all; done)
   | (rcases h with rfl | ⟨f, rfl⟩ | ⟨l, rfl⟩
      ·exact .inl rfl
      ·exact .inr (.inl ⟨f, rfl⟩)
      ·exact .inr (.inr (.inr ⟨l, rfl⟩)))
   | (obtain ⟨f, t0, y, e1, _⟩ := h; subst e1; exact .inr (.inr (.inl ⟨f, t0, y, rfl⟩)))
theorem ty56 {n : Nat} {x : D} (h : Ty Tryd.prog n 87 x) : ∃ a b c, x = .agg [a, b, c] /\ (∀ y ∈ [a, b, c], y = .held .nilFunc \/ (∃ f, y = .held (.func (.func f) #[] #[])) \/ (∃ f t0 z, y = bndD f t0 z) \/ ∃ l, y = .held (.func (.yield l) #[] #[])) := by
 obtain ⟨f, g, h', hu, hf, hg, hh⟩ := u56
 cases n with
 | zero => exact h.elim
 | succ n =>
  unfold Ty at h
  rw [hu] at h
  split at h <;> try (exact h.elim)
  all_goals try (simp_all; done)
  rename_i fs ps heq
  cases heq
  obtain ⟨hlen, hp⟩ := h
  match ps, hlen with
  | [a, b, c], _ =>
   have h0 := hp 0 f rfl
   have h1 := hp 1 g rfl
   have h2 := hp 2 h' rfl
   rw [hf] at h0
   rw [hg] at h1
   rw [hh] at h2
   refine ⟨a, b, c, rfl, fun y hy => ?_⟩
   simp only [List.mem_cons, List.not_mem_nil, or_false] at hy
   rcases hy with rfl | rfl | rfl
   ·exact tyF uf52 h0
   ·exact tyF uf53 h1
   ·exact tyF uf54 h2

theorem isForm_eq {n : Nat} {x : D} (h : Ty Tryd.prog n 87 x) {k : Nat} {f : FuncId} (hk : k < 3) (hf : isForm k f x = true) : x = fm k f := by
 obtain ⟨a, b, c, rfl, hall⟩ := ty56 h
 have ha := hall a (by simp)
 have hb := hall b (by simp)
 have hc := hall c (by simp)
 unfold isForm at hf
 rw [List.all_eq_true] at hf
 have h0 := hf 0 (by simp)
 have h1 := hf 1 (by simp)
 have h2 := hf 2 (by simp)
 have key : ∀ (j : Nat) (y : D), (y = .held .nilFunc \/ (∃ f, y = .held (.func (.func f) #[] #[])) \/ (∃ f t0 z, y = bndD f t0 z) \/ ∃ l, y = .held (.func (.yield l) #[] #[])) -> (if j = k then isFn f y else isNilF y) = true -> y = .held (if j = k then .func (.func f) #[] #[] else .nilFunc) := by
  intro j y hy hh
  by_cases hj : j = k
  ·rw [if_pos hj] at hh ⊢
   rcases hy with rfl | ⟨g, rfl⟩ | ⟨g, t0, z, rfl⟩ | ⟨l, rfl⟩
   ·simp [isFn] at hh
   ·simp only [isFn, beq_iff_eq] at hh
    rw [hh]
   ·simp [isFn, bndD] at hh
   ·simp [isFn] at hh
  ·rw [if_neg hj] at hh ⊢
   rcases hy with rfl | ⟨g, rfl⟩ | ⟨g, t0, z, rfl⟩ | ⟨l, rfl⟩
   ·rfl
   ·simp [isNilF] at hh
   ·simp [isNilF, bndD] at hh
   ·simp [isNilF] at hh
 have e0 := key 0 a ha h0
 have e1 := key 1 b hb h1
 have e2 := key 2 c hc h2
 rw [e0, e1, e2]
 rfl

theorem find_form (k : Nat) (f : FuncId) (op : Int) (h : ((comeK.find? fun c => isForm c.2.1 c.2.2 (fm k f)).map (·.1)).getD 0 = op) : opOf (fm k f) = op := h

def U1 : Tab := e53 :: e57 :: e58 :: T7
theorem envU1 : EnvOK Tryd.prog (envH U1 []) := envOK_cons (envOK_cons' (envOK_cons env7 c58) c57) c53

/-- An op's form takes as many as it must. -/
theorem takes_form {op : Int} (h0 : 0 <= op) (h1 : op < 11) (n : Int) : takesB (formT op) n = takesN op n := by
 have : op = 0 \/ op = 1 \/ op = 2 \/ op = 3 \/ op = 4 \/ op = 5 \/ op = 6 \/ op = 7 \/ op = 8 \/ op = 9 \/ op = 10 := by omega
 rcases this with rfl | rfl | rfl | rfl | rfl | rfl | rfl | rfl | rfl | rfl | rfl <;> rfl
theorem op_form {op : Int} (h0 : 2 <= op) (h1 : op < 11) : opOf (formT op) = op /\ comeK.any (fun c => isForm c.2.1 c.2.2 (formT op)) = true := by
 have : op = 2 \/ op = 3 \/ op = 4 \/ op = 5 \/ op = 6 \/ op = 7 \/ op = 8 \/ op = 9 \/ op = 10 := by omega
 rcases this with rfl | rfl | rfl | rfl | rfl | rfl | rfl | rfl | rfl <;> exact ⟨rfl, rfl⟩

end X
end
section
namespace X
open Go.Ev
set_option linter.unusedVariables false
/- roadbook/expr.fits -/
def t48_h : Hints := fun _ =>  none
theorem t48 (N : Nat) (x0 : D) : evFn Tryd.prog (envH U1 []) t48_h N Tryd.f48 [dat 40 x0] =
 bif ((decide ((intD (fieldD x0 0)) < 0)) == false) then
  bif ((decide ((intD (fieldD x0 0)) >= 11)) == false) then
   bif ((decide ((intD (fieldD x0 1)) < 0)) == false) then
    bif ((decide ((intD (fieldD x0 1)) > 15)) == false) then
     bif (!(mayB (fieldD x0 2))) then
      some (dat 4 (.lit (.bool false)))
     else bif (((intD (fieldD x0 1)) != 0) == true) then
       bif (((intD (fieldD x0 0)) != 1) == false) then
        bif ((!(((intD (fieldD (fieldD x0 2) 0)) == 0) && (((intD (fieldD (fieldD x0 2) 1)) == 0) && true))) == true) then
         bif ((intD (fieldD x0 0)) != 0) then
          some (dat 4 (.lit (.bool false)))
         else bif (decide (0 <= (intD (fieldD x0 0))) && decide ((intD (fieldD x0 0)) < 11)) then
           some (dat 4 (.lit (.bool (takesB (formT (intD (fieldD x0 0))) ((elemsD (fieldD x0 3)).length : Int)))))
          else none
        else bif (decide (0 <= (intD (fieldD x0 0))) && decide ((intD (fieldD x0 0)) < 11)) then
          some (dat 4 (.lit (.bool (takesB (formT (intD (fieldD x0 0))) ((elemsD (fieldD x0 3)).length : Int)))))
         else none
       else some (dat 4 (.lit (.bool false)))
      else bif ((!(((intD (fieldD (fieldD x0 2) 0)) == 0) && (((intD (fieldD (fieldD x0 2) 1)) == 0) && true))) == true) then
        bif ((intD (fieldD x0 0)) != 0) then
         some (dat 4 (.lit (.bool false)))
        else bif (decide (0 <= (intD (fieldD x0 0))) && decide ((intD (fieldD x0 0)) < 11)) then
          some (dat 4 (.lit (.bool (takesB (formT (intD (fieldD x0 0))) ((elemsD (fieldD x0 3)).length : Int)))))
         else none
       else bif (decide (0 <= (intD (fieldD x0 0))) && decide ((intD (fieldD x0 0)) < 11)) then
         some (dat 4 (.lit (.bool (takesB (formT (intD (fieldD x0 0))) ((elemsD (fieldD x0 3)).length : Int)))))
        else none
    else some (dat 4 (.lit (.bool false)))
   else some (dat 4 (.lit (.bool false)))
  else some (dat 4 (.lit (.bool false)))
 else some (dat 4 (.lit (.bool false))) := by kernel_rfl

end X
end
section
namespace X
open Go.Ev
set_option linter.unusedVariables false
set_option linter.unusedSimpArgs false

theorem u26 : ∃ f g h k : Field, Tryd.prog.underlying 40 = some (.struct #[f, g, h, k]) /\ f.type = 3 /\ g.type = 3 /\ h.type = 38 /\ k.type = 29 := ⟨_, _, _, _, Tryd.underlying40, rfl, rfl, rfl, rfl⟩
theorem ty26 {n : Nat} {x : D} (h : Ty Tryd.prog n 40 x) : ∃ a b c d m, n = m + 1 /\ x = .agg [.lit (.int .i64 a), .lit (.int .i64 b), c, d] /\ inR a = true /\ inR b = true /\ Ty Tryd.prog m 38 c /\ Ty Tryd.prog m 29 d := by
 obtain ⟨f, g, h', k, hu, hf, hg, hh, hk⟩ := u26
 cases n with
 | zero => exact h.elim
 | succ n =>
  unfold Ty at h
  rw [hu] at h
  split at h <;> try (exact h.elim)
  all_goals try (simp_all; done)
  rename_i fs ps heq
  cases heq
  obtain ⟨hlen, hp⟩ := h
  match ps, hlen with
  | [a, b, c, d], _ =>
   have h0 := hp 0 f rfl
   have h1 := hp 1 g rfl
   have h2 := hp 2 h' rfl
   have h3 := hp 3 k rfl
   rw [hf] at h0
   rw [hg] at h1
   rw [hh] at h2
   rw [hk] at h3
   obtain ⟨z, ea, hz⟩ := ty3' h0
   obtain ⟨y, eb, hy⟩ := ty3' h1
   simp at ea eb
   subst ea eb
   exact ⟨z, y, c, d, n, rfl, rfl, hz, hy, h2, h3⟩
theorem ty24 {n : Nat} {x : D} (h : Ty Tryd.prog n 29 x) : ∃ es m, n = m + 1 /\ x = .slice es [] /\ es.length <= maxLen /\ ∀ y ∈ es, Ty Tryd.prog m 40 y := by
 cases n with
 | zero => exact h.elim
 | succ n =>
  unfold Ty at h
  rw [u24] at h
  split at h <;> try (exact h.elim)
  all_goals simp_all
/-- Parts of an expression. -/
theorem ty_kids {n : Nat} {x : D} (h : Ty Tryd.prog n 40 x) : (kids x).length <= maxLen /\ ∀ y ∈ kids x, ∃ m, Ty Tryd.prog m 40 y := by
 obtain ⟨a, b, c, d, m, rfl, rfl, _, _, _, hd⟩ := ty26 h
 obtain ⟨es, k, rfl, rfl, hl, hall⟩ := ty24 hd
 exact ⟨hl, fun y hy => ⟨k, hall y hy⟩⟩
theorem ty_cols {n : Nat} {x : D} (h : Ty Tryd.prog n 40 x) : inR (opI x) = true /\ inR (colI x) = true := by
 obtain ⟨a, b, c, d, m, rfl, rfl, ha, hb, _, _⟩ := ty26 h
 exact ⟨ha, hb⟩
theorem ty_val {n : Nat} {x : D} (h : Ty Tryd.prog n 40 x) : ∃ k m, fieldD x 2 = vv k m /\ inR k = true /\ inR m = true := by
 obtain ⟨a, b, c, d, m, rfl, rfl, ha, hb, hc, _⟩ := ty26 h
 exact ty23 hc

theorem fits_tree (x0 : D) : (bif ((decide ((intD (fieldD x0 0)) < 0)) == false) then
  bif ((decide ((intD (fieldD x0 0)) >= 11)) == false) then
   bif ((decide ((intD (fieldD x0 1)) < 0)) == false) then
    bif ((decide ((intD (fieldD x0 1)) > 15)) == false) then
     bif (!(mayB (fieldD x0 2))) then
      some (dat 4 (.lit (.bool false)))
     else bif (((intD (fieldD x0 1)) != 0) == true) then
       bif (((intD (fieldD x0 0)) != 1) == false) then
        bif ((!(((intD (fieldD (fieldD x0 2) 0)) == 0) && (((intD (fieldD (fieldD x0 2) 1)) == 0) && true))) == true) then
         bif ((intD (fieldD x0 0)) != 0) then
          some (dat 4 (.lit (.bool false)))
         else bif (decide (0 <= (intD (fieldD x0 0))) && decide ((intD (fieldD x0 0)) < 11)) then
           some (dat 4 (.lit (.bool (takesB (formT (intD (fieldD x0 0))) ((elemsD (fieldD x0 3)).length : Int)))))
          else none
        else bif (decide (0 <= (intD (fieldD x0 0))) && decide ((intD (fieldD x0 0)) < 11)) then
          some (dat 4 (.lit (.bool (takesB (formT (intD (fieldD x0 0))) ((elemsD (fieldD x0 3)).length : Int)))))
         else none
       else some (dat 4 (.lit (.bool false)))
      else bif ((!(((intD (fieldD (fieldD x0 2) 0)) == 0) && (((intD (fieldD (fieldD x0 2) 1)) == 0) && true))) == true) then
        bif ((intD (fieldD x0 0)) != 0) then
         some (dat 4 (.lit (.bool false)))
        else bif (decide (0 <= (intD (fieldD x0 0))) && decide ((intD (fieldD x0 0)) < 11)) then
          some (dat 4 (.lit (.bool (takesB (formT (intD (fieldD x0 0))) ((elemsD (fieldD x0 3)).length : Int)))))
         else none
       else bif (decide (0 <= (intD (fieldD x0 0))) && decide ((intD (fieldD x0 0)) < 11)) then
         some (dat 4 (.lit (.bool (takesB (formT (intD (fieldD x0 0))) ((elemsD (fieldD x0 3)).length : Int)))))
        else none
    else some (dat 4 (.lit (.bool false)))
   else some (dat 4 (.lit (.bool false)))
  else some (dat 4 (.lit (.bool false)))
 else some (dat 4 (.lit (.bool false))) : Option AV) = some (dat 4 (.lit (.bool (fitsB x0)))) := by
 unfold fitsB opI colI kids kk nn
 generalize hop : intD (fieldD x0 0) = op
 generalize intD (fieldD x0 1) = col
 generalize (elemsD (fieldD x0 3)).length = len
 generalize mayB (fieldD x0 2) = b5
 generalize (intD (fieldD (fieldD x0 2) 0) == 0) = b6
 generalize (intD (fieldD (fieldD x0 2) 1) == 0) = b7
 have e1 : decide (op < 0) = !decide (0 <= op) := by by_cases h : 0 <= op <;> simp [h] <;> omega
 have e2 : decide (op >= 11) = !decide (op < 11) := by by_cases h : op < 11 <;> simp [h] <;> omega
 have e3 : decide (col < 0) = !decide (0 <= col) := by by_cases h : 0 <= col <;> simp [h] <;> omega
 have e4 : decide (col > 15) = !decide (col <= 15) := by by_cases h : col <= 15 <;> simp [h] <;> omega
 have e5 : (col != 0) = !(col == 0) := rfl
 have e6 : (op != 1) = !(op == 1) := rfl
 have e7 : (op != 0) = !(op == 0) := rfl
 rw [e1, e2, e3, e4, e5, e6, e7]
 by_cases h0 : 0 <= op
 ·by_cases h1 : op < 11
  ·rw [takes_form h0 h1]
   have d1 : decide (0 <= op) = true := by simpa using h0
   have d2 : decide (op < 11) = true := by simpa using h1
   rw [d1, d2]
   generalize takesN op (len : Int) = b8
   generalize decide (0 <= col) = b1
   generalize decide (col <= 15) = b2
   generalize (col == 0) = b3
   generalize (op == 1) = b4
   generalize (op == 0) = b9
   cases b1 <;> cases b2 <;> cases b3 <;> cases b4 <;> cases b5 <;> cases b6 <;> cases b7 <;> cases b8 <;> cases b9 <;> rfl
  ·have d1 : decide (0 <= op) = true := by simpa using h0
   have d2 : decide (op < 11) = false := by simpa using h1
   rw [d1, d2]
   rfl
 ·have d1 : decide (0 <= op) = false := by simpa using h0
  rw [d1]
  rfl

def e48 : FuncId × TypeId × (List AV -> Bool) × (List AV -> Option D) := (48, 4, yes, ent [40] (f1 fun x => some (.lit (.bool (fitsB x)))))
theorem k48 : FnOK Tryd.prog 48 Tryd.f48 := ⟨Tryd.func48, rfl, by kernel_rfl⟩
theorem c48 : ∀ args d, e48.2.2.2 args = some d -> CallOK Tryd.prog 48 args (mkRes Tryd.prog 4 d) :=
 ent1 k48 fun x d h _ => by
  cases h
  rw [n26]
  refine fn_ok hm envU1 k48 ((t48 1 x).trans ?_)
  rw [m4]
  exact fits_tree x

def U2 : Tab := e48 :: U1
theorem envU2 : EnvOK Tryd.prog (envH U2 []) := envOK_cons envU1 c48

end X
end
section
namespace X
open Go.Ev
set_option linter.unusedVariables false
/- roadbook/expr.May$1 -/
def t47_h : Hints := fun _ =>  none
theorem t47 (N : Nat) (x0 : D) (x1 : Int) (q : Int) : evFnH Tryd.prog (envH U2 []) t47_h N Tryd.f47 [dat 40 x0, dat 3 (.lit (.int .i64 x1)), bxp 1000000 3] [⟨3, .lit (.int .i64 q), 0, none⟩] =
 bif ((decide ((IntKind.wrap .i64 (q + 1)) <= 30)) == true) then
  bif ((decide (x1 <= 6)) == true) then
   some (dat 4 (.lit (.bool (fitsB x0))), [some ⟨3, .lit (.int .i64 (IntKind.wrap .i64 (q + 1))), 0, none⟩])
  else some (dat 4 (.lit (.bool false)), [some ⟨3, .lit (.int .i64 (IntKind.wrap .i64 (q + 1))), 0, none⟩])
 else some (dat 4 (.lit (.bool false)), [some ⟨3, .lit (.int .i64 (IntKind.wrap .i64 (q + 1))), 0, none⟩]) := by kernel_rfl

/- roadbook/expr.Cols$1 -/
def t40_h : Hints := fun _ =>  none
theorem t40 (N : Nat) (x0 : D) (x1 : Int) (es : List D) : evFnH Tryd.prog (envH U2 []) t40_h N Tryd.f40 [dat 40 x0, dat 3 (.lit (.int .i64 x1)), bxp 1000000 22] [⟨22, .nil, 0, some (bxp 1000001 22)⟩, ⟨22, .slice es [], 4, none⟩] =
 bif ((intD (fieldD x0 0)) == 1) then
  bif decide ((es).length + 1 <= 2147483648) then
   some (dat 4 (.lit (.bool true)), [some ⟨22, .nil, 0, some (bxp 1000001 22)⟩, some ⟨22, .slice (es ++ [.lit (.int .i64 (intD (fieldD x0 1)))]) [], 1, none⟩])
  else none
 else some (dat 4 (.lit (.bool true)), [some ⟨22, .nil, 0, some (bxp 1000001 22)⟩, some ⟨22, .slice es [], 4, none⟩]) := by kernel_rfl

end X
end
end Go.Proofs.YtanjicjomcocmaaDoor
