/- Loops over lists. Nothing here is trusted. -/
import Derived.Test.YtjofcicaoofijaaVB
namespace Go.Ev
set_option linter.unusedVariables false
set_option linter.unusedSimpArgs false

theorem l_idx {i n : Nat} (h : i < n) : (decide (0 ≤ (i : Int)) && decide ((i : Int) < (n : Int))) = true := by simp [h]
theorem l_lt {i n : Nat} (h : i < n) : decide ((i : Int) < (n : Int)) = true := by simp [h]
theorem l_ge {i n : Nat} (h : ¬ i < n) : decide ((i : Int) < (n : Int)) = false := by simpa using h
theorem l_wrap {i n : Nat} (hn : n ≤ maxLen) (h : i < n) : IntKind.wrap .i64 ((i : Int) + 1) = ((i + 1 : Nat) : Int) := by
  rw [wrap_in]
  · omega
  · rw [inR_iff]; unfold maxLen at hn; omega
theorem l_wrapI {z : Int} (h : inR z = true) : IntKind.wrap .i64 z = z := wrap_in h
theorem l_in {z : Int} (h1 : -4611686018427387904 ≤ z) (h2 : z ≤ 4611686018427387904) : inR z = true := by rw [inR_iff]; omega
theorem l_get {l : List D} {i : Nat} (h : i < l.length) : l.getD i .nil = l[i] := by simp [List.getD, h]
theorem l_nef {a b : Nat} (h : a = b) : ((a : Int) != (b : Int)) = false := by subst h; simp
theorem l_net {a b : Nat} (h : a ≠ b) : ((a : Int) != (b : Int)) = true := by simp; omega
theorem l_eqt {a b : Nat} (h : a = b) : (a == b) = true := by simp [h]
theorem l_eqf {a b : Nat} (h : a ≠ b) : (a == b) = false := by simp [h]
theorem l_nat (i : Nat) : ((i : Int)).toNat = i := Int.toNat_natCast i

/-- A loop that ends at once where p is so. -/
theorem l_loop {ρ : Type} (LP : Nat → Int → Option ρ) (L : Nat) (p : Nat → Bool) (T F : Option ρ)
    (hstep : ∀ (n i : Nat), i < L → LP (n + 1) (i : Int) = bif p i then T else LP n ((i + 1 : Nat) : Int)) (hend : ∀ n, LP (n + 1) (L : Int) = F) :
    ∀ (n i : Nat), i ≤ L → L - i < n → LP n (i : Int) = bif (List.range' i (L - i)).any p then T else F
  | 0, i, _, h => by omega
  | n + 1, i, hi, h => by
    by_cases hlt : i < L
    · rw [hstep n i hlt, l_loop LP L p T F hstep hend n (i + 1) (by omega) (by omega)]
      have : L - i = (L - (i + 1)) + 1 := by omega
      rw [this, List.range'_succ, List.any_cons]
      cases p i <;> rfl
    · have : i = L := by omega
      subst this
      rw [hend]
      simp
theorem l_any (l : List D) (q : D → Bool) : ∀ k, (List.range' k (l.length - k)).any (fun i => q (l.getD i .nil)) = (l.drop k).any q := by
  intro k
  generalize hm : l.length - k = m
  induction m generalizing k with
  | zero =>
    have : l.drop k = [] := List.drop_of_length_le (by omega)
    rw [this]; rfl
  | succ m ih =>
    have hk : k < l.length := by omega
    rw [List.range'_succ, List.any_cons, ih (k + 1) (by omega), List.drop_eq_getElem_cons hk, List.any_cons, l_get hk]
theorem l_any0 (l : List D) (q : D → Bool) : (List.range' 0 l.length).any (fun i => q (l.getD i .nil)) = l.any q := by
  have := l_any l q 0
  simpa using this
/-- Two lists, place by place. -/
theorem l_any2 {β : Type} [BEq β] [LawfulBEq β] (f : D → β) : ∀ (a b : List D), a.length = b.length → (!(List.range' 0 a.length).any fun i => !(f (a.getD i .nil) == f (b.getD i .nil))) = (a.map f == b.map f) := by
  intro a b hl
  rw [Bool.eq_iff_iff, Bool.not_eq_true', ← Bool.not_eq_true, List.any_eq_true, beq_iff_eq]
  constructor
  · intro h
    apply List.ext_getElem
    · simpa using hl
    · intro i h1 h2
      simp only [List.length_map] at h1 h2
      simp only [List.getElem_map]
      have := fun hh => h ⟨i, List.mem_range'_1.2 ⟨Nat.zero_le _, by omega⟩, hh⟩
      rw [l_get h1, l_get h2] at this
      simpa using this
  · rintro h ⟨i, hi, hn⟩
    have hi := (List.mem_range'_1.1 hi).2
    have h1 : i < a.length := by omega
    have h2 : i < b.length := by omega
    rw [l_get h1, l_get h2] at hn
    have := congrArg (fun l => l[i]?) h
    simp only [List.getElem?_map, List.getElem?_eq_getElem h1, List.getElem?_eq_getElem h2, Option.map_some, Option.some.injEq] at this
    simp [this] at hn

theorem l_set {α β : Type} (F : α → β) {ks : List α} {tl : List β} {i : Nat} (h : i < ks.length) (ht : tl.length = ks.length - i) :
    ((ks.take i).map F ++ tl).set i (F ks[i]) = (ks.take (i + 1)).map F ++ tl.drop 1 := by
  cases tl with
  | nil => simp at ht; omega
  | cons b tl =>
    rw [List.set_append_right _ _ (by simp; omega)]
    have : i - ((ks.take i).map F).length = 0 := by simp; omega
    rw [this, List.take_succ_eq_append_getElem h, List.map_append]
    simp

/-! ### Columns that may be -/
def seenD (s : List Int) : D := .agg ((List.range 16).map fun (i : Nat) => .lit (.bool (s.contains (Int.ofNat i))))
theorem seen_nil : seenD [] = .agg [.lit (.bool false), .lit (.bool false), .lit (.bool false), .lit (.bool false), .lit (.bool false), .lit (.bool false), .lit (.bool false), .lit (.bool false), .lit (.bool false), .lit (.bool false), .lit (.bool false), .lit (.bool false), .lit (.bool false), .lit (.bool false), .lit (.bool false), .lit (.bool false)] := rfl
theorem seen_get {s : List Int} {c : Int} (h0 : 0 ≤ c) (h : c < 16) : boolD (fieldD (seenD s) c.toNat) = s.contains c := by
  have : c.toNat < 16 := by omega
  simp only [seenD, fieldD, partsD, List.getD, List.getElem?_map, List.getElem?_range this, Option.map_some, Option.getD_some, boolD]
  congr 1
  show ((c.toNat : Nat) : Int) = c
  omega
theorem seen_set {s : List Int} {c : Int} (h0 : 0 ≤ c) (h : c < 16) : setD (seenD s) c.toNat (.lit (.bool true)) = seenD (c :: s) := by
  have hc : c.toNat < 16 := by omega
  simp only [seenD, setD, partsD]
  congr 1
  apply List.ext_getElem?
  intro j
  rw [List.getElem?_set]
  by_cases hj : j < 16
  · simp only [List.getElem?_map, List.getElem?_range hj, Option.map_some, List.length_map, List.length_range]
    by_cases he : c.toNat = j
    · have : (j : Int) = c := by omega
      simp [he, hj, this]
    · have : ¬ ((j : Int) = c) := by omega
      simp [he, this]
  · have h1 : (List.range 16)[j]? = none := List.getElem?_eq_none (by simp; omega)
    have : ¬ c.toNat = j := by omega
    simp [this, h1]
def colsFrom (s : List Int) : List Int → Bool
  | [] => true
  | c :: l => decide (0 ≤ c) && (decide (c ≤ 15) && (!s.contains c && colsFrom (c :: s) l))
theorem colsFrom_eq : ∀ (l s : List Int), colsFrom s l = (l.all (fun c => decide (0 ≤ c) && decide (c ≤ 15)) && (nodupI l && l.all fun c => !s.contains c))
  | [], s => rfl
  | c :: l, s => by
    rw [colsFrom, colsFrom_eq l (c :: s), nodupI, List.all_cons, List.all_cons]
    have : (l.all fun x => !(c :: s).contains x) = (!l.contains c && l.all fun x => !s.contains x) := by
      rw [Bool.eq_iff_iff]
      simp only [List.all_eq_true, Bool.and_eq_true, Bool.not_eq_true', List.contains_cons, Bool.or_eq_false_iff, beq_eq_false_iff_ne]
      constructor
      · intro h
        refine ⟨?_, fun x hx => (h x hx).2⟩
        rw [← Bool.not_eq_true]
        intro hc
        exact (h c (by simpa using hc)).1 rfl
      · rintro ⟨h1, h2⟩ x hx
        refine ⟨fun he => ?_, h2 x hx⟩
        subst he
        rw [← Bool.not_eq_true] at h1
        exact h1 (by simpa using hx)
    rw [this]
    cases decide (0 ≤ c) <;> cases decide (c ≤ 15) <;> cases s.contains c <;> cases l.contains c <;> cases nodupI l <;> simp
theorem cols_all (l : List Int) : colsFrom [] l = (l.all (fun c => decide (0 ≤ c) && decide (c ≤ 15)) && nodupI l) := by
  rw [colsFrom_eq]
  have : (l.all fun c => !([] : List Int).contains c) = true := by simp
  rw [this, Bool.and_true]

/-! ### Functions that ask something of what they are handed -/
def preD (q : List D → Bool) : List AV → Bool := fun as => q (as.map (·.d))
def q1 (q : D → Bool) : List D → Bool | [x] => q x | _ => false
def q2 (q : D → D → Bool) : List D → Bool | [x, y] => q x y | _ => false
def q3 (q : D → D → D → Bool) : List D → Bool | [x, y, z] => q x y z | _ => false
section
variable {P : Program}
theorem ent_okp {f : FuncId} {t : TypeId} {ts : List TypeId} {q : List D → Bool} {F : List D → Option D} (h : ∀ ds d, ds.length = ts.length → q ds = true → F ds = some d → CallOK P f (List.zipWith dat ts ds) (mkRes P t d)) :
    ∀ args d, preD q args = true → ent ts F args = some d → CallOK P f args (mkRes P t d) := by
  intro args d hp hd
  have key := ent_ok (P := P) (f := f) (t := t) (ts := ts) (F := fun ds => if q ds = true then F ds else none) (fun ds d hl hd => by
    split at hd
    · rename_i hq; exact h ds d hl hq hd
    · cases hd) args d
  refine key ?_
  unfold ent at hd ⊢
  split at hd
  · rename_i hs
    rw [if_pos hs]
    unfold preD at hp
    simp only
    rw [if_pos hp]
    exact hd
  · cases hd
theorem ent1p {f : FuncId} {fn : Func} {t t1 : TypeId} {q : D → Bool} {F : D → Option D} (hf : FnOK P f fn) (h : ∀ x d, q x = true → F x = some d → (∃ n, Ty P n t1 x) → CallOK P f [dat t1 (normD P t1 x)] (mkRes P t d)) :
    ∀ args d, preD (q1 q) args = true → ent [t1] (f1 F) args = some d → CallOK P f args (mkRes P t d) :=
  ent_okp fun ds d hl hq hd => match ds, hl, hq, hd with
    | [x], _, hq, hd => CallOK.typed hf.ex (mk_tag t d) fun hty => (h x d hq hd (hty (dat t1 x) (by simp))).norm
theorem ent2p {f : FuncId} {fn : Func} {t t1 t2 : TypeId} {q : D → D → Bool} {F : D → D → Option D} (hf : FnOK P f fn) (h : ∀ x y d, q x y = true → F x y = some d → (∃ n, Ty P n t1 x) → (∃ n, Ty P n t2 y) → CallOK P f [dat t1 (normD P t1 x), dat t2 (normD P t2 y)] (mkRes P t d)) :
    ∀ args d, preD (q2 q) args = true → ent [t1, t2] (f2 F) args = some d → CallOK P f args (mkRes P t d) :=
  ent_okp fun ds d hl hq hd => match ds, hl, hq, hd with
    | [x, y], _, hq, hd => CallOK.typed hf.ex (mk_tag t d) fun hty => (h x y d hq hd (hty (dat t1 x) (by simp)) (hty (dat t2 y) (by simp))).norm
theorem ent3p {f : FuncId} {fn : Func} {t t1 t2 t3 : TypeId} {q : D → D → D → Bool} {F : D → D → D → Option D} (hf : FnOK P f fn) (h : ∀ x y z d, q x y z = true → F x y z = some d → (∃ n, Ty P n t1 x) → (∃ n, Ty P n t2 y) → (∃ n, Ty P n t3 z) →
      CallOK P f [dat t1 (normD P t1 x), dat t2 (normD P t2 y), dat t3 (normD P t3 z)] (mkRes P t d)) :
    ∀ args d, preD (q3 q) args = true → ent [t1, t2, t3] (f3 F) args = some d → CallOK P f args (mkRes P t d) :=
  ent_okp fun ds d hl hq hd => match ds, hl, hq, hd with
    | [x, y, z], _, hq, hd => CallOK.typed hf.ex (mk_tag t d) fun hty => (h x y z d hq hd (hty (dat t1 x) (by simp)) (hty (dat t2 y) (by simp)) (hty (dat t3 z) (by simp))).norm
end
theorem le_sum (l : List Nat) (x : Nat) (h : x ∈ l) : x ≤ l.sum := by
  induction l with
  | nil => cases h
  | cons y l ih =>
    rw [List.sum_cons]
    rcases List.mem_cons.1 h with rfl | h
    · omega
    · have := ih h; omega

end Go.Ev
