/- What the evaluator comes to, function by function: by the kernel. Nothing here is trusted. -/
import Derived.Test.YtjgnknkbohlopaaWC
import Derived.Test.YtjgnknkbohlopaaWD
import Derived.Test.YtjgnknkbohlopaaV3
namespace Go.Proofs.Ytjgnknkbohlopaa
namespace X
open Go.Ev
set_option linter.unusedVariables false
/- roadbook/expr.Pair -/
def t42_h : Hints := fun _ =>  none
theorem t42 (N : Nat) (x0 : D) : evFn Try.prog (envH U4 []) t42_h N Try.f42 [dat 40 x0] =
  bif ((!(mayE x0)) == false) then
    bif ((intD (fieldD x0 0)) != 6) then
      some (tupA [3, 3, 4] (.agg [.lit (.int .i64 0), .lit (.int .i64 0), .lit (.bool false)]))
    else bif (decide (0 ≤ (0 : Int)) && decide ((0 : Int) < ((elemsD (fieldD x0 3)).length : Int))) then
        bif (decide (0 ≤ (1 : Int)) && decide ((1 : Int) < ((elemsD (fieldD x0 3)).length : Int))) then
          bif (((intD (fieldD ((elemsD (fieldD x0 3)).getD 0 .nil) 0)) != 1) == false) then
            bif (((intD (fieldD ((elemsD (fieldD x0 3)).getD 1 .nil) 0)) != 1) == false) then
              bif ((intD (fieldD ((elemsD (fieldD x0 3)).getD 0 .nil) 1)) == (intD (fieldD ((elemsD (fieldD x0 3)).getD 1 .nil) 1))) then
                some (tupA [3, 3, 4] (.agg [.lit (.int .i64 0), .lit (.int .i64 0), .lit (.bool false)]))
              else some (tupA [3, 3, 4] (.agg [.lit (.int .i64 (intD (fieldD ((elemsD (fieldD x0 3)).getD 0 .nil) 1))), .lit (.int .i64 (intD (fieldD ((elemsD (fieldD x0 3)).getD 1 .nil) 1))), .lit (.bool true)]))
            else some (tupA [3, 3, 4] (.agg [.lit (.int .i64 0), .lit (.int .i64 0), .lit (.bool false)]))
          else some (tupA [3, 3, 4] (.agg [.lit (.int .i64 0), .lit (.int .i64 0), .lit (.bool false)]))
        else none
      else none
  else some (tupA [3, 3, 4] (.agg [.lit (.int .i64 0), .lit (.int .i64 0), .lit (.bool false)])) := by kernel_rfl

end X
end Go.Proofs.Ytjgnknkbohlopaa

namespace Go.Proofs.Ytjgnknkbohlopaa
namespace X
open Go.Ev
set_option linter.unusedVariables false
set_option linter.unusedSimpArgs false

theorem m31 (x : D) : mkRes Try.prog 42 x = tupA [3, 3, 4] x := by kernel_rfl
def e42 : FuncId × TypeId × (List AV → Bool) × (List AV → Option D) := (42, 42, yes, ent [40] (f1 fun x => some (.agg [.lit (.int .i64 (pairA x)), .lit (.int .i64 (pairB x)), .lit (.bool (pairE x))])))
theorem k42 : FnOK Try.prog 42 Try.f42 := ⟨Try.func42, rfl, by kernel_rfl⟩
theorem takes_two {n : Int} (h : takesN 6 n = true) : n = 2 := by
  have : (n == 2) = true := h
  simpa using this
theorem pair_len {x : D} (h : mayE x = true) (h6 : opI x = 6) : (kids x).length = 2 := by
  have hok := mayE_ok h
  rw [okK_succ, Bool.and_eq_true] at hok
  obtain ⟨_, _, _, _, _, ht⟩ := fits_op hok.1
  rw [h6] at ht
  have := takes_two ht
  omega
theorem c42 : ∀ args d, e42.2.2.2 args = some d → CallOK Try.prog 42 args (mkRes Try.prog 42 d) :=
  ent1 k42 fun x d h _ => by
    cases h
    rw [n26]
    refine fn_ok hm envU4 k42 ((t42 1 x).trans ?_)
    rw [m31, show intD (fieldD x 0) = opI x from rfl, show elemsD (fieldD x 3) = kids x from rfl, show intD (fieldD ((kids x).getD 0 .nil) 0) = opI ((kids x).getD 0 .nil) from rfl, show intD (fieldD ((kids x).getD 1 .nil) 0) = opI ((kids x).getD 1 .nil) from rfl,
      show intD (fieldD ((kids x).getD 0 .nil) 1) = colI ((kids x).getD 0 .nil) from rfl, show intD (fieldD ((kids x).getD 1 .nil) 1) = colI ((kids x).getD 1 .nil) from rfl]
    unfold pairA pairB pairE
    cases hmay : mayE x with
    | false => rfl
    | true =>
      cases h6 : (opI x == 6) with
      | false =>
        rw [show (opI x != 6) = !(opI x == 6) from rfl, h6]
        rfl
      | true =>
        have hl := pair_len hmay (by simpa using h6)
        rw [show (opI x != 6) = !(opI x == 6) from rfl, h6, hl]
        generalize colI ((kids x).getD 0 .nil) = a
        generalize colI ((kids x).getD 1 .nil) = b
        rw [show (opI ((kids x).getD 0 .nil) != 1) = !(opI ((kids x).getD 0 .nil) == 1) from rfl, show (opI ((kids x).getD 1 .nil) != 1) = !(opI ((kids x).getD 1 .nil) == 1) from rfl]
        generalize (opI ((kids x).getD 0 .nil) == 1) = u
        generalize (opI ((kids x).getD 1 .nil) == 1) = v
        generalize (a == b) = q
        cases u <;> cases v <;> cases q <;> rfl
def UP : Tab := e42 :: U9
theorem envUP : EnvOK Try.prog (envH UP []) := envOK_cons envU9 c42

end X
end Go.Proofs.Ytjgnknkbohlopaa

namespace Go.Proofs.Ytjgnknkbohlopaa
namespace X
open Go.Ev
set_option linter.unusedVariables false
set_option linter.unusedSimpArgs false

/-! ### Levels -/
theorem ok_shift : ∀ (K : Nat) (e : D), okK K e = true → okK (K + 1) e = true
  | 0, e, h => by cases h
  | K + 1, e, h => by
    rw [okK_succ, Bool.and_eq_true, List.all_eq_true] at h
    rw [okK_succ, Bool.and_eq_true, List.all_eq_true]
    exact ⟨h.1, fun p hp => ok_shift K p (h.2 p hp)⟩
theorem cols_shift : ∀ (K : Nat) (e : D), okK K e = true → colsK (K + 1) e = colsK K e
  | 0, e, h => by cases h
  | K + 1, e, h => by
    rw [okK_succ, Bool.and_eq_true, List.all_eq_true] at h
    rw [colsK_succ, colsK_succ K]
    have : (kids e).flatMap (colsK (K + 1)) = (kids e).flatMap (colsK K) := by
      rw [List.flatMap_def, List.flatMap_def]
      rw [List.map_congr_left fun p hp => cols_shift K p (h.2 p hp)]
    rw [this]

/-! ### What may be, said otherwise -/
def szK : Nat → D → Int
  | 0, _ => 1
  | k + 1, e => 1 + ((kids e).map (szK k)).sum
def okD : Nat → D → Int → Bool
  | 0, _, _ => false
  | k + 1, e, deep => (fitsB e && decide (deep ≤ 6)) && (kids e).all fun p => okD k p (deep + 1)
theorem szK_succ (k : Nat) (e : D) : szK (k + 1) e = 1 + ((kids e).map (szK k)).sum := rfl
theorem okD_succ (k : Nat) (e : D) (deep : Int) : okD (k + 1) e deep = ((fitsB e && decide (deep ≤ 6)) && (kids e).all fun p => okD k p (deep + 1)) := rfl
theorem sum_pos {s : D → Int} (hs : ∀ p, 1 ≤ s p) : ∀ l : List D, 0 ≤ (l.map s).sum
  | [] => by simp
  | p :: l => by
    rw [List.map_cons, List.sum_cons]
    have := hs p
    have := sum_pos hs l
    omega
theorem sum_mem {s : D → Int} (hs : ∀ p, 1 ≤ s p) : ∀ (l : List D) (p : D), p ∈ l → s p ≤ (l.map s).sum
  | q :: l, p, h => by
    rw [List.map_cons, List.sum_cons]
    have h1 := hs q
    have h2 := sum_pos hs l
    rcases List.mem_cons.1 h with rfl | h
    · omega
    · have := sum_mem hs l p h
      omega
theorem szK_pos : ∀ (K : Nat) (e : D), 1 ≤ szK K e
  | 0, e => Int.le_refl 1
  | K + 1, e => by
    rw [szK_succ]
    have := sum_pos (szK_pos K) (kids e)
    omega
theorem goL_iff {g : D → Int → Bool × Int} {s : D → Int} {o : D → Bool} (hs : ∀ p, 1 ≤ s p) (hg : ∀ p m, m ≤ 30 → ((g p m).1 = true ↔ o p = true ∧ m + s p ≤ 30) ∧ ((g p m).1 = true → (g p m).2 = m + s p)) :
    ∀ (l : List D) (m : Int), m ≤ 30 → ((goL g l m).1 = true ↔ l.all o = true ∧ m + (l.map s).sum ≤ 30) ∧ ((goL g l m).1 = true → (goL g l m).2 = m + (l.map s).sum)
  | [], m, h => ⟨⟨fun _ => ⟨rfl, by simpa using h⟩, fun _ => rfl⟩, fun _ => by simp [goL]⟩
  | p :: l, m, h => by
    rw [goL_cons]
    obtain ⟨h1, h2⟩ := hg p m h
    have hpos := sum_pos hs l
    rw [List.all_cons, List.map_cons, List.sum_cons]
    cases hp : (g p m).1 with
    | false =>
      rw [cond_false]
      refine ⟨⟨fun hh => (by cases hh), fun hh => ?_⟩, fun hh => (by cases hh)⟩
      rw [Bool.and_eq_true] at hh
      have := h1.2 ⟨hh.1.1, by omega⟩
      rw [hp] at this
      cases this
    | true =>
      rw [cond_true]
      have hv := h2 hp
      obtain ⟨o1, o2⟩ := h1.1 hp
      obtain ⟨i1, i2⟩ := goL_iff hs hg l (g p m).2 (by omega)
      refine ⟨⟨fun hh => ?_, fun hh => ?_⟩, fun hh => ?_⟩
      · obtain ⟨a, b⟩ := i1.1 hh
        rw [Bool.and_eq_true]
        exact ⟨⟨o1, a⟩, by omega⟩
      · rw [Bool.and_eq_true] at hh
        exact i1.2 ⟨hh.1.2, by omega⟩
      · rw [i2 hh, hv]
        omega
theorem see_iff {e : D} {deep n : Int} : seeMay e deep n = true ↔ n + 1 ≤ 30 ∧ deep ≤ 6 ∧ fitsB e = true := by
  refine ⟨see_true, fun ⟨a, b, c⟩ => ?_⟩
  unfold seeMay
  have d1 : decide (n + 1 ≤ 30) = true := by simpa using a
  have d2 : decide (deep ≤ 6) = true := by simpa using b
  rw [d1, d2, c]
  rfl
theorem mayAll_iff : ∀ (K : Nat) (e : D) (deep n : Int), n ≤ 30 → ((mayAll K e deep n).1 = true ↔ okD K e deep = true ∧ n + szK K e ≤ 30) ∧ ((mayAll K e deep n).1 = true → (mayAll K e deep n).2 = n + szK K e)
  | 0, e, deep, n, h => ⟨⟨fun h => (by cases h), fun h => (by cases h.1)⟩, fun h => (by cases h)⟩
  | K + 1, e, deep, n, h => by
    rw [mayAll_succ, okD_succ, szK_succ]
    have hpos := sum_pos (szK_pos K) (kids e)
    cases hs : seeMay e deep n with
    | false =>
      rw [cond_false]
      refine ⟨⟨fun hh => (by cases hh), fun hh => ?_⟩, fun hh => (by cases hh)⟩
      rw [Bool.and_eq_true, Bool.and_eq_true, decide_eq_true_eq] at hh
      have := see_iff.2 ⟨(by omega : n + 1 ≤ 30), hh.1.1.2, hh.1.1.1⟩
      rw [hs] at this
      cases this
    | true =>
      rw [cond_true]
      obtain ⟨s1, s2, s3⟩ := see_iff.1 hs
      obtain ⟨i1, i2⟩ := goL_iff (o := fun p => okD K p (deep + 1)) (szK_pos K) (fun p m hm => mayAll_iff K p (deep + 1) m hm) (kids e) (n + 1) s1
      refine ⟨⟨fun hh => ?_, fun hh => ?_⟩, fun hh => ?_⟩
      · obtain ⟨a, b⟩ := i1.1 hh
        rw [Bool.and_eq_true, Bool.and_eq_true, decide_eq_true_eq]
        exact ⟨⟨⟨s3, s2⟩, a⟩, by omega⟩
      · rw [Bool.and_eq_true] at hh
        exact i1.2 ⟨hh.1.2, by omega⟩
      · rw [i2 hh]
        omega
theorem mayE_iff {e : D} : mayE e = true ↔ okD 7 e 1 = true ∧ szK 7 e ≤ 30 := by
  have := (mayAll_iff 7 e 1 0 (by omega)).1
  rw [Int.zero_add] at this
  exact this
theorem okD_ok : ∀ (K : Nat) (e : D) (deep : Int), okD K e deep = true → okK K e = true
  | 0, e, deep, h => by cases h
  | K + 1, e, deep, h => by
    rw [okD_succ, Bool.and_eq_true, Bool.and_eq_true, List.all_eq_true] at h
    rw [okK_succ, Bool.and_eq_true, List.all_eq_true]
    exact ⟨h.1.1, fun p hp => okD_ok K p _ (h.2 p hp)⟩
theorem okD_mono : ∀ (K : Nat) (e : D) (deep deep' : Int), okD K e deep = true → deep' ≤ deep → okD (K + 1) e deep' = true
  | 0, e, deep, deep', h, _ => by cases h
  | K + 1, e, deep, deep', h, hd => by
    rw [okD_succ, Bool.and_eq_true, Bool.and_eq_true, List.all_eq_true, decide_eq_true_eq] at h
    rw [okD_succ, Bool.and_eq_true, Bool.and_eq_true, List.all_eq_true, decide_eq_true_eq]
    exact ⟨⟨h.1.1, by omega⟩, fun p hp => okD_mono K p _ _ (h.2 p hp) (by omega)⟩
theorem sz_shift : ∀ (K : Nat) (e : D), okK K e = true → szK (K + 1) e = szK K e
  | 0, e, h => by cases h
  | K + 1, e, h => by
    rw [okK_succ, Bool.and_eq_true, List.all_eq_true] at h
    rw [szK_succ, szK_succ K]
    have : (kids e).map (szK (K + 1)) = (kids e).map (szK K) := List.map_congr_left fun p hp => sz_shift K p (h.2 p hp)
    rw [this]
/-- A part of what may be may be. -/
theorem may_part {e p : D} (h : mayE e = true) (hp : p ∈ kids e) : mayE p = true ∧ okK 6 p = true := by
  obtain ⟨h1, h2⟩ := mayE_iff.1 h
  rw [okD_succ, Bool.and_eq_true, List.all_eq_true] at h1
  have h3 := h1.2 p hp
  have h4 := okD_ok 6 p _ h3
  refine ⟨mayE_iff.2 ⟨okD_mono 6 p _ _ h3 (by omega), ?_⟩, h4⟩
  rw [sz_shift 6 p h4]
  rw [szK_succ] at h2
  have := sum_mem (szK_pos 6) (kids e) p hp
  omega

/-! ### Sorted, and each once -/
theorem compUp_mem (d : Array Int) : ∀ (m j : Nat), j < m → d[j]! ∈ Lib.compactUpTo d m
  | 0, j, h => by omega
  | m + 1, j, h => by
    rw [Lib.compactUpTo_succ, List.mem_append]
    by_cases hj : j < m
    · exact .inl (compUp_mem d m j hj)
    · have : j = m := by omega
      subst this
      by_cases hk : Lib.keeps d j = true
      · right; rw [if_pos hk]; simp
      · left
        unfold Lib.keeps at hk
        simp only [ne_eq, decide_eq_true_eq, not_or, Decidable.not_not] at hk
        rw [hk.2]
        exact compUp_mem d j (j - 1) (by omega)
theorem compUp_lt (d : Array Int) (hd : ∀ i j : Nat, i ≤ j → j < d.size → d[i]! ≤ d[j]!) : ∀ (m : Nat), m ≤ d.size → (Lib.compactUpTo d m).Pairwise (· < ·) ∧ ∀ x ∈ Lib.compactUpTo d m, x ≤ d[m - 1]! ∧ 0 < m
  | 0, _ => by simp [Lib.compactUpTo]
  | m + 1, h => by
    obtain ⟨h1, h2⟩ := compUp_lt d hd m (by omega)
    rw [Lib.compactUpTo_succ]
    have hle : ∀ x ∈ Lib.compactUpTo d m, x ≤ d[m]! := fun x hx => by
      obtain ⟨a, b⟩ := h2 x hx
      exact Int.le_trans a (hd (m - 1) m (by omega) (by omega))
    refine ⟨?_, ?_⟩
    · rw [List.pairwise_append]
      by_cases hk : Lib.keeps d m = true
      · rw [if_pos hk]
        refine ⟨h1, by simp, fun x hx y hy => ?_⟩
        rw [List.mem_singleton] at hy
        subst hy
        obtain ⟨a, b⟩ := h2 x hx
        have hc := hd (m - 1) m (by omega) (by omega)
        unfold Lib.keeps at hk
        simp only [ne_eq, decide_eq_true_eq] at hk
        rcases hk with hk | hk
        · omega
        · omega
      · rw [if_neg hk]
        exact ⟨h1, by simp, by simp⟩
    · intro x hx
      rw [List.mem_append] at hx
      refine ⟨?_, by omega⟩
      rw [Nat.add_sub_cancel]
      rcases hx with hx | hx
      · exact hle x hx
      · split at hx
        · rw [List.mem_singleton] at hx
          rw [hx]
          exact Int.le_refl _
        · cases hx
def cset (l : List Int) : List Int := Lib.compact (sortI l)
theorem sortI_sorted (l : List Int) : (sortI l).Pairwise (· ≤ ·) := by
  have := List.pairwise_mergeSort (le := fun x y : Int => decide (x ≤ y)) (fun a b c h1 h2 => by simp at h1 h2 ⊢; omega) (fun a b => by simp; omega) l
  unfold sortI
  exact this.imp (by simp)
theorem cset_lt (l : List Int) : (cset l).Pairwise (· < ·) := by
  unfold cset Lib.compact
  refine (compUp_lt _ ?_ _ (by simp)).1
  intro i j hij hj
  have hs := sortI_sorted l
  have hj' : j < (sortI l).length := by simpa using hj
  by_cases he : i = j
  · subst he; exact Int.le_refl _
  · rw [List.pairwise_iff_getElem] at hs
    have := hs i j (by omega) hj' (by omega)
    rw [getElem!_pos (sortI l).toArray i (by simp; omega), getElem!_pos (sortI l).toArray j hj]
    simpa using this
theorem mem_cset {l : List Int} {z : Int} : z ∈ cset l ↔ z ∈ l := by
  refine ⟨fun h => mem_sortI.1 (mem_compact h), fun h => ?_⟩
  obtain ⟨j, hj, rfl⟩ := List.getElem_of_mem (mem_sortI.2 h)
  unfold cset Lib.compact
  have := compUp_mem (sortI l).toArray (sortI l).length j hj
  rw [getElem!_pos (sortI l).toArray j (by simpa using hj)] at this
  simpa using this
theorem len_sub : ∀ {a b : List Int}, a.Nodup → a ⊆ b → a.length ≤ b.length
  | [], b, _, _ => Nat.zero_le _
  | x :: a, b, h, hs => by
    rw [List.nodup_cons] at h
    have hx : x ∈ b := hs (List.mem_cons_self ..)
    have h1 : a ⊆ b.erase x := fun y hy => by
      have hne : y ≠ x := fun he => h.1 (he ▸ hy)
      exact (List.mem_erase_of_ne hne).2 (hs (List.mem_cons_of_mem _ hy))
    have h2 := len_sub h.2 h1
    rw [List.length_erase_of_mem hx] at h2
    have : 0 < b.length := List.length_pos_of_mem hx
    simp only [List.length_cons]
    omega
theorem cset_nodup (l : List Int) : (cset l).Nodup := (cset_lt l).imp (fun h => by omega)
theorem cset_append (a b : List Int) : (cset (a ++ b)).length ≤ (cset a).length + (cset b).length := by
  rw [← List.length_append]
  refine len_sub (cset_nodup _) fun z hz => ?_
  rw [mem_cset, List.mem_append] at hz
  rw [List.mem_append, mem_cset, mem_cset]
  exact hz
theorem cset_len (l : List Int) : (cset l).length ≤ l.length := Nat.le_trans (compact_length _) (by rw [sortI_length]; exact Nat.le_refl _)

/-! ### Columns -/
theorem map_litI (l : List Int) : (l.map litI).map intD = l := by
  rw [List.map_map]
  have : intD ∘ litI = id := rfl
  rw [this, List.map_id]
def colsI (K : Nat) (e : D) : List Int := (colsK K e).map intD
theorem colsE_eq {e : D} (h : mayE e = true) : colsE e = (cset (colsI 7 e)).map litI := by
  unfold colsE compD sortD cset colsI
  rw [h, cond_true, map_litI]
theorem colsE_not {e : D} (h : mayE e = false) : colsE e = [] := by
  unfold colsE
  rw [h, cond_false]
theorem hasK_succ (k : Nat) (e : D) (c : Int) : hasK (k + 1) e c = ((opI e == 1 && colI e == c) || (kids e).any fun p => hasK k p c) := rfl
theorem colsI_succ (k : Nat) (e : D) : colsI (k + 1) e = (bif opI e == 1 then [colI e] else []) ++ (kids e).flatMap (colsI k) := by
  unfold colsI
  rw [colsK_succ, List.map_append, List.map_flatMap]
  cases (opI e == 1) <;> rfl
theorem has_cols : ∀ (K : Nat) (e : D) (c : Int), hasK K e c = true ↔ c ∈ colsI K e
  | 0, e, c => by simp [hasK, colsI, colsK]
  | K + 1, e, c => by
    rw [hasK_succ, colsI_succ, List.mem_append, Bool.or_eq_true, List.any_eq_true, List.mem_flatMap]
    have h1 : (opI e == 1 && colI e == c) = true ↔ c ∈ (bif opI e == 1 then [colI e] else []) := by
      cases (opI e == 1) with
      | true => rw [Bool.true_and, cond_true, List.mem_singleton, beq_iff_eq]; exact eq_comm
      | false => simp
    rw [h1]
    refine or_congr Iff.rfl ?_
    exact ⟨fun ⟨p, hp, hh⟩ => ⟨p, hp, (has_cols K p c).1 hh⟩, fun ⟨p, hp, hh⟩ => ⟨p, hp, (has_cols K p c).2 hh⟩⟩

end X
end Go.Proofs.Ytjgnknkbohlopaa

namespace Go.Proofs.Ytjgnknkbohlopaa
namespace X
open Go.Ev
set_option linter.unusedVariables false
set_option linter.unusedSimpArgs false

theorem colsI_range : ∀ (K : Nat) (e : D), okK K e = true → ∀ z ∈ colsI K e, 0 ≤ z ∧ z < 16
  | 0, e, h => by cases h
  | K + 1, e, h => by
    rw [okK_succ, Bool.and_eq_true, List.all_eq_true] at h
    intro z hz
    rw [colsI_succ, List.mem_append, List.mem_flatMap] at hz
    rcases hz with hz | ⟨p, hp, hz⟩
    · cases ho : (opI e == 1) with
      | true =>
        rw [ho, cond_true, List.mem_singleton] at hz
        obtain ⟨_, _, h1, h2, _⟩ := fits_op h.1
        omega
      | false => rw [ho, cond_false] at hz; cases hz
    · exact colsI_range K p (h.2 p hp) z hz
theorem colsE_in (e : D) : ∀ x ∈ colsE e, ∃ z, x = litI z ∧ 0 ≤ z ∧ z < 16 := by
  intro x hx
  cases hm : mayE e with
  | false => rw [colsE_not hm] at hx; cases hx
  | true =>
    rw [colsE_eq hm, List.mem_map] at hx
    obtain ⟨z, hz, rfl⟩ := hx
    exact ⟨z, rfl, colsI_range 7 e (mayE_ok hm) z (mem_cset.1 hz)⟩
theorem cols_few (e : D) : (colsE e).length ≤ 16 := by
  cases hm : mayE e with
  | false => rw [colsE_not hm]; exact Nat.zero_le _
  | true =>
    rw [colsE_eq hm, List.length_map]
    have := len_sub (b := (List.range 16).map Int.ofNat) (cset_nodup (colsI 7 e)) (fun z hz => by
      have := colsI_range 7 e (mayE_ok hm) z (mem_cset.1 hz)
      rw [List.mem_map]
      exact ⟨z.toNat, by rw [List.mem_range]; omega, by rw [Int.ofNat_eq_natCast]; omega⟩)
    simpa using this
theorem mem_colsE {e : D} (hm : mayE e = true) {z : Int} : litI z ∈ colsE e ↔ z ∈ colsI 7 e := by
  rw [colsE_eq hm, List.mem_map]
  constructor
  · rintro ⟨y, hy, h⟩
    injection h with h
    injection h with _ h
    subst h
    exact mem_cset.1 hy
  · exact fun h => ⟨z, mem_cset.2 h, rfl⟩

end X
end Go.Proofs.Ytjgnknkbohlopaa
