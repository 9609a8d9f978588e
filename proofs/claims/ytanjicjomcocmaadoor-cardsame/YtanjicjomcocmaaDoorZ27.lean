/- Trees of functions, and lemmas. Nothing here is trusted. -/
import Derived.Test.YtanjicjomcocmaaDoorZ26
import Derived.Test.YtanjicjomcocmaaDoorZ23
namespace Go.Proofs.YtanjicjomcocmaaDoor
section
namespace X
open Go.Ev
set_option linter.unusedVariables false
set_option linter.unusedSimpArgs false

/-! ### Levels -/
theorem ok_shift : ∀ (K : Nat) (e : D), okK K e = true -> okK (K + 1) e = true
 | 0, e, h => by cases h
 | K + 1, e, h => by
  rw [okK_succ, Bool.and_eq_true, List.all_eq_true] at h
  rw [okK_succ, Bool.and_eq_true, List.all_eq_true]
  exact ⟨h.1, fun p hp => ok_shift K p (h.2 p hp)⟩
theorem cols_shift : ∀ (K : Nat) (e : D), okK K e = true -> colsK (K + 1) e = colsK K e
 | 0, e, h => by cases h
 | K + 1, e, h => by
  rw [okK_succ, Bool.and_eq_true, List.all_eq_true] at h
  rw [colsK_succ, colsK_succ K]
  have : (kids e).flatMap (colsK (K + 1)) = (kids e).flatMap (colsK K) := by
   rw [List.flatMap_def, List.flatMap_def]
   rw [List.map_congr_left fun p hp => cols_shift K p (h.2 p hp)]
  rw [this]

/-! ### What may be, said otherwise -/
def szK : Nat -> D -> Int
 | 0, _ => 1
 | k + 1, e => 1 + ((kids e).map (szK k)).sum
def okD : Nat -> D -> Int -> Bool
 | 0, _, _ => false
 | k + 1, e, deep => (fitsB e && decide (deep <= 6)) && (kids e).all fun p => okD k p (deep + 1)
theorem szK_succ (k : Nat) (e : D) : szK (k + 1) e = 1 + ((kids e).map (szK k)).sum := rfl
theorem okD_succ (k : Nat) (e : D) (deep : Int) : okD (k + 1) e deep = ((fitsB e && decide (deep <= 6)) && (kids e).all fun p => okD k p (deep + 1)) := rfl
theorem sum_pos {s : D -> Int} (hs : ∀ p, 1 <= s p) : ∀ l : List D, 0 <= (l.map s).sum
 | [] => by simp
 | p :: l => by
  rw [List.map_cons, List.sum_cons]
  have := hs p
  have := sum_pos hs l
  omega
theorem sum_mem {s : D -> Int} (hs : ∀ p, 1 <= s p) : ∀ (l : List D) (p : D), p ∈ l -> s p <= (l.map s).sum
 | q :: l, p, h => by
  rw [List.map_cons, List.sum_cons]
  have h1 := hs q
  have h2 := sum_pos hs l
  rcases List.mem_cons.1 h with rfl | h
  ·omega
  ·have := sum_mem hs l p h
   omega
theorem szK_pos : ∀ (K : Nat) (e : D), 1 <= szK K e
 | 0, e => Int.le_refl 1
 | K + 1, e => by
  rw [szK_succ]
  have := sum_pos (szK_pos K) (kids e)
  omega
theorem goL_iff {g : D -> Int -> Bool × Int} {s : D -> Int} {o : D -> Bool} (hs : ∀ p, 1 <= s p) (hg : ∀ p m, m <= 30 -> ((g p m).1 = true ↔ o p = true /\ m + s p <= 30) /\ ((g p m).1 = true -> (g p m).2 = m + s p)) :
  ∀ (l : List D) (m : Int), m <= 30 -> ((goL g l m).1 = true ↔ l.all o = true /\ m + (l.map s).sum <= 30) /\ ((goL g l m).1 = true -> (goL g l m).2 = m + (l.map s).sum)
 | [], m, h => ⟨⟨fun _ => ⟨rfl, by simpa using h⟩, fun _ => rfl⟩, fun _ => by simp [goL]⟩
 | p :: l, m, h => by
  rw [goL_cons]
  obtain ⟨h1, h2⟩ := hg p m h
  have hpos := sum_pos hs l
  rw [List.all_cons, List.map_cons, List.sum_cons]
  cases hp : (g p m).1 with
  | false =>
   rw [cond_false]
   refine ⟨⟨fun hh => (by cases hh), fun hh => ?_⟩, fun hh => (by cases hh)⟩
   rw [Bool.and_eq_true] at hh
   have := h1.2 ⟨hh.1.1, by omega⟩
   rw [hp] at this
   cases this
  | true =>
   rw [cond_true]
   have hv := h2 hp
   obtain ⟨o1, o2⟩ := h1.1 hp
   obtain ⟨i1, i2⟩ := goL_iff hs hg l (g p m).2 (by omega)
   refine ⟨⟨fun hh => ?_, fun hh => ?_⟩, fun hh => ?_⟩
   ·obtain ⟨a, b⟩ := i1.1 hh
    rw [Bool.and_eq_true]
    exact ⟨⟨o1, a⟩, by omega⟩
   ·rw [Bool.and_eq_true] at hh
    exact i1.2 ⟨hh.1.2, by omega⟩
   ·rw [i2 hh, hv]
    omega
theorem see_iff {e : D} {deep n : Int} : seeMay e deep n = true ↔ n + 1 <= 30 /\ deep <= 6 /\ fitsB e = true := by
 refine ⟨see_true, fun ⟨a, b, c⟩ => ?_⟩
 unfold seeMay
 have d1 : decide (n + 1 <= 30) = true := by simpa using a
 have d2 : decide (deep <= 6) = true := by simpa using b
 rw [d1, d2, c]
 rfl
theorem mayAll_iff : ∀ (K : Nat) (e : D) (deep n : Int), n <= 30 -> ((mayAll K e deep n).1 = true ↔ okD K e deep = true /\ n + szK K e <= 30) /\ ((mayAll K e deep n).1 = true -> (mayAll K e deep n).2 = n + szK K e)
 | 0, e, deep, n, h => ⟨⟨fun h => (by cases h), fun h => (by cases h.1)⟩, fun h => (by cases h)⟩
 | K + 1, e, deep, n, h => by
  rw [mayAll_succ, okD_succ, szK_succ]
  have hpos := sum_pos (szK_pos K) (kids e)
  cases hs : seeMay e deep n with
  | false =>
   rw [cond_false]
   refine ⟨⟨fun hh => (by cases hh), fun hh => ?_⟩, fun hh => (by cases hh)⟩
   rw [Bool.and_eq_true, Bool.and_eq_true, decide_eq_true_eq] at hh
   have := see_iff.2 ⟨(by omega : n + 1 <= 30), hh.1.1.2, hh.1.1.1⟩
   rw [hs] at this
   cases this
  | true =>
   rw [cond_true]
   obtain ⟨s1, s2, s3⟩ := see_iff.1 hs
   obtain ⟨i1, i2⟩ := goL_iff (o := fun p => okD K p (deep + 1)) (szK_pos K) (fun p m hm => mayAll_iff K p (deep + 1) m hm) (kids e) (n + 1) s1
   refine ⟨⟨fun hh => ?_, fun hh => ?_⟩, fun hh => ?_⟩
   ·obtain ⟨a, b⟩ := i1.1 hh
    rw [Bool.and_eq_true, Bool.and_eq_true, decide_eq_true_eq]
    exact ⟨⟨⟨s3, s2⟩, a⟩, by omega⟩
   ·rw [Bool.and_eq_true] at hh
    exact i1.2 ⟨hh.1.2, by omega⟩
   ·rw [i2 hh]
    omega
theorem mayE_iff {e : D} : mayE e = true ↔ okD 7 e 1 = true /\ szK 7 e <= 30 := by
 have := (mayAll_iff 7 e 1 0 (by omega)).1
 rw [Int.zero_add] at this
 exact this
theorem okD_ok : ∀ (K : Nat) (e : D) (deep : Int), okD K e deep = true -> okK K e = true
 | 0, e, deep, h => by cases h
 | K + 1, e, deep, h => by
  rw [okD_succ, Bool.and_eq_true, Bool.and_eq_true, List.all_eq_true] at h
  rw [okK_succ, Bool.and_eq_true, List.all_eq_true]
  exact ⟨h.1.1, fun p hp => okD_ok K p _ (h.2 p hp)⟩
theorem okD_mono : ∀ (K : Nat) (e : D) (deep deep' : Int), okD K e deep = true -> deep' <= deep -> okD (K + 1) e deep' = true
 | 0, e, deep, deep', h, _ => by cases h
 | K + 1, e, deep, deep', h, hd => by
  rw [okD_succ, Bool.and_eq_true, Bool.and_eq_true, List.all_eq_true, decide_eq_true_eq] at h
  rw [okD_succ, Bool.and_eq_true, Bool.and_eq_true, List.all_eq_true, decide_eq_true_eq]
  exact ⟨⟨h.1.1, by omega⟩, fun p hp => okD_mono K p _ _ (h.2 p hp) (by omega)⟩
theorem sz_shift : ∀ (K : Nat) (e : D), okK K e = true -> szK (K + 1) e = szK K e
 | 0, e, h => by cases h
 | K + 1, e, h => by
  rw [okK_succ, Bool.and_eq_true, List.all_eq_true] at h
  rw [szK_succ, szK_succ K]
  have : (kids e).map (szK (K + 1)) = (kids e).map (szK K) := List.map_congr_left fun p hp => sz_shift K p (h.2 p hp)
  rw [this]
/-- A part of what may be may be. -/
theorem may_part {e p : D} (h : mayE e = true) (hp : p ∈ kids e) : mayE p = true /\ okK 6 p = true := by
 obtain ⟨h1, h2⟩ := mayE_iff.1 h
 rw [okD_succ, Bool.and_eq_true, List.all_eq_true] at h1
 have h3 := h1.2 p hp
 have h4 := okD_ok 6 p _ h3
 refine ⟨mayE_iff.2 ⟨okD_mono 6 p _ _ h3 (by omega), ?_⟩, h4⟩
 rw [sz_shift 6 p h4]
 rw [szK_succ] at h2
 have := sum_mem (szK_pos 6) (kids e) p hp
 omega

/-! ### Sorted, and each once -/
theorem compUp_mem (d : Array Int) : ∀ (m j : Nat), j < m -> d[j]! ∈ Lib.compactUpTo d m
 | 0, j, h => by omega
 | m + 1, j, h => by
  rw [Lib.compactUpTo_succ, List.mem_append]
  by_cases hj : j < m
  ·exact .inl (compUp_mem d m j hj)
  ·have : j = m := by omega
   subst this
   by_cases hk : Lib.keeps d j = true
   ·right; rw [if_pos hk]; simp
   ·left
    unfold Lib.keeps at hk
    simp only [ne_eq, decide_eq_true_eq, not_or, Decidable.not_not] at hk
    rw [hk.2]
    exact compUp_mem d j (j - 1) (by omega)
theorem compUp_lt (d : Array Int) (hd : ∀ i j : Nat, i <= j -> j < d.size -> d[i]! <= d[j]!) : ∀ (m : Nat), m <= d.size -> (Lib.compactUpTo d m).Pairwise (· < ·) /\ ∀ x ∈ Lib.compactUpTo d m, x <= d[m - 1]! /\ 0 < m
 | 0, _ => by simp [Lib.compactUpTo]
 | m + 1, h => by
  obtain ⟨h1, h2⟩ := compUp_lt d hd m (by omega)
  rw [Lib.compactUpTo_succ]
  have hle : ∀ x ∈ Lib.compactUpTo d m, x <= d[m]! := fun x hx => by
   obtain ⟨a, b⟩ := h2 x hx
   exact Int.le_trans a (hd (m - 1) m (by omega) (by omega))
  refine ⟨?_, ?_⟩
  ·rw [List.pairwise_append]
   by_cases hk : Lib.keeps d m = true
   ·rw [if_pos hk]
    refine ⟨h1, by simp, fun x hx y hy => ?_⟩
    rw [List.mem_singleton] at hy
    subst hy
    obtain ⟨a, b⟩ := h2 x hx
    have hc := hd (m - 1) m (by omega) (by omega)
    unfold Lib.keeps at hk
    simp only [ne_eq, decide_eq_true_eq] at hk
    rcases hk with hk | hk
    ·omega
    ·omega
   ·rw [if_neg hk]
    exact ⟨h1, by simp, by simp⟩
  ·intro x hx
   rw [List.mem_append] at hx
   refine ⟨?_, by omega⟩
   rw [Nat.add_sub_cancel]
   rcases hx with hx | hx
   ·exact hle x hx
   ·split at hx
    ·rw [List.mem_singleton] at hx
     rw [hx]
     exact Int.le_refl _
    ·cases hx
def cset (l : List Int) : List Int := Lib.compact (sortI l)
theorem sortI_sorted (l : List Int) : (sortI l).Pairwise (· <= ·) := by
 have := List.pairwise_mergeSort (le := fun x y : Int => decide (x <= y)) (fun a b c h1 h2 => by simp at h1 h2 ⊢; omega) (fun a b => by simp; omega) l
 unfold sortI
 exact this.imp (by simp)
theorem cset_lt (l : List Int) : (cset l).Pairwise (· < ·) := by
 unfold cset Lib.compact
 refine (compUp_lt _ ?_ _ (by simp)).1
 intro i j hij hj
 have hs := sortI_sorted l
 have hj' : j < (sortI l).length := by simpa using hj
 by_cases he : i = j
 ·subst he; exact Int.le_refl _
 ·rw [List.pairwise_iff_getElem] at hs
  have := hs i j (by omega) hj' (by omega)
  rw [getElem!_pos (sortI l).toArray i (by simp; omega), getElem!_pos (sortI l).toArray j hj]
  simpa using this
theorem mem_cset {l : List Int} {z : Int} : z ∈ cset l ↔ z ∈ l := by
 refine ⟨fun h => mem_sortI.1 (mem_compact h), fun h => ?_⟩
 obtain ⟨j, hj, rfl⟩ := List.getElem_of_mem (mem_sortI.2 h)
 unfold cset Lib.compact
 have := compUp_mem (sortI l).toArray (sortI l).length j hj
 rw [getElem!_pos (sortI l).toArray j (by simpa using hj)] at this
 simpa using this
theorem len_sub : ∀ {a b : List Int}, a.Nodup -> a ⊆ b -> a.length <= b.length
 | [], b, _, _ => Nat.zero_le _
 | x :: a, b, h, hs => by
  rw [List.nodup_cons] at h
  have hx : x ∈ b := hs (List.mem_cons_self ..)
  have h1 : a ⊆ b.erase x := fun y hy => by
   have hne : y ≠ x := fun he => h.1 (he ▸ hy)
   exact (List.mem_erase_of_ne hne).2 (hs (List.mem_cons_of_mem _ hy))
  have h2 := len_sub h.2 h1
  rw [List.length_erase_of_mem hx] at h2
  have : 0 < b.length := List.length_pos_of_mem hx
  simp only [List.length_cons]
  omega
theorem cset_nodup (l : List Int) : (cset l).Nodup := (cset_lt l).imp (fun h => by omega)
theorem cset_append (a b : List Int) : (cset (a ++ b)).length <= (cset a).length + (cset b).length := by
 rw [<- List.length_append]
 refine len_sub (cset_nodup _) fun z hz => ?_
 rw [mem_cset, List.mem_append] at hz
 rw [List.mem_append, mem_cset, mem_cset]
 exact hz
theorem cset_len (l : List Int) : (cset l).length <= l.length := Nat.le_trans (compact_length _) (by rw [sortI_length]; exact Nat.le_refl _)

/-! ### Columns -/
theorem map_litI (l : List Int) : (l.map litI).map intD = l := by
 rw [List.map_map]
 have : intD ∘ litI = id := rfl
 rw [this, List.map_id]
def colsI (K : Nat) (e : D) : List Int := (colsK K e).map intD
theorem colsE_eq {e : D} (h : mayE e = true) : colsE e = (cset (colsI 7 e)).map litI := by
 unfold colsE compD sortD cset colsI
 rw [h, cond_true, map_litI]
theorem colsE_not {e : D} (h : mayE e = false) : colsE e = [] := by
 unfold colsE
 rw [h, cond_false]
theorem hasK_succ (k : Nat) (e : D) (c : Int) : hasK (k + 1) e c = ((opI e == 1 && colI e == c) || (kids e).any fun p => hasK k p c) := rfl
theorem colsI_succ (k : Nat) (e : D) : colsI (k + 1) e = (bif opI e == 1 then [colI e] else []) ++ (kids e).flatMap (colsI k) := by
 unfold colsI
 rw [colsK_succ, List.map_append, List.map_flatMap]
 cases (opI e == 1) <;> rfl
theorem has_cols : ∀ (K : Nat) (e : D) (c : Int), hasK K e c = true ↔ c ∈ colsI K e
 | 0, e, c => by simp [hasK, colsI, colsK]
 | K + 1, e, c => by
  rw [hasK_succ, colsI_succ, List.mem_append, Bool.or_eq_true, List.any_eq_true, List.mem_flatMap]
  have h1 : (opI e == 1 && colI e == c) = true ↔ c ∈ (bif opI e == 1 then [colI e] else []) := by
   cases (opI e == 1) with
   | true => rw [Bool.true_and, cond_true, List.mem_singleton, beq_iff_eq]; exact eq_comm
   | false => simp
  rw [h1]
  refine or_congr Iff.rfl ?_
  exact ⟨fun ⟨p, hp, hh⟩ => ⟨p, hp, (has_cols K p c).1 hh⟩, fun ⟨p, hp, hh⟩ => ⟨p, hp, (has_cols K p c).2 hh⟩⟩

end X
end
section
namespace X
open Go.Ev
set_option linter.unusedVariables false
/- roadbook/expr.Pair -/
def t45_h : Hints := fun _ =>  none
theorem t45 (N : Nat) (x0 : D) : evFn Tryd.prog (envH U4 []) t45_h N Tryd.f45 [dat 40 x0] =
 bif ((!(mayE x0)) == false) then
  bif ((intD (fieldD x0 0)) != 6) then
   some (tupA [3, 3, 4] (.agg [.lit (.int .i64 0), .lit (.int .i64 0), .lit (.bool false)]))
  else bif (decide (0 <= (0 : Int)) && decide ((0 : Int) < ((elemsD (fieldD x0 3)).length : Int))) then
    bif (decide (0 <= (1 : Int)) && decide ((1 : Int) < ((elemsD (fieldD x0 3)).length : Int))) then
     bif (((intD (fieldD ((elemsD (fieldD x0 3)).getD 0 .nil) 0)) != 1) == false) then
      bif (((intD (fieldD ((elemsD (fieldD x0 3)).getD 1 .nil) 0)) != 1) == false) then
       bif ((intD (fieldD ((elemsD (fieldD x0 3)).getD 0 .nil) 1)) == (intD (fieldD ((elemsD (fieldD x0 3)).getD 1 .nil) 1))) then
        some (tupA [3, 3, 4] (.agg [.lit (.int .i64 0), .lit (.int .i64 0), .lit (.bool false)]))
       else some (tupA [3, 3, 4] (.agg [.lit (.int .i64 (intD (fieldD ((elemsD (fieldD x0 3)).getD 0 .nil) 1))), .lit (.int .i64 (intD (fieldD ((elemsD (fieldD x0 3)).getD 1 .nil) 1))), .lit (.bool true)]))
      else some (tupA [3, 3, 4] (.agg [.lit (.int .i64 0), .lit (.int .i64 0), .lit (.bool false)]))
     else some (tupA [3, 3, 4] (.agg [.lit (.int .i64 0), .lit (.int .i64 0), .lit (.bool false)]))
    else none
   else none
 else some (tupA [3, 3, 4] (.agg [.lit (.int .i64 0), .lit (.int .i64 0), .lit (.bool false)])) := by kernel_rfl

end X
end
section
namespace X
open Go.Ev
set_option linter.unusedVariables false
set_option linter.unusedSimpArgs false

theorem m31 (x : D) : mkRes Tryd.prog 73 x = tupA [3, 3, 4] x := by kernel_rfl
def e45 : FuncId × TypeId × (List AV -> Bool) × (List AV -> Option D) := (45, 73, yes, ent [40] (f1 fun x => some (.agg [.lit (.int .i64 (pairA x)), .lit (.int .i64 (pairB x)), .lit (.bool (pairE x))])))
theorem k45 : FnOK Tryd.prog 45 Tryd.f45 := ⟨Tryd.func45, rfl, by kernel_rfl⟩
theorem takes_two {n : Int} (h : takesN 6 n = true) : n = 2 := by
 have : (n == 2) = true := h
 simpa using this
theorem pair_len {x : D} (h : mayE x = true) (h6 : opI x = 6) : (kids x).length = 2 := by
 have hok := mayE_ok h
 rw [okK_succ, Bool.and_eq_true] at hok
 obtain ⟨_, _, _, _, _, ht⟩ := fits_op hok.1
 rw [h6] at ht
 have := takes_two ht
 omega
theorem c45 : ∀ args d, e45.2.2.2 args = some d -> CallOK Tryd.prog 45 args (mkRes Tryd.prog 73 d) :=
 ent1 k45 fun x d h _ => by
  cases h
  rw [n26]
  refine fn_ok hm envU4 k45 ((t45 1 x).trans ?_)
  rw [m31, show intD (fieldD x 0) = opI x from rfl, show elemsD (fieldD x 3) = kids x from rfl, show intD (fieldD ((kids x).getD 0 .nil) 0) = opI ((kids x).getD 0 .nil) from rfl, show intD (fieldD ((kids x).getD 1 .nil) 0) = opI ((kids x).getD 1 .nil) from rfl,
   show intD (fieldD ((kids x).getD 0 .nil) 1) = colI ((kids x).getD 0 .nil) from rfl, show intD (fieldD ((kids x).getD 1 .nil) 1) = colI ((kids x).getD 1 .nil) from rfl]
  unfold pairA pairB pairE
  cases hmay : mayE x with
  | false => rfl
  | true =>
   cases h6 : (opI x == 6) with
   | false =>
    rw [show (opI x != 6) = !(opI x == 6) from rfl, h6]
    rfl
   | true =>
    have hl := pair_len hmay (by simpa using h6)
    rw [show (opI x != 6) = !(opI x == 6) from rfl, h6, hl]
    generalize colI ((kids x).getD 0 .nil) = a
    generalize colI ((kids x).getD 1 .nil) = b
    rw [show (opI ((kids x).getD 0 .nil) != 1) = !(opI ((kids x).getD 0 .nil) == 1) from rfl, show (opI ((kids x).getD 1 .nil) != 1) = !(opI ((kids x).getD 1 .nil) == 1) from rfl]
    generalize (opI ((kids x).getD 0 .nil) == 1) = u
    generalize (opI ((kids x).getD 1 .nil) == 1) = v
    generalize (a == b) = q
    cases u <;> cases v <;> cases q <;> rfl
def UP : Tab := e45 :: U9
theorem envUP : EnvOK Tryd.prog (envH UP []) := envOK_cons envU9 c45

end X
end
section
namespace X
open Go.Ev
set_option linter.unusedVariables false
set_option linter.unusedSimpArgs false

theorem colsI_range : ∀ (K : Nat) (e : D), okK K e = true -> ∀ z ∈ colsI K e, 0 <= z /\ z < 16
 | 0, e, h => by cases h
 | K + 1, e, h => by
  rw [okK_succ, Bool.and_eq_true, List.all_eq_true] at h
  intro z hz
  rw [colsI_succ, List.mem_append, List.mem_flatMap] at hz
  rcases hz with hz | ⟨p, hp, hz⟩
  ·cases ho : (opI e == 1) with
   | true =>
    rw [ho, cond_true, List.mem_singleton] at hz
    obtain ⟨_, _, h1, h2, _⟩ := fits_op h.1
    omega
   | false => rw [ho, cond_false] at hz; cases hz
  ·exact colsI_range K p (h.2 p hp) z hz
theorem colsE_in (e : D) : ∀ x ∈ colsE e, ∃ z, x = litI z /\ 0 <= z /\ z < 16 := by
 intro x hx
 cases hm : mayE e with
 | false => rw [colsE_not hm] at hx; cases hx
 | true =>
  rw [colsE_eq hm, List.mem_map] at hx
  obtain ⟨z, hz, rfl⟩ := hx
  exact ⟨z, rfl, colsI_range 7 e (mayE_ok hm) z (mem_cset.1 hz)⟩
theorem cols_few (e : D) : (colsE e).length <= 16 := by
 cases hm : mayE e with
 | false => rw [colsE_not hm]; exact Nat.zero_le _
 | true =>
  rw [colsE_eq hm, List.length_map]
  have := len_sub (b := (List.range 16).map Int.ofNat) (cset_nodup (colsI 7 e)) (fun z hz => by
   have := colsI_range 7 e (mayE_ok hm) z (mem_cset.1 hz)
   rw [List.mem_map]
   exact ⟨z.toNat, by rw [List.mem_range]; omega, by rw [Int.ofNat_eq_natCast]; omega⟩)
  simpa using this
theorem mem_colsE {e : D} (hm : mayE e = true) {z : Int} : litI z ∈ colsE e ↔ z ∈ colsI 7 e := by
 rw [colsE_eq hm, List.mem_map]
 constructor
 ·rintro ⟨y, hy, h⟩
  injection h with h
  injection h with _ h
  subst h
  exact mem_cset.1 hy
 ·exact fun h => ⟨z, mem_cset.2 h, rfl⟩

end X
end
section
namespace X
open Go.Ev
set_option linter.unusedVariables false
/- roadbook/data.below -/
def t70_h : Hints := fun _ =>  none
theorem t70 (N : Nat) (x0 : Int) (x1 : Int) : evFn Tryd.prog (envR UP [] [] []) t70_h N Tryd.f70 [dat 3 (.lit (.int .i64 x0)), dat 3 (.lit (.int .i64 x1))] =
 bif ((decide (x0 >= 0)) == true) then
  some (dat 4 (.lit (.bool (decide (x0 < x1)))))
 else some (dat 4 (.lit (.bool false))) := by kernel_rfl

/- roadbook/query.below -/
def t30_h : Hints := fun _ =>  none
theorem t30 (N : Nat) (x0 : Int) (x1 : Int) : evFn Tryd.prog (envR UP [] [] []) t30_h N Tryd.f30 [dat 3 (.lit (.int .i64 x0)), dat 3 (.lit (.int .i64 x1))] =
 bif ((decide (x0 >= 0)) == true) then
  some (dat 4 (.lit (.bool (decide (x0 < x1)))))
 else some (dat 4 (.lit (.bool false))) := by kernel_rfl

/- roadbook/data.orZero -/
def t29_h : Hints := fun _ =>  none
theorem t29 (N : Nat) (x0 : D) : evFn Tryd.prog (envR UP [] [] []) t29_h N Tryd.f29 [dat 43 x0] =
 bif ((decide ((intD (fieldD x0 0)) < 1)) == false) then
  bif ((decide ((intD (fieldD x0 0)) > 4)) == false) then
   bif ((decide ((intD (fieldD x0 1)) < 1)) == false) then
    bif decide ((intD (fieldD x0 1)) > 1000000) then
     some (dat 43 (.agg [.lit (.int .i64 0), .lit (.int .i64 0)]))
    else some (dat 43 x0)
   else some (dat 43 (.agg [.lit (.int .i64 0), .lit (.int .i64 0)]))
  else some (dat 43 (.agg [.lit (.int .i64 0), .lit (.int .i64 0)]))
 else some (dat 43 (.agg [.lit (.int .i64 0), .lit (.int .i64 0)])) := by kernel_rfl

/- roadbook/roadbooklaw04.Two -/
def t16_h : Hints := fun _ =>  none
theorem t16 (N : Nat)  : evFn Tryd.prog (envR UP [] [] []) t16_h N Tryd.f16 [] =
 some (tupA [28, 48] (.agg [.agg [.slice [.agg [.lit (.int .i64 2), .lit (.int .i64 100)], .agg [.lit (.int .i64 1), .lit (.int .i64 10)]] []], .agg [.slice [.slice [.slice [.agg [.lit (.int .i64 0), .lit (.int .i64 1)], .agg [.lit (.int .i64 0), .lit (.int .i64 2)]] [], .slice [.agg [.lit (.int .i64 0), .lit (.int .i64 3)], .agg [.lit (.int .i64 0), .lit (.int .i64 4)]] []] [], .slice [.slice [.agg [.lit (.int .i64 0), .lit (.int .i64 4)]] []] []] []]])) := by kernel_rfl

/- slices.Contains[[]int,int] -/
def t44_h : Hints := fun _ =>  none
theorem t44 (N : Nat) (x0 : D) (x1 : Int) : evFn Tryd.prog (envR UP [] [] []) t44_h N Tryd.f44 [dat 22 x0, dat 3 (.lit (.int .i64 x1))] =
 some (dat 4 (.lit (.bool (decide ((Lib.idxOf ((elemsD x0).map intD) x1) >= 0))))) := by kernel_rfl

/- roadbook/query.alone -/
def t54_h : Hints := fun _ =>  none
theorem t54 (N : Nat) (x0 : Int) : evFn Tryd.prog (envR UP [] [] []) t54_h N Tryd.f54 [dat 3 (.lit (.int .i64 x0))] =
 bif decide (0 <= x0) then
  some (dat 57 (.lit (.int .i64 (shlI .i64 1 x0))))
 else none := by kernel_rfl

/- (roadbook/query.occs).has -/
def t26_i_h : Hints := fun _ =>  none
theorem t26_i (N : Nat) (x0 : Int) (x1 : Int) : evFn Tryd.prog (envR UP [] [] []) t26_i_h N Tryd.f26 [dat 3 (.lit (.int .i64 x0)), dat 3 (.lit (.int .i64 x1))] =
 some (dat 4 (.lit (.bool ((andNotI .i64 x1 x0) == 0)))) := by kernel_rfl

/- (roadbook/query.occs).has -/
def t26_s_h : Hints := fun _ =>  none
theorem t26_s (N : Nat) (x0 : Int) (x1 : Int) : evFn Tryd.prog (envR UP [] [] []) t26_s_h N Tryd.f26 [dat 3 (.lit (.int .i64 x0)), dat 57 (.lit (.int .i64 x1))] =
 some (dat 4 (.lit (.bool ((andNotI .i64 x1 x0) == 0)))) := by kernel_rfl

/- roadbook/roadbooklaw05.few -/
def t18_h : Hints := fun i => if i = 3 then some ([0, 1, 2, 4, 7, 8, 9, 10, 11, 12, 13, 14, 15, 16, 17, 18, 19, 20, 21, 22, 23, 24, 25, 26, 27, 28, 29, 30, 31, 32, 33, 34, 35, 36, 37, 38, 39, 40, 41, 42, 43, 44, 45, 46, 47, 48, 49, 50, 51], [3], []) else none
def t18_lp3 (P : Program) (fn : Func) (N n : Nat) (x0 : D) (x1 : D) (v5 : Bool) (v6 : Int) : Option AV := evLoop (preL t18_h (sub [1, 1, 0, 1, 0, 0] (bodyOf fn))) (evCode P (envR UP [] [] []) t18_h N (sub [1, 1, 0, 1, 0, 0] (bodyOf fn))) n ⟨[dead, dead, dead, bxp 3 31, dead, dat 4 (.lit (.bool v5)), dat 3 (.lit (.int .i64 v6)), dead, dead, dead, dead, dead, dead, dead, dead, dead, dead, dead, dead, dead, dead, dead, dead, dead, dead, dead, dead, dead, dead, dead, dead, dead, dead, dead, dead, dead, dead, dead, dead, dead, dead, dead, dead, dead, dead, dead, dead, dead, dead, dead, dead, dead], lookB [(3, some ⟨31, x1, 0, none⟩)]⟩ (blockK 0 (seqC P (envR UP [] [] []) t18_h N (sub [1, 1, 1] (bodyOf fn)) (finK P fn) ))
theorem t18_lp3_step (N n : Nat) (x0 : D) (x1 : D) (v5 : Bool) (v6 : Int) : t18_lp3 Tryd.prog Tryd.f18 N (n + 1) x0 x1 v5 v6 =
 bif ((decide (v6 < ((elemsD (fieldD x1 1)).length : Int))) == true) then
  bif v5 then
   bif (decide (0 <= v6) && decide (v6 < ((elemsD (fieldD x1 1)).length : Int))) then
    bif (decide (0 <= 60) && decide (60 <= 1000)) then
     t18_lp3 Tryd.prog Tryd.f18 N n x0 x1 (fewB ((elemsD (fieldD x1 1)).getD (v6).toNat .nil) 60) (IntKind.wrap .i64 (v6 + 1))
    else none
   else none
  else some (dat 4 (.lit (.bool v5)))
 else some (dat 4 (.lit (.bool v5))) := by kernel_rfl
theorem t18 (N : Nat) (x0 : D) (x1 : D) : evFn Tryd.prog (envR UP [] [] []) t18_h N Tryd.f18 [dat 28 x0, dat 31 x1] =
 bif ((decide (((elemsD (fieldD x0 0)).length : Int) <= 10)) == true) then
  bif ((decide (((elemsD (fieldD x1 0)).length : Int) <= 20)) == true) then
   bif ((decide (((elemsD (fieldD x1 1)).length : Int) <= 8)) == true) then
    bif ((decide (((elemsD (fieldD x1 3)).length : Int) <= 20)) == true) then
     t18_lp3 Tryd.prog Tryd.f18 N N x0 x1 (decide (((elemsD (fieldD x1 4)).length : Int) <= 20)) 0
    else t18_lp3 Tryd.prog Tryd.f18 N N x0 x1 false 0
   else t18_lp3 Tryd.prog Tryd.f18 N N x0 x1 false 0
  else t18_lp3 Tryd.prog Tryd.f18 N N x0 x1 false 0
 else t18_lp3 Tryd.prog Tryd.f18 N N x0 x1 false 0 := by kernel_rfl

end X
end
section
namespace X
open Go.Ev
set_option linter.unusedVariables false
set_option maxRecDepth 10000
set_option linter.unusedSimpArgs false

theorem nDef (x : D) : normD Tryd.prog 43 x = x := by kernel_rfl
theorem nCat (x : D) : normD Tryd.prog 28 x = x := by kernel_rfl
theorem nQry (x : D) : normD Tryd.prog 31 x = x := by kernel_rfl
theorem nOcs (x : D) : normD Tryd.prog 57 x = .lit (.int .i64 (intD x)) := by kernel_rfl
theorem nAsk (x : D) : normD Tryd.prog 56 x = x := by kernel_rfl
theorem mDef (x : D) : mkRes Tryd.prog 43 x = dat 43 x := by kernel_rfl
theorem mQry (x : D) : mkRes Tryd.prog 31 x = dat 31 x := by kernel_rfl
theorem mOcs (x : D) : mkRes Tryd.prog 57 x = dat 57 (.lit (.int .i64 (intD x))) := by kernel_rfl
theorem mTCD (x : D) : mkRes Tryd.prog 49 x = tupA [28, 48] x := by kernel_rfl
theorem mIIB (x : D) : mkRes Tryd.prog 73 x = tupA [3, 3, 4] x := by kernel_rfl
theorem uDefs : Tryd.prog.underlying 26 = some (.slice 43) := by kernel_rfl
theorem uExprs : Tryd.prog.underlying 29 = some (.slice 40) := by kernel_rfl
theorem uDef : ∃ f g : Field, Tryd.prog.underlying 43 = some (.struct #[f, g]) /\ f.type = 3 /\ g.type = 3 := ⟨_, _, Tryd.underlying43, rfl, rfl⟩
theorem uCat : ∃ f : Field, Tryd.prog.underlying 28 = some (.struct #[f]) /\ f.type = 26 := ⟨_, Tryd.underlying28, rfl⟩
theorem uQry : ∃ f0 f1 f2 f3 f4 f5 : Field, Tryd.prog.underlying 31 = some (.struct #[f0, f1, f2, f3, f4, f5]) /\ f0.type = 22 /\ f1.type = 29 /\ f2.type = 3 /\ f3.type = 22 /\ f4.type = 22 /\ f5.type = 3 :=
 ⟨_, _, _, _, _, _, Tryd.underlying31, rfl, rfl, rfl, rfl, rfl, rfl⟩

theorem tyDef {n : Nat} {x : D} (h : Ty Tryd.prog n 43 x) : ∃ c r, x = defD c r /\ inR c = true /\ inR r = true := by
 obtain ⟨f, g, hu, hf, hg⟩ := uDef
 obtain ⟨m, a, b, rfl, h1, h2⟩ := ty_struct2 h hu
 rw [hf] at h1
 rw [hg] at h2
 obtain ⟨c, rfl, hc⟩ := ty3' h1
 obtain ⟨r, rfl, hr⟩ := ty3' h2
 exact ⟨c, r, rfl, hc, hr⟩
theorem tyCat {n : Nat} {x : D} (h : Ty Tryd.prog n 28 x) : ∃ ts, x = catD ts /\ ts.length <= maxLen /\ ∀ t ∈ ts, ∃ c r, t = defD c r /\ inR c = true /\ inR r = true := by
 obtain ⟨f, hu, hf⟩ := uCat
 obtain ⟨m, a, rfl, h1⟩ := ty_struct1 h hu
 rw [hf] at h1
 obtain ⟨m, ts, rfl, hl, hp⟩ := ty_slice h1 uDefs
 exact ⟨ts, rfl, hl, fun t ht => tyDef (hp t ht)⟩
/-- A query's lists. -/
structure QOK (q : D) : Prop where
 eq : q = .agg [.slice (qOcc q) [], .slice (qP q) [], litI (qBy q), .slice (qSums q) [], .slice (qOut q) [], litI (qOrd q)]
 occ : (qOcc q).length <= maxLen
 p : (qP q).length <= maxLen
 sums : (qSums q).length <= maxLen
 out : (qOut q).length <= maxLen
 e : ∀ e ∈ qP q, ∃ m, Ty Tryd.prog m 40 e
 o : ∀ x ∈ qOcc q, ∃ z, x = litI z /\ inR z = true
 s : ∀ x ∈ qSums q, ∃ z, x = litI z /\ inR z = true
 u : ∀ x ∈ qOut q, ∃ z, x = litI z /\ inR z = true
theorem tyQ {n : Nat} {x : D} (h : Ty Tryd.prog n 31 x) : QOK x := by
 obtain ⟨f0, f1, f2, f3, f4, f5, hu, t0, t1, t2, t3, t4, t5⟩ := uQry
 cases n with
 | zero => exact h.elim
 | succ n =>
  unfold Ty at h
  rw [hu] at h
  split at h <;> try (exact h.elim)
  all_goals try (simp_all; done)
  rename_i fs ps heq
  cases heq
  obtain ⟨hl, hp⟩ := h
  have h0 := hp 0 f0 rfl
  have h1 := hp 1 f1 rfl
  have h2 := hp 2 f2 rfl
  have h3 := hp 3 f3 rfl
  have h4 := hp 4 f4 rfl
  have h5 := hp 5 f5 rfl
  rw [t0] at h0
  rw [t1] at h1
  rw [t2] at h2
  rw [t3] at h3
  rw [t4] at h4
  rw [t5] at h5
  match ps, hl, h0, h1, h2, h3, h4, h5 with
  | [a, b, c, d, e, f], _, h0, h1, h2, h3, h4, h5 =>
   obtain ⟨es, rfl, l0, p0⟩ := ty27 (show Ty Tryd.prog n 22 a from h0)
   obtain ⟨m, xs, rfl, l1, p1⟩ := ty_slice (show Ty Tryd.prog n 29 b from h1) uExprs
   obtain ⟨z, rfl, _⟩ := ty3' (show Ty Tryd.prog n 3 c from h2)
   obtain ⟨us, rfl, l3, p3⟩ := ty27 (show Ty Tryd.prog n 22 d from h3)
   obtain ⟨vs, rfl, l4, p4⟩ := ty27 (show Ty Tryd.prog n 22 e from h4)
   obtain ⟨y, rfl, _⟩ := ty3' (show Ty Tryd.prog n 3 f from h5)
   exact ⟨rfl, l0, l1, l3, l4, fun e he => ⟨m, p1 e he⟩, p0, p3, p4⟩

def e70 : FuncId × TypeId × (List AV -> Bool) × (List AV -> Option D) := (70, 4, yes, ent [3, 3] (f2 fun x y => some (.lit (.bool (belowB (intD x) (intD y))))))
theorem k70 : FnOK Tryd.prog 70 Tryd.f70 := ⟨Tryd.func70, rfl, by kernel_rfl⟩
theorem c70 : ∀ args d, e70.2.2.2 args = some d -> CallOK Tryd.prog 70 args (mkRes Tryd.prog 4 d) :=
 ent2 k70 fun x y d h _ _ => by
  cases h
  rw [n3, n3]
  refine fn_ok hm envUP k70 ((t70 1 (intD x) (intD y)).trans ?_)
  rw [m4, ge_not]
  show _ = some (dat 4 (.lit (.bool (belowB (intD x) (intD y)))))
  unfold belowB
  cases decide (0 <= intD x) <;> rfl
def e30 : FuncId × TypeId × (List AV -> Bool) × (List AV -> Option D) := (30, 4, yes, ent [3, 3] (f2 fun x y => some (.lit (.bool (belowB (intD x) (intD y))))))
theorem k30 : FnOK Tryd.prog 30 Tryd.f30 := ⟨Tryd.func30, rfl, by kernel_rfl⟩
theorem c30 : ∀ args d, e30.2.2.2 args = some d -> CallOK Tryd.prog 30 args (mkRes Tryd.prog 4 d) :=
 ent2 k30 fun x y d h _ _ => by
  cases h
  rw [n3, n3]
  refine fn_ok hm envUP k30 ((t30 1 (intD x) (intD y)).trans ?_)
  rw [m4, ge_not]
  show _ = some (dat 4 (.lit (.bool (belowB (intD x) (intD y)))))
  unfold belowB
  cases decide (0 <= intD x) <;> rfl
def e29 : FuncId × TypeId × (List AV -> Bool) × (List AV -> Option D) := (29, 43, yes, ent [43] (f1 fun x => some (orZeroD x)))
theorem k29 : FnOK Tryd.prog 29 Tryd.f29 := ⟨Tryd.func29, rfl, by kernel_rfl⟩
theorem c29 : ∀ args d, e29.2.2.2 args = some d -> CallOK Tryd.prog 29 args (mkRes Tryd.prog 43 d) :=
 ent1 k29 fun x d h _ => by
  cases h
  rw [nDef]
  refine fn_ok hm envUP k29 ((t29 1 x).trans ?_)
  rw [mDef, mayDef_tree]
  unfold orZeroD
  cases mayDef x <;> rfl
def e16 : FuncId × TypeId × (List AV -> Bool) × (List AV -> Option D) := (16, 49, yes, ent [] (f0 (some (.agg [catTwo, dataTwo]))))
theorem k16 : FnOK Tryd.prog 16 Tryd.f16 := ⟨Tryd.func16, rfl, by kernel_rfl⟩
theorem c16 : ∀ args d, e16.2.2.2 args = some d -> CallOK Tryd.prog 16 args (mkRes Tryd.prog 49 d) :=
 ent0 fun d h => by
  cases h
  refine fn_ok hm envUP k16 ((t16 1).trans ?_)
  rw [mTCD]
  rfl
def e44 : FuncId × TypeId × (List AV -> Bool) × (List AV -> Option D) := (44, 4, yes, ent [22, 3] (f2 fun x y => some (.lit (.bool (hasB (elemsD x) (intD y))))))
theorem k44 : FnOK Tryd.prog 44 Tryd.f44 := ⟨Tryd.func44, rfl, by kernel_rfl⟩
theorem c44 : ∀ args d, e44.2.2.2 args = some d -> CallOK Tryd.prog 44 args (mkRes Tryd.prog 4 d) :=
 ent2 k44 fun x y d h _ _ => by
  cases h
  rw [n27, n3]
  refine fn_ok hm envUP k44 ((t44 1 x (intD y)).trans ?_)
  rw [m4]
  show _ = some (dat 4 (.lit (.bool (hasB (elemsD x) (intD y)))))
  have : decide (Lib.idxOf ((elemsD x).map intD) (intD y) >= 0) = hasB (elemsD x) (intD y) := by
   unfold hasB
   rw [Bool.eq_iff_iff, decide_eq_true_eq]
   have := Lib.idxOf_nonneg_iff ((elemsD x).map intD) (intD y)
   exact Iff.of_eq this
  rw [this]
def e54 : FuncId × TypeId × (List AV -> Bool) × (List AV -> Option D) := (54, 57, preD (q1 fun x => decide (0 <= intD x)), ent [3] (f1 fun x => some (.lit (.int .i64 (aloneI (intD x))))))
theorem k54 : FnOK Tryd.prog 54 Tryd.f54 := ⟨Tryd.func54, rfl, by kernel_rfl⟩
theorem c54 : ∀ args d, e54.2.2.1 args = true -> e54.2.2.2 args = some d -> CallOK Tryd.prog 54 args (mkRes Tryd.prog 57 d) :=
 ent1p k54 fun x d hq h _ => by
  cases h
  rw [n3]
  refine fn_ok hm envUP k54 ((t54 1 (intD x)).trans ?_)
  have hq : decide (0 <= intD x) = true := hq
  rw [mOcs, hq]
  rfl
def hasF : List D -> Option D := f2 fun x y => some (.lit (.bool (hasS (intD x) (intD y))))
def e26 : FuncId × TypeId × (List AV -> Bool) × (List AV -> Option D) := (26, 4, yes, fun xs => match ent [3, 3] hasF xs with | some d => some d | none => ent [3, 57] hasF xs)
theorem k26 : FnOK Tryd.prog 26 Tryd.f26 := ⟨Tryd.func26, rfl, by kernel_rfl⟩
theorem c26 : ∀ args d, e26.2.2.2 args = some d -> CallOK Tryd.prog 26 args (mkRes Tryd.prog 4 d) := by
 intro args d h
 have h1 : ∀ args d, ent [3, 3] hasF args = some d -> CallOK Tryd.prog 26 args (mkRes Tryd.prog 4 d) := ent2 k26 fun x y d h _ _ => by
  cases h
  rw [n3, n3]
  exact fn_ok hm envUP k26 ((t26_i 1 (intD x) (intD y)).trans (by rw [m4]; rfl))
 have h2 : ∀ args d, ent [3, 57] hasF args = some d -> CallOK Tryd.prog 26 args (mkRes Tryd.prog 4 d) := ent2 k26 fun x y d h _ _ => by
  cases h
  rw [n3, nOcs]
  exact fn_ok hm envUP k26 ((t26_s 1 (intD x) (intD y)).trans (by rw [m4]; rfl))
 cases he : ent [3, 3] hasF args with
 | some d' =>
  have h : (match ent [3, 3] hasF args with | some d => some d | none => ent [3, 57] hasF args) = some d := h
  rw [he] at h
  cases h
  exact h1 args _ he
 | none =>
  have h : (match ent [3, 3] hasF args with | some d => some d | none => ent [3, 57] hasF args) = some d := h
  rw [he] at h
  exact h2 args _ h
theorem few_loop {N : Nat} {c q : D} (hl : (elemsD (fieldD q 1)).length <= maxLen) : ∀ (n i : Nat) (b : Bool), i <= (elemsD (fieldD q 1)).length -> (elemsD (fieldD q 1)).length - i < n ->
  t18_lp3 Tryd.prog Tryd.f18 N n c q b (i : Int) = some (dat 4 (.lit (.bool (b && ((elemsD (fieldD q 1)).drop i).all fun e => fewB e 60))))
 | 0, i, b, _, h => by omega
 | n + 1, i, b, hi, h => by
  rw [t18_lp3_step]
  by_cases hlt : i < (elemsD (fieldD q 1)).length
  ·rw [l_idx hlt, l_lt hlt, List.drop_eq_getElem_cons hlt, List.all_cons, Int.toNat_natCast, l_get hlt, l_wrap hl hlt]
   cases b with
   | false => rfl
   | true => exact (few_loop (N := N) (c := c) hl n (i + 1) _ (by omega) (by omega)).trans (by rw [Bool.true_and])
  ·rw [l_ge hlt, List.drop_of_length_le (by omega), List.all_nil, Bool.and_true]
   rfl
def e18 : FuncId × TypeId × (List AV -> Bool) × (List AV -> Option D) := (18, 4, yes, ent [28, 31] (f2 fun x y => some (.lit (.bool (fewQ fewB x y)))))
theorem k18 : FnOK Tryd.prog 18 Tryd.f18 := ⟨Tryd.func18, rfl, by kernel_rfl⟩
theorem natLe {a : Nat} {b : Nat} : decide ((a : Int) <= (b : Int)) = decide (a <= b) := by rw [Bool.eq_iff_iff, decide_eq_true_eq, decide_eq_true_eq]; omega
theorem c18 : ∀ args d, e18.2.2.2 args = some d -> CallOK Tryd.prog 18 args (mkRes Tryd.prog 4 d) :=
 ent2 k18 fun x y d h _ ⟨_, hy⟩ => by
  cases h
  rw [nCat, nQry]
  have hq := tyQ hy
  have hl : (elemsD (fieldD y 1)).length <= maxLen := hq.p
  refine fn_ok hm envUP k18 ((t18 ((elemsD (fieldD y 1)).length + 1) x y).trans ?_)
  have lp : ∀ b, t18_lp3 Tryd.prog Tryd.f18 ((elemsD (fieldD y 1)).length + 1) ((elemsD (fieldD y 1)).length + 1) x y b 0 = some (dat 4 (.lit (.bool (b && (elemsD (fieldD y 1)).all fun e => fewB e 60)))) :=
   fun b => (few_loop hl _ 0 b (Nat.zero_le _) (by omega)).trans (by rw [List.drop_zero])
  rw [m4, lp, lp]
  show _ = some (dat 4 (.lit (.bool (fewQ fewB x y))))
  unfold fewQ tabs qOcc qP qSums qOut
  rw [show ((10 : Int)) = ((10 : Nat) : Int) from rfl, show ((20 : Int)) = ((20 : Nat) : Int) from rfl, show ((8 : Int)) = ((8 : Nat) : Int) from rfl, natLe, natLe, natLe, natLe, natLe]
  generalize decide ((elemsD (fieldD x 0)).length <= 10) = b1
  generalize decide ((elemsD (fieldD y 0)).length <= 20) = b2
  generalize decide ((elemsD (fieldD y 1)).length <= 8) = b3
  generalize decide ((elemsD (fieldD y 3)).length <= 20) = b4
  generalize decide ((elemsD (fieldD y 4)).length <= 20) = b5
  generalize ((elemsD (fieldD y 1)).all fun e => fewB e 60) = b6
  cases b1 <;> cases b2 <;> cases b3 <;> cases b4 <;> rfl
def Q1 : Tab := e18 :: e26 :: e54 :: e44 :: e16 :: e29 :: e30 :: e70 :: UP
theorem envQ1 : EnvOK Tryd.prog (envH Q1 []) := envOK_cons (envOK_cons (envOK_cons' (envOK_cons (envOK_cons (envOK_cons (envOK_cons (envOK_cons envUP c70) c30) c29) c16) c44) c54) c26) c18

end X
end
section
namespace X
open Go.Ev
set_option linter.unusedVariables false
/- roadbook/data.Split -/
def t52_h : Hints := fun _ =>  none
theorem t52 (N : Nat) (x0 : Int) : evFn Tryd.prog (envR Q1 [] [] []) t52_h N Tryd.f52 [dat 3 (.lit (.int .i64 x0))] =
 bif (!(belowB x0 16)) then
  some (tupA [3, 3, 4] (.agg [.lit (.int .i64 0), .lit (.int .i64 0), .lit (.bool false)]))
 else some (tupA [3, 3, 4] (.agg [.lit (.int .i64 (IntKind.wrap .i64 (Int.tdiv x0 4))), .lit (.int .i64 (Int.tmod x0 4)), .lit (.bool true)])) := by kernel_rfl

/- roadbook/data.May -/
def t19_h : Hints := fun i => if i = 4 then some ([0, 1, 2, 3, 4, 5, 6, 7, 8, 9, 10, 11, 12, 13, 14, 15, 19, 20, 21, 22, 23, 24, 25, 26], [], []) else none
def t19_lp4 (P : Program) (fn : Func) (N n : Nat) (x0 : D) (v18 : Int) : Option AV := evLoop (preL t19_h (sub [1, 1, 0, 1, 0, 0] (bodyOf fn))) (evCode P (envR Q1 [] [] []) t19_h N (sub [1, 1, 0, 1, 0, 0] (bodyOf fn))) n ⟨[dead, dead, dead, dead, dead, dead, dead, dead, dead, dead, dead, dead, dead, dead, dead, dead, dat 26 (fieldD x0 0), dat 3 (.lit (.int .i64 ((elemsD (fieldD x0 0)).length : Int))), dat 3 (.lit (.int .i64 v18)), dead, dead, dead, dead, dead, dead, dead, dead], lookB []⟩ (blockK 0 (seqC P (envR Q1 [] [] []) t19_h N (sub [1, 1, 1] (bodyOf fn)) (finK P fn) ))
theorem t19_lp4_step (N n : Nat) (x0 : D) (v18 : Int) : t19_lp4 Tryd.prog Tryd.f19 N (n + 1) x0 v18 =
 bif decide (v18 < ((elemsD (fieldD x0 0)).length : Int)) then
  bif (decide (0 <= v18) && decide (v18 < ((elemsD (fieldD x0 0)).length : Int))) then
   bif (((intD (fieldD (orZeroD ((elemsD (fieldD x0 0)).getD (v18).toNat .nil)) 0)) == 0) && (((intD (fieldD (orZeroD ((elemsD (fieldD x0 0)).getD (v18).toNat .nil)) 1)) == 0) && true)) then
    some (dat 4 (.lit (.bool false)))
   else t19_lp4 Tryd.prog Tryd.f19 N n x0 (IntKind.wrap .i64 (v18 + 1))
  else none
 else some (dat 4 (.lit (.bool true))) := by kernel_rfl
theorem t19 (N : Nat) (x0 : D) : evFn Tryd.prog (envR Q1 [] [] []) t19_h N Tryd.f19 [dat 28 x0] =
 bif ((decide (((elemsD (fieldD x0 0)).length : Int) < 1)) == false) then
  bif decide (((elemsD (fieldD x0 0)).length : Int) > 4) then
   some (dat 4 (.lit (.bool false)))
  else t19_lp4 Tryd.prog Tryd.f19 N N x0 0
 else some (dat 4 (.lit (.bool false))) := by kernel_rfl

/- roadbook/query.occurrencesMay -/
def t20_h : Hints := fun i => if i = 4 then some ([0, 1, 4, 5, 6, 7, 8, 9, 10, 11, 12, 13, 14, 15, 16, 17, 20, 21, 22, 23, 24, 25, 26, 27, 28, 29, 30, 31, 32], [2, 3], []) else none
def t20_lp4 (P : Program) (fn : Func) (N n : Nat) (x0 : D) (x1 : D) (v19 : Int) : Option AV := evLoop (preL t20_h (sub [1, 1, 0, 1, 0, 0] (bodyOf fn))) (evCode P (envR Q1 [] [] []) t20_h N (sub [1, 1, 0, 1, 0, 0] (bodyOf fn))) n ⟨[dead, dead, bxp 2 28, bxp 3 31, dead, dead, dead, dead, dead, dead, dead, dead, dead, dead, dead, dead, dead, dead, dat 3 (.lit (.int .i64 ((elemsD (fieldD x1 0)).length : Int))), dat 3 (.lit (.int .i64 v19)), dead, dead, dead, dead, dead, dead, dead, dead, dead, dead, dead, dead, dead], lookB [(2, some ⟨28, x0, 0, none⟩), (3, some ⟨31, x1, 0, none⟩)]⟩ (blockK 0 (seqC P (envR Q1 [] [] []) t20_h N (sub [1, 1, 1] (bodyOf fn)) (finK P fn) ))
theorem t20_lp4_step (N n : Nat) (x0 : D) (x1 : D) (v19 : Int) : t20_lp4 Tryd.prog Tryd.f20 N (n + 1) x0 x1 v19 =
 bif decide (v19 < ((elemsD (fieldD x1 0)).length : Int)) then
  bif (decide (0 <= v19) && decide (v19 < ((elemsD (fieldD x1 0)).length : Int))) then
   bif (!(belowB (intD ((elemsD (fieldD x1 0)).getD (v19).toNat .nil)) ((elemsD (fieldD x0 0)).length : Int))) then
    some (dat 4 (.lit (.bool false)))
   else t20_lp4 Tryd.prog Tryd.f20 N n x0 x1 (IntKind.wrap .i64 (v19 + 1))
  else none
 else some (dat 4 (.lit (.bool true))) := by kernel_rfl
theorem t20 (N : Nat) (x0 : D) (x1 : D) : evFn Tryd.prog (envR Q1 [] [] []) t20_h N Tryd.f20 [dat 28 x0, dat 31 x1] =
 bif ((decide (((elemsD (fieldD x1 0)).length : Int) < 1)) == false) then
  bif decide (((elemsD (fieldD x1 0)).length : Int) > 4) then
   some (dat 4 (.lit (.bool false)))
  else t20_lp4 Tryd.prog Tryd.f20 N N x0 x1 0
 else some (dat 4 (.lit (.bool false))) := by kernel_rfl

end X
end
section
namespace X
open Go.Ev
set_option linter.unusedVariables false
set_option maxRecDepth 10000
set_option linter.unusedSimpArgs false

theorem any_not (l : List D) (f : D -> Bool) : l.any (fun x => !f x) = !l.all f := by rw [List.all_eq_not_any_not, Bool.not_not]
theorem any_may (ts : List D) : ts.any (fun t => !mayDef t) = !ts.all mayDef := any_not ts mayDef
theorem natLt (k : Nat) {a : Nat} : decide ((a : Int) < (k : Int)) = !decide (k <= a) := by by_cases h : k <= a <;> simp [h] <;> omega
theorem natGt (k : Nat) {a : Nat} : decide ((a : Int) > (k : Int)) = !decide (a <= k) := by by_cases h : a <= k <;> simp [h] <;> omega
theorem natGt0 {l : List D} : decide ((l.length : Int) > 0) = !l.isEmpty := by cases l <;> simp
theorem natEq0 {l : List D} : ((l.length : Int) == 0) = l.isEmpty := by
 cases l with
 | nil => rfl
 | cons a l => rw [beq_eq_false_iff_ne.2 (by rw [List.length_cons]; omega)]; rfl
theorem split_nonneg (z : Int) : 0 <= splitA z /\ splitA z < 4 := by
 by_cases h : 0 <= z /\ z < 16
 ·rw [(split_in h).1]; omega
 ·rw [(split_out h).1]; omega
theorem wrap_div {z : Int} (h : 0 <= z /\ z < 16) : IntKind.wrap .i64 (Int.tdiv z 4) = z / 4 := by
 rw [Int.tdiv_eq_ediv_of_nonneg h.1, l_wrapI (l_in (by omega) (by omega))]
def e52 : FuncId × TypeId × (List AV -> Bool) × (List AV -> Option D) := (52, 73, yes, ent [3] (f1 fun x => some (.agg [.lit (.int .i64 (splitA (intD x))), .lit (.int .i64 (splitB (intD x))), .lit (.bool (belowB (intD x) 16))])))
theorem k52 : FnOK Tryd.prog 52 Tryd.f52 := ⟨Tryd.func52, rfl, by kernel_rfl⟩
theorem c52 : ∀ args d, e52.2.2.2 args = some d -> CallOK Tryd.prog 52 args (mkRes Tryd.prog 73 d) :=
 ent1 k52 fun x d h _ => by
  cases h
  rw [n3]
  refine fn_ok hm envQ1 k52 ((t52 1 (intD x)).trans ?_)
  rw [mIIB]
  generalize intD x = z
  cases h1 : belowB z 16 with
  | false =>
   obtain ⟨a, b⟩ := split_out (z := z) (below_not.1 h1)
   rw [a, b]; rfl
  | true =>
   have h2 := below_iff.1 h1
   obtain ⟨a, b⟩ := split_in h2
   rw [a, b, wrap_div h2, Int.tmod_eq_emod_of_nonneg h2.1]; rfl

def e19 : FuncId × TypeId × (List AV -> Bool) × (List AV -> Option D) := (19, 4, yes, ent [28] (f1 fun x => some (.lit (.bool (mayCat x)))))
theorem k19 : FnOK Tryd.prog 19 Tryd.f19 := ⟨Tryd.func19, rfl, by kernel_rfl⟩
theorem c19 : ∀ args d, e19.2.2.2 args = some d -> CallOK Tryd.prog 19 args (mkRes Tryd.prog 4 d) :=
 ent1 k19 fun x d h ⟨_, hx⟩ => by
  cases h
  rw [nCat]
  obtain ⟨ts, rfl, hl, _⟩ := tyCat hx
  refine fn_ok hm envQ1 k19 ((t19 (ts.length + 1) (catD ts)).trans ?_)
  rw [m4, tabs_cat]
  have := l_loop (fun n v => t19_lp4 Tryd.prog Tryd.f19 (ts.length + 1) n (catD ts) v) ts.length (fun i => !mayDef (ts.getD i .nil)) (some (dat 4 (.lit (.bool false)))) (some (dat 4 (.lit (.bool true))))
   (fun n i hi => by
    rw [t19_lp4_step, tabs_cat, l_idx hi, l_lt hi, Int.toNat_natCast, orZero_zero, l_wrap hl hi, cond_true, cond_true])
   (fun n => by rw [t19_lp4_step, tabs_cat, l_ge (by omega), cond_false]) (ts.length + 1) 0 (Nat.zero_le _) (by omega)
  have this : t19_lp4 Tryd.prog Tryd.f19 (ts.length + 1) (ts.length + 1) (catD ts) 0 = _ := this
  rw [this, Nat.sub_zero, l_any0 ts (fun t => !mayDef t), any_may]
  show _ = some (dat 4 (.lit (.bool ((decide (1 <= ts.length) && decide (ts.length <= 4)) && ts.all mayDef))))
  by_cases h1 : 1 <= ts.length
  ·by_cases h4 : ts.length <= 4
   ·rw [dF (show ¬ ((ts.length : Int)) < 1 by omega), dF (show ¬ ((ts.length : Int)) > 4 by omega), dT h1, dT h4]
    cases ts.all mayDef <;> rfl
   ·rw [dF (show ¬ ((ts.length : Int)) < 1 by omega), dT (show ((ts.length : Int)) > 4 by omega), dT h1, dF h4]
    rfl
  ·rw [dT (show ((ts.length : Int)) < 1 by omega), dF h1]
   rfl

def e20 : FuncId × TypeId × (List AV -> Bool) × (List AV -> Option D) := (20, 4, yes, ent [28, 31] (f2 fun x y => some (.lit (.bool (occMayB x y)))))
theorem k20 : FnOK Tryd.prog 20 Tryd.f20 := ⟨Tryd.func20, rfl, by kernel_rfl⟩
theorem c20 : ∀ args d, e20.2.2.2 args = some d -> CallOK Tryd.prog 20 args (mkRes Tryd.prog 4 d) :=
 ent2 k20 fun x y d h _ ⟨_, hy⟩ => by
  cases h
  rw [nCat, nQry]
  have hq : (elemsD (fieldD y 0)).length <= maxLen := (tyQ hy).occ
  refine fn_ok hm envQ1 k20 ((t20 ((elemsD (fieldD y 0)).length + 1) x y).trans ?_)
  have lp : t20_lp4 Tryd.prog Tryd.f20 ((elemsD (fieldD y 0)).length + 1) ((elemsD (fieldD y 0)).length + 1) x y 0 = some (dat 4 (.lit (.bool ((elemsD (fieldD y 0)).all fun o => belowB (intD o) ((elemsD (fieldD x 0)).length : Int))))) := by
   have := l_loop (fun n v => t20_lp4 Tryd.prog Tryd.f20 ((elemsD (fieldD y 0)).length + 1) n x y v) (elemsD (fieldD y 0)).length (fun i => !belowB (intD ((elemsD (fieldD y 0)).getD i .nil)) ((elemsD (fieldD x 0)).length : Int)) (some (dat 4 (.lit (.bool false)))) (some (dat 4 (.lit (.bool true))))
    (fun n i hi => by rw [t20_lp4_step, l_idx hi, l_lt hi, cond_true, cond_true, Int.toNat_natCast, l_wrap hq hi])
    (fun n => by rw [t20_lp4_step, l_ge (by omega), cond_false]) ((elemsD (fieldD y 0)).length + 1) 0 (Nat.zero_le _) (by omega)
   refine this.trans ?_
   rw [Nat.sub_zero, l_any0 (elemsD (fieldD y 0)) (fun o => !belowB (intD o) ((elemsD (fieldD x 0)).length : Int)), any_not]
   cases (elemsD (fieldD y 0)).all fun o => belowB (intD o) ((elemsD (fieldD x 0)).length : Int) <;> rfl
  rw [m4, lp]
  show _ = some (dat 4 (.lit (.bool (occMayB x y))))
  unfold occMayB qOcc tabs
  rw [show decide (((elemsD (fieldD y 0)).length : Int) < 1) = _ from natLt 1, show decide (((elemsD (fieldD y 0)).length : Int) > 4) = _ from natGt 4]
  cases decide (1 <= (elemsD (fieldD y 0)).length) <;> cases decide ((elemsD (fieldD y 0)).length <= 4) <;> rfl
def Q2 : Tab := e20 :: e19 :: e52 :: Q1
theorem envQ2 : EnvOK Tryd.prog (envH Q2 []) := envOK_cons (envOK_cons (envOK_cons envQ1 c52) c19) c20

end X
end
section
namespace X
open Go.Ev
set_option linter.unusedVariables false
/- roadbook/query.isColumn -/
def t43_h : Hints := fun _ =>  none
theorem t43 (N : Nat) (x0 : D) (x1 : D) (x2 : Int) : evFn Tryd.prog (envR Q2 [] [] []) t43_h N Tryd.f43 [dat 28 x0, dat 31 x1, dat 3 (.lit (.int .i64 x2))] =
 bif ((belowB x2 16) == true) then
  bif ((decide ((splitA x2) < ((elemsD (fieldD x1 0)).length : Int))) == true) then
   bif (decide (0 <= (splitA x2)) && decide ((splitA x2) < ((elemsD (fieldD x1 0)).length : Int))) then
    bif (decide (0 <= (intD ((elemsD (fieldD x1 0)).getD (splitA x2).toNat .nil))) && decide ((intD ((elemsD (fieldD x1 0)).getD (splitA x2).toNat .nil)) < ((elemsD (fieldD x0 0)).length : Int))) then
     some (dat 4 (.lit (.bool (decide ((splitB x2) < (intD (fieldD ((elemsD (fieldD x0 0)).getD (intD ((elemsD (fieldD x1 0)).getD (splitA x2).toNat .nil)).toNat .nil) 0)))))))
    else none
   else none
  else some (dat 4 (.lit (.bool false)))
 else some (dat 4 (.lit (.bool false))) := by kernel_rfl

/- roadbook/query.ofColumn -/
def t46_h : Hints := fun _ =>  none
theorem t46 (N : Nat) (x0 : Int) : evFn Tryd.prog (envR Q2 [] [] []) t46_h N Tryd.f46 [dat 3 (.lit (.int .i64 x0))] =
 bif decide (0 <= (splitA x0)) then
  some (dat 57 (.lit (.int .i64 (aloneI (splitA x0)))))
 else none := by kernel_rfl

end X
end
section
namespace X
open Go.Ev
set_option linter.unusedVariables false
set_option maxRecDepth 10000
set_option linter.unusedSimpArgs false

theorem occ_below {c q : D} (h : occMayB c q = true) {i : Nat} (hi : i < (qOcc q).length) : 0 <= intD ((qOcc q).getD i .nil) /\ intD ((qOcc q).getD i .nil) < ((tabs c).length : Int) := by
 unfold occMayB at h
 rw [Bool.and_eq_true, List.all_eq_true] at h
 have := h.2 _ (List.getElem_mem hi)
 rw [l_get hi]
 exact below_iff.1 this
def e43 : FuncId × TypeId × (List AV -> Bool) × (List AV -> Option D) := (43, 4, preD (q3 fun x y _ => occMayB x y), ent [28, 31, 3] (f3 fun x y z => some (.lit (.bool (isColB x y (intD z))))))
theorem k43 : FnOK Tryd.prog 43 Tryd.f43 := ⟨Tryd.func43, rfl, by kernel_rfl⟩
theorem c43 : ∀ args d, e43.2.2.1 args = true -> e43.2.2.2 args = some d -> CallOK Tryd.prog 43 args (mkRes Tryd.prog 4 d) :=
 ent3p k43 fun x y z d hq h _ _ _ => by
  cases h
  rw [nCat, nQry, n3]
  refine fn_ok hm envQ2 k43 ((t43 1 x y (intD z)).trans ?_)
  rw [m4]
  show _ = some (dat 4 (.lit (.bool (isColB x y (intD z)))))
  generalize intD z = v
  unfold isColB
  obtain ⟨h0, _⟩ := split_nonneg v
  cases h1 : belowB v 16 with
  | false => rfl
  | true =>
   by_cases h2 : splitA v < ((qOcc y).length : Int)
   ·have h2' : splitA v < ((elemsD (fieldD y 0)).length : Int) := h2
    have hb := occ_below hq (i := (splitA v).toNat) (by omega)
    have b1 : 0 <= intD ((elemsD (fieldD y 0)).getD (splitA v).toNat .nil) := hb.1
    have b2 : intD ((elemsD (fieldD y 0)).getD (splitA v).toNat .nil) < ((elemsD (fieldD x 0)).length : Int) := hb.2
    rw [dT h2, dT h2', dT h0, dT b1, dT b2]
    rfl
   ·have h2' : ¬ splitA v < ((elemsD (fieldD y 0)).length : Int) := h2
    rw [dF h2, dF h2']
    rfl
def e46 : FuncId × TypeId × (List AV -> Bool) × (List AV -> Option D) := (46, 57, yes, ent [3] (f1 fun x => some (.lit (.int .i64 (ofColI (intD x))))))
theorem k46 : FnOK Tryd.prog 46 Tryd.f46 := ⟨Tryd.func46, rfl, by kernel_rfl⟩
theorem c46 : ∀ args d, e46.2.2.2 args = some d -> CallOK Tryd.prog 46 args (mkRes Tryd.prog 57 d) :=
 ent1 k46 fun x d h _ => by
  cases h
  rw [n3]
  refine fn_ok hm envQ2 k46 ((t46 1 (intD x)).trans ?_)
  rw [mOcs, dT (split_nonneg (intD x)).1]
  rfl
def Q3 : Tab := e46 :: e43 :: Q2
theorem envQ3 : EnvOK Tryd.prog (envH Q3 []) := envOK_cons (envOK_cons' envQ2 c43) c46

end X
end
section
namespace X
open Go.Ev
set_option linter.unusedVariables false
/- roadbook/query.areColumns -/
def t32_h : Hints := fun i => if i = 2 then some ([0, 1, 2, 5, 6, 7, 8, 12, 13, 14, 15, 16, 17, 18, 19, 20], [3, 4], []) else none
def t32_lp2 (P : Program) (fn : Func) (N n : Nat) (x0 : D) (x1 : D) (x2 : D) (v11 : Int) : Option AV := evLoop (preL t32_h (sub [1, 0, 1, 0, 0] (bodyOf fn))) (evCode P (envR Q3 [] [] []) t32_h N (sub [1, 0, 1, 0, 0] (bodyOf fn))) n ⟨[dead, dead, dead, bxp 3 28, bxp 4 31, dead, dead, dead, dead, dat 22 x2, dat 3 (.lit (.int .i64 ((elemsD x2).length : Int))), dat 3 (.lit (.int .i64 v11)), dead, dead, dead, dead, dead, dead, dead, dead, dead], lookB [(3, some ⟨28, x0, 0, none⟩), (4, some ⟨31, x1, 0, none⟩)]⟩ (blockK 0 (seqC P (envR Q3 [] [] []) t32_h N (sub [1, 1] (bodyOf fn)) (finK P fn) ))
theorem t32_lp2_step (N n : Nat) (x0 : D) (x1 : D) (x2 : D) (v11 : Int) : t32_lp2 Tryd.prog Tryd.f32 N (n + 1) x0 x1 x2 v11 =
 bif decide (v11 < ((elemsD x2).length : Int)) then
  bif (decide (0 <= v11) && decide (v11 < ((elemsD x2).length : Int))) then
   bif occMayB x0 x1 then
    bif (!(isColB x0 x1 (intD ((elemsD x2).getD (v11).toNat .nil)))) then
     some (dat 4 (.lit (.bool false)))
    else t32_lp2 Tryd.prog Tryd.f32 N n x0 x1 x2 (IntKind.wrap .i64 (v11 + 1))
   else none
  else none
 else some (dat 4 (.lit (.bool true))) := by kernel_rfl
theorem t32 (N : Nat) (x0 : D) (x1 : D) (x2 : D) : evFn Tryd.prog (envR Q3 [] [] []) t32_h N Tryd.f32 [dat 28 x0, dat 31 x1, dat 22 x2] =
 t32_lp2 Tryd.prog Tryd.f32 N N x0 x1 x2 0 := by kernel_rfl

/- roadbook/query.Of -/
def t36_h : Hints := fun i => if i = 3 then some ([0, 1, 2, 4, 5, 6, 10, 11, 12, 13, 14, 15, 16, 17, 18], [], []) else none
def t36_lp3 (P : Program) (fn : Func) (N n : Nat) (x0 : D) (v3 : Int) (v9 : Int) : Option AV := evLoop (preL t36_h (sub [1, 1, 0, 1, 0, 0] (bodyOf fn))) (evCode P (envR Q3 [] [] []) t36_h N (sub [1, 1, 0, 1, 0, 0] (bodyOf fn))) n ⟨[dead, dead, dead, dat 57 (.lit (.int .i64 v3)), dead, dead, dead, dat 22 (.slice (colsE x0) []), dat 3 (.lit (.int .i64 ((colsE x0).length : Int))), dat 3 (.lit (.int .i64 v9)), dead, dead, dead, dead, dead, dead, dead, dead, dead], lookB []⟩ (blockK 0 (seqC P (envR Q3 [] [] []) t36_h N (sub [1, 1, 1] (bodyOf fn)) (finK P fn) ))
theorem t36_lp3_step (N n : Nat) (x0 : D) (v3 : Int) (v9 : Int) : t36_lp3 Tryd.prog Tryd.f36 N (n + 1) x0 v3 v9 =
 bif decide (v9 < ((colsE x0).length : Int)) then
  bif (decide (0 <= v9) && decide (v9 < ((colsE x0).length : Int))) then
   t36_lp3 Tryd.prog Tryd.f36 N n x0 (orI .i64 v3 (ofColI (intD ((colsE x0).getD (v9).toNat .nil)))) (IntKind.wrap .i64 (v9 + 1))
  else none
 else some (dat 3 (.lit (.int .i64 v3))) := by kernel_rfl
theorem t36 (N : Nat) (x0 : D) : evFn Tryd.prog (envR Q3 [] [] []) t36_h N Tryd.f36 [dat 40 x0] =
 t36_lp3 Tryd.prog Tryd.f36 N N x0 0 0 := by kernel_rfl

end X
end
section
namespace X
open Go.Ev
set_option linter.unusedVariables false
set_option maxRecDepth 10000
set_option linter.unusedSimpArgs false

def e32 : FuncId × TypeId × (List AV -> Bool) × (List AV -> Option D) := (32, 4, preD (q3 fun x y _ => occMayB x y), ent [28, 31, 22] (f3 fun x y z => some (.lit (.bool (areColB x y (elemsD z))))))
theorem k32 : FnOK Tryd.prog 32 Tryd.f32 := ⟨Tryd.func32, rfl, by kernel_rfl⟩
theorem c32 : ∀ args d, e32.2.2.1 args = true -> e32.2.2.2 args = some d -> CallOK Tryd.prog 32 args (mkRes Tryd.prog 4 d) :=
 ent3p k32 fun x y z d hq h _ _ ⟨_, hz⟩ => by
  cases h
  rw [nCat, nQry, n27]
  have hl := len27 hz
  have hq : occMayB x y = true := hq
  refine fn_ok hm envQ3 k32 ((t32 ((elemsD z).length + 1) x y z).trans ?_)
  rw [m4]
  have := l_loop (fun n v => t32_lp2 Tryd.prog Tryd.f32 ((elemsD z).length + 1) n x y z v) (elemsD z).length (fun i => !isColB x y (intD ((elemsD z).getD i .nil))) (some (dat 4 (.lit (.bool false)))) (some (dat 4 (.lit (.bool true))))
   (fun n i hi => by rw [t32_lp2_step, l_idx hi, l_lt hi, hq, cond_true, cond_true, cond_true, Int.toNat_natCast, l_wrap hl hi])
   (fun n => by rw [t32_lp2_step, l_ge (by omega), cond_false]) ((elemsD z).length + 1) 0 (Nat.zero_le _) (by omega)
  refine this.trans ?_
  rw [Nat.sub_zero, l_any0 (elemsD z) (fun o => !isColB x y (intD o)), any_not]
  show _ = some (dat 4 (.lit (.bool (areColB x y (elemsD z)))))
  unfold areColB
  cases (elemsD z).all fun x_1 => isColB x y (intD x_1) <;> rfl
theorem cols_len (e : D) : (colsE e).length <= 16 := cols_few e
theorem of_loop {N : Nat} {e : D} : ∀ (n i : Nat) (s : Int), i <= (colsE e).length -> (colsE e).length - i < n -> t36_lp3 Tryd.prog Tryd.f36 N n e s (i : Int) = some (dat 3 (.lit (.int .i64 (ofFrom s ((colsE e).drop i)))))
 | 0, i, s, _, h => by omega
 | n + 1, i, s, hi, h => by
  rw [t36_lp3_step]
  by_cases hlt : i < (colsE e).length
  ·rw [l_idx hlt, l_lt hlt, cond_true, cond_true, Int.toNat_natCast, l_get hlt, l_wrap (Nat.le_trans (cols_len e) (by unfold maxLen; omega)) hlt, of_loop n (i + 1) _ (by omega) (by omega), List.drop_eq_getElem_cons hlt]
   rfl
  ·rw [l_ge hlt, cond_false, List.drop_of_length_le (by omega)]
   rfl
def e36 : FuncId × TypeId × (List AV -> Bool) × (List AV -> Option D) := (36, 3, yes, ent [40] (f1 fun x => some (.lit (.int .i64 (ofE x)))))
theorem k36 : FnOK Tryd.prog 36 Tryd.f36 := ⟨Tryd.func36, rfl, by kernel_rfl⟩
theorem c36 : ∀ args d, e36.2.2.2 args = some d -> CallOK Tryd.prog 36 args (mkRes Tryd.prog 3 d) :=
 ent1 k36 fun x d h _ => by
  cases h
  rw [n26]
  refine fn_ok hm envQ3 k36 ((t36 ((colsE x).length + 1) x).trans ?_)
  rw [m3]
  exact of_loop _ 0 0 (Nat.zero_le _) (by omega)
def Q4 : Tab := e36 :: e32 :: Q3
theorem envQ4 : EnvOK Tryd.prog (envH Q4 []) := envOK_cons (envOK_cons' envQ3 c32) c36

end X
end
end Go.Proofs.YtanjicjomcocmaaDoor
