/- Trees: all of a set. Nothing here is trusted. -/
import Derived.Test.YtbabfocagkkboaaDoorVTt
import Derived.KernelRfl
namespace Go.Ev
set_option linter.unusedVariables false
set_option linter.unusedSimpArgs false
set_option maxRecDepth 100000

def oneChk (set : Int) (t : D) : Bool := mayT t && (setT t == set) && smT t && okT 5 t && decide ((textT t).length ≤ 10)
def pairChk (l : List D) : Bool := (List.range l.length).all fun i => (List.range i).all fun k => !eqT (l.getD i .nil) (l.getD k .nil)
def nextChk (l : List D) : Bool := (List.range l.length).all fun i => i == 0 || !(textT (l.getD i .nil) == textT (l.getD (i - 1) .nil))
def cntChk (x0 : Int) : Bool := (decide (0 ≤ (IntKind.wrap .i64 ((IntKind.wrap .i64 ((IntKind.wrap .i64 ((Int.tmod x0 2) + (Int.tmod (IntKind.wrap .i64 (Int.tdiv x0 2)) 2))) + (Int.tmod (IntKind.wrap .i64 (Int.tdiv x0 4)) 2))) + (Int.tmod (IntKind.wrap .i64 (Int.tdiv x0 8)) 2)))) && decide ((IntKind.wrap .i64 ((IntKind.wrap .i64 ((IntKind.wrap .i64 ((Int.tmod x0 2) + (Int.tmod (IntKind.wrap .i64 (Int.tdiv x0 2)) 2))) + (Int.tmod (IntKind.wrap .i64 (Int.tdiv x0 4)) 2))) + (Int.tmod (IntKind.wrap .i64 (Int.tdiv x0 8)) 2))) < 5))
def lenChk (x0 : Int) : Bool := ((((allT x0).length : Int) == (intD (([.lit (.int .i64 0), .lit (.int .i64 1), .lit (.int .i64 2), .lit (.int .i64 12), .lit (.int .i64 120)] : List D).getD (IntKind.wrap .i64 ((IntKind.wrap .i64 ((IntKind.wrap .i64 ((Int.tmod x0 2) + (Int.tmod (IntKind.wrap .i64 (Int.tdiv x0 2)) 2))) + (Int.tmod (IntKind.wrap .i64 (Int.tdiv x0 4)) 2))) + (Int.tmod (IntKind.wrap .i64 (Int.tdiv x0 8)) 2))).toNat .nil))))
def allChk (set : Int) : Bool := (allT set).all (oneChk set) && pairChk (allT set) && nextChk (allT set) && cntChk set && lenChk set && decide ((allT set).length ≤ 120)
theorem all_1 : allChk 1 = true := by kernel_rfl
theorem all_2 : allChk 2 = true := by kernel_rfl
theorem all_3 : allChk 3 = true := by kernel_rfl
theorem all_4 : allChk 4 = true := by kernel_rfl
theorem all_5 : allChk 5 = true := by kernel_rfl
theorem all_6 : allChk 6 = true := by kernel_rfl
theorem all_7 : allChk 7 = true := by kernel_rfl
theorem all_8 : allChk 8 = true := by kernel_rfl
theorem all_9 : allChk 9 = true := by kernel_rfl
theorem all_10 : allChk 10 = true := by kernel_rfl
theorem all_11 : allChk 11 = true := by kernel_rfl
theorem all_12 : allChk 12 = true := by kernel_rfl
theorem all_13 : allChk 13 = true := by kernel_rfl
theorem all_14 : allChk 14 = true := by kernel_rfl
theorem all_15 : allChk 15 = true := by kernel_rfl
theorem all_ok {x : Int} (h1 : 1 ≤ x) (h2 : x ≤ 15) : allChk x = true := by
  have : x = 1 ∨ x = 2 ∨ x = 3 ∨ x = 4 ∨ x = 5 ∨ x = 6 ∨ x = 7 ∨ x = 8 ∨ x = 9 ∨ x = 10 ∨ x = 11 ∨ x = 12 ∨ x = 13 ∨ x = 14 ∨ x = 15 := by omega
  rcases this with rfl | rfl | rfl | rfl | rfl | rfl | rfl | rfl | rfl | rfl | rfl | rfl | rfl | rfl | rfl
  · exact all_1
  · exact all_2
  · exact all_3
  · exact all_4
  · exact all_5
  · exact all_6
  · exact all_7
  · exact all_8
  · exact all_9
  · exact all_10
  · exact all_11
  · exact all_12
  · exact all_13
  · exact all_14
  · exact all_15
theorem allK_succ (k set : Nat) : allK (k + 1) set = bif set == 1 then [leafD 0] else bif set == 2 then [leafD 1] else bif set == 4 then [leafD 2] else bif set == 8 then [leafD 3] else
    (List.range set).flatMap fun p => bif p != 0 && (p &&& set) == p then joinL (allK k p) (allK k (set - p)) else [] := rfl
theorem mem_joinL {x : D} {l m : List D} : x ∈ joinL l m ↔ ∃ a ∈ l, ∃ b ∈ m, x = nodeD [a, b] := by
  unfold joinL
  rw [List.mem_flatMap]
  constructor
  · rintro ⟨a, ha, h⟩
    rw [List.mem_map] at h
    obtain ⟨b, hb, rfl⟩ := h
    exact ⟨a, ha, b, hb, rfl⟩
  · rintro ⟨a, ha, b, hb, rfl⟩
    exact ⟨a, ha, List.mem_map.2 ⟨b, hb, rfl⟩⟩
theorem cano_leaf (k : Nat) (n : Int) : cano (k + 1) (leafD n) := ⟨n, [], rfl, fun y hy => by cases hy⟩
theorem cano_node {k : Nat} {a b : D} (ha : cano k a) (hb : cano k b) : cano (k + 1) (nodeD [a, b]) := ⟨0, [a, b], rfl, fun y hy => by
  rcases List.mem_cons.1 hy with rfl | hy
  · exact ha
  · rw [List.mem_singleton.1 hy]; exact hb⟩
theorem all_cano : ∀ (n s : Nat) (t : D), t ∈ allK n s → cano n t
  | 0, s, t, h => by cases h
  | n + 1, s, t, h => by
    rw [allK_succ] at h
    cases h1 : (s == 1) with
    | true => rw [h1, cond_true] at h; rw [List.mem_singleton.1 h]; exact cano_leaf _ _
    | false =>
      rw [h1, cond_false] at h
      cases h2 : (s == 2) with
      | true => rw [h2, cond_true] at h; rw [List.mem_singleton.1 h]; exact cano_leaf _ _
      | false =>
        rw [h2, cond_false] at h
        cases h4 : (s == 4) with
        | true => rw [h4, cond_true] at h; rw [List.mem_singleton.1 h]; exact cano_leaf _ _
        | false =>
          rw [h4, cond_false] at h
          cases h8 : (s == 8) with
          | true => rw [h8, cond_true] at h; rw [List.mem_singleton.1 h]; exact cano_leaf _ _
          | false =>
            rw [h8, cond_false, List.mem_flatMap] at h
            obtain ⟨p, _, h⟩ := h
            cases hp : (p != 0 && (p &&& s) == p) with
            | false => rw [hp] at h; cases h
            | true =>
              rw [hp, cond_true] at h
              obtain ⟨a, ha, b, hb, rfl⟩ := mem_joinL.1 h
              exact cano_node (all_cano n _ a ha) (all_cano n _ b hb)
theorem bits4b : ∀ x y : Fin 16, x.val ≠ 0 → y.val ≠ 0 → andI .i64 (x.val : Int) (y.val : Int) = 0 → (x.val + y.val == 1) = false ∧ (x.val + y.val == 2) = false ∧ (x.val + y.val == 4) = false ∧ (x.val + y.val == 8) = false ∧ (x.val != 0 && (x.val &&& (x.val + y.val)) == x.val) = true := by decide +kernel
theorem all_mem : ∀ (k j : Nat) (t : D) (n : Nat), cano j t → setK k t ≠ 0 → k ≤ n → t ∈ allK n (setK k t).toNat
  | 0, j, t, n, _, h, _ => absurd rfl h
  | k + 1, j, t, 0, _, _, h => by omega
  | k + 1, j, t, n + 1, hc, h, hn => by
    rcases may_shape hc h with ⟨m, rfl, hm⟩ | ⟨a, b, i, rfl, rfl, ca, cb, sa, sb, hand, hor⟩
    · rw [setK_leaf (t := leafD m) rfl hm]
      unfold isOccB at hm
      rw [Bool.and_eq_true, decide_eq_true_eq, decide_eq_true_eq] at hm
      have : m = 0 ∨ m = 1 ∨ m = 2 ∨ m = 3 := by omega
      show leafD m ∈ allK (n + 1) (shlI .i64 1 m).toNat
      rcases this with rfl | rfl | rfl | rfl
      · rw [show (shlI .i64 1 0).toNat = 1 by decide]; exact List.mem_singleton.2 rfl
      · rw [show (shlI .i64 1 1).toNat = 2 by decide]; exact List.mem_singleton.2 rfl
      · rw [show (shlI .i64 1 2).toNat = 4 by decide]; exact List.mem_singleton.2 rfl
      · rw [show (shlI .i64 1 3).toNat = 8 by decide]; exact List.mem_singleton.2 rfl
    · have Ia := setK_in k a
      have Ib := setK_in k b
      obtain ⟨o1, _, _⟩ := (b4 Ia Ib).or hand
      have ma := all_mem k i a n ca sa (by omega)
      have mb := all_mem k i b n cb sb (by omega)
      rw [hor, o1]
      obtain ⟨x, hx⟩ := inS_fin Ia
      obtain ⟨y, hy⟩ := inS_fin Ib
      rw [hx] at sa hand ma ⊢
      rw [hy] at sb hand mb ⊢
      obtain ⟨q1, q2, q4, q8, qp⟩ := bits4b x y (by omega) (by omega) hand
      have e : ((x.val : Int) + (y.val : Int)).toNat = x.val + y.val := by omega
      have ex : ((x.val : Int)).toNat = x.val := by omega
      have ey : ((y.val : Int)).toNat = y.val := by omega
      rw [ex] at ma
      rw [ey] at mb
      rw [e, allK_succ, q1, q2, q4, q8, cond_false, cond_false, cond_false, cond_false, List.mem_flatMap]
      refine ⟨x.val, List.mem_range.2 (by omega), ?_⟩
      rw [qp, cond_true, show x.val + y.val - x.val = y.val by omega]
      exact mem_joinL.2 ⟨a, ma, b, mb, rfl⟩
theorem allT_eq {x : Int} (h1 : 1 ≤ x) (h2 : x ≤ 15) : allT x = allK 16 x.toNat := by
  unfold allT
  have : (decide (1 ≤ x) && decide (x ≤ 15)) = true := by rw [Bool.and_eq_true, decide_eq_true_eq, decide_eq_true_eq]; exact ⟨h1, h2⟩
  rw [this, cond_true]
/-- Any tree that may be, of a set, is one of all of it, and no other. -/
theorem all_found {x : Int} {j : Nat} {t : D} (h1 : 1 ≤ x) (h2 : x ≤ 15) (hc : cano j t) (hj : j ≤ 130) (hok : okT 130 t = true) : ((allT x).any fun y => eqT y t) = (setT t == x) := by
  have hchk := all_ok h1 h2
  simp only [allChk, Bool.and_eq_true, List.all_eq_true] at hchk
  have hone := hchk.1.1.1.1.1
  cases hs : (setT t == x) with
  | true =>
    have hs := eq_of_beq hs
    have hs4 : setK 4 t = x := hs
    rw [List.any_eq_true]
    refine ⟨t, ?_, eqK_refl 130 t hok⟩
    rw [allT_eq h1 h2, ← hs4]
    exact all_mem 4 j t 16 hc (by rw [hs4]; omega) (by omega)
  | false =>
    rw [List.any_eq_false]
    intro y hy he
    have hcy : cano 130 y := by
      rw [allT_eq h1 h2] at hy
      exact cano_le (all_cano 16 _ y hy) (by omega)
    have : y = t := eqK_eq hcy hc he
    subst this
    have := hone y hy
    simp only [oneChk, Bool.and_eq_true] at this
    rw [hs] at this
    cases this.1.1.1.2
end Go.Ev
