/- Trees: the document's own answers, in plain data. Nothing here is trusted. -/
import Derived.Test.YtbabfocagkkboaaDoorVTa
namespace Go.Ev
set_option linter.unusedVariables false
set_option linter.unusedSimpArgs false

/-! ### May, Set -/
def dupB (l : List D) : Bool := (List.range l.length).any fun i => (List.range i).any fun k => intD (l.getD k .nil) == intD (l.getD i .nil)
def rMay (t : D) : Bool := !(dupB (lvK 4 t).1) && (lvK 4 t).2
def bitI (x : Int) : Int := bif x == 0 then 1 else bif x == 1 then 2 else bif x == 2 then 4 else 8
def sumI (l : List D) : Int := (l.map fun d => bitI (intD d)).sum
def hasI (m : Int) (x : Int) : Bool := (m / bitI x) % 2 == 1
theorem bits4c : ∀ (x y : Fin 16) (b : Fin 4), (andI .i64 (x.val : Int) (y.val : Int) = 0 → (hasI ((x.val : Int) + (y.val : Int)) (b.val : Int) = (hasI (x.val : Int) (b.val : Int) || hasI (y.val : Int) (b.val : Int))) ∧ (hasI (x.val : Int) (b.val : Int) && hasI (y.val : Int) (b.val : Int)) = false) := by decide +kernel
theorem bits4d : ∀ (x y : Fin 16), (∀ b : Fin 4, (hasI (x.val : Int) (b.val : Int) && hasI (y.val : Int) (b.val : Int)) = false) → andI .i64 (x.val : Int) (y.val : Int) = 0 := by decide +kernel
theorem bits4e : ∀ (m b : Fin 4), hasI (shlI .i64 1 (m.val : Int)) (b.val : Int) = (m.val == b.val) ∧ shlI .i64 1 (m.val : Int) = bitI (m.val : Int) := by decide +kernel
/-- Which occurrences are there. -/
def occB (l : List D) (b : Nat) : Bool := l.any fun d => intD d == (b : Int)
def distinct : List D → Prop
  | [] => True
  | x :: l => (∀ y ∈ l, intD y ≠ intD x) ∧ distinct l
theorem distinct_append : ∀ {l m : List D}, distinct (l ++ m) ↔ distinct l ∧ distinct m ∧ ∀ x ∈ l, ∀ y ∈ m, intD y ≠ intD x
  | [], m => by simp [distinct]
  | x :: l, m => by
    show ((∀ y ∈ l ++ m, intD y ≠ intD x) ∧ distinct (l ++ m)) ↔ ((∀ y ∈ l, intD y ≠ intD x) ∧ distinct l) ∧ distinct m ∧ _
    rw [distinct_append (l := l)]
    constructor
    · rintro ⟨h1, h2, h3, h4⟩
      refine ⟨⟨fun y hy => h1 y (List.mem_append_left _ hy), h2⟩, h3, fun z hz y hy => ?_⟩
      rcases List.mem_cons.1 hz with rfl | hz
      · exact h1 y (List.mem_append_right _ hy)
      · exact h4 z hz y hy
    · rintro ⟨⟨h1, h2⟩, h3, h4⟩
      refine ⟨fun y hy => ?_, h2, h3, fun z hz => h4 z (by simp [hz])⟩
      rcases List.mem_append.1 hy with hy | hy
      · exact h1 y hy
      · exact h4 x (by simp) y hy
theorem dupB_iff : ∀ (l : List D), dupB l = false ↔ distinct l := by
  intro l
  have key : ∀ l : List D, distinct l ↔ ∀ i k, i < l.length → k < i → intD (l.getD k .nil) ≠ intD (l.getD i .nil) := by
    intro l
    induction l with
    | nil => exact ⟨fun _ i k hi => by simp at hi, fun _ => trivial⟩
    | cons x l ih =>
      show ((∀ y ∈ l, intD y ≠ intD x) ∧ distinct l) ↔ _
      rw [ih]
      constructor
      · rintro ⟨h1, h2⟩ i k hi hk
        cases i with
        | zero => omega
        | succ i =>
          have hi' : i < l.length := by simpa using hi
          have e : (x :: l).getD (i + 1) .nil = l[i] := by simp [List.getD, hi']
          rw [e]
          cases k with
          | zero => exact fun h => h1 _ (List.getElem_mem hi') h.symm
          | succ k =>
            have := h2 i k hi' (by omega)
            rw [getD_lt hi'] at this
            exact this
      · intro h
        refine ⟨fun y hy => ?_, fun i k hi hk => ?_⟩
        · obtain ⟨i, hi, rfl⟩ := List.getElem_of_mem hy
          have := h (i + 1) 0 (by simpa using hi) (by omega)
          have e : (x :: l).getD (i + 1) .nil = l[i] := by simp [List.getD, hi]
          rw [e] at this
          exact fun hh => this hh.symm
        · exact h (i + 1) (k + 1) (by simpa using hi) (by omega)
  rw [key]
  unfold dupB
  rw [List.any_eq_false]
  constructor
  · intro h i k hi hk
    have := h i (List.mem_range.2 hi)
    rw [Bool.not_eq_true, List.any_eq_false] at this
    have := this k (List.mem_range.2 hk)
    simpa using this
  · intro h i hi
    rw [Bool.not_eq_true, List.any_eq_false]
    intro k hk
    simpa using h i k (List.mem_range.1 hi) (List.mem_range.1 hk)
/-- What the leaves of a tree tell of its set. -/
theorem lv_set : ∀ (k : Nat) (t : D), (setK k t ≠ 0 → (lvK k t).2 = true ∧ distinct (lvK k t).1 ∧ sumI (lvK k t).1 = setK k t ∧ ∀ b : Fin 4, hasI (setK k t) (b.val : Int) = occB (lvK k t).1 b.val) ∧
    ((lvK k t).2 = true → distinct (lvK k t).1 → setK k t ≠ 0) ∧ ((lvK k t).2 = true → ∀ d ∈ (lvK k t).1, ∃ b : Fin 4, intD d = (b.val : Int))
  | 0, t => ⟨fun h => absurd rfl h, fun h => (by cases h), fun h => (by cases h)⟩
  | k + 1, t => by
    cases h0 : (((tkids t).length : Int) == 0) with
    | true =>
      have hk : tkids t = [] := List.length_eq_zero_iff.1 (by have := eq_of_beq h0; omega)
      have hlv : lvK (k + 1) t = ([.lit (.int .i64 (tocc t))], decide (tocc t ≥ 0) && decide (tocc t ≤ 3)) := by rw [lvK_succ, h0, cond_true]
      have hocc : (decide (tocc t ≥ 0) && decide (tocc t ≤ 3)) = isOccB (tocc t) := by
        unfold isOccB
        congr 1
        by_cases h : tocc t ≤ 3
        · have h1 : decide (tocc t ≤ 3) = true := by simpa using h
          have h2 : decide (tocc t < 4) = true := by rw [decide_eq_true_eq]; omega
          rw [h1, h2]
        · have h1 : decide (tocc t ≤ 3) = false := by simpa using h
          have h2 : decide (tocc t < 4) = false := by rw [decide_eq_false_iff_not]; omega
          rw [h1, h2]
      rw [hlv, hocc]
      cases ho : isOccB (tocc t) with
      | false =>
        have hz : setK (k + 1) t = 0 := by
          rw [setK_succ, h0, ho]
          have : (((tkids t).length : Int) != 2) = true := by rw [hk]; decide
          rw [this]
          rfl
        rw [hz]
        exact ⟨fun h => absurd rfl h, fun h => (by cases h), fun h => (by cases h)⟩
      | true =>
        have hs := setK_leaf (k := k) hk ho
        have hm := ho
        unfold isOccB at hm
        rw [Bool.and_eq_true, decide_eq_true_eq, decide_eq_true_eq] at hm
        obtain ⟨m, hmm⟩ : ∃ m : Fin 4, tocc t = (m.val : Int) := ⟨⟨(tocc t).toNat, by omega⟩, by simp; omega⟩
        rw [hs, hmm]
        have hpos := occ_shl ho
        rw [hmm] at hpos
        refine ⟨fun _ => ⟨rfl, ⟨by simp, trivial⟩, ?_, fun b => ?_⟩, fun _ _ => by omega, fun _ d hd => ⟨m, by rw [List.mem_singleton.1 hd]; rfl⟩⟩
        · rw [(bits4e m 0).2]
          show bitI (m.val : Int) + 0 = _
          omega
        · rw [(bits4e m b).1]
          show _ = (((m.val : Int) == (b.val : Int)) || false)
          rw [Bool.or_false]
          by_cases h : m.val = b.val
          · rw [h]; simp
          · have h1 : (m.val == b.val) = false := by simpa using h
            have h2 : ((m.val : Int) == (b.val : Int)) = false := by rw [beq_eq_false_iff_ne]; omega
            rw [h1, h2]
    | false =>
      cases h2 : ((((tkids t).length : Int) != 2) || (tocc t != 0)) with
      | true =>
        have hlv : lvK (k + 1) t = ([], false) := by rw [lvK_succ, h0, h2]; rfl
        have hz : setK (k + 1) t = 0 := by rw [setK_succ, h0, h2]; rfl
        rw [hlv, hz]
        exact ⟨fun h => absurd rfl h, fun h => (by cases h), fun h => (by cases h)⟩
      | false =>
        rw [Bool.or_eq_false_iff] at h2
        have hl : ((tkids t).length : Int) = 2 := by simpa using h2.1
        have ho : tocc t = 0 := by simpa using h2.2
        match hk : tkids t, hl with
        | [], h => simp at h
        | [_], h => simp at h
        | _ :: _ :: _ :: l, h => simp only [List.length_cons] at h; omega
        | [a, b], _ =>
          have hlv : lvK (k + 1) t = ((lvK k a).1 ++ (lvK k b).1, (lvK k a).2 && (lvK k b).2) := by
            rw [lvK_succ, hk, ho]
            rfl
          obtain ⟨a1, a2, a3⟩ := lv_set k a
          obtain ⟨b1, b2, b3⟩ := lv_set k b
          have Ia := setK_in k a
          have Ib := setK_in k b
          obtain ⟨x, hx⟩ := inS_fin Ia
          obtain ⟨y, hy⟩ := inS_fin Ib
          rw [hlv]
          have hocc : ∀ q : Nat, occB ((lvK k a).1 ++ (lvK k b).1) q = (occB (lvK k a).1 q || occB (lvK k b).1 q) := fun q => by unfold occB; rw [List.any_append]
          refine ⟨fun h => ?_, fun hv hd => ?_, fun hv d hd => ?_⟩
          · rcases set_cases k t with e | ⟨e1, _⟩ | ⟨a', b', e1, _, sa, sb, hand, e⟩
            · exact absurd e h
            · rw [hk] at e1; cases e1
            · rw [hk] at e1
              cases e1
              obtain ⟨p1, p2, p3, p4⟩ := a1 sa
              obtain ⟨r1, r2, r3, r4⟩ := b1 sb
              obtain ⟨o1, _, _⟩ := (b4 Ia Ib).or hand
              have hand' := hand
              rw [hx, hy] at hand'
              rw [e, o1]
              refine ⟨by rw [p1, r1]; rfl, distinct_append.2 ⟨p2, r2, fun u hu v hv he => ?_⟩, ?_, fun q => ?_⟩
              · obtain ⟨q, hq⟩ := a3 p1 u hu
                have h1 : hasI (setK k a) (q.val : Int) = true := by
                  rw [p4 q]; unfold occB; rw [List.any_eq_true]; exact ⟨u, hu, by rw [hq]; simp⟩
                have h2 : hasI (setK k b) (q.val : Int) = true := by
                  rw [r4 q]; unfold occB; rw [List.any_eq_true]; exact ⟨v, hv, by rw [he, hq]; simp⟩
                have := (bits4c x y q hand').2
                rw [← hx, ← hy, h1, h2] at this
                cases this
              · show sumI ((lvK k a).1 ++ (lvK k b).1) = _
                unfold sumI at p3 r3 ⊢
                rw [List.map_append, List.sum_append, p3, r3]
              · have := (bits4c x y q hand').1
                rw [← hx, ← hy] at this
                rw [this, p4 q, r4 q, hocc]
          · have hv : ((lvK k a).2 && (lvK k b).2) = true := hv
            rw [Bool.and_eq_true] at hv
            obtain ⟨d1, d2, d3⟩ := distinct_append.1 hd
            have sa := a2 hv.1 d1
            have sb := b2 hv.2 d2
            obtain ⟨p1, p2, p3, p4⟩ := a1 sa
            obtain ⟨r1, r2, r3, r4⟩ := b1 sb
            have hand : andI .i64 (setK k a) (setK k b) = 0 := by
              rw [hx, hy]
              refine bits4d x y (fun q => ?_)
              rw [← hx, ← hy, p4 q, r4 q]
              cases h1 : occB (lvK k a).1 q.val with
              | false => rfl
              | true =>
                cases h2 : occB (lvK k b).1 q.val with
                | false => rfl
                | true =>
                  exfalso
                  unfold occB at h1 h2
                  rw [List.any_eq_true] at h1 h2
                  obtain ⟨u, hu, hu2⟩ := h1
                  obtain ⟨v, hv, hv2⟩ := h2
                  exact d3 u hu v hv (by rw [eq_of_beq hu2, eq_of_beq hv2])
            rw [setK_node1 hk ho sa sb hand, ((b4 Ia Ib).or hand).1]
            have := Ia.1
            have := Ib.1
            omega
          · have hv : ((lvK k a).2 && (lvK k b).2) = true := hv
            rw [Bool.and_eq_true] at hv
            rcases List.mem_append.1 hd with hd | hd
            · exact a3 hv.1 d hd
            · exact b3 hv.2 d hd
theorem rMay_eq (t : D) : rMay t = mayT t := by
  obtain ⟨h1, h2, _⟩ := lv_set 4 t
  unfold rMay mayT
  show _ = (setK 4 t != 0)
  by_cases h : setK 4 t = 0
  · rw [h]
    show _ = false
    cases hv : (lvK 4 t).2 with
    | false => simp
    | true =>
      cases hd : dupB (lvK 4 t).1 with
      | true => rfl
      | false => exact absurd h (h2 hv ((dupB_iff _).1 hd))
  · obtain ⟨p1, p2, _⟩ := h1 h
    have e : (setK 4 t != 0) = true := by rw [bne_iff_ne]; exact h
    rw [p1, (dupB_iff _).2 p2, e]
    rfl
theorem rSet_eq (t : D) : (bif mayT t then sumI (lvK 4 t).1 else 0) = setT t := by
  obtain ⟨h1, _, _⟩ := lv_set 4 t
  by_cases h : setK 4 t = 0
  · have : mayT t = false := by unfold mayT setT; rw [h]; rfl
    rw [this]
    exact h.symm
  · have : mayT t = true := by unfold mayT setT; rw [bne_iff_ne]; exact h
    rw [this, cond_true]
    exact (h1 h).2.2.1
end Go.Ev
