/- Layer 3: sorting by insertion, ranges swapped, order looked at. Nothing here is trusted. -/
import Derived.Test.YtjofcicaoofijaaBT4
import Derived.Test.YtjofcicaoofijaaVN
namespace Go.Proofs.Ytjofcicaoofijaa
open Go.Ev
set_option linter.unusedVariables false
set_option linter.unusedSimpArgs false

abbrev HEnt := FuncId × TypeId × (List AV → List Ent → Bool) × (List AV → List Ent → HRes)
def unitR : AV := tupA [] (.agg [])
def rowR (l : List D) : List (Option Ent) := [some ⟨44, .slice l [], 3, none⟩]

/-! ### insertionSort -/
theorem ins_in {N : Nat} {a b : Nat} {x2 : Int} {es B : List D} {v8 : Int} {m0 : Nat} {A S2 R : List D} {x : D} (ha : a = A.length) : ∀ (n : Nat) (S1 : List D), S1.length < n → S1.length + A.length + S2.length + R.length ≤ 1000000000000 →
    ∃ T1 T2, S1 = T1 ++ T2 ∧ (∀ y ∈ T2, klt (keyE x) (keyE y) = true) ∧ (T1 = [] ∨ ∃ T0 y, T1 = T0 ++ [y] ∧ klt (keyE x) (keyE y) = false) ∧
      t42_lp4 Try.prog Try.f42 N n (a : Int) x2 es v8 B m0 ((a + S1.length : Nat) : Int) (A ++ (S1 ++ x :: (S2 ++ R))) = t42_lp1 Try.prog Try.f42 N m0 (a : Int) x2 es (IntKind.wrap .i64 (v8 + 1)) (A ++ (T1 ++ x :: (T2 ++ (S2 ++ R))))
  | 0, S1, h, _ => by omega
  | n + 1, S1, h, hbig => by
    rw [t42_lp4_step]
    rcases List.eq_nil_or_concat S1 with rfl | ⟨S0, y, rfl⟩
    · refine ⟨[], [], rfl, by simp, .inl rfl, ?_⟩
      have : decide (((a + ([] : List D).length : Nat) : Int) > (a : Int)) = false := by simp
      rw [this]
      rfl
    · simp only [List.concat_eq_append] at *
      have hlen : (A ++ (S0 ++ [y] ++ x :: (S2 ++ R))).length = A.length + S0.length + 2 + S2.length + R.length := by simp; omega
      have hj : a + (S0 ++ [y]).length = A.length + S0.length + 1 := by simp; omega
      have hS0 : S0.length + 1 + A.length + S2.length + R.length ≤ 1000000000000 := by simpa using hbig
      have g1 : decide (((a + (S0 ++ [y]).length : Nat) : Int) > (a : Int)) = true := by simp; omega
      have w1 : IntKind.wrap .i64 (((a + (S0 ++ [y]).length : Nat) : Int) - 1) = ((A.length + S0.length : Nat) : Int) := by
        rw [hj, l_wrapI (l_in (by omega) (by omega))]; omega
      have i1 : (decide (0 ≤ ((a + (S0 ++ [y]).length : Nat) : Int)) && decide (((a + (S0 ++ [y]).length : Nat) : Int) < ((A ++ (S0 ++ [y] ++ x :: (S2 ++ R))).length : Int))) = true := l_idx (by rw [hlen]; simp; omega)
      have i2 : (decide (0 ≤ ((A.length + S0.length : Nat) : Int)) && decide (((A.length + S0.length : Nat) : Int) < ((A ++ (S0 ++ [y] ++ x :: (S2 ++ R))).length : Int))) = true := l_idx (by rw [hlen]; omega)
      have f1 : A ++ (S0 ++ [y] ++ x :: (S2 ++ R)) = (A ++ S0) ++ y :: ([] ++ x :: (S2 ++ R)) := by simp
      have e1 : (A ++ (S0 ++ [y] ++ x :: (S2 ++ R))).getD (a + (S0 ++ [y]).length) .nil = x := by
        rw [show A ++ (S0 ++ [y] ++ x :: (S2 ++ R)) = (A ++ S0 ++ [y]) ++ x :: (S2 ++ R) by simp]
        exact l_at' _ _ _ (by simp; omega)
      have e2 : (A ++ (S0 ++ [y] ++ x :: (S2 ++ R))).getD (A.length + S0.length) .nil = y := by
        rw [f1]
        exact l_at' _ _ _ (by simp)
      rw [g1, w1, i1, i2, List.length_set, i2]
      simp only [beq_self_eq_true, cond_true, Int.toNat_natCast]
      rw [against_lt, e1, e2]
      have hk : klt (keyR (fieldD x 0)) (keyR (fieldD y 0)) = klt (keyE x) (keyE y) := rfl
      rw [hk]
      cases hc : klt (keyE x) (keyE y) with
      | false => exact ⟨S0 ++ [y], [], by simp, by simp, .inr ⟨S0, y, rfl, hc⟩, by simp⟩
      | true =>
        rw [cond_true]
        have sw : ((A ++ (S0 ++ [y] ++ x :: (S2 ++ R))).set (a + (S0 ++ [y]).length) y).set (A.length + S0.length) x = A ++ (S0 ++ x :: (([y] ++ S2) ++ R)) := by
          have := l_swap' (A ++ S0) [] (S2 ++ R) y x (i := A.length + S0.length) (j := a + (S0 ++ [y]).length) (by simp) (by simp; omega)
          rw [← f1, e1, e2] at this
          rw [this]
          simp
        rw [sw]
        obtain ⟨T1, T2, r1, r2, r3, r4⟩ := ins_in (N := N) (a := a) (b := b) (x2 := x2) (es := es) (B := B) (v8 := v8) (m0 := m0) (A := A) (S2 := [y] ++ S2) (R := R) (x := x) ha n S0 (by simp at h; omega) (by simp; omega)
        refine ⟨T1, T2 ++ [y], by rw [r1]; simp, fun z hz => ?_, r3, ?_⟩
        · rcases List.mem_append.1 hz with hz | hz
          · exact r2 z hz
          · obtain rfl : z = y := by simpa using hz
            exact hc
        · have : ((a + S0.length : Nat) : Int) = ((A.length + S0.length : Nat) : Int) := by rw [ha]
          rw [this] at r4
          rw [r4]
          simp
  termination_by n => n

theorem ins_out {N : Nat} {A W R es : List D} (hN : W.length < N) (hb : A.length + W.length + R.length ≤ 2147483648) : ∀ (n k : Nat), 1 ≤ k → W.length + 1 - k < n → k ≤ W.length + 1 →
    t42_lp1 Try.prog Try.f42 N n (A.length : Int) ((A.length + W.length : Nat) : Int) es ((A.length + k : Nat) : Int) (A ++ (sortK keyE (W.take k) ++ (W.drop k ++ R))) = some (unitR, rowR (A ++ sortK keyE W ++ R))
  | 0, k, _, h, _ => by omega
  | n + 1, k, h1, h, hk => by
    rw [t42_lp1_step]
    by_cases hlt : k < W.length
    · have g1 : decide (((A.length + k : Nat) : Int) < ((A.length + W.length : Nat) : Int)) = true := by simp; omega
      rw [g1, cond_true]
      have hd : W.drop k = W[k] :: W.drop (k + 1) := List.drop_eq_getElem_cons hlt
      have hs : (sortK keyE (W.take k)).length = k := by rw [sortK_len]; simp; omega
      obtain ⟨T1, T2, r1, r2, r3, r4⟩ := ins_in (N := N) (a := A.length) (b := 0) (x2 := ((A.length + W.length : Nat) : Int)) (es := es) (B := A ++ (sortK keyE (W.take k) ++ (W.drop k ++ R))) (v8 := ((A.length + k : Nat) : Int)) (m0 := n) (A := A) (S2 := []) (R := W.drop (k + 1) ++ R) (x := W[k]) rfl N (sortK keyE (W.take k)) (by rw [hs]; omega) (by rw [hs]; simp; omega)
      rw [hs] at r4
      have f1 : A ++ (sortK keyE (W.take k) ++ (W.drop k ++ R)) = A ++ (sortK keyE (W.take k) ++ W[k] :: ([] ++ (W.drop (k + 1) ++ R))) := by rw [hd]; simp only [List.nil_append, List.cons_append]
      rw [f1] at r4 ⊢
      rw [r4]
      have w1 : IntKind.wrap .i64 (((A.length + k : Nat) : Int) + 1) = ((A.length + (k + 1) : Nat) : Int) := by rw [l_wrapI (l_in (by omega) (by omega))]; omega
      have hsrt := sortK_srt (key := keyE) (W.take k)
      have hnew : T1 ++ W[k] :: T2 = sortK keyE (W.take (k + 1)) := by
        have h3 : ∀ y ∈ T1, klt (keyE W[k]) (keyE y) = false := by
          rcases r3 with rfl | ⟨T0, y, rfl, hy⟩
          · simp
          · intro z hz
            rw [r1] at hsrt
            have hz' := (srt_app.1 (srt_app.1 hsrt).1).2.2
            rcases List.mem_append.1 hz with hz | hz
            · exact nlt_trans (hz' z hz y (by simp)) hy
            · obtain rfl : z = y := by simpa using hz
              exact hy
        obtain ⟨q1, q2⟩ := move_back (key := keyE) (S1 := T1) (S2 := T2) (x := W[k]) (by rw [← r1]; exact hsrt) r2 h3
        refine sortK_eq q1 (q2.trans ?_)
        rw [← r1, List.take_succ_eq_append_getElem hlt]
        exact SEq.app (sortK_seq _) (SEq.refl _)
      have f2 : A ++ (T1 ++ W[k] :: (T2 ++ ([] ++ (W.drop (k + 1) ++ R)))) = A ++ (sortK keyE (W.take (k + 1)) ++ (W.drop (k + 1) ++ R)) := by rw [← hnew]; simp
      rw [w1, f2]
      exact ins_out hN hb n (k + 1) (by omega) (by omega) (by omega)
    · have g1 : decide (((A.length + k : Nat) : Int) < ((A.length + W.length : Nat) : Int)) = false := by simp; omega
      have e1 : W.take k = W := List.take_of_length_le (by omega)
      have e2 : W.drop k = [] := List.drop_of_length_le (by omega)
      rw [g1, cond_false, e1, e2]
      simp [unitR, rowR]

def a42 : List AV := [bxp OID 44, dat 3 .nil, dat 3 .nil, dat 52 .nil]
def b42 : List Ent := [⟨44, .nil, 3, none⟩]
def isF (d : D) : Bool := match fnD d with | some f => f == 20 | none => false
def q42 (ds hs : List D) : Bool := match ds, hs with
  | [_, a, b, f], [e] => isF f && insOK (elemsD e) (intD a) (intD b)
  | _, _ => false
def g42 (ds hs : List D) : HRes := match ds, hs with
  | [_, a, b, _], [e] => some (unitR, rowR (insL (elemsD e) (intD a) (intD b)))
  | _, _ => none
def h42 : HEnt := (42, 0, preH a42 b42 q42, entH a42 b42 g42)
theorem k42 : FnOK Try.prog 42 Try.f42 := ⟨Try.func42, rfl, by kernel_rfl⟩
theorem uCmp : ∃ p q r, Try.prog.underlying 52 = some (.func p q r) := ⟨_, _, _, Try.underlying52⟩
theorem isF_eq {n : Nat} {d : D} (h : Ty Try.prog n 52 d) (hf : isF d = true) : d = .held (.func (.func 20) #[] #[]) := by
  obtain ⟨p, q, r, hu⟩ := uCmp
  unfold isF at hf
  split at hf
  · rename_i f hfd
    have := ty25 hu h hfd
    rw [beq_iff_eq] at hf
    rw [hf] at this
    exact this
  · cases hf
theorem c42 : ∀ args hh r h', preH a42 b42 q42 args hh = true → entH a42 b42 g42 args hh = some (r, h') → HCallOK Try.prog 42 args hh r h' := by
  refine entH_ok rfl rfl fun ds es r h' hq hd => ?_
  unfold q42 at hq
  split at hq
  · rename_i z a b f e
    cases hd
    rw [Bool.and_eq_true] at hq
    refine HCallOK.typedR k42.ex fun ht _ hr => ?_
    obtain ⟨_, t1⟩ := ht (dat 3 a) (by simp [fillA, a42, dat, bxp]) rfl
    obtain ⟨_, t2⟩ := ht (dat 3 b) (by simp [fillA, a42, dat, bxp]) rfl
    obtain ⟨_, t3⟩ := ht (dat 52 f) (by simp [fillA, a42, dat, bxp]) rfl
    obtain ⟨el, l, _, hl, _⟩ := hr ⟨44, e, 3, none⟩ (by simp [fillE, b42]) (by simp)
    have hl : e = .slice l [] := hl
    subst hl
    obtain ⟨i1, rfl, _⟩ := ty3' t1
    obtain ⟨i2, rfl, _⟩ := ty3' t2
    rw [isF_eq (show Ty Try.prog _ 52 f from t3) hq.1]
    have hq : insOK l i1 i2 = true := hq.2
    simp only [insOK, Bool.and_eq_true, decide_eq_true_eq] at hq
    obtain ⟨⟨⟨g1, g2⟩, g3⟩, g4⟩ := hq
    obtain ⟨A, hA⟩ : ∃ A : Nat, i1 = (A : Int) := ⟨i1.toNat, by omega⟩
    obtain ⟨B, hB⟩ : ∃ B : Nat, i2 = (B : Int) := ⟨i2.toNat, by omega⟩
    subst hA hB
    have hAB : A ≤ B := by omega
    have hBl : B ≤ l.length := by omega
    have hlA : (l.take A).length = A := by simp; omega
    have hlW := seg_len l hAB hBl
    have hsp := seg_split l hAB hBl
    refine fnH_ok hm envR3 k42 ((t42 (l.length + 3) (A : Int) (B : Int) l).trans ?_)
    have w1 : IntKind.wrap .i64 ((A : Int) + 1) = ((A + 1 : Nat) : Int) := by rw [l_wrapI (l_in (by omega) (by omega))]; omega
    rw [w1]
    have key := ins_out (N := l.length + 3) (A := l.take A) (W := seg A B l) (R := l.drop B) (es := l) (by rw [hlW]; omega) (by rw [hlA, hlW]; simp; omega) (l.length + 3) 1 (by omega) (by rw [hlW]; omega) (by omega)
    rw [hlA, hlW] at key
    have e1 : A + (B - A) = B := by omega
    have e2 : l.take A ++ (sortK keyE ((seg A B l).take 1) ++ ((seg A B l).drop 1 ++ l.drop B)) = l := by
      have : sortK keyE ((seg A B l).take 1) = (seg A B l).take 1 := by
        cases seg A B l with
        | nil => rfl
        | cons x m => rfl
      rw [this, ← List.append_assoc ((seg A B l).take 1), List.take_append_drop, ← List.append_assoc]
      exact hsp.symm
    rw [e1, e2] at key
    rw [key]
    have : insL l (A : Int) (B : Int) = l.take A ++ sortK keyE (seg A B l) ++ l.drop B := by
      unfold insL putSeg
      rw [Int.toNat_natCast, Int.toNat_natCast]
    show _ = some (unitR, rowR (insL l (A : Int) (B : Int)))
    rw [this]
  · cases hq

/-! ### swapRange -/
theorem swp_loop {N : Nat} {es P0 M R : List D} {n0 : Nat} (hb : P0.length + n0 + M.length + n0 + R.length ≤ 2147483648) : ∀ (n i : Nat) (X1 X2 Y1 Y2 : List D), X1.length = i → Y1.length = i → i + X2.length = n0 → Y2.length = X2.length → n0 - i < n →
    t46_lp1 Try.prog Try.f46 N n (P0.length : Int) ((P0.length + n0 + M.length : Nat) : Int) (n0 : Int) es (i : Int) (P0 ++ Y1 ++ X2 ++ M ++ X1 ++ Y2 ++ R) = some (unitR, rowR (P0 ++ (Y1 ++ Y2) ++ M ++ (X1 ++ X2) ++ R))
  | 0, i, _, _, _, _, _, _, _, _, h => by omega
  | n + 1, i, X1, X2, Y1, Y2, h1, h2, h3, h4, h => by
    rw [t46_lp1_step]
    cases X2 with
    | nil =>
      have hy : Y2 = [] := List.length_eq_zero_iff.1 (by simpa using h4)
      subst hy
      have g1 : decide ((i : Int) < (n0 : Int)) = false := l_ge (by simp at h3; omega)
      rw [g1, cond_false]
      simp [unitR, rowR]
    | cons x X2 =>
      cases Y2 with
      | nil => simp at h4
      | cons y Y2 =>
        simp only [List.length_cons] at h3 h4
        have g1 : decide ((i : Int) < (n0 : Int)) = true := l_lt (by omega)
        have hlen : (P0 ++ Y1 ++ x :: X2 ++ M ++ X1 ++ y :: Y2 ++ R).length = P0.length + n0 + M.length + n0 + R.length := by simp; omega
        have w1 : IntKind.wrap .i64 (((P0.length + n0 + M.length : Nat) : Int) + (i : Int)) = ((P0.length + n0 + M.length + i : Nat) : Int) := by rw [l_wrapI (l_in (by omega) (by omega))]; omega
        have w2 : IntKind.wrap .i64 ((P0.length : Int) + (i : Int)) = ((P0.length + i : Nat) : Int) := by rw [l_wrapI (l_in (by omega) (by omega))]; omega
        have w3 : IntKind.wrap .i64 ((i : Int) + 1) = ((i + 1 : Nat) : Int) := by rw [l_wrapI (l_in (by omega) (by omega))]; omega
        have i1 : (decide (0 ≤ ((P0.length + n0 + M.length + i : Nat) : Int)) && decide (((P0.length + n0 + M.length + i : Nat) : Int) < ((P0 ++ Y1 ++ x :: X2 ++ M ++ X1 ++ y :: Y2 ++ R).length : Int))) = true := l_idx (by rw [hlen]; omega)
        have i2 : (decide (0 ≤ ((P0.length + i : Nat) : Int)) && decide (((P0.length + i : Nat) : Int) < ((P0 ++ Y1 ++ x :: X2 ++ M ++ X1 ++ y :: Y2 ++ R).length : Int))) = true := l_idx (by rw [hlen]; omega)
        rw [g1, cond_true, w1, w2, w3, i1, i2, List.length_set, i1]
        simp only [cond_true, Int.toNat_natCast]
        have f1 : P0 ++ Y1 ++ x :: X2 ++ M ++ X1 ++ y :: Y2 ++ R = (P0 ++ Y1) ++ x :: ((X2 ++ M ++ X1) ++ y :: (Y2 ++ R)) := by simp
        have sw := l_swap (P0 ++ Y1) (X2 ++ M ++ X1) (Y2 ++ R) x y (i := P0.length + i) (j := P0.length + n0 + M.length + i) (by simp; omega) (by simp; omega)
        rw [← f1] at sw
        rw [sw]
        have f2 : P0 ++ Y1 ++ y :: (X2 ++ M ++ X1 ++ x :: (Y2 ++ R)) = P0 ++ (Y1 ++ [y]) ++ X2 ++ M ++ (X1 ++ [x]) ++ Y2 ++ R := by simp
        rw [f2, swp_loop hb n (i + 1) (X1 ++ [x]) X2 (Y1 ++ [y]) Y2 (by simp; omega) (by simp; omega) (by omega) (by omega) (by omega)]
        simp
def a46 : List AV := [bxp OID 44, dat 3 .nil, dat 3 .nil, dat 3 .nil, dat 52 .nil]
def q46 (ds hs : List D) : Bool := match ds, hs with
  | [_, a, b, n, f], [e] => isF f && swpOK (elemsD e) (intD a) (intD b) (intD n)
  | _, _ => false
def g46 (ds hs : List D) : HRes := match ds, hs with
  | [_, a, b, n, _], [e] => some (unitR, rowR (swpL (elemsD e) (intD a) (intD b) (intD n)))
  | _, _ => none
def h46 : HEnt := (46, 0, preH a46 b42 q46, entH a46 b42 g46)
theorem k46 : FnOK Try.prog 46 Try.f46 := ⟨Try.func46, rfl, by kernel_rfl⟩
theorem c46 : ∀ args hh r h', preH a46 b42 q46 args hh = true → entH a46 b42 g46 args hh = some (r, h') → HCallOK Try.prog 46 args hh r h' := by
  refine entH_ok rfl rfl fun ds es r h' hq hd => ?_
  unfold q46 at hq
  split at hq
  · rename_i z a b m f e
    cases hd
    rw [Bool.and_eq_true] at hq
    refine HCallOK.typedR k46.ex fun ht _ hr => ?_
    obtain ⟨_, t1⟩ := ht (dat 3 a) (by simp [fillA, a46, dat, bxp]) rfl
    obtain ⟨_, t2⟩ := ht (dat 3 b) (by simp [fillA, a46, dat, bxp]) rfl
    obtain ⟨_, t4⟩ := ht (dat 3 m) (by simp [fillA, a46, dat, bxp]) rfl
    obtain ⟨_, t3⟩ := ht (dat 52 f) (by simp [fillA, a46, dat, bxp]) rfl
    obtain ⟨el, l, _, hl, _⟩ := hr ⟨44, e, 3, none⟩ (by simp [fillE, b42]) (by simp)
    have hl : e = .slice l [] := hl
    subst hl
    obtain ⟨i1, rfl, _⟩ := ty3' t1
    obtain ⟨i2, rfl, _⟩ := ty3' t2
    obtain ⟨i3, rfl, _⟩ := ty3' t4
    rw [isF_eq (show Ty Try.prog _ 52 f from t3) hq.1]
    have hq : swpOK l i1 i2 i3 = true := hq.2
    simp only [swpOK, Bool.and_eq_true, decide_eq_true_eq] at hq
    obtain ⟨⟨⟨⟨g1, g2⟩, g3⟩, g4⟩, g5⟩ := hq
    obtain ⟨A, hA⟩ : ∃ A : Nat, i1 = (A : Int) := ⟨i1.toNat, by omega⟩
    obtain ⟨B, hB⟩ : ∃ B : Nat, i2 = (B : Int) := ⟨i2.toNat, by omega⟩
    obtain ⟨n0, hn0⟩ : ∃ n0 : Nat, i3 = (n0 : Int) := ⟨i3.toNat, by omega⟩
    subst hA hB hn0
    have q1 : A + n0 ≤ B := by omega
    have q2 : B + n0 ≤ l.length := by omega
    obtain ⟨P0, X, M, Y, R, hl, hP, hX, hM, hY, hS⟩ := swp_split l q1 q2
    refine fnH_ok hm envR3 k46 ((t46 (n0 + 1) (A : Int) (B : Int) (n0 : Int) l).trans ?_)
    have hlen : P0.length + n0 + M.length + n0 + R.length ≤ 2147483648 := by
      have := congrArg List.length hl
      simp only [List.length_append] at this
      omega
    have key := swp_loop (N := n0 + 1) (es := l) (P0 := P0) (M := M) (R := R) (n0 := n0) hlen (n0 + 1) 0 [] X [] Y rfl rfl (by omega) (by omega) (by omega)
    have e1 : P0.length + n0 + M.length = B := by omega
    have e2 : P0 ++ [] ++ X ++ M ++ [] ++ Y ++ R = l := by rw [hl]; simp only [List.append_nil]
    rw [e1, e2, hP] at key
    refine key.trans ?_
    show _ = some (unitR, rowR (swpL l (A : Int) (B : Int) (n0 : Int)))
    rw [hS]
    rfl
  · cases hq

/-! ### IsSortedFunc -/
theorem iss_loop {N : Nat} {x0 : D} {q : Int} (hl : (elemsD x0).length ≤ maxLen) : ∀ (n i : Nat), i < (elemsD x0).length ∨ i = 0 → i < n →
    t26_lp2 Try.prog Try.f26 N n x0 q (i : Int) = some (dat 4 (.lit (.bool (adjB q ((elemsD x0).take (i + 1))))), [some ⟨3, .lit (.int .i64 q), 0, none⟩])
  | 0, i, _, h => by omega
  | n + 1, i, hi, h => by
    rw [t26_lp2_step]
    cases i with
    | zero =>
      have g1 : decide (((0 : Nat) : Int) > 0) = false := rfl
      rw [g1, cond_false]
      have : adjB q ((elemsD x0).take (0 + 1)) = true := by
        cases elemsD x0 with
        | nil => rfl
        | cons x m => rfl
      rw [this]
    | succ i =>
      have hlt : i + 1 < (elemsD x0).length := by omega
      have g1 : decide (((i + 1 : Nat) : Int) > 0) = true := by rw [decide_eq_true_eq]; omega
      have w1 : IntKind.wrap .i64 (((i + 1 : Nat) : Int) - 1) = (i : Int) := by rw [l_wrapI (by rw [inR_iff]; unfold maxLen at hl; omega)]; omega
      have i2 : (decide (0 ≤ (i : Int)) && decide ((i : Int) < ((elemsD x0).length : Int))) = true := l_idx (by omega)
      rw [g1, cond_true, l_idx hlt, cond_true, w1, i2, cond_true, against_lt, Int.toNat_natCast, Int.toNat_natCast, l_get hlt, l_get (by omega : i < (elemsD x0).length), iss_loop hl n i (by omega) (by omega)]
      have e1 : (elemsD x0).take (i + 1 + 1) = (elemsD x0).take i ++ [(elemsD x0)[i], (elemsD x0)[i + 1]] := by
        rw [List.take_succ_eq_append_getElem hlt, List.take_succ_eq_append_getElem (by omega : i < (elemsD x0).length)]
        simp only [List.append_assoc, List.cons_append, List.nil_append]
      have e2 : (elemsD x0).take (i + 1) = (elemsD x0).take i ++ [(elemsD x0)[i]] := List.take_succ_eq_append_getElem (by omega)
      rw [e1, e2, adj_snoc]
      show (bif klt (keyAt q (elemsD x0)[i + 1]) (keyAt q (elemsD x0)[i]) then _ else _) = _
      cases klt (keyAt q (elemsD x0)[i + 1]) (keyAt q (elemsD x0)[i]) <;> simp
def a26 : List AV := [dat 23 .nil, clo 57 27 [OID]]
def g26 (ds hs : List D) : HRes := match ds, hs with
  | [x, _], [q] => some (dat 4 (.lit (.bool (adjB (intD q) (elemsD x)))), [some ⟨3, q, 0, none⟩])
  | _, _ => none
def h26 : HEnt := (26, 4, preH a26 b27 (fun _ _ => true), entH a26 b27 g26)
theorem k26 : FnOK Try.prog 26 Try.f26 := ⟨Try.func26, rfl, by kernel_rfl⟩
theorem c26 : ∀ args hh r h', preH a26 b27 (fun _ _ => true) args hh = true → entH a26 b27 g26 args hh = some (r, h') → HCallOK Try.prog 26 args hh r h' := by
  refine entH_ok rfl rfl fun ds es r h' _ hd => ?_
  unfold g26 at hd
  split at hd
  · rename_i x z q
    cases hd
    refine HCallOK.typedR k26.ex fun ht hb _ => ?_
    obtain ⟨_, t1⟩ := ht (dat 23 x) (by simp [fillA, a26, dat, clo]) rfl
    obtain ⟨n, hn⟩ := hb ⟨3, q, 0, none⟩ (by simp [fillE, b27]) rfl rfl
    obtain ⟨w, rfl, _⟩ := ty3' hn
    have hl : (elemsD x).length ≤ maxLen := lenR t1
    refine fnH_ok hm envR3 k26 ((t26 ((elemsD x).length + 1) x w).trans ?_)
    by_cases h0 : (elemsD x).length = 0
    · have hx : elemsD x = [] := List.length_eq_zero_iff.1 h0
      have w1 : IntKind.wrap .i64 (((elemsD x).length : Int) - 1) = -1 := by rw [h0]; rfl
      rw [w1, t26_lp2_step, hx]
      rfl
    · have w1 : IntKind.wrap .i64 (((elemsD x).length : Int) - 1) = (((elemsD x).length - 1 : Nat) : Int) := by rw [l_wrapI (by rw [inR_iff]; unfold maxLen at hl; omega)]; omega
      rw [w1, iss_loop hl ((elemsD x).length + 1) ((elemsD x).length - 1) (by omega) (by omega)]
      have : (elemsD x).take ((elemsD x).length - 1 + 1) = elemsD x := List.take_of_length_le (by omega)
      rw [this]
      rfl
  · cases hd

def H4 : HTab := [h42, h46, h26]
theorem envH4 : EnvOK Try.prog (envR B3 H4 R3 []) := envOK_consH (envOK_consH (envOK_consH envR3 c26) c46) c42

end Go.Proofs.Ytjofcicaoofijaa
