/- Layer 3: two pieces change places; Sorted. Nothing here is trusted. -/
import Derived.Test.YtjofcicaoofijaaBT5
namespace Go.Proofs.Ytjofcicaoofijaa
open Go.Ev
set_option linter.unusedVariables false
set_option linter.unusedSimpArgs false

theorem rot_loop {N : Nat} {es : List D} {x1 x3 : Int} {m : Nat} : ∀ (n : Nat) (P0 X Y R : List D), P0.length + X.length = m → 0 < X.length → 0 < Y.length → X.length + Y.length < n → (P0 ++ X ++ Y ++ R).length ≤ 2147483648 →
    t45_lp2 Try.prog Try.f45 N n x1 (m : Int) x3 es (X.length : Int) (Y.length : Int) (P0 ++ X ++ Y ++ R) = some (unitR, rowR (P0 ++ Y ++ X ++ R))
  | 0, _, _, _, _, _, _, _, h, _ => by omega
  | n + 1, P0, X, Y, R, h1, hx, hy, h, hbig => by
    have hbig' := hbig
    simp only [List.length_append] at hbig'
    rw [t45_lp2_step]
    have w1 : IntKind.wrap .i64 ((m : Int) - (X.length : Int)) = (P0.length : Int) := by rw [l_wrapI (l_in (by omega) (by omega))]; omega
    rw [w1]
    by_cases he : X.length = Y.length
    · have f1 : P0 ++ X ++ Y ++ R = P0 ++ X ++ [] ++ Y ++ R := by simp
      rw [l_nef he, cond_false, f1, swpOK_of P0 X [] Y R rfl rfl (by simp; omega) he.symm (by rw [← f1]; exact hbig), cond_true, swpL_of P0 X [] Y R rfl rfl (by simp; omega) he.symm]
      simp [unitR, rowR]
    · rw [l_net he, cond_true]
      by_cases hgt : Y.length < X.length
      · have g1 : decide ((X.length : Int) > (Y.length : Int)) = true := by simp; omega
        have hU : (X.take Y.length).length = Y.length := by simp; omega
        have hV : (X.drop Y.length).length = X.length - Y.length := by simp
        have f1 : P0 ++ X ++ Y ++ R = P0 ++ X.take Y.length ++ X.drop Y.length ++ Y ++ R := by
          rw [List.append_assoc P0 (X.take Y.length), List.take_append_drop]
        have w2 : IntKind.wrap .i64 ((X.length : Int) - (Y.length : Int)) = ((X.drop Y.length).length : Int) := by rw [l_wrapI (l_in (by omega) (by omega)), hV]; omega
        rw [g1, cond_true, f1, swpOK_of P0 (X.take Y.length) (X.drop Y.length) Y R rfl (by rw [hU]) (by rw [hU, hV]; omega) hU.symm (by rw [← f1]; exact hbig), cond_true,
          swpL_of P0 (X.take Y.length) (X.drop Y.length) Y R rfl (by rw [hU]) (by rw [hU, hV]; omega) hU.symm, w2]
        have key := rot_loop (N := N) (es := es) (x1 := x1) (x3 := x3) (m := m) n (P0 ++ Y) (X.drop Y.length) (X.take Y.length) R (by simp; omega) (by rw [hV]; omega) (by rw [hU]; omega) (by rw [hU, hV]; omega) (by simp; omega)
        rw [hU] at key
        rw [key]
        simp [List.append_assoc]
      · have g1 : decide ((X.length : Int) > (Y.length : Int)) = false := by simp; omega
        have hU : (Y.take (Y.length - X.length)).length = Y.length - X.length := by simp
        have hV : (Y.drop (Y.length - X.length)).length = X.length := by simp; omega
        have f1 : P0 ++ X ++ Y ++ R = P0 ++ X ++ Y.take (Y.length - X.length) ++ Y.drop (Y.length - X.length) ++ R := by
          rw [List.append_assoc (P0 ++ X) (Y.take (Y.length - X.length)), List.take_append_drop]
        have w2 : IntKind.wrap .i64 ((Y.length : Int) - (X.length : Int)) = ((Y.take (Y.length - X.length)).length : Int) := by rw [l_wrapI (l_in (by omega) (by omega)), hU]; omega
        have w3 : IntKind.wrap .i64 (IntKind.wrap .i64 ((m : Int) + (Y.length : Int)) - (X.length : Int)) = ((P0.length + X.length + (Y.take (Y.length - X.length)).length : Nat) : Int) := by
          have w4 : IntKind.wrap .i64 ((m : Int) + (Y.length : Int)) = (m : Int) + (Y.length : Int) := l_wrapI (l_in (by omega) (by omega))
          rw [w4, l_wrapI (l_in (by omega) (by omega)), hU]; omega
        rw [g1, cond_false, w3, f1, swpOK_of P0 X (Y.take (Y.length - X.length)) (Y.drop (Y.length - X.length)) R rfl rfl rfl hV (by rw [← f1]; exact hbig), cond_true,
          swpL_of P0 X (Y.take (Y.length - X.length)) (Y.drop (Y.length - X.length)) R rfl rfl rfl hV, w2]
        have f2 : P0 ++ Y.drop (Y.length - X.length) ++ Y.take (Y.length - X.length) ++ X ++ R = P0 ++ Y.drop (Y.length - X.length) ++ Y.take (Y.length - X.length) ++ (X ++ R) := by simp
        have key := rot_loop (N := N) (es := es) (x1 := x1) (x3 := x3) (m := m) n P0 (Y.drop (Y.length - X.length)) (Y.take (Y.length - X.length)) (X ++ R) (by rw [hV]; omega) (by rw [hV]; omega) (by rw [hU]; omega) (by rw [hU, hV]; omega) (by simp; omega)
        rw [hV] at key
        rw [f2, key]
        simp [List.append_assoc]
def q45 (ds hs : List D) : Bool := match ds, hs with
  | [_, a, m, b, f], [e] => isF f && rotOK (elemsD e) (intD a) (intD m) (intD b)
  | _, _ => false
def g45 (ds hs : List D) : HRes := match ds, hs with
  | [_, a, m, b, _], [e] => some (unitR, rowR (rotL (elemsD e) (intD a) (intD m) (intD b)))
  | _, _ => none
def h45 : HEnt := (45, 0, preH a46 b42 q45, entH a46 b42 g45)
theorem k45 : FnOK Try.prog 45 Try.f45 := ⟨Try.func45, rfl, by kernel_rfl⟩
theorem c45 : ∀ args hh r h', preH a46 b42 q45 args hh = true → entH a46 b42 g45 args hh = some (r, h') → HCallOK Try.prog 45 args hh r h' := by
  refine entH_ok rfl rfl fun ds es r h' hq hd => ?_
  unfold q45 at hq
  split at hq
  · rename_i z a b m f e
    cases hd
    rw [Bool.and_eq_true] at hq
    refine HCallOK.typedR k45.ex fun ht _ hr => ?_
    obtain ⟨_, t1⟩ := ht (dat 3 a) (by simp [fillA, a46, dat, bxp]) rfl
    obtain ⟨_, t2⟩ := ht (dat 3 b) (by simp [fillA, a46, dat, bxp]) rfl
    obtain ⟨_, t4⟩ := ht (dat 3 m) (by simp [fillA, a46, dat, bxp]) rfl
    obtain ⟨_, t3⟩ := ht (dat 52 f) (by simp [fillA, a46, dat, bxp]) rfl
    obtain ⟨el, l, _, hl, _⟩ := hr ⟨44, e, 3, none⟩ (by simp [fillE, b42]) (by simp)
    have hl : e = .slice l [] := hl
    subst hl
    obtain ⟨i1, rfl, _⟩ := ty3' t1
    obtain ⟨i2, rfl, _⟩ := ty3' t2
    obtain ⟨i3, rfl, _⟩ := ty3' t4
    rw [isF_eq (show Ty Try.prog _ 52 f from t3) hq.1]
    have hq : rotOK l i1 i2 i3 = true := hq.2
    simp only [rotOK, Bool.and_eq_true, decide_eq_true_eq] at hq
    obtain ⟨⟨⟨⟨g1, g2⟩, g3⟩, g4⟩, g5⟩ := hq
    obtain ⟨A, hA⟩ : ∃ A : Nat, i1 = (A : Int) := ⟨i1.toNat, by omega⟩
    obtain ⟨M, hM⟩ : ∃ M : Nat, i2 = (M : Int) := ⟨i2.toNat, by omega⟩
    obtain ⟨B, hB⟩ : ∃ B : Nat, i3 = (B : Int) := ⟨i3.toNat, by omega⟩
    subst hA hM hB
    obtain ⟨P0, X, Y, R, hl, hP, hX, hY, hS, _⟩ := rot_split l (A := A) (M := M) (B := B) (by omega) (by omega) (by omega)
    refine fnH_ok hm envH4 k45 ((t45 (l.length + 1) (A : Int) (M : Int) (B : Int) l).trans ?_)
    have w1 : IntKind.wrap .i64 ((M : Int) - (A : Int)) = (X.length : Int) := by rw [l_wrapI (l_in (by omega) (by omega))]; omega
    have w2 : IntKind.wrap .i64 ((B : Int) - (M : Int)) = (Y.length : Int) := by rw [l_wrapI (l_in (by omega) (by omega))]; omega
    have key := rot_loop (N := l.length + 1) (es := l) (x1 := (A : Int)) (x3 := (B : Int)) (m := M) (l.length + 1) P0 X Y R (by omega) (by omega) (by omega) (by omega) (by rw [← hl]; exact g5)
    rw [← hl] at key
    rw [w1, w2, key]
    show _ = some (unitR, rowR (rotL l (A : Int) (M : Int) (B : Int)))
    rw [hS]
  · cases hq

def e9 : FuncId × TypeId × (List AV → Bool) × (List AV → Option D) := (9, 4, yes, ent [25, 3] (f2 fun x y => some (.lit (.bool (sortedB x (intD y))))))
theorem k9 : FnOK Try.prog 9 Try.f9 := ⟨Try.func9, rfl, by kernel_rfl⟩
theorem c9 : ∀ args d, e9.2.2.2 args = some d → CallOK Try.prog 9 args (mkRes Try.prog 4 d) :=
  ent2 k9 fun x y d h _ _ => by
    cases h
    rw [nB, n3]
    refine fn_ok hm envH4 k9 ((t9 1 x (intD y)).trans ?_)
    rw [m4]
    rfl

def q43 (K : Nat) (ds hs : List D) : Bool := match ds, hs with
  | [_, a, m, b, f], [e] => isF f && symOK K (elemsD e) (intD a) (intD m) (intD b)
  | _, _ => false
def g43 (ds hs : List D) : HRes := match ds, hs with
  | [_, a, m, b, _], [e] => some (unitR, rowR (insL (elemsD e) (intD a) (intD b)))
  | _, _ => none
def h43 (K : Nat) : HEnt := (43, 0, preH a46 b42 (q43 K), entH a46 b42 g43)
def H5 (K : Nat) : HTab := h43 K :: h45 :: H4
theorem envH5r : EnvOK Try.prog (envR B3 (h45 :: H4) R3 []) := envOK_consH envH4 c45

end Go.Proofs.Ytjofcicaoofijaa
