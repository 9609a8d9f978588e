/- What the evaluator comes to, function by function: by the kernel. Nothing here is trusted. -/
import Derived.Test.YtmopepjahjmdeaaGreatWA
namespace Go.Proofs.YtmopepjahjmdeaaGreat
namespace X
open Go.Ev
set_option linter.unusedVariables false
/- roadbook/expr.through$1 -/
def t52_m_h : Hints := fun i => if i = 4 then some ([0, 2, 4, 5, 6, 7, 8, 9, 10, 11, 12, 13, 14, 18, 19, 20, 21, 22, 23, 24, 25, 26, 27], [1000000, 1000001, 1000002], []) else none
def t52_m_lp4 (P : Program) (fn : Func) (K : Nat) (N n : Nat) (x0 : D) (x1 : Int) (q : Int) (v17 : Int) (b1000002 : Int) : Option (AV × List (Option Ent)) := evLoop (preL t52_m_h (sub [1, 1, 0, 1, 0, 0] (bodyOf fn))) (evCode P (envH U2 (H2 K)) t52_m_h N (sub [1, 1, 0, 1, 0, 0] (bodyOf fn))) n ⟨[dead, dat 3 (.lit (.int .i64 x1)), dead, bxp 1000001 48, dead, dead, dead, dead, dead, dead, dead, dead, dead, dead, dead, dat 26 (fieldD x0 3), dat 3 (.lit (.int .i64 ((elemsD (fieldD x0 3)).length : Int))), dat 3 (.lit (.int .i64 v17)), dead, dead, dead, dead, dead, dead, dead, dead, dead, dead], lookB [(1000000, some ⟨48, .nil, 0, some (clo 48 50 [1000002])⟩), (1000001, some ⟨48, .nil, 0, some (clo 48 52 [1000000, 1000001])⟩), (1000002, some ⟨3, .lit (.int .i64 b1000002), 0, none⟩)]⟩ (blockK 0 (seqC P (envH U2 (H2 K)) t52_m_h N (sub [1, 1, 1] (bodyOf fn)) (finH P fn 3) ))
theorem t52_m_lp4_step (K : Nat) (N n : Nat) (x0 : D) (x1 : Int) (q : Int) (v17 : Int) (b1000002 : Int) : t52_m_lp4 Tryz.prog Tryz.f52 K N (n + 1) x0 x1 q v17 b1000002 =
  bif decide (v17 < ((elemsD (fieldD x0 3)).length : Int)) then
    bif (decide (0 ≤ v17) && decide (v17 < ((elemsD (fieldD x0 3)).length : Int))) then
      bif mayPre K (IntKind.wrap .i64 (x1 + 1)) b1000002 then
        bif (!((mayAll K ((elemsD (fieldD x0 3)).getD (v17).toNat .nil) (IntKind.wrap .i64 (x1 + 1)) b1000002).1)) then
          some (dat 4 (.lit (.bool false)), [some ⟨48, .nil, 0, some (clo 48 50 [1000002])⟩, some ⟨48, .nil, 0, some (clo 48 52 [1000000, 1000001])⟩, some ⟨3, .lit (.int .i64 ((mayAll K ((elemsD (fieldD x0 3)).getD (v17).toNat .nil) (IntKind.wrap .i64 (x1 + 1)) b1000002).2)), 0, none⟩])
        else t52_m_lp4 Tryz.prog Tryz.f52 K N n x0 x1 q (IntKind.wrap .i64 (v17 + 1)) ((mayAll K ((elemsD (fieldD x0 3)).getD (v17).toNat .nil) (IntKind.wrap .i64 (x1 + 1)) b1000002).2)
      else none
    else none
  else some (dat 4 (.lit (.bool true)), [some ⟨48, .nil, 0, some (clo 48 50 [1000002])⟩, some ⟨48, .nil, 0, some (clo 48 52 [1000000, 1000001])⟩, some ⟨3, .lit (.int .i64 b1000002), 0, none⟩]) := by kernel_rfl
theorem t52_m (K : Nat) (N : Nat) (x0 : D) (x1 : Int) (q : Int) : evFnH Tryz.prog (envH U2 (H2 K)) t52_m_h N Tryz.f52 [dat 36 x0, dat 3 (.lit (.int .i64 x1)), bxp 1000000 48, bxp 1000001 48] [⟨48, .nil, 0, some (clo 48 50 [1000002])⟩, ⟨48, .nil, 0, some (clo 48 52 [1000000, 1000001])⟩, ⟨3, .lit (.int .i64 q), 0, none⟩] =
  bif (decide (0 ≤ q) && decide (q ≤ 1000)) then
    bif (!(seeMay x0 x1 q)) then
      some (dat 4 (.lit (.bool false)), [some ⟨48, .nil, 0, some (clo 48 50 [1000002])⟩, some ⟨48, .nil, 0, some (clo 48 52 [1000000, 1000001])⟩, some ⟨3, .lit (.int .i64 (q + 1)), 0, none⟩])
    else t52_m_lp4 Tryz.prog Tryz.f52 K N N x0 x1 q 0 (q + 1)
  else none := by kernel_rfl

/- roadbook/expr.through$1 -/
def t52_c_h : Hints := fun i => if i = 4 then some ([0, 2, 4, 5, 6, 7, 8, 9, 10, 11, 12, 13, 14, 18, 19, 20, 21, 22, 23, 24, 25, 26, 27], [1000000, 1000001, 1000002, 1000003], []) else none
def t52_c_lp4 (P : Program) (fn : Func) (K : Nat) (N n : Nat) (x0 : D) (x1 : Int) (es : List D) (v17 : Int) (b1000003 : List D) : Option (AV × List (Option Ent)) := evLoop (preL t52_c_h (sub [1, 1, 0, 1, 0, 0] (bodyOf fn))) (evCode P (envH U2 (H2 K)) t52_c_h N (sub [1, 1, 0, 1, 0, 0] (bodyOf fn))) n ⟨[dead, dat 3 (.lit (.int .i64 x1)), dead, bxp 1000001 48, dead, dead, dead, dead, dead, dead, dead, dead, dead, dead, dead, dat 26 (fieldD x0 3), dat 3 (.lit (.int .i64 ((elemsD (fieldD x0 3)).length : Int))), dat 3 (.lit (.int .i64 v17)), dead, dead, dead, dead, dead, dead, dead, dead, dead, dead], lookB [(1000000, some ⟨48, .nil, 0, some (clo 48 27 [1000002])⟩), (1000001, some ⟨48, .nil, 0, some (clo 48 52 [1000000, 1000001])⟩), (1000002, some ⟨22, .nil, 0, some (bxp 1000003 22)⟩), (1000003, some ⟨22, .slice b1000003 [], 1, none⟩)]⟩ (blockK 0 (seqC P (envH U2 (H2 K)) t52_c_h N (sub [1, 1, 1] (bodyOf fn)) (finH P fn 4) ))
theorem t52_c_lp4_step (K : Nat) (N n : Nat) (x0 : D) (x1 : Int) (es : List D) (v17 : Int) (b1000003 : List D) : t52_c_lp4 Tryz.prog Tryz.f52 K N (n + 1) x0 x1 es v17 b1000003 =
  bif decide (v17 < ((elemsD (fieldD x0 3)).length : Int)) then
    bif (decide (0 ≤ v17) && decide (v17 < ((elemsD (fieldD x0 3)).length : Int))) then
      bif colsPre K ((elemsD (fieldD x0 3)).getD (v17).toNat .nil) (IntKind.wrap .i64 (x1 + 1)) b1000003 then
        t52_c_lp4 Tryz.prog Tryz.f52 K N n x0 x1 es (IntKind.wrap .i64 (v17 + 1)) (b1000003 ++ colsK K ((elemsD (fieldD x0 3)).getD (v17).toNat .nil))
      else none
    else none
  else some (dat 4 (.lit (.bool true)), [some ⟨48, .nil, 0, some (clo 48 27 [1000002])⟩, some ⟨48, .nil, 0, some (clo 48 52 [1000000, 1000001])⟩, some ⟨22, .nil, 0, some (bxp 1000003 22)⟩, some ⟨22, .slice b1000003 [], 1, none⟩]) := by kernel_rfl
theorem t52_c (K : Nat) (N : Nat) (x0 : D) (x1 : Int) (es : List D) : evFnH Tryz.prog (envH U2 (H2 K)) t52_c_h N Tryz.f52 [dat 36 x0, dat 3 (.lit (.int .i64 x1)), bxp 1000000 48, bxp 1000001 48] [⟨48, .nil, 0, some (clo 48 27 [1000002])⟩, ⟨48, .nil, 0, some (clo 48 52 [1000000, 1000001])⟩, ⟨22, .nil, 0, some (bxp 1000003 22)⟩, ⟨22, .slice es [], 4, none⟩] =
  bif decide (es.length ≤ 1000) then
    t52_c_lp4 Tryz.prog Tryz.f52 K N N x0 x1 es 0 (es ++ (bif opI x0 == 1 then [litI (colI x0)] else []))
  else none := by kernel_rfl

end X
end Go.Proofs.YtmopepjahjmdeaaGreat

namespace Go.Proofs.YtmopepjahjmdeaaGreat
namespace X
open Go.Ev
set_option linter.unusedVariables false
set_option linter.unusedSimpArgs false

theorem goL_cons (g : D → Int → Bool × Int) (p : D) (l : List D) (n : Int) : goL g (p :: l) n = bif (g p n).1 then goL g l (g p n).2 else (false, (g p n).2) := rfl
theorem mayAll_succ (k : Nat) (e : D) (deep n : Int) : mayAll (k + 1) e deep n = bif seeMay e deep n then goL (fun p m => mayAll k p (deep + 1) m) (kids e) (n + 1) else (false, n + 1) := rfl
theorem colsK_succ (k : Nat) (e : D) : colsK (k + 1) e = (bif opI e == 1 then [litI (colI e)] else []) ++ (kids e).flatMap (colsK k) := rfl
theorem okK_succ (k : Nat) (e : D) : okK (k + 1) e = (fitsB e && (kids e).all (okK k)) := rfl

theorem goL_bound {g : D → Int → Bool × Int} (hg : ∀ p m, 0 ≤ m → m ≤ 30 → (g p m).1 = true → 0 ≤ (g p m).2 ∧ (g p m).2 ≤ 30) : ∀ (l : List D) (m : Int), 0 ≤ m → m ≤ 30 → (goL g l m).1 = true → 0 ≤ (goL g l m).2 ∧ (goL g l m).2 ≤ 30
  | [], m, h0, h1, _ => ⟨h0, h1⟩
  | p :: l, m, h0, h1, h => by
    rw [goL_cons] at h ⊢
    cases hp : (g p m).1 with
    | false => rw [hp] at h; cases h
    | true =>
      rw [hp, cond_true] at h
      rw [cond_true]
      obtain ⟨b0, b1⟩ := hg p m h0 h1 hp
      exact goL_bound hg l _ b0 b1 h

theorem see_true {e : D} {deep n : Int} (h : seeMay e deep n = true) : n + 1 ≤ 30 ∧ deep ≤ 6 ∧ fitsB e = true := by
  unfold seeMay at h
  by_cases h1 : n + 1 ≤ 30
  · have d1 : decide (n + 1 ≤ 30) = true := by simpa using h1
    rw [d1, cond_true] at h
    by_cases h2 : deep ≤ 6
    · have d2 : decide (deep ≤ 6) = true := by simpa using h2
      rw [d2, cond_true] at h
      exact ⟨h1, h2, h⟩
    · have d2 : decide (deep ≤ 6) = false := by simpa using h2
      rw [d2] at h
      cases h
  · have d1 : decide (n + 1 ≤ 30) = false := by simpa using h1
    rw [d1] at h
    cases h

theorem mayAll_bound : ∀ (K : Nat) (e : D) (deep n : Int), 0 ≤ n → n ≤ 30 → (mayAll K e deep n).1 = true → 0 ≤ (mayAll K e deep n).2 ∧ (mayAll K e deep n).2 ≤ 30
  | 0, e, deep, n, h0, h1, h => by cases h
  | K + 1, e, deep, n, h0, h1, h => by
    rw [mayAll_succ] at h ⊢
    cases hs : seeMay e deep n with
    | false => rw [hs] at h; cases h
    | true =>
      rw [hs, cond_true] at h
      rw [cond_true]
      exact goL_bound (fun p m => mayAll_bound K p (deep + 1) m) _ _ (by omega) (see_true hs).1 h

theorem may_loop {K N : Nat} {x0 : D} {x1 q : Int} (hl : (kids x0).length ≤ maxLen) (hx : 1 ≤ x1) (hx6 : x1 ≤ 6) (hK : 7 < x1 + 1 + (K : Int)) : ∀ (n i : Nat) (b : Int), i ≤ (kids x0).length → (kids x0).length - i < n → 0 ≤ b → b ≤ 30 →
    t52_m_lp4 Tryz.prog Tryz.f52 K N n x0 x1 q (i : Int) b = some (dat 4 (.lit (.bool (goL (fun p m => mayAll K p (x1 + 1) m) ((kids x0).drop i) b).1)),
      [some ⟨48, .nil, 0, some (clo 48 50 [1000002])⟩, some ⟨48, .nil, 0, some (clo 48 52 [1000000, 1000001])⟩, some ⟨3, .lit (.int .i64 (goL (fun p m => mayAll K p (x1 + 1) m) ((kids x0).drop i) b).2), 0, none⟩])
  | 0, i, b, _, h, _, _ => by omega
  | n + 1, i, b, hi, h, h0, h30 => by
    rw [t52_m_lp4_step, show elemsD (fieldD x0 3) = kids x0 from rfl]
    have hw : IntKind.wrap .i64 (x1 + 1) = x1 + 1 := wrap_in (by rw [inR_iff]; omega)
    have hpre : mayPre K (x1 + 1) b = true := by simp only [mayPre, Bool.and_eq_true, decide_eq_true_eq]; omega
    rw [hw, hpre]
    by_cases hlt : i < (kids x0).length
    · have h1 : decide ((i : Int) < ((kids x0).length : Int)) = true := by simpa using hlt
      rw [idx_ok hlt, h1, cond_true, cond_true, cond_true, Int.toNat_natCast, getD_lt hlt, List.drop_eq_getElem_cons hlt, goL_cons]
      cases hb : (mayAll K (kids x0)[i] (x1 + 1) b).1 with
      | false =>
        rw [Bool.not_false, cond_true, cond_false]
      | true =>
        obtain ⟨b0, b1⟩ := mayAll_bound K _ _ _ h0 h30 hb
        rw [Bool.not_true, cond_false, cond_true, wrap_step hl hlt]
        exact may_loop hl hx hx6 hK n (i + 1) _ (by omega) (by omega) b0 b1
    · have h1 : decide ((i : Int) < ((kids x0).length : Int)) = false := by simpa using hlt
      have h2 : (kids x0).drop i = [] := List.drop_of_length_le (by omega)
      rw [h1, h2, cond_false]
      rfl

theorem cols_loop {K N : Nat} {x0 : D} {x1 : Int} {es : List D} (hl : (kids x0).length ≤ maxLen) (hx : 0 ≤ x1) (hx6 : x1 + 1 + (K : Int) ≤ 1000) (hok : ∀ p ∈ kids x0, okK K p = true) : ∀ (n i : Nat) (l : List D), i ≤ (kids x0).length → (kids x0).length - i < n →
    l.length + (((kids x0).drop i).flatMap (colsK K)).length ≤ 100 →
    t52_c_lp4 Tryz.prog Tryz.f52 K N n x0 x1 es (i : Int) l = some (dat 4 (.lit (.bool true)),
      [some ⟨48, .nil, 0, some (clo 48 27 [1000002])⟩, some ⟨48, .nil, 0, some (clo 48 52 [1000000, 1000001])⟩, some ⟨22, .nil, 0, some (bxp 1000003 22)⟩, some ⟨22, .slice (l ++ ((kids x0).drop i).flatMap (colsK K)) [], 1, none⟩])
  | 0, i, l, _, h, _ => by omega
  | n + 1, i, l, hi, h, hlen => by
    rw [t52_c_lp4_step, show elemsD (fieldD x0 3) = kids x0 from rfl]
    have hw : IntKind.wrap .i64 (x1 + 1) = x1 + 1 := wrap_in (by rw [inR_iff]; omega)
    rw [hw]
    by_cases hlt : i < (kids x0).length
    · have h1 : decide ((i : Int) < ((kids x0).length : Int)) = true := by simpa using hlt
      rw [List.drop_eq_getElem_cons hlt, List.flatMap_cons, List.length_append] at hlen
      have hpre : colsPre K (kids x0)[i] (x1 + 1) l = true := by
        simp only [colsPre, Bool.and_eq_true, decide_eq_true_eq]
        exact ⟨⟨⟨hok _ (List.getElem_mem hlt), by omega⟩, by omega⟩, by omega⟩
      rw [idx_ok hlt, h1, cond_true, cond_true, Int.toNat_natCast, getD_lt hlt, hpre, cond_true, wrap_step hl hlt, List.drop_eq_getElem_cons hlt, List.flatMap_cons, ← List.append_assoc]
      exact cols_loop hl hx hx6 hok n (i + 1) _ (by omega) (by omega) (by rw [List.length_append]; omega)
    · have h1 : decide ((i : Int) < ((kids x0).length : Int)) = false := by simpa using hlt
      have h2 : (kids x0).drop i = [] := List.drop_of_length_le (by omega)
      rw [h1, h2, cond_false]
      simp

theorem k52 : FnOK Tryz.prog 52 Tryz.f52 := ⟨Tryz.func52, rfl, by kernel_rfl⟩

theorem c52m (K : Nat) (henv : EnvOK Tryz.prog (envH U2 (H2 K))) : ∀ args hh r h', preH a52 b52m (q52m (K + 1)) args hh = true → entH a52 b52m (g52m (K + 1)) args hh = some (r, h') → HCallOK Tryz.prog 52 args hh r h' :=
  entH_ok rfl rfl fun ds es r h' hq hg => by
    match ds, es, hq, hg with
    | [e, dp, y1, y2], [u1, u2, n], hq, hg =>
      cases hg
      refine HCallOK.typed k52.ex fun ht he => ?_
      obtain ⟨_, t0⟩ := ht (dat 36 e) (by simp [fillA, a52, dat, bxp]) rfl
      obtain ⟨_, t1⟩ := ht (dat 3 dp) (by simp [fillA, a52, dat, bxp]) rfl
      obtain ⟨_, t2⟩ := he ⟨3, n, 0, none⟩ (by simp [fillE, b52m]) rfl rfl
      obtain ⟨z, rfl, hz⟩ := ty3' t1
      obtain ⟨q, rfl, hq2⟩ := ty3' t2
      have hpre : mayPre (K + 1) z q = true := hq
      simp only [mayPre, Bool.and_eq_true, decide_eq_true_eq] at hpre
      obtain ⟨⟨⟨⟨⟨p1, p2⟩, p3⟩, p4⟩, p5⟩, p6⟩ := hpre
      have t0 : Ty Tryz.prog _ 36 e := t0
      obtain ⟨hl, _⟩ := ty_kids t0
      refine fnH_ok hm henv k52 ((t52_m K ((kids e).length + 1) e z q).trans ?_)
      have hd : (decide (0 ≤ q) && decide (q ≤ 1000)) = true := by simp only [Bool.and_eq_true, decide_eq_true_eq]; omega
      rw [hd, cond_true]
      show _ = some (dat 4 (.lit (.bool (mayAll (K + 1) e z q).1)), [some (⟨48, .nil, 0, some (clo 48 50 [1000002])⟩ : Ent), some ⟨48, .nil, 0, some (clo 48 52 [1000000, 1000001])⟩, some ⟨3, .lit (.int .i64 (mayAll (K + 1) e z q).2), 0, none⟩])
      rw [mayAll_succ]
      cases hs : seeMay e z q with
      | false => rfl
      | true =>
        obtain ⟨s1, s2, _⟩ := see_true hs
        rw [Bool.not_true, cond_false, cond_true]
        have := may_loop (K := K) (N := (kids e).length + 1) (q := q) hl p3 s2 (by omega) ((kids e).length + 1) 0 (q + 1) (Nat.zero_le _) (by omega) (by omega) s1
        simpa using this
    | [], _, _, hg => cases hg
    | [_], _, _, hg => cases hg
    | [_, _], _, _, hg => cases hg
    | [_, _, _], _, _, hg => cases hg
    | _ :: _ :: _ :: _ :: _ :: _, _, _, hg => cases hg
    | [_, _, _, _], [], _, hg => cases hg
    | [_, _, _, _], [_], _, hg => cases hg
    | [_, _, _, _], [_, _], _, hg => cases hg
    | [_, _, _, _], _ :: _ :: _ :: _ :: _, _, hg => cases hg

theorem g52c_inv {K : Nat} {ds es : List D} {r : AV} {h' : List (Option Ent)} (hg : g52c K ds es = some (r, h')) : ∃ e dp y1 y2 u1 u2 u3 l, ds = [e, dp, y1, y2] ∧ es = [u1, u2, u3, l] ∧ r = dat 4 (.lit (.bool true)) ∧
    h' = [some ⟨48, .nil, 0, some (clo 48 27 [OID + 2])⟩, some ⟨48, .nil, 0, some (clo 48 52 [OID, OID + 1])⟩, some ⟨22, .nil, 0, some (bxp (OID + 3) 22)⟩, some ⟨22, .slice (elemsD l ++ colsK K e) [], 1, none⟩] := by
  unfold g52c at hg
  split at hg
  · injection hg with hg
    injection hg with h1 h2
    exact ⟨_, _, _, _, _, _, _, _, rfl, rfl, h1.symm, h2.symm⟩
  · cases hg

theorem c52c (K : Nat) (henv : EnvOK Tryz.prog (envH U2 (H2 K))) : ∀ args hh r h', preH a52 b52c (q52c (K + 1)) args hh = true → entH a52 b52c (g52c (K + 1)) args hh = some (r, h') → HCallOK Tryz.prog 52 args hh r h' :=
  entH_ok rfl rfl fun ds es r h' hq hg => by
    obtain ⟨e, dp, y1, y2, u1, u2, u3, l, rfl, rfl, rfl, rfl⟩ := g52c_inv hg
    refine HCallOK.typed k52.ex fun ht he => ?_
    refine row_slice k52.ex (e := ⟨22, l, 4, none⟩) (by simp [fillE, b52c]) (by simp) ?_
    rintro ⟨es, hes⟩
    have hes : l = .slice es [] := hes
    subst hes
    obtain ⟨_, t0⟩ := ht (dat 36 e) (by simp [fillA, a52, dat, bxp]) rfl
    obtain ⟨_, t1⟩ := ht (dat 3 dp) (by simp [fillA, a52, dat, bxp]) rfl
    obtain ⟨z, rfl, hz⟩ := ty3' t1
    have hpre : colsPre (K + 1) e z es = true := hq
    simp only [colsPre, Bool.and_eq_true, decide_eq_true_eq, okK_succ, List.all_eq_true] at hpre
    obtain ⟨⟨⟨⟨p0, p1⟩, p2⟩, p3⟩, p4⟩ := hpre
    have t0 : Ty Tryz.prog _ 36 e := t0
    obtain ⟨hl, _⟩ := ty_kids t0
    refine fnH_ok hm henv k52 ((t52_c K ((kids e).length + 1) e z es).trans ?_)
    rw [colsK_succ] at p4
    simp only [List.length_append] at p4
    have hd : decide (es.length ≤ 1000) = true := by simp only [decide_eq_true_eq]; omega
    rw [hd, cond_true]
    show _ = some (dat 4 (.lit (.bool true)), [some (⟨48, .nil, 0, some (clo 48 27 [1000002])⟩ : Ent), some ⟨48, .nil, 0, some (clo 48 52 [1000000, 1000001])⟩, some ⟨22, .nil, 0, some (bxp 1000003 22)⟩, some ⟨22, .slice (es ++ colsK (K + 1) e) [], 1, none⟩])
    rw [colsK_succ, ← List.append_assoc]
    have := cols_loop (K := K) (N := (kids e).length + 1) (es := es) hl p2 (by omega) p1 ((kids e).length + 1) 0 (es ++ (bif opI e == 1 then [litI (colI e)] else [])) (Nat.zero_le _) (by omega) (by simp only [List.length_append, List.drop_zero]; omega)
    simpa using this

theorem envH2 : ∀ K : Nat, EnvOK Tryz.prog (envH U2 (H2 K))
  | 0 => envOK_consH envH1 (fun args hh r h' hp _ => by
      exfalso
      revert hp
      cases (hh.length == 3) with
      | true =>
        intro hp
        have hp : preH a52 b52m (q52m 0) args hh = true := hp
        unfold preH at hp
        rw [Bool.and_eq_true] at hp
        have := hp.2
        simp [q52m, mayPre] at this
      | false =>
        intro hp
        have hp : preH a52 b52c (q52c 0) args hh = true := hp
        unfold preH at hp
        rw [Bool.and_eq_true] at hp
        have := hp.2
        simp [q52c, colsPre, okK] at this)
  | K + 1 => envOK_consH envH1 (fun args hh r h' hp hd => by
      have hp : (bif hh.length == 3 then preH a52 b52m (q52m (K + 1)) args hh else preH a52 b52c (q52c (K + 1)) args hh) = true := hp
      have hd : (bif hh.length == 3 then entH a52 b52m (g52m (K + 1)) args hh else entH a52 b52c (g52c (K + 1)) args hh) = some (r, h') := hd
      cases hlen : (hh.length == 3) with
      | true =>
        rw [hlen, cond_true] at hp hd
        exact c52m K (envH2 K) args hh r h' hp hd
      | false =>
        rw [hlen, cond_false] at hp hd
        exact c52c K (envH2 K) args hh r h' hp hd)

end X
end Go.Proofs.YtmopepjahjmdeaaGreat

namespace Go.Proofs.YtmopepjahjmdeaaGreat
namespace X
open Go.Ev
set_option linter.unusedVariables false
/- roadbook/expr.through -/
def t26_m_h : Hints := fun _ =>  none
theorem t26_m (N : Nat) (x0 : D) (q : Int) : evFnH Tryz.prog (envH U2 (H2 7)) t26_m_h N Tryz.f26 [dat 36 x0, clo 48 50 [1000000]] [⟨3, .lit (.int .i64 q), 0, none⟩] =
  bif mayPre 7 1 q then
    some (dat 4 (.lit (.bool ((mayAll 7 x0 1 q).1))), [some ⟨3, .lit (.int .i64 ((mayAll 7 x0 1 q).2)), 0, none⟩])
  else none := by kernel_rfl

/- roadbook/expr.through -/
def t26_c_h : Hints := fun _ =>  none
theorem t26_c (N : Nat) (x0 : D) (es : List D) : evFnH Tryz.prog (envH U2 (H2 7)) t26_c_h N Tryz.f26 [dat 36 x0, clo 48 27 [1000000]] [⟨22, .nil, 0, some (bxp 1000001 22)⟩, ⟨22, .slice es [], 4, none⟩] =
  bif colsPre 7 x0 1 es then
    some (dat 4 (.lit (.bool true)), [some ⟨22, .nil, 0, some (bxp 1000001 22)⟩, some ⟨22, .slice (es ++ colsK 7 x0) [], 1, none⟩])
  else none := by kernel_rfl

end X
end Go.Proofs.YtmopepjahjmdeaaGreat

namespace Go.Proofs.YtmopepjahjmdeaaGreat
namespace X
open Go.Ev
set_option linter.unusedVariables false
set_option linter.unusedSimpArgs false

def a26m : List AV := [dat 36 .nil, clo 48 50 [OID]]
def a26c : List AV := [dat 36 .nil, clo 48 27 [OID]]
def b26m : List Ent := [⟨3, .nil, 0, none⟩]
def b26c : List Ent := [⟨22, .nil, 0, some (bxp (OID + 1) 22)⟩, ⟨22, .nil, 4, none⟩]
def q26m : List D → List D → Bool := fun ds es => mayPre 7 1 (intD (es.getD 0 .nil))
def q26c : List D → List D → Bool := fun ds es => colsPre 7 (ds.getD 0 .nil) 1 (elemsD (es.getD 1 .nil))
def g26m : List D → List D → HRes
  | [e, _], [n] => some (dat 4 (.lit (.bool (mayAll 7 e 1 (intD n)).1)), [some ⟨3, .lit (.int .i64 (mayAll 7 e 1 (intD n)).2), 0, none⟩])
  | _, _ => none
def g26c : List D → List D → HRes
  | [e, _], [_, l] => some (dat 4 (.lit (.bool true)), [some ⟨22, .nil, 0, some (bxp (OID + 1) 22)⟩, some ⟨22, .slice (elemsD l ++ colsK 7 e) [], 1, none⟩])
  | _, _ => none
def h26 : HEnt := (26, 4, fun args h => bif h.length == 1 then preH a26m b26m q26m args h else preH a26c b26c q26c args h, fun args h => bif h.length == 1 then entH a26m b26m g26m args h else entH a26c b26c g26c args h)
def H3 : HTab := h26 :: H2 7
theorem k26 : FnOK Tryz.prog 26 Tryz.f26 := ⟨Tryz.func26, rfl, by kernel_rfl⟩

theorem g26m_inv {ds es : List D} {r : AV} {h' : List (Option Ent)} (hg : g26m ds es = some (r, h')) : ∃ e y n, ds = [e, y] ∧ es = [n] ∧ r = dat 4 (.lit (.bool (mayAll 7 e 1 (intD n)).1)) ∧
    h' = [some ⟨3, .lit (.int .i64 (mayAll 7 e 1 (intD n)).2), 0, none⟩] := by
  unfold g26m at hg
  split at hg
  · injection hg with hg
    injection hg with h1 h2
    exact ⟨_, _, _, rfl, rfl, h1.symm, h2.symm⟩
  · cases hg
theorem g26c_inv {ds es : List D} {r : AV} {h' : List (Option Ent)} (hg : g26c ds es = some (r, h')) : ∃ e y u l, ds = [e, y] ∧ es = [u, l] ∧ r = dat 4 (.lit (.bool true)) ∧
    h' = [some ⟨22, .nil, 0, some (bxp (OID + 1) 22)⟩, some ⟨22, .slice (elemsD l ++ colsK 7 e) [], 1, none⟩] := by
  unfold g26c at hg
  split at hg
  · injection hg with hg
    injection hg with h1 h2
    exact ⟨_, _, _, _, rfl, rfl, h1.symm, h2.symm⟩
  · cases hg

theorem c26m : ∀ args hh r h', preH a26m b26m q26m args hh = true → entH a26m b26m g26m args hh = some (r, h') → HCallOK Tryz.prog 26 args hh r h' :=
  entH_ok rfl rfl fun ds es r h' hq hg => by
    obtain ⟨e, y, n, rfl, rfl, rfl, rfl⟩ := g26m_inv hg
    refine HCallOK.typed k26.ex fun ht he => ?_
    obtain ⟨_, t2⟩ := he ⟨3, n, 0, none⟩ (by simp [fillE, b26m]) rfl rfl
    obtain ⟨q, rfl, hq2⟩ := ty3' t2
    have hpre : mayPre 7 1 q = true := hq
    refine fnH_ok hm (envH2 7) k26 ((t26_m 1 e q).trans ?_)
    rw [hpre]
    rfl
theorem c26c : ∀ args hh r h', preH a26c b26c q26c args hh = true → entH a26c b26c g26c args hh = some (r, h') → HCallOK Tryz.prog 26 args hh r h' :=
  entH_ok rfl rfl fun ds es r h' hq hg => by
    obtain ⟨e, y, u, l, rfl, rfl, rfl, rfl⟩ := g26c_inv hg
    refine row_slice k26.ex (e := ⟨22, l, 4, none⟩) (by simp [fillE, b26c]) (by simp) ?_
    rintro ⟨es, hes⟩
    have hes : l = .slice es [] := hes
    subst hes
    have hpre : colsPre 7 e 1 es = true := hq
    refine fnH_ok hm (envH2 7) k26 ((t26_c 1 e es).trans ?_)
    rw [hpre]
    rfl
theorem envH3 : EnvOK Tryz.prog (envH U2 H3) := envOK_consH (envH2 7) (fun args hh r h' hp hd => by
      have hp : (bif hh.length == 1 then preH a26m b26m q26m args hh else preH a26c b26c q26c args hh) = true := hp
      have hd : (bif hh.length == 1 then entH a26m b26m g26m args hh else entH a26c b26c g26c args hh) = some (r, h') := hd
      cases hlen : (hh.length == 1) with
      | true =>
        rw [hlen, cond_true] at hp hd
        exact c26m args hh r h' hp hd
      | false =>
        rw [hlen, cond_false] at hp hd
        exact c26c args hh r h' hp hd)

/-! ### Sort and compact -/
def a28 : List AV := [bxp OID 22]
def q28 (args : List AV) (h : List Ent) : Bool := allA a28 args && (match h with | [e] => e.ty == 22 && e.c.isNone && (e.row == 3 || e.row == 4) | _ => false)
def h28 : HEnt := (28, 0, fun args h => q28 args h && decide ((elemsD (h.getD 0 ⟨0, .nil, 0, none⟩).d).length ≤ 1000000), fun args h => match h with | [e] => some (tupA [] (.agg []), [some ⟨22, .slice (sortD (elemsD e.d)) [], e.row, none⟩]) | _ => none)
def h29 : HEnt := (29, 22, fun args h => q28 args h, fun args h => match h with | [e] => some (bxp OID 22, [some ⟨22, .slice (compD (elemsD e.d)) [], if e.row == 3 then 2 else 1, none⟩]) | _ => none)
theorem k28 : FnOK Tryz.prog 28 Tryz.f28 := ⟨Tryz.func28, rfl, by kernel_rfl⟩
theorem k29 : FnOK Tryz.prog 29 Tryz.f29 := ⟨Tryz.func29, rfl, by kernel_rfl⟩
theorem cells27 : Tryz.prog.cellsOf 22 = 1 := by kernel_rfl
theorem cells3 : Tryz.prog.cellsOf 3 = 1 := by kernel_rfl
theorem q28_inv {args : List AV} {h : List Ent} (hq : q28 args h = true) : args = [bxp OID 22] ∧ ∃ e : Ent, h = [e] ∧ e.ty = 22 ∧ e.c = none ∧ (e.row = 3 ∨ e.row = 4) := by
  unfold q28 at hq
  rw [Bool.and_eq_true] at hq
  refine ⟨?_, ?_⟩
  · have ha := allA_eq hq.1 (fun t ht _ => by
      rcases List.mem_singleton.1 ht with rfl
      rfl)
    have hl : args.length = 1 := by
      have h1 := hq.1
      match args, h1 with
      | [], h1 => cases h1
      | [_], _ => rfl
      | _ :: _ :: _, h1 => simp [allA, a28] at h1
    match args, hl with
    | [x], _ => exact ha
  · match h, hq.2 with
    | [e], h2 =>
      simp only [Bool.and_eq_true, beq_iff_eq, Bool.or_eq_true, Option.isNone_iff_eq_none] at h2
      exact ⟨e, rfl, h2.1.1, h2.1.2, h2.2⟩
theorem c28 : ∀ args hh r h', h28.2.2.1 args hh = true → h28.2.2.2 args hh = some (r, h') → HCallOK Tryz.prog 28 args hh r h' := by
  intro args hh r h' hp hd
  have hp : (q28 args hh && decide ((elemsD (hh.getD 0 ⟨0, .nil, 0, none⟩).d).length ≤ 1000000)) = true := hp
  rw [Bool.and_eq_true] at hp
  obtain ⟨rfl, e, rfl, h1, h2, h3⟩ := q28_inv hp.1
  have hlen : (elemsD e.d).length ≤ 1000000 := by
    have := hp.2
    simpa using this
  have hd : some (tupA [] (.agg []), [some (⟨22, .slice (sortD (elemsD e.d)) [], e.row, none⟩ : Ent)]) = some (r, h') := hd
  rw [Option.some.injEq, Prod.mk.injEq] at hd
  rw [← hd.1, ← hd.2]
  exact sort_ok k28.ex (fun blk off cap zs w a b c => Tryz.slices_Sort_int blk off cap zs w a b c) (fun p cap w => Tryz.slices_Sort_int_none p cap w) u27 cells27 u3 cells3 h1 h2 h3 hlen
theorem c29 : ∀ args hh r h', h29.2.2.1 args hh = true → h29.2.2.2 args hh = some (r, h') → HCallOK Tryz.prog 29 args hh r h' := by
  intro args hh r h' hp hd
  have hp : q28 args hh = true := hp
  obtain ⟨rfl, e, rfl, h1, h2, h3⟩ := q28_inv hp
  have hd : some (bxp OID 22, [some (⟨22, .slice (compD (elemsD e.d)) [], if e.row == 3 then 2 else 1, none⟩ : Ent)]) = some (r, h') := hd
  rw [Option.some.injEq, Prod.mk.injEq] at hd
  rw [← hd.1, ← hd.2]
  exact compact_ok k29.ex (fun blk off cap zs w a b c => Tryz.slices_Compact_int blk off cap zs w a b c) (fun p cap w => Tryz.slices_Compact_int_empty p cap w) u27 cells27 u3 cells3 h1 h2 h3
def H4 : HTab := h29 :: h28 :: H3
theorem envH4 : EnvOK Tryz.prog (envH U2 H4) := envOK_consH (envOK_consH envH3 c28) c29

def e25 : FuncId × TypeId × (List AV → Bool) × (List AV → Option D) := (25, 4, yes, ent [36] (f1 fun x => some (.lit (.bool (mayE x)))))
def U3 : Tab := e25 :: U2
end X
end Go.Proofs.YtmopepjahjmdeaaGreat

namespace Go.Proofs.YtmopepjahjmdeaaGreat
namespace X
open Go.Ev
set_option linter.unusedVariables false
/- roadbook/expr.May -/
def t25_h : Hints := fun _ =>  none
theorem t25 (N : Nat) (x0 : D) : evFn Tryz.prog (envH U2 H3) t25_h N Tryz.f25 [dat 36 x0] =
  bif mayPre 7 1 0 then
    some (dat 4 (.lit (.bool ((mayAll 7 x0 1 0).1))))
  else none := by kernel_rfl

/- roadbook/expr.Cols -/
def t10_h : Hints := fun _ =>  none
theorem t10 (N : Nat) (x0 : D) : evFn Tryz.prog (envH U3 H4) t10_h N Tryz.f10 [dat 36 x0] =
  bif (!(mayE x0)) then
    some (dat 22 (.slice [] []))
  else bif colsPre 7 x0 1 [] then
      bif decide (([] ++ colsK 7 x0).length ≤ 1000000) then
        some (dat 22 (.slice (compD (sortD ([] ++ colsK 7 x0))) []))
      else none
    else none := by kernel_rfl

end X
end Go.Proofs.YtmopepjahjmdeaaGreat

namespace Go.Proofs.YtmopepjahjmdeaaGreat
namespace X
open Go.Ev
set_option linter.unusedVariables false
set_option linter.unusedSimpArgs false

theorem k25 : FnOK Tryz.prog 25 Tryz.f25 := ⟨Tryz.func25, rfl, by kernel_rfl⟩
theorem c25 : ∀ args d, e25.2.2.2 args = some d → CallOK Tryz.prog 25 args (mkRes Tryz.prog 4 d) :=
  ent1 k25 fun x d h _ => by
    cases h
    rw [n26]
    refine fn_ok hm envH3 k25 ((t25 1 x).trans ?_)
    rw [m4]
    rfl
theorem envU3 : EnvOK Tryz.prog (envH U3 []) := envOK_cons envU2 c25
theorem envU3H4 : EnvOK Tryz.prog (envH U3 H4) := envOK_cons envH4 c25

/-! ### What may be has columns that are few -/
theorem goL_count {g : D → Int → Bool × Int} {c : D → List D} (hg : ∀ p m, (g p m).1 = true → m + ((c p).length : Int) ≤ (g p m).2) : ∀ (l : List D) (m : Int), (goL g l m).1 = true → m + ((l.flatMap c).length : Int) ≤ (goL g l m).2
  | [], m, _ => by simp [goL]
  | p :: l, m, h => by
    rw [goL_cons] at h ⊢
    cases hp : (g p m).1 with
    | false => rw [hp] at h; cases h
    | true =>
      rw [hp, cond_true] at h
      rw [cond_true, List.flatMap_cons, List.length_append]
      have h1 := hg p m hp
      have h2 := goL_count hg l _ h
      omega
theorem goL_all {g : D → Int → Bool × Int} : ∀ (l : List D) (m : Int), (goL g l m).1 = true → ∀ p ∈ l, ∃ k, (g p k).1 = true
  | [], m, _ => by simp
  | p :: l, m, h => by
    rw [goL_cons] at h
    cases hp : (g p m).1 with
    | false => rw [hp] at h; cases h
    | true =>
      rw [hp, cond_true] at h
      intro q hq
      rcases List.mem_cons.1 hq with rfl | hq
      · exact ⟨m, hp⟩
      · exact goL_all l _ h q hq
theorem mayAll_ok : ∀ (K : Nat) (e : D) (deep n : Int), (mayAll K e deep n).1 = true → okK K e = true
  | 0, e, deep, n, h => by cases h
  | K + 1, e, deep, n, h => by
    rw [mayAll_succ] at h
    cases hs : seeMay e deep n with
    | false => rw [hs] at h; cases h
    | true =>
      rw [hs, cond_true] at h
      rw [okK_succ, (see_true hs).2.2, Bool.true_and, List.all_eq_true]
      intro p hp
      obtain ⟨k, hk⟩ := goL_all _ _ h p hp
      exact mayAll_ok K p _ k hk
theorem mayAll_count : ∀ (K : Nat) (e : D) (deep n : Int), (mayAll K e deep n).1 = true → n + ((colsK K e).length : Int) ≤ (mayAll K e deep n).2
  | 0, e, deep, n, h => by cases h
  | K + 1, e, deep, n, h => by
    rw [mayAll_succ] at h ⊢
    cases hs : seeMay e deep n with
    | false => rw [hs] at h; cases h
    | true =>
      rw [hs, cond_true] at h
      rw [cond_true, colsK_succ, List.length_append]
      have h1 := goL_count (c := colsK K) (fun p m => mayAll_count K p (deep + 1) m) _ _ h
      have h2 : (bif opI e == 1 then [litI (colI e)] else []).length ≤ 1 := by cases (opI e == 1) <;> simp
      omega
theorem mayE_ok {e : D} (h : mayE e = true) : okK 7 e = true := mayAll_ok 7 e 1 0 h
theorem mayE_cols {e : D} (h : mayE e = true) : (colsK 7 e).length ≤ 30 := by
  have h1 := mayAll_count 7 e 1 0 h
  have h2 := mayAll_bound 7 e 1 0 (by omega) (by omega) h
  omega
theorem mayE_pre {e : D} (h : mayE e = true) : colsPre 7 e 1 [] = true := by
  simp only [colsPre, Bool.and_eq_true, decide_eq_true_eq]
  have := mayE_cols h
  exact ⟨⟨⟨mayE_ok h, by omega⟩, by omega⟩, by simp; omega⟩

def e10 : FuncId × TypeId × (List AV → Bool) × (List AV → Option D) := (10, 22, yes, ent [36] (f1 fun x => some (.slice (colsE x) [])))
theorem k10 : FnOK Tryz.prog 10 Tryz.f10 := ⟨Tryz.func10, rfl, by kernel_rfl⟩
theorem c10 : ∀ args d, e10.2.2.2 args = some d → CallOK Tryz.prog 10 args (mkRes Tryz.prog 22 d) :=
  ent1 k10 fun x d h _ => by
    cases h
    rw [n26]
    refine fn_ok hm envU3H4 k10 ((t10 1 x).trans ?_)
    rw [m27]
    unfold colsE
    cases hmay : mayE x with
    | false => rfl
    | true =>
      have hl := mayE_cols hmay
      have hd : decide (([] ++ colsK 7 x).length ≤ 1000000) = true := by simp; omega
      rw [mayE_pre hmay, hd]
      rfl
def U4 : Tab := e10 :: U3
theorem envU4 : EnvOK Tryz.prog (envH U4 []) := envOK_cons envU3 c10

/-! ### Eval, by levels -/
def a90 : List AV := [dat 36 .nil, bxp OID 22, bxp (OID + 1) 46, bxp (OID + 2) 118]
def b90 : List Ent := [⟨22, .nil, 0, none⟩, ⟨46, .nil, 0, none⟩, ⟨118, .nil, 0, some (clo 118 90 [OID, OID + 1, OID + 2])⟩]
def q90 (K : Nat) : List D → List D → Bool := fun ds es => okK K (ds.getD 0 .nil)
def g90 (K : Nat) : List D → List D → HRes
  | [e, _, _, _], [c, r, _] => some (dat 34 (evalK (elemsD c) (elemsD r) K e), [some ⟨22, c, 0, none⟩, some ⟨46, r, 0, none⟩, some ⟨118, .nil, 0, some (clo 118 90 [OID, OID + 1, OID + 2])⟩])
  | _, _ => none
def h90 (K : Nat) : HEnt := (90, 34, preH a90 b90 (q90 K), entH a90 b90 (g90 K))
def H5 (K : Nat) : HTab := [h90 K]
theorem g90_inv {K : Nat} {ds es : List D} {r : AV} {h' : List (Option Ent)} (hg : g90 K ds es = some (r, h')) : ∃ e y1 y2 y3 c v u, ds = [e, y1, y2, y3] ∧ es = [c, v, u] ∧ r = dat 34 (evalK (elemsD c) (elemsD v) K e) ∧
    h' = [some ⟨22, c, 0, none⟩, some ⟨46, v, 0, none⟩, some ⟨118, .nil, 0, some (clo 118 90 [OID, OID + 1, OID + 2])⟩] := by
  unfold g90 at hg
  split at hg
  · injection hg with hg
    injection hg with h1 h2
    exact ⟨_, _, _, _, _, _, _, rfl, rfl, h1.symm, h2.symm⟩
  · cases hg

end X
end Go.Proofs.YtmopepjahjmdeaaGreat
