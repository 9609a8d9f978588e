/- Layer 2: through all parts, by levels. Nothing here is trusted. -/
import Derived.Test.YtochjfimogijjaaWT4
namespace Go.Proofs.Ytochjfimogijjaa
open Go.Ev
set_option linter.unusedVariables false
set_option linter.unusedSimpArgs false

theorem goL_cons (g : D → Int → Bool × Int) (p : D) (l : List D) (n : Int) : goL g (p :: l) n = bif (g p n).1 then goL g l (g p n).2 else (false, (g p n).2) := rfl
theorem mayAll_succ (k : Nat) (e : D) (deep n : Int) : mayAll (k + 1) e deep n = bif seeMay e deep n then goL (fun p m => mayAll k p (deep + 1) m) (kids e) (n + 1) else (false, n + 1) := rfl
theorem colsK_succ (k : Nat) (e : D) : colsK (k + 1) e = (bif opI e == 1 then [litI (colI e)] else []) ++ (kids e).flatMap (colsK k) := rfl
theorem okK_succ (k : Nat) (e : D) : okK (k + 1) e = (fitsB e && (kids e).all (okK k)) := rfl

theorem goL_bound {g : D → Int → Bool × Int} (hg : ∀ p m, 0 ≤ m → m ≤ 30 → (g p m).1 = true → 0 ≤ (g p m).2 ∧ (g p m).2 ≤ 30) : ∀ (l : List D) (m : Int), 0 ≤ m → m ≤ 30 → (goL g l m).1 = true → 0 ≤ (goL g l m).2 ∧ (goL g l m).2 ≤ 30
  | [], m, h0, h1, _ => ⟨h0, h1⟩
  | p :: l, m, h0, h1, h => by
    rw [goL_cons] at h ⊢
    cases hp : (g p m).1 with
    | false => rw [hp] at h; cases h
    | true =>
      rw [hp, cond_true] at h
      rw [cond_true]
      obtain ⟨b0, b1⟩ := hg p m h0 h1 hp
      exact goL_bound hg l _ b0 b1 h

theorem see_true {e : D} {deep n : Int} (h : seeMay e deep n = true) : n + 1 ≤ 30 ∧ deep ≤ 6 ∧ fitsB e = true := by
  unfold seeMay at h
  by_cases h1 : n + 1 ≤ 30
  · have d1 : decide (n + 1 ≤ 30) = true := by simpa using h1
    rw [d1, cond_true] at h
    by_cases h2 : deep ≤ 6
    · have d2 : decide (deep ≤ 6) = true := by simpa using h2
      rw [d2, cond_true] at h
      exact ⟨h1, h2, h⟩
    · have d2 : decide (deep ≤ 6) = false := by simpa using h2
      rw [d2] at h
      cases h
  · have d1 : decide (n + 1 ≤ 30) = false := by simpa using h1
    rw [d1] at h
    cases h

theorem mayAll_bound : ∀ (K : Nat) (e : D) (deep n : Int), 0 ≤ n → n ≤ 30 → (mayAll K e deep n).1 = true → 0 ≤ (mayAll K e deep n).2 ∧ (mayAll K e deep n).2 ≤ 30
  | 0, e, deep, n, h0, h1, h => by cases h
  | K + 1, e, deep, n, h0, h1, h => by
    rw [mayAll_succ] at h ⊢
    cases hs : seeMay e deep n with
    | false => rw [hs] at h; cases h
    | true =>
      rw [hs, cond_true] at h
      rw [cond_true]
      exact goL_bound (fun p m => mayAll_bound K p (deep + 1) m) _ _ (by omega) (see_true hs).1 h

theorem may_loop {K N : Nat} {x0 : D} {x1 q : Int} (hl : (kids x0).length ≤ maxLen) (hx : 1 ≤ x1) (hx6 : x1 ≤ 6) (hK : 7 < x1 + 1 + (K : Int)) : ∀ (n i : Nat) (b : Int), i ≤ (kids x0).length → (kids x0).length - i < n → 0 ≤ b → b ≤ 30 →
    t44_m_lp4 Try.prog Try.f44 K N n x0 x1 q (i : Int) b = some (dat 4 (.lit (.bool (goL (fun p m => mayAll K p (x1 + 1) m) ((kids x0).drop i) b).1)),
      [some ⟨30, .nil, 0, some (clo 30 28 [1000002])⟩, some ⟨30, .nil, 0, some (clo 30 44 [1000000, 1000001])⟩, some ⟨3, .lit (.int .i64 (goL (fun p m => mayAll K p (x1 + 1) m) ((kids x0).drop i) b).2), 0, none⟩])
  | 0, i, b, _, h, _, _ => by omega
  | n + 1, i, b, hi, h, h0, h30 => by
    rw [t44_m_lp4_step, show elemsD (fieldD x0 3) = kids x0 from rfl]
    have hw : IntKind.wrap .i64 (x1 + 1) = x1 + 1 := wrap_in (by rw [inR_iff]; omega)
    have hpre : mayPre K (x1 + 1) b = true := by simp only [mayPre, Bool.and_eq_true, decide_eq_true_eq]; omega
    rw [hw, hpre]
    by_cases hlt : i < (kids x0).length
    · have h1 : decide ((i : Int) < ((kids x0).length : Int)) = true := by simpa using hlt
      rw [idx_ok hlt, h1, cond_true, cond_true, cond_true, Int.toNat_natCast, getD_lt hlt, List.drop_eq_getElem_cons hlt, goL_cons]
      cases hb : (mayAll K (kids x0)[i] (x1 + 1) b).1 with
      | false =>
        rw [Bool.not_false, cond_true, cond_false]
      | true =>
        obtain ⟨b0, b1⟩ := mayAll_bound K _ _ _ h0 h30 hb
        rw [Bool.not_true, cond_false, cond_true, wrap_step hl hlt]
        exact may_loop hl hx hx6 hK n (i + 1) _ (by omega) (by omega) b0 b1
    · have h1 : decide ((i : Int) < ((kids x0).length : Int)) = false := by simpa using hlt
      have h2 : (kids x0).drop i = [] := List.drop_of_length_le (by omega)
      rw [h1, h2, cond_false]
      rfl

theorem cols_loop {K N : Nat} {x0 : D} {x1 : Int} {es : List D} (hl : (kids x0).length ≤ maxLen) (hx : 0 ≤ x1) (hx6 : x1 + 1 + (K : Int) ≤ 1000) (hok : ∀ p ∈ kids x0, okK K p = true) : ∀ (n i : Nat) (l : List D), i ≤ (kids x0).length → (kids x0).length - i < n →
    l.length + (((kids x0).drop i).flatMap (colsK K)).length ≤ 100 →
    t44_c_lp4 Try.prog Try.f44 K N n x0 x1 es (i : Int) l = some (dat 4 (.lit (.bool true)),
      [some ⟨30, .nil, 0, some (clo 30 34 [1000002])⟩, some ⟨30, .nil, 0, some (clo 30 44 [1000000, 1000001])⟩, some ⟨27, .nil, 0, some (bxp 1000003 27)⟩, some ⟨27, .slice (l ++ ((kids x0).drop i).flatMap (colsK K)) [], 1, none⟩])
  | 0, i, l, _, h, _ => by omega
  | n + 1, i, l, hi, h, hlen => by
    rw [t44_c_lp4_step, show elemsD (fieldD x0 3) = kids x0 from rfl]
    have hw : IntKind.wrap .i64 (x1 + 1) = x1 + 1 := wrap_in (by rw [inR_iff]; omega)
    rw [hw]
    by_cases hlt : i < (kids x0).length
    · have h1 : decide ((i : Int) < ((kids x0).length : Int)) = true := by simpa using hlt
      rw [List.drop_eq_getElem_cons hlt, List.flatMap_cons, List.length_append] at hlen
      have hpre : colsPre K (kids x0)[i] (x1 + 1) l = true := by
        simp only [colsPre, Bool.and_eq_true, decide_eq_true_eq]
        exact ⟨⟨⟨hok _ (List.getElem_mem hlt), by omega⟩, by omega⟩, by omega⟩
      rw [idx_ok hlt, h1, cond_true, cond_true, Int.toNat_natCast, getD_lt hlt, hpre, cond_true, wrap_step hl hlt, List.drop_eq_getElem_cons hlt, List.flatMap_cons, ← List.append_assoc]
      exact cols_loop hl hx hx6 hok n (i + 1) _ (by omega) (by omega) (by rw [List.length_append]; omega)
    · have h1 : decide ((i : Int) < ((kids x0).length : Int)) = false := by simpa using hlt
      have h2 : (kids x0).drop i = [] := List.drop_of_length_le (by omega)
      rw [h1, h2, cond_false]
      simp

theorem k44 : FnOK Try.prog 44 Try.f44 := ⟨Try.func44, rfl, by kernel_rfl⟩

theorem c44m (K : Nat) (henv : EnvOK Try.prog (envH U2 (H2 K))) : ∀ args hh r h', preH a44 b44m (q44m (K + 1)) args hh = true → entH a44 b44m (g44m (K + 1)) args hh = some (r, h') → HCallOK Try.prog 44 args hh r h' :=
  entH_ok rfl rfl fun ds es r h' hq hg => by
    match ds, es, hq, hg with
    | [e, dp, y1, y2], [u1, u2, n], hq, hg =>
      cases hg
      refine HCallOK.typed k44.ex fun ht he => ?_
      obtain ⟨_, t0⟩ := ht (dat 26 e) (by simp [fillA, a44, dat, bxp]) rfl
      obtain ⟨_, t1⟩ := ht (dat 3 dp) (by simp [fillA, a44, dat, bxp]) rfl
      obtain ⟨_, t2⟩ := he ⟨3, n, 0, none⟩ (by simp [fillE, b44m]) rfl rfl
      obtain ⟨z, rfl, hz⟩ := ty3' t1
      obtain ⟨q, rfl, hq2⟩ := ty3' t2
      have hpre : mayPre (K + 1) z q = true := hq
      simp only [mayPre, Bool.and_eq_true, decide_eq_true_eq] at hpre
      obtain ⟨⟨⟨⟨⟨p1, p2⟩, p3⟩, p4⟩, p5⟩, p6⟩ := hpre
      have t0 : Ty Try.prog _ 26 e := t0
      obtain ⟨hl, _⟩ := ty_kids t0
      refine fnH_ok hm henv k44 ((t44_m K ((kids e).length + 1) e z q).trans ?_)
      have hd : (decide (0 ≤ q) && decide (q ≤ 1000)) = true := by simp only [Bool.and_eq_true, decide_eq_true_eq]; omega
      rw [hd, cond_true]
      show _ = some (dat 4 (.lit (.bool (mayAll (K + 1) e z q).1)), [some (⟨30, .nil, 0, some (clo 30 28 [1000002])⟩ : Ent), some ⟨30, .nil, 0, some (clo 30 44 [1000000, 1000001])⟩, some ⟨3, .lit (.int .i64 (mayAll (K + 1) e z q).2), 0, none⟩])
      rw [mayAll_succ]
      cases hs : seeMay e z q with
      | false => rfl
      | true =>
        obtain ⟨s1, s2, _⟩ := see_true hs
        rw [Bool.not_true, cond_false, cond_true]
        have := may_loop (K := K) (N := (kids e).length + 1) (q := q) hl p3 s2 (by omega) ((kids e).length + 1) 0 (q + 1) (Nat.zero_le _) (by omega) (by omega) s1
        simpa using this
    | [], _, _, hg => cases hg
    | [_], _, _, hg => cases hg
    | [_, _], _, _, hg => cases hg
    | [_, _, _], _, _, hg => cases hg
    | _ :: _ :: _ :: _ :: _ :: _, _, _, hg => cases hg
    | [_, _, _, _], [], _, hg => cases hg
    | [_, _, _, _], [_], _, hg => cases hg
    | [_, _, _, _], [_, _], _, hg => cases hg
    | [_, _, _, _], _ :: _ :: _ :: _ :: _, _, hg => cases hg

theorem g44c_inv {K : Nat} {ds es : List D} {r : AV} {h' : List (Option Ent)} (hg : g44c K ds es = some (r, h')) : ∃ e dp y1 y2 u1 u2 u3 l, ds = [e, dp, y1, y2] ∧ es = [u1, u2, u3, l] ∧ r = dat 4 (.lit (.bool true)) ∧
    h' = [some ⟨30, .nil, 0, some (clo 30 34 [OID + 2])⟩, some ⟨30, .nil, 0, some (clo 30 44 [OID, OID + 1])⟩, some ⟨27, .nil, 0, some (bxp (OID + 3) 27)⟩, some ⟨27, .slice (elemsD l ++ colsK K e) [], 1, none⟩] := by
  unfold g44c at hg
  split at hg
  · injection hg with hg
    injection hg with h1 h2
    exact ⟨_, _, _, _, _, _, _, _, rfl, rfl, h1.symm, h2.symm⟩
  · cases hg

theorem c44c (K : Nat) (henv : EnvOK Try.prog (envH U2 (H2 K))) : ∀ args hh r h', preH a44 b44c (q44c (K + 1)) args hh = true → entH a44 b44c (g44c (K + 1)) args hh = some (r, h') → HCallOK Try.prog 44 args hh r h' :=
  entH_ok rfl rfl fun ds es r h' hq hg => by
    obtain ⟨e, dp, y1, y2, u1, u2, u3, l, rfl, rfl, rfl, rfl⟩ := g44c_inv hg
    refine HCallOK.typed k44.ex fun ht he => ?_
    refine row_slice k44.ex (e := ⟨27, l, 4, none⟩) (by simp [fillE, b44c]) (by simp) ?_
    rintro ⟨es, hes⟩
    have hes : l = .slice es [] := hes
    subst hes
    obtain ⟨_, t0⟩ := ht (dat 26 e) (by simp [fillA, a44, dat, bxp]) rfl
    obtain ⟨_, t1⟩ := ht (dat 3 dp) (by simp [fillA, a44, dat, bxp]) rfl
    obtain ⟨z, rfl, hz⟩ := ty3' t1
    have hpre : colsPre (K + 1) e z es = true := hq
    simp only [colsPre, Bool.and_eq_true, decide_eq_true_eq, okK_succ, List.all_eq_true] at hpre
    obtain ⟨⟨⟨⟨p0, p1⟩, p2⟩, p3⟩, p4⟩ := hpre
    have t0 : Ty Try.prog _ 26 e := t0
    obtain ⟨hl, _⟩ := ty_kids t0
    refine fnH_ok hm henv k44 ((t44_c K ((kids e).length + 1) e z es).trans ?_)
    rw [colsK_succ] at p4
    simp only [List.length_append] at p4
    have hd : decide (es.length ≤ 1000) = true := by simp only [decide_eq_true_eq]; omega
    rw [hd, cond_true]
    show _ = some (dat 4 (.lit (.bool true)), [some (⟨30, .nil, 0, some (clo 30 34 [1000002])⟩ : Ent), some ⟨30, .nil, 0, some (clo 30 44 [1000000, 1000001])⟩, some ⟨27, .nil, 0, some (bxp 1000003 27)⟩, some ⟨27, .slice (es ++ colsK (K + 1) e) [], 1, none⟩])
    rw [colsK_succ, ← List.append_assoc]
    have := cols_loop (K := K) (N := (kids e).length + 1) (es := es) hl p2 (by omega) p1 ((kids e).length + 1) 0 (es ++ (bif opI e == 1 then [litI (colI e)] else [])) (Nat.zero_le _) (by omega) (by simp only [List.length_append, List.drop_zero]; omega)
    simpa using this

theorem envH2 : ∀ K : Nat, EnvOK Try.prog (envH U2 (H2 K))
  | 0 => envOK_consH envH1 (fun args hh r h' hp _ => by
      exfalso
      revert hp
      cases (hh.length == 3) with
      | true =>
        intro hp
        have hp : preH a44 b44m (q44m 0) args hh = true := hp
        unfold preH at hp
        rw [Bool.and_eq_true] at hp
        have := hp.2
        simp [q44m, mayPre] at this
      | false =>
        intro hp
        have hp : preH a44 b44c (q44c 0) args hh = true := hp
        unfold preH at hp
        rw [Bool.and_eq_true] at hp
        have := hp.2
        simp [q44c, colsPre, okK] at this)
  | K + 1 => envOK_consH envH1 (fun args hh r h' hp hd => by
      have hp : (bif hh.length == 3 then preH a44 b44m (q44m (K + 1)) args hh else preH a44 b44c (q44c (K + 1)) args hh) = true := hp
      have hd : (bif hh.length == 3 then entH a44 b44m (g44m (K + 1)) args hh else entH a44 b44c (g44c (K + 1)) args hh) = some (r, h') := hd
      cases hlen : (hh.length == 3) with
      | true =>
        rw [hlen, cond_true] at hp hd
        exact c44m K (envH2 K) args hh r h' hp hd
      | false =>
        rw [hlen, cond_false] at hp hd
        exact c44c K (envH2 K) args hh r h' hp hd)

end Go.Proofs.Ytochjfimogijjaa
