/- Layer 2: Eval, by levels. Nothing here is trusted. -/
import Derived.Test.YtochjfimogijjaaWT7
namespace Go.Proofs.Ytochjfimogijjaa
open Go.Ev
set_option linter.unusedVariables false
set_option linter.unusedSimpArgs false

theorem set_map_step {α β : Type} (F : α → β) {ks : List α} {tl : List β} {i : Nat} (h : i < ks.length) (ht : tl.length = ks.length - i) :
    ((ks.take i).map F ++ tl).set i (F ks[i]) = (ks.take (i + 1)).map F ++ tl.drop 1 := by
  cases tl with
  | nil => simp at ht; omega
  | cons b tl =>
    rw [List.set_append_right _ _ (by simp; omega)]
    have : i - ((ks.take i).map F).length = 0 := by simp; omega
    rw [this, List.take_succ_eq_append_getElem h, List.map_append]
    simp

theorem eval_loop {K N : Nat} {x0 cols row : D} (hl : (kids x0).length ≤ maxLen) (h2 : 2 ≤ opI x0) (h11 : opI x0 < 11) (htk : takesN (opI x0) ((kids x0).length : Int) = true) (hok : ∀ p ∈ kids x0, okK K p = true) : ∀ (n i : Nat) (tl : List D), i ≤ (kids x0).length → (kids x0).length - i < n → tl.length = (kids x0).length - i →
    t37_lp8 Try.prog Try.f37 K N n x0 cols row (i : Int) (((kids x0).take i).map (evalK (elemsD cols) (elemsD row) K) ++ tl) = some (dat 23 (opV (opI x0) ((kids x0).map (evalK (elemsD cols) (elemsD row) K))),
      [some ⟨27, cols, 0, none⟩, some ⟨28, row, 0, none⟩, some ⟨50, .nil, 0, some (clo 50 37 [1000000, 1000001, 1000002])⟩])
  | 0, i, tl, _, h, _ => by omega
  | n + 1, i, tl, hi, h, htl => by
    rw [t37_lp8_step, show elemsD (fieldD x0 3) = kids x0 from rfl, show intD (fieldD x0 0) = opI x0 from rfl]
    by_cases hlt : i < (kids x0).length
    · have h1 : decide ((i : Int) < ((kids x0).length : Int)) = true := by simpa using hlt
      have hlen : (((kids x0).take i).map (evalK (elemsD cols) (elemsD row) K) ++ tl).length = (kids x0).length := by simp; omega
      rw [hlen, idx_ok hlt, h1, cond_true, cond_true, Int.toNat_natCast, getD_lt hlt, hok _ (List.getElem_mem hlt), cond_true, cond_true, wrap_step hl hlt, set_map_step _ hlt htl]
      exact eval_loop hl h2 h11 htk hok n (i + 1) (tl.drop 1) (by omega) (by omega) (by simp; omega)
    · have h1 : decide ((i : Int) < ((kids x0).length : Int)) = false := by simpa using hlt
      have hi2 : i = (kids x0).length := by omega
      have htl0 : tl = [] := List.length_eq_zero_iff.1 (by omega)
      have d1 : (decide (0 ≤ opI x0) && decide (opI x0 < 11)) = true := by simp only [Bool.and_eq_true, decide_eq_true_eq]; omega
      subst htl0
      rw [h1, cond_false, hi2, List.take_length, List.append_nil, d1, cond_true]
      obtain ⟨o1, o2⟩ := op_form h2 h11
      have hcome : comeOK (formT (opI x0)) (.slice ((kids x0).map (evalK (elemsD cols) (elemsD row) K)) []) = true := by
        unfold comeOK
        rw [o2, takes_form (by omega) h11]
        show (true && takesN (opI x0) (((kids x0).map (evalK (elemsD cols) (elemsD row) K)).length : Int)) = true
        rw [List.length_map, htk]
        rfl
      have hcd : comeD (formT (opI x0)) (.slice ((kids x0).map (evalK (elemsD cols) (elemsD row) K)) []) = opV (opI x0) ((kids x0).map (evalK (elemsD cols) (elemsD row) K)) := by
        unfold comeD
        rw [o1]
        rfl
      rw [hcome, cond_true, hcd]

theorem fits_op {e : D} (h : fitsB e = true) : 0 ≤ opI e ∧ opI e < 11 ∧ 0 ≤ colI e ∧ colI e ≤ 15 ∧ mayB (fieldD e 2) = true ∧ takesN (opI e) ((kids e).length : Int) = true := by
  simp only [fitsB, Bool.and_eq_true, decide_eq_true_eq] at h
  obtain ⟨⟨⟨⟨⟨⟨⟨a, b⟩, c⟩, d⟩, e1⟩, _⟩, _⟩, f⟩ := h
  exact ⟨a, b, c, d, e1, f⟩
theorem takes_few {op n : Int} (h : takesN op n = true) : n ≤ 4 := by
  unfold takesN at h
  cases h1 : (op == 10) with
  | true => rw [h1, cond_true, beq_iff_eq] at h; omega
  | false =>
    cases h2 : (op == 0 || op == 1) with
    | true => rw [h1, h2, cond_false, cond_true, beq_iff_eq] at h; omega
    | false =>
      cases h3 : (op == 8 || op == 9) with
      | true => rw [h1, h2, h3, cond_false, cond_false, cond_true, decide_eq_true_eq] at h; omega
      | false => rw [h1, h2, h3, cond_false, cond_false, cond_false, beq_iff_eq] at h; omega
theorem evalK_succ (cols row : List D) (k : Nat) (e : D) : evalK cols row (k + 1) e = bif opI e == 0 then fieldD e 2 else bif opI e == 1 then atD (colI e) cols row else opV (opI e) ((kids e).map (evalK cols row k)) := rfl

theorem k37 : FnOK Try.prog 37 Try.f37 := ⟨Try.func37, rfl, by kernel_rfl⟩
theorem c37 (K : Nat) (henv : EnvOK Try.prog (envH U4 (H5 K))) : ∀ args hh r h', preH a37 b37 (q37 (K + 1)) args hh = true → entH a37 b37 (g37 (K + 1)) args hh = some (r, h') → HCallOK Try.prog 37 args hh r h' :=
  entH_ok rfl rfl fun ds es r h' hq hg => by
    obtain ⟨e, y1, y2, y3, c, v, u, rfl, rfl, rfl, rfl⟩ := g37_inv hg
    refine HCallOK.typed k37.ex fun ht he => ?_
    obtain ⟨_, t0⟩ := ht (dat 26 e) (by simp [fillA, a37, dat, bxp]) rfl
    have t0 : Ty Try.prog _ 26 e := t0
    obtain ⟨hl, _⟩ := ty_kids t0
    have hpre : okK (K + 1) e = true := hq
    simp only [okK_succ, Bool.and_eq_true, List.all_eq_true] at hpre
    obtain ⟨hfit, hall⟩ := hpre
    obtain ⟨f0, f1, _, _, _, f2⟩ := fits_op hfit
    refine fnH_ok hm henv k37 ((t37 K ((kids e).length + 1) e c v).trans ?_)
    show _ = some (dat 23 (evalK (elemsD c) (elemsD v) (K + 1) e), [some (⟨27, c, 0, none⟩ : Ent), some ⟨28, v, 0, none⟩, some ⟨50, .nil, 0, some (clo 50 37 [1000000, 1000001, 1000002])⟩])
    rw [evalK_succ, show elemsD (fieldD e 3) = kids e from rfl, show intD (fieldD e 0) = opI e from rfl, show intD (fieldD e 1) = colI e from rfl]
    cases h0 : (opI e == 0) with
    | true => rfl
    | false =>
      rw [cond_false, cond_false]
      cases h1 : (opI e == 1) with
      | true => rfl
      | false =>
        rw [cond_false, cond_false]
        have h0' : opI e ≠ 0 := by simpa using h0
        have h1' : opI e ≠ 1 := by simpa using h1
        have hd : (decide (0 ≤ ((kids e).length : Int)) && decide (((kids e).length : Int) ≤ 2147483648)) = true := by
          simp only [Bool.and_eq_true, decide_eq_true_eq]
          have := takes_few f2
          omega
        rw [hd, cond_true, Int.toNat_natCast]
        have := eval_loop (K := K) (N := (kids e).length + 1) (cols := c) (row := v) hl (by omega) f1 f2 hall ((kids e).length + 1) 0 (List.replicate (kids e).length (.agg [.lit (.int .i64 0), .lit (.int .i64 0)])) (Nat.zero_le _) (by omega) (by simp)
        simpa using this

theorem envH5 : ∀ K : Nat, EnvOK Try.prog (envH U4 (H5 K))
  | 0 => envOK_consH envU4 (fun args hh r h' hp _ => by
      exfalso
      have hp : preH a37 b37 (q37 0) args hh = true := hp
      unfold preH at hp
      rw [Bool.and_eq_true] at hp
      have := hp.2
      simp [q37, okK] at this)
  | K + 1 => envOK_consH envU4 (fun args hh r h' hp hd => c37 K (envH5 K) args hh r h' hp hd)

def e19 : FuncId × TypeId × (List AV → Bool) × (List AV → Option D) := (19, 23, yes, ent [26, 27, 28] (f3 fun x y z => some (evalE x (elemsD y) (elemsD z))))
def U5 : Tab := e19 :: U4
/-! ### Pair -/
def pairE (e : D) : Bool := mayE e && (opI e == 6 && (opI ((kids e).getD 0 .nil) == 1 && (opI ((kids e).getD 1 .nil) == 1 && !(colI ((kids e).getD 0 .nil) == colI ((kids e).getD 1 .nil)))))
def pairA (e : D) : Int := bif pairE e then colI ((kids e).getD 0 .nil) else 0
def pairB (e : D) : Int := bif pairE e then colI ((kids e).getD 1 .nil) else 0

end Go.Proofs.Ytochjfimogijjaa
