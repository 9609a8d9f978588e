/- What the evaluator comes to, function by function: by the kernel. Nothing here is trusted. -/
import Derived.Test.YtjgnknkbohlopaaGreatRC
namespace Go.Proofs.YtjgnknkbohlopaaGreat
namespace X
open Go.Ev
set_option linter.unusedVariables false
/- roadbook/roadbookref05.Cols -/
def t12_h : Hints := fun i => if i = 4 then some ([0, 1, 5, 6, 10, 11, 12, 13, 14, 15, 16, 17, 18, 19, 20, 21, 22, 23, 24, 25, 26, 27, 28, 29, 30, 31, 32, 33, 34, 35, 36, 37, 38], [3, 4, 7], []) else none
def t12_lp4 (P : Program) (fn : Func) (N n : Nat) (x0 : D) (x1 : D) (x2 : Int) (v9 : Int) (b7 : List D) : Option AV := evLoop (preL t12_h (sub [1, 1, 1, 0, 1, 0, 0] (bodyOf fn))) (evCode P (envR R5 [] [] []) t12_h N (sub [1, 1, 1, 0, 1, 0, 0] (bodyOf fn))) n ⟨[dead, dead, dat 3 (.lit (.int .i64 x2)), bxp 3 24, bxp 4 28, dead, dead, bxp 7 25, dat 4 (.lit (.bool (mayQ x0 x1))), dat 3 (.lit (.int .i64 v9)), dead, dead, dead, dead, dead, dead, dead, dead, dead, dead, dead, dead, dead, dead, dead, dead, dead, dead, dead, dead, dead, dead, dead, dead, dead, dead, dead, dead, dead], lookB [(3, some ⟨24, x0, 0, none⟩), (4, some ⟨28, x1, 0, none⟩), (7, some ⟨25, .slice b7 [], 1, none⟩)]⟩ (blockK 0 (seqC P (envR R5 [] [] []) t12_h N (sub [1, 1, 1, 1] (bodyOf fn)) (finK P fn) ))
theorem t12_lp4_step (N n : Nat) (x0 : D) (x1 : D) (x2 : Int) (v9 : Int) (b7 : List D) : t12_lp4 Tryz.prog Tryz.f12 N (n + 1) x0 x1 x2 v9 b7 =
  bif ((decide (v9 < 16)) == true) then
    bif mayQ x0 x1 then
      bif ((colRB x0 x1 v9) == true) then
        bif bitB x2 (IntKind.wrap .i64 (Int.tdiv v9 4)) then
          bif decide ((b7).length + 1 ≤ 2147483648) then
            t12_lp4 Tryz.prog Tryz.f12 N n x0 x1 x2 (IntKind.wrap .i64 (v9 + 1)) (b7 ++ [.lit (.int .i64 v9)])
          else none
        else t12_lp4 Tryz.prog Tryz.f12 N n x0 x1 x2 (IntKind.wrap .i64 (v9 + 1)) b7
      else t12_lp4 Tryz.prog Tryz.f12 N n x0 x1 x2 (IntKind.wrap .i64 (v9 + 1)) b7
    else some (dat 25 (.slice b7 []))
  else some (dat 25 (.slice b7 [])) := by kernel_rfl
theorem t12 (N : Nat) (x0 : D) (x1 : D) (x2 : Int) : evFn Tryz.prog (envR R5 [] [] []) t12_h N Tryz.f12 [dat 24 x0, dat 28 x1, dat 3 (.lit (.int .i64 x2))] =
  t12_lp4 Tryz.prog Tryz.f12 N N x0 x1 x2 0 [] := by kernel_rfl

/- roadbook/roadbookref05.Own -/
def t14_h : Hints := fun i => if i = 3 then some ([0, 3, 4, 7, 8, 9, 10, 11, 12, 13, 14, 15, 16, 17, 18, 19, 20, 21, 22, 23, 24, 25, 26, 27, 28], [2, 5], []) else none
def t14_lp3 (P : Program) (fn : Func) (N n : Nat) (x0 : D) (x1 : Int) (v6 : Int) (b5 : List D) : Option AV := evLoop (preL t14_h (sub [1, 1, 0, 1, 0, 0] (bodyOf fn))) (evCode P (envR R5 [] [] []) t14_h N (sub [1, 1, 0, 1, 0, 0] (bodyOf fn))) n ⟨[dead, dat 3 (.lit (.int .i64 x1)), bxp 2 28, dead, dead, bxp 5 25, dat 3 (.lit (.int .i64 v6)), dead, dead, dead, dead, dead, dead, dead, dead, dead, dead, dead, dead, dead, dead, dead, dead, dead, dead, dead, dead, dead, dead], lookB [(2, some ⟨28, x0, 0, none⟩), (5, some ⟨25, .slice b5 [], 1, none⟩)]⟩ (blockK 0 (seqC P (envR R5 [] [] []) t14_h N (sub [1, 1, 1] (bodyOf fn)) (finK P fn) ))
theorem t14_lp3_step (N n : Nat) (x0 : D) (x1 : Int) (v6 : Int) (b5 : List D) : t14_lp3 Tryz.prog Tryz.f14 N (n + 1) x0 x1 v6 b5 =
  bif decide (v6 < ((elemsD (fieldD x0 1)).length : Int)) then
    bif (decide (0 ≤ v6) && decide (v6 < ((elemsD (fieldD x0 1)).length : Int))) then
      bif (decide (0 ≤ (ofE ((elemsD (fieldD x0 1)).getD (v6).toNat .nil))) && decide ((ofE ((elemsD (fieldD x0 1)).getD (v6).toNat .nil)) ≤ 15)) then
        bif hasS x1 (ofE ((elemsD (fieldD x0 1)).getD (v6).toNat .nil)) then
          bif decide ((b5).length + 1 ≤ 2147483648) then
            t14_lp3 Tryz.prog Tryz.f14 N n x0 x1 (IntKind.wrap .i64 (v6 + 1)) (b5 ++ [.lit (.int .i64 v6)])
          else none
        else t14_lp3 Tryz.prog Tryz.f14 N n x0 x1 (IntKind.wrap .i64 (v6 + 1)) b5
      else none
    else none
  else some (dat 25 (.slice b5 [])) := by kernel_rfl
theorem t14 (N : Nat) (x0 : D) (x1 : Int) : evFn Tryz.prog (envR R5 [] [] []) t14_h N Tryz.f14 [dat 28 x0, dat 3 (.lit (.int .i64 x1))] =
  t14_lp3 Tryz.prog Tryz.f14 N N x0 x1 0 [] := by kernel_rfl

end X
end Go.Proofs.YtjgnknkbohlopaaGreat

namespace Go.Proofs.YtjgnknkbohlopaaGreat
namespace X
open Go.Ev
set_option linter.unusedVariables false
set_option maxRecDepth 10000
set_option linter.unusedSimpArgs false

def occZ (c q : D) (set : Int) (o : Nat) : List Int := bif inS set o then (List.range (tabC c q (o : Int)).toNat).map (fun i => ((4 * o + i : Nat) : Int)) else []
theorem occ_lit {c q : D} {set : Int} (h1 : mayCat c = true) (h2 : occMayB c q = true) {o : Nat} (ho : o < (qOcc q).length) : occColsL c q set o = (occZ c q set o).map litI := by
  have h4 := occ_len h2
  have ht := tab_in h1 h2 ho
  unfold occColsL occZ
  rw [has_alone (show 0 ≤ (o : Int) ∧ (o : Int) < 4 by omega), Int.toNat_natCast]
  cases inS set o
  · rfl
  · rw [cond_true, cond_true, List.map_map]
    unfold seenCols
    refine List.map_congr_left fun i hi => ?_
    have hi : i < (tabC c q (o : Int)).toNat := by simpa using hi
    show litI (colN (o : Int) (i : Int)) = litI (((4 * o + i : Nat) : Int))
    rw [colN_in (by omega) (by omega)]
    congr 1
    omega
theorem occZ_mem {c q : D} {set : Int} {o : Nat} {z : Int} : z ∈ occZ c q set o ↔ (inS set o = true ∧ ∃ i : Nat, (i : Int) < tabC c q (o : Int) ∧ z = ((4 * o + i : Nat) : Int)) := by
  unfold occZ
  cases inS set o
  · simp
  · rw [cond_true, List.mem_map]
    constructor
    · rintro ⟨i, hi, rfl⟩
      rw [List.mem_range] at hi
      exact ⟨rfl, i, by omega, rfl⟩
    · rintro ⟨_, i, hi, rfl⟩
      exact ⟨i, by rw [List.mem_range]; omega, rfl⟩
theorem occZ_lt {c q : D} {set : Int} {o : Nat} : (occZ c q set o).Pairwise (· < ·) := by
  unfold occZ
  cases inS set o
  · exact List.Pairwise.nil
  · rw [cond_true, List.pairwise_map]
    exact List.pairwise_lt_range.imp (fun h => by omega)
def colF (c q : D) (set : Int) (z : Int) : Bool := colRB c q z && inS set (splitA z).toNat
theorem flat_lit {f : Nat → List D} {g : Nat → List Int} : ∀ (l : List Nat), (∀ x ∈ l, f x = (g x).map litI) → l.flatMap f = (l.flatMap g).map litI
  | [], _ => rfl
  | x :: l, h => by
    rw [List.flatMap_cons, List.flatMap_cons, List.map_append, h x (List.mem_cons_self ..), flat_lit l fun y hy => h y (List.mem_cons_of_mem _ hy)]
theorem cols_pickQ {c q : D} {set : Int} (hm : mayQ c q = true) : colsQ c q set = (pickN (colF c q set) 16 0).map litI := by
  obtain ⟨h1, h2, _, _⟩ := may_cat hm
  have h4 := occ_len h2
  unfold colsQ
  rw [hm, cond_true, flat_lit (g := occZ c q set) (List.range (qOcc q).length) fun o ho => occ_lit h1 h2 (by simpa using ho)]
  congr 1
  refine lt_uniq ?_ (pickN_lt _ _) fun z => ?_
  · rw [List.pairwise_flatMap]
    refine ⟨fun o _ => occZ_lt, List.pairwise_lt_range.imp_of_mem fun ha hb hab x hx y hy => ?_⟩
    rename_i a b
    obtain ⟨_, i, hi, rfl⟩ := occZ_mem.1 hx
    obtain ⟨_, j, hj, rfl⟩ := occZ_mem.1 hy
    have := tab_in h1 h2 (i := a) (by simpa using ha)
    omega
  · rw [pickN_mem, List.mem_flatMap]
    unfold colF
    rw [colR_eq h2, Bool.and_eq_true]
    constructor
    · rintro ⟨o, ho, hz⟩
      have ho : o < (qOcc q).length := by simpa using ho
      obtain ⟨hs, i, hi, rfl⟩ := occZ_mem.1 hz
      have ht := tab_in h1 h2 ho
      have h16 : 0 ≤ ((4 * o + i : Nat) : Int) ∧ ((4 * o + i : Nat) : Int) < 16 := by omega
      obtain ⟨s1, s2⟩ := split_in h16
      have d1 : ((4 * o + i : Nat) : Int) / 4 = (o : Int) := by omega
      have d2 : ((4 * o + i : Nat) : Int) % 4 = (i : Int) := by omega
      refine ⟨by omega, by omega, ?_, ?_⟩
      · unfold isColB
        rw [s1, s2, d1, d2, below_iff.2 h16, dT (show (o : Int) < ((qOcc q).length : Int) by omega), dT hi]
        rfl
      · rw [s1, d1, Int.toNat_natCast]
        exact hs
    · rintro ⟨z0, z16, hc, hs⟩
      unfold isColB at hc
      simp only [Bool.and_eq_true, decide_eq_true_eq] at hc
      obtain ⟨hb, hl, ht⟩ := hc
      obtain ⟨s1, s2⟩ := split_in (z := z) (by omega)
      rw [s1] at hl ht hs
      rw [s2] at ht
      refine ⟨(z / 4).toNat, by rw [List.mem_range]; omega, occZ_mem.2 ⟨hs, (z % 4).toNat, ?_, by omega⟩⟩
      have e1 : (((z / 4).toNat : Nat) : Int) = z / 4 := by omega
      rw [e1]
      omega
theorem rcolsQ_loop {N : Nat} {c q : D} {set : Int} (h : mayQ c q = true) : ∀ (m n : Nat) (k : Int) (l : List D), k + m = 16 → 0 ≤ k → m < n → l.length ≤ 100 - m →
    t12_lp4 Tryz.prog Tryz.f12 N n c q set k l = some (dat 25 (.slice (l ++ (pickN (colF c q set) m k).map litI) []))
  | m, 0, k, l, _, _, hn, _ => by omega
  | 0, n + 1, k, l, hk, h0, _, _ => by
    rw [t12_lp4_step, dF (show ¬ k < 16 by omega), show (false == true) = false from rfl, cond_false]
    simp [pickN]
  | m + 1, n + 1, k, l, hk, h0, hn, hl => by
    have hs := split_lt k
    rw [t12_lp4_step, dT (show k < 16 by omega), beq_self_eq_true, cond_true, h, cond_true, rdiv4 (show 0 ≤ k ∧ k < 16 by omega), bit_any (show 0 ≤ splitA k ∧ splitA k < 64 by omega), l_wrapI (l_in (by omega) (by omega)), dT (show l.length + 1 ≤ 2147483648 by omega), pickN_succ]
    have ih1 := rcolsQ_loop (N := N) (set := set) h m n (k + 1) (l ++ [.lit (.int .i64 k)]) (by omega) (by omega) (by omega) (by simp; omega)
    have ih2 := rcolsQ_loop (N := N) (set := set) h m n (k + 1) l (by omega) (by omega) (by omega) (by omega)
    rw [ih1, ih2, List.map_append]
    unfold colF
    cases colRB c q k <;> cases inS set (splitA k).toNat <;> simp [litI]
def e12 : FuncId × TypeId × (List AV → Bool) × (List AV → Option D) := (12, 25, yes, ent [24, 28, 3] (f3 fun x y z => some (.slice (colsQ x y (intD z)) [])))
theorem k12 : FnOK Tryz.prog 12 Tryz.f12 := ⟨Tryz.func12, rfl, by kernel_rfl⟩
theorem c12 : ∀ args d, e12.2.2.2 args = some d → CallOK Tryz.prog 12 args (mkRes Tryz.prog 25 d) :=
  ent3 k12 fun x y z d h _ _ _ => by
    cases h
    rw [nCat, nQry, n3]
    refine fn_ok hm envR5 k12 ((t12 20 x y (intD z)).trans ?_)
    rw [m27]
    cases hq : mayQ x y with
    | false =>
      rw [t12_lp4_step, hq, show colsQ x y (intD z) = [] by unfold colsQ; rw [hq]; rfl]
      rfl
    | true =>
      rw [cols_pickQ hq]
      exact rcolsQ_loop hq 16 20 0 [] (by omega) (by omega) (by omega) (by simp)
theorem rown_loop {N : Nat} {q : D} {s : Int} (hl : (elemsD (fieldD q 1)).length ≤ 2147483647) : ∀ (n i : Nat) (l : List D), i ≤ (elemsD (fieldD q 1)).length → (elemsD (fieldD q 1)).length - i < n → l.length ≤ i →
    t14_lp3 Tryz.prog Tryz.f14 N n q s (i : Int) l = some (dat 25 (.slice (l ++ plc (fun e => hasS s (ofE e)) ((elemsD (fieldD q 1)).drop i) i) []))
  | 0, i, l, _, h, _ => by omega
  | n + 1, i, l, hi, h, hle => by
    rw [t14_lp3_step]
    by_cases hlt : i < (elemsD (fieldD q 1)).length
    · have ho := of_in ((elemsD (fieldD q 1))[i])
      rw [l_idx hlt, l_lt hlt, cond_true, cond_true, Int.toNat_natCast, l_get hlt, dT ho.1, dT ho.2, Bool.and_self, cond_true, l_wrap (Nat.le_trans hl (by unfold maxLen; omega)) hlt, List.drop_eq_getElem_cons hlt, plc_cons]
      cases hf : hasS s (ofE (elemsD (fieldD q 1))[i]) with
      | true =>
        rw [cond_true, dT (show l.length + 1 ≤ 2147483648 by omega), cond_true, rown_loop hl n (i + 1) _ (by omega) (by omega) (by simp; omega), List.append_assoc]
        rfl
      | false =>
        rw [cond_false, rown_loop hl n (i + 1) _ (by omega) (by omega) (by omega)]
        rfl
    · rw [l_ge hlt, cond_false, List.drop_of_length_le (by omega)]
      simp [plc]
def e14 : FuncId × TypeId × (List AV → Bool) × (List AV → Option D) := (14, 25, preD (q2 fun x _ => decide ((qP x).length ≤ 2147483647)), ent [28, 3] (f2 fun x y => some (.slice (ownL x (intD y)) [])))
theorem k14 : FnOK Tryz.prog 14 Tryz.f14 := ⟨Tryz.func14, rfl, by kernel_rfl⟩
theorem c14 : ∀ args d, e14.2.2.1 args = true → e14.2.2.2 args = some d → CallOK Tryz.prog 14 args (mkRes Tryz.prog 25 d) :=
  ent2p k14 fun x y d hq h _ _ => by
    cases h
    rw [nQry, n3]
    have hl : (elemsD (fieldD x 1)).length ≤ 2147483647 := of_decide_eq_true hq
    refine fn_ok hm envR5 k14 ((t14 ((elemsD (fieldD x 1)).length + 1) x (intD y)).trans ?_)
    rw [m27]
    exact rown_loop hl _ 0 [] (Nat.zero_le _) (by omega) (by simp)
def R6 : Tab := e14 :: e12 :: R5
theorem envR6 : EnvOK Tryz.prog (envH R6 []) := envOK_cons' (envOK_cons envR5 c12) c14

end X
end Go.Proofs.YtjgnknkbohlopaaGreat

namespace Go.Proofs.YtjgnknkbohlopaaGreat
namespace X
open Go.Ev
set_option linter.unusedVariables false
/- roadbook/roadbookref05.New -/
def t16_h : Hints := fun i => if i = 6 then some ([0, 1, 2, 3, 4, 5, 6, 12, 13, 14, 15, 16, 17, 18, 19, 20, 21, 22, 23, 24, 25, 26, 27, 28, 29, 30, 31, 32, 33, 34, 35, 36, 37, 38, 39, 40, 41, 42, 43, 44, 45, 46, 47, 48, 49, 50, 51, 52], [7], []) else none
def t16_lp6 (P : Program) (fn : Func) (N n : Nat) (x0 : D) (x1 : Int) (x2 : Int) (v11 : Int) (b7 : List D) : Option AV := evLoop (preL t16_h (sub [1, 1, 1, 1, 1, 0, 1, 0, 0] (bodyOf fn))) (evCode P (envR R6 [] [] []) t16_h N (sub [1, 1, 1, 1, 1, 0, 1, 0, 0] (bodyOf fn))) n ⟨[dead, dead, dead, dead, dead, dead, dead, bxp 7 25, dat 25 (.slice (ownL x0 (orI .i64 x1 x2)) []), dat 25 (.slice (ownL x0 x1) []), dat 25 (.slice (ownL x0 x2) []), dat 3 (.lit (.int .i64 v11)), dead, dead, dead, dead, dead, dead, dead, dead, dead, dead, dead, dead, dead, dead, dead, dead, dead, dead, dead, dead, dead, dead, dead, dead, dead, dead, dead, dead, dead, dead, dead, dead, dead, dead, dead, dead, dead, dead, dead, dead, dead], lookB [(7, some ⟨25, .slice b7 [], 1, none⟩)]⟩ (blockK 0 (seqC P (envR R6 [] [] []) t16_h N (sub [1, 1, 1, 1, 1, 1] (bodyOf fn)) (finK P fn) ))
theorem t16_lp6_step (N n : Nat) (x0 : D) (x1 : Int) (x2 : Int) (v11 : Int) (b7 : List D) : t16_lp6 Tryz.prog Tryz.f16 N (n + 1) x0 x1 x2 v11 b7 =
  bif decide (v11 < ((ownL x0 (orI .i64 x1 x2)).length : Int)) then
    bif (decide (0 ≤ v11) && decide (v11 < ((ownL x0 (orI .i64 x1 x2)).length : Int))) then
      bif ((decide ((Lib.idxOf ((ownL x0 x1).map intD) (intD ((ownL x0 (orI .i64 x1 x2)).getD (v11).toNat .nil))) < 0)) == true) then
        bif (decide (0 ≤ v11) && decide (v11 < ((ownL x0 (orI .i64 x1 x2)).length : Int))) then
          bif decide ((Lib.idxOf ((ownL x0 x2).map intD) (intD ((ownL x0 (orI .i64 x1 x2)).getD (v11).toNat .nil))) < 0) then
            bif (decide (0 ≤ v11) && decide (v11 < ((ownL x0 (orI .i64 x1 x2)).length : Int))) then
              bif decide ((b7).length + 1 ≤ 2147483648) then
                t16_lp6 Tryz.prog Tryz.f16 N n x0 x1 x2 (IntKind.wrap .i64 (v11 + 1)) (b7 ++ [.lit (.int .i64 (intD ((ownL x0 (orI .i64 x1 x2)).getD (v11).toNat .nil)))])
              else none
            else none
          else t16_lp6 Tryz.prog Tryz.f16 N n x0 x1 x2 (IntKind.wrap .i64 (v11 + 1)) b7
        else none
      else t16_lp6 Tryz.prog Tryz.f16 N n x0 x1 x2 (IntKind.wrap .i64 (v11 + 1)) b7
    else none
  else some (dat 25 (.slice b7 [])) := by kernel_rfl
theorem t16 (N : Nat) (x0 : D) (x1 : Int) (x2 : Int) : evFn Tryz.prog (envR R6 [] [] []) t16_h N Tryz.f16 [dat 28 x0, dat 3 (.lit (.int .i64 x1)), dat 3 (.lit (.int .i64 x2))] =
  bif decide ((qP x0).length ≤ 2147483647) then
    bif decide ((qP x0).length ≤ 2147483647) then
      bif decide ((qP x0).length ≤ 2147483647) then
        t16_lp6 Tryz.prog Tryz.f16 N N x0 x1 x2 0 []
      else none
    else none
  else none := by kernel_rfl

end X
end Go.Proofs.YtjgnknkbohlopaaGreat

namespace Go.Proofs.YtjgnknkbohlopaaGreat
namespace X
open Go.Ev
set_option linter.unusedVariables false
set_option maxRecDepth 10000
set_option linter.unusedSimpArgs false

theorem plc_filter {h g P : D → Bool} : ∀ (es : List D) (i : Nat), (∀ k, k < es.length → h (es.getD k .nil) = true → P (litI ((i + k : Nat) : Int)) = g (es.getD k .nil)) → (plc h es i).filter P = plc (fun e => h e && g e) es i
  | [], i, _ => rfl
  | e :: es, i, H => by
    have h0 := H 0 (by simp)
    have ih := plc_filter es (i + 1) fun k hk hh => by
      have := H (k + 1) (by simp; omega) (by simpa using hh)
      rw [show i + 1 + k = i + (k + 1) by omega]
      simpa using this
    rw [plc_cons, plc_cons, List.filter_append, ih]
    cases he : h e with
    | false => rfl
    | true =>
      have h1 : P (litI (i : Int)) = g e := h0 he
      rw [cond_true, Bool.true_and, ← h1]
      cases hp : P (litI (i : Int)) <;> simp [List.filter_cons, hp]
theorem has_plc {f : D → Bool} {es : List D} {k : Nat} (hk : k < es.length) : hasB (plc f es 0) ((0 + k : Nat) : Int) = f (es.getD k .nil) := by
  unfold hasB
  rw [Bool.eq_iff_iff, List.contains_iff_mem, List.mem_map]
  constructor
  · rintro ⟨x, hx, hz⟩
    obtain ⟨j, hj, rfl, hf⟩ := plc_mem.1 hx
    have hz : ((0 + j : Nat) : Int) = ((0 + k : Nat) : Int) := hz
    have : j = k := by omega
    subst this
    exact hf
  · intro hf
    exact ⟨litI ((0 + k : Nat) : Int), plc_mem.2 ⟨k, hk, rfl, hf⟩, rfl⟩
def freshB (q : D) (a b : Int) (x : D) : Bool := !hasB (ownL q a) (intD x) && !hasB (ownL q b) (intD x)
theorem new_filter (q : D) (a b : Int) : (ownL q (orI .i64 a b)).filter (freshB q a b) = newL q a b := by
  unfold ownL newL
  rw [plc_filter (g := fun e => !hasS a (ofE e) && !hasS b (ofE e)) _ _ fun k hk _ => by
    unfold freshB ownL
    show (!hasB (plc _ (qP q) 0) ((0 + k : Nat) : Int) && !hasB (plc _ (qP q) 0) ((0 + k : Nat) : Int)) = _
    rw [has_plc hk, has_plc hk]]
  refine plc_congr _ _ fun e _ => ?_
  unfold newB
  rw [Bool.and_assoc]
theorem idx_neg (l : List D) (z : Int) : decide (Lib.idxOf (l.map intD) z < 0) = !hasB l z := by
  unfold hasB
  have := Lib.idxOf_nonneg_iff (l.map intD) z
  cases hc : (l.map intD).contains z with
  | true =>
    rw [hc] at this
    have h0 : 0 ≤ Lib.idxOf (l.map intD) z := this.mpr rfl
    rw [dF (show ¬ Lib.idxOf (l.map intD) z < 0 by omega)]
    rfl
  | false =>
    rw [hc] at this
    have h0 : ¬ 0 ≤ Lib.idxOf (l.map intD) z := fun hh => by have := this.mp hh; cases this
    rw [dT (show Lib.idxOf (l.map intD) z < 0 by omega)]
    rfl
theorem own_lit {q : D} {s : Int} {i : Nat} (hi : i < (ownL q s).length) : (.lit (.int .i64 (intD (ownL q s)[i])) : D) = (ownL q s)[i] := by
  have hm := List.getElem_mem hi
  unfold ownL at hm
  obtain ⟨k, _, hx, _⟩ := plc_mem.1 hm
  have hx : (ownL q s)[i] = litI ((0 + k : Nat) : Int) := hx
  rw [hx]
  rfl
theorem rown_len (q : D) (a : Int) : (ownL q a).length ≤ (qP q).length := by
  unfold ownL
  rw [plc_len]
  exact List.countP_le_length
theorem rnew_loop {N : Nat} {q : D} {a b : Int} (hl : (ownL q (orI .i64 a b)).length ≤ 2147483647) : ∀ (n i : Nat) (l : List D), i ≤ (ownL q (orI .i64 a b)).length → (ownL q (orI .i64 a b)).length - i < n → l.length ≤ i →
    t16_lp6 Tryz.prog Tryz.f16 N n q a b (i : Int) l = some (dat 25 (.slice (l ++ ((ownL q (orI .i64 a b)).drop i).filter (freshB q a b)) []))
  | 0, i, l, _, h, _ => by omega
  | n + 1, i, l, hi, h, hle => by
    rw [t16_lp6_step]
    by_cases hlt : i < (ownL q (orI .i64 a b)).length
    · have ih1 := rnew_loop (N := N) hl n (i + 1) (l ++ [(ownL q (orI .i64 a b))[i]]) (by omega) (by omega) (by simp; omega)
      have ih2 := rnew_loop (N := N) hl n (i + 1) l (by omega) (by omega) (by omega)
      rw [l_idx hlt, l_lt hlt, cond_true, cond_true, Int.toNat_natCast, l_get hlt, idx_neg, idx_neg, l_wrap (Nat.le_trans hl (by unfold maxLen; omega)) hlt, dT (show l.length + 1 ≤ 2147483648 by omega), own_lit hlt, ih1, ih2, List.drop_eq_getElem_cons hlt, List.filter_cons]
      unfold freshB
      cases hasB (ownL q a) (intD (ownL q (orI .i64 a b))[i]) <;> cases hasB (ownL q b) (intD (ownL q (orI .i64 a b))[i]) <;> simp
    · rw [l_ge hlt, cond_false, List.drop_of_length_le (by omega)]
      simp
def e16 : FuncId × TypeId × (List AV → Bool) × (List AV → Option D) := (16, 25, preD (q3 fun x _ _ => decide ((qP x).length ≤ 2147483647)), ent [28, 3, 3] (f3 fun x y z => some (.slice (newL x (intD y) (intD z)) [])))
theorem k16 : FnOK Tryz.prog 16 Tryz.f16 := ⟨Tryz.func16, rfl, by kernel_rfl⟩
theorem c16 : ∀ args d, e16.2.2.1 args = true → e16.2.2.2 args = some d → CallOK Tryz.prog 16 args (mkRes Tryz.prog 25 d) :=
  ent3p k16 fun x y z d hq h _ _ _ => by
    cases h
    rw [nQry, n3, n3]
    have hl : (qP x).length ≤ 2147483647 := of_decide_eq_true hq
    have hq : decide ((qP x).length ≤ 2147483647) = true := hq
    have ho := rown_len x (orI .i64 (intD y) (intD z))
    refine fn_ok hm envR6 k16 ((t16 ((ownL x (orI .i64 (intD y) (intD z))).length + 1) x (intD y) (intD z)).trans ?_)
    rw [m27, hq, cond_true, cond_true, cond_true]
    have := rnew_loop (N := (ownL x (orI .i64 (intD y) (intD z))).length + 1) (q := x) (a := intD y) (b := intD z) (by omega) ((ownL x (orI .i64 (intD y) (intD z))).length + 1) 0 [] (Nat.zero_le _) (by omega) (by simp)
    refine this.trans ?_
    rw [List.drop_zero, List.nil_append, new_filter]
def R7 : Tab := e16 :: R6
theorem envR7 : EnvOK Tryz.prog (envH R7 []) := envOK_cons' envR6 c16

end X
end Go.Proofs.YtjgnknkbohlopaaGreat

namespace Go.Proofs.YtjgnknkbohlopaaGreat
namespace X
open Go.Ev
set_option linter.unusedVariables false
/- roadbook/roadbookref05.Pairs -/
def t19_h : Hints := fun i => if i = 4 then some ([0, 4, 5, 6, 10, 11, 12, 13, 14, 15, 16, 17, 18, 19, 20, 21, 22, 23, 24, 25, 26, 27, 28, 29, 30, 31, 32, 33, 34, 35, 36, 37, 38, 39, 40, 41, 42, 43, 44, 45, 46, 47, 48, 49, 50, 51, 52, 53, 54, 55, 56, 57, 58, 59, 60, 61, 62, 63, 64, 65, 66, 67, 68, 69, 70, 71, 72, 73, 74, 75, 76, 77, 78], [3, 7], []) else none
def t19_lp4 (P : Program) (fn : Func) (N n : Nat) (x0 : D) (x1 : Int) (x2 : Int) (v9 : Int) (b7 : List D) : Option AV := evLoop (preL t19_h (sub [1, 1, 1, 0, 1, 0, 0] (bodyOf fn))) (evCode P (envR R7 [] [] []) t19_h N (sub [1, 1, 1, 0, 1, 0, 0] (bodyOf fn))) n ⟨[dead, dat 3 (.lit (.int .i64 x1)), dat 3 (.lit (.int .i64 x2)), bxp 3 28, dead, dead, dead, bxp 7 41, dat 25 (.slice (newL x0 x1 x2) []), dat 3 (.lit (.int .i64 v9)), dead, dead, dead, dead, dead, dead, dead, dead, dead, dead, dead, dead, dead, dead, dead, dead, dead, dead, dead, dead, dead, dead, dead, dead, dead, dead, dead, dead, dead, dead, dead, dead, dead, dead, dead, dead, dead, dead, dead, dead, dead, dead, dead, dead, dead, dead, dead, dead, dead, dead, dead, dead, dead, dead, dead, dead, dead, dead, dead, dead, dead, dead, dead, dead, dead, dead, dead, dead, dead], lookB [(3, some ⟨28, x0, 0, none⟩), (7, some ⟨41, .slice b7 [], 1, none⟩)]⟩ (blockK 0 (seqC P (envR R7 [] [] []) t19_h N (sub [1, 1, 1, 1] (bodyOf fn)) (finK P fn) ))
theorem t19_lp4_step (N n : Nat) (x0 : D) (x1 : Int) (x2 : Int) (v9 : Int) (b7 : List D) : t19_lp4 Tryz.prog Tryz.f19 N (n + 1) x0 x1 x2 v9 b7 =
  bif decide (v9 < ((newL x0 x1 x2).length : Int)) then
    bif (decide (0 ≤ v9) && decide (v9 < ((newL x0 x1 x2).length : Int))) then
      bif (decide (0 ≤ (intD ((newL x0 x1 x2).getD (v9).toNat .nil))) && decide ((intD ((newL x0 x1 x2).getD (v9).toNat .nil)) < ((elemsD (fieldD x0 1)).length : Int))) then
        bif (!(pairE ((elemsD (fieldD x0 1)).getD (intD ((newL x0 x1 x2).getD (v9).toNat .nil)).toNat .nil))) then
          t19_lp4 Tryz.prog Tryz.f19 N n x0 x1 x2 (IntKind.wrap .i64 (v9 + 1)) b7
        else bif ((bitB x1 (IntKind.wrap .i64 (Int.tdiv (pairA ((elemsD (fieldD x0 1)).getD (intD ((newL x0 x1 x2).getD (v9).toNat .nil)).toNat .nil)) 4))) == true) then
            bif bitB x2 (IntKind.wrap .i64 (Int.tdiv (pairB ((elemsD (fieldD x0 1)).getD (intD ((newL x0 x1 x2).getD (v9).toNat .nil)).toNat .nil)) 4)) then
              bif decide ((b7).length + 1 ≤ 2147483648) then
                t19_lp4 Tryz.prog Tryz.f19 N n x0 x1 x2 (IntKind.wrap .i64 (v9 + 1)) (b7 ++ [.agg [.lit (.int .i64 (pairA ((elemsD (fieldD x0 1)).getD (intD ((newL x0 x1 x2).getD (v9).toNat .nil)).toNat .nil))), .lit (.int .i64 (pairB ((elemsD (fieldD x0 1)).getD (intD ((newL x0 x1 x2).getD (v9).toNat .nil)).toNat .nil)))]])
              else none
            else bif ((bitB x1 (IntKind.wrap .i64 (Int.tdiv (pairB ((elemsD (fieldD x0 1)).getD (intD ((newL x0 x1 x2).getD (v9).toNat .nil)).toNat .nil)) 4))) == true) then
                bif bitB x2 (IntKind.wrap .i64 (Int.tdiv (pairA ((elemsD (fieldD x0 1)).getD (intD ((newL x0 x1 x2).getD (v9).toNat .nil)).toNat .nil)) 4)) then
                  bif decide ((b7).length + 1 ≤ 2147483648) then
                    t19_lp4 Tryz.prog Tryz.f19 N n x0 x1 x2 (IntKind.wrap .i64 (v9 + 1)) (b7 ++ [.agg [.lit (.int .i64 (pairB ((elemsD (fieldD x0 1)).getD (intD ((newL x0 x1 x2).getD (v9).toNat .nil)).toNat .nil))), .lit (.int .i64 (pairA ((elemsD (fieldD x0 1)).getD (intD ((newL x0 x1 x2).getD (v9).toNat .nil)).toNat .nil)))]])
                  else none
                else t19_lp4 Tryz.prog Tryz.f19 N n x0 x1 x2 (IntKind.wrap .i64 (v9 + 1)) b7
              else t19_lp4 Tryz.prog Tryz.f19 N n x0 x1 x2 (IntKind.wrap .i64 (v9 + 1)) b7
          else bif ((bitB x1 (IntKind.wrap .i64 (Int.tdiv (pairB ((elemsD (fieldD x0 1)).getD (intD ((newL x0 x1 x2).getD (v9).toNat .nil)).toNat .nil)) 4))) == true) then
              bif bitB x2 (IntKind.wrap .i64 (Int.tdiv (pairA ((elemsD (fieldD x0 1)).getD (intD ((newL x0 x1 x2).getD (v9).toNat .nil)).toNat .nil)) 4)) then
                bif decide ((b7).length + 1 ≤ 2147483648) then
                  t19_lp4 Tryz.prog Tryz.f19 N n x0 x1 x2 (IntKind.wrap .i64 (v9 + 1)) (b7 ++ [.agg [.lit (.int .i64 (pairB ((elemsD (fieldD x0 1)).getD (intD ((newL x0 x1 x2).getD (v9).toNat .nil)).toNat .nil))), .lit (.int .i64 (pairA ((elemsD (fieldD x0 1)).getD (intD ((newL x0 x1 x2).getD (v9).toNat .nil)).toNat .nil)))]])
                else none
              else t19_lp4 Tryz.prog Tryz.f19 N n x0 x1 x2 (IntKind.wrap .i64 (v9 + 1)) b7
            else t19_lp4 Tryz.prog Tryz.f19 N n x0 x1 x2 (IntKind.wrap .i64 (v9 + 1)) b7
      else none
    else none
  else some (dat 41 (.slice b7 [])) := by kernel_rfl
theorem t19 (N : Nat) (x0 : D) (x1 : Int) (x2 : Int) : evFn Tryz.prog (envR R7 [] [] []) t19_h N Tryz.f19 [dat 28 x0, dat 3 (.lit (.int .i64 x1)), dat 3 (.lit (.int .i64 x2))] =
  bif decide ((qP x0).length ≤ 2147483647) then
    t19_lp4 Tryz.prog Tryz.f19 N N x0 x1 x2 0 []
  else none := by kernel_rfl

end X
end Go.Proofs.YtjgnknkbohlopaaGreat

namespace Go.Proofs.YtjgnknkbohlopaaGreat
namespace X
open Go.Ev
set_option linter.unusedVariables false
set_option maxRecDepth 10000
set_option linter.unusedSimpArgs false

theorem rpairs_loop {N : Nat} {q : D} {a b : Int} (hl : (qP q).length ≤ 2147483647) : ∀ (n i : Nat) (l : List D), i ≤ (newL q a b).length → (newL q a b).length - i < n → l.length ≤ i →
    t19_lp4 Tryz.prog Tryz.f19 N n q a b (i : Int) l = some (dat 41 (.slice (l ++ ((newL q a b).drop i).flatMap fun x => pairOf a b ((qP q).getD (intD x).toNat .nil)) []))
  | 0, i, l, _, h, _ => by omega
  | n + 1, i, l, hi, h, hle => by
    have hnl := new_len q a b
    rw [t19_lp4_step]
    by_cases hlt : i < (newL q a b).length
    · obtain ⟨k, hk, hx⟩ := new_mem (List.getElem_mem hlt)
      have e1 : intD ((newL q a b).getD i .nil) = (k : Int) := by rw [l_get hlt, hx]; rfl
      have b1 : (decide (0 ≤ (k : Int)) && decide ((k : Int) < ((elemsD (fieldD q 1)).length : Int))) = true := l_idx hk
      rw [l_idx hlt, l_lt hlt, cond_true, cond_true, Int.toNat_natCast, e1, b1, cond_true, Int.toNat_natCast, l_wrap (Nat.le_trans (Nat.le_trans hnl hl) (by unfold maxLen; omega)) hlt, List.drop_eq_getElem_cons hlt, List.flatMap_cons, hx]
      show _ = some (dat 41 (.slice (l ++ (pairOf a b ((elemsD (fieldD q 1)).getD ((k : Int)).toNat .nil) ++ _)) []))
      rw [Int.toNat_natCast]
      generalize (elemsD (fieldD q 1)).getD k .nil = e
      have hbit : pairE e = true → ∀ s : Int, bitB s (IntKind.wrap .i64 (Int.tdiv (pairA e) 4)) = hasS s (ofColI (pairA e)) ∧ bitB s (IntKind.wrap .i64 (Int.tdiv (pairB e) 4)) = hasS s (ofColI (pairB e)) := by
        intro hp s
        obtain ⟨c1, c2, _⟩ := pair_col hp
        have u1 := split_lt (pairA e)
        have u2 := split_lt (pairB e)
        rw [rdiv4 c1, rdiv4 c2, bit_any (show 0 ≤ splitA (pairA e) ∧ splitA (pairA e) < 64 by omega), bit_any (show 0 ≤ splitA (pairB e) ∧ splitA (pairB e) < 64 by omega), has_col, has_col]
        exact ⟨rfl, rfl⟩
      have ih : ∀ l' : List D, l'.length ≤ i + 1 → t19_lp4 Tryz.prog Tryz.f19 N n q a b ((i + 1 : Nat) : Int) l' = some (dat 41 (.slice (l' ++ ((newL q a b).drop (i + 1)).flatMap fun x => pairOf a b ((qP q).getD (intD x).toNat .nil)) [])) :=
        fun l' hl' => rpairs_loop hl n (i + 1) l' (by omega) (by omega) hl'
      have hd : decide (l.length + 1 ≤ 2147483648) = true := dT (by omega)
      have hA : ∀ x : D, (l ++ [x]).length ≤ i + 1 := fun x => by simp; omega
      rw [hd, ih l (by omega)]
      rw [ih _ (hA _), ih _ (hA _)]
      unfold pairOf pairD litI
      cases hpe : pairE e
      · rfl
      · rw [(hbit hpe a).1, (hbit hpe a).2, (hbit hpe b).1, (hbit hpe b).2]
        cases hasS a (ofColI (pairA e)) <;> cases hasS b (ofColI (pairB e)) <;> cases hasS a (ofColI (pairB e)) <;> cases hasS b (ofColI (pairA e)) <;> simp only [cond_true, cond_false, Bool.not_true, Bool.not_false, Bool.and_true, Bool.true_and, Bool.false_and, Bool.and_false, Bool.and_self, List.append_assoc, List.nil_append, List.append_nil, List.cons_append, beq_self_eq_true, show (false == true) = false from rfl]
    · rw [l_ge hlt, cond_false, List.drop_of_length_le (by omega)]
      simp
def e19 : FuncId × TypeId × (List AV → Bool) × (List AV → Option D) := (19, 41, preD (q3 fun x _ _ => decide ((qP x).length ≤ 2147483647)), ent [28, 3, 3] (f3 fun x y z => some (.slice (pairsL x (intD y) (intD z)) [])))
theorem k19 : FnOK Tryz.prog 19 Tryz.f19 := ⟨Tryz.func19, rfl, by kernel_rfl⟩
theorem c19 : ∀ args d, e19.2.2.1 args = true → e19.2.2.2 args = some d → CallOK Tryz.prog 19 args (mkRes Tryz.prog 41 d) :=
  ent3p k19 fun x y z d hq h _ _ _ => by
    cases h
    rw [nQry, n3, n3]
    have hl : (qP x).length ≤ 2147483647 := of_decide_eq_true hq
    have hq : decide ((qP x).length ≤ 2147483647) = true := hq
    refine fn_ok hm envR7 k19 ((t19 ((newL x (intD y) (intD z)).length + 1) x (intD y) (intD z)).trans ?_)
    rw [mPrs, hq, cond_true]
    exact rpairs_loop hl _ 0 [] (Nat.zero_le _) (by omega) (by simp)
def R8 : Tab := e19 :: R7
theorem envR8 : EnvOK Tryz.prog (envH R8 []) := envOK_cons' envR7 c19

end X
end Go.Proofs.YtjgnknkbohlopaaGreat
