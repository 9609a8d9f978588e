/- Trees of functions, and lemmas. Nothing here is trusted. -/
import Derived.Test.YtdacippnonhahaaDoorZ22
namespace Go.Proofs.YtdacippnonhahaaDoor
section
namespace X
open Go.Ev
set_option linter.unusedVariables false
/- roadbook/tree.joins -/
def t38_h : Hints := fun i => if i = 3 then some ([0, 2, 3, 4, 6, 7, 8, 9, 13, 14, 15, 16, 17, 18, 19, 20, 21, 22, 23, 24, 25, 26, 27, 28, 29, 30], [5], []) else if i = 6 then some ([0, 2, 3, 4, 6, 8, 9, 13, 14, 15, 19, 20, 21, 22, 23, 24, 25, 26, 27, 28, 29, 30], [5, 7], []) else none
def t38_lp3 (P : Program) (fn : Func) (N n : Nat) (x0 : D) (x1 : D) (v12 : Int) (b5 : List D) : Option AV := evLoop (preL t38_h (sub [1, 1, 0, 1, 0, 0] (bodyOf fn))) (evCode P (envH S8 []) t38_h N (sub [1, 1, 0, 1, 0, 0] (bodyOf fn))) n ⟨[dead, dat 22 x1, dead, dead, dead, bxp 5 22, dead, dead, dead, dead, dat 22 x0, dat 3 (.lit (.int .i64 ((elemsD x0).length : Int))), dat 3 (.lit (.int .i64 v12)), dead, dead, dead, dead, dead, dead, dead, dead, dead, dead, dead, dead, dead, dead, dead, dead, dead, dead], lookB [(5, some ⟨22, .slice b5 [], 1, none⟩)]⟩ (blockK 0 (seqC P (envH S8 []) t38_h N (sub [1, 1, 1] (bodyOf fn)) (finK P fn) ))
def t38_lp6 (P : Program) (fn : Func) (N n : Nat) (x0 : D) (x1 : D) (v12 : Int) (b5 : List D) (m0 : Nat) (v18 : Int) (b5q : List D) : Option AV := evLoop (preL t38_h (sub [1, 1, 0, 1, 0, 0, 1, 1, 0, 0, 1, 1, 0, 0] (bodyOf fn))) (evCode P (envH S8 []) t38_h N (sub [1, 1, 0, 1, 0, 0, 1, 1, 0, 0, 1, 1, 0, 0] (bodyOf fn))) n ⟨[dead, dat 22 x1, dead, dead, dead, bxp 5 22, dead, bxp 7 24, dead, dead, dat 22 x0, dat 3 (.lit (.int .i64 ((elemsD x0).length : Int))), dat 3 (.lit (.int .i64 v12)), dead, dead, dead, dat 22 x1, dat 3 (.lit (.int .i64 ((elemsD x1).length : Int))), dat 3 (.lit (.int .i64 v18)), dead, dead, dead, dead, dead, dead, dead, dead, dead, dead, dead, dead], lookB [(5, some ⟨22, .slice b5q [], 1, none⟩), (7, some ⟨24, (elemsD x0).getD (v12).toNat .nil, 0, none⟩)]⟩ (blockK 2 (blockK 1 (seqC P (envH S8 []) t38_h N (sub [1, 1, 0, 1, 0, 0, 1, 1, 1] (bodyOf fn)) (seqK (fun s => evLoop (preL t38_h (sub [1, 1, 0, 1, 0, 0] (bodyOf fn))) (evCode P (envH S8 []) t38_h N (sub [1, 1, 0, 1, 0, 0] (bodyOf fn))) m0 ((preL t38_h (sub [1, 1, 0, 1, 0, 0] (bodyOf fn))) s) (blockK 0 (seqC P (envH S8 []) t38_h N (sub [1, 1, 1] (bodyOf fn)) (finK P fn) ))) (blockK 0 (seqC P (envH S8 []) t38_h N (sub [1, 1, 1] (bodyOf fn)) (finK P fn) ))) )))
theorem t38_lp6_step  (N n : Nat) (x0 : D) (x1 : D) (v12 : Int) (b5 : List D) (m0 : Nat) (v18 : Int) (b5q : List D) : t38_lp6 Tryd.prog Tryd.f38 N (n + 1) x0 x1 v12 b5 m0 v18 b5q =
 bif decide (v18 < ((elemsD x1).length : Int)) then
  bif (decide (0 <= v18) && decide (v18 < ((elemsD x1).length : Int))) then
   bif (smT ((elemsD x0).getD (v12).toNat .nil) && smT ((elemsD x1).getD (v18).toNat .nil)) then
    bif decide ((b5q).length + 1 <= 2147483648) then
     t38_lp6 Tryd.prog Tryd.f38 N n x0 x1 v12 b5 m0 (IntKind.wrap .i64 (v18 + 1)) (b5q ++ [nodeD [(elemsD x0).getD (v12).toNat .nil, (elemsD x1).getD (v18).toNat .nil]])
    else none
   else none
  else none
 else t38_lp3 Tryd.prog Tryd.f38 N m0 x0 x1 (IntKind.wrap .i64 (v12 + 1)) b5q := by kernel_rfl
theorem t38_lp3_step  (N n : Nat) (x0 : D) (x1 : D) (v12 : Int) (b5 : List D) : t38_lp3 Tryd.prog Tryd.f38 N (n + 1) x0 x1 v12 b5 =
 bif decide (v12 < ((elemsD x0).length : Int)) then
  bif (decide (0 <= v12) && decide (v12 < ((elemsD x0).length : Int))) then
   t38_lp6 Tryd.prog Tryd.f38 N N x0 x1 v12 b5 n 0 b5
  else none
 else some (dat 22 (.slice b5 [])) := by kernel_rfl
theorem t38 (N : Nat) (x0 : D) (x1 : D) : evFn Tryd.prog (envH S8 []) t38_h N Tryd.f38 [dat 22 x0, dat 22 x1] =
 t38_lp3 Tryd.prog Tryd.f38 N N x0 x1 0 [] := by kernel_rfl

/- roadbook/tree.First -/
def t26_h : Hints := fun i => if i = 5 then some ([1, 5, 6, 7, 8, 9, 10, 11, 12, 13, 14, 15, 16, 17, 18, 19, 20, 21, 22], [2, 3], []) else none
def t26_lp5 (P : Program) (fn : Func) (N n : Nat) (x0 : Int) (v4 : Int) (b3 : D) : Option AV := evLoop (preL t26_h (sub [1, 1, 1, 0, 1, 0, 0] (bodyOf fn))) (evCode P (envH S8 []) t26_h N (sub [1, 1, 1, 0, 1, 0, 0] (bodyOf fn))) n ⟨[dat 3 (.lit (.int .i64 x0)), dead, bxp 2 24, bxp 3 24, dat 3 (.lit (.int .i64 v4)), dead, dead, dead, dead, dead, dead, dead, dead, dead, dead, dead, dead, dead, dead, dead, dead, dead, dead], lookB [(2, some ⟨24, .agg [.lit (.int .i64 0), .slice [] []], 0, none⟩), (3, some ⟨24, b3, 0, none⟩)]⟩ (blockK 0 (seqC P (envH S8 []) t26_h N (sub [1, 1, 1, 1] (bodyOf fn)) (finK P fn) ))
theorem t26_lp5_step  (N n : Nat) (x0 : Int) (v4 : Int) (b3 : D) : t26_lp5 Tryd.prog Tryd.f26 N (n + 1) x0 v4 b3 =
 bif decide (v4 < x0) then
  bif (smT b3 && smT (leafD v4)) then
   t26_lp5 Tryd.prog Tryd.f26 N n x0 (IntKind.wrap .i64 (v4 + 1)) (nodeD [b3, leafD v4])
  else none
 else some (dat 24 b3) := by kernel_rfl
theorem t26 (N : Nat) (x0 : Int) : evFn Tryd.prog (envH S8 []) t26_h N Tryd.f26 [dat 3 (.lit (.int .i64 x0))] =
 bif ((decide (x0 < 1)) == false) then
  bif decide (x0 > 4) then
   some (dat 24 (.agg [.lit (.int .i64 0), .slice [] []]))
  else t26_lp5 Tryd.prog Tryd.f26 N N x0 1 (leafD 0)
 else some (dat 24 (.agg [.lit (.int .i64 0), .slice [] []])) := by kernel_rfl

/- roadbook/roadbookref06.Size -/
def t9_h : Hints := fun i => if i = 3 then some ([0, 3, 4, 7, 8, 9, 10, 11, 12, 13, 14, 15, 16, 17, 18, 19, 20, 21, 22, 23, 24, 25, 26, 27, 28, 29, 30], [2], []) else none
def t9_lp3 (P : Program) (fn : Func) (K : Nat) (N n : Nat) (x0 : D) (x1 : Int) (v5 : Int) (v6 : Int) : Option AV := evLoop (preL t9_h (sub [1, 1, 0, 1, 0, 0] (bodyOf fn))) (evCode P (envH (S9 K) []) t9_h N (sub [1, 1, 0, 1, 0, 0] (bodyOf fn))) n ⟨[dead, dat 3 (.lit (.int .i64 x1)), bxp 2 24, dead, dead, dat 3 (.lit (.int .i64 v5)), dat 3 (.lit (.int .i64 v6)), dead, dead, dead, dead, dead, dead, dead, dead, dead, dead, dead, dead, dead, dead, dead, dead, dead, dead, dead, dead, dead, dead, dead, dead], lookB [(2, some ⟨24, x0, 0, none⟩)]⟩ (blockK 0 (seqC P (envH (S9 K) []) t9_h N (sub [1, 1, 1] (bodyOf fn)) (finK P fn) ))
theorem t9_lp3_step (K : Nat) (N n : Nat) (x0 : D) (x1 : Int) (v5 : Int) (v6 : Int) : t9_lp3 Tryd.prog Tryd.f9 K N (n + 1) x0 x1 v5 v6 =
 bif ((decide (v6 < ((elemsD (fieldD x0 1)).length : Int))) == true) then
  bif decide (v5 <= x1) then
   bif (decide (0 <= v6) && decide (v6 < ((elemsD (fieldD x0 1)).length : Int))) then
    bif (decide (0 <= (IntKind.wrap .i64 (x1 - v5))) && decide ((IntKind.wrap .i64 (x1 - v5)) < (K : Int)) && decide (K <= 101)) then
     t9_lp3 Tryd.prog Tryd.f9 K N n x0 x1 (IntKind.wrap .i64 (v5 + (szK K ((elemsD (fieldD x0 1)).getD (v6).toNat .nil) (IntKind.wrap .i64 (x1 - v5))))) (IntKind.wrap .i64 (v6 + 1))
    else none
   else none
  else some (dat 3 (.lit (.int .i64 v5)))
 else some (dat 3 (.lit (.int .i64 v5))) := by kernel_rfl
theorem t9 (K : Nat) (N : Nat) (x0 : D) (x1 : Int) : evFn Tryd.prog (envH (S9 K) []) t9_h N Tryd.f9 [dat 24 x0, dat 3 (.lit (.int .i64 x1))] =
 t9_lp3 Tryd.prog Tryd.f9 K N N x0 x1 1 0 := by kernel_rfl

end X
end
section
namespace X
open Go.Ev
set_option linter.unusedVariables false
set_option linter.unusedSimpArgs false
set_option maxRecDepth 10000

theorem k38 : FnOK Tryd.prog 38 Tryd.f38 := ⟨Tryd.func38, rfl, by kernel_rfl⟩
theorem k26 : FnOK Tryd.prog 26 Tryd.f26 := ⟨Tryd.func26, rfl, by kernel_rfl⟩
theorem k9 : FnOK Tryd.prog 9 Tryd.f9 := ⟨Tryd.func9, rfl, by kernel_rfl⟩

/-! ### joins -/
theorem joins_in {N m0 : Nat} {x0 x1 : D} {i : Nat} {b5 : List D} (hl1 : (elemsD x1).length <= 1000) (hs1 : ∀ p ∈ elemsD x1, smT p = true) (hs0 : smT ((elemsD x0).getD i .nil) = true) : ∀ (n j : Nat) (l : List D), j <= (elemsD x1).length -> (elemsD x1).length - j < n -> l.length + ((elemsD x1).length - j) <= 2000000 ->
  t38_lp6 Tryd.prog Tryd.f38 N n x0 x1 (i : Int) b5 m0 (j : Int) l = t38_lp3 Tryd.prog Tryd.f38 N m0 x0 x1 (IntKind.wrap .i64 ((i : Int) + 1)) (l ++ ((elemsD x1).drop j).map fun y => nodeD [(elemsD x0).getD i .nil, y])
 | 0, j, l, _, h, _ => by omega
 | n + 1, j, l, hj, h, hlen => by
  rw [t38_lp6_step]
  by_cases hlt : j < (elemsD x1).length
  ·have h1 : decide ((j : Int) < ((elemsD x1).length : Int)) = true := by simpa using hlt
   have h2 : decide (l.length + 1 <= 2147483648) = true := by rw [decide_eq_true_eq]; omega
   rw [idx_ok hlt, h1, cond_true, cond_true, Int.toNat_natCast, Int.toNat_natCast, getD_lt hlt, hs0, hs1 _ (List.getElem_mem hlt), Bool.and_self, cond_true, h2, cond_true, wrap_step (n := (elemsD x1).length) (by unfold maxLen; omega) hlt, List.drop_eq_getElem_cons hlt, List.map_cons]
   rw [joins_in hl1 hs1 hs0 n (j + 1) _ (by omega) (by omega) (by rw [List.length_append]; simp only [List.length_cons, List.length_nil]; omega), List.append_assoc]
   rfl
  ·have h1 : decide ((j : Int) < ((elemsD x1).length : Int)) = false := by simpa using hlt
   have h2 : (elemsD x1).drop j = [] := List.drop_of_length_le (by omega)
   rw [h1, h2, cond_false, List.map_nil, List.append_nil]
theorem joins_out {N : Nat} {x0 x1 : D} (hl0 : (elemsD x0).length <= 1000) (hl1 : (elemsD x1).length <= 1000) (hs0 : ∀ p ∈ elemsD x0, smT p = true) (hs1 : ∀ p ∈ elemsD x1, smT p = true) (hN : (elemsD x1).length < N) : ∀ (n i : Nat) (l : List D), i <= (elemsD x0).length -> (elemsD x0).length - i < n -> l.length <= 1000 * i ->
  t38_lp3 Tryd.prog Tryd.f38 N n x0 x1 (i : Int) l = some (dat 22 (.slice (l ++ joinL ((elemsD x0).drop i) (elemsD x1)) []))
 | 0, i, l, _, h, _ => by omega
 | n + 1, i, l, hi, h, hlen => by
  rw [t38_lp3_step]
  by_cases hlt : i < (elemsD x0).length
  ·have h1 : decide ((i : Int) < ((elemsD x0).length : Int)) = true := by simpa using hlt
   have hg : (elemsD x0).getD i .nil = (elemsD x0)[i] := getD_lt hlt
   rw [idx_ok hlt, h1, cond_true, cond_true]
   have := joins_in (N := N) (m0 := n) (x0 := x0) (x1 := x1) (i := i) (b5 := l) hl1 hs1 (by rw [hg]; exact hs0 _ (List.getElem_mem hlt)) N 0 l (Nat.zero_le _) (by omega) (by omega)
   rw [List.drop_zero] at this
   refine Eq.trans (show _ = _ from this) ?_
   rw [wrap_step (n := (elemsD x0).length) (by unfold maxLen; omega) hlt, joins_out hl0 hl1 hs0 hs1 hN n (i + 1) _ (by omega) (by omega) (by rw [List.length_append, List.length_map]; omega), List.drop_eq_getElem_cons hlt, List.append_assoc, hg]
   rfl
  ·have h1 : decide ((i : Int) < ((elemsD x0).length : Int)) = false := by simpa using hlt
   have h2 : (elemsD x0).drop i = [] := List.drop_of_length_le (by omega)
   rw [h1, h2, cond_false]
   show _ = some (dat 22 (.slice (l ++ []) []))
   rw [List.append_nil]
def e38 : FuncId × TypeId × (List AV -> Bool) × (List AV -> Option D) := (38, 22, preD (q2 fun x y => joinPre (elemsD x) (elemsD y)), ent [22, 22] (f2 fun x y => some (.slice (joinL (elemsD x) (elemsD y)) [])))
theorem c38 : ∀ args d, e38.2.2.1 args = true -> e38.2.2.2 args = some d -> CallOK Tryd.prog 38 args (mkRes Tryd.prog 22 d) :=
 ent2p k38 fun x y d hq h ⟨_, hx⟩ ⟨_, hy⟩ => by
  cases h
  rw [n22, n22]
  have hq : joinPre (elemsD x) (elemsD y) = true := hq
  simp only [joinPre, Bool.and_eq_true, decide_eq_true_eq, List.all_eq_true] at hq
  refine fn_ok hm envS8 k38 ((t38 2000 x y).trans ?_)
  rw [m22]
  have := joins_out (N := 2000) hq.1.2 hq.2 hq.1.1.1 hq.1.1.2 (by omega) 2000 0 [] (Nat.zero_le _) (by omega) (by simp)
  rw [List.drop_zero] at this
  exact this

/-! ### Read -/
theorem rune_wrap (s : List UInt8) (q : Nat) : IntKind.wrap .i64 ((IntKind.wrap .i64 ((runeAt s q).1 : Int)) - 48) = ((runeAt s q).1 : Int) - 48 := by
 have := (rune_le s q).1
 have h1 : IntKind.wrap .i64 ((runeAt s q).1 : Int) = ((runeAt s q).1 : Int) := wrap_in (by rw [inR_iff]; omega)
 rw [h1]
 exact wrap_in (by rw [inR_iff]; omega)
/-! ### First -/
theorem t26_1 : evFn Tryd.prog (envH S8 []) t26_h 6 Tryd.f26 [dat 3 (.lit (.int .i64 1))] = some (dat 24 (firstD 1)) := by kernel_rfl
theorem t26_2 : evFn Tryd.prog (envH S8 []) t26_h 6 Tryd.f26 [dat 3 (.lit (.int .i64 2))] = some (dat 24 (firstD 2)) := by kernel_rfl
theorem t26_3 : evFn Tryd.prog (envH S8 []) t26_h 6 Tryd.f26 [dat 3 (.lit (.int .i64 3))] = some (dat 24 (firstD 3)) := by kernel_rfl
theorem t26_4 : evFn Tryd.prog (envH S8 []) t26_h 6 Tryd.f26 [dat 3 (.lit (.int .i64 4))] = some (dat 24 (firstD 4)) := by kernel_rfl
theorem first_out {n : Int} (h : n < 1 \/ 4 < n) : firstD n = leafD 0 := by
 unfold firstD
 split
 ·omega
 ·omega
 ·omega
 ·rfl
def e26 : FuncId × TypeId × (List AV -> Bool) × (List AV -> Option D) := (26, 24, yes, ent [3] (f1 fun x => some (firstD (intD x))))
theorem c26 : ∀ args d, e26.2.2.2 args = some d -> CallOK Tryd.prog 26 args (mkRes Tryd.prog 24 d) :=
 ent1 k26 fun x d h ⟨_, hx⟩ => by
  cases h
  obtain ⟨z, rfl, hz⟩ := ty3' hx
  rw [n3]
  show CallOK Tryd.prog 26 [dat 3 (.lit (.int .i64 z))] (mkRes Tryd.prog 24 (firstD z))
  by_cases h1 : z < 1
  ·refine fn_ok hm envS8 k26 ((t26 6 z).trans ?_)
   have d : decide (z < 1) = true := by simpa using h1
   rw [d, first_out (.inl h1), m24]
   rfl
  ·by_cases h4 : 4 < z
   ·refine fn_ok hm envS8 k26 ((t26 6 z).trans ?_)
    have d : decide (z < 1) = false := by simpa using h1
    have d4 : decide (z > 4) = true := by simpa using h4
    rw [d, d4, first_out (.inr h4), m24]
    rfl
   ·have : z = 1 \/ z = 2 \/ z = 3 \/ z = 4 := by omega
    rcases this with rfl | rfl | rfl | rfl
    ·exact fn_ok hm envS8 k26 t26_1
    ·exact fn_ok hm envS8 k26 t26_2
    ·exact fn_ok hm envS8 k26 t26_3
    ·exact fn_ok hm envS8 k26 t26_4

/-! ### Size -/
theorem size_loop {K N : Nat} {x0 : D} {most : Int} (hK : most < (K : Int) + 1) (hK2 : K <= 101) (hm0 : 0 <= most) (hl : (tkids x0).length <= maxLen) : ∀ (n i : Nat) (c : Int), i <= (tkids x0).length -> (tkids x0).length - i < n -> 1 <= c -> c <= most + 1 ->
  t9_lp3 Tryd.prog Tryd.f9 K N n x0 most c (i : Int) = some (dat 3 (.lit (.int .i64 (goS (szK K) most ((tkids x0).drop i) c))))
 | 0, i, c, _, h, _, _ => by omega
 | n + 1, i, c, hi, h, hc1, hc2 => by
  rw [t9_lp3_step, show elemsD (fieldD x0 1) = tkids x0 from rfl]
  by_cases hlt : i < (tkids x0).length
  ·have h1 : decide ((i : Int) < ((tkids x0).length : Int)) = true := by simpa using hlt
   rw [List.drop_eq_getElem_cons hlt, goS_cons, idx_ok hlt, h1]
   by_cases h2 : c <= most
   ·have d2 : decide (c <= most) = true := by simpa using h2
    have hw : IntKind.wrap .i64 (most - c) = most - c := wrap_in (by rw [inR_iff]; omega)
    have hp : (decide (0 <= most - c) && decide (most - c < (K : Int)) && decide (K <= 101)) = true := by
     simp only [Bool.and_eq_true, decide_eq_true_eq]
     omega
    obtain ⟨s1, s2⟩ := szK_bound K (tkids x0)[i] (most - c) (by omega)
    have hw2 : IntKind.wrap .i64 (c + szK K (tkids x0)[i] (most - c)) = c + szK K (tkids x0)[i] (most - c) := wrap_in (by rw [inR_iff]; omega)
    rw [d2, hw, hp, Int.toNat_natCast, getD_lt hlt, hw2, wrap_step hl hlt]
    exact size_loop hK hK2 hm0 hl n (i + 1) _ (by omega) (by omega) (by omega) (by omega)
   ·have d2 : decide (c <= most) = false := by simpa using h2
    rw [d2]
    rfl
  ·have h1 : decide ((i : Int) < ((tkids x0).length : Int)) = false := by simpa using hlt
   have h2 : (tkids x0).drop i = [] := List.drop_of_length_le (by omega)
   rw [h1, h2]
   rfl
theorem c9 (K : Nat) (henv : EnvOK Tryd.prog (envH (S9 K) [])) : ∀ args d, (e9 (K + 1)).2.2.1 args = true -> (e9 (K + 1)).2.2.2 args = some d -> CallOK Tryd.prog 9 args (mkRes Tryd.prog 3 d) :=
 ent2p k9 fun x y d hq h ⟨_, hx⟩ ⟨_, hy⟩ => by
  cases h
  obtain ⟨z, rfl, hz⟩ := ty3' hy
  rw [n24, n3]
  have hq : (decide (0 <= z) && decide (z < ((K + 1 : Nat) : Int)) && decide (K + 1 <= 101)) = true := hq
  simp only [Bool.and_eq_true, decide_eq_true_eq] at hq
  obtain ⟨hl, _⟩ := ty_len hx
  refine fn_ok hm henv k9 ((t9 K ((tkids x).length + 1) x z).trans ?_)
  rw [m3]
  exact size_loop (K := K) (by omega) (by omega) hq.1.1 hl ((tkids x).length + 1) 0 1 (Nat.zero_le _) (by omega) (by omega) (by omega)
theorem envS9 : ∀ K : Nat, EnvOK Tryd.prog (envH (S9 K) [])
 | 0 => envOK_cons' env0 (fun args d hp hd => by
   exfalso
   have hp : q2 (fun x y => decide (0 <= intD y) && decide (intD y < ((0 : Nat) : Int)) && decide (0 <= 101)) (args.map (·.d)) = true := hp
   unfold q2 at hp
   split at hp
   ·simp only [Bool.and_eq_true, decide_eq_true_eq] at hp
    omega
   ·cases hp)
 | K + 1 => envOK_cons' env0 (c9 K (envS9 K))
end X
end
section
namespace X
open Go.Ev
set_option linter.unusedVariables false
/- (roadbook/rule.whole).turned -/
def t29_h : Hints := fun _ =>  none
theorem t29 (N : Nat) (x0 : D) : evFn Tryd.prog (envH S8 []) t29_h N Tryd.f29 [dat 42 x0] =
 bif (((elemsD (fieldD x0 1)).length : Int) == 0) then
  some (tupA [24, 4] (.agg [.agg [.lit (.int .i64 0), .slice [] []], .lit (.bool false)]))
 else bif (decide (0 <= (1 : Int)) && decide ((1 : Int) < ((elemsD (fieldD x0 1)).length : Int))) then
   bif (decide (0 <= (0 : Int)) && decide ((0 : Int) < ((elemsD (fieldD x0 1)).length : Int))) then
    bif (smT ((elemsD (fieldD x0 1)).getD 1 .nil) && smT ((elemsD (fieldD x0 1)).getD 0 .nil)) then
     some (tupA [24, 4] (.agg [nodeD [(elemsD (fieldD x0 1)).getD 1 .nil, (elemsD (fieldD x0 1)).getD 0 .nil], .lit (.bool true)]))
    else none
   else none
  else none := by kernel_rfl

/- (roadbook/rule.whole).moved -/
def t32_h : Hints := fun _ =>  none
theorem t32 (N : Nat) (x0 : D) : evFn Tryd.prog (envH S8 []) t32_h N Tryd.f32 [dat 42 x0] =
 bif ((((elemsD (fieldD x0 1)).length : Int) == 0) == false) then
  bif (decide (0 <= (0 : Int)) && decide ((0 : Int) < ((elemsD (fieldD x0 1)).length : Int))) then
   bif (((elemsD (fieldD ((elemsD (fieldD x0 1)).getD 0 .nil) 1)).length : Int) == 0) then
    some (tupA [24, 4] (.agg [.agg [.lit (.int .i64 0), .slice [] []], .lit (.bool false)]))
   else bif (decide (0 <= (0 : Int)) && decide ((0 : Int) < ((elemsD (fieldD x0 1)).length : Int))) then
     bif (decide (0 <= (0 : Int)) && decide ((0 : Int) < ((elemsD (fieldD ((elemsD (fieldD x0 1)).getD 0 .nil) 1)).length : Int))) then
      bif (decide (0 <= (0 : Int)) && decide ((0 : Int) < ((elemsD (fieldD x0 1)).length : Int))) then
       bif (decide (0 <= (1 : Int)) && decide ((1 : Int) < ((elemsD (fieldD ((elemsD (fieldD x0 1)).getD 0 .nil) 1)).length : Int))) then
        bif (decide (0 <= (1 : Int)) && decide ((1 : Int) < ((elemsD (fieldD x0 1)).length : Int))) then
         bif (smT ((elemsD (fieldD ((elemsD (fieldD x0 1)).getD 0 .nil) 1)).getD 1 .nil) && smT ((elemsD (fieldD x0 1)).getD 1 .nil)) then
          bif (smT ((elemsD (fieldD ((elemsD (fieldD x0 1)).getD 0 .nil) 1)).getD 0 .nil) && smT (nodeD [(elemsD (fieldD ((elemsD (fieldD x0 1)).getD 0 .nil) 1)).getD 1 .nil, (elemsD (fieldD x0 1)).getD 1 .nil])) then
           some (tupA [24, 4] (.agg [nodeD [(elemsD (fieldD ((elemsD (fieldD x0 1)).getD 0 .nil) 1)).getD 0 .nil, nodeD [(elemsD (fieldD ((elemsD (fieldD x0 1)).getD 0 .nil) 1)).getD 1 .nil, (elemsD (fieldD x0 1)).getD 1 .nil]], .lit (.bool true)]))
          else none
         else none
        else none
       else none
      else none
     else none
    else none
  else none
 else some (tupA [24, 4] (.agg [.agg [.lit (.int .i64 0), .slice [] []], .lit (.bool false)])) := by kernel_rfl

/- roadbook/rule.copied -/
def t34_h : Hints := fun _ =>  none
theorem t34 (N : Nat) (x0 : D) : evFn Tryd.prog (envH S8 []) t34_h N Tryd.f34 [dat 24 x0] =
 bif (((elemsD (fieldD x0 1)).length : Int) == 0) then
  some (dat 24 (leafD (intD (fieldD x0 0))))
 else bif (decide (0 <= (0 : Int)) && decide ((0 : Int) < ((elemsD (fieldD x0 1)).length : Int))) then
   bif (decide (0 <= (1 : Int)) && decide ((1 : Int) < ((elemsD (fieldD x0 1)).length : Int))) then
    bif (smT ((elemsD (fieldD x0 1)).getD 0 .nil) && smT ((elemsD (fieldD x0 1)).getD 1 .nil)) then
     some (dat 24 (nodeD [(elemsD (fieldD x0 1)).getD 0 .nil, (elemsD (fieldD x0 1)).getD 1 .nil]))
    else none
   else none
  else none := by kernel_rfl

end X
end
end Go.Proofs.YtdacippnonhahaaDoor
