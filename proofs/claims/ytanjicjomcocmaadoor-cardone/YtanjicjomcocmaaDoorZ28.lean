/- Trees of functions, and lemmas. Nothing here is trusted. -/
import Derived.Test.YtanjicjomcocmaaDoorZ27
import Derived.Test.YtanjicjomcocmaaDoorZ23
namespace Go.Proofs.YtanjicjomcocmaaDoor
section
namespace X
open Go.Ev
set_option linter.unusedVariables false
/- roadbook/roadbooklaw09.CardOne -/
def t6_h : Hints := fun i => if i = 6 then some ([0, 1, 7, 8, 9, 10, 11, 14, 15, 16, 17, 18, 19, 20, 21, 22, 23, 24, 25, 26, 27, 28, 29, 30, 31, 32, 33, 34, 35, 36, 37, 38, 39, 40, 41, 42, 43, 44, 45, 46, 47, 48, 49, 50, 51, 52, 53, 54, 55, 56, 57, 58, 59, 60, 61, 62, 63, 64, 65, 66, 67, 68, 69, 70, 71, 72, 73, 74, 75, 76, 77, 78, 79, 80, 81, 82, 83, 84, 85, 86, 87, 88, 89, 90, 91, 92, 93, 94, 95, 96, 97, 98, 99, 100, 101, 102, 103, 104, 105, 106, 107, 108, 109, 110, 111, 112, 113, 114, 115, 116, 117, 118, 119, 120, 121, 122, 123, 124, 125, 126, 127, 128], [5, 6], []) else if i = 14 then some ([0, 1, 2, 3, 4, 7, 8, 9, 10, 11, 12, 13, 16, 17, 18, 19, 20, 21, 22, 23, 24, 25, 26, 27, 28, 29, 30, 31, 32, 33, 34, 35, 36, 37, 38, 39, 40, 41, 42, 43, 44, 45, 46, 47, 48, 49, 50, 51, 52, 53, 54, 55, 56, 57, 58, 59, 60, 61, 62, 63, 64, 65, 66, 67, 68, 69, 70, 71, 72, 73, 74, 75, 76, 77, 78, 79, 80, 81, 82, 83, 84, 85, 86, 87, 88, 89, 90, 91, 92, 93, 94, 95, 96, 97, 98, 99, 100, 101, 102, 103, 104, 105, 106, 107, 108, 109, 110, 111, 112, 113, 114, 115, 116, 117, 118, 119, 120, 121, 122, 123, 124, 125, 126, 127, 128], [5, 6, 14], [94]) else none
def t6_lp6 (P : Program) (fn : Func) (N n : Nat) (ts : List D) (x1 : D) (x2 : Int) (x3 : Int) (x4 : Int) (v12 : Int) (v13 : Int) : Option AV := evLoop (preL t6_h (sub [1, 1, 1, 1, 0, 1, 0, 0] (bodyOf fn))) (evCode P (envS (envR A5 [] [] []) [(95, 103), (97, 106)]) t6_h N (sub [1, 1, 1, 1, 0, 1, 0, 0] (bodyOf fn))) n ⟨[dead, dead, dat 3 (.lit (.int .i64 x2)), dat 3 (.lit (.int .i64 x3)), dat 3 (.lit (.int .i64 x4)), bxp 5 28, bxp 6 31, dead, dead, dead, dead, dead, dat 3 (.lit (.int .i64 v12)), dat 3 (.lit (.int .i64 v13)), dead, dead, dead, dead, dead, dead, dead, dead, dead, dead, dead, dead, dead, dead, dead, dead, dead, dead, dead, dead, dead, dead, dead, dead, dead, dead, dead, dead, dead, dead, dead, dead, dead, dead, dead, dead, dead, dead, dead, dead, dead, dead, dead, dead, dead, dead, dead, dead, dead, dead, dead, dead, dead, dead, dead, dead, dead, dead, dead, dead, dead, dead, dead, dead, dead, dead, dead, dead, dead, dead, dead, dead, dead, dead, dead, dead, dead, dead, dead, dead, dead, dead, dead, dead, dead, dead, dead, dead, dead, dead, dead, dead, dead, dead, dead, dead, dead, dead, dead, dead, dead, dead, dead, dead, dead, dead, dead, dead, dead, dead, dead, dead, dead, dead, dead], lookB [(5, some ⟨28, .agg [.slice ts []], 0, none⟩), (6, some ⟨31, x1, 0, none⟩)]⟩ (blockK 0 (seqC P (envS (envR A5 [] [] []) [(95, 103), (97, 106)]) t6_h N (sub [1, 1, 1, 1, 1] (bodyOf fn)) (finK P fn) ))
def t6_lp14 (P : Program) (fn : Func) (N n : Nat) (ts : List D) (x1 : D) (x2 : Int) (x3 : Int) (x4 : Int) (v12 : Int) (v13 : Int) (m0 : Nat) (v15 : Int) : Option AV := evLoop (preL t6_h (sub [1, 1, 1, 1, 1, 1, 1, 1, 0, 1, 0, 0] (bodyOf fn))) (evCode P (envS (envR A5 [] [] []) [(95, 103), (97, 106)]) t6_h N (sub [1, 1, 1, 1, 1, 1, 1, 1, 0, 1, 0, 0] (bodyOf fn))) n ⟨[dead, dead, dead, dead, dead, bxp 5 28, bxp 6 31, dead, dead, dead, dead, dead, dead, dead, bxp 14 28, dat 3 (.lit (.int .i64 v15)), dead, dead, dead, dead, dead, dead, dead, dead, dead, dead, dead, dead, dead, dead, dead, dead, dead, dead, dead, dead, dead, dead, dead, dead, dead, dead, dead, dead, dead, dead, dead, dead, dead, dead, dead, dead, dead, dead, dead, dead, dead, dead, dead, dead, dead, dead, dead, dead, dead, dead, dead, dead, dead, dead, dead, dead, dead, dead, dead, dead, dead, dead, dead, dead, dead, dead, dead, dead, dead, dead, dead, dead, dead, dead, dead, dead, dead, dead, dead, dead, dead, dead, dead, dead, dead, dead, dead, dead, dead, dead, dead, dead, dead, dead, dead, dead, dead, dead, dead, dead, dead, dead, dead, dead, dead, dead, dead, dead, dead, dead, dead, dead, dead], lookB [(5, some ⟨28, .agg [.slice ts []], 0, none⟩), (6, some ⟨31, x1, 0, none⟩), (14, some ⟨28, .agg [.slice (ts.set (x3).toNat (setD (ts.getD (x3).toNat .nil) 1 (.lit (.int .i64 (IntKind.wrap .i64 ((intD (fieldD (ts.getD (x3).toNat .nil) 1)) + x4)))))) []], 0, none⟩)]⟩ (blockK 2 (seqC P (envS (envR A5 [] [] []) [(95, 103), (97, 106)]) t6_h N (sub [1, 1, 1, 1, 1, 1, 1, 1, 1] (bodyOf fn)) (finK P fn) ))
theorem t6_lp14_step (N n : Nat) (ts : List D) (x1 : D) (x2 : Int) (x3 : Int) (x4 : Int) (v12 : Int) (v13 : Int) (m0 : Nat) (v15 : Int) : t6_lp14 Tryd.prog Tryd.f6 N (n + 1) ts x1 x2 x3 x4 v12 v13 m0 v15 =
 bif decide (v15 < 16) then
  bif decide ((rowsI (.agg [.slice (ts.set (x3).toNat (setD (ts.getD (x3).toNat .nil) 1 (.lit (.int .i64 (IntKind.wrap .i64 ((intD (fieldD (ts.getD (x3).toNat .nil) 1)) + x4)))))) []]) x1 v15) < (rowsI (.agg [.slice ts []]) x1 v15)) then
   some (dat 4 (.lit (.bool false)))
  else t6_lp14 Tryd.prog Tryd.f6 N n ts x1 x2 x3 x4 v12 v13 m0 (IntKind.wrap .i64 (v15 + 1))
 else some (dat 4 (.lit (.bool (decide ((groupsI (.agg [.slice (ts.set (x3).toNat (setD (ts.getD (x3).toNat .nil) 1 (.lit (.int .i64 (IntKind.wrap .i64 ((intD (fieldD (ts.getD (x3).toNat .nil) 1)) + x4)))))) []]) x1) >= (groupsI (.agg [.slice ts []]) x1)))))) := by kernel_rfl
theorem t6_lp6_step (N n : Nat) (ts : List D) (x1 : D) (x2 : Int) (x3 : Int) (x4 : Int) (v12 : Int) (v13 : Int) : t6_lp6 Tryd.prog Tryd.f6 N (n + 1) ts x1 x2 x3 x4 v12 v13 =
 bif decide (v13 < x2) then
  t6_lp6 Tryd.prog Tryd.f6 N n ts x1 x2 x3 x4 (IntKind.wrap .i64 (2 * v12)) (IntKind.wrap .i64 (v13 + 1))
 else bif decide ((qP x1).length <= 2147483647) then
   bif ((((ownL x1 v12).length : Int) == 0) == true) then
    bif ((rowsI (.agg [.slice ts []]) x1 v12) != (baseI (.agg [.slice ts []]) x1 x2)) then
     some (dat 4 (.lit (.bool false)))
    else bif decide ((ts).length <= 2147483648) then
      bif (decide (0 <= x3) && decide (x3 < (ts.length : Int))) then
       bif (decide (0 <= x3) && decide (x3 < (ts.length : Int))) then
        t6_lp14 Tryd.prog Tryd.f6 N N ts x1 x2 x3 x4 v12 v13 n 0
       else none
      else none
     else none
   else bif decide ((ts).length <= 2147483648) then
     bif (decide (0 <= x3) && decide (x3 < (ts.length : Int))) then
      bif (decide (0 <= x3) && decide (x3 < (ts.length : Int))) then
       t6_lp14 Tryd.prog Tryd.f6 N N ts x1 x2 x3 x4 v12 v13 n 0
      else none
     else none
    else none
  else none := by kernel_rfl
theorem t6 (N : Nat) (ts : List D) (x1 : D) (x2 : Int) (x3 : Int) (x4 : Int) : evFn Tryd.prog (envS (envR A5 [] [] []) [(95, 103), (97, 106)]) t6_h N Tryd.f6 [dat 28 (.agg [.slice ts []]), dat 31 x1, dat 3 (.lit (.int .i64 x2)), dat 3 (.lit (.int .i64 x3)), dat 3 (.lit (.int .i64 x4))] =
 bif (((farI (.agg [.slice ts []]) x1) != 0) == false) then
  bif ((!(mayQ (.agg [.slice ts []]) x1)) == false) then
   bif ((decide (x2 < 0)) == false) then
    bif ((decide (x2 >= ((elemsD (fieldD x1 0)).length : Int))) == false) then
     bif ((decide (x3 < 0)) == false) then
      bif ((decide (x3 >= (ts.length : Int))) == false) then
       bif ((decide (x4 < 0)) == false) then
        bif (decide (0 <= x3) && decide (x3 < (ts.length : Int))) then
         bif decide (x4 > (IntKind.wrap .i64 (1000000 - (intD (fieldD (ts.getD (x3).toNat .nil) 1))))) then
          some (dat 4 (.lit (.bool true)))
         else t6_lp6 Tryd.prog Tryd.f6 N N ts x1 x2 x3 x4 1 0
        else none
       else some (dat 4 (.lit (.bool true)))
      else some (dat 4 (.lit (.bool true)))
     else some (dat 4 (.lit (.bool true)))
    else some (dat 4 (.lit (.bool true)))
   else some (dat 4 (.lit (.bool true)))
  else some (dat 4 (.lit (.bool true)))
 else some (dat 4 (.lit (.bool true))) := by kernel_rfl

end X
end
section
namespace X
open Go.Ev
set_option linter.unusedVariables false
set_option maxRecDepth 10000
set_option linter.unusedSimpArgs false

theorem sets_loop {N : Nat} {ts : List D} {q : D} {x2 x3 x4 v12 v13 r : Int} {m0 : Nat} (hw : IntKind.wrap .i64 ((intD (fieldD (ts.getD x3.toNat .nil) 1)) + x4) = r)
  (hr : ∀ s, rowsI (plainD ts) q s <= rowsI (greatD ts x3.toNat r) q s) (hg : groupsI (plainD ts) q <= groupsI (greatD ts x3.toNat r) q) : ∀ (n k : Nat), k <= 16 -> 16 - k < n ->
  t6_lp14 Tryd.prog Tryd.f6 N n ts q x2 x3 x4 v12 v13 m0 (k : Int) = some (dat 4 (.lit (.bool true)))
 | 0, k, _, h => by omega
 | n + 1, k, hk, h => by
  rw [t6_lp14_step, hw]
  show (bif decide ((k : Int) < 16) then (bif decide (rowsI (greatD ts x3.toNat r) q (k : Int) < rowsI (plainD ts) q (k : Int)) then _ else _) else some (dat 4 (.lit (.bool (decide (groupsI (greatD ts x3.toNat r) q >= groupsI (plainD ts) q)))))) = _
  by_cases hlt : k < 16
  ·have := hr (k : Int)
   rw [dT (show (k : Int) < 16 by omega), cond_true, dF (show ¬ rowsI (greatD ts x3.toNat r) q (k : Int) < rowsI (plainD ts) q (k : Int) by omega), cond_false, l_wrapI (l_in (by omega) (by omega)), show (k : Int) + 1 = ((k + 1 : Nat) : Int) from rfl]
   exact sets_loop hw hr hg n (k + 1) (by omega) (by omega)
  ·rw [dF (show ¬ (k : Int) < 16 by omega), cond_false, dT (show groupsI (greatD ts x3.toNat r) q >= groupsI (plainD ts) q from hg)]
theorem bit_loop9 {N : Nat} {ts : List D} {q : D} {o i : Nat} {x4 r : Int} (hN : 17 <= N) (hm : mayQ (plainD ts) q = true) (ho : o < (qOcc q).length) (hi : i < ts.length) (hw : IntKind.wrap .i64 ((intD (fieldD (ts.getD ((i : Nat) : Int).toNat .nil) 1)) + x4) = r)
  (hr : ∀ s, rowsI (plainD ts) q s <= rowsI (greatD ts ((i : Nat) : Int).toNat r) q s) (hg : groupsI (plainD ts) q <= groupsI (greatD ts ((i : Nat) : Int).toNat r) q) : ∀ (n k : Nat), k <= o -> o - k < n ->
  t6_lp6 Tryd.prog Tryd.f6 N n ts q (o : Int) (i : Int) x4 (bitI k) (k : Int) = some (dat 4 (.lit (.bool true)))
 | 0, k, _, h => by omega
 | n + 1, k, hk, h => by
  obtain ⟨h1, h2, h6, _⟩ := mayQ_parts hm
  have h4 := occ_len9 h2
  have hts := (mayCat_iff.1 h1).2.1
  have hts : ts.length <= 4 := hts
  have fin : ∀ v : Int, t6_lp14 Tryd.prog Tryd.f6 N N ts q (o : Int) (i : Int) x4 v (k : Int) n 0 = some (dat 4 (.lit (.bool true))) := fun v => sets_loop hw hr hg N 0 (by omega) (by omega)
  rw [t6_lp6_step]
  by_cases hlt : k < o
  ·have e1 : IntKind.wrap .i64 (2 * bitI k) = bitI (k + 1) := by
    have hk4 : k = 0 \/ k = 1 \/ k = 2 := by omega
    rcases hk4 with rfl | rfl | rfl <;> decide
   rw [l_lt hlt, cond_true, e1, l_wrapI (l_in (by omega) (by omega)), show (k : Int) + 1 = ((k + 1 : Nat) : Int) from rfl]
   exact bit_loop9 hN hm ho hi hw hr hg n (k + 1) (by omega) (by omega)
  ·have hko : k = o := by omega
   have e2 : rowsI (.agg [.slice ts []]) q (bitI k) = rowsI (plainD ts) q (bitI k) := rfl
   have e3 : baseI (.agg [.slice ts []]) q (o : Int) = baseI (plainD ts) q (o : Int) := rfl
   rw [l_ge hlt, cond_false, dT (show (qP q).length <= 2147483647 by omega), cond_true, dT (show ts.length <= 2147483648 by omega), l_idx hi, fin, e2, e3]
   cases hb : (((ownL q (bitI k)).length : Int) == 0) with
   | false => rfl
   | true =>
    have hown : ownL q (bitI k) = [] := by
     rw [beq_iff_eq] at hb
     exact List.length_eq_zero_iff.1 (by omega)
    have e4 : (rowsI (plainD ts) q (bitI k) != baseI (plainD ts) q (o : Int)) = false := by
     rw [bne_eq_false_iff_eq, hko]
     rw [hko] at hown
     exact rows_alone hm ho hown
    rw [e4]
    rfl
theorem k6 : FnOK Tryd.prog 6 Tryd.f6 := ⟨Tryd.func6, rfl, by kernel_rfl⟩
theorem lawOne {n0 n1 n2 n3 n4 : Nat} {c q x y z : D} (h0 : Ty Tryd.prog n0 28 c) (h1 : Ty Tryd.prog n1 31 q) (h2 : Ty Tryd.prog n2 3 x) (h3 : Ty Tryd.prog n3 3 y) (h4 : Ty Tryd.prog n4 3 z) : CallOK Tryd.prog 6 [dat 28 c, dat 31 q, dat 3 x, dat 3 y, dat 3 z] (dat 4 (.lit (.bool true))) := by
 obtain ⟨a, rfl, _⟩ := ty3' h2
 obtain ⟨b, rfl, _⟩ := ty3' h3
 obtain ⟨m, rfl, _⟩ := ty3' h4
 obtain ⟨ts, rfl, _, hts⟩ := tyCat h0
 have hdef : ∀ t ∈ ts, isDef t := fun t ht => by obtain ⟨c, r, e, _⟩ := hts t ht; exact ⟨c, r, e⟩
 refine law_ok (envOK_S envA5 _) k6 ((t6 20 ts q a b m).trans ?_)
 have ep : mayQ (.agg [.slice ts []]) q = mayQ (plainD ts) q := rfl
 rw [ep]
 cases hf : (farI (.agg [.slice ts []]) q != 0) with
 | true => rfl
 | false =>
  cases hm : mayQ (plainD ts) q with
  | false => rfl
  | true =>
   obtain ⟨p1, p2, _, _⟩ := mayQ_parts hm
   by_cases c1 : a < 0
   ·rw [dT c1]; rfl
   by_cases c2 : a >= ((qOcc q).length : Int)
   ·rw [dF c1, show decide (a >= ((elemsD (fieldD q 0)).length : Int)) = true from dT c2]; rfl
   by_cases c3 : b < 0
   ·rw [dF c1, show decide (a >= ((elemsD (fieldD q 0)).length : Int)) = false from dF c2, dT c3]; rfl
   by_cases c4 : b >= (ts.length : Int)
   ·rw [dF c1, show decide (a >= ((elemsD (fieldD q 0)).length : Int)) = false from dF c2, dF c3, dT c4]; rfl
   by_cases c5 : m < 0
   ·rw [dF c1, show decide (a >= ((elemsD (fieldD q 0)).length : Int)) = false from dF c2, dF c3, dF c4, dT c5]; rfl
   obtain ⟨o, rfl⟩ : ∃ o : Nat, a = (o : Int) := ⟨a.toNat, by omega⟩
   obtain ⟨i, rfl⟩ : ∃ i : Nat, b = (i : Int) := ⟨b.toNat, by omega⟩
   have hi : i < ts.length := by omega
   have hd := mayDef_iff.1 ((mayCat_iff.1 p1).2.2 _ (show ts[i] ∈ tabs (plainD ts) from List.getElem_mem hi))
   have er : intD (fieldD (ts.getD ((i : Nat) : Int).toNat .nil) 1) = defR ts[i] := by rw [Int.toNat_natCast, l_get hi]; rfl
   rw [dF c1, show decide ((o : Int) >= ((elemsD (fieldD q 0)).length : Int)) = false from dF c2, dF c3, dF c4, dF c5, l_idx hi, er, l_wrapI (l_in (z := 1000000 - defR ts[i]) (by omega) (by omega))]
   by_cases c6 : m > 1000000 - defR ts[i]
   ·rw [dT c6]; rfl
   rw [dF c6]
   have hw : IntKind.wrap .i64 ((intD (fieldD (ts.getD ((i : Nat) : Int).toNat .nil) 1)) + m) = defR ts[i] + m := by rw [er]; exact l_wrapI (l_in (by omega) (by omega))
   have hle : defR (ts.getD ((i : Nat) : Int).toNat .nil) <= defR ts[i] + m := by rw [Int.toNat_natCast, l_get hi]; omega
   have hmg : mayQ (greatD ts ((i : Nat) : Int).toNat (defR ts[i] + m)) q = true := mayQ_like (fun _ => great_cols hdef) great_len (great_cat hdef p1 (by omega) (by omega)) hm
   have hrows : ∀ o, rowsC (plainD ts) q o <= rowsC (greatD ts ((i : Nat) : Int).toNat (defR ts[i] + m)) q o := fun _ => great_rows hdef hle
   have hrun := bit_loop9 (N := 20) (by omega) hm (show o < (qOcc q).length by omega) hi hw (rowsI_more hrows hm hmg) (groupsI_more hrows hm hmg) 20 0 (by omega) (by have := occ_len9 p2; omega)
   have e0 : bitI 0 = 1 := rfl
   have e1 : (((0 : Nat) : Int)) = 0 := rfl
   rw [e0, e1] at hrun
   rw [show (false == false) = true from rfl, show ((!true) == false) = true from rfl, cond_true, cond_true, cond_true, cond_true, cond_true, cond_true, cond_true, cond_true, cond_false]
   exact hrun

end X
end
end Go.Proofs.YtanjicjomcocmaaDoor
