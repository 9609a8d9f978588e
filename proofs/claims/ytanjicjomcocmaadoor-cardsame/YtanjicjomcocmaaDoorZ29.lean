/- Trees of functions, and lemmas. Nothing here is trusted. -/
import Derived.Test.YtanjicjomcocmaaDoorZ28
import Derived.Test.YtanjicjomcocmaaDoorZ24
namespace Go.Proofs.YtanjicjomcocmaaDoor
namespace X
open Go.Ev
set_option linter.unusedVariables false
set_option maxRecDepth 10000
set_option linter.unusedSimpArgs false

def qrD (o p s u : List D) (b r : Int) : D := .agg [.slice o [], .slice p [], litI b, .slice s [], .slice u [], litI r]
theorem back_loop {N : Nat} {c : D} {o p s u : List D} {b r x2 v8 v9 : Int} {m0 : Nat} (hm : mayQ c (qrD o p s u b r) = true) (hx : 0 <= x2 /\ x2 <= 15) (h8 : v8 = bitI o.length) : ∀ (n k : Nat) (l : List D), k <= p.length -> k < n -> l ++ (p.take k).reverse = p.reverse -> l.length + k <= 6 ->
  t7_lp12 Tryd.prog Tryd.f7 N n c o p s u b r x2 v8 v9 m0 (k : Int) l = some (dat 4 (.lit (.bool true)))
 | 0, k, l, _, h, _, _ => by omega
 | n + 1, 0, l, hk, h, hl, hc => by
  have hl : l = p.reverse := by rw [<- hl]; exact (List.append_nil l).symm
  have ho := occ_len9 (mayQ_parts hm).2.1
  have ho : 1 <= o.length /\ o.length <= 4 := ho
  have hnz : (!(v8 == 0)) = true := by
   rw [h8, Bool.not_eq_true', beq_eq_false_iff_ne]
   have : o.length = 1 \/ o.length = 2 \/ o.length = 3 \/ o.length = 4 := by omega
   rcases this with e | e | e | e <;> rw [e] <;> decide
  have e1 : (rowsI c (qrD o p s u b r) x2 == rowsI c (qrD o p s u b r) (Int.tmod x2 v8)) = true := by
   rw [beq_iff_eq, h8]
   exact (rows_mod hm hx).symm
  have e2 : (rowsI c (qrD o p s u b r) x2 == rowsI c (qrD o l s u b r) x2) = true := by
   rw [beq_iff_eq, hl]
   exact rows_perm (o := .slice o []) (s := .slice s []) (u := .slice u []) (b := litI b) (r := litI r) (List.reverse_perm p) hm
  have e3 : (rowsI c (qrD o p s u b r) 0 == 1) = true := by
   rw [beq_iff_eq]
   exact rows_zero hm
  rw [t7_lp12_step, dF (show ¬ ((0 : Nat) : Int) > 0 by omega), cond_false, hnz, cond_true]
  show (bif ((rowsI c (qrD o p s u b r) x2 == rowsI c (qrD o p s u b r) (Int.tmod x2 v8)) == true) then (bif ((rowsI c (qrD o p s u b r) x2 == rowsI c (qrD o l s u b r) x2) == true) then some (dat 4 (.lit (.bool (rowsI c (qrD o p s u b r) 0 == 1)))) else some (dat 4 (.lit (.bool false)))) else some (dat 4 (.lit (.bool false)))) = _
  rw [e1, e2, e3]
  rfl
 | n + 1, k + 1, l, hk, h, hl, hc => by
  have hlt : k < p.length := by omega
  have hw : IntKind.wrap .i64 (((k + 1 : Nat) : Int) - 1) = (k : Int) := by rw [l_wrapI (l_in (by omega) (by omega))]; omega
  rw [t7_lp12_step, dT (show ((k + 1 : Nat) : Int) > 0 by omega), cond_true, hw, l_idx hlt, cond_true, dT (show l.length + 1 <= 2147483648 by omega), cond_true, Int.toNat_natCast, l_get hlt]
  refine back_loop hm hx h8 n k _ (by omega) (by omega) ?_ (by simp; omega)
  rw [<- hl, List.take_succ_eq_append_getElem hlt, List.reverse_append, List.append_assoc]
  rfl
theorem full_loop {N : Nat} {c : D} {o p s u : List D} {b r x2 : Int} (hm : mayQ c (qrD o p s u b r) = true) (hx : 0 <= x2 /\ x2 <= 15) (hN : 8 <= N) : ∀ (n k : Nat), k <= o.length -> o.length - k < n ->
  t7_lp6 Tryd.prog Tryd.f7 N n c o p s u b r x2 (bitI k) (k : Int) = some (dat 4 (.lit (.bool true)))
 | 0, k, _, h => by omega
 | n + 1, k, hk, h => by
  obtain ⟨_, h2, h6, _⟩ := mayQ_parts hm
  have h6 : p.length <= 6 := h6
  have ho : 1 <= o.length /\ o.length <= 4 := occ_len9 h2
  rw [t7_lp6_step]
  by_cases hlt : k < o.length
  ·have e1 : IntKind.wrap .i64 (2 * bitI k) = bitI (k + 1) := by
    have hk4 : k = 0 \/ k = 1 \/ k = 2 \/ k = 3 := by omega
    rcases hk4 with rfl | rfl | rfl | rfl <;> decide
   rw [l_lt hlt, cond_true, e1, l_wrapI (l_in (by omega) (by omega)), show (k : Int) + 1 = ((k + 1 : Nat) : Int) from rfl]
   exact full_loop hm hx hN n (k + 1) (by omega) (by omega)
  ·rw [l_ge hlt, cond_false]
   exact back_loop hm hx (by rw [show k = o.length by omega]) N p.length [] (Nat.le_refl _) (by omega) (by rw [List.take_of_length_le (Nat.le_refl _), List.nil_append]) (by simp; omega)
theorem k7 : FnOK Tryd.prog 7 Tryd.f7 := ⟨Tryd.func7, rfl, by kernel_rfl⟩
theorem lawSame {n0 n1 n2 : Nat} {c q x : D} (h0 : Ty Tryd.prog n0 28 c) (h1 : Ty Tryd.prog n1 31 q) (h2 : Ty Tryd.prog n2 3 x) : CallOK Tryd.prog 7 [dat 28 c, dat 31 q, dat 3 x] (dat 4 (.lit (.bool true))) := by
 obtain ⟨a, rfl, _⟩ := ty3' h2
 have hform := (tyQ h1).eq
 generalize qOcc q = o at hform
 generalize qP q = p at hform
 generalize qBy q = b at hform
 generalize qSums q = s at hform
 generalize qOut q = u at hform
 generalize qOrd q = r at hform
 subst hform
 refine law_ok (envOK_S envA5 _) k7 ((t7 20 c o p s u b r a).trans ?_)
 have ep : mayQ c (.agg [.slice o [], .slice p [], .lit (.int .i64 b), .slice s [], .slice u [], .lit (.int .i64 r)]) = mayQ c (qrD o p s u b r) := rfl
 rw [ep]
 cases hf : (farI c (.agg [.slice o [], .slice p [], .lit (.int .i64 b), .slice s [], .slice u [], .lit (.int .i64 r)]) != 0) with
 | true => rfl
 | false =>
  cases hm : mayQ c (qrD o p s u b r) with
  | false => rfl
  | true =>
   by_cases c1 : a < 0
   ·rw [dT c1]; rfl
   by_cases c2 : a > 15
   ·rw [dF c1, dT c2]; rfl
   have hrun := full_loop (N := 20) hm (show 0 <= a /\ a <= 15 by omega) (by omega) 20 0 (by omega) (by have := occ_len9 (mayQ_parts hm).2.1; have : o.length <= 4 := this.2; omega)
   have e0 : bitI 0 = 1 := rfl
   have e1 : (((0 : Nat) : Int)) = 0 := rfl
   rw [e0, e1] at hrun
   rw [dF c1, dF c2, show (false == false) = true from rfl, show ((!true) == false) = true from rfl, cond_true, cond_true, cond_true, cond_false]
   exact hrun

end X
end Go.Proofs.YtanjicjomcocmaaDoor
