/- Trees of functions, and lemmas. Nothing here is trusted. -/
import Derived.Test.YtpceahbengfjeaaGreatDoorZ27
import Derived.Test.YtpceahbengfjeaaGreatDoorZ37
namespace Go.Proofs.YtpceahbengfjeaaGreatDoor
open Go.Ev
set_option linter.unusedVariables false
set_option maxRecDepth 10000
set_option linter.unusedSimpArgs false
def e67 : FuncId × TypeId × (List AV -> Bool) × (List AV -> Option D) := (67, 4, yes, ent [28, 28] (f2 fun x y => some (.lit (.bool (iq (ae x) (ae y))))))
theorem k67 : FnOK Tryz.prog 67 Tryz.f67 := ⟨Tryz.func67, rfl, by kernel_rfl⟩
theorem c67 : ∀ args d, e67.2.2.2 args = some d -> CallOK Tryz.prog 67 args (aj Tryz.prog 4 d) :=
 gB k67 fun x y d h ⟨_, hx⟩ ⟨_, hy⟩ => by
  cases h
  rw [nI, nI]
  refine aI hm ZQ k67 ((t67 ((ae x).length + 1) x y).trans ?_)
  rw [m4]
  by_cases hl : (ae x).length = (ae y).length
  ·have e1 : (((ae x).length : Int) != ((ae y).length : Int)) = false := by simp [hl]
   rw [e1, cond_false]
   have := jl (fun n v => EU Tryz.prog Tryz.f67 ((ae x).length + 1) n x y v) (ae x).length (fun i => !(intD ((ae x).getD i .nil) == intD ((ae y).getD i .nil))) (some (dat 4 (.lit (.bool false)))) (some (dat 4 (.lit (.bool true))))
    (fun n i hi => by
     rw [zu, bG hi, eQ hi, bG (by omega : i < (ae y).length), cond_true, cond_true, cond_true, fB (Vp hx) hi, Int.toNat_natCast]
     rfl)
    (fun n => by rw [zu, eX (by omega), cond_false]) ((ae x).length + 1) 0 (Nat.zero_le _) (by omega)
   refine this.trans ?_
   have h2 := LX intD (ae x) (ae y) hl
   show _ = some (dat 4 (.lit (.bool (iq (ae x) (ae y)))))
   unfold iq
   rw [<- h2, Nat.sub_zero]
   cases (List.range' 0 (ae x).length).any _ <;> rfl
  ·have e1 : (((ae x).length : Int) != ((ae y).length : Int)) = true := by simp; omega
   rw [e1, cond_true]
   have : iq (ae x) (ae y) = false := by
    unfold iq
    rw [beq_eq_false_iff_ne]
    intro hh
    exact hl (by simpa using congrArg List.length hh)
   show _ = some (dat 4 (.lit (.bool (iq (ae x) (ae y)))))
   rw [this]
def lu (x : D) : Bool := decide ((aK x).length <= 1000000) && (aK x).all fun r => decide ((ae r).length <= 1000000)
theorem wH {x : D} : lu x = true ↔ (aK x).length <= 1000000 /\ ∀ r ∈ aK x, (ae r).length <= 1000000 := by
 unfold lu
 simp only [Bool.and_eq_true, decide_eq_true_eq, List.all_eq_true]
def ja (x y : D) : Bool := TF (iq (aQ x) (aQ y)) x y
def e25 : FuncId × TypeId × (List AV -> Bool) × (List AV -> Option D) := (25, 4, jS (q2 fun x y => lu x && lu y), ent [37, 37] (f2 fun x y => some (.lit (.bool (ja x y)))))
theorem k25 : FnOK Tryz.prog 25 Tryz.f25 := ⟨Tryz.func25, rfl, by kernel_rfl⟩
theorem c25 : ∀ args d, e25.2.2.1 args = true -> e25.2.2.2 args = some d -> CallOK Tryz.prog 25 args (aj Tryz.prog 4 d) :=
 qL k25 fun x y d hq h ⟨_, hx⟩ ⟨_, hy⟩ => by
  cases h
  rw [nB, nB, m4]
  rw [Bool.and_eq_true, wH, wH] at hq
  have hE : CallOK Tryz.prog 67 [dat 28 (af x 0), dat 28 (af y 0)] (aj Tryz.prog 4 (.lit (.bool (iq (ae (af x 0)) (ae (af y 0)))))) := c67 _ _ rfl
  rw [m4] at hE
  exact Yz hE hq.1.1 hq.2.1 hq.1.2 hq.2.2
theorem Ce : ∀ (l : List (List UInt8)) (f : List UInt8 -> Nat), (∀ key, l.count key <= f key) -> Ig f l = true
 | [], f, _ => rfl
 | k :: l, f, h => by
  have h0 := h k
  rw [List.count_cons_self] at h0
  show (if f k = 0 then false else Ig (fun x => if x = k then f k - 1 else f x) l) = true
  rw [if_neg (by omega)]
  refine Ce l _ fun key => ?_
  show _ <= (if key = k then f k - 1 else f key)
  by_cases hk : key = k
  ·subst hk; rw [if_pos rfl]; omega
  ·rw [if_neg hk]
   have := h key
   rw [List.count_cons_of_ne (Ne.symm hk)] at this
   exact this
theorem Ui {x y : D} (hc : iq (aQ x) (aQ y) = true) (h : (aK x).Perm (aK y)) : ja x y = true := by
 unfold ja TF
 rw [hc, Bool.true_and, decide_eq_true (show (jf x).length = (jf y).length from h.length_eq), Bool.true_and]
 refine Ce _ _ fun key => ?_
 exact Nat.le_of_eq ((h.map txt).count_eq key).symm
end Go.Proofs.YtpceahbengfjeaaGreatDoor
