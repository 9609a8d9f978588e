/- What the evaluator comes to, function by function: by the kernel. Nothing here is trusted. -/
import Derived.Test.YtmopepjahjmdeaaGreatBA
import Derived.Test.YtmopepjahjmdeaaGreatVC
import Derived.Test.YtmopepjahjmdeaaGreatVGr
namespace Go.Proofs.YtmopepjahjmdeaaGreat
open Go.Ev
set_option linter.unusedVariables false
/- roadbook/bag.meet$1 -/
def t56_h : Hints := fun _ =>  none
theorem t56 (N : Nat) (x0 : Int) (q : D) : evFnH Tryz.prog (envR B2 [] [] []) t56_h N Tryz.f56 [dat 3 (.lit (.int .i64 x0)), bxp 1000000 22] [⟨22, q, 0, none⟩] =
  some (dat 4 (.lit (.bool (hasB (elemsD q) x0))), [some ⟨22, q, 0, none⟩]) := by kernel_rfl

end Go.Proofs.YtmopepjahjmdeaaGreat

namespace Go.Proofs.YtmopepjahjmdeaaGreat
open Go.Ev
set_option linter.unusedVariables false
set_option maxRecDepth 10000

def a56 : List AV := [dat 3 .nil, bxp OID 22]
def b56 : List Ent := [⟨22, .nil, 0, none⟩]
def g56 (ds hs : List D) : Option D := match ds, hs with
  | [x, _], [q] => some (.lit (.bool (hasB (elemsD q) (intD x))))
  | _, _ => none
def r56 : FuncId × TypeId × (List AV → List Ent → Bool) × (List AV → List Ent → Option D) := (56, 4, preH a56 b56 (fun _ _ => true), entR a56 b56 g56)
theorem k56 : FnOK Tryz.prog 56 Tryz.f56 := ⟨Tryz.func56, rfl, by kernel_rfl⟩
theorem r56_ok : ∀ args hp d, preH a56 b56 (fun _ _ => true) args hp = true → entR a56 b56 g56 args hp = some d → HCallOK Tryz.prog 56 args hp (mkRes Tryz.prog 4 d) (hp.map some) := by
  refine entR_ok rfl rfl fun ds es d _ hd => ?_
  unfold g56 at hd
  split at hd
  · rename_i x z q
    cases hd
    refine HCallOK.typed k56.ex fun ht _ => ?_
    obtain ⟨n, hn⟩ := ht (dat 3 x) (by simp [fillA, a56, dat, bxp]) rfl
    obtain ⟨w, rfl, _⟩ := ty3' hn
    rw [m4]
    exact fnH_ok hm envB2 k56 (t56 1 w q)
  · cases hd
def RM : RTab := [r56]
theorem envRM : EnvOK Tryz.prog (envR B2 [] RM []) := envOK_consR envB2 r56_ok

end Go.Proofs.YtmopepjahjmdeaaGreat

namespace Go.Proofs.YtmopepjahjmdeaaGreat
open Go.Ev
set_option linter.unusedVariables false
/- slices.IndexFunc[[]int,int] -/
def t81_h : Hints := fun i => if i = 2 then some ([2, 3, 4, 5, 6, 9, 10, 11, 12, 13, 14, 15, 16, 17, 18], [1000000], []) else none
def t81_lp2 (P : Program) (fn : Func) (N n : Nat) (x0 : D) (q : D) (v8 : Int) : Option (AV × List (Option Ent)) := evLoop (preL t81_h (sub [1, 0, 1, 0, 0] (bodyOf fn))) (evCode P (envR B2 [] RM []) t81_h N (sub [1, 0, 1, 0, 0] (bodyOf fn))) n ⟨[dat 22 x0, clo 82 56 [1000000], dead, dead, dead, dead, dead, dat 3 (.lit (.int .i64 ((elemsD x0).length : Int))), dat 3 (.lit (.int .i64 v8)), dead, dead, dead, dead, dead, dead, dead, dead, dead, dead], lookB [(1000000, some ⟨22, q, 0, none⟩)]⟩ (blockK 0 (seqC P (envR B2 [] RM []) t81_h N (sub [1, 1] (bodyOf fn)) (finH P fn 1) ))
theorem t81_lp2_step  (N n : Nat) (x0 : D) (q : D) (v8 : Int) : t81_lp2 Tryz.prog Tryz.f81 N (n + 1) x0 q v8 =
  bif decide (v8 < ((elemsD x0).length : Int)) then
    bif (decide (0 ≤ v8) && decide (v8 < ((elemsD x0).length : Int))) then
      bif hasB (elemsD q) (intD ((elemsD x0).getD (v8).toNat .nil)) then
        some (dat 3 (.lit (.int .i64 v8)), [some ⟨22, q, 0, none⟩])
      else t81_lp2 Tryz.prog Tryz.f81 N n x0 q (IntKind.wrap .i64 (v8 + 1))
    else none
  else some (dat 3 (.lit (.int .i64 (-1))), [some ⟨22, q, 0, none⟩]) := by kernel_rfl
theorem t81 (N : Nat) (x0 : D) (q : D) : evFnH Tryz.prog (envR B2 [] RM []) t81_h N Tryz.f81 [dat 22 x0, clo 82 56 [1000000]] [⟨22, q, 0, none⟩] =
  t81_lp2 Tryz.prog Tryz.f81 N N x0 q 0 := by kernel_rfl

end Go.Proofs.YtmopepjahjmdeaaGreat

namespace Go.Proofs.YtmopepjahjmdeaaGreat
open Go.Ev
set_option linter.unusedVariables false
set_option maxRecDepth 10000

theorem ixf_loop {N : Nat} {x0 q : D} (hl : (elemsD x0).length ≤ maxLen) : ∀ (n i : Nat), i ≤ (elemsD x0).length → (elemsD x0).length - i < n →
    t81_lp2 Tryz.prog Tryz.f81 N n x0 q (i : Int) = some (dat 3 (.lit (.int .i64 (ixFrom (elemsD q) ((elemsD x0).drop i) i))), [some ⟨22, q, 0, none⟩])
  | 0, i, _, h => by omega
  | n + 1, i, hi, h => by
    rw [t81_lp2_step]
    by_cases hlt : i < (elemsD x0).length
    · rw [l_idx hlt, l_lt hlt, cond_true, cond_true, Int.toNat_natCast, l_get hlt, l_wrap hl hlt, ixf_loop hl n (i + 1) (by omega) (by omega), List.drop_eq_getElem_cons hlt]
      have e1 : ixFrom (elemsD q) ((elemsD x0)[i] :: (elemsD x0).drop (i + 1)) i = bif hasB (elemsD q) (intD (elemsD x0)[i]) then (i : Int) else ixFrom (elemsD q) ((elemsD x0).drop (i + 1)) (i + 1) := rfl
      rw [e1]
      cases hasB (elemsD q) (intD (elemsD x0)[i]) <;> rfl
    · rw [l_ge hlt, cond_false, List.drop_of_length_le (by omega)]
      rfl
def a81 : List AV := [dat 22 .nil, clo 82 56 [OID]]
def g81 (ds hs : List D) : Option (AV × List (Option Ent)) := match ds, hs with
  | [x, _], [q] => some (dat 3 (.lit (.int .i64 (ixFrom (elemsD q) (elemsD x) 0))), [some ⟨22, q, 0, none⟩])
  | _, _ => none
def h81 : FuncId × TypeId × (List AV → List Ent → Bool) × (List AV → List Ent → Option (AV × List (Option Ent))) := (81, 3, preH a81 b56 (fun _ _ => true), entH a81 b56 g81)
theorem k81 : FnOK Tryz.prog 81 Tryz.f81 := ⟨Tryz.func81, rfl, by kernel_rfl⟩
theorem c81 : ∀ args hh r h', preH a81 b56 (fun _ _ => true) args hh = true → entH a81 b56 g81 args hh = some (r, h') → HCallOK Tryz.prog 81 args hh r h' := by
  refine entH_ok rfl rfl fun ds es r h' _ hd => ?_
  unfold g81 at hd
  split at hd
  · rename_i x z q
    cases hd
    refine HCallOK.typedR k81.ex fun ht hb _ => ?_
    obtain ⟨_, t1⟩ := ht (dat 22 x) (by simp [fillA, a81, dat, clo]) rfl
    have hl : (elemsD x).length ≤ maxLen := lenI t1
    exact fnH_ok hm envRM k81 ((t81 ((elemsD x).length + 1) x q).trans (ixf_loop hl ((elemsD x).length + 1) 0 (Nat.zero_le _) (by omega)))
  · cases hd
def HM1 : HTab := [h81]
theorem envHM1 : EnvOK Tryz.prog (envR B2 HM1 RM []) := envOK_consH envRM c81

end Go.Proofs.YtmopepjahjmdeaaGreat

namespace Go.Proofs.YtmopepjahjmdeaaGreat
open Go.Ev
set_option linter.unusedVariables false
/- slices.ContainsFunc[[]int,int] -/
def t55_h : Hints := fun _ =>  none
theorem t55 (N : Nat) (x0 : D) (q : D) : evFnH Tryz.prog (envR B2 HM1 RM []) t55_h N Tryz.f55 [dat 22 x0, clo 82 56 [1000000]] [⟨22, q, 0, none⟩] =
  some (dat 4 (.lit (.bool (decide ((ixFrom (elemsD q) (elemsD x0) 0) ≥ 0)))), [some ⟨22, q, 0, none⟩]) := by kernel_rfl

end Go.Proofs.YtmopepjahjmdeaaGreat

namespace Go.Proofs.YtmopepjahjmdeaaGreat
open Go.Ev
set_option linter.unusedVariables false
set_option maxRecDepth 10000

def g55 (ds hs : List D) : Option (AV × List (Option Ent)) := match ds, hs with
  | [x, _], [q] => some (dat 4 (.lit (.bool (meetB (elemsD q) (elemsD x)))), [some ⟨22, q, 0, none⟩])
  | _, _ => none
def h55 : FuncId × TypeId × (List AV → List Ent → Bool) × (List AV → List Ent → Option (AV × List (Option Ent))) := (55, 4, preH a81 b56 (fun _ _ => true), entH a81 b56 g55)
theorem k55 : FnOK Tryz.prog 55 Tryz.f55 := ⟨Tryz.func55, rfl, by kernel_rfl⟩
theorem c55 : ∀ args hh r h', preH a81 b56 (fun _ _ => true) args hh = true → entH a81 b56 g55 args hh = some (r, h') → HCallOK Tryz.prog 55 args hh r h' := by
  refine entH_ok rfl rfl fun ds es r h' _ hd => ?_
  unfold g55 at hd
  split at hd
  · rename_i x z q
    cases hd
    have := t55 1 x q
    rw [ix_meet] at this
    exact fnH_ok hm envHM1 k55 this
  · cases hd
def HM2 : HTab := [h81, h55]
theorem envHM2 : EnvOK Tryz.prog (envR B2 HM2 RM []) := envOK_consH (envOK_consH envRM c55) c81

end Go.Proofs.YtmopepjahjmdeaaGreat

namespace Go.Proofs.YtmopepjahjmdeaaGreat
open Go.Ev
set_option linter.unusedVariables false
/- roadbook/bag.meet -/
def t30_h : Hints := fun _ =>  none
theorem t30 (N : Nat) (x0 : D) (x1 : D) : evFn Tryz.prog (envR B2 HM2 RM []) t30_h N Tryz.f30 [dat 22 x0, dat 22 x1] =
  some (dat 4 (.lit (.bool (meetB (elemsD x0) (elemsD x1))))) := by kernel_rfl

end Go.Proofs.YtmopepjahjmdeaaGreat

namespace Go.Proofs.YtmopepjahjmdeaaGreat
open Go.Ev
set_option linter.unusedVariables false
set_option maxRecDepth 10000

def e30 : FuncId × TypeId × (List AV → Bool) × (List AV → Option D) := (30, 4, yes, ent [22, 22] (f2 fun x y => some (.lit (.bool (meetB (elemsD x) (elemsD y))))))
theorem k30 : FnOK Tryz.prog 30 Tryz.f30 := ⟨Tryz.func30, rfl, by kernel_rfl⟩
theorem c30 : ∀ args d, e30.2.2.2 args = some d → CallOK Tryz.prog 30 args (mkRes Tryz.prog 4 d) :=
  ent2 k30 fun x y d h _ _ => by
    cases h
    rw [nI, nI]
    refine fn_ok hm envHM2 k30 ((t30 1 x y).trans ?_)
    rw [m4]
    rfl

def renV : Go.Shelf.Ren := ⟨fun | 4 => 57 | n => n, fun | 22 => 46 | 25 => 34 | n => n, fun | n => n⟩
def renI : Go.Shelf.Ren := ⟨fun | 4 => 58 | n => n, fun | 22 => 22 | 25 => 3 | n => n, fun | n => n⟩
theorem laysV : Go.Proofs.Lays8.n4 Tryz.prog renV := {
  mixed := hm
  f4 := ⟨Tryz.f57.name, by kernel_rfl, Tryz.func57.trans (congrArg some (by kernel_rfl))⟩
  t0 := Tryz.underlying0
  a0 := Tryz.isAgg0
  z0 := Tryz.sizeOf0
  v0 := Tryz.zeroValue0
  t3 := Tryz.underlying3
  a3 := Tryz.isAgg3
  z3 := Tryz.sizeOf3
  v3 := Tryz.zeroValue3
  t4 := Tryz.underlying4
  a4 := Tryz.isAgg4
  z4 := Tryz.sizeOf4
  v4 := Tryz.zeroValue4
  t9 := Tryz.underlying9
  a9 := Tryz.isAgg9
  z9 := Tryz.sizeOf9
  v9 := Tryz.zeroValue9
  t20 := Tryz.underlying20
  a20 := Tryz.isAgg20
  z20 := Tryz.sizeOf20
  v20 := Tryz.zeroValue20
  t22 := Tryz.underlying46
  a22 := Tryz.isAgg46
  z22 := Tryz.sizeOf46
  v22 := Tryz.zeroValue46 }
theorem laysI : Go.Proofs.Lays8.n4 Tryz.prog renI := {
  mixed := hm
  f4 := ⟨Tryz.f58.name, by kernel_rfl, Tryz.func58.trans (congrArg some (by kernel_rfl))⟩
  t0 := Tryz.underlying0
  a0 := Tryz.isAgg0
  z0 := Tryz.sizeOf0
  v0 := Tryz.zeroValue0
  t3 := Tryz.underlying3
  a3 := Tryz.isAgg3
  z3 := Tryz.sizeOf3
  v3 := Tryz.zeroValue3
  t4 := Tryz.underlying4
  a4 := Tryz.isAgg4
  z4 := Tryz.sizeOf4
  v4 := Tryz.zeroValue4
  t9 := Tryz.underlying9
  a9 := Tryz.isAgg9
  z9 := Tryz.sizeOf9
  v9 := Tryz.zeroValue9
  t20 := Tryz.underlying20
  a20 := Tryz.isAgg20
  z20 := Tryz.sizeOf20
  v20 := Tryz.zeroValue20
  t22 := Tryz.underlying22
  a22 := Tryz.isAgg22
  z22 := Tryz.sizeOf22
  v22 := Tryz.zeroValue22 }
theorem sliceV : sliceOf Tryz.prog 46 = some 34 := by kernel_rfl
theorem sliceI : sliceOf Tryz.prog 22 = some 3 := by kernel_rfl
theorem preG_inv {t : TypeId} {q : Int → Bool} {ys : List AV} (h : preG t q ys = true) : ∃ x y, ys = [x, y] ∧ x.ix = 2 ∧ y.ty = t ∧ q (intD y.d) = true := by
  match ys, h with
  | [x, y], h =>
    unfold preG at h
    rw [Bool.and_eq_true, Bool.and_eq_true, beq_iff_eq, beq_iff_eq] at h
    exact ⟨x, y, rfl, h.1, h.2.1, h.2.2⟩
theorem growV_p : ∀ args k d, preG 3 growP args = true → (some (2, (.slice [] [] : D)) : Option (Nat × D)) = some (k, d) → FCallOK Tryz.prog 57 args 46 k d := by
  intro args k d hp hd
  cases hd
  obtain ⟨x, y, rfl, h1, h2, h3⟩ := preG_inv hp
  unfold growP at h3
  rw [Bool.and_eq_true, decide_eq_true_eq, decide_eq_true_eq] at h3
  exact grow_own laysV sliceV h1 (by rw [h2]; exact u3) h3.1 h3.2
theorem growI_p : ∀ args k d, preG 3 growP args = true → (some (2, (.slice [] [] : D)) : Option (Nat × D)) = some (k, d) → FCallOK Tryz.prog 58 args 22 k d := by
  intro args k d hp hd
  cases hd
  obtain ⟨x, y, rfl, h1, h2, h3⟩ := preG_inv hp
  unfold growP at h3
  rw [Bool.and_eq_true, decide_eq_true_eq, decide_eq_true_eq] at h3
  exact grow_own laysI sliceI h1 (by rw [h2]; exact u3) h3.1 h3.2
theorem growV_z : ∀ args k d, preG 3 growZ args = true → (some (1, (.slice [] [] : D)) : Option (Nat × D)) = some (k, d) → FCallOK Tryz.prog 57 args 46 k d := by
  intro args k d hp hd
  cases hd
  obtain ⟨x, y, rfl, h1, h2, h3⟩ := preG_inv hp
  unfold growZ at h3
  rw [beq_iff_eq] at h3
  exact grow_nil laysV sliceV h1 (by rw [h2]; exact u3) h3
theorem growI_z : ∀ args k d, preG 3 growZ args = true → (some (1, (.slice [] [] : D)) : Option (Nat × D)) = some (k, d) → FCallOK Tryz.prog 58 args 22 k d := by
  intro args k d hp hd
  cases hd
  obtain ⟨x, y, rfl, h1, h2, h3⟩ := preG_inv hp
  unfold growZ at h3
  rw [beq_iff_eq] at h3
  exact grow_nil laysI sliceI h1 (by rw [h2]; exact u3) h3
def FGP : FTab := [(57, 46, preG 3 growP, fun _ => some (2, .slice [] [])), (58, 22, preG 3 growP, fun _ => some (2, .slice [] []))]
def FGZ : FTab := [(57, 46, preG 3 growZ, fun _ => some (1, .slice [] [])), (58, 22, preG 3 growZ, fun _ => some (1, .slice [] []))]
theorem envFP : EnvOK Tryz.prog (envR B2 [] [] FGP) := envOK_consF (envOK_consF envB2 growI_p) growV_p
theorem envFZ : EnvOK Tryz.prog (envR B2 [] [] FGZ) := envOK_consF (envOK_consF envB2 growI_z) growV_z

end Go.Proofs.YtmopepjahjmdeaaGreat
