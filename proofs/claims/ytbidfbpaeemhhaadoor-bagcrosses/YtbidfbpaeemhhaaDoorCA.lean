/- What the evaluator comes to, function by function: by the kernel. Nothing here is trusted. -/
import Derived.Test.YtbidfbpaeemhhaaDoorBA
import Derived.Test.YtbidfbpaeemhhaaDoorV3
import Derived.Test.YtbidfbpaeemhhaaDoorVGr
namespace Go.Proofs.YtbidfbpaeemhhaaDoor
open Go.Ev
set_option linter.unusedVariables false
/- roadbook/bag.meet$1 -/
def t48_h : Hints := fun _ =>  none
theorem t48 (N : Nat) (x0 : Int) (q : D) : evFnH Tryd.prog (envR B2 [] [] []) t48_h N Tryd.f48 [dat 3 (.lit (.int .i64 x0)), bxp 1000000 22] [⟨22, q, 0, none⟩] =
  some (dat 4 (.lit (.bool (hasB (elemsD q) x0))), [some ⟨22, q, 0, none⟩]) := by kernel_rfl

end Go.Proofs.YtbidfbpaeemhhaaDoor

namespace Go.Proofs.YtbidfbpaeemhhaaDoor
open Go.Ev
set_option linter.unusedVariables false
set_option maxRecDepth 10000

def a48 : List AV := [dat 3 .nil, bxp OID 22]
def b48 : List Ent := [⟨22, .nil, 0, none⟩]
def g48 (ds hs : List D) : Option D := match ds, hs with
  | [x, _], [q] => some (.lit (.bool (hasB (elemsD q) (intD x))))
  | _, _ => none
def r48 : FuncId × TypeId × (List AV → List Ent → Bool) × (List AV → List Ent → Option D) := (48, 4, preH a48 b48 (fun _ _ => true), entR a48 b48 g48)
theorem k48 : FnOK Tryd.prog 48 Tryd.f48 := ⟨Tryd.func48, rfl, by kernel_rfl⟩
theorem r48_ok : ∀ args hp d, preH a48 b48 (fun _ _ => true) args hp = true → entR a48 b48 g48 args hp = some d → HCallOK Tryd.prog 48 args hp (mkRes Tryd.prog 4 d) (hp.map some) := by
  refine entR_ok rfl rfl fun ds es d _ hd => ?_
  unfold g48 at hd
  split at hd
  · rename_i x z q
    cases hd
    refine HCallOK.typed k48.ex fun ht _ => ?_
    obtain ⟨n, hn⟩ := ht (dat 3 x) (by simp [fillA, a48, dat, bxp]) rfl
    obtain ⟨w, rfl, _⟩ := ty3' hn
    rw [m4]
    exact fnH_ok hm envB2 k48 (t48 1 w q)
  · cases hd
def RM : RTab := [r48]
theorem envRM : EnvOK Tryd.prog (envR B2 [] RM []) := envOK_consR envB2 r48_ok

end Go.Proofs.YtbidfbpaeemhhaaDoor

namespace Go.Proofs.YtbidfbpaeemhhaaDoor
open Go.Ev
set_option linter.unusedVariables false
/- slices.IndexFunc[[]int,int] -/
def t58_h : Hints := fun i => if i = 2 then some ([2, 3, 4, 5, 6, 9, 10, 11, 12, 13, 14, 15, 16, 17, 18], [1000000], []) else none
def t58_lp2 (P : Program) (fn : Func) (N n : Nat) (x0 : D) (q : D) (v8 : Int) : Option (AV × List (Option Ent)) := evLoop (preL t58_h (sub [1, 0, 1, 0, 0] (bodyOf fn))) (evCode P (envR B2 [] RM []) t58_h N (sub [1, 0, 1, 0, 0] (bodyOf fn))) n ⟨[dat 22 x0, clo 75 48 [1000000], dead, dead, dead, dead, dead, dat 3 (.lit (.int .i64 ((elemsD x0).length : Int))), dat 3 (.lit (.int .i64 v8)), dead, dead, dead, dead, dead, dead, dead, dead, dead, dead], lookB [(1000000, some ⟨22, q, 0, none⟩)]⟩ (blockK 0 (seqC P (envR B2 [] RM []) t58_h N (sub [1, 1] (bodyOf fn)) (finH P fn 1) ))
theorem t58_lp2_step  (N n : Nat) (x0 : D) (q : D) (v8 : Int) : t58_lp2 Tryd.prog Tryd.f58 N (n + 1) x0 q v8 =
  bif decide (v8 < ((elemsD x0).length : Int)) then
    bif (decide (0 ≤ v8) && decide (v8 < ((elemsD x0).length : Int))) then
      bif hasB (elemsD q) (intD ((elemsD x0).getD (v8).toNat .nil)) then
        some (dat 3 (.lit (.int .i64 v8)), [some ⟨22, q, 0, none⟩])
      else t58_lp2 Tryd.prog Tryd.f58 N n x0 q (IntKind.wrap .i64 (v8 + 1))
    else none
  else some (dat 3 (.lit (.int .i64 (-1))), [some ⟨22, q, 0, none⟩]) := by kernel_rfl
theorem t58 (N : Nat) (x0 : D) (q : D) : evFnH Tryd.prog (envR B2 [] RM []) t58_h N Tryd.f58 [dat 22 x0, clo 75 48 [1000000]] [⟨22, q, 0, none⟩] =
  t58_lp2 Tryd.prog Tryd.f58 N N x0 q 0 := by kernel_rfl

end Go.Proofs.YtbidfbpaeemhhaaDoor

namespace Go.Proofs.YtbidfbpaeemhhaaDoor
open Go.Ev
set_option linter.unusedVariables false
set_option maxRecDepth 10000

theorem ixf_loop {N : Nat} {x0 q : D} (hl : (elemsD x0).length ≤ maxLen) : ∀ (n i : Nat), i ≤ (elemsD x0).length → (elemsD x0).length - i < n →
    t58_lp2 Tryd.prog Tryd.f58 N n x0 q (i : Int) = some (dat 3 (.lit (.int .i64 (ixFrom (elemsD q) ((elemsD x0).drop i) i))), [some ⟨22, q, 0, none⟩])
  | 0, i, _, h => by omega
  | n + 1, i, hi, h => by
    rw [t58_lp2_step]
    by_cases hlt : i < (elemsD x0).length
    · rw [l_idx hlt, l_lt hlt, cond_true, cond_true, Int.toNat_natCast, l_get hlt, l_wrap hl hlt, ixf_loop hl n (i + 1) (by omega) (by omega), List.drop_eq_getElem_cons hlt]
      have e1 : ixFrom (elemsD q) ((elemsD x0)[i] :: (elemsD x0).drop (i + 1)) i = bif hasB (elemsD q) (intD (elemsD x0)[i]) then (i : Int) else ixFrom (elemsD q) ((elemsD x0).drop (i + 1)) (i + 1) := rfl
      rw [e1]
      cases hasB (elemsD q) (intD (elemsD x0)[i]) <;> rfl
    · rw [l_ge hlt, cond_false, List.drop_of_length_le (by omega)]
      rfl
def a58 : List AV := [dat 22 .nil, clo 75 48 [OID]]
def g58 (ds hs : List D) : Option (AV × List (Option Ent)) := match ds, hs with
  | [x, _], [q] => some (dat 3 (.lit (.int .i64 (ixFrom (elemsD q) (elemsD x) 0))), [some ⟨22, q, 0, none⟩])
  | _, _ => none
def h58 : FuncId × TypeId × (List AV → List Ent → Bool) × (List AV → List Ent → Option (AV × List (Option Ent))) := (58, 3, preH a58 b48 (fun _ _ => true), entH a58 b48 g58)
theorem k58 : FnOK Tryd.prog 58 Tryd.f58 := ⟨Tryd.func58, rfl, by kernel_rfl⟩
theorem c58 : ∀ args hh r h', preH a58 b48 (fun _ _ => true) args hh = true → entH a58 b48 g58 args hh = some (r, h') → HCallOK Tryd.prog 58 args hh r h' := by
  refine entH_ok rfl rfl fun ds es r h' _ hd => ?_
  unfold g58 at hd
  split at hd
  · rename_i x z q
    cases hd
    refine HCallOK.typedR k58.ex fun ht hb _ => ?_
    obtain ⟨_, t1⟩ := ht (dat 22 x) (by simp [fillA, a58, dat, clo]) rfl
    have hl : (elemsD x).length ≤ maxLen := lenI t1
    exact fnH_ok hm envRM k58 ((t58 ((elemsD x).length + 1) x q).trans (ixf_loop hl ((elemsD x).length + 1) 0 (Nat.zero_le _) (by omega)))
  · cases hd
def HM1 : HTab := [h58]
theorem envHM1 : EnvOK Tryd.prog (envR B2 HM1 RM []) := envOK_consH envRM c58

end Go.Proofs.YtbidfbpaeemhhaaDoor

namespace Go.Proofs.YtbidfbpaeemhhaaDoor
open Go.Ev
set_option linter.unusedVariables false
/- slices.ContainsFunc[[]int,int] -/
def t47_h : Hints := fun _ =>  none
theorem t47 (N : Nat) (x0 : D) (q : D) : evFnH Tryd.prog (envR B2 HM1 RM []) t47_h N Tryd.f47 [dat 22 x0, clo 75 48 [1000000]] [⟨22, q, 0, none⟩] =
  some (dat 4 (.lit (.bool (decide ((ixFrom (elemsD q) (elemsD x0) 0) ≥ 0)))), [some ⟨22, q, 0, none⟩]) := by kernel_rfl

end Go.Proofs.YtbidfbpaeemhhaaDoor

namespace Go.Proofs.YtbidfbpaeemhhaaDoor
open Go.Ev
set_option linter.unusedVariables false
set_option maxRecDepth 10000

def g47 (ds hs : List D) : Option (AV × List (Option Ent)) := match ds, hs with
  | [x, _], [q] => some (dat 4 (.lit (.bool (meetB (elemsD q) (elemsD x)))), [some ⟨22, q, 0, none⟩])
  | _, _ => none
def h47 : FuncId × TypeId × (List AV → List Ent → Bool) × (List AV → List Ent → Option (AV × List (Option Ent))) := (47, 4, preH a58 b48 (fun _ _ => true), entH a58 b48 g47)
theorem k47 : FnOK Tryd.prog 47 Tryd.f47 := ⟨Tryd.func47, rfl, by kernel_rfl⟩
theorem c47 : ∀ args hh r h', preH a58 b48 (fun _ _ => true) args hh = true → entH a58 b48 g47 args hh = some (r, h') → HCallOK Tryd.prog 47 args hh r h' := by
  refine entH_ok rfl rfl fun ds es r h' _ hd => ?_
  unfold g47 at hd
  split at hd
  · rename_i x z q
    cases hd
    have := t47 1 x q
    rw [ix_meet] at this
    exact fnH_ok hm envHM1 k47 this
  · cases hd
def HM2 : HTab := [h58, h47]
theorem envHM2 : EnvOK Tryd.prog (envR B2 HM2 RM []) := envOK_consH (envOK_consH envRM c47) c58

end Go.Proofs.YtbidfbpaeemhhaaDoor

namespace Go.Proofs.YtbidfbpaeemhhaaDoor
open Go.Ev
set_option linter.unusedVariables false
/- roadbook/bag.meet -/
def t31_h : Hints := fun _ =>  none
theorem t31 (N : Nat) (x0 : D) (x1 : D) : evFn Tryd.prog (envR B2 HM2 RM []) t31_h N Tryd.f31 [dat 22 x0, dat 22 x1] =
  some (dat 4 (.lit (.bool (meetB (elemsD x0) (elemsD x1))))) := by kernel_rfl

end Go.Proofs.YtbidfbpaeemhhaaDoor

namespace Go.Proofs.YtbidfbpaeemhhaaDoor
open Go.Ev
set_option linter.unusedVariables false
set_option maxRecDepth 10000

def e31 : FuncId × TypeId × (List AV → Bool) × (List AV → Option D) := (31, 4, yes, ent [22, 22] (f2 fun x y => some (.lit (.bool (meetB (elemsD x) (elemsD y))))))
theorem k31 : FnOK Tryd.prog 31 Tryd.f31 := ⟨Tryd.func31, rfl, by kernel_rfl⟩
theorem c31 : ∀ args d, e31.2.2.2 args = some d → CallOK Tryd.prog 31 args (mkRes Tryd.prog 4 d) :=
  ent2 k31 fun x y d h _ _ => by
    cases h
    rw [nI, nI]
    refine fn_ok hm envHM2 k31 ((t31 1 x y).trans ?_)
    rw [m4]
    rfl

def renV : Go.Shelf.Ren := ⟨fun | 4 => 49 | n => n, fun | 22 => 34 | 25 => 39 | n => n, fun | n => n⟩
def renI : Go.Shelf.Ren := ⟨fun | 4 => 50 | n => n, fun | 22 => 22 | 25 => 3 | n => n, fun | n => n⟩
theorem laysV : Go.Proofs.Lays8.n4 Tryd.prog renV := {
  mixed := hm
  f4 := ⟨Tryd.f49.name, by kernel_rfl, Tryd.func49.trans (congrArg some (by kernel_rfl))⟩
  t0 := Tryd.underlying0
  a0 := Tryd.isAgg0
  z0 := Tryd.sizeOf0
  v0 := Tryd.zeroValue0
  t3 := Tryd.underlying3
  a3 := Tryd.isAgg3
  z3 := Tryd.sizeOf3
  v3 := Tryd.zeroValue3
  t4 := Tryd.underlying4
  a4 := Tryd.isAgg4
  z4 := Tryd.sizeOf4
  v4 := Tryd.zeroValue4
  t9 := Tryd.underlying9
  a9 := Tryd.isAgg9
  z9 := Tryd.sizeOf9
  v9 := Tryd.zeroValue9
  t20 := Tryd.underlying20
  a20 := Tryd.isAgg20
  z20 := Tryd.sizeOf20
  v20 := Tryd.zeroValue20
  t22 := Tryd.underlying34
  a22 := Tryd.isAgg34
  z22 := Tryd.sizeOf34
  v22 := Tryd.zeroValue34 }
theorem laysI : Go.Proofs.Lays8.n4 Tryd.prog renI := {
  mixed := hm
  f4 := ⟨Tryd.f50.name, by kernel_rfl, Tryd.func50.trans (congrArg some (by kernel_rfl))⟩
  t0 := Tryd.underlying0
  a0 := Tryd.isAgg0
  z0 := Tryd.sizeOf0
  v0 := Tryd.zeroValue0
  t3 := Tryd.underlying3
  a3 := Tryd.isAgg3
  z3 := Tryd.sizeOf3
  v3 := Tryd.zeroValue3
  t4 := Tryd.underlying4
  a4 := Tryd.isAgg4
  z4 := Tryd.sizeOf4
  v4 := Tryd.zeroValue4
  t9 := Tryd.underlying9
  a9 := Tryd.isAgg9
  z9 := Tryd.sizeOf9
  v9 := Tryd.zeroValue9
  t20 := Tryd.underlying20
  a20 := Tryd.isAgg20
  z20 := Tryd.sizeOf20
  v20 := Tryd.zeroValue20
  t22 := Tryd.underlying22
  a22 := Tryd.isAgg22
  z22 := Tryd.sizeOf22
  v22 := Tryd.zeroValue22 }
theorem sliceV : sliceOf Tryd.prog 34 = some 39 := by kernel_rfl
theorem sliceI : sliceOf Tryd.prog 22 = some 3 := by kernel_rfl
theorem preG_inv {t : TypeId} {q : Int → Bool} {ys : List AV} (h : preG t q ys = true) : ∃ x y, ys = [x, y] ∧ x.ix = 2 ∧ y.ty = t ∧ q (intD y.d) = true := by
  match ys, h with
  | [x, y], h =>
    unfold preG at h
    rw [Bool.and_eq_true, Bool.and_eq_true, beq_iff_eq, beq_iff_eq] at h
    exact ⟨x, y, rfl, h.1, h.2.1, h.2.2⟩
theorem growV_p : ∀ args k d, preG 3 growP args = true → (some (2, (.slice [] [] : D)) : Option (Nat × D)) = some (k, d) → FCallOK Tryd.prog 49 args 34 k d := by
  intro args k d hp hd
  cases hd
  obtain ⟨x, y, rfl, h1, h2, h3⟩ := preG_inv hp
  unfold growP at h3
  rw [Bool.and_eq_true, decide_eq_true_eq, decide_eq_true_eq] at h3
  exact grow_own laysV sliceV h1 (by rw [h2]; exact u3) h3.1 h3.2
theorem growI_p : ∀ args k d, preG 3 growP args = true → (some (2, (.slice [] [] : D)) : Option (Nat × D)) = some (k, d) → FCallOK Tryd.prog 50 args 22 k d := by
  intro args k d hp hd
  cases hd
  obtain ⟨x, y, rfl, h1, h2, h3⟩ := preG_inv hp
  unfold growP at h3
  rw [Bool.and_eq_true, decide_eq_true_eq, decide_eq_true_eq] at h3
  exact grow_own laysI sliceI h1 (by rw [h2]; exact u3) h3.1 h3.2
theorem growV_z : ∀ args k d, preG 3 growZ args = true → (some (1, (.slice [] [] : D)) : Option (Nat × D)) = some (k, d) → FCallOK Tryd.prog 49 args 34 k d := by
  intro args k d hp hd
  cases hd
  obtain ⟨x, y, rfl, h1, h2, h3⟩ := preG_inv hp
  unfold growZ at h3
  rw [beq_iff_eq] at h3
  exact grow_nil laysV sliceV h1 (by rw [h2]; exact u3) h3
theorem growI_z : ∀ args k d, preG 3 growZ args = true → (some (1, (.slice [] [] : D)) : Option (Nat × D)) = some (k, d) → FCallOK Tryd.prog 50 args 22 k d := by
  intro args k d hp hd
  cases hd
  obtain ⟨x, y, rfl, h1, h2, h3⟩ := preG_inv hp
  unfold growZ at h3
  rw [beq_iff_eq] at h3
  exact grow_nil laysI sliceI h1 (by rw [h2]; exact u3) h3
def FGP : FTab := [(49, 34, preG 3 growP, fun _ => some (2, .slice [] [])), (50, 22, preG 3 growP, fun _ => some (2, .slice [] []))]
def FGZ : FTab := [(49, 34, preG 3 growZ, fun _ => some (1, .slice [] [])), (50, 22, preG 3 growZ, fun _ => some (1, .slice [] []))]
theorem envFP : EnvOK Tryd.prog (envR B2 [] [] FGP) := envOK_consF (envOK_consF envB2 growI_p) growV_p
theorem envFZ : EnvOK Tryd.prog (envR B2 [] [] FGZ) := envOK_consF (envOK_consF envB2 growI_z) growV_z

end Go.Proofs.YtbidfbpaeemhhaaDoor
