/- What the evaluator comes to, function by function: by the kernel. Nothing here is trusted. -/
import Derived.Test.YtmopepjahjmdeaaBA
import Derived.Test.YtmopepjahjmdeaaVC
import Derived.Test.YtmopepjahjmdeaaVGr
namespace Go.Proofs.Ytmopepjahjmdeaa
open Go.Ev
set_option linter.unusedVariables false
/- roadbook/bag.meet$1 -/
def t69_h : Hints := fun _ =>  none
theorem t69 (N : Nat) (x0 : Int) (q : D) : evFnH Try.prog (envR B2 [] [] []) t69_h N Try.f69 [dat 3 (.lit (.int .i64 x0)), bxp 1000000 22] [⟨22, q, 0, none⟩] =
  some (dat 4 (.lit (.bool (hasB (elemsD q) x0))), [some ⟨22, q, 0, none⟩]) := by kernel_rfl

end Go.Proofs.Ytmopepjahjmdeaa

namespace Go.Proofs.Ytmopepjahjmdeaa
open Go.Ev
set_option linter.unusedVariables false
set_option maxRecDepth 10000

def a69 : List AV := [dat 3 .nil, bxp OID 22]
def b69 : List Ent := [⟨22, .nil, 0, none⟩]
def g69 (ds hs : List D) : Option D := match ds, hs with
  | [x, _], [q] => some (.lit (.bool (hasB (elemsD q) (intD x))))
  | _, _ => none
def r69 : FuncId × TypeId × (List AV → List Ent → Bool) × (List AV → List Ent → Option D) := (69, 4, preH a69 b69 (fun _ _ => true), entR a69 b69 g69)
theorem k69 : FnOK Try.prog 69 Try.f69 := ⟨Try.func69, rfl, by kernel_rfl⟩
theorem r69_ok : ∀ args hp d, preH a69 b69 (fun _ _ => true) args hp = true → entR a69 b69 g69 args hp = some d → HCallOK Try.prog 69 args hp (mkRes Try.prog 4 d) (hp.map some) := by
  refine entR_ok rfl rfl fun ds es d _ hd => ?_
  unfold g69 at hd
  split at hd
  · rename_i x z q
    cases hd
    refine HCallOK.typed k69.ex fun ht _ => ?_
    obtain ⟨n, hn⟩ := ht (dat 3 x) (by simp [fillA, a69, dat, bxp]) rfl
    obtain ⟨w, rfl, _⟩ := ty3' hn
    rw [m4]
    exact fnH_ok hm envB2 k69 (t69 1 w q)
  · cases hd
def RM : RTab := [r69]
theorem envRM : EnvOK Try.prog (envR B2 [] RM []) := envOK_consR envB2 r69_ok

end Go.Proofs.Ytmopepjahjmdeaa

namespace Go.Proofs.Ytmopepjahjmdeaa
open Go.Ev
set_option linter.unusedVariables false
/- slices.IndexFunc[[]int,int] -/
def t81_h : Hints := fun i => if i = 2 then some ([2, 3, 4, 5, 6, 9, 10, 11, 12, 13, 14, 15, 16, 17, 18], [1000000], []) else none
def t81_lp2 (P : Program) (fn : Func) (N n : Nat) (x0 : D) (q : D) (v8 : Int) : Option (AV × List (Option Ent)) := evLoop (preL t81_h (sub [1, 0, 1, 0, 0] (bodyOf fn))) (evCode P (envR B2 [] RM []) t81_h N (sub [1, 0, 1, 0, 0] (bodyOf fn))) n ⟨[dat 22 x0, clo 101 69 [1000000], dead, dead, dead, dead, dead, dat 3 (.lit (.int .i64 ((elemsD x0).length : Int))), dat 3 (.lit (.int .i64 v8)), dead, dead, dead, dead, dead, dead, dead, dead, dead, dead], lookB [(1000000, some ⟨22, q, 0, none⟩)]⟩ (blockK 0 (seqC P (envR B2 [] RM []) t81_h N (sub [1, 1] (bodyOf fn)) (finH P fn 1) ))
theorem t81_lp2_step  (N n : Nat) (x0 : D) (q : D) (v8 : Int) : t81_lp2 Try.prog Try.f81 N (n + 1) x0 q v8 =
  bif decide (v8 < ((elemsD x0).length : Int)) then
    bif (decide (0 ≤ v8) && decide (v8 < ((elemsD x0).length : Int))) then
      bif hasB (elemsD q) (intD ((elemsD x0).getD (v8).toNat .nil)) then
        some (dat 3 (.lit (.int .i64 v8)), [some ⟨22, q, 0, none⟩])
      else t81_lp2 Try.prog Try.f81 N n x0 q (IntKind.wrap .i64 (v8 + 1))
    else none
  else some (dat 3 (.lit (.int .i64 (-1))), [some ⟨22, q, 0, none⟩]) := by kernel_rfl
theorem t81 (N : Nat) (x0 : D) (q : D) : evFnH Try.prog (envR B2 [] RM []) t81_h N Try.f81 [dat 22 x0, clo 101 69 [1000000]] [⟨22, q, 0, none⟩] =
  t81_lp2 Try.prog Try.f81 N N x0 q 0 := by kernel_rfl

end Go.Proofs.Ytmopepjahjmdeaa

namespace Go.Proofs.Ytmopepjahjmdeaa
open Go.Ev
set_option linter.unusedVariables false
set_option maxRecDepth 10000

theorem ixf_loop {N : Nat} {x0 q : D} (hl : (elemsD x0).length ≤ maxLen) : ∀ (n i : Nat), i ≤ (elemsD x0).length → (elemsD x0).length - i < n →
    t81_lp2 Try.prog Try.f81 N n x0 q (i : Int) = some (dat 3 (.lit (.int .i64 (ixFrom (elemsD q) ((elemsD x0).drop i) i))), [some ⟨22, q, 0, none⟩])
  | 0, i, _, h => by omega
  | n + 1, i, hi, h => by
    rw [t81_lp2_step]
    by_cases hlt : i < (elemsD x0).length
    · rw [l_idx hlt, l_lt hlt, cond_true, cond_true, Int.toNat_natCast, l_get hlt, l_wrap hl hlt, ixf_loop hl n (i + 1) (by omega) (by omega), List.drop_eq_getElem_cons hlt]
      have e1 : ixFrom (elemsD q) ((elemsD x0)[i] :: (elemsD x0).drop (i + 1)) i = bif hasB (elemsD q) (intD (elemsD x0)[i]) then (i : Int) else ixFrom (elemsD q) ((elemsD x0).drop (i + 1)) (i + 1) := rfl
      rw [e1]
      cases hasB (elemsD q) (intD (elemsD x0)[i]) <;> rfl
    · rw [l_ge hlt, cond_false, List.drop_of_length_le (by omega)]
      rfl
def a81 : List AV := [dat 22 .nil, clo 101 69 [OID]]
def g81 (ds hs : List D) : Option (AV × List (Option Ent)) := match ds, hs with
  | [x, _], [q] => some (dat 3 (.lit (.int .i64 (ixFrom (elemsD q) (elemsD x) 0))), [some ⟨22, q, 0, none⟩])
  | _, _ => none
def h81 : FuncId × TypeId × (List AV → List Ent → Bool) × (List AV → List Ent → Option (AV × List (Option Ent))) := (81, 3, preH a81 b69 (fun _ _ => true), entH a81 b69 g81)
theorem k81 : FnOK Try.prog 81 Try.f81 := ⟨Try.func81, rfl, by kernel_rfl⟩
theorem c81 : ∀ args hh r h', preH a81 b69 (fun _ _ => true) args hh = true → entH a81 b69 g81 args hh = some (r, h') → HCallOK Try.prog 81 args hh r h' := by
  refine entH_ok rfl rfl fun ds es r h' _ hd => ?_
  unfold g81 at hd
  split at hd
  · rename_i x z q
    cases hd
    refine HCallOK.typedR k81.ex fun ht hb _ => ?_
    obtain ⟨_, t1⟩ := ht (dat 22 x) (by simp [fillA, a81, dat, clo]) rfl
    have hl : (elemsD x).length ≤ maxLen := lenI t1
    exact fnH_ok hm envRM k81 ((t81 ((elemsD x).length + 1) x q).trans (ixf_loop hl ((elemsD x).length + 1) 0 (Nat.zero_le _) (by omega)))
  · cases hd
def HM1 : HTab := [h81]
theorem envHM1 : EnvOK Try.prog (envR B2 HM1 RM []) := envOK_consH envRM c81

end Go.Proofs.Ytmopepjahjmdeaa

namespace Go.Proofs.Ytmopepjahjmdeaa
open Go.Ev
set_option linter.unusedVariables false
/- slices.ContainsFunc[[]int,int] -/
def t68_h : Hints := fun _ =>  none
theorem t68 (N : Nat) (x0 : D) (q : D) : evFnH Try.prog (envR B2 HM1 RM []) t68_h N Try.f68 [dat 22 x0, clo 101 69 [1000000]] [⟨22, q, 0, none⟩] =
  some (dat 4 (.lit (.bool (decide ((ixFrom (elemsD q) (elemsD x0) 0) ≥ 0)))), [some ⟨22, q, 0, none⟩]) := by kernel_rfl

end Go.Proofs.Ytmopepjahjmdeaa

namespace Go.Proofs.Ytmopepjahjmdeaa
open Go.Ev
set_option linter.unusedVariables false
set_option maxRecDepth 10000

def g68 (ds hs : List D) : Option (AV × List (Option Ent)) := match ds, hs with
  | [x, _], [q] => some (dat 4 (.lit (.bool (meetB (elemsD q) (elemsD x)))), [some ⟨22, q, 0, none⟩])
  | _, _ => none
def h68 : FuncId × TypeId × (List AV → List Ent → Bool) × (List AV → List Ent → Option (AV × List (Option Ent))) := (68, 4, preH a81 b69 (fun _ _ => true), entH a81 b69 g68)
theorem k68 : FnOK Try.prog 68 Try.f68 := ⟨Try.func68, rfl, by kernel_rfl⟩
theorem c68 : ∀ args hh r h', preH a81 b69 (fun _ _ => true) args hh = true → entH a81 b69 g68 args hh = some (r, h') → HCallOK Try.prog 68 args hh r h' := by
  refine entH_ok rfl rfl fun ds es r h' _ hd => ?_
  unfold g68 at hd
  split at hd
  · rename_i x z q
    cases hd
    have := t68 1 x q
    rw [ix_meet] at this
    exact fnH_ok hm envHM1 k68 this
  · cases hd
def HM2 : HTab := [h81, h68]
theorem envHM2 : EnvOK Try.prog (envR B2 HM2 RM []) := envOK_consH (envOK_consH envRM c68) c81

end Go.Proofs.Ytmopepjahjmdeaa

namespace Go.Proofs.Ytmopepjahjmdeaa
open Go.Ev
set_option linter.unusedVariables false
/- roadbook/bag.meet -/
def t55_h : Hints := fun _ =>  none
theorem t55 (N : Nat) (x0 : D) (x1 : D) : evFn Try.prog (envR B2 HM2 RM []) t55_h N Try.f55 [dat 22 x0, dat 22 x1] =
  some (dat 4 (.lit (.bool (meetB (elemsD x0) (elemsD x1))))) := by kernel_rfl

end Go.Proofs.Ytmopepjahjmdeaa

namespace Go.Proofs.Ytmopepjahjmdeaa
open Go.Ev
set_option linter.unusedVariables false
set_option maxRecDepth 10000

def e55 : FuncId × TypeId × (List AV → Bool) × (List AV → Option D) := (55, 4, yes, ent [22, 22] (f2 fun x y => some (.lit (.bool (meetB (elemsD x) (elemsD y))))))
theorem k55 : FnOK Try.prog 55 Try.f55 := ⟨Try.func55, rfl, by kernel_rfl⟩
theorem c55 : ∀ args d, e55.2.2.2 args = some d → CallOK Try.prog 55 args (mkRes Try.prog 4 d) :=
  ent2 k55 fun x y d h _ _ => by
    cases h
    rw [nI, nI]
    refine fn_ok hm envHM2 k55 ((t55 1 x y).trans ?_)
    rw [m4]
    rfl

def renV : Go.Shelf.Ren := ⟨fun | 4 => 70 | n => n, fun | 22 => 32 | 25 => 34 | n => n, fun | n => n⟩
def renI : Go.Shelf.Ren := ⟨fun | 4 => 71 | n => n, fun | 22 => 22 | 25 => 3 | n => n, fun | n => n⟩
theorem laysV : Go.Proofs.Lays8.n4 Try.prog renV := {
  mixed := hm
  f4 := ⟨Try.f70.name, by kernel_rfl, Try.func70.trans (congrArg some (by kernel_rfl))⟩
  t0 := Try.underlying0
  a0 := Try.isAgg0
  z0 := Try.sizeOf0
  v0 := Try.zeroValue0
  t3 := Try.underlying3
  a3 := Try.isAgg3
  z3 := Try.sizeOf3
  v3 := Try.zeroValue3
  t4 := Try.underlying4
  a4 := Try.isAgg4
  z4 := Try.sizeOf4
  v4 := Try.zeroValue4
  t9 := Try.underlying9
  a9 := Try.isAgg9
  z9 := Try.sizeOf9
  v9 := Try.zeroValue9
  t20 := Try.underlying20
  a20 := Try.isAgg20
  z20 := Try.sizeOf20
  v20 := Try.zeroValue20
  t22 := Try.underlying32
  a22 := Try.isAgg32
  z22 := Try.sizeOf32
  v22 := Try.zeroValue32 }
theorem laysI : Go.Proofs.Lays8.n4 Try.prog renI := {
  mixed := hm
  f4 := ⟨Try.f71.name, by kernel_rfl, Try.func71.trans (congrArg some (by kernel_rfl))⟩
  t0 := Try.underlying0
  a0 := Try.isAgg0
  z0 := Try.sizeOf0
  v0 := Try.zeroValue0
  t3 := Try.underlying3
  a3 := Try.isAgg3
  z3 := Try.sizeOf3
  v3 := Try.zeroValue3
  t4 := Try.underlying4
  a4 := Try.isAgg4
  z4 := Try.sizeOf4
  v4 := Try.zeroValue4
  t9 := Try.underlying9
  a9 := Try.isAgg9
  z9 := Try.sizeOf9
  v9 := Try.zeroValue9
  t20 := Try.underlying20
  a20 := Try.isAgg20
  z20 := Try.sizeOf20
  v20 := Try.zeroValue20
  t22 := Try.underlying22
  a22 := Try.isAgg22
  z22 := Try.sizeOf22
  v22 := Try.zeroValue22 }
theorem sliceV : sliceOf Try.prog 32 = some 34 := by kernel_rfl
theorem sliceI : sliceOf Try.prog 22 = some 3 := by kernel_rfl
theorem preG_inv {t : TypeId} {q : Int → Bool} {ys : List AV} (h : preG t q ys = true) : ∃ x y, ys = [x, y] ∧ x.ix = 2 ∧ y.ty = t ∧ q (intD y.d) = true := by
  match ys, h with
  | [x, y], h =>
    unfold preG at h
    rw [Bool.and_eq_true, Bool.and_eq_true, beq_iff_eq, beq_iff_eq] at h
    exact ⟨x, y, rfl, h.1, h.2.1, h.2.2⟩
theorem growV_p : ∀ args k d, preG 3 growP args = true → (some (2, (.slice [] [] : D)) : Option (Nat × D)) = some (k, d) → FCallOK Try.prog 70 args 32 k d := by
  intro args k d hp hd
  cases hd
  obtain ⟨x, y, rfl, h1, h2, h3⟩ := preG_inv hp
  unfold growP at h3
  rw [Bool.and_eq_true, decide_eq_true_eq, decide_eq_true_eq] at h3
  exact grow_own laysV sliceV h1 (by rw [h2]; exact u3) h3.1 h3.2
theorem growI_p : ∀ args k d, preG 3 growP args = true → (some (2, (.slice [] [] : D)) : Option (Nat × D)) = some (k, d) → FCallOK Try.prog 71 args 22 k d := by
  intro args k d hp hd
  cases hd
  obtain ⟨x, y, rfl, h1, h2, h3⟩ := preG_inv hp
  unfold growP at h3
  rw [Bool.and_eq_true, decide_eq_true_eq, decide_eq_true_eq] at h3
  exact grow_own laysI sliceI h1 (by rw [h2]; exact u3) h3.1 h3.2
theorem growV_z : ∀ args k d, preG 3 growZ args = true → (some (1, (.slice [] [] : D)) : Option (Nat × D)) = some (k, d) → FCallOK Try.prog 70 args 32 k d := by
  intro args k d hp hd
  cases hd
  obtain ⟨x, y, rfl, h1, h2, h3⟩ := preG_inv hp
  unfold growZ at h3
  rw [beq_iff_eq] at h3
  exact grow_nil laysV sliceV h1 (by rw [h2]; exact u3) h3
theorem growI_z : ∀ args k d, preG 3 growZ args = true → (some (1, (.slice [] [] : D)) : Option (Nat × D)) = some (k, d) → FCallOK Try.prog 71 args 22 k d := by
  intro args k d hp hd
  cases hd
  obtain ⟨x, y, rfl, h1, h2, h3⟩ := preG_inv hp
  unfold growZ at h3
  rw [beq_iff_eq] at h3
  exact grow_nil laysI sliceI h1 (by rw [h2]; exact u3) h3
def FGP : FTab := [(70, 32, preG 3 growP, fun _ => some (2, .slice [] [])), (71, 22, preG 3 growP, fun _ => some (2, .slice [] []))]
def FGZ : FTab := [(70, 32, preG 3 growZ, fun _ => some (1, .slice [] [])), (71, 22, preG 3 growZ, fun _ => some (1, .slice [] []))]
theorem envFP : EnvOK Try.prog (envR B2 [] [] FGP) := envOK_consF (envOK_consF envB2 growI_p) growV_p
theorem envFZ : EnvOK Try.prog (envR B2 [] [] FGZ) := envOK_consF (envOK_consF envB2 growI_z) growV_z

end Go.Proofs.Ytmopepjahjmdeaa
