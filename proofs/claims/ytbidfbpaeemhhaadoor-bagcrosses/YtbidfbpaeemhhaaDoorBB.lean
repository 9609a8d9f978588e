/- What the evaluator comes to, function by function: by the kernel. Nothing here is trusted. -/
import Derived.Test.YtbidfbpaeemhhaaDoorBA
import Derived.Test.YtbidfbpaeemhhaaDoorV2
namespace Go.Proofs.YtbidfbpaeemhhaaDoor
open Go.Ev
set_option linter.unusedVariables false
/- roadbook/bag.Sort$1 -/
def t20_h : Hints := fun _ =>  none
theorem t20 (N : Nat) (x0 : D) (x1 : D) : evFn Tryd.prog (envR B2 [] [] []) t20_h N Tryd.f20 [dat 47 x0, dat 47 x1] =
  some (dat 3 (.lit (.int .i64 (againstI (fieldD x0 0) (fieldD x1 0))))) := by kernel_rfl

/- roadbook/bag.hasAll -/
def t35_h : Hints := fun i => if i = 2 then some ([1, 2, 3, 4, 5, 6, 10, 11, 12, 13, 14, 15, 16, 17], [], []) else none
def t35_lp2 (P : Program) (fn : Func) (N n : Nat) (x0 : D) (x1 : D) (v9 : Int) : Option AV := evLoop (preL t35_h (sub [1, 0, 1, 0, 0] (bodyOf fn))) (evCode P (envR B2 [] [] []) t35_h N (sub [1, 0, 1, 0, 0] (bodyOf fn))) n ⟨[dat 22 x0, dead, dead, dead, dead, dead, dead, dat 22 x1, dat 3 (.lit (.int .i64 ((elemsD x1).length : Int))), dat 3 (.lit (.int .i64 v9)), dead, dead, dead, dead, dead, dead, dead, dead], lookB []⟩ (blockK 0 (seqC P (envR B2 [] [] []) t35_h N (sub [1, 1] (bodyOf fn)) (finK P fn) ))
theorem t35_lp2_step  (N n : Nat) (x0 : D) (x1 : D) (v9 : Int) : t35_lp2 Tryd.prog Tryd.f35 N (n + 1) x0 x1 v9 =
  bif decide (v9 < ((elemsD x1).length : Int)) then
    bif (decide (0 ≤ v9) && decide (v9 < ((elemsD x1).length : Int))) then
      bif (!(hasB (elemsD x0) (intD ((elemsD x1).getD (v9).toNat .nil)))) then
        some (dat 4 (.lit (.bool false)))
      else t35_lp2 Tryd.prog Tryd.f35 N n x0 x1 (IntKind.wrap .i64 (v9 + 1))
    else none
  else some (dat 4 (.lit (.bool true))) := by kernel_rfl
theorem t35 (N : Nat) (x0 : D) (x1 : D) : evFn Tryd.prog (envR B2 [] [] []) t35_h N Tryd.f35 [dat 22 x0, dat 22 x1] =
  t35_lp2 Tryd.prog Tryd.f35 N N x0 x1 0 := by kernel_rfl

/- roadbook/bag.Sorted$1 -/
def t25_h : Hints := fun _ =>  none
theorem t25 (N : Nat) (x0 : D) (x1 : D) (q : Int) : evFnH Tryd.prog (envR B2 [] [] []) t25_h N Tryd.f25 [dat 34 x0, dat 34 x1, bxp 1000000 3] [⟨3, .lit (.int .i64 q), 0, none⟩] =
  some (dat 3 (.lit (.int .i64 (againstI (rankD (elemsD x0) q) (rankD (elemsD x1) q)))), [some ⟨3, .lit (.int .i64 q), 0, none⟩]) := by kernel_rfl

end Go.Proofs.YtbidfbpaeemhhaaDoor

namespace Go.Proofs.YtbidfbpaeemhhaaDoor
open Go.Ev
set_option linter.unusedVariables false
set_option maxRecDepth 10000
set_option linter.unusedSimpArgs false

def e20 : FuncId × TypeId × (List AV → Bool) × (List AV → Option D) := (20, 3, yes, ent [47, 47] (f2 fun x y => some (.lit (.int .i64 (againstI (fieldD x 0) (fieldD y 0))))))
theorem k20 : FnOK Tryd.prog 20 Tryd.f20 := ⟨Tryd.func20, rfl, by kernel_rfl⟩
theorem c20 : ∀ args d, e20.2.2.2 args = some d → CallOK Tryd.prog 20 args (mkRes Tryd.prog 3 d) :=
  ent2 k20 fun x y d h _ _ => by
    cases h
    rw [nE, nE]
    refine fn_ok hm envB2 k20 ((t20 1 x y).trans ?_)
    rw [m3]
    rfl
def e35 : FuncId × TypeId × (List AV → Bool) × (List AV → Option D) := (35, 4, yes, ent [22, 22] (f2 fun x y => some (.lit (.bool (hasAllB (elemsD x) (elemsD y))))))
theorem k35 : FnOK Tryd.prog 35 Tryd.f35 := ⟨Tryd.func35, rfl, by kernel_rfl⟩
theorem c35 : ∀ args d, e35.2.2.2 args = some d → CallOK Tryd.prog 35 args (mkRes Tryd.prog 4 d) :=
  ent2 k35 fun x y d h ⟨_, hx⟩ ⟨_, hy⟩ => by
    cases h
    rw [nI, nI]
    refine fn_ok hm envB2 k35 ((t35 ((elemsD y).length + 1) x y).trans ?_)
    rw [m4]
    have := l_loop (fun n v => t35_lp2 Tryd.prog Tryd.f35 ((elemsD y).length + 1) n x y v) (elemsD y).length (fun i => !hasB (elemsD x) (intD ((elemsD y).getD i .nil))) (some (dat 4 (.lit (.bool false)))) (some (dat 4 (.lit (.bool true))))
      (fun n i hi => by rw [t35_lp2_step, l_idx hi, l_lt hi, cond_true, cond_true, Int.toNat_natCast, l_wrap (lenI hy) hi])
      (fun n => by rw [t35_lp2_step, l_ge (by omega), cond_false]) ((elemsD y).length + 1) 0 (Nat.zero_le _) (by omega)
    refine this.trans ?_
    rw [Nat.sub_zero, l_any0 (elemsD y) (fun c => !hasB (elemsD x) (intD c))]
    show _ = some (dat 4 (.lit (.bool (hasAllB (elemsD x) (elemsD y)))))
    have e : hasAllB (elemsD x) (elemsD y) = !((elemsD y).any fun c => !hasB (elemsD x) (intD c)) := by
      unfold hasAllB
      rw [List.all_map, List.all_eq_not_any_not]
      rfl
    rw [e]
    cases (elemsD y).any _ <;> rfl
def B3 : Tab := e20 :: e35 :: B2
theorem envB3 : EnvOK Tryd.prog (envR B3 [] [] []) := envOK_cons (envOK_cons envB2 c35) c20

/-! ### What Sorted asks -/
def a25 : List AV := [dat 34 .nil, dat 34 .nil, bxp OID 3]
def b25 : List Ent := [⟨3, .nil, 0, none⟩]
def g25 (ds hs : List D) : Option D := match ds, hs with
  | [x, y, _], [q] => some (.lit (.int .i64 (againstI (rankD (elemsD x) (intD q)) (rankD (elemsD y) (intD q)))))
  | _, _ => none
def r25 : FuncId × TypeId × (List AV → List Ent → Bool) × (List AV → List Ent → Option D) := (25, 3, preH a25 b25 (fun _ _ => true), entR a25 b25 g25)
theorem k25 : FnOK Tryd.prog 25 Tryd.f25 := ⟨Tryd.func25, rfl, by kernel_rfl⟩
theorem r25_ok : ∀ args hp d, preH a25 b25 (fun _ _ => true) args hp = true → entR a25 b25 g25 args hp = some d → HCallOK Tryd.prog 25 args hp (mkRes Tryd.prog 3 d) (hp.map some) := by
  refine entR_ok rfl rfl fun ds es d _ hd => ?_
  unfold g25 at hd
  split at hd
  · rename_i x y z q
    cases hd
    refine HCallOK.typed k25.ex fun _ hty => ?_
    obtain ⟨n, hn⟩ := hty ⟨3, q, 0, none⟩ (by simp [fillE, b25]) rfl rfl
    obtain ⟨w, rfl, _⟩ := ty3' hn
    rw [m3]
    exact fnH_ok hm envB2 k25 (t25 1 x y w)
  · cases hd
def R3 : RTab := [r25]
theorem envR3 : EnvOK Tryd.prog (envR B3 [] R3 []) := envOK_consR envB3 r25_ok

end Go.Proofs.YtbidfbpaeemhhaaDoor

namespace Go.Proofs.YtbidfbpaeemhhaaDoor
open Go.Ev
set_option linter.unusedVariables false
/- slices.insertionSortCmpFunc[roadbook/bag.ranked] -/
def t54_h : Hints := fun i => if i = 1 then some ([4, 5, 6, 7, 9, 10, 11, 12, 13, 14, 15, 16, 17, 18, 19, 20, 21, 22, 23, 24, 25, 26, 27, 28, 29, 30, 31, 32, 33, 34, 35, 36, 37, 38, 39, 40, 41, 42, 43, 44, 45, 46, 47, 48, 49, 50, 51, 52], [1000000], []) else if i = 4 then some ([4, 5, 6, 7, 10, 11, 12, 13, 14, 15, 16, 17, 18, 19, 20, 21, 22, 23, 24, 25, 26, 27, 28, 29, 30, 31, 32, 33, 34, 35, 36, 37, 38, 39, 40, 41, 42, 43, 44, 45, 46, 47, 48, 49, 50, 51, 52], [1000000], []) else none
def t54_lp1 (P : Program) (fn : Func) (N n : Nat) (x1 : Int) (x2 : Int) (es : List D) (v8 : Int) (b1000000 : List D) : Option (AV × List (Option Ent)) := evLoop (preL t54_h (sub [1, 0, 0] (bodyOf fn))) (evCode P (envR B3 [] R3 []) t54_h N (sub [1, 0, 0] (bodyOf fn))) n ⟨[bxp 1000000 42, dat 3 (.lit (.int .i64 x1)), dat 3 (.lit (.int .i64 x2)), dat 50 (.held (.func (.func 20) #[] #[])), dead, dead, dead, dead, dat 3 (.lit (.int .i64 v8)), dead, dead, dead, dead, dead, dead, dead, dead, dead, dead, dead, dead, dead, dead, dead, dead, dead, dead, dead, dead, dead, dead, dead, dead, dead, dead, dead, dead, dead, dead, dead, dead, dead, dead, dead, dead, dead, dead, dead, dead, dead, dead, dead, dead], lookB [(1000000, some ⟨42, .slice b1000000 [], 3, none⟩)]⟩ (blockK 0 (finH P fn 1))
def t54_lp4 (P : Program) (fn : Func) (N n : Nat) (x1 : Int) (x2 : Int) (es : List D) (v8 : Int) (b1000000 : List D) (m0 : Nat) (v9 : Int) (b1000000q : List D) : Option (AV × List (Option Ent)) := evLoop (preL t54_h (sub [1, 0, 0, 1, 0, 0, 1, 0, 0] (bodyOf fn))) (evCode P (envR B3 [] R3 []) t54_h N (sub [1, 0, 0, 1, 0, 0, 1, 0, 0] (bodyOf fn))) n ⟨[bxp 1000000 42, dat 3 (.lit (.int .i64 x1)), dat 3 (.lit (.int .i64 x2)), dat 50 (.held (.func (.func 20) #[] #[])), dead, dead, dead, dead, dat 3 (.lit (.int .i64 v8)), dat 3 (.lit (.int .i64 v9)), dead, dead, dead, dead, dead, dead, dead, dead, dead, dead, dead, dead, dead, dead, dead, dead, dead, dead, dead, dead, dead, dead, dead, dead, dead, dead, dead, dead, dead, dead, dead, dead, dead, dead, dead, dead, dead, dead, dead, dead, dead, dead, dead], lookB [(1000000, some ⟨42, .slice b1000000q [], 3, none⟩)]⟩ (blockK 2 (blockK 1 (seqC P (envR B3 [] R3 []) t54_h N (sub [1, 0, 0, 1, 1] (bodyOf fn)) (seqK (fun s => evLoop (preL t54_h (sub [1, 0, 0] (bodyOf fn))) (evCode P (envR B3 [] R3 []) t54_h N (sub [1, 0, 0] (bodyOf fn))) m0 ((preL t54_h (sub [1, 0, 0] (bodyOf fn))) s) (blockK 0 (finH P fn 1))) (blockK 0 (finH P fn 1))) )))
theorem t54_lp4_step  (N n : Nat) (x1 : Int) (x2 : Int) (es : List D) (v8 : Int) (b1000000 : List D) (m0 : Nat) (v9 : Int) (b1000000q : List D) : t54_lp4 Tryd.prog Tryd.f54 N (n + 1) x1 x2 es v8 b1000000 m0 v9 b1000000q =
  bif ((decide (v9 > x1)) == true) then
    bif (decide (0 ≤ v9) && decide (v9 < (b1000000q.length : Int))) then
      bif (decide (0 ≤ (IntKind.wrap .i64 (v9 - 1))) && decide ((IntKind.wrap .i64 (v9 - 1)) < (b1000000q.length : Int))) then
        bif decide ((againstI (fieldD (b1000000q.getD (v9).toNat .nil) 0) (fieldD (b1000000q.getD (IntKind.wrap .i64 (v9 - 1)).toNat .nil) 0)) < 0) then
          bif (decide (0 ≤ (IntKind.wrap .i64 (v9 - 1))) && decide ((IntKind.wrap .i64 (v9 - 1)) < (b1000000q.length : Int))) then
            bif (decide (0 ≤ v9) && decide (v9 < (b1000000q.length : Int))) then
              bif (decide (0 ≤ v9) && decide (v9 < (b1000000q.length : Int))) then
                bif (decide (0 ≤ (IntKind.wrap .i64 (v9 - 1))) && decide ((IntKind.wrap .i64 (v9 - 1)) < ((b1000000q.set (v9).toNat (b1000000q.getD (IntKind.wrap .i64 (v9 - 1)).toNat .nil)).length : Int))) then
                  t54_lp4 Tryd.prog Tryd.f54 N n x1 x2 es v8 b1000000 m0 (IntKind.wrap .i64 (v9 - 1)) ((b1000000q.set (v9).toNat (b1000000q.getD (IntKind.wrap .i64 (v9 - 1)).toNat .nil)).set (IntKind.wrap .i64 (v9 - 1)).toNat (b1000000q.getD (v9).toNat .nil))
                else none
              else none
            else none
          else none
        else t54_lp1 Tryd.prog Tryd.f54 N m0 x1 x2 es (IntKind.wrap .i64 (v8 + 1)) b1000000q
      else none
    else none
  else t54_lp1 Tryd.prog Tryd.f54 N m0 x1 x2 es (IntKind.wrap .i64 (v8 + 1)) b1000000q := by kernel_rfl
theorem t54_lp1_step  (N n : Nat) (x1 : Int) (x2 : Int) (es : List D) (v8 : Int) (b1000000 : List D) : t54_lp1 Tryd.prog Tryd.f54 N (n + 1) x1 x2 es v8 b1000000 =
  bif decide (v8 < x2) then
    t54_lp4 Tryd.prog Tryd.f54 N N x1 x2 es v8 b1000000 n v8 b1000000
  else some (tupA [] (.agg []), [some ⟨42, .slice b1000000 [], 3, none⟩]) := by kernel_rfl
theorem t54 (N : Nat) (x1 : Int) (x2 : Int) (es : List D) : evFnH Tryd.prog (envR B3 [] R3 []) t54_h N Tryd.f54 [bxp 1000000 42, dat 3 (.lit (.int .i64 x1)), dat 3 (.lit (.int .i64 x2)), dat 50 (.held (.func (.func 20) #[] #[]))] [⟨42, .slice es [], 3, none⟩] =
  t54_lp1 Tryd.prog Tryd.f54 N N x1 x2 es (IntKind.wrap .i64 (x1 + 1)) es := by kernel_rfl

/- slices.swapRangeCmpFunc[roadbook/bag.ranked] -/
def t66_h : Hints := fun i => if i = 1 then some ([4, 5, 6, 7, 8, 9, 11, 12, 13, 14, 15, 16, 17, 18, 19, 20, 21, 22, 23, 24, 25, 26, 27, 28, 29, 30, 31, 32, 33, 34, 35, 36, 37], [1000000], []) else none
def t66_lp1 (P : Program) (fn : Func) (N n : Nat) (x1 : Int) (x2 : Int) (x3 : Int) (es : List D) (v10 : Int) (b1000000 : List D) : Option (AV × List (Option Ent)) := evLoop (preL t66_h (sub [1, 0, 0] (bodyOf fn))) (evCode P (envR B3 [] R3 []) t66_h N (sub [1, 0, 0] (bodyOf fn))) n ⟨[bxp 1000000 42, dat 3 (.lit (.int .i64 x1)), dat 3 (.lit (.int .i64 x2)), dat 3 (.lit (.int .i64 x3)), dead, dead, dead, dead, dead, dead, dat 3 (.lit (.int .i64 v10)), dead, dead, dead, dead, dead, dead, dead, dead, dead, dead, dead, dead, dead, dead, dead, dead, dead, dead, dead, dead, dead, dead, dead, dead, dead, dead, dead], lookB [(1000000, some ⟨42, .slice b1000000 [], 3, none⟩)]⟩ (blockK 0 (finH P fn 1))
theorem t66_lp1_step  (N n : Nat) (x1 : Int) (x2 : Int) (x3 : Int) (es : List D) (v10 : Int) (b1000000 : List D) : t66_lp1 Tryd.prog Tryd.f66 N (n + 1) x1 x2 x3 es v10 b1000000 =
  bif decide (v10 < x3) then
    bif (decide (0 ≤ (IntKind.wrap .i64 (x2 + v10))) && decide ((IntKind.wrap .i64 (x2 + v10)) < (b1000000.length : Int))) then
      bif (decide (0 ≤ (IntKind.wrap .i64 (x1 + v10))) && decide ((IntKind.wrap .i64 (x1 + v10)) < (b1000000.length : Int))) then
        bif (decide (0 ≤ (IntKind.wrap .i64 (x1 + v10))) && decide ((IntKind.wrap .i64 (x1 + v10)) < (b1000000.length : Int))) then
          bif (decide (0 ≤ (IntKind.wrap .i64 (x2 + v10))) && decide ((IntKind.wrap .i64 (x2 + v10)) < ((b1000000.set (IntKind.wrap .i64 (x1 + v10)).toNat (b1000000.getD (IntKind.wrap .i64 (x2 + v10)).toNat .nil)).length : Int))) then
            t66_lp1 Tryd.prog Tryd.f66 N n x1 x2 x3 es (IntKind.wrap .i64 (v10 + 1)) ((b1000000.set (IntKind.wrap .i64 (x1 + v10)).toNat (b1000000.getD (IntKind.wrap .i64 (x2 + v10)).toNat .nil)).set (IntKind.wrap .i64 (x2 + v10)).toNat (b1000000.getD (IntKind.wrap .i64 (x1 + v10)).toNat .nil))
          else none
        else none
      else none
    else none
  else some (tupA [] (.agg []), [some ⟨42, .slice b1000000 [], 3, none⟩]) := by kernel_rfl
theorem t66 (N : Nat) (x1 : Int) (x2 : Int) (x3 : Int) (es : List D) : evFnH Tryd.prog (envR B3 [] R3 []) t66_h N Tryd.f66 [bxp 1000000 42, dat 3 (.lit (.int .i64 x1)), dat 3 (.lit (.int .i64 x2)), dat 3 (.lit (.int .i64 x3)), dat 50 (.held (.func (.func 20) #[] #[]))] [⟨42, .slice es [], 3, none⟩] =
  t66_lp1 Tryd.prog Tryd.f66 N N x1 x2 x3 es 0 es := by kernel_rfl

/- slices.IsSortedFunc[[][]roadbook/api.Val,[]roadbook/api.Val] -/
def t24_h : Hints := fun i => if i = 2 then some ([2, 3, 4, 6, 7, 8, 9, 10, 11, 12, 13, 14, 15, 16, 17, 18, 19, 20, 21, 22, 23, 24], [1000000], []) else none
def t24_lp2 (P : Program) (fn : Func) (N n : Nat) (x0 : D) (q : Int) (v5 : Int) : Option (AV × List (Option Ent)) := evLoop (preL t24_h (sub [1, 0, 1, 0, 0] (bodyOf fn))) (evCode P (envR B3 [] R3 []) t24_h N (sub [1, 0, 1, 0, 0] (bodyOf fn))) n ⟨[dat 23 x0, clo 54 25 [1000000], dead, dead, dead, dat 3 (.lit (.int .i64 v5)), dead, dead, dead, dead, dead, dead, dead, dead, dead, dead, dead, dead, dead, dead, dead, dead, dead, dead, dead], lookB [(1000000, some ⟨3, .lit (.int .i64 q), 0, none⟩)]⟩ (blockK 0 (seqC P (envR B3 [] R3 []) t24_h N (sub [1, 1] (bodyOf fn)) (finH P fn 1) ))
theorem t24_lp2_step  (N n : Nat) (x0 : D) (q : Int) (v5 : Int) : t24_lp2 Tryd.prog Tryd.f24 N (n + 1) x0 q v5 =
  bif decide (v5 > 0) then
    bif (decide (0 ≤ v5) && decide (v5 < ((elemsD x0).length : Int))) then
      bif (decide (0 ≤ (IntKind.wrap .i64 (v5 - 1))) && decide ((IntKind.wrap .i64 (v5 - 1)) < ((elemsD x0).length : Int))) then
        bif decide ((againstI (rankD (elemsD ((elemsD x0).getD (v5).toNat .nil)) q) (rankD (elemsD ((elemsD x0).getD (IntKind.wrap .i64 (v5 - 1)).toNat .nil)) q)) < 0) then
          some (dat 4 (.lit (.bool false)), [some ⟨3, .lit (.int .i64 q), 0, none⟩])
        else t24_lp2 Tryd.prog Tryd.f24 N n x0 q (IntKind.wrap .i64 (v5 - 1))
      else none
    else none
  else some (dat 4 (.lit (.bool true)), [some ⟨3, .lit (.int .i64 q), 0, none⟩]) := by kernel_rfl
theorem t24 (N : Nat) (x0 : D) (q : Int) : evFnH Tryd.prog (envR B3 [] R3 []) t24_h N Tryd.f24 [dat 23 x0, clo 54 25 [1000000]] [⟨3, .lit (.int .i64 q), 0, none⟩] =
  t24_lp2 Tryd.prog Tryd.f24 N N x0 q (IntKind.wrap .i64 (((elemsD x0).length : Int) - 1)) := by kernel_rfl

end Go.Proofs.YtbidfbpaeemhhaaDoor

namespace Go.Proofs.YtbidfbpaeemhhaaDoor
open Go.Ev
set_option linter.unusedVariables false
set_option maxRecDepth 10000
set_option linter.unusedSimpArgs false

abbrev HEnt := FuncId × TypeId × (List AV → List Ent → Bool) × (List AV → List Ent → HRes)
def unitR : AV := tupA [] (.agg [])
def rowR (l : List D) : List (Option Ent) := [some ⟨42, .slice l [], 3, none⟩]

/-! ### insertionSort -/
theorem ins_in {N : Nat} {a b : Nat} {x2 : Int} {es B : List D} {v8 : Int} {m0 : Nat} {A S2 R : List D} {x : D} (ha : a = A.length) : ∀ (n : Nat) (S1 : List D), S1.length < n → S1.length + A.length + S2.length + R.length ≤ 1000000000000 →
    ∃ T1 T2, S1 = T1 ++ T2 ∧ (∀ y ∈ T2, klt (keyE x) (keyE y) = true) ∧ (T1 = [] ∨ ∃ T0 y, T1 = T0 ++ [y] ∧ klt (keyE x) (keyE y) = false) ∧
      t54_lp4 Tryd.prog Tryd.f54 N n (a : Int) x2 es v8 B m0 ((a + S1.length : Nat) : Int) (A ++ (S1 ++ x :: (S2 ++ R))) = t54_lp1 Tryd.prog Tryd.f54 N m0 (a : Int) x2 es (IntKind.wrap .i64 (v8 + 1)) (A ++ (T1 ++ x :: (T2 ++ (S2 ++ R))))
  | 0, S1, h, _ => by omega
  | n + 1, S1, h, hbig => by
    rw [t54_lp4_step]
    rcases List.eq_nil_or_concat S1 with rfl | ⟨S0, y, rfl⟩
    · refine ⟨[], [], rfl, by simp, .inl rfl, ?_⟩
      have : decide (((a + ([] : List D).length : Nat) : Int) > (a : Int)) = false := by simp
      rw [this]
      rfl
    · simp only [List.concat_eq_append] at *
      have hlen : (A ++ (S0 ++ [y] ++ x :: (S2 ++ R))).length = A.length + S0.length + 2 + S2.length + R.length := by simp; omega
      have hj : a + (S0 ++ [y]).length = A.length + S0.length + 1 := by simp; omega
      have hS0 : S0.length + 1 + A.length + S2.length + R.length ≤ 1000000000000 := by simpa using hbig
      have g1 : decide (((a + (S0 ++ [y]).length : Nat) : Int) > (a : Int)) = true := by simp; omega
      have w1 : IntKind.wrap .i64 (((a + (S0 ++ [y]).length : Nat) : Int) - 1) = ((A.length + S0.length : Nat) : Int) := by
        rw [hj, l_wrapI (l_in (by omega) (by omega))]; omega
      have i1 : (decide (0 ≤ ((a + (S0 ++ [y]).length : Nat) : Int)) && decide (((a + (S0 ++ [y]).length : Nat) : Int) < ((A ++ (S0 ++ [y] ++ x :: (S2 ++ R))).length : Int))) = true := l_idx (by rw [hlen]; simp; omega)
      have i2 : (decide (0 ≤ ((A.length + S0.length : Nat) : Int)) && decide (((A.length + S0.length : Nat) : Int) < ((A ++ (S0 ++ [y] ++ x :: (S2 ++ R))).length : Int))) = true := l_idx (by rw [hlen]; omega)
      have f1 : A ++ (S0 ++ [y] ++ x :: (S2 ++ R)) = (A ++ S0) ++ y :: ([] ++ x :: (S2 ++ R)) := by simp
      have e1 : (A ++ (S0 ++ [y] ++ x :: (S2 ++ R))).getD (a + (S0 ++ [y]).length) .nil = x := by
        rw [show A ++ (S0 ++ [y] ++ x :: (S2 ++ R)) = (A ++ S0 ++ [y]) ++ x :: (S2 ++ R) by simp]
        exact l_at' _ _ _ (by simp; omega)
      have e2 : (A ++ (S0 ++ [y] ++ x :: (S2 ++ R))).getD (A.length + S0.length) .nil = y := by
        rw [f1]
        exact l_at' _ _ _ (by simp)
      rw [g1, w1, i1, i2, List.length_set, i2]
      simp only [beq_self_eq_true, cond_true, Int.toNat_natCast]
      rw [against_lt, e1, e2]
      have hk : klt (keyR (fieldD x 0)) (keyR (fieldD y 0)) = klt (keyE x) (keyE y) := rfl
      rw [hk]
      cases hc : klt (keyE x) (keyE y) with
      | false => exact ⟨S0 ++ [y], [], by simp, by simp, .inr ⟨S0, y, rfl, hc⟩, by simp⟩
      | true =>
        rw [cond_true]
        have sw : ((A ++ (S0 ++ [y] ++ x :: (S2 ++ R))).set (a + (S0 ++ [y]).length) y).set (A.length + S0.length) x = A ++ (S0 ++ x :: (([y] ++ S2) ++ R)) := by
          have := l_swap' (A ++ S0) [] (S2 ++ R) y x (i := A.length + S0.length) (j := a + (S0 ++ [y]).length) (by simp) (by simp; omega)
          rw [← f1, e1, e2] at this
          rw [this]
          simp
        rw [sw]
        obtain ⟨T1, T2, r1, r2, r3, r4⟩ := ins_in (N := N) (a := a) (b := b) (x2 := x2) (es := es) (B := B) (v8 := v8) (m0 := m0) (A := A) (S2 := [y] ++ S2) (R := R) (x := x) ha n S0 (by simp at h; omega) (by simp; omega)
        refine ⟨T1, T2 ++ [y], by rw [r1]; simp, fun z hz => ?_, r3, ?_⟩
        · rcases List.mem_append.1 hz with hz | hz
          · exact r2 z hz
          · obtain rfl : z = y := by simpa using hz
            exact hc
        · have : ((a + S0.length : Nat) : Int) = ((A.length + S0.length : Nat) : Int) := by rw [ha]
          rw [this] at r4
          rw [r4]
          simp
  termination_by n => n

theorem ins_out {N : Nat} {A W R es : List D} (hN : W.length < N) (hb : A.length + W.length + R.length ≤ 2147483648) : ∀ (n k : Nat), 1 ≤ k → W.length + 1 - k < n → k ≤ W.length + 1 →
    t54_lp1 Tryd.prog Tryd.f54 N n (A.length : Int) ((A.length + W.length : Nat) : Int) es ((A.length + k : Nat) : Int) (A ++ (sortK keyE (W.take k) ++ (W.drop k ++ R))) = some (unitR, rowR (A ++ sortK keyE W ++ R))
  | 0, k, _, h, _ => by omega
  | n + 1, k, h1, h, hk => by
    rw [t54_lp1_step]
    by_cases hlt : k < W.length
    · have g1 : decide (((A.length + k : Nat) : Int) < ((A.length + W.length : Nat) : Int)) = true := by simp; omega
      rw [g1, cond_true]
      have hd : W.drop k = W[k] :: W.drop (k + 1) := List.drop_eq_getElem_cons hlt
      have hs : (sortK keyE (W.take k)).length = k := by rw [sortK_len]; simp; omega
      obtain ⟨T1, T2, r1, r2, r3, r4⟩ := ins_in (N := N) (a := A.length) (b := 0) (x2 := ((A.length + W.length : Nat) : Int)) (es := es) (B := A ++ (sortK keyE (W.take k) ++ (W.drop k ++ R))) (v8 := ((A.length + k : Nat) : Int)) (m0 := n) (A := A) (S2 := []) (R := W.drop (k + 1) ++ R) (x := W[k]) rfl N (sortK keyE (W.take k)) (by rw [hs]; omega) (by rw [hs]; simp; omega)
      rw [hs] at r4
      have f1 : A ++ (sortK keyE (W.take k) ++ (W.drop k ++ R)) = A ++ (sortK keyE (W.take k) ++ W[k] :: ([] ++ (W.drop (k + 1) ++ R))) := by rw [hd]; simp only [List.nil_append, List.cons_append]
      rw [f1] at r4 ⊢
      rw [r4]
      have w1 : IntKind.wrap .i64 (((A.length + k : Nat) : Int) + 1) = ((A.length + (k + 1) : Nat) : Int) := by rw [l_wrapI (l_in (by omega) (by omega))]; omega
      have hsrt := sortK_srt (key := keyE) (W.take k)
      have hnew : T1 ++ W[k] :: T2 = sortK keyE (W.take (k + 1)) := by
        have h3 : ∀ y ∈ T1, klt (keyE W[k]) (keyE y) = false := by
          rcases r3 with rfl | ⟨T0, y, rfl, hy⟩
          · simp
          · intro z hz
            rw [r1] at hsrt
            have hz' := (srt_app.1 (srt_app.1 hsrt).1).2.2
            rcases List.mem_append.1 hz with hz | hz
            · exact nlt_trans (hz' z hz y (by simp)) hy
            · obtain rfl : z = y := by simpa using hz
              exact hy
        obtain ⟨q1, q2⟩ := move_back (key := keyE) (S1 := T1) (S2 := T2) (x := W[k]) (by rw [← r1]; exact hsrt) r2 h3
        refine sortK_eq q1 (q2.trans ?_)
        rw [← r1, List.take_succ_eq_append_getElem hlt]
        exact SEq.app (sortK_seq _) (SEq.refl _)
      have f2 : A ++ (T1 ++ W[k] :: (T2 ++ ([] ++ (W.drop (k + 1) ++ R)))) = A ++ (sortK keyE (W.take (k + 1)) ++ (W.drop (k + 1) ++ R)) := by rw [← hnew]; simp
      rw [w1, f2]
      exact ins_out hN hb n (k + 1) (by omega) (by omega) (by omega)
    · have g1 : decide (((A.length + k : Nat) : Int) < ((A.length + W.length : Nat) : Int)) = false := by simp; omega
      have e1 : W.take k = W := List.take_of_length_le (by omega)
      have e2 : W.drop k = [] := List.drop_of_length_le (by omega)
      rw [g1, cond_false, e1, e2]
      simp [unitR, rowR]

def a54 : List AV := [bxp OID 42, dat 3 .nil, dat 3 .nil, dat 50 .nil]
def b54 : List Ent := [⟨42, .nil, 3, none⟩]
def isF (d : D) : Bool := match fnD d with | some f => f == 20 | none => false
def q54 (ds hs : List D) : Bool := match ds, hs with
  | [_, a, b, f], [e] => isF f && insOK (elemsD e) (intD a) (intD b)
  | _, _ => false
def g54 (ds hs : List D) : HRes := match ds, hs with
  | [_, a, b, _], [e] => some (unitR, rowR (insL (elemsD e) (intD a) (intD b)))
  | _, _ => none
def h54 : HEnt := (54, 0, preH a54 b54 q54, entH a54 b54 g54)
theorem k54 : FnOK Tryd.prog 54 Tryd.f54 := ⟨Tryd.func54, rfl, by kernel_rfl⟩
theorem uCmp : ∃ p q r, Tryd.prog.underlying 50 = some (.func p q r) := ⟨_, _, _, Tryd.underlying50⟩
theorem isF_eq {n : Nat} {d : D} (h : Ty Tryd.prog n 50 d) (hf : isF d = true) : d = .held (.func (.func 20) #[] #[]) := by
  obtain ⟨p, q, r, hu⟩ := uCmp
  unfold isF at hf
  split at hf
  · rename_i f hfd
    have := ty25 hu h hfd
    rw [beq_iff_eq] at hf
    rw [hf] at this
    exact this
  · cases hf
theorem c54 : ∀ args hh r h', preH a54 b54 q54 args hh = true → entH a54 b54 g54 args hh = some (r, h') → HCallOK Tryd.prog 54 args hh r h' := by
  refine entH_ok rfl rfl fun ds es r h' hq hd => ?_
  unfold q54 at hq
  split at hq
  · rename_i z a b f e
    cases hd
    rw [Bool.and_eq_true] at hq
    refine HCallOK.typedR k54.ex fun ht _ hr => ?_
    obtain ⟨_, t1⟩ := ht (dat 3 a) (by simp [fillA, a54, dat, bxp]) rfl
    obtain ⟨_, t2⟩ := ht (dat 3 b) (by simp [fillA, a54, dat, bxp]) rfl
    obtain ⟨_, t3⟩ := ht (dat 50 f) (by simp [fillA, a54, dat, bxp]) rfl
    obtain ⟨el, l, _, hl, _⟩ := hr ⟨42, e, 3, none⟩ (by simp [fillE, b54]) (by simp)
    have hl : e = .slice l [] := hl
    subst hl
    obtain ⟨i1, rfl, _⟩ := ty3' t1
    obtain ⟨i2, rfl, _⟩ := ty3' t2
    rw [isF_eq (show Ty Tryd.prog _ 50 f from t3) hq.1]
    have hq : insOK l i1 i2 = true := hq.2
    simp only [insOK, Bool.and_eq_true, decide_eq_true_eq] at hq
    obtain ⟨⟨⟨g1, g2⟩, g3⟩, g4⟩ := hq
    obtain ⟨A, hA⟩ : ∃ A : Nat, i1 = (A : Int) := ⟨i1.toNat, by omega⟩
    obtain ⟨B, hB⟩ : ∃ B : Nat, i2 = (B : Int) := ⟨i2.toNat, by omega⟩
    subst hA hB
    have hAB : A ≤ B := by omega
    have hBl : B ≤ l.length := by omega
    have hlA : (l.take A).length = A := by simp; omega
    have hlW := seg_len l hAB hBl
    have hsp := seg_split l hAB hBl
    refine fnH_ok hm envR3 k54 ((t54 (l.length + 3) (A : Int) (B : Int) l).trans ?_)
    have w1 : IntKind.wrap .i64 ((A : Int) + 1) = ((A + 1 : Nat) : Int) := by rw [l_wrapI (l_in (by omega) (by omega))]; omega
    rw [w1]
    have key := ins_out (N := l.length + 3) (A := l.take A) (W := seg A B l) (R := l.drop B) (es := l) (by rw [hlW]; omega) (by rw [hlA, hlW]; simp; omega) (l.length + 3) 1 (by omega) (by rw [hlW]; omega) (by omega)
    rw [hlA, hlW] at key
    have e1 : A + (B - A) = B := by omega
    have e2 : l.take A ++ (sortK keyE ((seg A B l).take 1) ++ ((seg A B l).drop 1 ++ l.drop B)) = l := by
      have : sortK keyE ((seg A B l).take 1) = (seg A B l).take 1 := by
        cases seg A B l with
        | nil => rfl
        | cons x m => rfl
      rw [this, ← List.append_assoc ((seg A B l).take 1), List.take_append_drop, ← List.append_assoc]
      exact hsp.symm
    rw [e1, e2] at key
    rw [key]
    have : insL l (A : Int) (B : Int) = l.take A ++ sortK keyE (seg A B l) ++ l.drop B := by
      unfold insL putSeg
      rw [Int.toNat_natCast, Int.toNat_natCast]
    show _ = some (unitR, rowR (insL l (A : Int) (B : Int)))
    rw [this]
  · cases hq

/-! ### swapRange -/
theorem swp_loop {N : Nat} {es P0 M R : List D} {n0 : Nat} (hb : P0.length + n0 + M.length + n0 + R.length ≤ 2147483648) : ∀ (n i : Nat) (X1 X2 Y1 Y2 : List D), X1.length = i → Y1.length = i → i + X2.length = n0 → Y2.length = X2.length → n0 - i < n →
    t66_lp1 Tryd.prog Tryd.f66 N n (P0.length : Int) ((P0.length + n0 + M.length : Nat) : Int) (n0 : Int) es (i : Int) (P0 ++ Y1 ++ X2 ++ M ++ X1 ++ Y2 ++ R) = some (unitR, rowR (P0 ++ (Y1 ++ Y2) ++ M ++ (X1 ++ X2) ++ R))
  | 0, i, _, _, _, _, _, _, _, _, h => by omega
  | n + 1, i, X1, X2, Y1, Y2, h1, h2, h3, h4, h => by
    rw [t66_lp1_step]
    cases X2 with
    | nil =>
      have hy : Y2 = [] := List.length_eq_zero_iff.1 (by simpa using h4)
      subst hy
      have g1 : decide ((i : Int) < (n0 : Int)) = false := l_ge (by simp at h3; omega)
      rw [g1, cond_false]
      simp [unitR, rowR]
    | cons x X2 =>
      cases Y2 with
      | nil => simp at h4
      | cons y Y2 =>
        simp only [List.length_cons] at h3 h4
        have g1 : decide ((i : Int) < (n0 : Int)) = true := l_lt (by omega)
        have hlen : (P0 ++ Y1 ++ x :: X2 ++ M ++ X1 ++ y :: Y2 ++ R).length = P0.length + n0 + M.length + n0 + R.length := by simp; omega
        have w1 : IntKind.wrap .i64 (((P0.length + n0 + M.length : Nat) : Int) + (i : Int)) = ((P0.length + n0 + M.length + i : Nat) : Int) := by rw [l_wrapI (l_in (by omega) (by omega))]; omega
        have w2 : IntKind.wrap .i64 ((P0.length : Int) + (i : Int)) = ((P0.length + i : Nat) : Int) := by rw [l_wrapI (l_in (by omega) (by omega))]; omega
        have w3 : IntKind.wrap .i64 ((i : Int) + 1) = ((i + 1 : Nat) : Int) := by rw [l_wrapI (l_in (by omega) (by omega))]; omega
        have i1 : (decide (0 ≤ ((P0.length + n0 + M.length + i : Nat) : Int)) && decide (((P0.length + n0 + M.length + i : Nat) : Int) < ((P0 ++ Y1 ++ x :: X2 ++ M ++ X1 ++ y :: Y2 ++ R).length : Int))) = true := l_idx (by rw [hlen]; omega)
        have i2 : (decide (0 ≤ ((P0.length + i : Nat) : Int)) && decide (((P0.length + i : Nat) : Int) < ((P0 ++ Y1 ++ x :: X2 ++ M ++ X1 ++ y :: Y2 ++ R).length : Int))) = true := l_idx (by rw [hlen]; omega)
        rw [g1, cond_true, w1, w2, w3, i1, i2, List.length_set, i1]
        simp only [cond_true, Int.toNat_natCast]
        have f1 : P0 ++ Y1 ++ x :: X2 ++ M ++ X1 ++ y :: Y2 ++ R = (P0 ++ Y1) ++ x :: ((X2 ++ M ++ X1) ++ y :: (Y2 ++ R)) := by simp
        have sw := l_swap (P0 ++ Y1) (X2 ++ M ++ X1) (Y2 ++ R) x y (i := P0.length + i) (j := P0.length + n0 + M.length + i) (by simp; omega) (by simp; omega)
        rw [← f1] at sw
        rw [sw]
        have f2 : P0 ++ Y1 ++ y :: (X2 ++ M ++ X1 ++ x :: (Y2 ++ R)) = P0 ++ (Y1 ++ [y]) ++ X2 ++ M ++ (X1 ++ [x]) ++ Y2 ++ R := by simp
        rw [f2, swp_loop hb n (i + 1) (X1 ++ [x]) X2 (Y1 ++ [y]) Y2 (by simp; omega) (by simp; omega) (by omega) (by omega) (by omega)]
        simp
def a66 : List AV := [bxp OID 42, dat 3 .nil, dat 3 .nil, dat 3 .nil, dat 50 .nil]
def q66 (ds hs : List D) : Bool := match ds, hs with
  | [_, a, b, n, f], [e] => isF f && swpOK (elemsD e) (intD a) (intD b) (intD n)
  | _, _ => false
def g66 (ds hs : List D) : HRes := match ds, hs with
  | [_, a, b, n, _], [e] => some (unitR, rowR (swpL (elemsD e) (intD a) (intD b) (intD n)))
  | _, _ => none
def h66 : HEnt := (66, 0, preH a66 b54 q66, entH a66 b54 g66)
theorem k66 : FnOK Tryd.prog 66 Tryd.f66 := ⟨Tryd.func66, rfl, by kernel_rfl⟩
theorem c66 : ∀ args hh r h', preH a66 b54 q66 args hh = true → entH a66 b54 g66 args hh = some (r, h') → HCallOK Tryd.prog 66 args hh r h' := by
  refine entH_ok rfl rfl fun ds es r h' hq hd => ?_
  unfold q66 at hq
  split at hq
  · rename_i z a b m f e
    cases hd
    rw [Bool.and_eq_true] at hq
    refine HCallOK.typedR k66.ex fun ht _ hr => ?_
    obtain ⟨_, t1⟩ := ht (dat 3 a) (by simp [fillA, a66, dat, bxp]) rfl
    obtain ⟨_, t2⟩ := ht (dat 3 b) (by simp [fillA, a66, dat, bxp]) rfl
    obtain ⟨_, t4⟩ := ht (dat 3 m) (by simp [fillA, a66, dat, bxp]) rfl
    obtain ⟨_, t3⟩ := ht (dat 50 f) (by simp [fillA, a66, dat, bxp]) rfl
    obtain ⟨el, l, _, hl, _⟩ := hr ⟨42, e, 3, none⟩ (by simp [fillE, b54]) (by simp)
    have hl : e = .slice l [] := hl
    subst hl
    obtain ⟨i1, rfl, _⟩ := ty3' t1
    obtain ⟨i2, rfl, _⟩ := ty3' t2
    obtain ⟨i3, rfl, _⟩ := ty3' t4
    rw [isF_eq (show Ty Tryd.prog _ 50 f from t3) hq.1]
    have hq : swpOK l i1 i2 i3 = true := hq.2
    simp only [swpOK, Bool.and_eq_true, decide_eq_true_eq] at hq
    obtain ⟨⟨⟨⟨g1, g2⟩, g3⟩, g4⟩, g5⟩ := hq
    obtain ⟨A, hA⟩ : ∃ A : Nat, i1 = (A : Int) := ⟨i1.toNat, by omega⟩
    obtain ⟨B, hB⟩ : ∃ B : Nat, i2 = (B : Int) := ⟨i2.toNat, by omega⟩
    obtain ⟨n0, hn0⟩ : ∃ n0 : Nat, i3 = (n0 : Int) := ⟨i3.toNat, by omega⟩
    subst hA hB hn0
    have q1 : A + n0 ≤ B := by omega
    have q2 : B + n0 ≤ l.length := by omega
    obtain ⟨P0, X, M, Y, R, hl, hP, hX, hM, hY, hS⟩ := swp_split l q1 q2
    refine fnH_ok hm envR3 k66 ((t66 (n0 + 1) (A : Int) (B : Int) (n0 : Int) l).trans ?_)
    have hlen : P0.length + n0 + M.length + n0 + R.length ≤ 2147483648 := by
      have := congrArg List.length hl
      simp only [List.length_append] at this
      omega
    have key := swp_loop (N := n0 + 1) (es := l) (P0 := P0) (M := M) (R := R) (n0 := n0) hlen (n0 + 1) 0 [] X [] Y rfl rfl (by omega) (by omega) (by omega)
    have e1 : P0.length + n0 + M.length = B := by omega
    have e2 : P0 ++ [] ++ X ++ M ++ [] ++ Y ++ R = l := by rw [hl]; simp only [List.append_nil]
    rw [e1, e2, hP] at key
    refine key.trans ?_
    show _ = some (unitR, rowR (swpL l (A : Int) (B : Int) (n0 : Int)))
    rw [hS]
    rfl
  · cases hq

/-! ### IsSortedFunc -/
theorem iss_loop {N : Nat} {x0 : D} {q : Int} (hl : (elemsD x0).length ≤ maxLen) : ∀ (n i : Nat), i < (elemsD x0).length ∨ i = 0 → i < n →
    t24_lp2 Tryd.prog Tryd.f24 N n x0 q (i : Int) = some (dat 4 (.lit (.bool (adjB q ((elemsD x0).take (i + 1))))), [some ⟨3, .lit (.int .i64 q), 0, none⟩])
  | 0, i, _, h => by omega
  | n + 1, i, hi, h => by
    rw [t24_lp2_step]
    cases i with
    | zero =>
      have g1 : decide (((0 : Nat) : Int) > 0) = false := rfl
      rw [g1, cond_false]
      have : adjB q ((elemsD x0).take (0 + 1)) = true := by
        cases elemsD x0 with
        | nil => rfl
        | cons x m => rfl
      rw [this]
    | succ i =>
      have hlt : i + 1 < (elemsD x0).length := by omega
      have g1 : decide (((i + 1 : Nat) : Int) > 0) = true := by rw [decide_eq_true_eq]; omega
      have w1 : IntKind.wrap .i64 (((i + 1 : Nat) : Int) - 1) = (i : Int) := by rw [l_wrapI (by rw [inR_iff]; unfold maxLen at hl; omega)]; omega
      have i2 : (decide (0 ≤ (i : Int)) && decide ((i : Int) < ((elemsD x0).length : Int))) = true := l_idx (by omega)
      rw [g1, cond_true, l_idx hlt, cond_true, w1, i2, cond_true, against_lt, Int.toNat_natCast, Int.toNat_natCast, l_get hlt, l_get (by omega : i < (elemsD x0).length), iss_loop hl n i (by omega) (by omega)]
      have e1 : (elemsD x0).take (i + 1 + 1) = (elemsD x0).take i ++ [(elemsD x0)[i], (elemsD x0)[i + 1]] := by
        rw [List.take_succ_eq_append_getElem hlt, List.take_succ_eq_append_getElem (by omega : i < (elemsD x0).length)]
        simp only [List.append_assoc, List.cons_append, List.nil_append]
      have e2 : (elemsD x0).take (i + 1) = (elemsD x0).take i ++ [(elemsD x0)[i]] := List.take_succ_eq_append_getElem (by omega)
      rw [e1, e2, adj_snoc]
      show (bif klt (keyAt q (elemsD x0)[i + 1]) (keyAt q (elemsD x0)[i]) then _ else _) = _
      cases klt (keyAt q (elemsD x0)[i + 1]) (keyAt q (elemsD x0)[i]) <;> simp
def a24 : List AV := [dat 23 .nil, clo 54 25 [OID]]
def g24 (ds hs : List D) : HRes := match ds, hs with
  | [x, _], [q] => some (dat 4 (.lit (.bool (adjB (intD q) (elemsD x)))), [some ⟨3, q, 0, none⟩])
  | _, _ => none
def h24 : HEnt := (24, 4, preH a24 b25 (fun _ _ => true), entH a24 b25 g24)
theorem k24 : FnOK Tryd.prog 24 Tryd.f24 := ⟨Tryd.func24, rfl, by kernel_rfl⟩
theorem c24 : ∀ args hh r h', preH a24 b25 (fun _ _ => true) args hh = true → entH a24 b25 g24 args hh = some (r, h') → HCallOK Tryd.prog 24 args hh r h' := by
  refine entH_ok rfl rfl fun ds es r h' _ hd => ?_
  unfold g24 at hd
  split at hd
  · rename_i x z q
    cases hd
    refine HCallOK.typedR k24.ex fun ht hb _ => ?_
    obtain ⟨_, t1⟩ := ht (dat 23 x) (by simp [fillA, a24, dat, clo]) rfl
    obtain ⟨n, hn⟩ := hb ⟨3, q, 0, none⟩ (by simp [fillE, b25]) rfl rfl
    obtain ⟨w, rfl, _⟩ := ty3' hn
    have hl : (elemsD x).length ≤ maxLen := lenR t1
    refine fnH_ok hm envR3 k24 ((t24 ((elemsD x).length + 1) x w).trans ?_)
    by_cases h0 : (elemsD x).length = 0
    · have hx : elemsD x = [] := List.length_eq_zero_iff.1 h0
      have w1 : IntKind.wrap .i64 (((elemsD x).length : Int) - 1) = -1 := by rw [h0]; rfl
      rw [w1, t24_lp2_step, hx]
      rfl
    · have w1 : IntKind.wrap .i64 (((elemsD x).length : Int) - 1) = (((elemsD x).length - 1 : Nat) : Int) := by rw [l_wrapI (by rw [inR_iff]; unfold maxLen at hl; omega)]; omega
      rw [w1, iss_loop hl ((elemsD x).length + 1) ((elemsD x).length - 1) (by omega) (by omega)]
      have : (elemsD x).take ((elemsD x).length - 1 + 1) = elemsD x := List.take_of_length_le (by omega)
      rw [this]
      rfl
  · cases hd

def H4 : HTab := [h54, h66, h24]
theorem envH4 : EnvOK Tryd.prog (envR B3 H4 R3 []) := envOK_consH (envOK_consH (envOK_consH envR3 c24) c66) c54

end Go.Proofs.YtbidfbpaeemhhaaDoor

namespace Go.Proofs.YtbidfbpaeemhhaaDoor
open Go.Ev
set_option linter.unusedVariables false
/- slices.rotateCmpFunc[roadbook/bag.ranked] -/
def t64_h : Hints := fun i => if i = 2 then some ([1, 3, 5, 6, 7, 8, 9, 12, 13, 14, 15, 16, 17, 18, 19, 20, 21, 22, 23, 24, 25, 26, 27, 28, 29, 30, 31, 32, 33, 34, 35, 36, 37, 38, 39, 40, 41, 42, 43, 44, 45, 46, 47, 48, 49, 50, 51, 52, 53, 54, 55, 56, 57], [1000000], []) else none
def t64_lp2 (P : Program) (fn : Func) (N n : Nat) (x1 : Int) (x2 : Int) (x3 : Int) (es : List D) (v10 : Int) (v11 : Int) (b1000000 : List D) : Option (AV × List (Option Ent)) := evLoop (preL t64_h (sub [1, 1, 0, 0, 0] (bodyOf fn))) (evCode P (envR B3 H4 R3 []) t64_h N (sub [1, 1, 0, 0, 0] (bodyOf fn))) n ⟨[bxp 1000000 42, dead, dat 3 (.lit (.int .i64 x2)), dead, dat 50 (.held (.func (.func 20) #[] #[])), dead, dead, dead, dead, dead, dat 3 (.lit (.int .i64 v10)), dat 3 (.lit (.int .i64 v11)), dead, dead, dead, dead, dead, dead, dead, dead, dead, dead, dead, dead, dead, dead, dead, dead, dead, dead, dead, dead, dead, dead, dead, dead, dead, dead, dead, dead, dead, dead, dead, dead, dead, dead, dead, dead, dead, dead, dead, dead, dead, dead, dead, dead, dead, dead], lookB [(1000000, some ⟨42, .slice b1000000 [], 3, none⟩)]⟩ (blockK 0 (seqC P (envR B3 H4 R3 []) t64_h N (sub [1, 1, 1] (bodyOf fn)) (finH P fn 1) ))
theorem t64_lp2_step  (N n : Nat) (x1 : Int) (x2 : Int) (x3 : Int) (es : List D) (v10 : Int) (v11 : Int) (b1000000 : List D) : t64_lp2 Tryd.prog Tryd.f64 N (n + 1) x1 x2 x3 es v10 v11 b1000000 =
  bif (v10 != v11) then
    bif decide (v10 > v11) then
      bif swpOK b1000000 (IntKind.wrap .i64 (x2 - v10)) x2 v11 then
        t64_lp2 Tryd.prog Tryd.f64 N n x1 x2 x3 es (IntKind.wrap .i64 (v10 - v11)) v11 (swpL b1000000 (IntKind.wrap .i64 (x2 - v10)) x2 v11)
      else none
    else bif swpOK b1000000 (IntKind.wrap .i64 (x2 - v10)) (IntKind.wrap .i64 ((IntKind.wrap .i64 (x2 + v11)) - v10)) v10 then
        t64_lp2 Tryd.prog Tryd.f64 N n x1 x2 x3 es v10 (IntKind.wrap .i64 (v11 - v10)) (swpL b1000000 (IntKind.wrap .i64 (x2 - v10)) (IntKind.wrap .i64 ((IntKind.wrap .i64 (x2 + v11)) - v10)) v10)
      else none
  else bif swpOK b1000000 (IntKind.wrap .i64 (x2 - v10)) x2 v10 then
      some (tupA [] (.agg []), [some ⟨42, .slice (swpL b1000000 (IntKind.wrap .i64 (x2 - v10)) x2 v10) [], 3, none⟩])
    else none := by kernel_rfl
theorem t64 (N : Nat) (x1 : Int) (x2 : Int) (x3 : Int) (es : List D) : evFnH Tryd.prog (envR B3 H4 R3 []) t64_h N Tryd.f64 [bxp 1000000 42, dat 3 (.lit (.int .i64 x1)), dat 3 (.lit (.int .i64 x2)), dat 3 (.lit (.int .i64 x3)), dat 50 (.held (.func (.func 20) #[] #[]))] [⟨42, .slice es [], 3, none⟩] =
  t64_lp2 Tryd.prog Tryd.f64 N N x1 x2 x3 es (IntKind.wrap .i64 (x2 - x1)) (IntKind.wrap .i64 (x3 - x2)) es := by kernel_rfl

/- roadbook/bag.Sorted -/
def t9_h : Hints := fun _ =>  none
theorem t9 (N : Nat) (x0 : D) (x1 : Int) : evFn Tryd.prog (envR B3 H4 R3 []) t9_h N Tryd.f9 [dat 25 x0, dat 3 (.lit (.int .i64 x1))] =
  some (dat 4 (.lit (.bool (adjB (Lib.idxOf ((elemsD (fieldD x0 0)).map intD) x1) (elemsD (fieldD x0 1)))))) := by kernel_rfl

end Go.Proofs.YtbidfbpaeemhhaaDoor

namespace Go.Proofs.YtbidfbpaeemhhaaDoor
open Go.Ev
set_option linter.unusedVariables false
set_option maxRecDepth 10000
set_option linter.unusedSimpArgs false

theorem rot_loop {N : Nat} {es : List D} {x1 x3 : Int} {m : Nat} : ∀ (n : Nat) (P0 X Y R : List D), P0.length + X.length = m → 0 < X.length → 0 < Y.length → X.length + Y.length < n → (P0 ++ X ++ Y ++ R).length ≤ 2147483648 →
    t64_lp2 Tryd.prog Tryd.f64 N n x1 (m : Int) x3 es (X.length : Int) (Y.length : Int) (P0 ++ X ++ Y ++ R) = some (unitR, rowR (P0 ++ Y ++ X ++ R))
  | 0, _, _, _, _, _, _, _, h, _ => by omega
  | n + 1, P0, X, Y, R, h1, hx, hy, h, hbig => by
    have hbig' := hbig
    simp only [List.length_append] at hbig'
    rw [t64_lp2_step]
    have w1 : IntKind.wrap .i64 ((m : Int) - (X.length : Int)) = (P0.length : Int) := by rw [l_wrapI (l_in (by omega) (by omega))]; omega
    rw [w1]
    by_cases he : X.length = Y.length
    · have f1 : P0 ++ X ++ Y ++ R = P0 ++ X ++ [] ++ Y ++ R := by simp
      rw [l_nef he, cond_false, f1, swpOK_of P0 X [] Y R rfl rfl (by simp; omega) he.symm (by rw [← f1]; exact hbig), cond_true, swpL_of P0 X [] Y R rfl rfl (by simp; omega) he.symm]
      simp [unitR, rowR]
    · rw [l_net he, cond_true]
      by_cases hgt : Y.length < X.length
      · have g1 : decide ((X.length : Int) > (Y.length : Int)) = true := by simp; omega
        have hU : (X.take Y.length).length = Y.length := by simp; omega
        have hV : (X.drop Y.length).length = X.length - Y.length := by simp
        have f1 : P0 ++ X ++ Y ++ R = P0 ++ X.take Y.length ++ X.drop Y.length ++ Y ++ R := by
          rw [List.append_assoc P0 (X.take Y.length), List.take_append_drop]
        have w2 : IntKind.wrap .i64 ((X.length : Int) - (Y.length : Int)) = ((X.drop Y.length).length : Int) := by rw [l_wrapI (l_in (by omega) (by omega)), hV]; omega
        rw [g1, cond_true, f1, swpOK_of P0 (X.take Y.length) (X.drop Y.length) Y R rfl (by rw [hU]) (by rw [hU, hV]; omega) hU.symm (by rw [← f1]; exact hbig), cond_true,
          swpL_of P0 (X.take Y.length) (X.drop Y.length) Y R rfl (by rw [hU]) (by rw [hU, hV]; omega) hU.symm, w2]
        have key := rot_loop (N := N) (es := es) (x1 := x1) (x3 := x3) (m := m) n (P0 ++ Y) (X.drop Y.length) (X.take Y.length) R (by simp; omega) (by rw [hV]; omega) (by rw [hU]; omega) (by rw [hU, hV]; omega) (by simp; omega)
        rw [hU] at key
        rw [key]
        simp [List.append_assoc]
      · have g1 : decide ((X.length : Int) > (Y.length : Int)) = false := by simp; omega
        have hU : (Y.take (Y.length - X.length)).length = Y.length - X.length := by simp
        have hV : (Y.drop (Y.length - X.length)).length = X.length := by simp; omega
        have f1 : P0 ++ X ++ Y ++ R = P0 ++ X ++ Y.take (Y.length - X.length) ++ Y.drop (Y.length - X.length) ++ R := by
          rw [List.append_assoc (P0 ++ X) (Y.take (Y.length - X.length)), List.take_append_drop]
        have w2 : IntKind.wrap .i64 ((Y.length : Int) - (X.length : Int)) = ((Y.take (Y.length - X.length)).length : Int) := by rw [l_wrapI (l_in (by omega) (by omega)), hU]; omega
        have w3 : IntKind.wrap .i64 (IntKind.wrap .i64 ((m : Int) + (Y.length : Int)) - (X.length : Int)) = ((P0.length + X.length + (Y.take (Y.length - X.length)).length : Nat) : Int) := by
          have w4 : IntKind.wrap .i64 ((m : Int) + (Y.length : Int)) = (m : Int) + (Y.length : Int) := l_wrapI (l_in (by omega) (by omega))
          rw [w4, l_wrapI (l_in (by omega) (by omega)), hU]; omega
        rw [g1, cond_false, w3, f1, swpOK_of P0 X (Y.take (Y.length - X.length)) (Y.drop (Y.length - X.length)) R rfl rfl rfl hV (by rw [← f1]; exact hbig), cond_true,
          swpL_of P0 X (Y.take (Y.length - X.length)) (Y.drop (Y.length - X.length)) R rfl rfl rfl hV, w2]
        have f2 : P0 ++ Y.drop (Y.length - X.length) ++ Y.take (Y.length - X.length) ++ X ++ R = P0 ++ Y.drop (Y.length - X.length) ++ Y.take (Y.length - X.length) ++ (X ++ R) := by simp
        have key := rot_loop (N := N) (es := es) (x1 := x1) (x3 := x3) (m := m) n P0 (Y.drop (Y.length - X.length)) (Y.take (Y.length - X.length)) (X ++ R) (by rw [hV]; omega) (by rw [hV]; omega) (by rw [hU]; omega) (by rw [hU, hV]; omega) (by simp; omega)
        rw [hV] at key
        rw [f2, key]
        simp [List.append_assoc]
def q64 (ds hs : List D) : Bool := match ds, hs with
  | [_, a, m, b, f], [e] => isF f && rotOK (elemsD e) (intD a) (intD m) (intD b)
  | _, _ => false
def g64 (ds hs : List D) : HRes := match ds, hs with
  | [_, a, m, b, _], [e] => some (unitR, rowR (rotL (elemsD e) (intD a) (intD m) (intD b)))
  | _, _ => none
def h64 : HEnt := (64, 0, preH a66 b54 q64, entH a66 b54 g64)
theorem k64 : FnOK Tryd.prog 64 Tryd.f64 := ⟨Tryd.func64, rfl, by kernel_rfl⟩
theorem c64 : ∀ args hh r h', preH a66 b54 q64 args hh = true → entH a66 b54 g64 args hh = some (r, h') → HCallOK Tryd.prog 64 args hh r h' := by
  refine entH_ok rfl rfl fun ds es r h' hq hd => ?_
  unfold q64 at hq
  split at hq
  · rename_i z a b m f e
    cases hd
    rw [Bool.and_eq_true] at hq
    refine HCallOK.typedR k64.ex fun ht _ hr => ?_
    obtain ⟨_, t1⟩ := ht (dat 3 a) (by simp [fillA, a66, dat, bxp]) rfl
    obtain ⟨_, t2⟩ := ht (dat 3 b) (by simp [fillA, a66, dat, bxp]) rfl
    obtain ⟨_, t4⟩ := ht (dat 3 m) (by simp [fillA, a66, dat, bxp]) rfl
    obtain ⟨_, t3⟩ := ht (dat 50 f) (by simp [fillA, a66, dat, bxp]) rfl
    obtain ⟨el, l, _, hl, _⟩ := hr ⟨42, e, 3, none⟩ (by simp [fillE, b54]) (by simp)
    have hl : e = .slice l [] := hl
    subst hl
    obtain ⟨i1, rfl, _⟩ := ty3' t1
    obtain ⟨i2, rfl, _⟩ := ty3' t2
    obtain ⟨i3, rfl, _⟩ := ty3' t4
    rw [isF_eq (show Ty Tryd.prog _ 50 f from t3) hq.1]
    have hq : rotOK l i1 i2 i3 = true := hq.2
    simp only [rotOK, Bool.and_eq_true, decide_eq_true_eq] at hq
    obtain ⟨⟨⟨⟨g1, g2⟩, g3⟩, g4⟩, g5⟩ := hq
    obtain ⟨A, hA⟩ : ∃ A : Nat, i1 = (A : Int) := ⟨i1.toNat, by omega⟩
    obtain ⟨M, hM⟩ : ∃ M : Nat, i2 = (M : Int) := ⟨i2.toNat, by omega⟩
    obtain ⟨B, hB⟩ : ∃ B : Nat, i3 = (B : Int) := ⟨i3.toNat, by omega⟩
    subst hA hM hB
    obtain ⟨P0, X, Y, R, hl, hP, hX, hY, hS, _⟩ := rot_split l (A := A) (M := M) (B := B) (by omega) (by omega) (by omega)
    refine fnH_ok hm envH4 k64 ((t64 (l.length + 1) (A : Int) (M : Int) (B : Int) l).trans ?_)
    have w1 : IntKind.wrap .i64 ((M : Int) - (A : Int)) = (X.length : Int) := by rw [l_wrapI (l_in (by omega) (by omega))]; omega
    have w2 : IntKind.wrap .i64 ((B : Int) - (M : Int)) = (Y.length : Int) := by rw [l_wrapI (l_in (by omega) (by omega))]; omega
    have key := rot_loop (N := l.length + 1) (es := l) (x1 := (A : Int)) (x3 := (B : Int)) (m := M) (l.length + 1) P0 X Y R (by omega) (by omega) (by omega) (by omega) (by rw [← hl]; exact g5)
    rw [← hl] at key
    rw [w1, w2, key]
    show _ = some (unitR, rowR (rotL l (A : Int) (M : Int) (B : Int)))
    rw [hS]
  · cases hq

def e9 : FuncId × TypeId × (List AV → Bool) × (List AV → Option D) := (9, 4, yes, ent [25, 3] (f2 fun x y => some (.lit (.bool (sortedB x (intD y))))))
theorem k9 : FnOK Tryd.prog 9 Tryd.f9 := ⟨Tryd.func9, rfl, by kernel_rfl⟩
theorem c9 : ∀ args d, e9.2.2.2 args = some d → CallOK Tryd.prog 9 args (mkRes Tryd.prog 4 d) :=
  ent2 k9 fun x y d h _ _ => by
    cases h
    rw [nB, n3]
    refine fn_ok hm envH4 k9 ((t9 1 x (intD y)).trans ?_)
    rw [m4]
    rfl

def q55 (K : Nat) (ds hs : List D) : Bool := match ds, hs with
  | [_, a, m, b, f], [e] => isF f && symOK K (elemsD e) (intD a) (intD m) (intD b)
  | _, _ => false
def g55 (ds hs : List D) : HRes := match ds, hs with
  | [_, a, m, b, _], [e] => some (unitR, rowR (insL (elemsD e) (intD a) (intD b)))
  | _, _ => none
def h55 (K : Nat) : HEnt := (55, 0, preH a66 b54 (q55 K), entH a66 b54 g55)
def H5 (K : Nat) : HTab := h55 K :: h64 :: H4
theorem envH5r : EnvOK Tryd.prog (envR B3 (h64 :: H4) R3 []) := envOK_consH envH4 c64

end Go.Proofs.YtbidfbpaeemhhaaDoor
