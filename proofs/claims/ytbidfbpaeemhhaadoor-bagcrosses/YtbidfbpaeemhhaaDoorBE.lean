/- Layer 3: what the rest of the functions answer. Nothing here is trusted. -/
import Derived.Test.YtbidfbpaeemhhaaDoorBC
import Derived.Test.YtbidfbpaeemhhaaDoorV2
namespace Go.Proofs.YtbidfbpaeemhhaaDoor
open Go.Ev
set_option linter.unusedVariables false
set_option maxRecDepth 10000

def a43 : List AV := [bxp OID 42, dat 3 .nil, dat 50 .nil]
def q43 (ds hs : List D) : Bool := match ds, hs with
  | [_, n, f], [e] => isF f && stbOK (elemsD e) (intD n)
  | _, _ => false
def g43 (ds hs : List D) : HRes := match ds, hs with
  | [_, _, _], [e] => some (unitR, rowR (sortK keyE (elemsD e)))
  | _, _ => none
def h43 : HEnt := (43, 0, preH a43 b54 q43, entH a43 b54 g43)
def H6 : HTab := h43 :: H5 kBig
def a19 : List AV := [bxp OID 42, dat 50 .nil]
def q19 (ds hs : List D) : Bool := match ds, hs with
  | [_, f], [e] => isF f && decide ((elemsD e).length ≤ 2147483648)
  | _, _ => false
def g19 (ds hs : List D) : HRes := match ds, hs with
  | [_, _], [e] => some (unitR, rowR (sortK keyE (elemsD e)))
  | _, _ => none
def h19 : HEnt := (19, 0, preH a19 b54 q19, entH a19 b54 g19)
def H7 : HTab := h19 :: H6
def e8 : FuncId × TypeId × (List AV → Bool) × (List AV → Option D) := (8, 25, preD (q2 fun x _ => sortOK x), ent [25, 3] (f2 fun x y => some (sortBag x (intD y))))
def B5 : Tab := e8 :: e9 :: B3
def e14 : FuncId × TypeId × (List AV → Bool) × (List AV → Option D) := (14, 30, yes, ent [25, 3, 22] (f3 fun x y z => some (.agg [groupBag x (intD y) (elemsD z), .lit (.bool (groupOK x (intD y) (elemsD z)))])))
def B6 : Tab := e14 :: B5
def e6 : FuncId × TypeId × (List AV → Bool) × (List AV → Option D) := (6, 4, yes, ent [] (f0 (some (.lit (.bool true)))))
def B7 : Tab := e6 :: B6

end Go.Proofs.YtbidfbpaeemhhaaDoor

namespace Go.Proofs.YtbidfbpaeemhhaaDoor
open Go.Ev
set_option linter.unusedVariables false
/- slices.stableCmpFunc[roadbook/bag.ranked] -/
def t43_h : Hints := fun i => if i = 2 then some ([3, 4, 5, 9, 10, 11, 12, 13, 14, 15, 16, 17, 18, 19, 20, 21, 22, 23, 24, 25, 26, 27, 28, 29, 30, 31, 32, 33, 34, 35, 36, 37, 38, 39, 40, 41, 42, 43, 44, 45, 46, 47, 48, 49, 50, 51, 52, 53, 54, 55, 56, 57, 58, 59, 60, 61, 62], [1000000], []) else if i = 7 then some ([3, 4, 5, 7, 8, 9, 10, 11, 12, 13, 14, 15, 16, 17, 18, 19, 20, 21, 22, 23, 24, 25, 26, 27, 28, 29, 30, 31, 32, 33, 34, 35, 36, 37, 38, 39, 40, 41, 42, 43, 44, 45, 46, 47, 48, 49, 50, 51, 52, 53, 54, 55, 56, 57, 58, 59, 60, 61, 62], [1000000], []) else if i = 9 then some ([3, 4, 5, 9, 10, 11, 12, 13, 14, 15, 16, 17, 18, 19, 20, 21, 22, 23, 24, 25, 26, 27, 28, 29, 30, 31, 32, 33, 34, 35, 36, 37, 38, 39, 40, 41, 42, 43, 44, 45, 46, 47, 48, 49, 50, 51, 52, 53, 54, 55, 56, 57, 58, 59, 60, 61, 62], [1000000], []) else none
def t43_lp2 (P : Program) (fn : Func) (N n : Nat) (x1 : Int) (es : List D) (v7 : Int) (v8 : Int) (b1000000 : List D) : Option (AV × List (Option Ent)) := evLoop (preL t43_h (sub [1, 1, 0, 0, 0] (bodyOf fn))) (evCode P (envR B3 (H5 kBig) R3 []) t43_h N (sub [1, 1, 0, 0, 0] (bodyOf fn))) n ⟨[bxp 1000000 42, dat 3 (.lit (.int .i64 x1)), dat 50 (.held (.func (.func 20) #[] #[])), dead, dead, dead, dat 3 (.lit (.int .i64 20)), dat 3 (.lit (.int .i64 v7)), dat 3 (.lit (.int .i64 v8)), dead, dead, dead, dead, dead, dead, dead, dead, dead, dead, dead, dead, dead, dead, dead, dead, dead, dead, dead, dead, dead, dead, dead, dead, dead, dead, dead, dead, dead, dead, dead, dead, dead, dead, dead, dead, dead, dead, dead, dead, dead, dead, dead, dead, dead, dead, dead, dead, dead, dead, dead, dead, dead, dead], lookB [(1000000, some ⟨42, .slice b1000000 [], 3, none⟩)]⟩ (blockK 0 (seqC P (envR B3 (H5 kBig) R3 []) t43_h N (sub [1, 1, 1] (bodyOf fn)) (finH P fn 1) ))
def t43_lp7 (P : Program) (fn : Func) (N n : Nat) (x1 : Int) (es : List D) (v7 : Int) (v8 : Int) (b1000000 : List D) (m0 : Nat) (v6 : Int) (b1000000q : List D) : Option (AV × List (Option Ent)) := evLoop (preL t43_h (sub [1, 1, 1, 1, 0, 0] (bodyOf fn))) (evCode P (envR B3 (H5 kBig) R3 []) t43_h N (sub [1, 1, 1, 1, 0, 0] (bodyOf fn))) n ⟨[bxp 1000000 42, dat 3 (.lit (.int .i64 x1)), dat 50 (.held (.func (.func 20) #[] #[])), dead, dead, dead, dat 3 (.lit (.int .i64 v6)), dead, dead, dead, dead, dead, dead, dead, dead, dead, dead, dead, dead, dead, dead, dead, dead, dead, dead, dead, dead, dead, dead, dead, dead, dead, dead, dead, dead, dead, dead, dead, dead, dead, dead, dead, dead, dead, dead, dead, dead, dead, dead, dead, dead, dead, dead, dead, dead, dead, dead, dead, dead, dead, dead, dead, dead], lookB [(1000000, some ⟨42, .slice b1000000q [], 3, none⟩)]⟩ (blockK 2 (finH P fn 1))
def t43_lp9 (P : Program) (fn : Func) (N n : Nat) (x1 : Int) (es : List D) (v7 : Int) (v8 : Int) (b1000000 : List D) (m0 : Nat) (v6 : Int) (b1000000q : List D) (m1 : Nat) (v7q : Int) (v8q : Int) (b1000000qq : List D) : Option (AV × List (Option Ent)) := evLoop (preL t43_h (sub [1, 1, 1, 1, 0, 0, 1, 0, 1, 0, 0, 0] (bodyOf fn))) (evCode P (envR B3 (H5 kBig) R3 []) t43_h N (sub [1, 1, 1, 1, 0, 0, 1, 0, 1, 0, 0, 0] (bodyOf fn))) n ⟨[bxp 1000000 42, dat 3 (.lit (.int .i64 x1)), dat 50 (.held (.func (.func 20) #[] #[])), dead, dead, dead, dat 3 (.lit (.int .i64 v6)), dat 3 (.lit (.int .i64 v7q)), dat 3 (.lit (.int .i64 v8q)), dead, dead, dead, dead, dead, dead, dead, dead, dead, dead, dead, dead, dead, dead, dead, dead, dead, dead, dead, dead, dead, dead, dead, dead, dead, dead, dead, dead, dead, dead, dead, dead, dead, dead, dead, dead, dead, dead, dead, dead, dead, dead, dead, dead, dead, dead, dead, dead, dead, dead, dead, dead, dead, dead], lookB [(1000000, some ⟨42, .slice b1000000qq [], 3, none⟩)]⟩ (blockK 4 (seqC P (envR B3 (H5 kBig) R3 []) t43_h N (sub [1, 1, 1, 1, 0, 0, 1, 0, 1, 1] (bodyOf fn)) (blockK 3 (seqK (fun s => evLoop (preL t43_h (sub [1, 1, 1, 1, 0, 0] (bodyOf fn))) (evCode P (envR B3 (H5 kBig) R3 []) t43_h N (sub [1, 1, 1, 1, 0, 0] (bodyOf fn))) m1 ((preL t43_h (sub [1, 1, 1, 1, 0, 0] (bodyOf fn))) s) (blockK 2 (finH P fn 1))) (blockK 2 (finH P fn 1)))) ))
theorem t43_lp9_step  (N n : Nat) (x1 : Int) (es : List D) (v7 : Int) (v8 : Int) (b1000000 : List D) (m0 : Nat) (v6 : Int) (b1000000q : List D) (m1 : Nat) (v7q : Int) (v8q : Int) (b1000000qq : List D) : t43_lp9 Tryd.prog Tryd.f43 N (n + 1) x1 es v7 v8 b1000000 m0 v6 b1000000q m1 v7q v8q b1000000qq =
  bif decide (v8q ≤ x1) then
    bif symOK kBig b1000000qq v7q (IntKind.wrap .i64 (v7q + v6)) v8q then
      t43_lp9 Tryd.prog Tryd.f43 N n x1 es v7 v8 b1000000 m0 v6 b1000000q m1 v8q (IntKind.wrap .i64 (v8q + (IntKind.wrap .i64 (2 * v6)))) (insL b1000000qq v7q v8q)
    else none
  else bif decide ((IntKind.wrap .i64 (v7q + v6)) < x1) then
      bif symOK kBig b1000000qq v7q (IntKind.wrap .i64 (v7q + v6)) x1 then
        t43_lp7 Tryd.prog Tryd.f43 N m1 x1 es v7 v8 b1000000 m0 (IntKind.wrap .i64 (v6 * 2)) (insL b1000000qq v7q x1)
      else none
    else t43_lp7 Tryd.prog Tryd.f43 N m1 x1 es v7 v8 b1000000 m0 (IntKind.wrap .i64 (v6 * 2)) b1000000qq := by kernel_rfl
theorem t43_lp7_step  (N n : Nat) (x1 : Int) (es : List D) (v7 : Int) (v8 : Int) (b1000000 : List D) (m0 : Nat) (v6 : Int) (b1000000q : List D) : t43_lp7 Tryd.prog Tryd.f43 N (n + 1) x1 es v7 v8 b1000000 m0 v6 b1000000q =
  bif decide (v6 < x1) then
    t43_lp9 Tryd.prog Tryd.f43 N N x1 es v7 v8 b1000000 m0 v6 b1000000q n 0 (IntKind.wrap .i64 (2 * v6)) b1000000q
  else some (tupA [] (.agg []), [some ⟨42, .slice b1000000q [], 3, none⟩]) := by kernel_rfl
theorem t43_lp2_step  (N n : Nat) (x1 : Int) (es : List D) (v7 : Int) (v8 : Int) (b1000000 : List D) : t43_lp2 Tryd.prog Tryd.f43 N (n + 1) x1 es v7 v8 b1000000 =
  bif decide (v8 ≤ x1) then
    bif insOK b1000000 v7 v8 then
      t43_lp2 Tryd.prog Tryd.f43 N n x1 es v8 (IntKind.wrap .i64 (v8 + 20)) (insL b1000000 v7 v8)
    else none
  else bif insOK b1000000 v7 x1 then
      t43_lp7 Tryd.prog Tryd.f43 N N x1 es v7 v8 b1000000 n 20 (insL b1000000 v7 x1)
    else none := by kernel_rfl
theorem t43 (N : Nat) (x1 : Int) (es : List D) : evFnH Tryd.prog (envR B3 (H5 kBig) R3 []) t43_h N Tryd.f43 [bxp 1000000 42, dat 3 (.lit (.int .i64 x1)), dat 50 (.held (.func (.func 20) #[] #[]))] [⟨42, .slice es [], 3, none⟩] =
  t43_lp2 Tryd.prog Tryd.f43 N N x1 es 0 20 es := by kernel_rfl

/- slices.SortStableFunc[[]roadbook/bag.ranked,roadbook/bag.ranked] -/
def t19_h : Hints := fun _ =>  none
theorem t19 (N : Nat) (es : List D) : evFnH Tryd.prog (envR B3 H6 R3 []) t19_h N Tryd.f19 [bxp 1000000 42, dat 50 (.held (.func (.func 20) #[] #[]))] [⟨42, .slice es [], 3, none⟩] =
  bif stbOK es (es.length : Int) then
    some (tupA [] (.agg []), [some ⟨42, .slice (sortK keyE es) [], 3, none⟩])
  else none := by kernel_rfl

/- roadbook/bag.Sort -/
def t8_h : Hints := fun i => if i = 4 then some ([0, 1, 3, 7, 8, 9, 10, 11, 12, 13, 14, 15, 16, 17, 18, 19, 20, 24, 25, 26, 27, 28, 29, 30, 31, 32, 33, 34, 35, 36, 37, 38, 39, 40, 41, 42, 43, 44, 45, 46, 47, 48, 49, 50, 51, 52, 53, 54, 55, 56, 57, 58, 59, 60], [2, 4, 19], []) else if i = 11 then some ([0, 1, 3, 5, 6, 7, 8, 10, 11, 12, 13, 14, 15, 16, 17, 18, 19, 20, 21, 22, 23, 24, 25, 26, 27, 28, 29, 30, 31, 32, 33, 34, 35, 36, 37, 38, 39, 40, 41, 45, 46, 47, 48, 49, 50, 51, 52, 53, 54, 55, 56, 57, 58, 59, 60], [2, 4, 19, 41], []) else none
def t8_lp4 (P : Program) (fn : Func) (N n : Nat) (x0 : D) (x1 : Int) (v23 : Int) (b19 : List D) : Option AV := evLoop (preL t8_h (sub [1, 1, 1, 0, 1, 0, 0] (bodyOf fn))) (evCode P (envR B3 H7 R3 []) t8_h N (sub [1, 1, 1, 0, 1, 0, 0] (bodyOf fn))) n ⟨[dead, dead, bxp 2 25, dead, bxp 4 25, dat 3 (.lit (.int .i64 (Lib.idxOf ((elemsD (fieldD x0 0)).map intD) x1))), bxp 19 42, dead, dead, dead, dead, dead, dead, dead, dead, dead, dead, dead, dead, dead, dead, dat 23 (fieldD x0 1), dat 3 (.lit (.int .i64 ((elemsD (fieldD x0 1)).length : Int))), dat 3 (.lit (.int .i64 v23)), dead, dead, dead, dead, dead, dead, dead, dead, dead, dead, dead, dead, dead, dead, dead, dead, dead, dead, dead, dead, dead, dead, dead, dead, dead, dead, dead, dead, dead, dead, dead, dead, dead, dead, dead, dead, dead], lookB [(2, some ⟨25, x0, 0, none⟩), (4, some ⟨25, .agg [.slice [] [], .slice [] []], 0, none⟩), (19, some ⟨42, .slice b19 [], 2, none⟩)]⟩ (blockK 0 (seqC P (envR B3 H7 R3 []) t8_h N (sub [1, 1, 1, 1] (bodyOf fn)) (finK P fn) ))
def t8_lp11 (P : Program) (fn : Func) (N n : Nat) (x0 : D) (x1 : Int) (v23 : Int) (b19 : List D) (m0 : Nat) (v44 : Int) (b41 : List D) : Option AV := evLoop (preL t8_h (sub [1, 1, 1, 1, 1, 1, 0, 1, 0, 0] (bodyOf fn))) (evCode P (envR B3 H7 R3 []) t8_h N (sub [1, 1, 1, 1, 1, 1, 0, 1, 0, 0] (bodyOf fn))) n ⟨[dead, dead, bxp 2 25, dead, bxp 4 25, dead, dead, dead, dead, bxp 41 23, dead, dead, dead, dead, dead, dead, dead, dead, dead, dead, dead, dead, dead, dead, dead, dead, dead, dead, dead, dead, dead, dead, dead, dead, dead, dead, dead, dead, dead, dead, dead, dead, bxp 19 42, dat 3 (.lit (.int .i64 ((sortK keyE b19).length : Int))), dat 3 (.lit (.int .i64 v44)), dead, dead, dead, dead, dead, dead, dead, dead, dead, dead, dead, dead, dead, dead, dead, dead], lookB [(2, some ⟨25, x0, 0, none⟩), (4, some ⟨25, .agg [.slice [] [], .slice [] []], 0, none⟩), (19, some ⟨42, .slice (sortK keyE b19) [], 2, none⟩), (41, some ⟨23, .slice b41 [], 2, none⟩)]⟩ (blockK 2 (seqC P (envR B3 H7 R3 []) t8_h N (sub [1, 1, 1, 1, 1, 1, 1] (bodyOf fn)) (finK P fn) ))
theorem t8_lp11_step  (N n : Nat) (x0 : D) (x1 : Int) (v23 : Int) (b19 : List D) (m0 : Nat) (v44 : Int) (b41 : List D) : t8_lp11 Tryd.prog Tryd.f8 N (n + 1) x0 x1 v23 b19 m0 v44 b41 =
  bif decide (v44 < ((sortK keyE b19).length : Int)) then
    bif (decide (0 ≤ v44) && decide (v44 < ((sortK keyE b19).length : Int))) then
      bif decide ((elemsD (fieldD ((sortK keyE b19).getD (v44).toNat .nil) 1)).length ≤ 2147483648) then
        bif (decide (0 ≤ v44) && decide (v44 < (b41.length : Int))) then
          t8_lp11 Tryd.prog Tryd.f8 N n x0 x1 v23 b19 m0 (IntKind.wrap .i64 (v44 + 1)) (b41.set (v44).toNat (fieldD ((sortK keyE b19).getD (v44).toNat .nil) 1))
        else none
      else none
    else none
  else bif decide ((elemsD (fieldD x0 0)).length ≤ 2147483648) then
      some (dat 25 (.agg [fieldD x0 0, .slice b41 []]))
    else none := by kernel_rfl
theorem t8_lp4_step  (N n : Nat) (x0 : D) (x1 : Int) (v23 : Int) (b19 : List D) : t8_lp4 Tryd.prog Tryd.f8 N (n + 1) x0 x1 v23 b19 =
  bif decide (v23 < ((elemsD (fieldD x0 1)).length : Int)) then
    bif (decide (0 ≤ v23) && decide (v23 < ((elemsD (fieldD x0 1)).length : Int))) then
      bif (decide (0 ≤ v23) && decide (v23 < (b19.length : Int))) then
        t8_lp4 Tryd.prog Tryd.f8 N n x0 x1 (IntKind.wrap .i64 (v23 + 1)) (b19.set (v23).toNat (.agg [rankD (elemsD ((elemsD (fieldD x0 1)).getD (v23).toNat .nil)) (Lib.idxOf ((elemsD (fieldD x0 0)).map intD) x1), (elemsD (fieldD x0 1)).getD (v23).toNat .nil]))
      else none
    else none
  else bif decide (b19.length ≤ 2147483648) then
      bif (decide (0 ≤ ((sortK keyE b19).length : Int)) && decide (((sortK keyE b19).length : Int) ≤ 2147483648)) then
        t8_lp11 Tryd.prog Tryd.f8 N N x0 x1 v23 b19 n 0 (List.replicate (((sortK keyE b19).length : Int)).toNat (.slice [] [] : D))
      else none
    else none := by kernel_rfl
theorem t8 (N : Nat) (x0 : D) (x1 : Int) : evFn Tryd.prog (envR B3 H7 R3 []) t8_h N Tryd.f8 [dat 25 x0, dat 3 (.lit (.int .i64 x1))] =
  bif (decide (0 ≤ ((elemsD (fieldD x0 1)).length : Int)) && decide (((elemsD (fieldD x0 1)).length : Int) ≤ 2147483648)) then
    t8_lp4 Tryd.prog Tryd.f8 N N x0 x1 0 (List.replicate (((elemsD (fieldD x0 1)).length : Int)).toNat (.agg [.agg [.lit (.int .i64 0), .lit (.int .i64 0)], .slice [] []] : D))
  else none := by kernel_rfl

end Go.Proofs.YtbidfbpaeemhhaaDoor

namespace Go.Proofs.YtbidfbpaeemhhaaDoor
open Go.Ev
set_option linter.unusedVariables false
set_option maxRecDepth 10000
set_option linter.unusedSimpArgs false

section
variable {L : Nat} {es es0 : List D} (hL : L ≤ 2147483648)
include hL
theorem stb_in {N : Nat} {a7 a8 : Int} {b1 bq : List D} {m0 m1 s : Nat} (hs : 20 ≤ s) (hsL : s < L)
    (next : ∀ l : List D, l.length = L → SEq keyE l es0 → Blk (2 * s) l → t43_lp7 Tryd.prog Tryd.f43 N m1 (L : Int) es a7 a8 b1 m0 ((2 * s : Nat) : Int) l = some (unitR, rowR (sortK keyE es0))) :
    ∀ (n j : Nat) (l : List D), j * (2 * s) ≤ L → L - j * (2 * s) < n → l.length = L → SEq keyE l es0 → (∀ k, k < j → Srt keyE (seg (k * (2 * s)) ((k + 1) * (2 * s)) l)) → (∀ k, 2 * j ≤ k → Srt keyE (seg (k * s) ((k + 1) * s) l)) →
      t43_lp9 Tryd.prog Tryd.f43 N n (L : Int) es a7 a8 b1 m0 (s : Int) bq m1 ((j * (2 * s) : Nat) : Int) (((j + 1) * (2 * s) : Nat) : Int) l = some (unitR, rowR (sortK keyE es0))
  | 0, j, l, _, h, _, _, _, _ => by omega
  | n + 1, j, l, hj, h, hl, hq, h1, h2 => by
    have e1 : (j + 1) * (2 * s) = j * (2 * s) + 2 * s := Nat.succ_mul _ _
    have e1' : (j + 1 + 1) * (2 * s) = (j + 1) * (2 * s) + 2 * s := Nat.succ_mul _ _
    have e2 : (2 * j + 1) * s = 2 * j * s + s := Nat.succ_mul _ _
    have e3 : (2 * j + 1 + 1) * s = (2 * j + 1) * s + s := Nat.succ_mul _ _
    have e4 := dbl_eq j s
    have w1 : IntKind.wrap .i64 (((j * (2 * s) : Nat) : Int) + (s : Int)) = (((2 * j + 1) * s : Nat) : Int) := by rw [l_wrapI (l_in (by omega) (by omega))]; omega
    have w2 : IntKind.wrap .i64 (2 * (s : Int)) = ((2 * s : Nat) : Int) := by rw [l_wrapI (l_in (by omega) (by omega))]; omega
    have w3 : IntKind.wrap .i64 ((s : Int) * 2) = ((2 * s : Nat) : Int) := by rw [l_wrapI (l_in (by omega) (by omega))]; omega
    have w4 : IntKind.wrap .i64 ((((j + 1) * (2 * s) : Nat) : Int) + ((2 * s : Nat) : Int)) = (((j + 1 + 1) * (2 * s) : Nat) : Int) := by rw [l_wrapI (l_in (by omega) (by omega))]; omega
    have s1 : Srt keyE (seg (j * (2 * s)) ((2 * j + 1) * s) l) := by have := h2 (2 * j) (Nat.le_refl _); rw [← e4] at this; exact this
    have s2 := h2 (2 * j + 1) (by omega)
    rw [t43_lp9_step, w1, w2, w3, w4]
    by_cases hb : (j + 1) * (2 * s) ≤ L
    · have g1 : decide ((((j + 1) * (2 * s) : Nat) : Int) ≤ (L : Int)) = true := by rw [decide_eq_true_eq]; omega
      have g2 : symOK kBig l ((j * (2 * s) : Nat) : Int) (((2 * j + 1) * s : Nat) : Int) (((j + 1) * (2 * s) : Nat) : Int) = true :=
        symOK_seg (by omega) (by omega) (by omega) (by omega) (by unfold kBig; omega) s1 (by rw [show (j + 1) * (2 * s) = (2 * j + 1 + 1) * s by omega]; exact s2)
      rw [g1, g2, cond_true, cond_true]
      exact stb_in hs hsL next n (j + 1) _ (by omega) (by omega) (by rw [len_ins (by omega) (by omega)]; exact hl) ((seq_ins (by omega) (by omega)).trans hq) (blk_step h1 (by omega)) (dbl_step h2 (by omega))
    · have g1 : decide ((((j + 1) * (2 * s) : Nat) : Int) ≤ (L : Int)) = false := by rw [decide_eq_false_iff_not]; omega
      rw [g1, cond_false]
      by_cases hm : (2 * j + 1) * s < L
      · have g2 : decide ((((2 * j + 1) * s : Nat) : Int) < (L : Int)) = true := by rw [decide_eq_true_eq]; omega
        have g3 : symOK kBig l ((j * (2 * s) : Nat) : Int) (((2 * j + 1) * s : Nat) : Int) (L : Int) = true :=
          symOK_seg (by omega) (by omega) (by omega) (by omega) (by unfold kBig; omega) s1 (by rw [seg_clip (by omega)] at s2 ⊢; exact s2)
        rw [g2, g3, cond_true, cond_true]
        have hlast := blk_last (s := 2 * s) (j := j) h1 (by omega) (by omega)
        rw [hl] at hlast
        exact next _ (by rw [len_ins (by omega) (by omega)]; exact hl) ((seq_ins (by omega) (by omega)).trans hq) hlast
      · have g2 : decide ((((2 * j + 1) * s : Nat) : Int) < (L : Int)) = false := by rw [decide_eq_false_iff_not]; omega
        rw [g2, cond_false]
        exact next l hl hq (dbl_none h1 h2 (by omega))
theorem stb_mid {N : Nat} {a7 a8 : Int} {b1 : List D} {m0 : Nat} (hN : L < N) : ∀ (n s : Nat) (l : List D), 20 ≤ s → L - s < n → l.length = L → SEq keyE l es0 → Blk s l →
    t43_lp7 Tryd.prog Tryd.f43 N n (L : Int) es a7 a8 b1 m0 (s : Int) l = some (unitR, rowR (sortK keyE es0))
  | 0, s, l, _, h, _, _, _ => by omega
  | n + 1, s, l, hs, h, hl, hq, hb => by
    rw [t43_lp7_step]
    by_cases hlt : s < L
    · have w2 : IntKind.wrap .i64 (2 * (s : Int)) = (((0 + 1) * (2 * s) : Nat) : Int) := by rw [l_wrapI (l_in (by omega) (by omega))]; omega
      rw [l_lt hlt, cond_true, w2]
      have := stb_in hL (N := N) (es := es) (es0 := es0) (a7 := a7) (a8 := a8) (b1 := b1) (bq := l) (m0 := m0) (m1 := n) (s := s) hs hlt (fun l' a b c => stb_mid hN n (2 * s) l' (by omega) (by omega) a b c) N 0 l (by omega) (by omega) hl hq (by omega) (fun k _ => hb k)
      rw [Nat.zero_mul] at this
      exact this
    · rw [l_ge hlt, cond_false, blk_done hb (by omega) hq]
      rfl
theorem stb_out {N : Nat} (hN : L < N) : ∀ (n j : Nat) (l : List D), j * 20 ≤ L → L - j * 20 < n → l.length = L → SEq keyE l es0 → (∀ k, k < j → Srt keyE (seg (k * 20) ((k + 1) * 20) l)) →
    t43_lp2 Tryd.prog Tryd.f43 N n (L : Int) es ((j * 20 : Nat) : Int) (((j + 1) * 20 : Nat) : Int) l = some (unitR, rowR (sortK keyE es0))
  | 0, j, l, _, h, _, _, _ => by omega
  | n + 1, j, l, hj, h, hl, hq, h1 => by
    have w1 : IntKind.wrap .i64 ((((j + 1) * 20 : Nat) : Int) + 20) = (((j + 1 + 1) * 20 : Nat) : Int) := by rw [l_wrapI (l_in (by omega) (by omega))]; omega
    rw [t43_lp2_step, w1]
    by_cases hb : (j + 1) * 20 ≤ L
    · have g1 : decide ((((j + 1) * 20 : Nat) : Int) ≤ (L : Int)) = true := by rw [decide_eq_true_eq]; omega
      rw [g1, insOK_nat (by omega) (by omega) (by omega), cond_true, cond_true]
      exact stb_out hN n (j + 1) _ (by omega) (by omega) (by rw [len_ins (by omega) (by omega)]; exact hl) ((seq_ins (by omega) (by omega)).trans hq) (blk_step h1 (by omega))
    · have g1 : decide ((((j + 1) * 20 : Nat) : Int) ≤ (L : Int)) = false := by rw [decide_eq_false_iff_not]; omega
      rw [g1, cond_false, insOK_nat (A := j * 20) (B := L) (by omega) (by omega) (by omega), cond_true]
      have hlast := blk_last (s := 20) (j := j) h1 (by omega) (by omega)
      rw [hl] at hlast
      exact stb_mid hL (es := es) (es0 := es0) hN N 20 _ (by omega) (by omega) (by rw [len_ins (by omega) (by omega)]; exact hl) ((seq_ins (by omega) (by omega)).trans hq) hlast
end

theorem k43 : FnOK Tryd.prog 43 Tryd.f43 := ⟨Tryd.func43, rfl, by kernel_rfl⟩
theorem c43 : ∀ args hh r h', preH a43 b54 q43 args hh = true → entH a43 b54 g43 args hh = some (r, h') → HCallOK Tryd.prog 43 args hh r h' := by
  refine entH_ok rfl rfl fun ds es r h' hq hd => ?_
  unfold q43 at hq
  split at hq
  · rename_i z a f e
    cases hd
    rw [Bool.and_eq_true] at hq
    refine HCallOK.typedR k43.ex fun ht _ hr => ?_
    obtain ⟨_, t1⟩ := ht (dat 3 a) (by simp [fillA, a43, dat, bxp]) rfl
    obtain ⟨_, t3⟩ := ht (dat 50 f) (by simp [fillA, a43, dat, bxp]) rfl
    obtain ⟨el, l, _, hl, _⟩ := hr ⟨42, e, 3, none⟩ (by simp [fillE, b54]) (by simp)
    have hl : e = .slice l [] := hl
    subst hl
    obtain ⟨i1, rfl, _⟩ := ty3' t1
    rw [isF_eq (show Ty Tryd.prog _ 50 f from t3) hq.1]
    have hq : stbOK l i1 = true := hq.2
    simp only [stbOK, Bool.and_eq_true, decide_eq_true_eq, beq_iff_eq] at hq
    obtain ⟨rfl, g⟩ := hq
    refine fnH_ok hm envH5 k43 ((t43 (l.length + 1) (l.length : Int) l).trans ?_)
    have := stb_out g (es := l) (es0 := l) (N := l.length + 1) (by omega) (l.length + 1) 0 l (by omega) (by omega) rfl (SEq.refl l) (by omega)
    exact this
  · cases hq
theorem envH6 : EnvOK Tryd.prog (envR B3 H6 R3 []) := envOK_consH envH5 c43
theorem k19 : FnOK Tryd.prog 19 Tryd.f19 := ⟨Tryd.func19, rfl, by kernel_rfl⟩
theorem c19 : ∀ args hh r h', preH a19 b54 q19 args hh = true → entH a19 b54 g19 args hh = some (r, h') → HCallOK Tryd.prog 19 args hh r h' := by
  refine entH_ok rfl rfl fun ds es r h' hq hd => ?_
  unfold q19 at hq
  split at hq
  · rename_i z f e
    cases hd
    rw [Bool.and_eq_true] at hq
    refine HCallOK.typedR k19.ex fun ht _ hr => ?_
    obtain ⟨_, t3⟩ := ht (dat 50 f) (by simp [fillA, a19, dat, bxp]) rfl
    obtain ⟨el, l, _, hl, _⟩ := hr ⟨42, e, 3, none⟩ (by simp [fillE, b54]) (by simp)
    have hl : e = .slice l [] := hl
    subst hl
    rw [isF_eq (show Ty Tryd.prog _ 50 f from t3) hq.1]
    have g : decide (l.length ≤ 2147483648) = true := hq.2
    refine fnH_ok hm envH6 k19 ((t19 1 l).trans ?_)
    have : stbOK l (l.length : Int) = true := by
      unfold stbOK
      rw [g]
      simp
    rw [this]
    rfl
  · cases hq
theorem envH7 : EnvOK Tryd.prog (envR B3 H7 R3 []) := envOK_consH envH6 c19

/-! ### Sort -/
def rkF (p : Int) (r : D) : D := .agg [rankD (elemsD r) p, r]
theorem rk_sort (p : Int) (rows : List D) : sortK keyE (rows.map (rkF p)) = (sortRows p rows).map (rkF p) := sortK_map keyE (rkF p) rows
theorem sort_out {N : Nat} {x0 : D} {x1 v23 : Int} {m0 : Nat} {rows : List D} {p : Int} (hc : (elemsD (fieldD x0 0)).length ≤ 2147483648) (hb : rows.length ≤ 2147483648) (hr : ∀ r ∈ rows, (elemsD r).length ≤ 2147483648) : ∀ (n i : Nat) (tl : List D), i ≤ rows.length → rows.length - i < n → tl.length = rows.length - i →
    t8_lp11 Tryd.prog Tryd.f8 N n x0 x1 v23 (rows.map (rkF p)) m0 (i : Int) (((sortRows p rows).take i).map id ++ tl) = some (dat 25 (.agg [fieldD x0 0, .slice (sortRows p rows) []]))
  | 0, i, tl, _, h, _ => by omega
  | n + 1, i, tl, hi, h, ht => by
    have hlen : (sortRows p rows).length = rows.length := sortK_len rows
    rw [t8_lp11_step, rk_sort, List.length_map, hlen]
    by_cases hlt : i < rows.length
    · have h2 : i < (sortRows p rows).length := by omega
      have hl2 : (((sortRows p rows).take i).map id ++ tl).length = rows.length := by simp; omega
      have e1 : fieldD (((sortRows p rows).map (rkF p)).getD i .nil) 1 = id (sortRows p rows)[i] := by
        rw [l_get (by simp; omega), List.getElem_map]
        rfl
      have g : decide ((elemsD (id (sortRows p rows)[i])).length ≤ 2147483648) = true := by
        rw [decide_eq_true_eq]
        exact hr _ (mem_sortK.1 (List.getElem_mem h2))
      rw [l_idx hlt, l_lt hlt, cond_true, cond_true, Int.toNat_natCast, e1, g, cond_true, hl2, l_idx hlt, cond_true, l_set id h2 (by omega)]
      have w1 : IntKind.wrap .i64 ((i : Int) + 1) = ((i + 1 : Nat) : Int) := by rw [l_wrapI (l_in (by omega) (by omega))]; omega
      rw [w1]
      exact sort_out hc hb hr n (i + 1) (tl.drop 1) (by omega) (by omega) (by simp; omega)
    · have htl : tl = [] := List.length_eq_zero_iff.1 (by omega)
      have g : decide ((elemsD (fieldD x0 0)).length ≤ 2147483648) = true := by rw [decide_eq_true_eq]; exact hc
      rw [l_ge hlt, cond_false, g, cond_true, htl, List.append_nil, List.map_id, List.take_of_length_le (by omega)]
theorem sort_in {N : Nat} {cs rows : List D} {x1 : Int} (hN : rows.length < N) (hc : cs.length ≤ 2147483648) (hb : rows.length ≤ 2147483648) (hr : ∀ r ∈ rows, (elemsD r).length ≤ 2147483648) : ∀ (n i : Nat) (tl : List D), i ≤ rows.length → rows.length - i < n → tl.length = rows.length - i →
    t8_lp4 Tryd.prog Tryd.f8 N n (bagD cs rows) x1 (i : Int) ((rows.take i).map (rkF (placeI cs x1)) ++ tl) = some (dat 25 (sortBag (bagD cs rows) x1))
  | 0, i, tl, _, h, _ => by omega
  | n + 1, i, tl, hi, h, ht => by
    rw [t8_lp4_step]
    have z1 : elemsD (fieldD (bagD cs rows) 1) = rows := rfl
    have z2 : Lib.idxOf ((elemsD (fieldD (bagD cs rows) 0)).map intD) x1 = placeI cs x1 := rfl
    rw [z1, z2]
    by_cases hlt : i < rows.length
    · have hl2 : ((rows.take i).map (rkF (placeI cs x1)) ++ tl).length = rows.length := by simp; omega
      have e1 : (DataW.agg [rankD (elemsD (rows.getD i .nil)) (placeI cs x1), rows.getD i .nil] : D) = rkF (placeI cs x1) rows[i] := by rw [l_get hlt]; rfl
      have w1 : IntKind.wrap .i64 ((i : Int) + 1) = ((i + 1 : Nat) : Int) := by rw [l_wrapI (l_in (by omega) (by omega))]; omega
      rw [l_idx hlt, l_lt hlt, cond_true, cond_true, hl2, l_idx hlt, cond_true, w1, Int.toNat_natCast, e1, l_set (rkF (placeI cs x1)) hlt ht]
      exact sort_in hN hc hb hr n (i + 1) (tl.drop 1) (by omega) (by omega) (by simp; omega)
    · have htl : tl = [] := List.length_eq_zero_iff.1 (by omega)
      have hlm : (rows.map (rkF (placeI cs x1))).length = rows.length := by simp
      have hlen : (sortRows (placeI cs x1) rows).length = rows.length := sortK_len rows
      have hi2 : i = rows.length := by omega
      rw [l_ge hlt, cond_false, htl, List.append_nil, hi2, List.take_length, hlm, rk_sort, List.length_map, hlen]
      have g1 : decide (rows.length ≤ 2147483648) = true := by rw [decide_eq_true_eq]; exact hb
      have g2 : (decide (0 ≤ (rows.length : Int)) && decide ((rows.length : Int) ≤ 2147483648)) = true := by simp only [Bool.and_eq_true, decide_eq_true_eq]; omega
      rw [g1, g2, cond_true, cond_true, Int.toNat_natCast]
      exact sort_out (x0 := bagD cs rows) (rows := rows) (p := placeI cs x1) hc hb hr N 0 _ (Nat.zero_le _) (by omega) (by simp)
theorem k8 : FnOK Tryd.prog 8 Tryd.f8 := ⟨Tryd.func8, rfl, by kernel_rfl⟩
theorem c8 : ∀ args d, e8.2.2.1 args = true → e8.2.2.2 args = some d → CallOK Tryd.prog 8 args (mkRes Tryd.prog 25 d) :=
  ent2p k8 fun x y d hq h ⟨_, hx⟩ _ => by
    cases h
    rw [nB, n3]
    obtain ⟨cs, rs, rfl, h1, h2, h3, h4⟩ := tyB hx
    simp only [sortOK, Bool.and_eq_true, decide_eq_true_eq, List.all_eq_true] at hq
    obtain ⟨⟨g1, g2⟩, g3⟩ := hq
    have g1 : rs.length ≤ 2147483648 := g1
    refine fn_ok hm envH7 k8 ((t8 (rs.length + 1) (bagD cs rs) (intD y)).trans ?_)
    rw [mB]
    have c1 : (decide (0 ≤ ((elemsD (fieldD (bagD cs rs) 1)).length : Int)) && decide (((elemsD (fieldD (bagD cs rs) 1)).length : Int) ≤ 2147483648)) = true := by
      show (decide (0 ≤ (rs.length : Int)) && decide ((rs.length : Int) ≤ 2147483648)) = true
      simp only [Bool.and_eq_true, decide_eq_true_eq]; omega
    rw [c1, cond_true, Int.toNat_natCast]
    exact sort_in (N := rs.length + 1) (cs := cs) (rows := rs) (x1 := intD y) (by omega) g2 g1 g3 (rs.length + 1) 0 _ (Nat.zero_le _) (by omega) (by rw [List.length_replicate]; rfl)
theorem envB5 : EnvOK Tryd.prog (envR B5 H7 R3 []) := envOK_cons' (envOK_cons envH7 c9) c8

end Go.Proofs.YtbidfbpaeemhhaaDoor

namespace Go.Proofs.YtbidfbpaeemhhaaDoor
open Go.Ev
set_option linter.unusedVariables false
/- roadbook/bag.Group -/
def t14_h : Hints := fun i => if i = 6 then some ([0, 4, 5, 7, 11, 12, 13, 14, 15, 16, 17, 18, 19, 20, 21, 22, 23, 24, 25, 26, 27, 28, 29, 30, 31, 32, 33, 34, 35, 36, 37, 38, 39, 40, 41, 42, 43, 44, 45, 46, 47, 48, 49, 50, 51, 52, 53, 54, 55, 56, 57, 58, 59, 60, 61, 62, 63, 64, 65, 66, 67, 68, 69], [3, 6, 9, 60, 900000], []) else none
def t14_lp6 (P : Program) (fn : Func) (N n : Nat) (x0 : D) (x1 : Int) (x2 : D) (v10 : List D) (b9 : List D) : Option AV := evLoop (preL t14_h (sub [1, 1, 1, 1, 0, 1, 0, 0] (bodyOf fn))) (evCode P (envR B5 H7 R3 []) t14_h N (sub [1, 1, 1, 1, 0, 1, 0, 0] (bodyOf fn))) n ⟨[dead, dat 3 (.lit (.int .i64 x1)), dat 22 x2, bxp 3 25, dead, dead, bxp 6 25, dead, dat 3 (.lit (.int .i64 (Lib.idxOf ((elemsD (fieldD x0 0)).map intD) x1))), bxp 9 23, dat 23 (.slice v10 []), dead, dead, dead, dead, dead, dead, dead, dead, dead, dead, dead, dead, dead, dead, dead, dead, dead, dead, dead, dead, dead, dead, dead, dead, dead, dead, dead, dead, dead, dead, dead, dead, dead, dead, dead, dead, dead, dead, dead, dead, dead, dead, dead, dead, dead, dead, dead, dead, dead, dead, dead, dead, dead, dead, dead, dead, dead, dead, dead], lookB [(3, some ⟨25, x0, 0, none⟩), (6, some ⟨25, .agg [.slice [] [], .slice [] []], 0, none⟩), (9, some ⟨23, .slice b9 [], 1, none⟩), (60, none), (900000, none)]⟩ (blockK 0 (seqC P (envR B5 H7 R3 []) t14_h N (sub [1, 1, 1, 1, 1] (bodyOf fn)) (finK P fn) ))
theorem t14_lp6_step  (N n : Nat) (x0 : D) (x1 : Int) (x2 : D) (v10 : List D) (b9 : List D) : t14_lp6 Tryd.prog Tryd.f14 N (n + 1) x0 x1 x2 v10 b9 =
  bif decide ((v10.length : Int) > 0) then
    bif decide (0 < v10.length) then
      bif (decide (0 ≤ (0 : Int)) && decide ((0 : Int) ≤ (alikeN v10 (Lib.idxOf ((elemsD (fieldD x0 0)).map intD) x1) : Int)) && decide ((alikeN v10 (Lib.idxOf ((elemsD (fieldD x0 0)).map intD) x1) : Int) ≤ (v10.length : Int))) then
        bif sumOK (.agg [fieldD x0 0, .slice ((v10.drop ((0 : Int) : Int).toNat).take ((alikeN v10 (Lib.idxOf ((elemsD (fieldD x0 0)).map intD) x1) : Int) - (0 : Int)).toNat) []]) (Lib.idxOf ((elemsD (fieldD x0 0)).map intD) x1) (elemsD x2) then
          bif decide ((b9).length + 1 ≤ 2147483648) then
            bif (decide (0 ≤ (alikeN v10 (Lib.idxOf ((elemsD (fieldD x0 0)).map intD) x1) : Int)) && decide ((alikeN v10 (Lib.idxOf ((elemsD (fieldD x0 0)).map intD) x1) : Int) ≤ (v10.length : Int)) && decide ((v10.length : Int) ≤ (v10.length : Int))) then
              t14_lp6 Tryd.prog Tryd.f14 N n x0 x1 x2 ((v10.drop ((alikeN v10 (Lib.idxOf ((elemsD (fieldD x0 0)).map intD) x1) : Int) : Int).toNat).take ((v10.length : Int) - (alikeN v10 (Lib.idxOf ((elemsD (fieldD x0 0)).map intD) x1) : Int)).toNat) (b9 ++ [.slice (summedL (.agg [fieldD x0 0, .slice ((v10.drop ((0 : Int) : Int).toNat).take ((alikeN v10 (Lib.idxOf ((elemsD (fieldD x0 0)).map intD) x1) : Int) - (0 : Int)).toNat) []]) (Lib.idxOf ((elemsD (fieldD x0 0)).map intD) x1) (elemsD x2)) []])
            else none
          else none
        else none
      else none
    else none
  else bif (decide (0 ≤ ((elemsD x2).length : Int)) && decide (((elemsD x2).length : Int) ≤ 1000)) then
      some (tupA [25, 4] (.agg [.agg [.slice (groupColsL x1 ((elemsD x2).length : Int)) [], .slice b9 []], .lit (.bool true)]))
    else none := by kernel_rfl
theorem t14 (N : Nat) (x0 : D) (x1 : Int) (x2 : D) : evFn Tryd.prog (envR B5 H7 R3 []) t14_h N Tryd.f14 [dat 25 x0, dat 3 (.lit (.int .i64 x1)), dat 22 x2] =
  bif ((!(mayBagB x0)) == false) then
    bif ((!(hasB (elemsD (fieldD x0 0)) x1)) == false) then
      bif ((!(hasAllB (elemsD (fieldD x0 0)) (elemsD x2))) == false) then
        bif decide (((elemsD x2).length : Int) > 4) then
          some (tupA [25, 4] (.agg [.agg [.slice [] [], .slice [] []], .lit (.bool false)]))
        else bif sortOK x0 then
            t14_lp6 Tryd.prog Tryd.f14 N N x0 x1 x2 (elemsD (fieldD (sortBag x0 x1) 1)) []
          else none
      else some (tupA [25, 4] (.agg [.agg [.slice [] [], .slice [] []], .lit (.bool false)]))
    else some (tupA [25, 4] (.agg [.agg [.slice [] [], .slice [] []], .lit (.bool false)]))
  else some (tupA [25, 4] (.agg [.agg [.slice [] [], .slice [] []], .lit (.bool false)])) := by kernel_rfl

end Go.Proofs.YtbidfbpaeemhhaaDoor

namespace Go.Proofs.YtbidfbpaeemhhaaDoor
open Go.Ev
set_option linter.unusedVariables false
/- roadbook/roadbooklaw03.awake -/
def t6_h : Hints := fun _ =>  none
theorem t6 (N : Nat)  : evFn Tryd.prog (envR B6 H7 R3 []) t6_h N Tryd.f6 [] =
  bif ((mayBagB threeD) == true) then
    bif ((groupOK threeD 0 [.lit (.int .i64 1)]) == true) then
      bif ((likeB (groupBag threeD 0 [.lit (.int .i64 1)]) (.agg [.slice [.lit (.int .i64 0), .lit (.int .i64 16), .lit (.int .i64 17)] [], .slice [.slice [.agg [.lit (.int .i64 0), .lit (.int .i64 1)], .agg [.lit (.int .i64 0), .lit (.int .i64 2)], .agg [.lit (.int .i64 0), .lit (.int .i64 7)]] [], .slice [.agg [.lit (.int .i64 0), .lit (.int .i64 3)], .agg [.lit (.int .i64 0), .lit (.int .i64 1)], .agg [.lit (.int .i64 0), .lit (.int .i64 4)]] []] []])) == true) then
        bif ((!(sortedB threeD 0)) == true) then
          bif sortOK threeD then
            some (dat 4 (.lit (.bool (sortedB (sortBag threeD 0) 0))))
          else none
        else some (dat 4 (.lit (.bool false)))
      else some (dat 4 (.lit (.bool false)))
    else some (dat 4 (.lit (.bool false)))
  else some (dat 4 (.lit (.bool false))) := by kernel_rfl

end Go.Proofs.YtbidfbpaeemhhaaDoor

namespace Go.Proofs.YtbidfbpaeemhhaaDoor
open Go.Ev
set_option linter.unusedVariables false
set_option maxRecDepth 10000
set_option linter.unusedSimpArgs false

theorem grp_loop {N : Nat} {cs rs : List D} {x1 : Int} {x2 : D} (hb : hasB cs x1 = true) (hs : hasAllB cs (elemsD x2) = true) (h4 : (elemsD x2).length ≤ 4) : ∀ (n : Nat) (rows acc : List D), rows.length < n → MayBag cs rows → acc.length + rows.length ≤ 5000 →
    t14_lp6 Tryd.prog Tryd.f14 N n (bagD cs rs) x1 x2 rows acc = some (tupA [25, 4] (.agg [bagD (groupColsL x1 ((elemsD x2).length : Int)) (acc ++ grpK cs (placeI cs x1) (elemsD x2) rows.length rows), .lit (.bool true)]))
  | 0, rows, acc, h, _, _ => by omega
  | n + 1, [], acc, h, hm, hl => by
    rw [t14_lp6_step]
    have g1 : decide ((([] : List D).length : Int) > 0) = false := rfl
    have g2 : (decide (0 ≤ ((elemsD x2).length : Int)) && decide (((elemsD x2).length : Int) ≤ 1000)) = true := by simp only [Bool.and_eq_true, decide_eq_true_eq]; omega
    rw [g1, g2, cond_false, cond_true]
    show _ = some (tupA [25, 4] (.agg [bagD (groupColsL x1 ((elemsD x2).length : Int)) (acc ++ []), .lit (.bool true)]))
    rw [List.append_nil]
    rfl
  | n + 1, r :: rows, acc, h, hm, hl => by
    rw [t14_lp6_step]
    have hz : Lib.idxOf ((elemsD (fieldD (bagD cs rs) 0)).map intD) x1 = placeI cs x1 := rfl
    rw [hz]
    obtain ⟨a, ha⟩ : ∃ a, a = alikeN (r :: rows) (placeI cs x1) := ⟨_, rfl⟩
    have a1 : 0 < a := by rw [ha]; exact alike_pos _ _
    have a2 : a ≤ (r :: rows).length := by rw [ha]; exact alike_le _ (by simp)
    rw [← ha]
    have g0 : decide (((r :: rows).length : Int) > 0) = true := by rw [decide_eq_true_eq]; omega
    have g1 : decide (0 < (r :: rows).length) = true := by simp
    have g2 : (decide (0 ≤ (0 : Int)) && decide ((0 : Int) ≤ (a : Int)) && decide ((a : Int) ≤ ((r :: rows).length : Int))) = true := by simp only [Bool.and_eq_true, decide_eq_true_eq]; omega
    have g3 : (decide (0 ≤ (a : Int)) && decide ((a : Int) ≤ ((r :: rows).length : Int)) && decide (((r :: rows).length : Int) ≤ ((r :: rows).length : Int))) = true := by simp only [Bool.and_eq_true, decide_eq_true_eq]; omega
    have e1 : (List.drop ((0 : Int) : Int).toNat (r :: rows)).take ((a : Int) - (0 : Int)).toNat = (r :: rows).take a := by
      have : ((a : Int) - (0 : Int)).toNat = a := by omega
      rw [this]; rfl
    have e2 : (List.drop ((a : Int) : Int).toNat (r :: rows)).take (((r :: rows).length : Int) - (a : Int)).toNat = (r :: rows).drop a := by
      have : (((r :: rows).length : Int) - (a : Int)).toNat = (r :: rows).length - a := by omega
      rw [this, Int.toNat_natCast]
      exact List.take_of_length_le (by rw [List.length_drop]; omega)
    have hmt : MayBag cs ((r :: rows).take a) := ⟨hm.c, by have := hm.n; rw [List.length_take]; omega, fun x hx => hm.l x (List.mem_of_mem_take hx), fun x hx => hm.m x (List.mem_of_mem_take hx)⟩
    have hmd : MayBag cs ((r :: rows).drop a) := ⟨hm.c, by have := hm.n; rw [List.length_drop]; omega, fun x hx => hm.l x (List.mem_of_mem_drop hx), fun x hx => hm.m x (List.mem_of_mem_drop hx)⟩
    have g4 : sumOK (.agg [fieldD (bagD cs rs) 0, .slice ((r :: rows).take a) []]) (placeI cs x1) (elemsD x2) = true := sum_ok hb hs h4 (by rw [List.length_take]; omega) hmt
    have g5 : decide (acc.length + 1 ≤ 2147483648) = true := by rw [decide_eq_true_eq]; omega
    simp only [e1, e2]
    rw [g0, g1, g2, g3, g4, g5]
    simp only [cond_true]
    have key := grp_loop (N := N) (rs := rs) hb hs h4 n ((r :: rows).drop a) (acc ++ [.slice (summedL (bagD cs ((r :: rows).take a)) (placeI cs x1) (elemsD x2)) []]) (by rw [List.length_drop]; simp only [List.length_cons] at *; omega) hmd (by rw [List.length_drop]; simp only [List.length_append, List.length_cons, List.length_nil] at *; omega)
    refine Eq.trans ?_ (key.trans ?_)
    · rfl
    · have f1 : grpK cs (placeI cs x1) (elemsD x2) (r :: rows).length (r :: rows) = .slice (summedL (bagD cs ((r :: rows).take a)) (placeI cs x1) (elemsD x2)) [] :: grpK cs (placeI cs x1) (elemsD x2) ((r :: rows).drop a).length ((r :: rows).drop a) := by
        rw [List.length_cons, grpK, ← ha, grp_fuel cs (placeI cs x1) (elemsD x2) rows.length ((r :: rows).drop a).length ((r :: rows).drop a) (by rw [List.length_drop]; simp only [List.length_cons]; omega) (Nat.le_refl _)]
        simp
      rw [f1]
      simp only [List.append_assoc, List.cons_append, List.nil_append]
theorem k14 : FnOK Tryd.prog 14 Tryd.f14 := ⟨Tryd.func14, rfl, by kernel_rfl⟩
theorem c14 : ∀ args d, e14.2.2.2 args = some d → CallOK Tryd.prog 14 args (mkRes Tryd.prog 30 d) :=
  ent3 k14 fun x y z d h ⟨_, hx⟩ _ _ => by
    cases h
    rw [nB, n3, nI]
    obtain ⟨cs, rs, rfl, h1, h2, h3, h4⟩ := tyB hx
    refine fn_ok hm envB5 k14 ((t14 (rs.length + 1) (bagD cs rs) (intD y) z).trans ?_)
    rw [mTBB]
    cases q1 : mayBagB (bagD cs rs) with
    | false =>
      have : groupOK (bagD cs rs) (intD y) (elemsD z) = false := by unfold groupOK; rw [q1]; rfl
      rw [groupBag, this]; rfl
    | true =>
      cases q2 : hasB cs (intD y) with
      | false =>
        have : groupOK (bagD cs rs) (intD y) (elemsD z) = false := by unfold groupOK; rw [q1, show bCols (bagD cs rs) = cs from rfl, q2]; rfl
        rw [groupBag, this, show elemsD (fieldD (bagD cs rs) 0) = cs from rfl, q2]; rfl
      | true =>
        cases q3 : hasAllB cs (elemsD z) with
        | false =>
          have : groupOK (bagD cs rs) (intD y) (elemsD z) = false := by unfold groupOK; rw [q1, show bCols (bagD cs rs) = cs from rfl, q2, q3]; rfl
          rw [groupBag, this, show elemsD (fieldD (bagD cs rs) 0) = cs from rfl, q2, q3]; rfl
        | true =>
          by_cases q4 : (elemsD z).length ≤ 4
          · have hok : groupOK (bagD cs rs) (intD y) (elemsD z) = true := by
              unfold groupOK
              rw [q1, show bCols (bagD cs rs) = cs from rfl, q2, q3]
              simpa using q4
            have g1 : decide (((elemsD z).length : Int) > 4) = false := by rw [decide_eq_false_iff_not]; omega
            have hmb := may_bag q1
            have hms : MayBag cs (sortRows (placeI cs (intD y)) rs) := by
              have := perm_may (placeI cs (intD y)) cs rs
              rw [q1] at this
              exact may_bag this
            have hlen : (sortRows (placeI cs (intD y)) rs).length = rs.length := sortK_len rs
            rw [show elemsD (fieldD (bagD cs rs) 0) = cs from rfl, q2, q3, g1, may_sort hmb]
            have key := grp_loop (N := rs.length + 1) (rs := rs) q2 q3 q4 (rs.length + 1) (sortRows (placeI cs (intD y)) rs) [] (by omega) hms (by have := hmb.n; simp; omega)
            rw [hlen] at key
            rw [groupBag, hok]
            exact key
          · have hok : groupOK (bagD cs rs) (intD y) (elemsD z) = false := by
              unfold groupOK
              rw [q1, show bCols (bagD cs rs) = cs from rfl, q2, q3]
              simpa using q4
            have g1 : decide (((elemsD z).length : Int) > 4) = true := by rw [decide_eq_true_eq]; omega
            rw [groupBag, hok, show elemsD (fieldD (bagD cs rs) 0) = cs from rfl, q2, q3, g1]
            rfl
theorem envB6 : EnvOK Tryd.prog (envR B6 H7 R3 []) := envOK_cons envB5 c14

/-! ### awake -/
theorem k6 : FnOK Tryd.prog 6 Tryd.f6 := ⟨Tryd.func6, rfl, by kernel_rfl⟩
theorem c6 : ∀ args d, e6.2.2.2 args = some d → CallOK Tryd.prog 6 args (mkRes Tryd.prog 4 d) :=
  ent0 fun d h => by
    cases h
    refine fn_ok hm envB6 k6 ((t6 1).trans ?_)
    rw [m4]
    kernel_rfl
theorem envB7 : EnvOK Tryd.prog (envR B7 H7 R3 []) := envOK_cons envB6 c6

end Go.Proofs.YtbidfbpaeemhhaaDoor
