/- Trees of functions, and lemmas. Nothing here is trusted. -/
import Derived.Test.YtanjicjomcocmaaGreatDoorZ24
import Derived.Test.YtanjicjomcocmaaGreatDoorZ15
import Derived.Test.YtanjicjomcocmaaGreatDoorZ03
namespace Go.Proofs.YtanjicjomcocmaaGreatDoor
section
namespace X
open Go.Ev
set_option linter.unusedVariables false
set_option linter.unusedSimpArgs false

abbrev HEnt := FuncId × TypeId × (List AV -> List Ent -> Bool) × (List AV -> List Ent -> Option (AV × List (Option Ent)))

/-! ### May's -/
def a62 : List AV := [dat 42 .nil, dat 3 .nil, bxp OID 3]
def b62 : List Ent := [⟨3, .nil, 0, none⟩]
def q62 : List D -> List D -> Bool := fun _ es => decide (0 <= intD (es.getD 0 .nil)) && decide (intD (es.getD 0 .nil) <= 1000)
def g62 : List D -> List D -> HRes
 | [e, dp, _], [n] => some (dat 4 (.lit (.bool (seeMay e (intD dp) (intD n)))), [some ⟨3, litI (intD n + 1), 0, none⟩])
 | _, _ => none
def h62 : HEnt := (62, 4, preH a62 b62 q62, entH a62 b62 g62)
theorem k62 : FnOK Tryz.prog 62 Tryz.f62 := ⟨Tryz.func62, rfl, by kernel_rfl⟩
theorem c62 : ∀ args hh r h', h62.2.2.1 args hh = true -> h62.2.2.2 args hh = some (r, h') -> HCallOK Tryz.prog 62 args hh r h' :=
 entH_ok rfl rfl fun ds es r h' hq hg => by
  match ds, es, hq, hg with
  | [e, dp, y], [n], hq, hg =>
   cases hg
   refine HCallOK.typed k62.ex fun ht he => ?_
   obtain ⟨_, t1⟩ := ht (dat 3 dp) (by simp [fillA, a62, dat, bxp]) rfl
   obtain ⟨_, t2⟩ := he ⟨3, n, 0, none⟩ (by simp [fillE, b62]) rfl rfl
   obtain ⟨z, rfl, hz⟩ := ty3' t1
   obtain ⟨q, rfl, hq2⟩ := ty3' t2
   have hq' : 0 <= q /\ q <= 1000 := by simpa [q62, intD] using hq
   have hw : IntKind.wrap .i64 (q + 1) = q + 1 := wrap_in (by rw [inR_iff]; omega)
   refine fnH_ok hm envU2 k62 ((t62 1 e z q).trans ?_)
   rw [hw]
   show _ = some (dat 4 (.lit (.bool (bif decide (q + 1 <= 30) then bif decide (z <= 6) then fitsB e else false else false))), [some (⟨3, .lit (.int .i64 (q + 1)), 0, none⟩ : Ent)])
   generalize decide (q + 1 <= 30) = b1
   generalize decide (z <= 6) = b2
   cases b1 <;> cases b2 <;> rfl
  | [], _, _, hg => cases hg
  | [_], _, _, hg => cases hg
  | [_, _], _, _, hg => cases hg
  | _ :: _ :: _ :: _ :: _, _, _, hg => cases hg
  | [_, _, _], [], _, hg => cases hg
  | [_, _, _], _ :: _ :: _, _, hg => cases hg

/-! ### Cols' -/
def a54 : List AV := [dat 42 .nil, dat 3 .nil, bxp OID 25]
def b54 : List Ent := [⟨25, .nil, 0, some (bxp (OID + 1) 25)⟩, ⟨25, .nil, 4, none⟩]
def q54 : List D -> List D -> Bool := fun _ es => decide ((elemsD (es.getD 1 .nil)).length <= 1000)
def own (e : D) : List D := bif opI e == 1 then [litI (colI e)] else []
def g54 : List D -> List D -> HRes
 | [e, dp, _], [_, l] => some (dat 4 (.lit (.bool true)), [some ⟨25, .nil, 0, some (bxp (OID + 1) 25)⟩, some ⟨25, .slice (elemsD l ++ (bif opI e == 1 then [litI (colI e)] else [])) [], 1, none⟩])
 | _, _ => none
def h54 : HEnt := (54, 4, preH a54 b54 q54, entH a54 b54 g54)
theorem k54 : FnOK Tryz.prog 54 Tryz.f54 := ⟨Tryz.func54, rfl, by kernel_rfl⟩

/-- A row that is handed over is a list. -/
theorem row_slice {P : Program} {f : FuncId} {args : List AV} {h : List Ent} {r : AV} {h' : List (Option Ent)} (hfn : ∃ fn c, P.funcs[f]? = some fn /\ fn.body = some c /\ (fn.name == "runtime.NumGoroutine") = false) {e : Ent} (he : e ∈ h) (h0 : e.row ≠ 0)
  (H : (∃ es, e.d = .slice es []) -> HCallOK P f args h r h') : HCallOK P f args h r h' := by
 refine ⟨hfn, fun w okA β vs htb hok hH hargs => ?_⟩
 refine (H ?_).call w okA β vs htb hok hH hargs
 obtain ⟨k, hk⟩ := List.getElem?_of_mem he
 have hb : bxOf h (OID + k) = some e := by
  unfold bxOf
  rw [if_neg (by omega), Nat.add_sub_cancel_left]
  exact hk
 obtain ⟨_, _, _, _, h4, _⟩ := hH.row _ e hb h0
 exact h4

theorem c54 : ∀ args hh r h', h54.2.2.1 args hh = true -> h54.2.2.2 args hh = some (r, h') -> HCallOK Tryz.prog 54 args hh r h' :=
 entH_ok rfl rfl fun ds es r h' hq hg => by
  match ds, es, hq, hg with
  | [e, dp, y], [u, l], hq, hg =>
   cases hg
   refine HCallOK.typed k54.ex fun ht he => ?_
   refine row_slice k54.ex (e := ⟨25, l, 4, none⟩) (by simp [fillE, b54]) (by simp) ?_
   rintro ⟨es, hes⟩
   have hes : l = .slice es [] := hes
   subst hes
   obtain ⟨_, t1⟩ := ht (dat 3 dp) (by simp [fillA, a54, dat, bxp]) rfl
   obtain ⟨z, rfl, hz⟩ := ty3' t1
   have hq' : es.length <= 1000 := by simpa [q54, elemsD] using hq
   cases hop : (intD (fieldD e 0) == 1) with
   | true =>
    have hop' : (opI e == 1) = true := hop
    refine fnH_ok hm envU2 k54 ((t54 1 e z es).trans ?_)
    have hd : decide ((es).length + 1 <= 2147483648) = true := by simp; omega
    rw [hop, hd, hop']
    rfl
   | false =>
    have hop' : (opI e == 1) = false := hop
    have H := (fnH_ok hm envU2 k54 (args := [dat 42 e, dat 3 (.lit (.int .i64 z)), bxp OID 25]) (h := [⟨25, .nil, 0, some (bxp (OID + 1) 25)⟩, ⟨25, .slice es [], 4, none⟩]) (r := dat 4 (.lit (.bool true)))
     (h' := [some ⟨25, .nil, 0, some (bxp (OID + 1) 25)⟩, some ⟨25, .slice es [], 4, none⟩]) ((t54 1 e z es).trans (by rw [hop]; rfl))).loose
    have he2 : elemsD (.slice es [] : D) ++ (bif opI e == 1 then [litI (colI e)] else []) = es := by rw [hop']; simp [elemsD]
    rw [he2]
    exact H
  | [], _, _, hg => cases hg
  | [_], _, _, hg => cases hg
  | [_, _], _, _, hg => cases hg
  | _ :: _ :: _ :: _ :: _, _, _, hg => cases hg
  | [_, _, _], [], _, hg => cases hg
  | [_, _, _], [_], _, hg => cases hg
  | [_, _, _], _ :: _ :: _ :: _, _, hg => cases hg

/-! ### All parts, by levels -/
def mayPre (K : Nat) (deep n : Int) : Bool := decide (1 <= K) && decide (7 < deep + (K : Int)) && decide (1 <= deep) && decide (deep <= 7) && decide (0 <= n) && decide (n <= 30)
def colsPre (K : Nat) (e : D) (deep : Int) (es : List D) : Bool := okK K e && decide (0 <= deep) && decide (deep + (K : Int) <= 1000) && decide (es.length + (colsK K e).length <= 100)
def a64 : List AV := [dat 42 .nil, dat 3 .nil, bxp OID 55, bxp (OID + 1) 55]
def b64m : List Ent := [⟨55, .nil, 0, some (clo 55 62 [OID + 2])⟩, ⟨55, .nil, 0, some (clo 55 64 [OID, OID + 1])⟩, ⟨3, .nil, 0, none⟩]
def b64c : List Ent := [⟨55, .nil, 0, some (clo 55 54 [OID + 2])⟩, ⟨55, .nil, 0, some (clo 55 64 [OID, OID + 1])⟩, ⟨25, .nil, 0, some (bxp (OID + 3) 25)⟩, ⟨25, .nil, 4, none⟩]
def q64m (K : Nat) : List D -> List D -> Bool := fun ds es => mayPre K (intD (ds.getD 1 .nil)) (intD (es.getD 2 .nil))
def q64c (K : Nat) : List D -> List D -> Bool := fun ds es => colsPre K (ds.getD 0 .nil) (intD (ds.getD 1 .nil)) (elemsD (es.getD 3 .nil))
def g64m (K : Nat) : List D -> List D -> HRes
 | [e, dp, _, _], [_, _, n] => some (dat 4 (.lit (.bool (mayAll K e (intD dp) (intD n)).1)), [some ⟨55, .nil, 0, some (clo 55 62 [OID + 2])⟩, some ⟨55, .nil, 0, some (clo 55 64 [OID, OID + 1])⟩, some ⟨3, .lit (.int .i64 (mayAll K e (intD dp) (intD n)).2), 0, none⟩])
 | _, _ => none
def g64c (K : Nat) : List D -> List D -> HRes
 | [e, dp, _, _], [_, _, _, l] => some (dat 4 (.lit (.bool true)), [some ⟨55, .nil, 0, some (clo 55 54 [OID + 2])⟩, some ⟨55, .nil, 0, some (clo 55 64 [OID, OID + 1])⟩, some ⟨25, .nil, 0, some (bxp (OID + 3) 25)⟩, some ⟨25, .slice (elemsD l ++ colsK K e) [], 1, none⟩])
 | _, _ => none
def h64 (K : Nat) : HEnt := (64, 4, fun args h => bif h.length == 3 then preH a64 b64m (q64m K) args h else preH a64 b64c (q64c K) args h, fun args h => bif h.length == 3 then entH a64 b64m (g64m K) args h else entH a64 b64c (g64c K) args h)
def H1 : HTab := [h62, h54]
def H2 (K : Nat) : HTab := h64 K :: H1
theorem envH1 : EnvOK Tryz.prog (envH U2 H1) := envOK_consH (envOK_consH envU2 c54) c62

end X
end
section
namespace X
open Go.Ev
set_option linter.unusedVariables false
/- roadbook/expr.through$1 -/
def t64_m_h : Hints := fun i => if i = 4 then some ([0, 2, 4, 5, 6, 7, 8, 9, 10, 11, 12, 13, 14, 18, 19, 20, 21, 22, 23, 24, 25, 26, 27], [1000000, 1000001, 1000002], []) else none
def t64_m_lp4 (P : Program) (fn : Func) (K : Nat) (N n : Nat) (x0 : D) (x1 : Int) (q : Int) (v17 : Int) (b1000002 : Int) : Option (AV × List (Option Ent)) := evLoop (preL t64_m_h (sub [1, 1, 0, 1, 0, 0] (bodyOf fn))) (evCode P (envH U2 (H2 K)) t64_m_h N (sub [1, 1, 0, 1, 0, 0] (bodyOf fn))) n ⟨[dead, dat 3 (.lit (.int .i64 x1)), dead, bxp 1000001 55, dead, dead, dead, dead, dead, dead, dead, dead, dead, dead, dead, dat 26 (fieldD x0 3), dat 3 (.lit (.int .i64 ((elemsD (fieldD x0 3)).length : Int))), dat 3 (.lit (.int .i64 v17)), dead, dead, dead, dead, dead, dead, dead, dead, dead, dead], lookB [(1000000, some ⟨55, .nil, 0, some (clo 55 62 [1000002])⟩), (1000001, some ⟨55, .nil, 0, some (clo 55 64 [1000000, 1000001])⟩), (1000002, some ⟨3, .lit (.int .i64 b1000002), 0, none⟩)]⟩ (blockK 0 (seqC P (envH U2 (H2 K)) t64_m_h N (sub [1, 1, 1] (bodyOf fn)) (finH P fn 3) ))
theorem t64_m_lp4_step (K : Nat) (N n : Nat) (x0 : D) (x1 : Int) (q : Int) (v17 : Int) (b1000002 : Int) : t64_m_lp4 Tryz.prog Tryz.f64 K N (n + 1) x0 x1 q v17 b1000002 =
 bif decide (v17 < ((elemsD (fieldD x0 3)).length : Int)) then
  bif (decide (0 <= v17) && decide (v17 < ((elemsD (fieldD x0 3)).length : Int))) then
   bif mayPre K (IntKind.wrap .i64 (x1 + 1)) b1000002 then
    bif (!((mayAll K ((elemsD (fieldD x0 3)).getD (v17).toNat .nil) (IntKind.wrap .i64 (x1 + 1)) b1000002).1)) then
     some (dat 4 (.lit (.bool false)), [some ⟨55, .nil, 0, some (clo 55 62 [1000002])⟩, some ⟨55, .nil, 0, some (clo 55 64 [1000000, 1000001])⟩, some ⟨3, .lit (.int .i64 ((mayAll K ((elemsD (fieldD x0 3)).getD (v17).toNat .nil) (IntKind.wrap .i64 (x1 + 1)) b1000002).2)), 0, none⟩])
    else t64_m_lp4 Tryz.prog Tryz.f64 K N n x0 x1 q (IntKind.wrap .i64 (v17 + 1)) ((mayAll K ((elemsD (fieldD x0 3)).getD (v17).toNat .nil) (IntKind.wrap .i64 (x1 + 1)) b1000002).2)
   else none
  else none
 else some (dat 4 (.lit (.bool true)), [some ⟨55, .nil, 0, some (clo 55 62 [1000002])⟩, some ⟨55, .nil, 0, some (clo 55 64 [1000000, 1000001])⟩, some ⟨3, .lit (.int .i64 b1000002), 0, none⟩]) := by kernel_rfl
theorem t64_m (K : Nat) (N : Nat) (x0 : D) (x1 : Int) (q : Int) : evFnH Tryz.prog (envH U2 (H2 K)) t64_m_h N Tryz.f64 [dat 42 x0, dat 3 (.lit (.int .i64 x1)), bxp 1000000 55, bxp 1000001 55] [⟨55, .nil, 0, some (clo 55 62 [1000002])⟩, ⟨55, .nil, 0, some (clo 55 64 [1000000, 1000001])⟩, ⟨3, .lit (.int .i64 q), 0, none⟩] =
 bif (decide (0 <= q) && decide (q <= 1000)) then
  bif (!(seeMay x0 x1 q)) then
   some (dat 4 (.lit (.bool false)), [some ⟨55, .nil, 0, some (clo 55 62 [1000002])⟩, some ⟨55, .nil, 0, some (clo 55 64 [1000000, 1000001])⟩, some ⟨3, .lit (.int .i64 (q + 1)), 0, none⟩])
  else t64_m_lp4 Tryz.prog Tryz.f64 K N N x0 x1 q 0 (q + 1)
 else none := by kernel_rfl

/- roadbook/expr.through$1 -/
def t64_c_h : Hints := fun i => if i = 4 then some ([0, 2, 4, 5, 6, 7, 8, 9, 10, 11, 12, 13, 14, 18, 19, 20, 21, 22, 23, 24, 25, 26, 27], [1000000, 1000001, 1000002, 1000003], []) else none
def t64_c_lp4 (P : Program) (fn : Func) (K : Nat) (N n : Nat) (x0 : D) (x1 : Int) (es : List D) (v17 : Int) (b1000003 : List D) : Option (AV × List (Option Ent)) := evLoop (preL t64_c_h (sub [1, 1, 0, 1, 0, 0] (bodyOf fn))) (evCode P (envH U2 (H2 K)) t64_c_h N (sub [1, 1, 0, 1, 0, 0] (bodyOf fn))) n ⟨[dead, dat 3 (.lit (.int .i64 x1)), dead, bxp 1000001 55, dead, dead, dead, dead, dead, dead, dead, dead, dead, dead, dead, dat 26 (fieldD x0 3), dat 3 (.lit (.int .i64 ((elemsD (fieldD x0 3)).length : Int))), dat 3 (.lit (.int .i64 v17)), dead, dead, dead, dead, dead, dead, dead, dead, dead, dead], lookB [(1000000, some ⟨55, .nil, 0, some (clo 55 54 [1000002])⟩), (1000001, some ⟨55, .nil, 0, some (clo 55 64 [1000000, 1000001])⟩), (1000002, some ⟨25, .nil, 0, some (bxp 1000003 25)⟩), (1000003, some ⟨25, .slice b1000003 [], 1, none⟩)]⟩ (blockK 0 (seqC P (envH U2 (H2 K)) t64_c_h N (sub [1, 1, 1] (bodyOf fn)) (finH P fn 4) ))
theorem t64_c_lp4_step (K : Nat) (N n : Nat) (x0 : D) (x1 : Int) (es : List D) (v17 : Int) (b1000003 : List D) : t64_c_lp4 Tryz.prog Tryz.f64 K N (n + 1) x0 x1 es v17 b1000003 =
 bif decide (v17 < ((elemsD (fieldD x0 3)).length : Int)) then
  bif (decide (0 <= v17) && decide (v17 < ((elemsD (fieldD x0 3)).length : Int))) then
   bif colsPre K ((elemsD (fieldD x0 3)).getD (v17).toNat .nil) (IntKind.wrap .i64 (x1 + 1)) b1000003 then
    t64_c_lp4 Tryz.prog Tryz.f64 K N n x0 x1 es (IntKind.wrap .i64 (v17 + 1)) (b1000003 ++ colsK K ((elemsD (fieldD x0 3)).getD (v17).toNat .nil))
   else none
  else none
 else some (dat 4 (.lit (.bool true)), [some ⟨55, .nil, 0, some (clo 55 54 [1000002])⟩, some ⟨55, .nil, 0, some (clo 55 64 [1000000, 1000001])⟩, some ⟨25, .nil, 0, some (bxp 1000003 25)⟩, some ⟨25, .slice b1000003 [], 1, none⟩]) := by kernel_rfl
theorem t64_c (K : Nat) (N : Nat) (x0 : D) (x1 : Int) (es : List D) : evFnH Tryz.prog (envH U2 (H2 K)) t64_c_h N Tryz.f64 [dat 42 x0, dat 3 (.lit (.int .i64 x1)), bxp 1000000 55, bxp 1000001 55] [⟨55, .nil, 0, some (clo 55 54 [1000002])⟩, ⟨55, .nil, 0, some (clo 55 64 [1000000, 1000001])⟩, ⟨25, .nil, 0, some (bxp 1000003 25)⟩, ⟨25, .slice es [], 4, none⟩] =
 bif decide (es.length <= 1000) then
  t64_c_lp4 Tryz.prog Tryz.f64 K N N x0 x1 es 0 (es ++ (bif opI x0 == 1 then [litI (colI x0)] else []))
 else none := by kernel_rfl

end X
end
section
namespace X
open Go.Ev
set_option linter.unusedVariables false
set_option linter.unusedSimpArgs false

theorem goL_cons (g : D -> Int -> Bool × Int) (p : D) (l : List D) (n : Int) : goL g (p :: l) n = bif (g p n).1 then goL g l (g p n).2 else (false, (g p n).2) := rfl
theorem mayAll_succ (k : Nat) (e : D) (deep n : Int) : mayAll (k + 1) e deep n = bif seeMay e deep n then goL (fun p m => mayAll k p (deep + 1) m) (kids e) (n + 1) else (false, n + 1) := rfl
theorem colsK_succ (k : Nat) (e : D) : colsK (k + 1) e = (bif opI e == 1 then [litI (colI e)] else []) ++ (kids e).flatMap (colsK k) := rfl
theorem okK_succ (k : Nat) (e : D) : okK (k + 1) e = (fitsB e && (kids e).all (okK k)) := rfl

theorem goL_bound {g : D -> Int -> Bool × Int} (hg : ∀ p m, 0 <= m -> m <= 30 -> (g p m).1 = true -> 0 <= (g p m).2 /\ (g p m).2 <= 30) : ∀ (l : List D) (m : Int), 0 <= m -> m <= 30 -> (goL g l m).1 = true -> 0 <= (goL g l m).2 /\ (goL g l m).2 <= 30
 | [], m, h0, h1, _ => ⟨h0, h1⟩
 | p :: l, m, h0, h1, h => by
  rw [goL_cons] at h ⊢
  cases hp : (g p m).1 with
  | false => rw [hp] at h; cases h
  | true =>
   rw [hp, cond_true] at h
   rw [cond_true]
   obtain ⟨b0, b1⟩ := hg p m h0 h1 hp
   exact goL_bound hg l _ b0 b1 h

theorem see_true {e : D} {deep n : Int} (h : seeMay e deep n = true) : n + 1 <= 30 /\ deep <= 6 /\ fitsB e = true := by
 unfold seeMay at h
 by_cases h1 : n + 1 <= 30
 ·have d1 : decide (n + 1 <= 30) = true := by simpa using h1
  rw [d1, cond_true] at h
  by_cases h2 : deep <= 6
  ·have d2 : decide (deep <= 6) = true := by simpa using h2
   rw [d2, cond_true] at h
   exact ⟨h1, h2, h⟩
  ·have d2 : decide (deep <= 6) = false := by simpa using h2
   rw [d2] at h
   cases h
 ·have d1 : decide (n + 1 <= 30) = false := by simpa using h1
  rw [d1] at h
  cases h

theorem mayAll_bound : ∀ (K : Nat) (e : D) (deep n : Int), 0 <= n -> n <= 30 -> (mayAll K e deep n).1 = true -> 0 <= (mayAll K e deep n).2 /\ (mayAll K e deep n).2 <= 30
 | 0, e, deep, n, h0, h1, h => by cases h
 | K + 1, e, deep, n, h0, h1, h => by
  rw [mayAll_succ] at h ⊢
  cases hs : seeMay e deep n with
  | false => rw [hs] at h; cases h
  | true =>
   rw [hs, cond_true] at h
   rw [cond_true]
   exact goL_bound (fun p m => mayAll_bound K p (deep + 1) m) _ _ (by omega) (see_true hs).1 h

theorem may_loop {K N : Nat} {x0 : D} {x1 q : Int} (hl : (kids x0).length <= maxLen) (hx : 1 <= x1) (hx6 : x1 <= 6) (hK : 7 < x1 + 1 + (K : Int)) : ∀ (n i : Nat) (b : Int), i <= (kids x0).length -> (kids x0).length - i < n -> 0 <= b -> b <= 30 ->
  t64_m_lp4 Tryz.prog Tryz.f64 K N n x0 x1 q (i : Int) b = some (dat 4 (.lit (.bool (goL (fun p m => mayAll K p (x1 + 1) m) ((kids x0).drop i) b).1)),
   [some ⟨55, .nil, 0, some (clo 55 62 [1000002])⟩, some ⟨55, .nil, 0, some (clo 55 64 [1000000, 1000001])⟩, some ⟨3, .lit (.int .i64 (goL (fun p m => mayAll K p (x1 + 1) m) ((kids x0).drop i) b).2), 0, none⟩])
 | 0, i, b, _, h, _, _ => by omega
 | n + 1, i, b, hi, h, h0, h30 => by
  rw [t64_m_lp4_step, show elemsD (fieldD x0 3) = kids x0 from rfl]
  have hw : IntKind.wrap .i64 (x1 + 1) = x1 + 1 := wrap_in (by rw [inR_iff]; omega)
  have hpre : mayPre K (x1 + 1) b = true := by simp only [mayPre, Bool.and_eq_true, decide_eq_true_eq]; omega
  rw [hw, hpre]
  by_cases hlt : i < (kids x0).length
  ·have h1 : decide ((i : Int) < ((kids x0).length : Int)) = true := by simpa using hlt
   rw [idx_ok hlt, h1, cond_true, cond_true, cond_true, Int.toNat_natCast, getD_lt hlt, List.drop_eq_getElem_cons hlt, goL_cons]
   cases hb : (mayAll K (kids x0)[i] (x1 + 1) b).1 with
   | false =>
    rw [Bool.not_false, cond_true, cond_false]
   | true =>
    obtain ⟨b0, b1⟩ := mayAll_bound K _ _ _ h0 h30 hb
    rw [Bool.not_true, cond_false, cond_true, wrap_step hl hlt]
    exact may_loop hl hx hx6 hK n (i + 1) _ (by omega) (by omega) b0 b1
  ·have h1 : decide ((i : Int) < ((kids x0).length : Int)) = false := by simpa using hlt
   have h2 : (kids x0).drop i = [] := List.drop_of_length_le (by omega)
   rw [h1, h2, cond_false]
   rfl

theorem cols_loop {K N : Nat} {x0 : D} {x1 : Int} {es : List D} (hl : (kids x0).length <= maxLen) (hx : 0 <= x1) (hx6 : x1 + 1 + (K : Int) <= 1000) (hok : ∀ p ∈ kids x0, okK K p = true) : ∀ (n i : Nat) (l : List D), i <= (kids x0).length -> (kids x0).length - i < n ->
  l.length + (((kids x0).drop i).flatMap (colsK K)).length <= 100 ->
  t64_c_lp4 Tryz.prog Tryz.f64 K N n x0 x1 es (i : Int) l = some (dat 4 (.lit (.bool true)),
   [some ⟨55, .nil, 0, some (clo 55 54 [1000002])⟩, some ⟨55, .nil, 0, some (clo 55 64 [1000000, 1000001])⟩, some ⟨25, .nil, 0, some (bxp 1000003 25)⟩, some ⟨25, .slice (l ++ ((kids x0).drop i).flatMap (colsK K)) [], 1, none⟩])
 | 0, i, l, _, h, _ => by omega
 | n + 1, i, l, hi, h, hlen => by
  rw [t64_c_lp4_step, show elemsD (fieldD x0 3) = kids x0 from rfl]
  have hw : IntKind.wrap .i64 (x1 + 1) = x1 + 1 := wrap_in (by rw [inR_iff]; omega)
  rw [hw]
  by_cases hlt : i < (kids x0).length
  ·have h1 : decide ((i : Int) < ((kids x0).length : Int)) = true := by simpa using hlt
   rw [List.drop_eq_getElem_cons hlt, List.flatMap_cons, List.length_append] at hlen
   have hpre : colsPre K (kids x0)[i] (x1 + 1) l = true := by
    simp only [colsPre, Bool.and_eq_true, decide_eq_true_eq]
    exact ⟨⟨⟨hok _ (List.getElem_mem hlt), by omega⟩, by omega⟩, by omega⟩
   rw [idx_ok hlt, h1, cond_true, cond_true, Int.toNat_natCast, getD_lt hlt, hpre, cond_true, wrap_step hl hlt, List.drop_eq_getElem_cons hlt, List.flatMap_cons, <- List.append_assoc]
   exact cols_loop hl hx hx6 hok n (i + 1) _ (by omega) (by omega) (by rw [List.length_append]; omega)
  ·have h1 : decide ((i : Int) < ((kids x0).length : Int)) = false := by simpa using hlt
   have h2 : (kids x0).drop i = [] := List.drop_of_length_le (by omega)
   rw [h1, h2, cond_false]
   simp

theorem k64 : FnOK Tryz.prog 64 Tryz.f64 := ⟨Tryz.func64, rfl, by kernel_rfl⟩

theorem c64m (K : Nat) (henv : EnvOK Tryz.prog (envH U2 (H2 K))) : ∀ args hh r h', preH a64 b64m (q64m (K + 1)) args hh = true -> entH a64 b64m (g64m (K + 1)) args hh = some (r, h') -> HCallOK Tryz.prog 64 args hh r h' :=
 entH_ok rfl rfl fun ds es r h' hq hg => by
  match ds, es, hq, hg with
  | [e, dp, y1, y2], [u1, u2, n], hq, hg =>
   cases hg
   refine HCallOK.typed k64.ex fun ht he => ?_
   obtain ⟨_, t0⟩ := ht (dat 42 e) (by simp [fillA, a64, dat, bxp]) rfl
   obtain ⟨_, t1⟩ := ht (dat 3 dp) (by simp [fillA, a64, dat, bxp]) rfl
   obtain ⟨_, t2⟩ := he ⟨3, n, 0, none⟩ (by simp [fillE, b64m]) rfl rfl
   obtain ⟨z, rfl, hz⟩ := ty3' t1
   obtain ⟨q, rfl, hq2⟩ := ty3' t2
   have hpre : mayPre (K + 1) z q = true := hq
   simp only [mayPre, Bool.and_eq_true, decide_eq_true_eq] at hpre
   obtain ⟨⟨⟨⟨⟨p1, p2⟩, p3⟩, p4⟩, p5⟩, p6⟩ := hpre
   have t0 : Ty Tryz.prog _ 42 e := t0
   obtain ⟨hl, _⟩ := ty_kids t0
   refine fnH_ok hm henv k64 ((t64_m K ((kids e).length + 1) e z q).trans ?_)
   have hd : (decide (0 <= q) && decide (q <= 1000)) = true := by simp only [Bool.and_eq_true, decide_eq_true_eq]; omega
   rw [hd, cond_true]
   show _ = some (dat 4 (.lit (.bool (mayAll (K + 1) e z q).1)), [some (⟨55, .nil, 0, some (clo 55 62 [1000002])⟩ : Ent), some ⟨55, .nil, 0, some (clo 55 64 [1000000, 1000001])⟩, some ⟨3, .lit (.int .i64 (mayAll (K + 1) e z q).2), 0, none⟩])
   rw [mayAll_succ]
   cases hs : seeMay e z q with
   | false => rfl
   | true =>
    obtain ⟨s1, s2, _⟩ := see_true hs
    rw [Bool.not_true, cond_false, cond_true]
    have := may_loop (K := K) (N := (kids e).length + 1) (q := q) hl p3 s2 (by omega) ((kids e).length + 1) 0 (q + 1) (Nat.zero_le _) (by omega) (by omega) s1
    simpa using this
  | [], _, _, hg => cases hg
  | [_], _, _, hg => cases hg
  | [_, _], _, _, hg => cases hg
  | [_, _, _], _, _, hg => cases hg
  | _ :: _ :: _ :: _ :: _ :: _, _, _, hg => cases hg
  | [_, _, _, _], [], _, hg => cases hg
  | [_, _, _, _], [_], _, hg => cases hg
  | [_, _, _, _], [_, _], _, hg => cases hg
  | [_, _, _, _], _ :: _ :: _ :: _ :: _, _, hg => cases hg

theorem g64c_inv {K : Nat} {ds es : List D} {r : AV} {h' : List (Option Ent)} (hg : g64c K ds es = some (r, h')) : ∃ e dp y1 y2 u1 u2 u3 l, ds = [e, dp, y1, y2] /\ es = [u1, u2, u3, l] /\ r = dat 4 (.lit (.bool true)) /\
  h' = [some ⟨55, .nil, 0, some (clo 55 54 [OID + 2])⟩, some ⟨55, .nil, 0, some (clo 55 64 [OID, OID + 1])⟩, some ⟨25, .nil, 0, some (bxp (OID + 3) 25)⟩, some ⟨25, .slice (elemsD l ++ colsK K e) [], 1, none⟩] := by
 unfold g64c at hg
 split at hg
 ·injection hg with hg
  injection hg with h1 h2
  exact ⟨_, _, _, _, _, _, _, _, rfl, rfl, h1.symm, h2.symm⟩
 ·cases hg

theorem c64c (K : Nat) (henv : EnvOK Tryz.prog (envH U2 (H2 K))) : ∀ args hh r h', preH a64 b64c (q64c (K + 1)) args hh = true -> entH a64 b64c (g64c (K + 1)) args hh = some (r, h') -> HCallOK Tryz.prog 64 args hh r h' :=
 entH_ok rfl rfl fun ds es r h' hq hg => by
  obtain ⟨e, dp, y1, y2, u1, u2, u3, l, rfl, rfl, rfl, rfl⟩ := g64c_inv hg
  refine HCallOK.typed k64.ex fun ht he => ?_
  refine row_slice k64.ex (e := ⟨25, l, 4, none⟩) (by simp [fillE, b64c]) (by simp) ?_
  rintro ⟨es, hes⟩
  have hes : l = .slice es [] := hes
  subst hes
  obtain ⟨_, t0⟩ := ht (dat 42 e) (by simp [fillA, a64, dat, bxp]) rfl
  obtain ⟨_, t1⟩ := ht (dat 3 dp) (by simp [fillA, a64, dat, bxp]) rfl
  obtain ⟨z, rfl, hz⟩ := ty3' t1
  have hpre : colsPre (K + 1) e z es = true := hq
  simp only [colsPre, Bool.and_eq_true, decide_eq_true_eq, okK_succ, List.all_eq_true] at hpre
  obtain ⟨⟨⟨⟨p0, p1⟩, p2⟩, p3⟩, p4⟩ := hpre
  have t0 : Ty Tryz.prog _ 42 e := t0
  obtain ⟨hl, _⟩ := ty_kids t0
  refine fnH_ok hm henv k64 ((t64_c K ((kids e).length + 1) e z es).trans ?_)
  rw [colsK_succ] at p4
  simp only [List.length_append] at p4
  have hd : decide (es.length <= 1000) = true := by simp only [decide_eq_true_eq]; omega
  rw [hd, cond_true]
  show _ = some (dat 4 (.lit (.bool true)), [some (⟨55, .nil, 0, some (clo 55 54 [1000002])⟩ : Ent), some ⟨55, .nil, 0, some (clo 55 64 [1000000, 1000001])⟩, some ⟨25, .nil, 0, some (bxp 1000003 25)⟩, some ⟨25, .slice (es ++ colsK (K + 1) e) [], 1, none⟩])
  rw [colsK_succ, <- List.append_assoc]
  have := cols_loop (K := K) (N := (kids e).length + 1) (es := es) hl p2 (by omega) p1 ((kids e).length + 1) 0 (es ++ (bif opI e == 1 then [litI (colI e)] else [])) (Nat.zero_le _) (by omega) (by simp only [List.length_append, List.drop_zero]; omega)
  simpa using this

theorem envH2 : ∀ K : Nat, EnvOK Tryz.prog (envH U2 (H2 K))
 | 0 => envOK_consH envH1 (fun args hh r h' hp _ => by
   exfalso
   revert hp
   cases (hh.length == 3) with
   | true =>
    intro hp
    have hp : preH a64 b64m (q64m 0) args hh = true := hp
    unfold preH at hp
    rw [Bool.and_eq_true] at hp
    have := hp.2
    simp [q64m, mayPre] at this
   | false =>
    intro hp
    have hp : preH a64 b64c (q64c 0) args hh = true := hp
    unfold preH at hp
    rw [Bool.and_eq_true] at hp
    have := hp.2
    simp [q64c, colsPre, okK] at this)
 | K + 1 => envOK_consH envH1 (fun args hh r h' hp hd => by
   have hp : (bif hh.length == 3 then preH a64 b64m (q64m (K + 1)) args hh else preH a64 b64c (q64c (K + 1)) args hh) = true := hp
   have hd : (bif hh.length == 3 then entH a64 b64m (g64m (K + 1)) args hh else entH a64 b64c (g64c (K + 1)) args hh) = some (r, h') := hd
   cases hlen : (hh.length == 3) with
   | true =>
    rw [hlen, cond_true] at hp hd
    exact c64m K (envH2 K) args hh r h' hp hd
   | false =>
    rw [hlen, cond_false] at hp hd
    exact c64c K (envH2 K) args hh r h' hp hd)

end X
end
section
namespace X
open Go.Ev
set_option linter.unusedVariables false
/- roadbook/expr.through -/
def t53_m_h : Hints := fun _ =>  none
theorem t53_m (N : Nat) (x0 : D) (q : Int) : evFnH Tryz.prog (envH U2 (H2 7)) t53_m_h N Tryz.f53 [dat 42 x0, clo 55 62 [1000000]] [⟨3, .lit (.int .i64 q), 0, none⟩] =
 bif mayPre 7 1 q then
  some (dat 4 (.lit (.bool ((mayAll 7 x0 1 q).1))), [some ⟨3, .lit (.int .i64 ((mayAll 7 x0 1 q).2)), 0, none⟩])
 else none := by kernel_rfl

/- roadbook/expr.through -/
def t53_c_h : Hints := fun _ =>  none
theorem t53_c (N : Nat) (x0 : D) (es : List D) : evFnH Tryz.prog (envH U2 (H2 7)) t53_c_h N Tryz.f53 [dat 42 x0, clo 55 54 [1000000]] [⟨25, .nil, 0, some (bxp 1000001 25)⟩, ⟨25, .slice es [], 4, none⟩] =
 bif colsPre 7 x0 1 es then
  some (dat 4 (.lit (.bool true)), [some ⟨25, .nil, 0, some (bxp 1000001 25)⟩, some ⟨25, .slice (es ++ colsK 7 x0) [], 1, none⟩])
 else none := by kernel_rfl

end X
end
section
namespace X
open Go.Ev
set_option linter.unusedVariables false
set_option linter.unusedSimpArgs false

def a53m : List AV := [dat 42 .nil, clo 55 62 [OID]]
def a53c : List AV := [dat 42 .nil, clo 55 54 [OID]]
def b53m : List Ent := [⟨3, .nil, 0, none⟩]
def b53c : List Ent := [⟨25, .nil, 0, some (bxp (OID + 1) 25)⟩, ⟨25, .nil, 4, none⟩]
def q53m : List D -> List D -> Bool := fun ds es => mayPre 7 1 (intD (es.getD 0 .nil))
def q53c : List D -> List D -> Bool := fun ds es => colsPre 7 (ds.getD 0 .nil) 1 (elemsD (es.getD 1 .nil))
def g53m : List D -> List D -> HRes
 | [e, _], [n] => some (dat 4 (.lit (.bool (mayAll 7 e 1 (intD n)).1)), [some ⟨3, .lit (.int .i64 (mayAll 7 e 1 (intD n)).2), 0, none⟩])
 | _, _ => none
def g53c : List D -> List D -> HRes
 | [e, _], [_, l] => some (dat 4 (.lit (.bool true)), [some ⟨25, .nil, 0, some (bxp (OID + 1) 25)⟩, some ⟨25, .slice (elemsD l ++ colsK 7 e) [], 1, none⟩])
 | _, _ => none
def h53 : HEnt := (53, 4, fun args h => bif h.length == 1 then preH a53m b53m q53m args h else preH a53c b53c q53c args h, fun args h => bif h.length == 1 then entH a53m b53m g53m args h else entH a53c b53c g53c args h)
def H3 : HTab := h53 :: H2 7
theorem k53 : FnOK Tryz.prog 53 Tryz.f53 := ⟨Tryz.func53, rfl, by kernel_rfl⟩

theorem g53m_inv {ds es : List D} {r : AV} {h' : List (Option Ent)} (hg : g53m ds es = some (r, h')) : ∃ e y n, ds = [e, y] /\ es = [n] /\ r = dat 4 (.lit (.bool (mayAll 7 e 1 (intD n)).1)) /\
  h' = [some ⟨3, .lit (.int .i64 (mayAll 7 e 1 (intD n)).2), 0, none⟩] := by
 unfold g53m at hg
 split at hg
 ·injection hg with hg
  injection hg with h1 h2
  exact ⟨_, _, _, rfl, rfl, h1.symm, h2.symm⟩
 ·cases hg
theorem g53c_inv {ds es : List D} {r : AV} {h' : List (Option Ent)} (hg : g53c ds es = some (r, h')) : ∃ e y u l, ds = [e, y] /\ es = [u, l] /\ r = dat 4 (.lit (.bool true)) /\
  h' = [some ⟨25, .nil, 0, some (bxp (OID + 1) 25)⟩, some ⟨25, .slice (elemsD l ++ colsK 7 e) [], 1, none⟩] := by
 unfold g53c at hg
 split at hg
 ·injection hg with hg
  injection hg with h1 h2
  exact ⟨_, _, _, _, rfl, rfl, h1.symm, h2.symm⟩
 ·cases hg

theorem c53m : ∀ args hh r h', preH a53m b53m q53m args hh = true -> entH a53m b53m g53m args hh = some (r, h') -> HCallOK Tryz.prog 53 args hh r h' :=
 entH_ok rfl rfl fun ds es r h' hq hg => by
  obtain ⟨e, y, n, rfl, rfl, rfl, rfl⟩ := g53m_inv hg
  refine HCallOK.typed k53.ex fun ht he => ?_
  obtain ⟨_, t2⟩ := he ⟨3, n, 0, none⟩ (by simp [fillE, b53m]) rfl rfl
  obtain ⟨q, rfl, hq2⟩ := ty3' t2
  have hpre : mayPre 7 1 q = true := hq
  refine fnH_ok hm (envH2 7) k53 ((t53_m 1 e q).trans ?_)
  rw [hpre]
  rfl
theorem c53c : ∀ args hh r h', preH a53c b53c q53c args hh = true -> entH a53c b53c g53c args hh = some (r, h') -> HCallOK Tryz.prog 53 args hh r h' :=
 entH_ok rfl rfl fun ds es r h' hq hg => by
  obtain ⟨e, y, u, l, rfl, rfl, rfl, rfl⟩ := g53c_inv hg
  refine row_slice k53.ex (e := ⟨25, l, 4, none⟩) (by simp [fillE, b53c]) (by simp) ?_
  rintro ⟨es, hes⟩
  have hes : l = .slice es [] := hes
  subst hes
  have hpre : colsPre 7 e 1 es = true := hq
  refine fnH_ok hm (envH2 7) k53 ((t53_c 1 e es).trans ?_)
  rw [hpre]
  rfl
theorem envH3 : EnvOK Tryz.prog (envH U2 H3) := envOK_consH (envH2 7) (fun args hh r h' hp hd => by
   have hp : (bif hh.length == 1 then preH a53m b53m q53m args hh else preH a53c b53c q53c args hh) = true := hp
   have hd : (bif hh.length == 1 then entH a53m b53m g53m args hh else entH a53c b53c g53c args hh) = some (r, h') := hd
   cases hlen : (hh.length == 1) with
   | true =>
    rw [hlen, cond_true] at hp hd
    exact c53m args hh r h' hp hd
   | false =>
    rw [hlen, cond_false] at hp hd
    exact c53c args hh r h' hp hd)

/-! ### Sort and compact -/
def a55 : List AV := [bxp OID 25]
def q55 (args : List AV) (h : List Ent) : Bool := allA a55 args && (match h with | [e] => e.ty == 25 && e.c.isNone && (e.row == 3 || e.row == 4) | _ => false)
def h55 : HEnt := (55, 0, fun args h => q55 args h && decide ((elemsD (h.getD 0 ⟨0, .nil, 0, none⟩).d).length <= 1000000), fun args h => match h with | [e] => some (tupA [] (.agg []), [some ⟨25, .slice (sortD (elemsD e.d)) [], e.row, none⟩]) | _ => none)
def h56 : HEnt := (56, 25, fun args h => q55 args h, fun args h => match h with | [e] => some (bxp OID 25, [some ⟨25, .slice (compD (elemsD e.d)) [], if e.row == 3 then 2 else 1, none⟩]) | _ => none)
theorem k55 : FnOK Tryz.prog 55 Tryz.f55 := ⟨Tryz.func55, rfl, by kernel_rfl⟩
theorem k56 : FnOK Tryz.prog 56 Tryz.f56 := ⟨Tryz.func56, rfl, by kernel_rfl⟩
theorem cells27 : Tryz.prog.cellsOf 25 = 1 := by kernel_rfl
theorem cells3 : Tryz.prog.cellsOf 3 = 1 := by kernel_rfl
theorem q55_inv {args : List AV} {h : List Ent} (hq : q55 args h = true) : args = [bxp OID 25] /\ ∃ e : Ent, h = [e] /\ e.ty = 25 /\ e.c = none /\ (e.row = 3 \/ e.row = 4) := by
 unfold q55 at hq
 rw [Bool.and_eq_true] at hq
 refine ⟨?_, ?_⟩
 ·have ha := allA_eq hq.1 (fun t ht _ => by
   rcases List.mem_singleton.1 ht with rfl
   rfl)
  have hl : args.length = 1 := by
   have h1 := hq.1
   match args, h1 with
   | [], h1 => cases h1
   | [_], _ => rfl
   | _ :: _ :: _, h1 => simp [allA, a55] at h1
  match args, hl with
  | [x], _ => exact ha
 ·match h, hq.2 with
  | [e], h2 =>
   simp only [Bool.and_eq_true, beq_iff_eq, Bool.or_eq_true, Option.isNone_iff_eq_none] at h2
   exact ⟨e, rfl, h2.1.1, h2.1.2, h2.2⟩
theorem c55 : ∀ args hh r h', h55.2.2.1 args hh = true -> h55.2.2.2 args hh = some (r, h') -> HCallOK Tryz.prog 55 args hh r h' := by
 intro args hh r h' hp hd
 have hp : (q55 args hh && decide ((elemsD (hh.getD 0 ⟨0, .nil, 0, none⟩).d).length <= 1000000)) = true := hp
 rw [Bool.and_eq_true] at hp
 obtain ⟨rfl, e, rfl, h1, h2, h3⟩ := q55_inv hp.1
 have hlen : (elemsD e.d).length <= 1000000 := by
  have := hp.2
  simpa using this
 have hd : some (tupA [] (.agg []), [some (⟨25, .slice (sortD (elemsD e.d)) [], e.row, none⟩ : Ent)]) = some (r, h') := hd
 rw [Option.some.injEq, Prod.mk.injEq] at hd
 rw [<- hd.1, <- hd.2]
 exact sort_ok k55.ex (fun blk off cap zs w a b c => Tryz.slices_Sort_int blk off cap zs w a b c) (fun p cap w => Tryz.slices_Sort_int_none p cap w) u27 cells27 u3 cells3 h1 h2 h3 hlen
theorem c56 : ∀ args hh r h', h56.2.2.1 args hh = true -> h56.2.2.2 args hh = some (r, h') -> HCallOK Tryz.prog 56 args hh r h' := by
 intro args hh r h' hp hd
 have hp : q55 args hh = true := hp
 obtain ⟨rfl, e, rfl, h1, h2, h3⟩ := q55_inv hp
 have hd : some (bxp OID 25, [some (⟨25, .slice (compD (elemsD e.d)) [], if e.row == 3 then 2 else 1, none⟩ : Ent)]) = some (r, h') := hd
 rw [Option.some.injEq, Prod.mk.injEq] at hd
 rw [<- hd.1, <- hd.2]
 exact compact_ok k56.ex (fun blk off cap zs w a b c => Tryz.slices_Compact_int blk off cap zs w a b c) (fun p cap w => Tryz.slices_Compact_int_empty p cap w) u27 cells27 u3 cells3 h1 h2 h3
def H4 : HTab := h56 :: h55 :: H3
theorem envH4 : EnvOK Tryz.prog (envH U2 H4) := envOK_consH (envOK_consH envH3 c55) c56

def e52 : FuncId × TypeId × (List AV -> Bool) × (List AV -> Option D) := (52, 4, yes, ent [42] (f1 fun x => some (.lit (.bool (mayE x)))))
def U3 : Tab := e52 :: U2
end X
end
section
namespace X
open Go.Ev
set_option linter.unusedVariables false
/- roadbook/expr.May -/
def t52_h : Hints := fun _ =>  none
theorem t52 (N : Nat) (x0 : D) : evFn Tryz.prog (envH U2 H3) t52_h N Tryz.f52 [dat 42 x0] =
 bif mayPre 7 1 0 then
  some (dat 4 (.lit (.bool ((mayAll 7 x0 1 0).1))))
 else none := by kernel_rfl

/- roadbook/expr.Cols -/
def t42_h : Hints := fun _ =>  none
theorem t42 (N : Nat) (x0 : D) : evFn Tryz.prog (envH U3 H4) t42_h N Tryz.f42 [dat 42 x0] =
 bif (!(mayE x0)) then
  some (dat 25 (.slice [] []))
 else bif colsPre 7 x0 1 [] then
   bif decide (([] ++ colsK 7 x0).length <= 1000000) then
    some (dat 25 (.slice (compD (sortD ([] ++ colsK 7 x0))) []))
   else none
  else none := by kernel_rfl

end X
end
section
namespace X
open Go.Ev
set_option linter.unusedVariables false
set_option linter.unusedSimpArgs false

theorem k52 : FnOK Tryz.prog 52 Tryz.f52 := ⟨Tryz.func52, rfl, by kernel_rfl⟩
theorem c52 : ∀ args d, e52.2.2.2 args = some d -> CallOK Tryz.prog 52 args (mkRes Tryz.prog 4 d) :=
 ent1 k52 fun x d h _ => by
  cases h
  rw [n26]
  refine fn_ok hm envH3 k52 ((t52 1 x).trans ?_)
  rw [m4]
  rfl
theorem envU3 : EnvOK Tryz.prog (envH U3 []) := envOK_cons envU2 c52
theorem envU3H4 : EnvOK Tryz.prog (envH U3 H4) := envOK_cons envH4 c52

/-! ### What may be has columns that are few -/
theorem goL_count {g : D -> Int -> Bool × Int} {c : D -> List D} (hg : ∀ p m, (g p m).1 = true -> m + ((c p).length : Int) <= (g p m).2) : ∀ (l : List D) (m : Int), (goL g l m).1 = true -> m + ((l.flatMap c).length : Int) <= (goL g l m).2
 | [], m, _ => by simp [goL]
 | p :: l, m, h => by
  rw [goL_cons] at h ⊢
  cases hp : (g p m).1 with
  | false => rw [hp] at h; cases h
  | true =>
   rw [hp, cond_true] at h
   rw [cond_true, List.flatMap_cons, List.length_append]
   have h1 := hg p m hp
   have h2 := goL_count hg l _ h
   omega
theorem goL_all {g : D -> Int -> Bool × Int} : ∀ (l : List D) (m : Int), (goL g l m).1 = true -> ∀ p ∈ l, ∃ k, (g p k).1 = true
 | [], m, _ => by simp
 | p :: l, m, h => by
  rw [goL_cons] at h
  cases hp : (g p m).1 with
  | false => rw [hp] at h; cases h
  | true =>
   rw [hp, cond_true] at h
   intro q hq
   rcases List.mem_cons.1 hq with rfl | hq
   ·exact ⟨m, hp⟩
   ·exact goL_all l _ h q hq
theorem mayAll_ok : ∀ (K : Nat) (e : D) (deep n : Int), (mayAll K e deep n).1 = true -> okK K e = true
 | 0, e, deep, n, h => by cases h
 | K + 1, e, deep, n, h => by
  rw [mayAll_succ] at h
  cases hs : seeMay e deep n with
  | false => rw [hs] at h; cases h
  | true =>
   rw [hs, cond_true] at h
   rw [okK_succ, (see_true hs).2.2, Bool.true_and, List.all_eq_true]
   intro p hp
   obtain ⟨k, hk⟩ := goL_all _ _ h p hp
   exact mayAll_ok K p _ k hk
theorem mayAll_count : ∀ (K : Nat) (e : D) (deep n : Int), (mayAll K e deep n).1 = true -> n + ((colsK K e).length : Int) <= (mayAll K e deep n).2
 | 0, e, deep, n, h => by cases h
 | K + 1, e, deep, n, h => by
  rw [mayAll_succ] at h ⊢
  cases hs : seeMay e deep n with
  | false => rw [hs] at h; cases h
  | true =>
   rw [hs, cond_true] at h
   rw [cond_true, colsK_succ, List.length_append]
   have h1 := goL_count (c := colsK K) (fun p m => mayAll_count K p (deep + 1) m) _ _ h
   have h2 : (bif opI e == 1 then [litI (colI e)] else []).length <= 1 := by cases (opI e == 1) <;> simp
   omega
theorem mayE_ok {e : D} (h : mayE e = true) : okK 7 e = true := mayAll_ok 7 e 1 0 h
theorem mayE_cols {e : D} (h : mayE e = true) : (colsK 7 e).length <= 30 := by
 have h1 := mayAll_count 7 e 1 0 h
 have h2 := mayAll_bound 7 e 1 0 (by omega) (by omega) h
 omega
theorem mayE_pre {e : D} (h : mayE e = true) : colsPre 7 e 1 [] = true := by
 simp only [colsPre, Bool.and_eq_true, decide_eq_true_eq]
 have := mayE_cols h
 exact ⟨⟨⟨mayE_ok h, by omega⟩, by omega⟩, by simp; omega⟩

def e42 : FuncId × TypeId × (List AV -> Bool) × (List AV -> Option D) := (42, 25, yes, ent [42] (f1 fun x => some (.slice (colsE x) [])))
theorem k42 : FnOK Tryz.prog 42 Tryz.f42 := ⟨Tryz.func42, rfl, by kernel_rfl⟩
theorem c42 : ∀ args d, e42.2.2.2 args = some d -> CallOK Tryz.prog 42 args (mkRes Tryz.prog 25 d) :=
 ent1 k42 fun x d h _ => by
  cases h
  rw [n26]
  refine fn_ok hm envU3H4 k42 ((t42 1 x).trans ?_)
  rw [m27]
  unfold colsE
  cases hmay : mayE x with
  | false => rfl
  | true =>
   have hl := mayE_cols hmay
   have hd : decide (([] ++ colsK 7 x).length <= 1000000) = true := by simp; omega
   rw [mayE_pre hmay, hd]
   rfl
def U4 : Tab := e42 :: U3
theorem envU4 : EnvOK Tryz.prog (envH U4 []) := envOK_cons envU3 c42

/-! ### Eval, by levels -/
end X
end
section
namespace X
open Go.Ev
set_option linter.unusedVariables false
set_option linter.unusedSimpArgs false

def U6 : Tab := U4
theorem envU6 : EnvOK Tryz.prog (envH U6 []) := envU4

/-! ### How many parts; has it a column: by levels -/
def e39 (K : Nat) : FuncId × TypeId × (List AV -> Bool) × (List AV -> Option D) := (39, 3, fun xs => decide (0 <= intD (xs.getD 1 dead).d) && decide (intD (xs.getD 1 dead).d < (K : Int)) && decide (K <= 1001), ent [42, 3] (f2 fun x y => some (.lit (.int .i64 (sizeK K x (intD y))))))
def e49 (K : Nat) : FuncId × TypeId × (List AV -> Bool) × (List AV -> Option D) := (49, 4, fun xs => okK K (xs.getD 0 dead).d, ent [42, 3] (f2 fun x y => some (.lit (.bool (hasK K x (intD y))))))
def U7 (K : Nat) : Tab := e49 K :: e39 K :: U6

end X
end
section
namespace X
open Go.Ev
set_option linter.unusedVariables false
/- roadbook/roadbookref02.size -/
def t39_h : Hints := fun i => if i = 3 then some ([0, 3, 4, 7, 8, 9, 10, 11, 12, 13, 14, 15, 16, 17, 18, 19, 20, 21, 22, 23, 24, 25, 26, 27, 28, 29, 30], [2], []) else none
def t39_lp3 (P : Program) (fn : Func) (K : Nat) (N n : Nat) (x0 : D) (x1 : Int) (v5 : Int) (v6 : Int) : Option AV := evLoop (preL t39_h (sub [1, 1, 0, 1, 0, 0] (bodyOf fn))) (evCode P (envH (U7 K) []) t39_h N (sub [1, 1, 0, 1, 0, 0] (bodyOf fn))) n ⟨[dead, dat 3 (.lit (.int .i64 x1)), bxp 2 42, dead, dead, dat 3 (.lit (.int .i64 v5)), dat 3 (.lit (.int .i64 v6)), dead, dead, dead, dead, dead, dead, dead, dead, dead, dead, dead, dead, dead, dead, dead, dead, dead, dead, dead, dead, dead, dead, dead, dead], lookB [(2, some ⟨42, x0, 0, none⟩)]⟩ (blockK 0 (seqC P (envH (U7 K) []) t39_h N (sub [1, 1, 1] (bodyOf fn)) (finK P fn) ))
theorem t39_lp3_step (K : Nat) (N n : Nat) (x0 : D) (x1 : Int) (v5 : Int) (v6 : Int) : t39_lp3 Tryz.prog Tryz.f39 K N (n + 1) x0 x1 v5 v6 =
 bif ((decide (v6 < ((elemsD (fieldD x0 3)).length : Int))) == true) then
  bif decide (v5 <= x1) then
   bif (decide (0 <= v6) && decide (v6 < ((elemsD (fieldD x0 3)).length : Int))) then
    bif (decide (0 <= (IntKind.wrap .i64 (x1 - v5))) && decide ((IntKind.wrap .i64 (x1 - v5)) < (K : Int)) && decide (K <= 1001)) then
     t39_lp3 Tryz.prog Tryz.f39 K N n x0 x1 (IntKind.wrap .i64 (v5 + (sizeK K ((elemsD (fieldD x0 3)).getD (v6).toNat .nil) (IntKind.wrap .i64 (x1 - v5))))) (IntKind.wrap .i64 (v6 + 1))
    else none
   else none
  else some (dat 3 (.lit (.int .i64 v5)))
 else some (dat 3 (.lit (.int .i64 v5))) := by kernel_rfl
theorem t39 (K : Nat) (N : Nat) (x0 : D) (x1 : Int) : evFn Tryz.prog (envH (U7 K) []) t39_h N Tryz.f39 [dat 42 x0, dat 3 (.lit (.int .i64 x1))] =
 t39_lp3 Tryz.prog Tryz.f39 K N N x0 x1 1 0 := by kernel_rfl

/- roadbook/roadbookref02.Has -/
def t49_h : Hints := fun i => if i = 4 then some ([0, 3, 4, 6, 7, 8, 9, 10, 11, 12, 13, 14, 15, 16, 17, 18, 19, 20, 21, 22, 23, 24, 25, 26, 27, 28, 29, 30], [2], []) else none
def t49_lp4 (P : Program) (fn : Func) (K : Nat) (N n : Nat) (x0 : D) (x1 : Int) (v5 : Int) : Option AV := evLoop (preL t49_h (sub [1, 1, 0, 1, 0, 0] (bodyOf fn))) (evCode P (envH (U7 K) []) t49_h N (sub [1, 1, 0, 1, 0, 0] (bodyOf fn))) n ⟨[dead, dat 3 (.lit (.int .i64 x1)), bxp 2 42, dead, dead, dat 3 (.lit (.int .i64 v5)), dead, dead, dead, dead, dead, dead, dead, dead, dead, dead, dead, dead, dead, dead, dead, dead, dead, dead, dead, dead, dead, dead, dead, dead, dead], lookB [(2, some ⟨42, x0, 0, none⟩)]⟩ (blockK 0 (seqC P (envH (U7 K) []) t49_h N (sub [1, 1, 1] (bodyOf fn)) (finK P fn) ))
theorem t49_lp4_step (K : Nat) (N n : Nat) (x0 : D) (x1 : Int) (v5 : Int) : t49_lp4 Tryz.prog Tryz.f49 K N (n + 1) x0 x1 v5 =
 bif decide (v5 < ((elemsD (fieldD x0 3)).length : Int)) then
  bif (decide (0 <= v5) && decide (v5 < ((elemsD (fieldD x0 3)).length : Int))) then
   bif okK K ((elemsD (fieldD x0 3)).getD (v5).toNat .nil) then
    bif hasK K ((elemsD (fieldD x0 3)).getD (v5).toNat .nil) x1 then
     some (dat 4 (.lit (.bool true)))
    else t49_lp4 Tryz.prog Tryz.f49 K N n x0 x1 (IntKind.wrap .i64 (v5 + 1))
   else none
  else none
 else some (dat 4 (.lit (.bool false))) := by kernel_rfl
theorem t49 (K : Nat) (N : Nat) (x0 : D) (x1 : Int) : evFn Tryz.prog (envH (U7 K) []) t49_h N Tryz.f49 [dat 42 x0, dat 3 (.lit (.int .i64 x1))] =
 bif (((intD (fieldD x0 0)) == 1) == true) then
  bif ((intD (fieldD x0 1)) == x1) then
   some (dat 4 (.lit (.bool true)))
  else t49_lp4 Tryz.prog Tryz.f49 K N N x0 x1 0
 else t49_lp4 Tryz.prog Tryz.f49 K N N x0 x1 0 := by kernel_rfl

end X
end
section
namespace X
open Go.Ev
set_option linter.unusedVariables false
set_option linter.unusedSimpArgs false

theorem entp2 {f : FuncId} {fn : Func} {t t1 t2 : TypeId} {F : D -> D -> Option D} {pre : List AV -> Bool} {q : D -> D -> Bool} (hf : FnOK Tryz.prog f fn) (hpre : ∀ args, pre args = q (args.getD 0 dead).d (args.getD 1 dead).d)
  (h : ∀ x y d, q x y = true -> F x y = some d -> (∃ n, Ty Tryz.prog n t1 x) -> (∃ n, Ty Tryz.prog n t2 y) -> CallOK Tryz.prog f [dat t1 (normD Tryz.prog t1 x), dat t2 (normD Tryz.prog t2 y)] (mkRes Tryz.prog t d)) :
  ∀ args d, pre args = true -> ent [t1, t2] (f2 F) args = some d -> CallOK Tryz.prog f args (mkRes Tryz.prog t d) := by
 intro args d hp hd
 have key := ent2 (P := Tryz.prog) (f := f) (t := t) (t1 := t1) (t2 := t2) (F := fun x y => if q x y = true then F x y else none) hf (fun x y d h' hx hy => by
  split at h'
  ·rename_i hq; exact h x y d hq h' hx hy
  ·cases h')
 refine key args d ?_
 unfold ent at hd ⊢
 split at hd
 ·rename_i hs
  rw [if_pos hs]
  match args, hd, hp with
  | [a, b], hd, hp =>
   rw [hpre] at hp
   have hp : q a.d b.d = true := hp
   show (if q a.d b.d = true then F a.d b.d else none) = some d
   rw [if_pos hp]
   exact hd
  | [], hd, _ => cases hd
  | [_], hd, _ => cases hd
  | _ :: _ :: _ :: _, hd, _ => cases hd
 ·cases hd

/-! ### How many parts -/
theorem sizeL_cons (g : D -> Int -> Int) (most : Int) (p : D) (l : List D) (n : Int) : sizeL g most (p :: l) n = bif decide (n <= most) then sizeL g most l (n + g p (most - n)) else n := rfl
theorem sizeL_over {g : D -> Int -> Int} {most n : Int} (h : ¬ n <= most) : ∀ l, sizeL g most l n = n
 | [] => rfl
 | p :: l => by
  rw [sizeL_cons]
  have : decide (n <= most) = false := by simpa using h
  rw [this, cond_false]
theorem sizeL_bound {g : D -> Int -> Int} (hg : ∀ p m, 0 <= m -> 1 <= g p m /\ g p m <= m + 1) {most : Int} : ∀ (l : List D) (n : Int), 1 <= n -> n <= most + 1 -> 1 <= sizeL g most l n /\ sizeL g most l n <= most + 1
 | [], n, h1, h2 => ⟨h1, h2⟩
 | p :: l, n, h1, h2 => by
  rw [sizeL_cons]
  by_cases h : n <= most
  ·have hd : decide (n <= most) = true := by simpa using h
   rw [hd, cond_true]
   obtain ⟨a, b⟩ := hg p (most - n) (by omega)
   exact sizeL_bound hg l _ (by omega) (by omega)
  ·have hd : decide (n <= most) = false := by simpa using h
   rw [hd, cond_false]
   exact ⟨h1, h2⟩
theorem sizeK_bound : ∀ (k : Nat) (e : D) (m : Int), 0 <= m -> 1 <= sizeK k e m /\ sizeK k e m <= m + 1
 | 0, e, m, h => ⟨Int.le_refl 1, by show (1 : Int) <= m + 1; omega⟩
 | k + 1, e, m, h => sizeL_bound (fun p m' h' => sizeK_bound k p m' h') (kids e) 1 (by omega) (by omega)

theorem size_loop {K N : Nat} {x0 : D} {most : Int} (hK : K <= 1001) (hm0 : 0 <= most) (hm1 : most < (K : Int) + 1) (hl : (kids x0).length <= maxLen) : ∀ (n i : Nat) (c : Int), i <= (kids x0).length -> (kids x0).length - i < n -> 1 <= c -> c <= most + 1 ->
  t39_lp3 Tryz.prog Tryz.f39 K N n x0 most c (i : Int) = some (dat 3 (.lit (.int .i64 (sizeL (sizeK K) most ((kids x0).drop i) c))))
 | 0, i, c, _, h, _, _ => by omega
 | n + 1, i, c, hi, h, hc1, hc2 => by
  rw [t39_lp3_step, show elemsD (fieldD x0 3) = kids x0 from rfl]
  by_cases hlt : i < (kids x0).length
  ·have h1 : decide ((i : Int) < ((kids x0).length : Int)) = true := by simpa using hlt
   rw [List.drop_eq_getElem_cons hlt, sizeL_cons, idx_ok hlt, h1]
   by_cases h2 : c <= most
   ·have d2 : decide (c <= most) = true := by simpa using h2
    have hw : IntKind.wrap .i64 (most - c) = most - c := wrap_in (by rw [inR_iff]; omega)
    have hp : (decide (0 <= most - c) && decide (most - c < (K : Int)) && decide (K <= 1001)) = true := by
     simp only [Bool.and_eq_true, decide_eq_true_eq]
     omega
    obtain ⟨s1, s2⟩ := sizeK_bound K (kids x0)[i] (most - c) (by omega)
    have hw2 : IntKind.wrap .i64 (c + sizeK K (kids x0)[i] (most - c)) = c + sizeK K (kids x0)[i] (most - c) := wrap_in (by rw [inR_iff]; omega)
    rw [d2, hw, hp, Int.toNat_natCast, getD_lt hlt, hw2, wrap_step hl hlt]
    exact size_loop hK hm0 hm1 hl n (i + 1) _ (by omega) (by omega) (by omega) (by omega)
   ·have d2 : decide (c <= most) = false := by simpa using h2
    rw [d2]
    rfl
  ·have h1 : decide ((i : Int) < ((kids x0).length : Int)) = false := by simpa using hlt
   have h2 : (kids x0).drop i = [] := List.drop_of_length_le (by omega)
   rw [h1, h2]
   rfl

theorem has_loop {K N : Nat} {x0 : D} {c : Int} (hl : (kids x0).length <= maxLen) (hok : ∀ p ∈ kids x0, okK K p = true) : ∀ (n i : Nat), i <= (kids x0).length -> (kids x0).length - i < n ->
  t49_lp4 Tryz.prog Tryz.f49 K N n x0 c (i : Int) = some (dat 4 (.lit (.bool (((kids x0).drop i).any fun p => hasK K p c))))
 | 0, i, _, h => by omega
 | n + 1, i, hi, h => by
  rw [t49_lp4_step, show elemsD (fieldD x0 3) = kids x0 from rfl]
  by_cases hlt : i < (kids x0).length
  ·have h1 : decide ((i : Int) < ((kids x0).length : Int)) = true := by simpa using hlt
   rw [List.drop_eq_getElem_cons hlt, List.any_cons, idx_ok hlt, h1, cond_true, cond_true, Int.toNat_natCast, getD_lt hlt, hok _ (List.getElem_mem hlt), cond_true, wrap_step hl hlt]
   cases hh : hasK K (kids x0)[i] c with
   | true => rfl
   | false =>
    rw [cond_false, Bool.false_or]
    exact has_loop hl hok n (i + 1) (by omega) (by omega)
  ·have h1 : decide ((i : Int) < ((kids x0).length : Int)) = false := by simpa using hlt
   have h2 : (kids x0).drop i = [] := List.drop_of_length_le (by omega)
   rw [h1, h2]
   rfl

theorem k39 : FnOK Tryz.prog 39 Tryz.f39 := ⟨Tryz.func39, rfl, by kernel_rfl⟩
theorem k49 : FnOK Tryz.prog 49 Tryz.f49 := ⟨Tryz.func49, rfl, by kernel_rfl⟩
theorem c39 (K : Nat) (henv : EnvOK Tryz.prog (envH (U7 K) [])) : ∀ args d, (e39 (K + 1)).2.2.1 args = true -> (e39 (K + 1)).2.2.2 args = some d -> CallOK Tryz.prog 39 args (mkRes Tryz.prog 3 d) :=
 entp2 k39 (q := fun x y => decide (0 <= intD y) && decide (intD y < ((K + 1 : Nat) : Int)) && decide (K + 1 <= 1001)) (fun _ => rfl) fun x y d hq h ⟨_, hx⟩ ⟨_, hy⟩ => by
  cases h
  rw [n26, n3]
  simp only [Bool.and_eq_true, decide_eq_true_eq] at hq
  obtain ⟨z, rfl, _⟩ := ty3' hy
  have hq : (0 <= z /\ z < ((K + 1 : Nat) : Int)) /\ K + 1 <= 1001 := hq
  obtain ⟨hl, _⟩ := ty_kids hx
  refine fn_ok hm henv k39 ((t39 K ((kids x).length + 1) x z).trans ?_)
  rw [m3]
  exact size_loop (K := K) (by omega) hq.1.1 (by omega) hl ((kids x).length + 1) 0 1 (Nat.zero_le _) (by omega) (by omega) (by omega)
theorem c49 (K : Nat) (henv : EnvOK Tryz.prog (envH (U7 K) [])) : ∀ args d, (e49 (K + 1)).2.2.1 args = true -> (e49 (K + 1)).2.2.2 args = some d -> CallOK Tryz.prog 49 args (mkRes Tryz.prog 4 d) :=
 entp2 k49 (q := fun x y => okK (K + 1) x) (fun _ => rfl) fun x y d hq h ⟨_, hx⟩ ⟨_, hy⟩ => by
  cases h
  rw [n26, n3]
  simp only [okK_succ, Bool.and_eq_true, List.all_eq_true] at hq
  obtain ⟨z, rfl, _⟩ := ty3' hy
  obtain ⟨hl, _⟩ := ty_kids hx
  refine fn_ok hm henv k49 ((t49 K ((kids x).length + 1) x z).trans ?_)
  rw [m4]
  have hloop := has_loop (K := K) (N := (kids x).length + 1) (c := z) hl hq.2 ((kids x).length + 1) 0 (Nat.zero_le _) (by omega)
  rw [show intD (fieldD x 0) = opI x from rfl, show intD (fieldD x 1) = colI x from rfl]
  show _ = some (dat 4 (.lit (.bool ((opI x == 1 && colI x == z) || (kids x).any fun p => hasK K p z))))
  have hloop : t49_lp4 Tryz.prog Tryz.f49 K ((kids x).length + 1) ((kids x).length + 1) x z 0 = some (dat 4 (.lit (.bool ((kids x).any fun p => hasK K p z)))) := hloop
  rw [hloop]
  cases (opI x == 1) <;> cases (colI x == z) <;> rfl
theorem envU7 : ∀ K : Nat, EnvOK Tryz.prog (envH (U7 K) [])
 | 0 => envOK_cons' (envOK_cons' envU6 (fun args d hp _ => by
    exfalso
    simp only [Bool.and_eq_true, decide_eq_true_eq] at hp
    have : (0 : Int) <= intD (args.getD 1 dead).d := hp.1.1
    have : intD (args.getD 1 dead).d < ((0 : Nat) : Int) := hp.1.2
    omega)) (fun args d hp _ => by
    have hp : false = true := hp
    cases hp)
 | K + 1 => envOK_cons' (envOK_cons' envU6 (c39 K (envU7 K))) (c49 K (envU7 K))

def fewB (e : D) (n : Int) : Bool := decide (sizeK 1001 e n <= n)
def smallD : D := .agg [.lit (.int .i64 7), .lit (.int .i64 0), .agg [.lit (.int .i64 0), .lit (.int .i64 0)], .slice [.agg [.lit (.int .i64 1), .lit (.int .i64 3), .agg [.lit (.int .i64 0), .lit (.int .i64 0)], .slice [] []], .agg [.lit (.int .i64 0), .lit (.int .i64 0), .agg [.lit (.int .i64 0), .lit (.int .i64 5)], .slice [] []]] []]
end X
end
section
namespace X
open Go.Ev
set_option linter.unusedVariables false
/- roadbook/roadbookref02.Few -/
def t25_h : Hints := fun _ =>  none
theorem t25 (N : Nat) (x0 : D) (x1 : Int) : evFn Tryz.prog (envH (U7 1001) []) t25_h N Tryz.f25 [dat 42 x0, dat 3 (.lit (.int .i64 x1))] =
 bif (decide (0 <= x1) && decide (x1 < (1001 : Int)) && decide (1001 <= 1001)) then
  some (dat 4 (.lit (.bool (decide ((sizeK 1001 x0 x1) <= x1)))))
 else none := by kernel_rfl

end X
end
section
namespace X
open Go.Ev
set_option linter.unusedVariables false
set_option linter.unusedSimpArgs false

theorem m26 (x : D) : mkRes Tryz.prog 42 x = dat 42 x := by kernel_rfl
theorem small_cols : colsE smallD = [.lit (.int .i64 3)] := by
 have h1 : mayE smallD = true := rfl
 have h2 : colsK 7 smallD = [litI 3] := rfl
 unfold colsE
 rw [h1, h2, cond_true]
 have h3 : sortD [litI 3] = [litI 3] := by
  unfold sortD sortI
  simp [litI, intD]
 rw [h3]
 rfl
def e25 : FuncId × TypeId × (List AV -> Bool) × (List AV -> Option D) := (25, 4, fun xs => decide (0 <= intD (xs.getD 1 dead).d) && decide (intD (xs.getD 1 dead).d <= 1000), ent [42, 3] (f2 fun x y => some (.lit (.bool (fewB x (intD y))))))
theorem k25 : FnOK Tryz.prog 25 Tryz.f25 := ⟨Tryz.func25, rfl, by kernel_rfl⟩
theorem c25 : ∀ args d, e25.2.2.1 args = true -> e25.2.2.2 args = some d -> CallOK Tryz.prog 25 args (mkRes Tryz.prog 4 d) :=
 entp2 k25 (q := fun x y => decide (0 <= intD y) && decide (intD y <= 1000)) (fun _ => rfl) fun x y d hq h _ ⟨_, hy⟩ => by
  cases h
  rw [n26, n3]
  simp only [Bool.and_eq_true, decide_eq_true_eq] at hq
  obtain ⟨z, rfl, _⟩ := ty3' hy
  have hq : 0 <= z /\ z <= 1000 := hq
  refine fn_ok hm (envU7 1001) k25 ((t25 1 x z).trans ?_)
  rw [m4]
  have h1 : (decide (0 <= z) && decide (z < (1001 : Int)) && decide (1001 <= 1001)) = true := by
   simp only [Bool.and_eq_true, decide_eq_true_eq]
   omega
  rw [h1]
  rfl
def U9 : Tab := e25 :: e49 7 :: U6
theorem envU9 : EnvOK Tryz.prog (envH U9 []) := envOK_cons' (envOK_cons' envU6 (c49 6 (envU7 6))) c25

end X
end
end Go.Proofs.YtanjicjomcocmaaGreatDoor
