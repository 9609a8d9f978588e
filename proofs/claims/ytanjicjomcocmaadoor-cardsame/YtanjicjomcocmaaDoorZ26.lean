/- Trees of functions, and lemmas. Nothing here is trusted. -/
import Derived.Test.YtanjicjomcocmaaDoorZ25
import Derived.Test.YtanjicjomcocmaaDoorZ16
import Derived.Test.YtanjicjomcocmaaDoorZ03
namespace Go.Proofs.YtanjicjomcocmaaDoor
section
namespace X
open Go.Ev
set_option linter.unusedVariables false
set_option linter.unusedSimpArgs false

abbrev HEnt := FuncId × TypeId × (List AV -> List Ent -> Bool) × (List AV -> List Ent -> Option (AV × List (Option Ent)))

/-! ### May's -/
def a47 : List AV := [dat 40 .nil, dat 3 .nil, bxp OID 3]
def b47 : List Ent := [⟨3, .nil, 0, none⟩]
def q47 : List D -> List D -> Bool := fun _ es => decide (0 <= intD (es.getD 0 .nil)) && decide (intD (es.getD 0 .nil) <= 1000)
def g47 : List D -> List D -> HRes
 | [e, dp, _], [n] => some (dat 4 (.lit (.bool (seeMay e (intD dp) (intD n)))), [some ⟨3, litI (intD n + 1), 0, none⟩])
 | _, _ => none
def h47 : HEnt := (47, 4, preH a47 b47 q47, entH a47 b47 g47)
theorem k47 : FnOK Tryd.prog 47 Tryd.f47 := ⟨Tryd.func47, rfl, by kernel_rfl⟩
theorem c47 : ∀ args hh r h', h47.2.2.1 args hh = true -> h47.2.2.2 args hh = some (r, h') -> HCallOK Tryd.prog 47 args hh r h' :=
 entH_ok rfl rfl fun ds es r h' hq hg => by
  match ds, es, hq, hg with
  | [e, dp, y], [n], hq, hg =>
   cases hg
   refine HCallOK.typed k47.ex fun ht he => ?_
   obtain ⟨_, t1⟩ := ht (dat 3 dp) (by simp [fillA, a47, dat, bxp]) rfl
   obtain ⟨_, t2⟩ := he ⟨3, n, 0, none⟩ (by simp [fillE, b47]) rfl rfl
   obtain ⟨z, rfl, hz⟩ := ty3' t1
   obtain ⟨q, rfl, hq2⟩ := ty3' t2
   have hq' : 0 <= q /\ q <= 1000 := by simpa [q47, intD] using hq
   have hw : IntKind.wrap .i64 (q + 1) = q + 1 := wrap_in (by rw [inR_iff]; omega)
   refine fnH_ok hm envU2 k47 ((t47 1 e z q).trans ?_)
   rw [hw]
   show _ = some (dat 4 (.lit (.bool (bif decide (q + 1 <= 30) then bif decide (z <= 6) then fitsB e else false else false))), [some (⟨3, .lit (.int .i64 (q + 1)), 0, none⟩ : Ent)])
   generalize decide (q + 1 <= 30) = b1
   generalize decide (z <= 6) = b2
   cases b1 <;> cases b2 <;> rfl
  | [], _, _, hg => cases hg
  | [_], _, _, hg => cases hg
  | [_, _], _, _, hg => cases hg
  | _ :: _ :: _ :: _ :: _, _, _, hg => cases hg
  | [_, _, _], [], _, hg => cases hg
  | [_, _, _], _ :: _ :: _, _, hg => cases hg

/-! ### Cols' -/
def a40 : List AV := [dat 40 .nil, dat 3 .nil, bxp OID 22]
def b40 : List Ent := [⟨22, .nil, 0, some (bxp (OID + 1) 22)⟩, ⟨22, .nil, 4, none⟩]
def q40 : List D -> List D -> Bool := fun _ es => decide ((elemsD (es.getD 1 .nil)).length <= 1000)
def own (e : D) : List D := bif opI e == 1 then [litI (colI e)] else []
def g40 : List D -> List D -> HRes
 | [e, dp, _], [_, l] => some (dat 4 (.lit (.bool true)), [some ⟨22, .nil, 0, some (bxp (OID + 1) 22)⟩, some ⟨22, .slice (elemsD l ++ (bif opI e == 1 then [litI (colI e)] else [])) [], 1, none⟩])
 | _, _ => none
def h40 : HEnt := (40, 4, preH a40 b40 q40, entH a40 b40 g40)
theorem k40 : FnOK Tryd.prog 40 Tryd.f40 := ⟨Tryd.func40, rfl, by kernel_rfl⟩

/-- A row that is handed over is a list. -/
theorem row_slice {P : Program} {f : FuncId} {args : List AV} {h : List Ent} {r : AV} {h' : List (Option Ent)} (hfn : ∃ fn c, P.funcs[f]? = some fn /\ fn.body = some c /\ (fn.name == "runtime.NumGoroutine") = false) {e : Ent} (he : e ∈ h) (h0 : e.row ≠ 0)
  (H : (∃ es, e.d = .slice es []) -> HCallOK P f args h r h') : HCallOK P f args h r h' := by
 refine ⟨hfn, fun w okA β vs htb hok hH hargs => ?_⟩
 refine (H ?_).call w okA β vs htb hok hH hargs
 obtain ⟨k, hk⟩ := List.getElem?_of_mem he
 have hb : bxOf h (OID + k) = some e := by
  unfold bxOf
  rw [if_neg (by omega), Nat.add_sub_cancel_left]
  exact hk
 obtain ⟨_, _, _, _, h4, _⟩ := hH.row _ e hb h0
 exact h4

theorem c40 : ∀ args hh r h', h40.2.2.1 args hh = true -> h40.2.2.2 args hh = some (r, h') -> HCallOK Tryd.prog 40 args hh r h' :=
 entH_ok rfl rfl fun ds es r h' hq hg => by
  match ds, es, hq, hg with
  | [e, dp, y], [u, l], hq, hg =>
   cases hg
   refine HCallOK.typed k40.ex fun ht he => ?_
   refine row_slice k40.ex (e := ⟨22, l, 4, none⟩) (by simp [fillE, b40]) (by simp) ?_
   rintro ⟨es, hes⟩
   have hes : l = .slice es [] := hes
   subst hes
   obtain ⟨_, t1⟩ := ht (dat 3 dp) (by simp [fillA, a40, dat, bxp]) rfl
   obtain ⟨z, rfl, hz⟩ := ty3' t1
   have hq' : es.length <= 1000 := by simpa [q40, elemsD] using hq
   cases hop : (intD (fieldD e 0) == 1) with
   | true =>
    have hop' : (opI e == 1) = true := hop
    refine fnH_ok hm envU2 k40 ((t40 1 e z es).trans ?_)
    have hd : decide ((es).length + 1 <= 2147483648) = true := by simp; omega
    rw [hop, hd, hop']
    rfl
   | false =>
    have hop' : (opI e == 1) = false := hop
    have H := (fnH_ok hm envU2 k40 (args := [dat 40 e, dat 3 (.lit (.int .i64 z)), bxp OID 22]) (h := [⟨22, .nil, 0, some (bxp (OID + 1) 22)⟩, ⟨22, .slice es [], 4, none⟩]) (r := dat 4 (.lit (.bool true)))
     (h' := [some ⟨22, .nil, 0, some (bxp (OID + 1) 22)⟩, some ⟨22, .slice es [], 4, none⟩]) ((t40 1 e z es).trans (by rw [hop]; rfl))).loose
    have he2 : elemsD (.slice es [] : D) ++ (bif opI e == 1 then [litI (colI e)] else []) = es := by rw [hop']; simp [elemsD]
    rw [he2]
    exact H
  | [], _, _, hg => cases hg
  | [_], _, _, hg => cases hg
  | [_, _], _, _, hg => cases hg
  | _ :: _ :: _ :: _ :: _, _, _, hg => cases hg
  | [_, _, _], [], _, hg => cases hg
  | [_, _, _], [_], _, hg => cases hg
  | [_, _, _], _ :: _ :: _ :: _, _, hg => cases hg

/-! ### All parts, by levels -/
def mayPre (K : Nat) (deep n : Int) : Bool := decide (1 <= K) && decide (7 < deep + (K : Int)) && decide (1 <= deep) && decide (deep <= 7) && decide (0 <= n) && decide (n <= 30)
def colsPre (K : Nat) (e : D) (deep : Int) (es : List D) : Bool := okK K e && decide (0 <= deep) && decide (deep + (K : Int) <= 1000) && decide (es.length + (colsK K e).length <= 100)
def a49 : List AV := [dat 40 .nil, dat 3 .nil, bxp OID 60, bxp (OID + 1) 60]
def b49m : List Ent := [⟨60, .nil, 0, some (clo 60 47 [OID + 2])⟩, ⟨60, .nil, 0, some (clo 60 49 [OID, OID + 1])⟩, ⟨3, .nil, 0, none⟩]
def b49c : List Ent := [⟨60, .nil, 0, some (clo 60 40 [OID + 2])⟩, ⟨60, .nil, 0, some (clo 60 49 [OID, OID + 1])⟩, ⟨22, .nil, 0, some (bxp (OID + 3) 22)⟩, ⟨22, .nil, 4, none⟩]
def q49m (K : Nat) : List D -> List D -> Bool := fun ds es => mayPre K (intD (ds.getD 1 .nil)) (intD (es.getD 2 .nil))
def q49c (K : Nat) : List D -> List D -> Bool := fun ds es => colsPre K (ds.getD 0 .nil) (intD (ds.getD 1 .nil)) (elemsD (es.getD 3 .nil))
def g49m (K : Nat) : List D -> List D -> HRes
 | [e, dp, _, _], [_, _, n] => some (dat 4 (.lit (.bool (mayAll K e (intD dp) (intD n)).1)), [some ⟨60, .nil, 0, some (clo 60 47 [OID + 2])⟩, some ⟨60, .nil, 0, some (clo 60 49 [OID, OID + 1])⟩, some ⟨3, .lit (.int .i64 (mayAll K e (intD dp) (intD n)).2), 0, none⟩])
 | _, _ => none
def g49c (K : Nat) : List D -> List D -> HRes
 | [e, dp, _, _], [_, _, _, l] => some (dat 4 (.lit (.bool true)), [some ⟨60, .nil, 0, some (clo 60 40 [OID + 2])⟩, some ⟨60, .nil, 0, some (clo 60 49 [OID, OID + 1])⟩, some ⟨22, .nil, 0, some (bxp (OID + 3) 22)⟩, some ⟨22, .slice (elemsD l ++ colsK K e) [], 1, none⟩])
 | _, _ => none
def h49 (K : Nat) : HEnt := (49, 4, fun args h => bif h.length == 3 then preH a49 b49m (q49m K) args h else preH a49 b49c (q49c K) args h, fun args h => bif h.length == 3 then entH a49 b49m (g49m K) args h else entH a49 b49c (g49c K) args h)
def H1 : HTab := [h47, h40]
def H2 (K : Nat) : HTab := h49 K :: H1
theorem envH1 : EnvOK Tryd.prog (envH U2 H1) := envOK_consH (envOK_consH envU2 c40) c47

end X
end
section
namespace X
open Go.Ev
set_option linter.unusedVariables false
/- roadbook/expr.through$1 -/
def t49_m_h : Hints := fun i => if i = 4 then some ([0, 2, 4, 5, 6, 7, 8, 9, 10, 11, 12, 13, 14, 18, 19, 20, 21, 22, 23, 24, 25, 26, 27], [1000000, 1000001, 1000002], []) else none
def t49_m_lp4 (P : Program) (fn : Func) (K : Nat) (N n : Nat) (x0 : D) (x1 : Int) (q : Int) (v17 : Int) (b1000002 : Int) : Option (AV × List (Option Ent)) := evLoop (preL t49_m_h (sub [1, 1, 0, 1, 0, 0] (bodyOf fn))) (evCode P (envH U2 (H2 K)) t49_m_h N (sub [1, 1, 0, 1, 0, 0] (bodyOf fn))) n ⟨[dead, dat 3 (.lit (.int .i64 x1)), dead, bxp 1000001 60, dead, dead, dead, dead, dead, dead, dead, dead, dead, dead, dead, dat 29 (fieldD x0 3), dat 3 (.lit (.int .i64 ((elemsD (fieldD x0 3)).length : Int))), dat 3 (.lit (.int .i64 v17)), dead, dead, dead, dead, dead, dead, dead, dead, dead, dead], lookB [(1000000, some ⟨60, .nil, 0, some (clo 60 47 [1000002])⟩), (1000001, some ⟨60, .nil, 0, some (clo 60 49 [1000000, 1000001])⟩), (1000002, some ⟨3, .lit (.int .i64 b1000002), 0, none⟩)]⟩ (blockK 0 (seqC P (envH U2 (H2 K)) t49_m_h N (sub [1, 1, 1] (bodyOf fn)) (finH P fn 3) ))
theorem t49_m_lp4_step (K : Nat) (N n : Nat) (x0 : D) (x1 : Int) (q : Int) (v17 : Int) (b1000002 : Int) : t49_m_lp4 Tryd.prog Tryd.f49 K N (n + 1) x0 x1 q v17 b1000002 =
 bif decide (v17 < ((elemsD (fieldD x0 3)).length : Int)) then
  bif (decide (0 <= v17) && decide (v17 < ((elemsD (fieldD x0 3)).length : Int))) then
   bif mayPre K (IntKind.wrap .i64 (x1 + 1)) b1000002 then
    bif (!((mayAll K ((elemsD (fieldD x0 3)).getD (v17).toNat .nil) (IntKind.wrap .i64 (x1 + 1)) b1000002).1)) then
     some (dat 4 (.lit (.bool false)), [some ⟨60, .nil, 0, some (clo 60 47 [1000002])⟩, some ⟨60, .nil, 0, some (clo 60 49 [1000000, 1000001])⟩, some ⟨3, .lit (.int .i64 ((mayAll K ((elemsD (fieldD x0 3)).getD (v17).toNat .nil) (IntKind.wrap .i64 (x1 + 1)) b1000002).2)), 0, none⟩])
    else t49_m_lp4 Tryd.prog Tryd.f49 K N n x0 x1 q (IntKind.wrap .i64 (v17 + 1)) ((mayAll K ((elemsD (fieldD x0 3)).getD (v17).toNat .nil) (IntKind.wrap .i64 (x1 + 1)) b1000002).2)
   else none
  else none
 else some (dat 4 (.lit (.bool true)), [some ⟨60, .nil, 0, some (clo 60 47 [1000002])⟩, some ⟨60, .nil, 0, some (clo 60 49 [1000000, 1000001])⟩, some ⟨3, .lit (.int .i64 b1000002), 0, none⟩]) := by kernel_rfl
theorem t49_m (K : Nat) (N : Nat) (x0 : D) (x1 : Int) (q : Int) : evFnH Tryd.prog (envH U2 (H2 K)) t49_m_h N Tryd.f49 [dat 40 x0, dat 3 (.lit (.int .i64 x1)), bxp 1000000 60, bxp 1000001 60] [⟨60, .nil, 0, some (clo 60 47 [1000002])⟩, ⟨60, .nil, 0, some (clo 60 49 [1000000, 1000001])⟩, ⟨3, .lit (.int .i64 q), 0, none⟩] =
 bif (decide (0 <= q) && decide (q <= 1000)) then
  bif (!(seeMay x0 x1 q)) then
   some (dat 4 (.lit (.bool false)), [some ⟨60, .nil, 0, some (clo 60 47 [1000002])⟩, some ⟨60, .nil, 0, some (clo 60 49 [1000000, 1000001])⟩, some ⟨3, .lit (.int .i64 (q + 1)), 0, none⟩])
  else t49_m_lp4 Tryd.prog Tryd.f49 K N N x0 x1 q 0 (q + 1)
 else none := by kernel_rfl

/- roadbook/expr.through$1 -/
def t49_c_h : Hints := fun i => if i = 4 then some ([0, 2, 4, 5, 6, 7, 8, 9, 10, 11, 12, 13, 14, 18, 19, 20, 21, 22, 23, 24, 25, 26, 27], [1000000, 1000001, 1000002, 1000003], []) else none
def t49_c_lp4 (P : Program) (fn : Func) (K : Nat) (N n : Nat) (x0 : D) (x1 : Int) (es : List D) (v17 : Int) (b1000003 : List D) : Option (AV × List (Option Ent)) := evLoop (preL t49_c_h (sub [1, 1, 0, 1, 0, 0] (bodyOf fn))) (evCode P (envH U2 (H2 K)) t49_c_h N (sub [1, 1, 0, 1, 0, 0] (bodyOf fn))) n ⟨[dead, dat 3 (.lit (.int .i64 x1)), dead, bxp 1000001 60, dead, dead, dead, dead, dead, dead, dead, dead, dead, dead, dead, dat 29 (fieldD x0 3), dat 3 (.lit (.int .i64 ((elemsD (fieldD x0 3)).length : Int))), dat 3 (.lit (.int .i64 v17)), dead, dead, dead, dead, dead, dead, dead, dead, dead, dead], lookB [(1000000, some ⟨60, .nil, 0, some (clo 60 40 [1000002])⟩), (1000001, some ⟨60, .nil, 0, some (clo 60 49 [1000000, 1000001])⟩), (1000002, some ⟨22, .nil, 0, some (bxp 1000003 22)⟩), (1000003, some ⟨22, .slice b1000003 [], 1, none⟩)]⟩ (blockK 0 (seqC P (envH U2 (H2 K)) t49_c_h N (sub [1, 1, 1] (bodyOf fn)) (finH P fn 4) ))
theorem t49_c_lp4_step (K : Nat) (N n : Nat) (x0 : D) (x1 : Int) (es : List D) (v17 : Int) (b1000003 : List D) : t49_c_lp4 Tryd.prog Tryd.f49 K N (n + 1) x0 x1 es v17 b1000003 =
 bif decide (v17 < ((elemsD (fieldD x0 3)).length : Int)) then
  bif (decide (0 <= v17) && decide (v17 < ((elemsD (fieldD x0 3)).length : Int))) then
   bif colsPre K ((elemsD (fieldD x0 3)).getD (v17).toNat .nil) (IntKind.wrap .i64 (x1 + 1)) b1000003 then
    t49_c_lp4 Tryd.prog Tryd.f49 K N n x0 x1 es (IntKind.wrap .i64 (v17 + 1)) (b1000003 ++ colsK K ((elemsD (fieldD x0 3)).getD (v17).toNat .nil))
   else none
  else none
 else some (dat 4 (.lit (.bool true)), [some ⟨60, .nil, 0, some (clo 60 40 [1000002])⟩, some ⟨60, .nil, 0, some (clo 60 49 [1000000, 1000001])⟩, some ⟨22, .nil, 0, some (bxp 1000003 22)⟩, some ⟨22, .slice b1000003 [], 1, none⟩]) := by kernel_rfl
theorem t49_c (K : Nat) (N : Nat) (x0 : D) (x1 : Int) (es : List D) : evFnH Tryd.prog (envH U2 (H2 K)) t49_c_h N Tryd.f49 [dat 40 x0, dat 3 (.lit (.int .i64 x1)), bxp 1000000 60, bxp 1000001 60] [⟨60, .nil, 0, some (clo 60 40 [1000002])⟩, ⟨60, .nil, 0, some (clo 60 49 [1000000, 1000001])⟩, ⟨22, .nil, 0, some (bxp 1000003 22)⟩, ⟨22, .slice es [], 4, none⟩] =
 bif decide (es.length <= 1000) then
  t49_c_lp4 Tryd.prog Tryd.f49 K N N x0 x1 es 0 (es ++ (bif opI x0 == 1 then [litI (colI x0)] else []))
 else none := by kernel_rfl

end X
end
section
namespace X
open Go.Ev
set_option linter.unusedVariables false
set_option linter.unusedSimpArgs false

theorem goL_cons (g : D -> Int -> Bool × Int) (p : D) (l : List D) (n : Int) : goL g (p :: l) n = bif (g p n).1 then goL g l (g p n).2 else (false, (g p n).2) := rfl
theorem mayAll_succ (k : Nat) (e : D) (deep n : Int) : mayAll (k + 1) e deep n = bif seeMay e deep n then goL (fun p m => mayAll k p (deep + 1) m) (kids e) (n + 1) else (false, n + 1) := rfl
theorem colsK_succ (k : Nat) (e : D) : colsK (k + 1) e = (bif opI e == 1 then [litI (colI e)] else []) ++ (kids e).flatMap (colsK k) := rfl
theorem okK_succ (k : Nat) (e : D) : okK (k + 1) e = (fitsB e && (kids e).all (okK k)) := rfl

theorem goL_bound {g : D -> Int -> Bool × Int} (hg : ∀ p m, 0 <= m -> m <= 30 -> (g p m).1 = true -> 0 <= (g p m).2 /\ (g p m).2 <= 30) : ∀ (l : List D) (m : Int), 0 <= m -> m <= 30 -> (goL g l m).1 = true -> 0 <= (goL g l m).2 /\ (goL g l m).2 <= 30
 | [], m, h0, h1, _ => ⟨h0, h1⟩
 | p :: l, m, h0, h1, h => by
  rw [goL_cons] at h ⊢
  cases hp : (g p m).1 with
  | false => rw [hp] at h; cases h
  | true =>
   rw [hp, cond_true] at h
   rw [cond_true]
   obtain ⟨b0, b1⟩ := hg p m h0 h1 hp
   exact goL_bound hg l _ b0 b1 h

theorem see_true {e : D} {deep n : Int} (h : seeMay e deep n = true) : n + 1 <= 30 /\ deep <= 6 /\ fitsB e = true := by
 unfold seeMay at h
 by_cases h1 : n + 1 <= 30
 ·have d1 : decide (n + 1 <= 30) = true := by simpa using h1
  rw [d1, cond_true] at h
  by_cases h2 : deep <= 6
  ·have d2 : decide (deep <= 6) = true := by simpa using h2
   rw [d2, cond_true] at h
   exact ⟨h1, h2, h⟩
  ·have d2 : decide (deep <= 6) = false := by simpa using h2
   rw [d2] at h
   cases h
 ·have d1 : decide (n + 1 <= 30) = false := by simpa using h1
  rw [d1] at h
  cases h

theorem mayAll_bound : ∀ (K : Nat) (e : D) (deep n : Int), 0 <= n -> n <= 30 -> (mayAll K e deep n).1 = true -> 0 <= (mayAll K e deep n).2 /\ (mayAll K e deep n).2 <= 30
 | 0, e, deep, n, h0, h1, h => by cases h
 | K + 1, e, deep, n, h0, h1, h => by
  rw [mayAll_succ] at h ⊢
  cases hs : seeMay e deep n with
  | false => rw [hs] at h; cases h
  | true =>
   rw [hs, cond_true] at h
   rw [cond_true]
   exact goL_bound (fun p m => mayAll_bound K p (deep + 1) m) _ _ (by omega) (see_true hs).1 h

theorem may_loop {K N : Nat} {x0 : D} {x1 q : Int} (hl : (kids x0).length <= maxLen) (hx : 1 <= x1) (hx6 : x1 <= 6) (hK : 7 < x1 + 1 + (K : Int)) : ∀ (n i : Nat) (b : Int), i <= (kids x0).length -> (kids x0).length - i < n -> 0 <= b -> b <= 30 ->
  t49_m_lp4 Tryd.prog Tryd.f49 K N n x0 x1 q (i : Int) b = some (dat 4 (.lit (.bool (goL (fun p m => mayAll K p (x1 + 1) m) ((kids x0).drop i) b).1)),
   [some ⟨60, .nil, 0, some (clo 60 47 [1000002])⟩, some ⟨60, .nil, 0, some (clo 60 49 [1000000, 1000001])⟩, some ⟨3, .lit (.int .i64 (goL (fun p m => mayAll K p (x1 + 1) m) ((kids x0).drop i) b).2), 0, none⟩])
 | 0, i, b, _, h, _, _ => by omega
 | n + 1, i, b, hi, h, h0, h30 => by
  rw [t49_m_lp4_step, show elemsD (fieldD x0 3) = kids x0 from rfl]
  have hw : IntKind.wrap .i64 (x1 + 1) = x1 + 1 := wrap_in (by rw [inR_iff]; omega)
  have hpre : mayPre K (x1 + 1) b = true := by simp only [mayPre, Bool.and_eq_true, decide_eq_true_eq]; omega
  rw [hw, hpre]
  by_cases hlt : i < (kids x0).length
  ·have h1 : decide ((i : Int) < ((kids x0).length : Int)) = true := by simpa using hlt
   rw [idx_ok hlt, h1, cond_true, cond_true, cond_true, Int.toNat_natCast, getD_lt hlt, List.drop_eq_getElem_cons hlt, goL_cons]
   cases hb : (mayAll K (kids x0)[i] (x1 + 1) b).1 with
   | false =>
    rw [Bool.not_false, cond_true, cond_false]
   | true =>
    obtain ⟨b0, b1⟩ := mayAll_bound K _ _ _ h0 h30 hb
    rw [Bool.not_true, cond_false, cond_true, wrap_step hl hlt]
    exact may_loop hl hx hx6 hK n (i + 1) _ (by omega) (by omega) b0 b1
  ·have h1 : decide ((i : Int) < ((kids x0).length : Int)) = false := by simpa using hlt
   have h2 : (kids x0).drop i = [] := List.drop_of_length_le (by omega)
   rw [h1, h2, cond_false]
   rfl

theorem cols_loop {K N : Nat} {x0 : D} {x1 : Int} {es : List D} (hl : (kids x0).length <= maxLen) (hx : 0 <= x1) (hx6 : x1 + 1 + (K : Int) <= 1000) (hok : ∀ p ∈ kids x0, okK K p = true) : ∀ (n i : Nat) (l : List D), i <= (kids x0).length -> (kids x0).length - i < n ->
  l.length + (((kids x0).drop i).flatMap (colsK K)).length <= 100 ->
  t49_c_lp4 Tryd.prog Tryd.f49 K N n x0 x1 es (i : Int) l = some (dat 4 (.lit (.bool true)),
   [some ⟨60, .nil, 0, some (clo 60 40 [1000002])⟩, some ⟨60, .nil, 0, some (clo 60 49 [1000000, 1000001])⟩, some ⟨22, .nil, 0, some (bxp 1000003 22)⟩, some ⟨22, .slice (l ++ ((kids x0).drop i).flatMap (colsK K)) [], 1, none⟩])
 | 0, i, l, _, h, _ => by omega
 | n + 1, i, l, hi, h, hlen => by
  rw [t49_c_lp4_step, show elemsD (fieldD x0 3) = kids x0 from rfl]
  have hw : IntKind.wrap .i64 (x1 + 1) = x1 + 1 := wrap_in (by rw [inR_iff]; omega)
  rw [hw]
  by_cases hlt : i < (kids x0).length
  ·have h1 : decide ((i : Int) < ((kids x0).length : Int)) = true := by simpa using hlt
   rw [List.drop_eq_getElem_cons hlt, List.flatMap_cons, List.length_append] at hlen
   have hpre : colsPre K (kids x0)[i] (x1 + 1) l = true := by
    simp only [colsPre, Bool.and_eq_true, decide_eq_true_eq]
    exact ⟨⟨⟨hok _ (List.getElem_mem hlt), by omega⟩, by omega⟩, by omega⟩
   rw [idx_ok hlt, h1, cond_true, cond_true, Int.toNat_natCast, getD_lt hlt, hpre, cond_true, wrap_step hl hlt, List.drop_eq_getElem_cons hlt, List.flatMap_cons, <- List.append_assoc]
   exact cols_loop hl hx hx6 hok n (i + 1) _ (by omega) (by omega) (by rw [List.length_append]; omega)
  ·have h1 : decide ((i : Int) < ((kids x0).length : Int)) = false := by simpa using hlt
   have h2 : (kids x0).drop i = [] := List.drop_of_length_le (by omega)
   rw [h1, h2, cond_false]
   simp

theorem k49 : FnOK Tryd.prog 49 Tryd.f49 := ⟨Tryd.func49, rfl, by kernel_rfl⟩

theorem c49m (K : Nat) (henv : EnvOK Tryd.prog (envH U2 (H2 K))) : ∀ args hh r h', preH a49 b49m (q49m (K + 1)) args hh = true -> entH a49 b49m (g49m (K + 1)) args hh = some (r, h') -> HCallOK Tryd.prog 49 args hh r h' :=
 entH_ok rfl rfl fun ds es r h' hq hg => by
  match ds, es, hq, hg with
  | [e, dp, y1, y2], [u1, u2, n], hq, hg =>
   cases hg
   refine HCallOK.typed k49.ex fun ht he => ?_
   obtain ⟨_, t0⟩ := ht (dat 40 e) (by simp [fillA, a49, dat, bxp]) rfl
   obtain ⟨_, t1⟩ := ht (dat 3 dp) (by simp [fillA, a49, dat, bxp]) rfl
   obtain ⟨_, t2⟩ := he ⟨3, n, 0, none⟩ (by simp [fillE, b49m]) rfl rfl
   obtain ⟨z, rfl, hz⟩ := ty3' t1
   obtain ⟨q, rfl, hq2⟩ := ty3' t2
   have hpre : mayPre (K + 1) z q = true := hq
   simp only [mayPre, Bool.and_eq_true, decide_eq_true_eq] at hpre
   obtain ⟨⟨⟨⟨⟨p1, p2⟩, p3⟩, p4⟩, p5⟩, p6⟩ := hpre
   have t0 : Ty Tryd.prog _ 40 e := t0
   obtain ⟨hl, _⟩ := ty_kids t0
   refine fnH_ok hm henv k49 ((t49_m K ((kids e).length + 1) e z q).trans ?_)
   have hd : (decide (0 <= q) && decide (q <= 1000)) = true := by simp only [Bool.and_eq_true, decide_eq_true_eq]; omega
   rw [hd, cond_true]
   show _ = some (dat 4 (.lit (.bool (mayAll (K + 1) e z q).1)), [some (⟨60, .nil, 0, some (clo 60 47 [1000002])⟩ : Ent), some ⟨60, .nil, 0, some (clo 60 49 [1000000, 1000001])⟩, some ⟨3, .lit (.int .i64 (mayAll (K + 1) e z q).2), 0, none⟩])
   rw [mayAll_succ]
   cases hs : seeMay e z q with
   | false => rfl
   | true =>
    obtain ⟨s1, s2, _⟩ := see_true hs
    rw [Bool.not_true, cond_false, cond_true]
    have := may_loop (K := K) (N := (kids e).length + 1) (q := q) hl p3 s2 (by omega) ((kids e).length + 1) 0 (q + 1) (Nat.zero_le _) (by omega) (by omega) s1
    simpa using this
  | [], _, _, hg => cases hg
  | [_], _, _, hg => cases hg
  | [_, _], _, _, hg => cases hg
  | [_, _, _], _, _, hg => cases hg
  | _ :: _ :: _ :: _ :: _ :: _, _, _, hg => cases hg
  | [_, _, _, _], [], _, hg => cases hg
  | [_, _, _, _], [_], _, hg => cases hg
  | [_, _, _, _], [_, _], _, hg => cases hg
  | [_, _, _, _], _ :: _ :: _ :: _ :: _, _, hg => cases hg

theorem g49c_inv {K : Nat} {ds es : List D} {r : AV} {h' : List (Option Ent)} (hg : g49c K ds es = some (r, h')) : ∃ e dp y1 y2 u1 u2 u3 l, ds = [e, dp, y1, y2] /\ es = [u1, u2, u3, l] /\ r = dat 4 (.lit (.bool true)) /\
  h' = [some ⟨60, .nil, 0, some (clo 60 40 [OID + 2])⟩, some ⟨60, .nil, 0, some (clo 60 49 [OID, OID + 1])⟩, some ⟨22, .nil, 0, some (bxp (OID + 3) 22)⟩, some ⟨22, .slice (elemsD l ++ colsK K e) [], 1, none⟩] := by
 unfold g49c at hg
 split at hg
 ·injection hg with hg
  injection hg with h1 h2
  exact ⟨_, _, _, _, _, _, _, _, rfl, rfl, h1.symm, h2.symm⟩
 ·cases hg

theorem c49c (K : Nat) (henv : EnvOK Tryd.prog (envH U2 (H2 K))) : ∀ args hh r h', preH a49 b49c (q49c (K + 1)) args hh = true -> entH a49 b49c (g49c (K + 1)) args hh = some (r, h') -> HCallOK Tryd.prog 49 args hh r h' :=
 entH_ok rfl rfl fun ds es r h' hq hg => by
  obtain ⟨e, dp, y1, y2, u1, u2, u3, l, rfl, rfl, rfl, rfl⟩ := g49c_inv hg
  refine HCallOK.typed k49.ex fun ht he => ?_
  refine row_slice k49.ex (e := ⟨22, l, 4, none⟩) (by simp [fillE, b49c]) (by simp) ?_
  rintro ⟨es, hes⟩
  have hes : l = .slice es [] := hes
  subst hes
  obtain ⟨_, t0⟩ := ht (dat 40 e) (by simp [fillA, a49, dat, bxp]) rfl
  obtain ⟨_, t1⟩ := ht (dat 3 dp) (by simp [fillA, a49, dat, bxp]) rfl
  obtain ⟨z, rfl, hz⟩ := ty3' t1
  have hpre : colsPre (K + 1) e z es = true := hq
  simp only [colsPre, Bool.and_eq_true, decide_eq_true_eq, okK_succ, List.all_eq_true] at hpre
  obtain ⟨⟨⟨⟨p0, p1⟩, p2⟩, p3⟩, p4⟩ := hpre
  have t0 : Ty Tryd.prog _ 40 e := t0
  obtain ⟨hl, _⟩ := ty_kids t0
  refine fnH_ok hm henv k49 ((t49_c K ((kids e).length + 1) e z es).trans ?_)
  rw [colsK_succ] at p4
  simp only [List.length_append] at p4
  have hd : decide (es.length <= 1000) = true := by simp only [decide_eq_true_eq]; omega
  rw [hd, cond_true]
  show _ = some (dat 4 (.lit (.bool true)), [some (⟨60, .nil, 0, some (clo 60 40 [1000002])⟩ : Ent), some ⟨60, .nil, 0, some (clo 60 49 [1000000, 1000001])⟩, some ⟨22, .nil, 0, some (bxp 1000003 22)⟩, some ⟨22, .slice (es ++ colsK (K + 1) e) [], 1, none⟩])
  rw [colsK_succ, <- List.append_assoc]
  have := cols_loop (K := K) (N := (kids e).length + 1) (es := es) hl p2 (by omega) p1 ((kids e).length + 1) 0 (es ++ (bif opI e == 1 then [litI (colI e)] else [])) (Nat.zero_le _) (by omega) (by simp only [List.length_append, List.drop_zero]; omega)
  simpa using this

theorem envH2 : ∀ K : Nat, EnvOK Tryd.prog (envH U2 (H2 K))
 | 0 => envOK_consH envH1 (fun args hh r h' hp _ => by
   exfalso
   revert hp
   cases (hh.length == 3) with
   | true =>
    intro hp
    have hp : preH a49 b49m (q49m 0) args hh = true := hp
    unfold preH at hp
    rw [Bool.and_eq_true] at hp
    have := hp.2
    simp [q49m, mayPre] at this
   | false =>
    intro hp
    have hp : preH a49 b49c (q49c 0) args hh = true := hp
    unfold preH at hp
    rw [Bool.and_eq_true] at hp
    have := hp.2
    simp [q49c, colsPre, okK] at this)
 | K + 1 => envOK_consH envH1 (fun args hh r h' hp hd => by
   have hp : (bif hh.length == 3 then preH a49 b49m (q49m (K + 1)) args hh else preH a49 b49c (q49c (K + 1)) args hh) = true := hp
   have hd : (bif hh.length == 3 then entH a49 b49m (g49m (K + 1)) args hh else entH a49 b49c (g49c (K + 1)) args hh) = some (r, h') := hd
   cases hlen : (hh.length == 3) with
   | true =>
    rw [hlen, cond_true] at hp hd
    exact c49m K (envH2 K) args hh r h' hp hd
   | false =>
    rw [hlen, cond_false] at hp hd
    exact c49c K (envH2 K) args hh r h' hp hd)

end X
end
section
namespace X
open Go.Ev
set_option linter.unusedVariables false
/- roadbook/expr.through -/
def t39_m_h : Hints := fun _ =>  none
theorem t39_m (N : Nat) (x0 : D) (q : Int) : evFnH Tryd.prog (envH U2 (H2 7)) t39_m_h N Tryd.f39 [dat 40 x0, clo 60 47 [1000000]] [⟨3, .lit (.int .i64 q), 0, none⟩] =
 bif mayPre 7 1 q then
  some (dat 4 (.lit (.bool ((mayAll 7 x0 1 q).1))), [some ⟨3, .lit (.int .i64 ((mayAll 7 x0 1 q).2)), 0, none⟩])
 else none := by kernel_rfl

/- roadbook/expr.through -/
def t39_c_h : Hints := fun _ =>  none
theorem t39_c (N : Nat) (x0 : D) (es : List D) : evFnH Tryd.prog (envH U2 (H2 7)) t39_c_h N Tryd.f39 [dat 40 x0, clo 60 40 [1000000]] [⟨22, .nil, 0, some (bxp 1000001 22)⟩, ⟨22, .slice es [], 4, none⟩] =
 bif colsPre 7 x0 1 es then
  some (dat 4 (.lit (.bool true)), [some ⟨22, .nil, 0, some (bxp 1000001 22)⟩, some ⟨22, .slice (es ++ colsK 7 x0) [], 1, none⟩])
 else none := by kernel_rfl

end X
end
section
namespace X
open Go.Ev
set_option linter.unusedVariables false
set_option linter.unusedSimpArgs false

def a39m : List AV := [dat 40 .nil, clo 60 47 [OID]]
def a39c : List AV := [dat 40 .nil, clo 60 40 [OID]]
def b39m : List Ent := [⟨3, .nil, 0, none⟩]
def b39c : List Ent := [⟨22, .nil, 0, some (bxp (OID + 1) 22)⟩, ⟨22, .nil, 4, none⟩]
def q39m : List D -> List D -> Bool := fun ds es => mayPre 7 1 (intD (es.getD 0 .nil))
def q39c : List D -> List D -> Bool := fun ds es => colsPre 7 (ds.getD 0 .nil) 1 (elemsD (es.getD 1 .nil))
def g39m : List D -> List D -> HRes
 | [e, _], [n] => some (dat 4 (.lit (.bool (mayAll 7 e 1 (intD n)).1)), [some ⟨3, .lit (.int .i64 (mayAll 7 e 1 (intD n)).2), 0, none⟩])
 | _, _ => none
def g39c : List D -> List D -> HRes
 | [e, _], [_, l] => some (dat 4 (.lit (.bool true)), [some ⟨22, .nil, 0, some (bxp (OID + 1) 22)⟩, some ⟨22, .slice (elemsD l ++ colsK 7 e) [], 1, none⟩])
 | _, _ => none
def h39 : HEnt := (39, 4, fun args h => bif h.length == 1 then preH a39m b39m q39m args h else preH a39c b39c q39c args h, fun args h => bif h.length == 1 then entH a39m b39m g39m args h else entH a39c b39c g39c args h)
def H3 : HTab := h39 :: H2 7
theorem k39 : FnOK Tryd.prog 39 Tryd.f39 := ⟨Tryd.func39, rfl, by kernel_rfl⟩

theorem g39m_inv {ds es : List D} {r : AV} {h' : List (Option Ent)} (hg : g39m ds es = some (r, h')) : ∃ e y n, ds = [e, y] /\ es = [n] /\ r = dat 4 (.lit (.bool (mayAll 7 e 1 (intD n)).1)) /\
  h' = [some ⟨3, .lit (.int .i64 (mayAll 7 e 1 (intD n)).2), 0, none⟩] := by
 unfold g39m at hg
 split at hg
 ·injection hg with hg
  injection hg with h1 h2
  exact ⟨_, _, _, rfl, rfl, h1.symm, h2.symm⟩
 ·cases hg
theorem g39c_inv {ds es : List D} {r : AV} {h' : List (Option Ent)} (hg : g39c ds es = some (r, h')) : ∃ e y u l, ds = [e, y] /\ es = [u, l] /\ r = dat 4 (.lit (.bool true)) /\
  h' = [some ⟨22, .nil, 0, some (bxp (OID + 1) 22)⟩, some ⟨22, .slice (elemsD l ++ colsK 7 e) [], 1, none⟩] := by
 unfold g39c at hg
 split at hg
 ·injection hg with hg
  injection hg with h1 h2
  exact ⟨_, _, _, _, rfl, rfl, h1.symm, h2.symm⟩
 ·cases hg

theorem c39m : ∀ args hh r h', preH a39m b39m q39m args hh = true -> entH a39m b39m g39m args hh = some (r, h') -> HCallOK Tryd.prog 39 args hh r h' :=
 entH_ok rfl rfl fun ds es r h' hq hg => by
  obtain ⟨e, y, n, rfl, rfl, rfl, rfl⟩ := g39m_inv hg
  refine HCallOK.typed k39.ex fun ht he => ?_
  obtain ⟨_, t2⟩ := he ⟨3, n, 0, none⟩ (by simp [fillE, b39m]) rfl rfl
  obtain ⟨q, rfl, hq2⟩ := ty3' t2
  have hpre : mayPre 7 1 q = true := hq
  refine fnH_ok hm (envH2 7) k39 ((t39_m 1 e q).trans ?_)
  rw [hpre]
  rfl
theorem c39c : ∀ args hh r h', preH a39c b39c q39c args hh = true -> entH a39c b39c g39c args hh = some (r, h') -> HCallOK Tryd.prog 39 args hh r h' :=
 entH_ok rfl rfl fun ds es r h' hq hg => by
  obtain ⟨e, y, u, l, rfl, rfl, rfl, rfl⟩ := g39c_inv hg
  refine row_slice k39.ex (e := ⟨22, l, 4, none⟩) (by simp [fillE, b39c]) (by simp) ?_
  rintro ⟨es, hes⟩
  have hes : l = .slice es [] := hes
  subst hes
  have hpre : colsPre 7 e 1 es = true := hq
  refine fnH_ok hm (envH2 7) k39 ((t39_c 1 e es).trans ?_)
  rw [hpre]
  rfl
theorem envH3 : EnvOK Tryd.prog (envH U2 H3) := envOK_consH (envH2 7) (fun args hh r h' hp hd => by
   have hp : (bif hh.length == 1 then preH a39m b39m q39m args hh else preH a39c b39c q39c args hh) = true := hp
   have hd : (bif hh.length == 1 then entH a39m b39m g39m args hh else entH a39c b39c g39c args hh) = some (r, h') := hd
   cases hlen : (hh.length == 1) with
   | true =>
    rw [hlen, cond_true] at hp hd
    exact c39m args hh r h' hp hd
   | false =>
    rw [hlen, cond_false] at hp hd
    exact c39c args hh r h' hp hd)

/-! ### Sort and compact -/
def a41 : List AV := [bxp OID 22]
def q41 (args : List AV) (h : List Ent) : Bool := allA a41 args && (match h with | [e] => e.ty == 22 && e.c.isNone && (e.row == 3 || e.row == 4) | _ => false)
def h41 : HEnt := (41, 0, fun args h => q41 args h && decide ((elemsD (h.getD 0 ⟨0, .nil, 0, none⟩).d).length <= 1000000), fun args h => match h with | [e] => some (tupA [] (.agg []), [some ⟨22, .slice (sortD (elemsD e.d)) [], e.row, none⟩]) | _ => none)
def h42 : HEnt := (42, 22, fun args h => q41 args h, fun args h => match h with | [e] => some (bxp OID 22, [some ⟨22, .slice (compD (elemsD e.d)) [], if e.row == 3 then 2 else 1, none⟩]) | _ => none)
theorem k41 : FnOK Tryd.prog 41 Tryd.f41 := ⟨Tryd.func41, rfl, by kernel_rfl⟩
theorem k42 : FnOK Tryd.prog 42 Tryd.f42 := ⟨Tryd.func42, rfl, by kernel_rfl⟩
theorem cells27 : Tryd.prog.cellsOf 22 = 1 := by kernel_rfl
theorem cells3 : Tryd.prog.cellsOf 3 = 1 := by kernel_rfl
theorem q41_inv {args : List AV} {h : List Ent} (hq : q41 args h = true) : args = [bxp OID 22] /\ ∃ e : Ent, h = [e] /\ e.ty = 22 /\ e.c = none /\ (e.row = 3 \/ e.row = 4) := by
 unfold q41 at hq
 rw [Bool.and_eq_true] at hq
 refine ⟨?_, ?_⟩
 ·have ha := allA_eq hq.1 (fun t ht _ => by
   rcases List.mem_singleton.1 ht with rfl
   rfl)
  have hl : args.length = 1 := by
   have h1 := hq.1
   match args, h1 with
   | [], h1 => cases h1
   | [_], _ => rfl
   | _ :: _ :: _, h1 => simp [allA, a41] at h1
  match args, hl with
  | [x], _ => exact ha
 ·match h, hq.2 with
  | [e], h2 =>
   simp only [Bool.and_eq_true, beq_iff_eq, Bool.or_eq_true, Option.isNone_iff_eq_none] at h2
   exact ⟨e, rfl, h2.1.1, h2.1.2, h2.2⟩
theorem c41 : ∀ args hh r h', h41.2.2.1 args hh = true -> h41.2.2.2 args hh = some (r, h') -> HCallOK Tryd.prog 41 args hh r h' := by
 intro args hh r h' hp hd
 have hp : (q41 args hh && decide ((elemsD (hh.getD 0 ⟨0, .nil, 0, none⟩).d).length <= 1000000)) = true := hp
 rw [Bool.and_eq_true] at hp
 obtain ⟨rfl, e, rfl, h1, h2, h3⟩ := q41_inv hp.1
 have hlen : (elemsD e.d).length <= 1000000 := by
  have := hp.2
  simpa using this
 have hd : some (tupA [] (.agg []), [some (⟨22, .slice (sortD (elemsD e.d)) [], e.row, none⟩ : Ent)]) = some (r, h') := hd
 rw [Option.some.injEq, Prod.mk.injEq] at hd
 rw [<- hd.1, <- hd.2]
 exact sort_ok k41.ex (fun blk off cap zs w a b c => Tryd.slices_Sort_int blk off cap zs w a b c) (fun p cap w => Tryd.slices_Sort_int_none p cap w) u27 cells27 u3 cells3 h1 h2 h3 hlen
theorem c42 : ∀ args hh r h', h42.2.2.1 args hh = true -> h42.2.2.2 args hh = some (r, h') -> HCallOK Tryd.prog 42 args hh r h' := by
 intro args hh r h' hp hd
 have hp : q41 args hh = true := hp
 obtain ⟨rfl, e, rfl, h1, h2, h3⟩ := q41_inv hp
 have hd : some (bxp OID 22, [some (⟨22, .slice (compD (elemsD e.d)) [], if e.row == 3 then 2 else 1, none⟩ : Ent)]) = some (r, h') := hd
 rw [Option.some.injEq, Prod.mk.injEq] at hd
 rw [<- hd.1, <- hd.2]
 exact compact_ok k42.ex (fun blk off cap zs w a b c => Tryd.slices_Compact_int blk off cap zs w a b c) (fun p cap w => Tryd.slices_Compact_int_empty p cap w) u27 cells27 u3 cells3 h1 h2 h3
def H4 : HTab := h42 :: h41 :: H3
theorem envH4 : EnvOK Tryd.prog (envH U2 H4) := envOK_consH (envOK_consH envH3 c41) c42

def e38 : FuncId × TypeId × (List AV -> Bool) × (List AV -> Option D) := (38, 4, yes, ent [40] (f1 fun x => some (.lit (.bool (mayE x)))))
def U3 : Tab := e38 :: U2
end X
end
section
namespace X
open Go.Ev
set_option linter.unusedVariables false
/- roadbook/expr.May -/
def t38_h : Hints := fun _ =>  none
theorem t38 (N : Nat) (x0 : D) : evFn Tryd.prog (envH U2 H3) t38_h N Tryd.f38 [dat 40 x0] =
 bif mayPre 7 1 0 then
  some (dat 4 (.lit (.bool ((mayAll 7 x0 1 0).1))))
 else none := by kernel_rfl

/- roadbook/expr.Cols -/
def t31_h : Hints := fun _ =>  none
theorem t31 (N : Nat) (x0 : D) : evFn Tryd.prog (envH U3 H4) t31_h N Tryd.f31 [dat 40 x0] =
 bif (!(mayE x0)) then
  some (dat 22 (.slice [] []))
 else bif colsPre 7 x0 1 [] then
   bif decide (([] ++ colsK 7 x0).length <= 1000000) then
    some (dat 22 (.slice (compD (sortD ([] ++ colsK 7 x0))) []))
   else none
  else none := by kernel_rfl

end X
end
section
namespace X
open Go.Ev
set_option linter.unusedVariables false
set_option linter.unusedSimpArgs false

theorem k38 : FnOK Tryd.prog 38 Tryd.f38 := ⟨Tryd.func38, rfl, by kernel_rfl⟩
theorem c38 : ∀ args d, e38.2.2.2 args = some d -> CallOK Tryd.prog 38 args (mkRes Tryd.prog 4 d) :=
 ent1 k38 fun x d h _ => by
  cases h
  rw [n26]
  refine fn_ok hm envH3 k38 ((t38 1 x).trans ?_)
  rw [m4]
  rfl
theorem envU3 : EnvOK Tryd.prog (envH U3 []) := envOK_cons envU2 c38
theorem envU3H4 : EnvOK Tryd.prog (envH U3 H4) := envOK_cons envH4 c38

/-! ### What may be has columns that are few -/
theorem goL_count {g : D -> Int -> Bool × Int} {c : D -> List D} (hg : ∀ p m, (g p m).1 = true -> m + ((c p).length : Int) <= (g p m).2) : ∀ (l : List D) (m : Int), (goL g l m).1 = true -> m + ((l.flatMap c).length : Int) <= (goL g l m).2
 | [], m, _ => by simp [goL]
 | p :: l, m, h => by
  rw [goL_cons] at h ⊢
  cases hp : (g p m).1 with
  | false => rw [hp] at h; cases h
  | true =>
   rw [hp, cond_true] at h
   rw [cond_true, List.flatMap_cons, List.length_append]
   have h1 := hg p m hp
   have h2 := goL_count hg l _ h
   omega
theorem goL_all {g : D -> Int -> Bool × Int} : ∀ (l : List D) (m : Int), (goL g l m).1 = true -> ∀ p ∈ l, ∃ k, (g p k).1 = true
 | [], m, _ => by simp
 | p :: l, m, h => by
  rw [goL_cons] at h
  cases hp : (g p m).1 with
  | false => rw [hp] at h; cases h
  | true =>
   rw [hp, cond_true] at h
   intro q hq
   rcases List.mem_cons.1 hq with rfl | hq
   ·exact ⟨m, hp⟩
   ·exact goL_all l _ h q hq
theorem mayAll_ok : ∀ (K : Nat) (e : D) (deep n : Int), (mayAll K e deep n).1 = true -> okK K e = true
 | 0, e, deep, n, h => by cases h
 | K + 1, e, deep, n, h => by
  rw [mayAll_succ] at h
  cases hs : seeMay e deep n with
  | false => rw [hs] at h; cases h
  | true =>
   rw [hs, cond_true] at h
   rw [okK_succ, (see_true hs).2.2, Bool.true_and, List.all_eq_true]
   intro p hp
   obtain ⟨k, hk⟩ := goL_all _ _ h p hp
   exact mayAll_ok K p _ k hk
theorem mayAll_count : ∀ (K : Nat) (e : D) (deep n : Int), (mayAll K e deep n).1 = true -> n + ((colsK K e).length : Int) <= (mayAll K e deep n).2
 | 0, e, deep, n, h => by cases h
 | K + 1, e, deep, n, h => by
  rw [mayAll_succ] at h ⊢
  cases hs : seeMay e deep n with
  | false => rw [hs] at h; cases h
  | true =>
   rw [hs, cond_true] at h
   rw [cond_true, colsK_succ, List.length_append]
   have h1 := goL_count (c := colsK K) (fun p m => mayAll_count K p (deep + 1) m) _ _ h
   have h2 : (bif opI e == 1 then [litI (colI e)] else []).length <= 1 := by cases (opI e == 1) <;> simp
   omega
theorem mayE_ok {e : D} (h : mayE e = true) : okK 7 e = true := mayAll_ok 7 e 1 0 h
theorem mayE_cols {e : D} (h : mayE e = true) : (colsK 7 e).length <= 30 := by
 have h1 := mayAll_count 7 e 1 0 h
 have h2 := mayAll_bound 7 e 1 0 (by omega) (by omega) h
 omega
theorem mayE_pre {e : D} (h : mayE e = true) : colsPre 7 e 1 [] = true := by
 simp only [colsPre, Bool.and_eq_true, decide_eq_true_eq]
 have := mayE_cols h
 exact ⟨⟨⟨mayE_ok h, by omega⟩, by omega⟩, by simp; omega⟩

def e31 : FuncId × TypeId × (List AV -> Bool) × (List AV -> Option D) := (31, 22, yes, ent [40] (f1 fun x => some (.slice (colsE x) [])))
theorem k31 : FnOK Tryd.prog 31 Tryd.f31 := ⟨Tryd.func31, rfl, by kernel_rfl⟩
theorem c31 : ∀ args d, e31.2.2.2 args = some d -> CallOK Tryd.prog 31 args (mkRes Tryd.prog 22 d) :=
 ent1 k31 fun x d h _ => by
  cases h
  rw [n26]
  refine fn_ok hm envU3H4 k31 ((t31 1 x).trans ?_)
  rw [m27]
  unfold colsE
  cases hmay : mayE x with
  | false => rfl
  | true =>
   have hl := mayE_cols hmay
   have hd : decide (([] ++ colsK 7 x).length <= 1000000) = true := by simp; omega
   rw [mayE_pre hmay, hd]
   rfl
def U4 : Tab := e31 :: U3
theorem envU4 : EnvOK Tryd.prog (envH U4 []) := envOK_cons envU3 c31

/-! ### Eval, by levels -/
end X
end
section
namespace X
open Go.Ev
set_option linter.unusedVariables false
set_option linter.unusedSimpArgs false

def U6 : Tab := U4
theorem envU6 : EnvOK Tryd.prog (envH U6 []) := envU4

/-! ### How many parts; has it a column: by levels -/
def e37 (K : Nat) : FuncId × TypeId × (List AV -> Bool) × (List AV -> Option D) := (37, 3, fun xs => decide (0 <= intD (xs.getD 1 dead).d) && decide (intD (xs.getD 1 dead).d < (K : Int)) && decide (K <= 1001), ent [40, 3] (f2 fun x y => some (.lit (.int .i64 (sizeK K x (intD y))))))
def U7 (K : Nat) : Tab := e37 K :: U6

end X
end
section
namespace X
open Go.Ev
set_option linter.unusedVariables false
/- roadbook/roadbookref02.size -/
def t37_h : Hints := fun i => if i = 3 then some ([0, 3, 4, 7, 8, 9, 10, 11, 12, 13, 14, 15, 16, 17, 18, 19, 20, 21, 22, 23, 24, 25, 26, 27, 28, 29, 30], [2], []) else none
def t37_lp3 (P : Program) (fn : Func) (K : Nat) (N n : Nat) (x0 : D) (x1 : Int) (v5 : Int) (v6 : Int) : Option AV := evLoop (preL t37_h (sub [1, 1, 0, 1, 0, 0] (bodyOf fn))) (evCode P (envH (U7 K) []) t37_h N (sub [1, 1, 0, 1, 0, 0] (bodyOf fn))) n ⟨[dead, dat 3 (.lit (.int .i64 x1)), bxp 2 40, dead, dead, dat 3 (.lit (.int .i64 v5)), dat 3 (.lit (.int .i64 v6)), dead, dead, dead, dead, dead, dead, dead, dead, dead, dead, dead, dead, dead, dead, dead, dead, dead, dead, dead, dead, dead, dead, dead, dead], lookB [(2, some ⟨40, x0, 0, none⟩)]⟩ (blockK 0 (seqC P (envH (U7 K) []) t37_h N (sub [1, 1, 1] (bodyOf fn)) (finK P fn) ))
theorem t37_lp3_step (K : Nat) (N n : Nat) (x0 : D) (x1 : Int) (v5 : Int) (v6 : Int) : t37_lp3 Tryd.prog Tryd.f37 K N (n + 1) x0 x1 v5 v6 =
 bif ((decide (v6 < ((elemsD (fieldD x0 3)).length : Int))) == true) then
  bif decide (v5 <= x1) then
   bif (decide (0 <= v6) && decide (v6 < ((elemsD (fieldD x0 3)).length : Int))) then
    bif (decide (0 <= (IntKind.wrap .i64 (x1 - v5))) && decide ((IntKind.wrap .i64 (x1 - v5)) < (K : Int)) && decide (K <= 1001)) then
     t37_lp3 Tryd.prog Tryd.f37 K N n x0 x1 (IntKind.wrap .i64 (v5 + (sizeK K ((elemsD (fieldD x0 3)).getD (v6).toNat .nil) (IntKind.wrap .i64 (x1 - v5))))) (IntKind.wrap .i64 (v6 + 1))
    else none
   else none
  else some (dat 3 (.lit (.int .i64 v5)))
 else some (dat 3 (.lit (.int .i64 v5))) := by kernel_rfl
theorem t37 (K : Nat) (N : Nat) (x0 : D) (x1 : Int) : evFn Tryd.prog (envH (U7 K) []) t37_h N Tryd.f37 [dat 40 x0, dat 3 (.lit (.int .i64 x1))] =
 t37_lp3 Tryd.prog Tryd.f37 K N N x0 x1 1 0 := by kernel_rfl

end X
end
section
namespace X
open Go.Ev
set_option linter.unusedVariables false
set_option linter.unusedSimpArgs false

theorem entp2 {f : FuncId} {fn : Func} {t t1 t2 : TypeId} {F : D -> D -> Option D} {pre : List AV -> Bool} {q : D -> D -> Bool} (hf : FnOK Tryd.prog f fn) (hpre : ∀ args, pre args = q (args.getD 0 dead).d (args.getD 1 dead).d)
  (h : ∀ x y d, q x y = true -> F x y = some d -> (∃ n, Ty Tryd.prog n t1 x) -> (∃ n, Ty Tryd.prog n t2 y) -> CallOK Tryd.prog f [dat t1 (normD Tryd.prog t1 x), dat t2 (normD Tryd.prog t2 y)] (mkRes Tryd.prog t d)) :
  ∀ args d, pre args = true -> ent [t1, t2] (f2 F) args = some d -> CallOK Tryd.prog f args (mkRes Tryd.prog t d) := by
 intro args d hp hd
 have key := ent2 (P := Tryd.prog) (f := f) (t := t) (t1 := t1) (t2 := t2) (F := fun x y => if q x y = true then F x y else none) hf (fun x y d h' hx hy => by
  split at h'
  ·rename_i hq; exact h x y d hq h' hx hy
  ·cases h')
 refine key args d ?_
 unfold ent at hd ⊢
 split at hd
 ·rename_i hs
  rw [if_pos hs]
  match args, hd, hp with
  | [a, b], hd, hp =>
   rw [hpre] at hp
   have hp : q a.d b.d = true := hp
   show (if q a.d b.d = true then F a.d b.d else none) = some d
   rw [if_pos hp]
   exact hd
  | [], hd, _ => cases hd
  | [_], hd, _ => cases hd
  | _ :: _ :: _ :: _, hd, _ => cases hd
 ·cases hd

/-! ### How many parts -/
theorem sizeL_cons (g : D -> Int -> Int) (most : Int) (p : D) (l : List D) (n : Int) : sizeL g most (p :: l) n = bif decide (n <= most) then sizeL g most l (n + g p (most - n)) else n := rfl
theorem sizeL_over {g : D -> Int -> Int} {most n : Int} (h : ¬ n <= most) : ∀ l, sizeL g most l n = n
 | [] => rfl
 | p :: l => by
  rw [sizeL_cons]
  have : decide (n <= most) = false := by simpa using h
  rw [this, cond_false]
theorem sizeL_bound {g : D -> Int -> Int} (hg : ∀ p m, 0 <= m -> 1 <= g p m /\ g p m <= m + 1) {most : Int} : ∀ (l : List D) (n : Int), 1 <= n -> n <= most + 1 -> 1 <= sizeL g most l n /\ sizeL g most l n <= most + 1
 | [], n, h1, h2 => ⟨h1, h2⟩
 | p :: l, n, h1, h2 => by
  rw [sizeL_cons]
  by_cases h : n <= most
  ·have hd : decide (n <= most) = true := by simpa using h
   rw [hd, cond_true]
   obtain ⟨a, b⟩ := hg p (most - n) (by omega)
   exact sizeL_bound hg l _ (by omega) (by omega)
  ·have hd : decide (n <= most) = false := by simpa using h
   rw [hd, cond_false]
   exact ⟨h1, h2⟩
theorem sizeK_bound : ∀ (k : Nat) (e : D) (m : Int), 0 <= m -> 1 <= sizeK k e m /\ sizeK k e m <= m + 1
 | 0, e, m, h => ⟨Int.le_refl 1, by show (1 : Int) <= m + 1; omega⟩
 | k + 1, e, m, h => sizeL_bound (fun p m' h' => sizeK_bound k p m' h') (kids e) 1 (by omega) (by omega)

theorem size_loop {K N : Nat} {x0 : D} {most : Int} (hK : K <= 1001) (hm0 : 0 <= most) (hm1 : most < (K : Int) + 1) (hl : (kids x0).length <= maxLen) : ∀ (n i : Nat) (c : Int), i <= (kids x0).length -> (kids x0).length - i < n -> 1 <= c -> c <= most + 1 ->
  t37_lp3 Tryd.prog Tryd.f37 K N n x0 most c (i : Int) = some (dat 3 (.lit (.int .i64 (sizeL (sizeK K) most ((kids x0).drop i) c))))
 | 0, i, c, _, h, _, _ => by omega
 | n + 1, i, c, hi, h, hc1, hc2 => by
  rw [t37_lp3_step, show elemsD (fieldD x0 3) = kids x0 from rfl]
  by_cases hlt : i < (kids x0).length
  ·have h1 : decide ((i : Int) < ((kids x0).length : Int)) = true := by simpa using hlt
   rw [List.drop_eq_getElem_cons hlt, sizeL_cons, idx_ok hlt, h1]
   by_cases h2 : c <= most
   ·have d2 : decide (c <= most) = true := by simpa using h2
    have hw : IntKind.wrap .i64 (most - c) = most - c := wrap_in (by rw [inR_iff]; omega)
    have hp : (decide (0 <= most - c) && decide (most - c < (K : Int)) && decide (K <= 1001)) = true := by
     simp only [Bool.and_eq_true, decide_eq_true_eq]
     omega
    obtain ⟨s1, s2⟩ := sizeK_bound K (kids x0)[i] (most - c) (by omega)
    have hw2 : IntKind.wrap .i64 (c + sizeK K (kids x0)[i] (most - c)) = c + sizeK K (kids x0)[i] (most - c) := wrap_in (by rw [inR_iff]; omega)
    rw [d2, hw, hp, Int.toNat_natCast, getD_lt hlt, hw2, wrap_step hl hlt]
    exact size_loop hK hm0 hm1 hl n (i + 1) _ (by omega) (by omega) (by omega) (by omega)
   ·have d2 : decide (c <= most) = false := by simpa using h2
    rw [d2]
    rfl
  ·have h1 : decide ((i : Int) < ((kids x0).length : Int)) = false := by simpa using hlt
   have h2 : (kids x0).drop i = [] := List.drop_of_length_le (by omega)
   rw [h1, h2]
   rfl

theorem k37 : FnOK Tryd.prog 37 Tryd.f37 := ⟨Tryd.func37, rfl, by kernel_rfl⟩
theorem c37 (K : Nat) (henv : EnvOK Tryd.prog (envH (U7 K) [])) : ∀ args d, (e37 (K + 1)).2.2.1 args = true -> (e37 (K + 1)).2.2.2 args = some d -> CallOK Tryd.prog 37 args (mkRes Tryd.prog 3 d) :=
 entp2 k37 (q := fun x y => decide (0 <= intD y) && decide (intD y < ((K + 1 : Nat) : Int)) && decide (K + 1 <= 1001)) (fun _ => rfl) fun x y d hq h ⟨_, hx⟩ ⟨_, hy⟩ => by
  cases h
  rw [n26, n3]
  simp only [Bool.and_eq_true, decide_eq_true_eq] at hq
  obtain ⟨z, rfl, _⟩ := ty3' hy
  have hq : (0 <= z /\ z < ((K + 1 : Nat) : Int)) /\ K + 1 <= 1001 := hq
  obtain ⟨hl, _⟩ := ty_kids hx
  refine fn_ok hm henv k37 ((t37 K ((kids x).length + 1) x z).trans ?_)
  rw [m3]
  exact size_loop (K := K) (by omega) hq.1.1 (by omega) hl ((kids x).length + 1) 0 1 (Nat.zero_le _) (by omega) (by omega) (by omega)
theorem envU7 : ∀ K : Nat, EnvOK Tryd.prog (envH (U7 K) [])
 | 0 => envOK_cons' envU6 (fun args d hp _ => by
    exfalso
    simp only [Bool.and_eq_true, decide_eq_true_eq] at hp
    have : (0 : Int) <= intD (args.getD 1 dead).d := hp.1.1
    have : intD (args.getD 1 dead).d < ((0 : Nat) : Int) := hp.1.2
    omega)
 | K + 1 => envOK_cons' envU6 (c37 K (envU7 K))

def fewB (e : D) (n : Int) : Bool := decide (sizeK 1001 e n <= n)
def smallD : D := .agg [.lit (.int .i64 7), .lit (.int .i64 0), .agg [.lit (.int .i64 0), .lit (.int .i64 0)], .slice [.agg [.lit (.int .i64 1), .lit (.int .i64 3), .agg [.lit (.int .i64 0), .lit (.int .i64 0)], .slice [] []], .agg [.lit (.int .i64 0), .lit (.int .i64 0), .agg [.lit (.int .i64 0), .lit (.int .i64 5)], .slice [] []]] []]
end X
end
section
namespace X
open Go.Ev
set_option linter.unusedVariables false
/- roadbook/roadbookref02.Few -/
def t28_h : Hints := fun _ =>  none
theorem t28 (N : Nat) (x0 : D) (x1 : Int) : evFn Tryd.prog (envH (U7 1001) []) t28_h N Tryd.f28 [dat 40 x0, dat 3 (.lit (.int .i64 x1))] =
 bif (decide (0 <= x1) && decide (x1 < (1001 : Int)) && decide (1001 <= 1001)) then
  some (dat 4 (.lit (.bool (decide ((sizeK 1001 x0 x1) <= x1)))))
 else none := by kernel_rfl

end X
end
section
namespace X
open Go.Ev
set_option linter.unusedVariables false
set_option linter.unusedSimpArgs false

theorem m26 (x : D) : mkRes Tryd.prog 40 x = dat 40 x := by kernel_rfl
theorem small_cols : colsE smallD = [.lit (.int .i64 3)] := by
 have h1 : mayE smallD = true := rfl
 have h2 : colsK 7 smallD = [litI 3] := rfl
 unfold colsE
 rw [h1, h2, cond_true]
 have h3 : sortD [litI 3] = [litI 3] := by
  unfold sortD sortI
  simp [litI, intD]
 rw [h3]
 rfl
def e28 : FuncId × TypeId × (List AV -> Bool) × (List AV -> Option D) := (28, 4, fun xs => decide (0 <= intD (xs.getD 1 dead).d) && decide (intD (xs.getD 1 dead).d <= 1000), ent [40, 3] (f2 fun x y => some (.lit (.bool (fewB x (intD y))))))
theorem k28 : FnOK Tryd.prog 28 Tryd.f28 := ⟨Tryd.func28, rfl, by kernel_rfl⟩
theorem c28 : ∀ args d, e28.2.2.1 args = true -> e28.2.2.2 args = some d -> CallOK Tryd.prog 28 args (mkRes Tryd.prog 4 d) :=
 entp2 k28 (q := fun x y => decide (0 <= intD y) && decide (intD y <= 1000)) (fun _ => rfl) fun x y d hq h _ ⟨_, hy⟩ => by
  cases h
  rw [n26, n3]
  simp only [Bool.and_eq_true, decide_eq_true_eq] at hq
  obtain ⟨z, rfl, _⟩ := ty3' hy
  have hq : 0 <= z /\ z <= 1000 := hq
  refine fn_ok hm (envU7 1001) k28 ((t28 1 x z).trans ?_)
  rw [m4]
  have h1 : (decide (0 <= z) && decide (z < (1001 : Int)) && decide (1001 <= 1001)) = true := by
   simp only [Bool.and_eq_true, decide_eq_true_eq]
   omega
  rw [h1]
  rfl
def U9 : Tab := e28 :: U6
theorem envU9 : EnvOK Tryd.prog (envH U9 []) := envOK_cons' envU6 c28

end X
end
end Go.Proofs.YtanjicjomcocmaaDoor
