/- What the evaluator comes to, function by function: by the kernel. Nothing here is trusted. -/
import Derived.Test.YtjgnknkbohlopaaWA
import Derived.Test.YtjgnknkbohlopaaV1
import Derived.Test.YtjgnknkbohlopaaTryShelf
namespace Go.Proofs.Ytjgnknkbohlopaa
namespace X
open Go.Ev
set_option linter.unusedVariables false
/- roadbook/expr.May$1 -/
def t43_h : Hints := fun _ =>  none
theorem t43 (N : Nat) (x0 : D) (x1 : Int) (q : Int) : evFnH Try.prog (envH U2 []) t43_h N Try.f43 [dat 40 x0, dat 3 (.lit (.int .i64 x1)), bxp 1000000 3] [⟨3, .lit (.int .i64 q), 0, none⟩] =
  bif ((decide ((IntKind.wrap .i64 (q + 1)) ≤ 30)) == true) then
    bif ((decide (x1 ≤ 6)) == true) then
      some (dat 4 (.lit (.bool (fitsB x0))), [some ⟨3, .lit (.int .i64 (IntKind.wrap .i64 (q + 1))), 0, none⟩])
    else some (dat 4 (.lit (.bool false)), [some ⟨3, .lit (.int .i64 (IntKind.wrap .i64 (q + 1))), 0, none⟩])
  else some (dat 4 (.lit (.bool false)), [some ⟨3, .lit (.int .i64 (IntKind.wrap .i64 (q + 1))), 0, none⟩]) := by kernel_rfl

/- roadbook/expr.Cols$1 -/
def t38_h : Hints := fun _ =>  none
theorem t38 (N : Nat) (x0 : D) (x1 : Int) (es : List D) : evFnH Try.prog (envH U2 []) t38_h N Try.f38 [dat 40 x0, dat 3 (.lit (.int .i64 x1)), bxp 1000000 25] [⟨25, .nil, 0, some (bxp 1000001 25)⟩, ⟨25, .slice es [], 4, none⟩] =
  bif ((intD (fieldD x0 0)) == 1) then
    bif decide ((es).length + 1 ≤ 2147483648) then
      some (dat 4 (.lit (.bool true)), [some ⟨25, .nil, 0, some (bxp 1000001 25)⟩, some ⟨25, .slice (es ++ [.lit (.int .i64 (intD (fieldD x0 1)))]) [], 1, none⟩])
    else none
  else some (dat 4 (.lit (.bool true)), [some ⟨25, .nil, 0, some (bxp 1000001 25)⟩, some ⟨25, .slice es [], 4, none⟩]) := by kernel_rfl

end X
end Go.Proofs.Ytjgnknkbohlopaa

namespace Go.Proofs.Ytjgnknkbohlopaa
namespace X
open Go.Ev
set_option linter.unusedVariables false
set_option linter.unusedSimpArgs false

abbrev HEnt := FuncId × TypeId × (List AV → List Ent → Bool) × (List AV → List Ent → Option (AV × List (Option Ent)))

/-! ### May's -/
def a43 : List AV := [dat 40 .nil, dat 3 .nil, bxp OID 3]
def b43 : List Ent := [⟨3, .nil, 0, none⟩]
def q43 : List D → List D → Bool := fun _ es => decide (0 ≤ intD (es.getD 0 .nil)) && decide (intD (es.getD 0 .nil) ≤ 1000)
def g43 : List D → List D → HRes
  | [e, dp, _], [n] => some (dat 4 (.lit (.bool (seeMay e (intD dp) (intD n)))), [some ⟨3, litI (intD n + 1), 0, none⟩])
  | _, _ => none
def h43 : HEnt := (43, 4, preH a43 b43 q43, entH a43 b43 g43)
theorem k43 : FnOK Try.prog 43 Try.f43 := ⟨Try.func43, rfl, by kernel_rfl⟩
theorem c43 : ∀ args hh r h', h43.2.2.1 args hh = true → h43.2.2.2 args hh = some (r, h') → HCallOK Try.prog 43 args hh r h' :=
  entH_ok rfl rfl fun ds es r h' hq hg => by
    match ds, es, hq, hg with
    | [e, dp, y], [n], hq, hg =>
      cases hg
      refine HCallOK.typed k43.ex fun ht he => ?_
      obtain ⟨_, t1⟩ := ht (dat 3 dp) (by simp [fillA, a43, dat, bxp]) rfl
      obtain ⟨_, t2⟩ := he ⟨3, n, 0, none⟩ (by simp [fillE, b43]) rfl rfl
      obtain ⟨z, rfl, hz⟩ := ty3' t1
      obtain ⟨q, rfl, hq2⟩ := ty3' t2
      have hq' : 0 ≤ q ∧ q ≤ 1000 := by simpa [q43, intD] using hq
      have hw : IntKind.wrap .i64 (q + 1) = q + 1 := wrap_in (by rw [inR_iff]; omega)
      refine fnH_ok hm envU2 k43 ((t43 1 e z q).trans ?_)
      rw [hw]
      show _ = some (dat 4 (.lit (.bool (bif decide (q + 1 ≤ 30) then bif decide (z ≤ 6) then fitsB e else false else false))), [some (⟨3, .lit (.int .i64 (q + 1)), 0, none⟩ : Ent)])
      generalize decide (q + 1 ≤ 30) = b1
      generalize decide (z ≤ 6) = b2
      cases b1 <;> cases b2 <;> rfl
    | [], _, _, hg => cases hg
    | [_], _, _, hg => cases hg
    | [_, _], _, _, hg => cases hg
    | _ :: _ :: _ :: _ :: _, _, _, hg => cases hg
    | [_, _, _], [], _, hg => cases hg
    | [_, _, _], _ :: _ :: _, _, hg => cases hg

/-! ### Cols' -/
def a38 : List AV := [dat 40 .nil, dat 3 .nil, bxp OID 25]
def b38 : List Ent := [⟨25, .nil, 0, some (bxp (OID + 1) 25)⟩, ⟨25, .nil, 4, none⟩]
def q38 : List D → List D → Bool := fun _ es => decide ((elemsD (es.getD 1 .nil)).length ≤ 1000)
def own (e : D) : List D := bif opI e == 1 then [litI (colI e)] else []
def g38 : List D → List D → HRes
  | [e, dp, _], [_, l] => some (dat 4 (.lit (.bool true)), [some ⟨25, .nil, 0, some (bxp (OID + 1) 25)⟩, some ⟨25, .slice (elemsD l ++ (bif opI e == 1 then [litI (colI e)] else [])) [], 1, none⟩])
  | _, _ => none
def h38 : HEnt := (38, 4, preH a38 b38 q38, entH a38 b38 g38)
theorem k38 : FnOK Try.prog 38 Try.f38 := ⟨Try.func38, rfl, by kernel_rfl⟩

/-- A row that is handed over is a list. -/
theorem row_slice {P : Program} {f : FuncId} {args : List AV} {h : List Ent} {r : AV} {h' : List (Option Ent)} (hfn : ∃ fn c, P.funcs[f]? = some fn ∧ fn.body = some c ∧ (fn.name == "runtime.NumGoroutine") = false) {e : Ent} (he : e ∈ h) (h0 : e.row ≠ 0)
    (H : (∃ es, e.d = .slice es []) → HCallOK P f args h r h') : HCallOK P f args h r h' := by
  refine ⟨hfn, fun w okA β vs htb hok hH hargs => ?_⟩
  refine (H ?_).call w okA β vs htb hok hH hargs
  obtain ⟨k, hk⟩ := List.getElem?_of_mem he
  have hb : bxOf h (OID + k) = some e := by
    unfold bxOf
    rw [if_neg (by omega), Nat.add_sub_cancel_left]
    exact hk
  obtain ⟨_, _, _, _, h4, _⟩ := hH.row _ e hb h0
  exact h4

theorem c38 : ∀ args hh r h', h38.2.2.1 args hh = true → h38.2.2.2 args hh = some (r, h') → HCallOK Try.prog 38 args hh r h' :=
  entH_ok rfl rfl fun ds es r h' hq hg => by
    match ds, es, hq, hg with
    | [e, dp, y], [u, l], hq, hg =>
      cases hg
      refine HCallOK.typed k38.ex fun ht he => ?_
      refine row_slice k38.ex (e := ⟨25, l, 4, none⟩) (by simp [fillE, b38]) (by simp) ?_
      rintro ⟨es, hes⟩
      have hes : l = .slice es [] := hes
      subst hes
      obtain ⟨_, t1⟩ := ht (dat 3 dp) (by simp [fillA, a38, dat, bxp]) rfl
      obtain ⟨z, rfl, hz⟩ := ty3' t1
      have hq' : es.length ≤ 1000 := by simpa [q38, elemsD] using hq
      cases hop : (intD (fieldD e 0) == 1) with
      | true =>
        have hop' : (opI e == 1) = true := hop
        refine fnH_ok hm envU2 k38 ((t38 1 e z es).trans ?_)
        have hd : decide ((es).length + 1 ≤ 2147483648) = true := by simp; omega
        rw [hop, hd, hop']
        rfl
      | false =>
        have hop' : (opI e == 1) = false := hop
        have H := (fnH_ok hm envU2 k38 (args := [dat 40 e, dat 3 (.lit (.int .i64 z)), bxp OID 25]) (h := [⟨25, .nil, 0, some (bxp (OID + 1) 25)⟩, ⟨25, .slice es [], 4, none⟩]) (r := dat 4 (.lit (.bool true)))
          (h' := [some ⟨25, .nil, 0, some (bxp (OID + 1) 25)⟩, some ⟨25, .slice es [], 4, none⟩]) ((t38 1 e z es).trans (by rw [hop]; rfl))).loose
        have he2 : elemsD (.slice es [] : D) ++ (bif opI e == 1 then [litI (colI e)] else []) = es := by rw [hop']; simp [elemsD]
        rw [he2]
        exact H
    | [], _, _, hg => cases hg
    | [_], _, _, hg => cases hg
    | [_, _], _, _, hg => cases hg
    | _ :: _ :: _ :: _ :: _, _, _, hg => cases hg
    | [_, _, _], [], _, hg => cases hg
    | [_, _, _], [_], _, hg => cases hg
    | [_, _, _], _ :: _ :: _ :: _, _, hg => cases hg

/-! ### All parts, by levels -/
def mayPre (K : Nat) (deep n : Int) : Bool := decide (1 ≤ K) && decide (7 < deep + (K : Int)) && decide (1 ≤ deep) && decide (deep ≤ 7) && decide (0 ≤ n) && decide (n ≤ 30)
def colsPre (K : Nat) (e : D) (deep : Int) (es : List D) : Bool := okK K e && decide (0 ≤ deep) && decide (deep + (K : Int) ≤ 1000) && decide (es.length + (colsK K e).length ≤ 100)
def a51 : List AV := [dat 40 .nil, dat 3 .nil, bxp OID 59, bxp (OID + 1) 59]
def b51m : List Ent := [⟨59, .nil, 0, some (clo 59 43 [OID + 2])⟩, ⟨59, .nil, 0, some (clo 59 51 [OID, OID + 1])⟩, ⟨3, .nil, 0, none⟩]
def b51c : List Ent := [⟨59, .nil, 0, some (clo 59 38 [OID + 2])⟩, ⟨59, .nil, 0, some (clo 59 51 [OID, OID + 1])⟩, ⟨25, .nil, 0, some (bxp (OID + 3) 25)⟩, ⟨25, .nil, 4, none⟩]
def q51m (K : Nat) : List D → List D → Bool := fun ds es => mayPre K (intD (ds.getD 1 .nil)) (intD (es.getD 2 .nil))
def q51c (K : Nat) : List D → List D → Bool := fun ds es => colsPre K (ds.getD 0 .nil) (intD (ds.getD 1 .nil)) (elemsD (es.getD 3 .nil))
def g51m (K : Nat) : List D → List D → HRes
  | [e, dp, _, _], [_, _, n] => some (dat 4 (.lit (.bool (mayAll K e (intD dp) (intD n)).1)), [some ⟨59, .nil, 0, some (clo 59 43 [OID + 2])⟩, some ⟨59, .nil, 0, some (clo 59 51 [OID, OID + 1])⟩, some ⟨3, .lit (.int .i64 (mayAll K e (intD dp) (intD n)).2), 0, none⟩])
  | _, _ => none
def g51c (K : Nat) : List D → List D → HRes
  | [e, dp, _, _], [_, _, _, l] => some (dat 4 (.lit (.bool true)), [some ⟨59, .nil, 0, some (clo 59 38 [OID + 2])⟩, some ⟨59, .nil, 0, some (clo 59 51 [OID, OID + 1])⟩, some ⟨25, .nil, 0, some (bxp (OID + 3) 25)⟩, some ⟨25, .slice (elemsD l ++ colsK K e) [], 1, none⟩])
  | _, _ => none
def h51 (K : Nat) : HEnt := (51, 4, fun args h => bif h.length == 3 then preH a51 b51m (q51m K) args h else preH a51 b51c (q51c K) args h, fun args h => bif h.length == 3 then entH a51 b51m (g51m K) args h else entH a51 b51c (g51c K) args h)
def H1 : HTab := [h43, h38]
def H2 (K : Nat) : HTab := h51 K :: H1
theorem envH1 : EnvOK Try.prog (envH U2 H1) := envOK_consH (envOK_consH envU2 c38) c43

end X
end Go.Proofs.Ytjgnknkbohlopaa

namespace Go.Proofs.Ytjgnknkbohlopaa
namespace X
open Go.Ev
set_option linter.unusedVariables false
/- roadbook/expr.through$1 -/
def t51_m_h : Hints := fun i => if i = 4 then some ([0, 2, 4, 5, 6, 7, 8, 9, 10, 11, 12, 13, 14, 18, 19, 20, 21, 22, 23, 24, 25, 26, 27], [1000000, 1000001, 1000002], []) else none
def t51_m_lp4 (P : Program) (fn : Func) (K : Nat) (N n : Nat) (x0 : D) (x1 : Int) (q : Int) (v17 : Int) (b1000002 : Int) : Option (AV × List (Option Ent)) := evLoop (preL t51_m_h (sub [1, 1, 0, 1, 0, 0] (bodyOf fn))) (evCode P (envH U2 (H2 K)) t51_m_h N (sub [1, 1, 0, 1, 0, 0] (bodyOf fn))) n ⟨[dead, dat 3 (.lit (.int .i64 x1)), dead, bxp 1000001 59, dead, dead, dead, dead, dead, dead, dead, dead, dead, dead, dead, dat 26 (fieldD x0 3), dat 3 (.lit (.int .i64 ((elemsD (fieldD x0 3)).length : Int))), dat 3 (.lit (.int .i64 v17)), dead, dead, dead, dead, dead, dead, dead, dead, dead, dead], lookB [(1000000, some ⟨59, .nil, 0, some (clo 59 43 [1000002])⟩), (1000001, some ⟨59, .nil, 0, some (clo 59 51 [1000000, 1000001])⟩), (1000002, some ⟨3, .lit (.int .i64 b1000002), 0, none⟩)]⟩ (blockK 0 (seqC P (envH U2 (H2 K)) t51_m_h N (sub [1, 1, 1] (bodyOf fn)) (finH P fn 3) ))
theorem t51_m_lp4_step (K : Nat) (N n : Nat) (x0 : D) (x1 : Int) (q : Int) (v17 : Int) (b1000002 : Int) : t51_m_lp4 Try.prog Try.f51 K N (n + 1) x0 x1 q v17 b1000002 =
  bif decide (v17 < ((elemsD (fieldD x0 3)).length : Int)) then
    bif (decide (0 ≤ v17) && decide (v17 < ((elemsD (fieldD x0 3)).length : Int))) then
      bif mayPre K (IntKind.wrap .i64 (x1 + 1)) b1000002 then
        bif (!((mayAll K ((elemsD (fieldD x0 3)).getD (v17).toNat .nil) (IntKind.wrap .i64 (x1 + 1)) b1000002).1)) then
          some (dat 4 (.lit (.bool false)), [some ⟨59, .nil, 0, some (clo 59 43 [1000002])⟩, some ⟨59, .nil, 0, some (clo 59 51 [1000000, 1000001])⟩, some ⟨3, .lit (.int .i64 ((mayAll K ((elemsD (fieldD x0 3)).getD (v17).toNat .nil) (IntKind.wrap .i64 (x1 + 1)) b1000002).2)), 0, none⟩])
        else t51_m_lp4 Try.prog Try.f51 K N n x0 x1 q (IntKind.wrap .i64 (v17 + 1)) ((mayAll K ((elemsD (fieldD x0 3)).getD (v17).toNat .nil) (IntKind.wrap .i64 (x1 + 1)) b1000002).2)
      else none
    else none
  else some (dat 4 (.lit (.bool true)), [some ⟨59, .nil, 0, some (clo 59 43 [1000002])⟩, some ⟨59, .nil, 0, some (clo 59 51 [1000000, 1000001])⟩, some ⟨3, .lit (.int .i64 b1000002), 0, none⟩]) := by kernel_rfl
theorem t51_m (K : Nat) (N : Nat) (x0 : D) (x1 : Int) (q : Int) : evFnH Try.prog (envH U2 (H2 K)) t51_m_h N Try.f51 [dat 40 x0, dat 3 (.lit (.int .i64 x1)), bxp 1000000 59, bxp 1000001 59] [⟨59, .nil, 0, some (clo 59 43 [1000002])⟩, ⟨59, .nil, 0, some (clo 59 51 [1000000, 1000001])⟩, ⟨3, .lit (.int .i64 q), 0, none⟩] =
  bif (decide (0 ≤ q) && decide (q ≤ 1000)) then
    bif (!(seeMay x0 x1 q)) then
      some (dat 4 (.lit (.bool false)), [some ⟨59, .nil, 0, some (clo 59 43 [1000002])⟩, some ⟨59, .nil, 0, some (clo 59 51 [1000000, 1000001])⟩, some ⟨3, .lit (.int .i64 (q + 1)), 0, none⟩])
    else t51_m_lp4 Try.prog Try.f51 K N N x0 x1 q 0 (q + 1)
  else none := by kernel_rfl

/- roadbook/expr.through$1 -/
def t51_c_h : Hints := fun i => if i = 4 then some ([0, 2, 4, 5, 6, 7, 8, 9, 10, 11, 12, 13, 14, 18, 19, 20, 21, 22, 23, 24, 25, 26, 27], [1000000, 1000001, 1000002, 1000003], []) else none
def t51_c_lp4 (P : Program) (fn : Func) (K : Nat) (N n : Nat) (x0 : D) (x1 : Int) (es : List D) (v17 : Int) (b1000003 : List D) : Option (AV × List (Option Ent)) := evLoop (preL t51_c_h (sub [1, 1, 0, 1, 0, 0] (bodyOf fn))) (evCode P (envH U2 (H2 K)) t51_c_h N (sub [1, 1, 0, 1, 0, 0] (bodyOf fn))) n ⟨[dead, dat 3 (.lit (.int .i64 x1)), dead, bxp 1000001 59, dead, dead, dead, dead, dead, dead, dead, dead, dead, dead, dead, dat 26 (fieldD x0 3), dat 3 (.lit (.int .i64 ((elemsD (fieldD x0 3)).length : Int))), dat 3 (.lit (.int .i64 v17)), dead, dead, dead, dead, dead, dead, dead, dead, dead, dead], lookB [(1000000, some ⟨59, .nil, 0, some (clo 59 38 [1000002])⟩), (1000001, some ⟨59, .nil, 0, some (clo 59 51 [1000000, 1000001])⟩), (1000002, some ⟨25, .nil, 0, some (bxp 1000003 25)⟩), (1000003, some ⟨25, .slice b1000003 [], 1, none⟩)]⟩ (blockK 0 (seqC P (envH U2 (H2 K)) t51_c_h N (sub [1, 1, 1] (bodyOf fn)) (finH P fn 4) ))
theorem t51_c_lp4_step (K : Nat) (N n : Nat) (x0 : D) (x1 : Int) (es : List D) (v17 : Int) (b1000003 : List D) : t51_c_lp4 Try.prog Try.f51 K N (n + 1) x0 x1 es v17 b1000003 =
  bif decide (v17 < ((elemsD (fieldD x0 3)).length : Int)) then
    bif (decide (0 ≤ v17) && decide (v17 < ((elemsD (fieldD x0 3)).length : Int))) then
      bif colsPre K ((elemsD (fieldD x0 3)).getD (v17).toNat .nil) (IntKind.wrap .i64 (x1 + 1)) b1000003 then
        t51_c_lp4 Try.prog Try.f51 K N n x0 x1 es (IntKind.wrap .i64 (v17 + 1)) (b1000003 ++ colsK K ((elemsD (fieldD x0 3)).getD (v17).toNat .nil))
      else none
    else none
  else some (dat 4 (.lit (.bool true)), [some ⟨59, .nil, 0, some (clo 59 38 [1000002])⟩, some ⟨59, .nil, 0, some (clo 59 51 [1000000, 1000001])⟩, some ⟨25, .nil, 0, some (bxp 1000003 25)⟩, some ⟨25, .slice b1000003 [], 1, none⟩]) := by kernel_rfl
theorem t51_c (K : Nat) (N : Nat) (x0 : D) (x1 : Int) (es : List D) : evFnH Try.prog (envH U2 (H2 K)) t51_c_h N Try.f51 [dat 40 x0, dat 3 (.lit (.int .i64 x1)), bxp 1000000 59, bxp 1000001 59] [⟨59, .nil, 0, some (clo 59 38 [1000002])⟩, ⟨59, .nil, 0, some (clo 59 51 [1000000, 1000001])⟩, ⟨25, .nil, 0, some (bxp 1000003 25)⟩, ⟨25, .slice es [], 4, none⟩] =
  bif decide (es.length ≤ 1000) then
    t51_c_lp4 Try.prog Try.f51 K N N x0 x1 es 0 (es ++ (bif opI x0 == 1 then [litI (colI x0)] else []))
  else none := by kernel_rfl

end X
end Go.Proofs.Ytjgnknkbohlopaa

namespace Go.Proofs.Ytjgnknkbohlopaa
namespace X
open Go.Ev
set_option linter.unusedVariables false
set_option linter.unusedSimpArgs false

theorem goL_cons (g : D → Int → Bool × Int) (p : D) (l : List D) (n : Int) : goL g (p :: l) n = bif (g p n).1 then goL g l (g p n).2 else (false, (g p n).2) := rfl
theorem mayAll_succ (k : Nat) (e : D) (deep n : Int) : mayAll (k + 1) e deep n = bif seeMay e deep n then goL (fun p m => mayAll k p (deep + 1) m) (kids e) (n + 1) else (false, n + 1) := rfl
theorem colsK_succ (k : Nat) (e : D) : colsK (k + 1) e = (bif opI e == 1 then [litI (colI e)] else []) ++ (kids e).flatMap (colsK k) := rfl
theorem okK_succ (k : Nat) (e : D) : okK (k + 1) e = (fitsB e && (kids e).all (okK k)) := rfl

theorem goL_bound {g : D → Int → Bool × Int} (hg : ∀ p m, 0 ≤ m → m ≤ 30 → (g p m).1 = true → 0 ≤ (g p m).2 ∧ (g p m).2 ≤ 30) : ∀ (l : List D) (m : Int), 0 ≤ m → m ≤ 30 → (goL g l m).1 = true → 0 ≤ (goL g l m).2 ∧ (goL g l m).2 ≤ 30
  | [], m, h0, h1, _ => ⟨h0, h1⟩
  | p :: l, m, h0, h1, h => by
    rw [goL_cons] at h ⊢
    cases hp : (g p m).1 with
    | false => rw [hp] at h; cases h
    | true =>
      rw [hp, cond_true] at h
      rw [cond_true]
      obtain ⟨b0, b1⟩ := hg p m h0 h1 hp
      exact goL_bound hg l _ b0 b1 h

theorem see_true {e : D} {deep n : Int} (h : seeMay e deep n = true) : n + 1 ≤ 30 ∧ deep ≤ 6 ∧ fitsB e = true := by
  unfold seeMay at h
  by_cases h1 : n + 1 ≤ 30
  · have d1 : decide (n + 1 ≤ 30) = true := by simpa using h1
    rw [d1, cond_true] at h
    by_cases h2 : deep ≤ 6
    · have d2 : decide (deep ≤ 6) = true := by simpa using h2
      rw [d2, cond_true] at h
      exact ⟨h1, h2, h⟩
    · have d2 : decide (deep ≤ 6) = false := by simpa using h2
      rw [d2] at h
      cases h
  · have d1 : decide (n + 1 ≤ 30) = false := by simpa using h1
    rw [d1] at h
    cases h

theorem mayAll_bound : ∀ (K : Nat) (e : D) (deep n : Int), 0 ≤ n → n ≤ 30 → (mayAll K e deep n).1 = true → 0 ≤ (mayAll K e deep n).2 ∧ (mayAll K e deep n).2 ≤ 30
  | 0, e, deep, n, h0, h1, h => by cases h
  | K + 1, e, deep, n, h0, h1, h => by
    rw [mayAll_succ] at h ⊢
    cases hs : seeMay e deep n with
    | false => rw [hs] at h; cases h
    | true =>
      rw [hs, cond_true] at h
      rw [cond_true]
      exact goL_bound (fun p m => mayAll_bound K p (deep + 1) m) _ _ (by omega) (see_true hs).1 h

theorem may_loop {K N : Nat} {x0 : D} {x1 q : Int} (hl : (kids x0).length ≤ maxLen) (hx : 1 ≤ x1) (hx6 : x1 ≤ 6) (hK : 7 < x1 + 1 + (K : Int)) : ∀ (n i : Nat) (b : Int), i ≤ (kids x0).length → (kids x0).length - i < n → 0 ≤ b → b ≤ 30 →
    t51_m_lp4 Try.prog Try.f51 K N n x0 x1 q (i : Int) b = some (dat 4 (.lit (.bool (goL (fun p m => mayAll K p (x1 + 1) m) ((kids x0).drop i) b).1)),
      [some ⟨59, .nil, 0, some (clo 59 43 [1000002])⟩, some ⟨59, .nil, 0, some (clo 59 51 [1000000, 1000001])⟩, some ⟨3, .lit (.int .i64 (goL (fun p m => mayAll K p (x1 + 1) m) ((kids x0).drop i) b).2), 0, none⟩])
  | 0, i, b, _, h, _, _ => by omega
  | n + 1, i, b, hi, h, h0, h30 => by
    rw [t51_m_lp4_step, show elemsD (fieldD x0 3) = kids x0 from rfl]
    have hw : IntKind.wrap .i64 (x1 + 1) = x1 + 1 := wrap_in (by rw [inR_iff]; omega)
    have hpre : mayPre K (x1 + 1) b = true := by simp only [mayPre, Bool.and_eq_true, decide_eq_true_eq]; omega
    rw [hw, hpre]
    by_cases hlt : i < (kids x0).length
    · have h1 : decide ((i : Int) < ((kids x0).length : Int)) = true := by simpa using hlt
      rw [idx_ok hlt, h1, cond_true, cond_true, cond_true, Int.toNat_natCast, getD_lt hlt, List.drop_eq_getElem_cons hlt, goL_cons]
      cases hb : (mayAll K (kids x0)[i] (x1 + 1) b).1 with
      | false =>
        rw [Bool.not_false, cond_true, cond_false]
      | true =>
        obtain ⟨b0, b1⟩ := mayAll_bound K _ _ _ h0 h30 hb
        rw [Bool.not_true, cond_false, cond_true, wrap_step hl hlt]
        exact may_loop hl hx hx6 hK n (i + 1) _ (by omega) (by omega) b0 b1
    · have h1 : decide ((i : Int) < ((kids x0).length : Int)) = false := by simpa using hlt
      have h2 : (kids x0).drop i = [] := List.drop_of_length_le (by omega)
      rw [h1, h2, cond_false]
      rfl

theorem cols_loop {K N : Nat} {x0 : D} {x1 : Int} {es : List D} (hl : (kids x0).length ≤ maxLen) (hx : 0 ≤ x1) (hx6 : x1 + 1 + (K : Int) ≤ 1000) (hok : ∀ p ∈ kids x0, okK K p = true) : ∀ (n i : Nat) (l : List D), i ≤ (kids x0).length → (kids x0).length - i < n →
    l.length + (((kids x0).drop i).flatMap (colsK K)).length ≤ 100 →
    t51_c_lp4 Try.prog Try.f51 K N n x0 x1 es (i : Int) l = some (dat 4 (.lit (.bool true)),
      [some ⟨59, .nil, 0, some (clo 59 38 [1000002])⟩, some ⟨59, .nil, 0, some (clo 59 51 [1000000, 1000001])⟩, some ⟨25, .nil, 0, some (bxp 1000003 25)⟩, some ⟨25, .slice (l ++ ((kids x0).drop i).flatMap (colsK K)) [], 1, none⟩])
  | 0, i, l, _, h, _ => by omega
  | n + 1, i, l, hi, h, hlen => by
    rw [t51_c_lp4_step, show elemsD (fieldD x0 3) = kids x0 from rfl]
    have hw : IntKind.wrap .i64 (x1 + 1) = x1 + 1 := wrap_in (by rw [inR_iff]; omega)
    rw [hw]
    by_cases hlt : i < (kids x0).length
    · have h1 : decide ((i : Int) < ((kids x0).length : Int)) = true := by simpa using hlt
      rw [List.drop_eq_getElem_cons hlt, List.flatMap_cons, List.length_append] at hlen
      have hpre : colsPre K (kids x0)[i] (x1 + 1) l = true := by
        simp only [colsPre, Bool.and_eq_true, decide_eq_true_eq]
        exact ⟨⟨⟨hok _ (List.getElem_mem hlt), by omega⟩, by omega⟩, by omega⟩
      rw [idx_ok hlt, h1, cond_true, cond_true, Int.toNat_natCast, getD_lt hlt, hpre, cond_true, wrap_step hl hlt, List.drop_eq_getElem_cons hlt, List.flatMap_cons, ← List.append_assoc]
      exact cols_loop hl hx hx6 hok n (i + 1) _ (by omega) (by omega) (by rw [List.length_append]; omega)
    · have h1 : decide ((i : Int) < ((kids x0).length : Int)) = false := by simpa using hlt
      have h2 : (kids x0).drop i = [] := List.drop_of_length_le (by omega)
      rw [h1, h2, cond_false]
      simp

theorem k51 : FnOK Try.prog 51 Try.f51 := ⟨Try.func51, rfl, by kernel_rfl⟩

theorem c51m (K : Nat) (henv : EnvOK Try.prog (envH U2 (H2 K))) : ∀ args hh r h', preH a51 b51m (q51m (K + 1)) args hh = true → entH a51 b51m (g51m (K + 1)) args hh = some (r, h') → HCallOK Try.prog 51 args hh r h' :=
  entH_ok rfl rfl fun ds es r h' hq hg => by
    match ds, es, hq, hg with
    | [e, dp, y1, y2], [u1, u2, n], hq, hg =>
      cases hg
      refine HCallOK.typed k51.ex fun ht he => ?_
      obtain ⟨_, t0⟩ := ht (dat 40 e) (by simp [fillA, a51, dat, bxp]) rfl
      obtain ⟨_, t1⟩ := ht (dat 3 dp) (by simp [fillA, a51, dat, bxp]) rfl
      obtain ⟨_, t2⟩ := he ⟨3, n, 0, none⟩ (by simp [fillE, b51m]) rfl rfl
      obtain ⟨z, rfl, hz⟩ := ty3' t1
      obtain ⟨q, rfl, hq2⟩ := ty3' t2
      have hpre : mayPre (K + 1) z q = true := hq
      simp only [mayPre, Bool.and_eq_true, decide_eq_true_eq] at hpre
      obtain ⟨⟨⟨⟨⟨p1, p2⟩, p3⟩, p4⟩, p5⟩, p6⟩ := hpre
      have t0 : Ty Try.prog _ 40 e := t0
      obtain ⟨hl, _⟩ := ty_kids t0
      refine fnH_ok hm henv k51 ((t51_m K ((kids e).length + 1) e z q).trans ?_)
      have hd : (decide (0 ≤ q) && decide (q ≤ 1000)) = true := by simp only [Bool.and_eq_true, decide_eq_true_eq]; omega
      rw [hd, cond_true]
      show _ = some (dat 4 (.lit (.bool (mayAll (K + 1) e z q).1)), [some (⟨59, .nil, 0, some (clo 59 43 [1000002])⟩ : Ent), some ⟨59, .nil, 0, some (clo 59 51 [1000000, 1000001])⟩, some ⟨3, .lit (.int .i64 (mayAll (K + 1) e z q).2), 0, none⟩])
      rw [mayAll_succ]
      cases hs : seeMay e z q with
      | false => rfl
      | true =>
        obtain ⟨s1, s2, _⟩ := see_true hs
        rw [Bool.not_true, cond_false, cond_true]
        have := may_loop (K := K) (N := (kids e).length + 1) (q := q) hl p3 s2 (by omega) ((kids e).length + 1) 0 (q + 1) (Nat.zero_le _) (by omega) (by omega) s1
        simpa using this
    | [], _, _, hg => cases hg
    | [_], _, _, hg => cases hg
    | [_, _], _, _, hg => cases hg
    | [_, _, _], _, _, hg => cases hg
    | _ :: _ :: _ :: _ :: _ :: _, _, _, hg => cases hg
    | [_, _, _, _], [], _, hg => cases hg
    | [_, _, _, _], [_], _, hg => cases hg
    | [_, _, _, _], [_, _], _, hg => cases hg
    | [_, _, _, _], _ :: _ :: _ :: _ :: _, _, hg => cases hg

theorem g51c_inv {K : Nat} {ds es : List D} {r : AV} {h' : List (Option Ent)} (hg : g51c K ds es = some (r, h')) : ∃ e dp y1 y2 u1 u2 u3 l, ds = [e, dp, y1, y2] ∧ es = [u1, u2, u3, l] ∧ r = dat 4 (.lit (.bool true)) ∧
    h' = [some ⟨59, .nil, 0, some (clo 59 38 [OID + 2])⟩, some ⟨59, .nil, 0, some (clo 59 51 [OID, OID + 1])⟩, some ⟨25, .nil, 0, some (bxp (OID + 3) 25)⟩, some ⟨25, .slice (elemsD l ++ colsK K e) [], 1, none⟩] := by
  unfold g51c at hg
  split at hg
  · injection hg with hg
    injection hg with h1 h2
    exact ⟨_, _, _, _, _, _, _, _, rfl, rfl, h1.symm, h2.symm⟩
  · cases hg

theorem c51c (K : Nat) (henv : EnvOK Try.prog (envH U2 (H2 K))) : ∀ args hh r h', preH a51 b51c (q51c (K + 1)) args hh = true → entH a51 b51c (g51c (K + 1)) args hh = some (r, h') → HCallOK Try.prog 51 args hh r h' :=
  entH_ok rfl rfl fun ds es r h' hq hg => by
    obtain ⟨e, dp, y1, y2, u1, u2, u3, l, rfl, rfl, rfl, rfl⟩ := g51c_inv hg
    refine HCallOK.typed k51.ex fun ht he => ?_
    refine row_slice k51.ex (e := ⟨25, l, 4, none⟩) (by simp [fillE, b51c]) (by simp) ?_
    rintro ⟨es, hes⟩
    have hes : l = .slice es [] := hes
    subst hes
    obtain ⟨_, t0⟩ := ht (dat 40 e) (by simp [fillA, a51, dat, bxp]) rfl
    obtain ⟨_, t1⟩ := ht (dat 3 dp) (by simp [fillA, a51, dat, bxp]) rfl
    obtain ⟨z, rfl, hz⟩ := ty3' t1
    have hpre : colsPre (K + 1) e z es = true := hq
    simp only [colsPre, Bool.and_eq_true, decide_eq_true_eq, okK_succ, List.all_eq_true] at hpre
    obtain ⟨⟨⟨⟨p0, p1⟩, p2⟩, p3⟩, p4⟩ := hpre
    have t0 : Ty Try.prog _ 40 e := t0
    obtain ⟨hl, _⟩ := ty_kids t0
    refine fnH_ok hm henv k51 ((t51_c K ((kids e).length + 1) e z es).trans ?_)
    rw [colsK_succ] at p4
    simp only [List.length_append] at p4
    have hd : decide (es.length ≤ 1000) = true := by simp only [decide_eq_true_eq]; omega
    rw [hd, cond_true]
    show _ = some (dat 4 (.lit (.bool true)), [some (⟨59, .nil, 0, some (clo 59 38 [1000002])⟩ : Ent), some ⟨59, .nil, 0, some (clo 59 51 [1000000, 1000001])⟩, some ⟨25, .nil, 0, some (bxp 1000003 25)⟩, some ⟨25, .slice (es ++ colsK (K + 1) e) [], 1, none⟩])
    rw [colsK_succ, ← List.append_assoc]
    have := cols_loop (K := K) (N := (kids e).length + 1) (es := es) hl p2 (by omega) p1 ((kids e).length + 1) 0 (es ++ (bif opI e == 1 then [litI (colI e)] else [])) (Nat.zero_le _) (by omega) (by simp only [List.length_append, List.drop_zero]; omega)
    simpa using this

theorem envH2 : ∀ K : Nat, EnvOK Try.prog (envH U2 (H2 K))
  | 0 => envOK_consH envH1 (fun args hh r h' hp _ => by
      exfalso
      revert hp
      cases (hh.length == 3) with
      | true =>
        intro hp
        have hp : preH a51 b51m (q51m 0) args hh = true := hp
        unfold preH at hp
        rw [Bool.and_eq_true] at hp
        have := hp.2
        simp [q51m, mayPre] at this
      | false =>
        intro hp
        have hp : preH a51 b51c (q51c 0) args hh = true := hp
        unfold preH at hp
        rw [Bool.and_eq_true] at hp
        have := hp.2
        simp [q51c, colsPre, okK] at this)
  | K + 1 => envOK_consH envH1 (fun args hh r h' hp hd => by
      have hp : (bif hh.length == 3 then preH a51 b51m (q51m (K + 1)) args hh else preH a51 b51c (q51c (K + 1)) args hh) = true := hp
      have hd : (bif hh.length == 3 then entH a51 b51m (g51m (K + 1)) args hh else entH a51 b51c (g51c (K + 1)) args hh) = some (r, h') := hd
      cases hlen : (hh.length == 3) with
      | true =>
        rw [hlen, cond_true] at hp hd
        exact c51m K (envH2 K) args hh r h' hp hd
      | false =>
        rw [hlen, cond_false] at hp hd
        exact c51c K (envH2 K) args hh r h' hp hd)

end X
end Go.Proofs.Ytjgnknkbohlopaa
