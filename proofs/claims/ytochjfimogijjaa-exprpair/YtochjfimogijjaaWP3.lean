/- Layer 2: what is shown each part. Nothing here is trusted. -/
import Derived.Test.YtochjfimogijjaaWT3
import Derived.Test.YtochjfimogijjaaVH
import Derived.Test.YtochjfimogijjaaTryShelf
namespace Go.Proofs.Ytochjfimogijjaa
open Go.Ev
set_option linter.unusedVariables false
set_option linter.unusedSimpArgs false

abbrev HEnt := FuncId × TypeId × (List AV → List Ent → Bool) × (List AV → List Ent → Option (AV × List (Option Ent)))

/-! ### May's -/
def a28 : List AV := [dat 26 .nil, dat 3 .nil, bxp OID 3]
def b28 : List Ent := [⟨3, .nil, 0, none⟩]
def q28 : List D → List D → Bool := fun _ es => decide (0 ≤ intD (es.getD 0 .nil)) && decide (intD (es.getD 0 .nil) ≤ 1000)
def g28 : List D → List D → HRes
  | [e, dp, _], [n] => some (dat 4 (.lit (.bool (seeMay e (intD dp) (intD n)))), [some ⟨3, litI (intD n + 1), 0, none⟩])
  | _, _ => none
def h28 : HEnt := (28, 4, preH a28 b28 q28, entH a28 b28 g28)
theorem k28 : FnOK Try.prog 28 Try.f28 := ⟨Try.func28, rfl, by kernel_rfl⟩
theorem c28 : ∀ args hh r h', h28.2.2.1 args hh = true → h28.2.2.2 args hh = some (r, h') → HCallOK Try.prog 28 args hh r h' :=
  entH_ok rfl rfl fun ds es r h' hq hg => by
    match ds, es, hq, hg with
    | [e, dp, y], [n], hq, hg =>
      cases hg
      refine HCallOK.typed k28.ex fun ht he => ?_
      obtain ⟨_, t1⟩ := ht (dat 3 dp) (by simp [fillA, a28, dat, bxp]) rfl
      obtain ⟨_, t2⟩ := he ⟨3, n, 0, none⟩ (by simp [fillE, b28]) rfl rfl
      obtain ⟨z, rfl, hz⟩ := ty3' t1
      obtain ⟨q, rfl, hq2⟩ := ty3' t2
      have hq' : 0 ≤ q ∧ q ≤ 1000 := by simpa [q28, intD] using hq
      have hw : IntKind.wrap .i64 (q + 1) = q + 1 := wrap_in (by rw [inR_iff]; omega)
      refine fnH_ok hm envU2 k28 ((t28 1 e z q).trans ?_)
      rw [hw]
      show _ = some (dat 4 (.lit (.bool (bif decide (q + 1 ≤ 30) then bif decide (z ≤ 6) then fitsB e else false else false))), [some (⟨3, .lit (.int .i64 (q + 1)), 0, none⟩ : Ent)])
      generalize decide (q + 1 ≤ 30) = b1
      generalize decide (z ≤ 6) = b2
      cases b1 <;> cases b2 <;> rfl
    | [], _, _, hg => cases hg
    | [_], _, _, hg => cases hg
    | [_, _], _, _, hg => cases hg
    | _ :: _ :: _ :: _ :: _, _, _, hg => cases hg
    | [_, _, _], [], _, hg => cases hg
    | [_, _, _], _ :: _ :: _, _, hg => cases hg

/-! ### Cols' -/
def a34 : List AV := [dat 26 .nil, dat 3 .nil, bxp OID 27]
def b34 : List Ent := [⟨27, .nil, 0, some (bxp (OID + 1) 27)⟩, ⟨27, .nil, 4, none⟩]
def q34 : List D → List D → Bool := fun _ es => decide ((elemsD (es.getD 1 .nil)).length ≤ 1000)
def own (e : D) : List D := bif opI e == 1 then [litI (colI e)] else []
def g34 : List D → List D → HRes
  | [e, dp, _], [_, l] => some (dat 4 (.lit (.bool true)), [some ⟨27, .nil, 0, some (bxp (OID + 1) 27)⟩, some ⟨27, .slice (elemsD l ++ (bif opI e == 1 then [litI (colI e)] else [])) [], 1, none⟩])
  | _, _ => none
def h34 : HEnt := (34, 4, preH a34 b34 q34, entH a34 b34 g34)
theorem k34 : FnOK Try.prog 34 Try.f34 := ⟨Try.func34, rfl, by kernel_rfl⟩

/-- A row that is handed over is a list. -/
theorem row_slice {P : Program} {f : FuncId} {args : List AV} {h : List Ent} {r : AV} {h' : List (Option Ent)} (hfn : ∃ fn c, P.funcs[f]? = some fn ∧ fn.body = some c ∧ (fn.name == "runtime.NumGoroutine") = false) {e : Ent} (he : e ∈ h) (h0 : e.row ≠ 0)
    (H : (∃ es, e.d = .slice es []) → HCallOK P f args h r h') : HCallOK P f args h r h' := by
  refine ⟨hfn, fun w okA β vs hok hH hargs => ?_⟩
  refine (H ?_).call w okA β vs hok hH hargs
  obtain ⟨k, hk⟩ := List.getElem?_of_mem he
  have hb : bxOf h (OID + k) = some e := by
    unfold bxOf
    rw [if_neg (by omega), Nat.add_sub_cancel_left]
    exact hk
  obtain ⟨_, _, _, _, h4, _⟩ := hH.row _ e hb h0
  exact h4

theorem c34 : ∀ args hh r h', h34.2.2.1 args hh = true → h34.2.2.2 args hh = some (r, h') → HCallOK Try.prog 34 args hh r h' :=
  entH_ok rfl rfl fun ds es r h' hq hg => by
    match ds, es, hq, hg with
    | [e, dp, y], [u, l], hq, hg =>
      cases hg
      refine HCallOK.typed k34.ex fun ht he => ?_
      refine row_slice k34.ex (e := ⟨27, l, 4, none⟩) (by simp [fillE, b34]) (by simp) ?_
      rintro ⟨es, hes⟩
      have hes : l = .slice es [] := hes
      subst hes
      obtain ⟨_, t1⟩ := ht (dat 3 dp) (by simp [fillA, a34, dat, bxp]) rfl
      obtain ⟨z, rfl, hz⟩ := ty3' t1
      have hq' : es.length ≤ 1000 := by simpa [q34, elemsD] using hq
      cases hop : (intD (fieldD e 0) == 1) with
      | true =>
        have hop' : (opI e == 1) = true := hop
        refine fnH_ok hm envU2 k34 ((t34 1 e z es).trans ?_)
        have hd : decide ((es).length + 1 ≤ 2147483648) = true := by simp; omega
        rw [hop, hd, hop']
        rfl
      | false =>
        have hop' : (opI e == 1) = false := hop
        have H := (fnH_ok hm envU2 k34 (args := [dat 26 e, dat 3 (.lit (.int .i64 z)), bxp OID 27]) (h := [⟨27, .nil, 0, some (bxp (OID + 1) 27)⟩, ⟨27, .slice es [], 4, none⟩]) (r := dat 4 (.lit (.bool true)))
          (h' := [some ⟨27, .nil, 0, some (bxp (OID + 1) 27)⟩, some ⟨27, .slice es [], 4, none⟩]) ((t34 1 e z es).trans (by rw [hop]; rfl))).loose
        have he2 : elemsD (.slice es [] : D) ++ (bif opI e == 1 then [litI (colI e)] else []) = es := by rw [hop']; simp [elemsD]
        rw [he2]
        exact H
    | [], _, _, hg => cases hg
    | [_], _, _, hg => cases hg
    | [_, _], _, _, hg => cases hg
    | _ :: _ :: _ :: _ :: _, _, _, hg => cases hg
    | [_, _, _], [], _, hg => cases hg
    | [_, _, _], [_], _, hg => cases hg
    | [_, _, _], _ :: _ :: _ :: _, _, hg => cases hg

/-! ### All parts, by levels -/
def mayPre (K : Nat) (deep n : Int) : Bool := decide (1 ≤ K) && decide (7 < deep + (K : Int)) && decide (1 ≤ deep) && decide (deep ≤ 7) && decide (0 ≤ n) && decide (n ≤ 30)
def colsPre (K : Nat) (e : D) (deep : Int) (es : List D) : Bool := okK K e && decide (0 ≤ deep) && decide (deep + (K : Int) ≤ 1000) && decide (es.length + (colsK K e).length ≤ 100)
def a44 : List AV := [dat 26 .nil, dat 3 .nil, bxp OID 30, bxp (OID + 1) 30]
def b44m : List Ent := [⟨30, .nil, 0, some (clo 30 28 [OID + 2])⟩, ⟨30, .nil, 0, some (clo 30 44 [OID, OID + 1])⟩, ⟨3, .nil, 0, none⟩]
def b44c : List Ent := [⟨30, .nil, 0, some (clo 30 34 [OID + 2])⟩, ⟨30, .nil, 0, some (clo 30 44 [OID, OID + 1])⟩, ⟨27, .nil, 0, some (bxp (OID + 3) 27)⟩, ⟨27, .nil, 4, none⟩]
def q44m (K : Nat) : List D → List D → Bool := fun ds es => mayPre K (intD (ds.getD 1 .nil)) (intD (es.getD 2 .nil))
def q44c (K : Nat) : List D → List D → Bool := fun ds es => colsPre K (ds.getD 0 .nil) (intD (ds.getD 1 .nil)) (elemsD (es.getD 3 .nil))
def g44m (K : Nat) : List D → List D → HRes
  | [e, dp, _, _], [_, _, n] => some (dat 4 (.lit (.bool (mayAll K e (intD dp) (intD n)).1)), [some ⟨30, .nil, 0, some (clo 30 28 [OID + 2])⟩, some ⟨30, .nil, 0, some (clo 30 44 [OID, OID + 1])⟩, some ⟨3, .lit (.int .i64 (mayAll K e (intD dp) (intD n)).2), 0, none⟩])
  | _, _ => none
def g44c (K : Nat) : List D → List D → HRes
  | [e, dp, _, _], [_, _, _, l] => some (dat 4 (.lit (.bool true)), [some ⟨30, .nil, 0, some (clo 30 34 [OID + 2])⟩, some ⟨30, .nil, 0, some (clo 30 44 [OID, OID + 1])⟩, some ⟨27, .nil, 0, some (bxp (OID + 3) 27)⟩, some ⟨27, .slice (elemsD l ++ colsK K e) [], 1, none⟩])
  | _, _ => none
def h44 (K : Nat) : HEnt := (44, 4, fun args h => bif h.length == 3 then preH a44 b44m (q44m K) args h else preH a44 b44c (q44c K) args h, fun args h => bif h.length == 3 then entH a44 b44m (g44m K) args h else entH a44 b44c (g44c K) args h)
def H1 : HTab := [h28, h34]
def H2 (K : Nat) : HTab := h44 K :: H1
theorem envH1 : EnvOK Try.prog (envH U2 H1) := envOK_consH (envOK_consH envU2 c34) c28

end Go.Proofs.Ytochjfimogijjaa
