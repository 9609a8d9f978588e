/- Trees of functions, and lemmas. Nothing here is trusted. -/
import Derived.Test.YtdacippnonhahaaDoorZ27
import Derived.Test.YtdacippnonhahaaDoorZ26
import Derived.Test.YtdacippnonhahaaDoorZ25
namespace Go.Proofs.YtdacippnonhahaaDoor
section
namespace X
open Go.Ev
set_option linter.unusedVariables false
set_option linter.unusedSimpArgs false
set_option maxRecDepth 100000

theorem k18 : FnOK Tryd.prog 18 Tryd.f18 := ⟨Tryd.func18, rfl, by kernel_rfl⟩
theorem map48 : MapTy Tryd.prog 49 9 48 4 := by
 have z : ∀ w, (zeroValue 48).run Tryd.prog w = .ok (.agg #[]) w := fun w => by kernel_rfl
 exact ⟨by kernel_rfl, by kernel_rfl, by kernel_rfl, by kernel_rfl, z, by kernel_rfl, by kernel_rfl⟩
def cHd : Code -> Code | .seq a _ => a | c => c
def cTl : Code -> Code | .seq _ b => b | c => c
def cOps : Code -> Array Oper | .region _ ops _ => ops | _ => #[]
def cId : Code -> Nat | .region id _ _ => id | _ => 0
noncomputable def B18 : Code := Tryd.f18.body.getD .skip
theorem b18 : Tryd.f18.body = some (.seq (cHd B18) (.seq (cHd (cTl B18)) (.seq (cHd (cTl (cTl B18))) (.seq (.region (cId (cHd (cTl (cTl (cTl B18))))) (cOps (cHd (cTl (cTl (cTl B18))))) false) (cTl (cTl (cTl (cTl B18)))))))) := by kernel_rfl
def env18 : Env := envS envN [(15, 100)]
noncomputable def y18 (c : Code) (s : St) : Option St := evCodeY Tryd.prog env18 (noY 24 24 (itN 100)) (fun _ => none) 20 c true St (s, ()) nrm
noncomputable def p18 (x : D) : St := (y18 (cHd B18) (begin_ Tryd.f18 [dat 24 x])).getD ⟨[], fun _ => none⟩
noncomputable def q18 (x : D) : St := (y18 (cHd (cTl B18)) (p18 x)).getD ⟨[], fun _ => none⟩
noncomputable def r18 (x : D) : St := (y18 (cHd (cTl (cTl B18))) (q18 x)).getD ⟨[], fun _ => none⟩
theorem of_is {α : Type} {o : Option α} {d : α} (h : o.isSome = true) : o = some (o.getD d) := by
 cases o with
 | none => cases h
 | some x => rfl
/-- What comes, one behind the other. -/
def comeK (seen : List D) (texts : List (List UInt8)) : List D -> List D × List (List UInt8)
 | [] => (seen, texts)
 | n :: l => bif texts.contains (textT n) then comeK seen texts l else comeK (seen ++ [n]) (textT n :: texts) l
def closeK : Nat -> Nat -> List D -> List (List UInt8) -> List D
 | 0, _, seen, _ => seen
 | f + 1, i, seen, texts => match seen[i]? with
  | some d => closeK f (i + 1) (comeK seen texts (nextK 4 d)).1 (comeK seen texts (nextK 4 d)).2
  | none => seen
def copyT (x : D) : D := match tkids x with | [a, b] => nodeD [a, b] | _ => leafD (tocc x)
def closeT (x : D) : List D := bif mayT x then closeK 130 0 [copyT x] [textT x] else []
theorem p18_3 : (y18 (cHd B18) (begin_ Tryd.f18 [dat 24 (firstD 3)])).isSome = true := by kernel_rfl
theorem q18_3 : (y18 (cHd (cTl B18)) (p18 (firstD 3))).isSome = true := by kernel_rfl
theorem r18_3 : (y18 (cHd (cTl (cTl B18))) (q18 (firstD 3))).isSome = true := by kernel_rfl
noncomputable def O18 : Array Oper := cOps (cHd (cTl (cTl (cTl B18))))
noncomputable def o18 : Oper := O18.getD 0 { dst := none, op := .move (.tmp 0), type := 0, pos := "", after := #[], guard := none }
theorem o18_0 : O18[0]? = some o18 := by kernel_rfl
theorem o18_op : o18.op = .makeMap 49 none := by kernel_rfl
theorem a18 : asked Tryd.prog O18 o18 (prep env18 O18.toList (r18 (firstD 3))) = some true := by kernel_rfl
theorem v18 : ∀ b, (evSet Tryd.prog env18 (mapEnv Tryd.prog 49 9 48 4 24 24 (itN 100)) (fun _ => none) 20 Tryd.f18 O18 o18.dst 49 (cTl (cTl (cTl (cTl B18)))) b (r18 (firstD 3))).map (fun q => (q.1, q.2.2)) = some (dat 22 (.slice (closeT (firstD 3)) []), List.replicate 42 b) := fun b => by kernel_rfl
theorem c18_3 : CallOK Tryd.prog 18 [dat 24 (firstD 3)] (dat 22 (.slice (closeT (firstD 3)) [])) :=
 set_sound hm (envOK_S envN_ok _) map48 (by kernel_rfl) (iter_ok 100) k18.1 k18.2.2 b18 rfl (of_is p18_3) (of_is q18_3) (of_is r18_3) o18_0 o18_op a18 v18 (.inl rfl)
end X
end
section
namespace X
open Go.Ev
set_option linter.unusedVariables false
def e25 (K : Nat) : FuncId × TypeId × (List AV -> Bool) × (List AV -> Option D) := (25, 3, preD (q1 fun x => setK K x != 0), ent [24] (f1 fun x => some (.lit (.int .i64 ((jn K x : Nat) : Int)))))
def J1 (K : Nat) : Tab := e25 K :: []
end X
end
section
namespace X
open Go.Ev
set_option linter.unusedVariables false
/- roadbook/roadbooklaw08.joins -/
def t25_h : Hints := fun _ =>  none
theorem t25 (K : Nat) (N : Nat) (x0 : D) : evFn Tryd.prog (envH (J1 K) []) t25_h N Tryd.f25 [dat 24 x0] =
 bif (((elemsD (fieldD x0 1)).length : Int) != 2) then
  some (dat 3 (.lit (.int .i64 0)))
 else bif (decide (0 <= (0 : Int)) && decide ((0 : Int) < ((elemsD (fieldD x0 1)).length : Int))) then
   bif (((elemsD (fieldD ((elemsD (fieldD x0 1)).getD 0 .nil) 1)).length : Int) == 2) then
    bif (decide (0 <= (0 : Int)) && decide ((0 : Int) < ((elemsD (fieldD x0 1)).length : Int))) then
     bif (setK K ((elemsD (fieldD x0 1)).getD 0 .nil) != 0) then
      bif (decide (0 <= (1 : Int)) && decide ((1 : Int) < ((elemsD (fieldD x0 1)).length : Int))) then
       bif (setK K ((elemsD (fieldD x0 1)).getD 1 .nil) != 0) then
        some (dat 3 (.lit (.int .i64 (IntKind.wrap .i64 ((IntKind.wrap .i64 (2 + ((jn K ((elemsD (fieldD x0 1)).getD 0 .nil) : Nat) : Int))) + ((jn K ((elemsD (fieldD x0 1)).getD 1 .nil) : Nat) : Int))))))
       else none
      else none
     else none
    else none
   else bif (decide (0 <= (0 : Int)) && decide ((0 : Int) < ((elemsD (fieldD x0 1)).length : Int))) then
     bif (setK K ((elemsD (fieldD x0 1)).getD 0 .nil) != 0) then
      bif (decide (0 <= (1 : Int)) && decide ((1 : Int) < ((elemsD (fieldD x0 1)).length : Int))) then
       bif (setK K ((elemsD (fieldD x0 1)).getD 1 .nil) != 0) then
        some (dat 3 (.lit (.int .i64 (IntKind.wrap .i64 ((IntKind.wrap .i64 (1 + ((jn K ((elemsD (fieldD x0 1)).getD 0 .nil) : Nat) : Int))) + ((jn K ((elemsD (fieldD x0 1)).getD 1 .nil) : Nat) : Int))))))
       else none
      else none
     else none
    else none
  else none := by kernel_rfl

end X
end
section
namespace X
open Go.Ev
set_option linter.unusedVariables false
set_option linter.unusedSimpArgs false
set_option maxRecDepth 100000

theorem k25 : FnOK Tryd.prog 25 Tryd.f25 := ⟨Tryd.func25, rfl, by kernel_rfl⟩
theorem k8 : FnOK Tryd.prog 8 Tryd.f8 := ⟨Tryd.func8, rfl, by kernel_rfl⟩
theorem c25 (K : Nat) (hK : K <= 8) (henv : EnvOK Tryd.prog (envH (J1 K) [])) : ∀ args d, (e25 (K + 1)).2.2.1 args = true -> (e25 (K + 1)).2.2.2 args = some d -> CallOK Tryd.prog 25 args (mkRes Tryd.prog 3 d) :=
 ent1p k25 fun x d hq h ⟨_, hx⟩ => by
  cases h
  rw [n24]
  have hq : (setK (K + 1) x != 0) = true := hq
  have hq : setK (K + 1) x ≠ 0 := by simpa using hq
  refine fn_ok hm henv k25 ((t25 K 0 x).trans ?_)
  rw [m3]
  simp only [show ∀ y : D, elemsD (fieldD y 1) = tkids y from fun _ => rfl]
  show _ = some (dat 3 (.lit (.int .i64 ((jn (K + 1) x : Nat) : Int))))
  rcases set_cases K x with h0 | ⟨h1, _, _⟩ | ⟨a, b, hk, _, ha, hb, _, _⟩
  ·exact absurd h0 hq
  ·unfold jn
   rw [h1]
   rfl
  ·have ea : (setK K a != 0) = true := by simpa using ha
   have eb : (setK K b != 0) = true := by simpa using hb
   have la := jn_le K a
   have lb := jn_le K b
   have hp : 2 ^ (K + 1) <= 2 ^ 9 := Nat.pow_le_pow_right (by omega) (by omega)
   have hp : 2 ^ (K + 1) <= 512 := hp
   have w1 : IntKind.wrap .i64 (1 + ((jn K a : Nat) : Int)) = 1 + ((jn K a : Nat) : Int) := wrap_in (by rw [inR_iff]; omega)
   have w2 : IntKind.wrap .i64 (2 + ((jn K a : Nat) : Int)) = 2 + ((jn K a : Nat) : Int) := wrap_in (by rw [inR_iff]; omega)
   have w3 : IntKind.wrap .i64 (1 + ((jn K a : Nat) : Int) + ((jn K b : Nat) : Int)) = ((1 + jn K a + jn K b : Nat) : Int) := by rw [wrap_in (by rw [inR_iff]; omega)]; omega
   have w4 : IntKind.wrap .i64 (2 + ((jn K a : Nat) : Int) + ((jn K b : Nat) : Int)) = ((2 + jn K a + jn K b : Nat) : Int) := by rw [wrap_in (by rw [inR_iff]; omega)]; omega
   have g0 : ([a, b] : List D).getD 0 .nil = a := rfl
   have g1 : ([a, b] : List D).getD 1 .nil = b := rfl
   have hj : jn (K + 1) x = (match tkids a with | [_, _] => 2 | _ => 1) + jn K a + jn K b := by
    show (match tkids x with | [a, b] => (match tkids a with | [_, _] => 2 | _ => 1) + jn K a + jn K b | _ => 0) = _
    rw [hk]
   simp only [hk, g0, g1, ea, eb, cond_true, w1, w2, w3, w4]
   rw [hj]
   have hc : (((tkids a).length : Int) == 2) = (match tkids a with | [_, _] => true | _ => false) := by
    match tkids a with
    | [] => rfl
    | [_] => rfl
    | [_, _] => rfl
    | _ :: _ :: _ :: l =>
     simp
     omega
   rw [hc]
   split
   ·rfl
   ·rfl
theorem envJ : ∀ K : Nat, K <= 8 -> EnvOK Tryd.prog (envH (J1 K) [])
 | 0, _ => envOK_cons' env0 (ent1p k25 fun x d hq h _ => by
   exfalso
   have hq : (setK 0 x != 0) = true := hq
   cases hq)
 | K + 1, h => envOK_cons' env0 (c25 K (by omega) (envJ K (by omega)))
def e18 : FuncId × TypeId × (List AV -> Bool) × (List AV -> Option D) := (18, 22, yes, ent [24] (f1 fun x => bif sameD 30 x (firstD 3) then some (.slice (closeT (firstD 3)) []) else none))
theorem c18 : ∀ args d, e18.2.2.2 args = some d -> CallOK Tryd.prog 18 args (mkRes Tryd.prog 22 d) :=
 ent1 k18 fun x d h ⟨_, hx⟩ => by
  cases hs : sameD 30 x (firstD 3) with
  | false => rw [hs] at h; cases h
  | true =>
   rw [hs] at h
   cases h
   rw [n24, m22, sameD_eq 30 _ _ hs]
   exact c18_3
def SJ : Tab := e18 :: e16 :: e26 :: S8
theorem envSJ : EnvOK Tryd.prog (envH SJ []) := envOK_cons (envOK_cons (envOK_cons envS8 c26) c16) c18
theorem t8 : evFn Tryd.prog (envH SJ []) (fun _ => none) 1 Tryd.f8 [] = some (dat 4 (.lit (.bool true))) := by kernel_rfl
def e8 : FuncId × TypeId × (List AV -> Bool) × (List AV -> Option D) := (8, 4, yes, ent [] (f0 (some (.lit (.bool true)))))
theorem c8 : ∀ args d, e8.2.2.2 args = some d -> CallOK Tryd.prog 8 args (mkRes Tryd.prog 4 d) := by
 intro args d h
 match args, h with
 | [], h =>
  cases h
  exact fn_ok hm envSJ k8 (t8.trans (by rw [m4]; rfl))
 | _ :: _, h => cases h
def SL : Tab := e25 4 :: e9 101 :: e8 :: SJ
theorem envSL : EnvOK Tryd.prog (envH SL []) := envOK_cons' (envOK_cons' (envOK_cons envSJ c8) (c9 100 (envS9 100))) (c25 3 (by omega) (envJ 3 (by omega)))
end X
end
section
namespace X
open Go.Ev
set_option linter.unusedVariables false
/- roadbook/roadbooklaw08.RuleCount -/
def t7_h : Hints := fun _ =>  none
theorem t7 (N : Nat) (x0 : D) : evFn Tryd.prog (envH SL []) t7_h N Tryd.f7 [dat 24 x0] =
 bif (decide (0 <= 100) && decide (100 < ((101 : Nat) : Int)) && decide (101 <= 101)) then
  bif ((decide ((szK 101 x0 100) > 100)) == false) then
   bif (!(mayT x0)) then
    bif ((((nextT x0).length : Int) == 0) == false) then
     some (dat 4 (.lit (.bool (mayT x0))))
    else some (dat 4 (.lit (.bool true)))
   else bif (setK 4 x0 != 0) then
     some (dat 4 (.lit (.bool (((nextT x0).length : Int) == ((jn 4 x0 : Nat) : Int)))))
    else none
  else bif ((((nextT x0).length : Int) == 0) == false) then
    some (dat 4 (.lit (.bool (mayT x0))))
   else some (dat 4 (.lit (.bool true)))
 else none := by kernel_rfl

end X
end
section
namespace X
open Go.Ev
set_option linter.unusedVariables false
set_option linter.unusedSimpArgs false

theorem k7 : FnOK Tryd.prog 7 Tryd.f7 := ⟨Tryd.func7, rfl, by kernel_rfl⟩
theorem pre100 : (decide (0 <= 100) && decide (100 < ((101 : Nat) : Int)) && decide (101 <= 101)) = true := rfl
theorem law7 (x0 : D) : CallOK Tryd.prog 7 [dat 24 x0] (dat 4 (.lit (.bool true))) := by
 refine fn_ok (t := 4) (d := .lit (.bool true)) hm envSL k7 ((t7 0 x0).trans ?_)
 rw [m4]
 show _ = some (dat 4 (.lit (.bool true)))
 rw [pre100, cond_true]
 cases hmay : mayT x0 with
 | true =>
  have h4 : (setK 4 x0 != 0) = true := by simpa using may_set hmay
  have hn : (((nextT x0).length : Int) == ((jn 4 x0 : Nat) : Int)) = true := by
   unfold nextT
   rw [hmay, cond_true, nextK_len]
   simp
  rw [h4, hn]
  cases (decide (szK 101 x0 100 > 100)) with
  | true =>
   cases (((nextT x0).length : Int) == 0) <;> rfl
  | false => rfl
 | false =>
  have hn : nextT x0 = [] := by unfold nextT; rw [hmay]; rfl
  rw [hn]
  cases (decide (szK 101 x0 100 > 100)) <;> rfl
end X
end
end Go.Proofs.YtdacippnonhahaaDoor
