/- Trees of functions, and lemmas. Nothing here is trusted. -/
import Derived.Test.YtdacippnonhahaaDoorZ27
import Derived.Test.YtdacippnonhahaaDoorZ26
import Derived.Test.YtdacippnonhahaaDoorZ25
namespace Go.Proofs.YtdacippnonhahaaDoor
section
namespace X
open Go.Ev
set_option linter.unusedVariables false
set_option linter.unusedSimpArgs false
set_option maxRecDepth 100000

theorem k18 : FnOK Tryd.prog 18 Tryd.f18 := ⟨Tryd.func18, rfl, by kernel_rfl⟩
theorem map48 : MapTy Tryd.prog 49 9 48 4 := by
 have z : ∀ w, (zeroValue 48).run Tryd.prog w = .ok (.agg #[]) w := fun w => by kernel_rfl
 exact ⟨by kernel_rfl, by kernel_rfl, by kernel_rfl, by kernel_rfl, z, by kernel_rfl, by kernel_rfl⟩
def cHd : Code -> Code | .seq a _ => a | c => c
def cTl : Code -> Code | .seq _ b => b | c => c
def cOps : Code -> Array Oper | .region _ ops _ => ops | _ => #[]
def cId : Code -> Nat | .region id _ _ => id | _ => 0
noncomputable def B18 : Code := Tryd.f18.body.getD .skip
theorem b18 : Tryd.f18.body = some (.seq (cHd B18) (.seq (cHd (cTl B18)) (.seq (cHd (cTl (cTl B18))) (.seq (.region (cId (cHd (cTl (cTl (cTl B18))))) (cOps (cHd (cTl (cTl (cTl B18))))) false) (cTl (cTl (cTl (cTl B18)))))))) := by kernel_rfl
def env18 : Env := envS envN [(15, 100)]
noncomputable def y18 (c : Code) (s : St) : Option St := evCodeY Tryd.prog env18 (noY 24 24 (itN 100)) (fun _ => none) 20 c true St (s, ()) nrm
noncomputable def p18 (x : D) : St := (y18 (cHd B18) (begin_ Tryd.f18 [dat 24 x])).getD ⟨[], fun _ => none⟩
noncomputable def q18 (x : D) : St := (y18 (cHd (cTl B18)) (p18 x)).getD ⟨[], fun _ => none⟩
noncomputable def r18 (x : D) : St := (y18 (cHd (cTl (cTl B18))) (q18 x)).getD ⟨[], fun _ => none⟩
theorem of_is {α : Type} {o : Option α} {d : α} (h : o.isSome = true) : o = some (o.getD d) := by
 cases o with
 | none => cases h
 | some x => rfl
/-- What comes, one behind the other. -/
def comeK (seen : List D) (texts : List (List UInt8)) : List D -> List D × List (List UInt8)
 | [] => (seen, texts)
 | n :: l => bif texts.contains (textT n) then comeK seen texts l else comeK (seen ++ [n]) (textT n :: texts) l
def closeK : Nat -> Nat -> List D -> List (List UInt8) -> List D
 | 0, _, seen, _ => seen
 | f + 1, i, seen, texts => match seen[i]? with
  | some d => closeK f (i + 1) (comeK seen texts (nextK 4 d)).1 (comeK seen texts (nextK 4 d)).2
  | none => seen
def copyT (x : D) : D := match tkids x with | [a, b] => nodeD [a, b] | _ => leafD (tocc x)
def closeT (x : D) : List D := bif mayT x then closeK 130 0 [copyT x] [textT x] else []
theorem p18_3 : (y18 (cHd B18) (begin_ Tryd.f18 [dat 24 (firstD 3)])).isSome = true := by kernel_rfl
theorem q18_3 : (y18 (cHd (cTl B18)) (p18 (firstD 3))).isSome = true := by kernel_rfl
theorem r18_3 : (y18 (cHd (cTl (cTl B18))) (q18 (firstD 3))).isSome = true := by kernel_rfl
noncomputable def O18 : Array Oper := cOps (cHd (cTl (cTl (cTl B18))))
noncomputable def o18 : Oper := O18.getD 0 { dst := none, op := .move (.tmp 0), type := 0, pos := "", after := #[], guard := none }
theorem o18_0 : O18[0]? = some o18 := by kernel_rfl
theorem o18_op : o18.op = .makeMap 49 none := by kernel_rfl
theorem a18 : asked Tryd.prog O18 o18 (prep env18 O18.toList (r18 (firstD 3))) = some true := by kernel_rfl
theorem v18 : ∀ b, (evSet Tryd.prog env18 (mapEnv Tryd.prog 49 9 48 4 24 24 (itN 100)) (fun _ => none) 20 Tryd.f18 O18 o18.dst 49 (cTl (cTl (cTl (cTl B18)))) b (r18 (firstD 3))).map (fun q => (q.1, q.2.2)) = some (dat 22 (.slice (closeT (firstD 3)) []), List.replicate 42 b) := fun b => by kernel_rfl
theorem c18_3 : CallOK Tryd.prog 18 [dat 24 (firstD 3)] (dat 22 (.slice (closeT (firstD 3)) [])) :=
 set_sound hm (envOK_S envN_ok _) map48 (by kernel_rfl) (iter_ok 100) k18.1 k18.2.2 b18 rfl (of_is p18_3) (of_is q18_3) (of_is r18_3) o18_0 o18_op a18 v18 (.inl rfl)
end X
end
section
namespace X
open Go.Ev
set_option linter.unusedVariables false
def e25 (K : Nat) : FuncId × TypeId × (List AV -> Bool) × (List AV -> Option D) := (25, 3, preD (q1 fun x => setK K x != 0), ent [24] (f1 fun x => some (.lit (.int .i64 ((jn K x : Nat) : Int)))))
def J1 (K : Nat) : Tab := e25 K :: []
end X
end
section
namespace X
open Go.Ev
set_option linter.unusedVariables false
/- roadbook/roadbooklaw08.joins -/
def t25_h : Hints := fun _ =>  none
theorem t25 (K : Nat) (N : Nat) (x0 : D) : evFn Tryd.prog (envH (J1 K) []) t25_h N Tryd.f25 [dat 24 x0] =
 bif (((elemsD (fieldD x0 1)).length : Int) != 2) then
  some (dat 3 (.lit (.int .i64 0)))
 else bif (decide (0 <= (0 : Int)) && decide ((0 : Int) < ((elemsD (fieldD x0 1)).length : Int))) then
   bif (((elemsD (fieldD ((elemsD (fieldD x0 1)).getD 0 .nil) 1)).length : Int) == 2) then
    bif (decide (0 <= (0 : Int)) && decide ((0 : Int) < ((elemsD (fieldD x0 1)).length : Int))) then
     bif (setK K ((elemsD (fieldD x0 1)).getD 0 .nil) != 0) then
      bif (decide (0 <= (1 : Int)) && decide ((1 : Int) < ((elemsD (fieldD x0 1)).length : Int))) then
       bif (setK K ((elemsD (fieldD x0 1)).getD 1 .nil) != 0) then
        some (dat 3 (.lit (.int .i64 (IntKind.wrap .i64 ((IntKind.wrap .i64 (2 + ((jn K ((elemsD (fieldD x0 1)).getD 0 .nil) : Nat) : Int))) + ((jn K ((elemsD (fieldD x0 1)).getD 1 .nil) : Nat) : Int))))))
       else none
      else none
     else none
    else none
   else bif (decide (0 <= (0 : Int)) && decide ((0 : Int) < ((elemsD (fieldD x0 1)).length : Int))) then
     bif (setK K ((elemsD (fieldD x0 1)).getD 0 .nil) != 0) then
      bif (decide (0 <= (1 : Int)) && decide ((1 : Int) < ((elemsD (fieldD x0 1)).length : Int))) then
       bif (setK K ((elemsD (fieldD x0 1)).getD 1 .nil) != 0) then
        some (dat 3 (.lit (.int .i64 (IntKind.wrap .i64 ((IntKind.wrap .i64 (1 + ((jn K ((elemsD (fieldD x0 1)).getD 0 .nil) : Nat) : Int))) + ((jn K ((elemsD (fieldD x0 1)).getD 1 .nil) : Nat) : Int))))))
       else none
      else none
     else none
    else none
  else none := by kernel_rfl

end X
end
section
namespace X
open Go.Ev
set_option linter.unusedVariables false
set_option linter.unusedSimpArgs false
set_option maxRecDepth 100000

theorem k25 : FnOK Tryd.prog 25 Tryd.f25 := ⟨Tryd.func25, rfl, by kernel_rfl⟩
theorem k8 : FnOK Tryd.prog 8 Tryd.f8 := ⟨Tryd.func8, rfl, by kernel_rfl⟩
theorem c25 (K : Nat) (hK : K <= 8) (henv : EnvOK Tryd.prog (envH (J1 K) [])) : ∀ args d, (e25 (K + 1)).2.2.1 args = true -> (e25 (K + 1)).2.2.2 args = some d -> CallOK Tryd.prog 25 args (mkRes Tryd.prog 3 d) :=
 ent1p k25 fun x d hq h ⟨_, hx⟩ => by
  cases h
  rw [n24]
  have hq : (setK (K + 1) x != 0) = true := hq
  have hq : setK (K + 1) x ≠ 0 := by simpa using hq
  refine fn_ok hm henv k25 ((t25 K 0 x).trans ?_)
  rw [m3]
  simp only [show ∀ y : D, elemsD (fieldD y 1) = tkids y from fun _ => rfl]
  show _ = some (dat 3 (.lit (.int .i64 ((jn (K + 1) x : Nat) : Int))))
  rcases set_cases K x with h0 | ⟨h1, _, _⟩ | ⟨a, b, hk, _, ha, hb, _, _⟩
  ·exact absurd h0 hq
  ·unfold jn
   rw [h1]
   rfl
  ·have ea : (setK K a != 0) = true := by simpa using ha
   have eb : (setK K b != 0) = true := by simpa using hb
   have la := jn_le K a
   have lb := jn_le K b
   have hp : 2 ^ (K + 1) <= 2 ^ 9 := Nat.pow_le_pow_right (by omega) (by omega)
   have hp : 2 ^ (K + 1) <= 512 := hp
   have w1 : IntKind.wrap .i64 (1 + ((jn K a : Nat) : Int)) = 1 + ((jn K a : Nat) : Int) := wrap_in (by rw [inR_iff]; omega)
   have w2 : IntKind.wrap .i64 (2 + ((jn K a : Nat) : Int)) = 2 + ((jn K a : Nat) : Int) := wrap_in (by rw [inR_iff]; omega)
   have w3 : IntKind.wrap .i64 (1 + ((jn K a : Nat) : Int) + ((jn K b : Nat) : Int)) = ((1 + jn K a + jn K b : Nat) : Int) := by rw [wrap_in (by rw [inR_iff]; omega)]; omega
   have w4 : IntKind.wrap .i64 (2 + ((jn K a : Nat) : Int) + ((jn K b : Nat) : Int)) = ((2 + jn K a + jn K b : Nat) : Int) := by rw [wrap_in (by rw [inR_iff]; omega)]; omega
   have g0 : ([a, b] : List D).getD 0 .nil = a := rfl
   have g1 : ([a, b] : List D).getD 1 .nil = b := rfl
   have hj : jn (K + 1) x = (match tkids a with | [_, _] => 2 | _ => 1) + jn K a + jn K b := by
    show (match tkids x with | [a, b] => (match tkids a with | [_, _] => 2 | _ => 1) + jn K a + jn K b | _ => 0) = _
    rw [hk]
   simp only [hk, g0, g1, ea, eb, cond_true, w1, w2, w3, w4]
   rw [hj]
   have hc : (((tkids a).length : Int) == 2) = (match tkids a with | [_, _] => true | _ => false) := by
    match tkids a with
    | [] => rfl
    | [_] => rfl
    | [_, _] => rfl
    | _ :: _ :: _ :: l =>
     simp
     omega
   rw [hc]
   split
   ·rfl
   ·rfl
theorem envJ : ∀ K : Nat, K <= 8 -> EnvOK Tryd.prog (envH (J1 K) [])
 | 0, _ => envOK_cons' env0 (ent1p k25 fun x d hq h _ => by
   exfalso
   have hq : (setK 0 x != 0) = true := hq
   cases hq)
 | K + 1, h => envOK_cons' env0 (c25 K (by omega) (envJ K (by omega)))
def e18 : FuncId × TypeId × (List AV -> Bool) × (List AV -> Option D) := (18, 22, yes, ent [24] (f1 fun x => bif sameD 30 x (firstD 3) then some (.slice (closeT (firstD 3)) []) else none))
theorem c18 : ∀ args d, e18.2.2.2 args = some d -> CallOK Tryd.prog 18 args (mkRes Tryd.prog 22 d) :=
 ent1 k18 fun x d h ⟨_, hx⟩ => by
  cases hs : sameD 30 x (firstD 3) with
  | false => rw [hs] at h; cases h
  | true =>
   rw [hs] at h
   cases h
   rw [n24, m22, sameD_eq 30 _ _ hs]
   exact c18_3
def SJ : Tab := e18 :: e16 :: e26 :: S8
theorem envSJ : EnvOK Tryd.prog (envH SJ []) := envOK_cons (envOK_cons (envOK_cons envS8 c26) c16) c18
theorem t8 : evFn Tryd.prog (envH SJ []) (fun _ => none) 1 Tryd.f8 [] = some (dat 4 (.lit (.bool true))) := by kernel_rfl
def e8 : FuncId × TypeId × (List AV -> Bool) × (List AV -> Option D) := (8, 4, yes, ent [] (f0 (some (.lit (.bool true)))))
theorem c8 : ∀ args d, e8.2.2.2 args = some d -> CallOK Tryd.prog 8 args (mkRes Tryd.prog 4 d) := by
 intro args d h
 match args, h with
 | [], h =>
  cases h
  exact fn_ok hm envSJ k8 (t8.trans (by rw [m4]; rfl))
 | _ :: _, h => cases h
def SL : Tab := e25 4 :: e9 101 :: e8 :: SJ
theorem envSL : EnvOK Tryd.prog (envH SL []) := envOK_cons' (envOK_cons' (envOK_cons envSJ c8) (c9 100 (envS9 100))) (c25 3 (by omega) (envJ 3 (by omega)))
end X
end
section
namespace X
open Go.Ev
set_option linter.unusedVariables false
set_option linter.unusedSimpArgs false
set_option maxRecDepth 100000

def isFn (n : Nat) (d : D) : Bool := match d with | .held (.func (.func k) a b) => k == n && a.size == 0 && b.size == 0 | _ => false
theorem isFn_eq {n : Nat} {d : D} (h : isFn n d = true) : d = .held (.func (.func n) #[] #[]) := by
 unfold isFn at h
 split at h
 ·rename_i k a b
  simp only [Bool.and_eq_true, beq_iff_eq] at h
  obtain ⟨⟨rfl, ha⟩, hb⟩ := h
  rw [Array.eq_empty_of_size_eq_zero ha, Array.eq_empty_of_size_eq_zero hb]
 ·cases h
theorem n40 (x : D) : normD Tryd.prog 40 x = x := by kernel_rfl
def e28 : FuncId × TypeId × (List AV -> Bool) × (List AV -> Option D) := (28, 27, yes, ent [40, 24] (f2 fun x y => bif isFn 29 x then some (ruleX turnX y) else bif isFn 32 x then some (ruleX moveX y) else none))
theorem c28 : ∀ args d, e28.2.2.2 args = some d -> CallOK Tryd.prog 28 args (mkRes Tryd.prog 27 d) :=
 ent2 k28 fun x y d h ⟨_, hx⟩ hy => by
  rw [n40, n24]
  cases h1 : isFn 29 x with
  | true =>
   rw [h1] at h
   cases h
   rw [isFn_eq h1]
   exact c28a y hy
  | false =>
   rw [h1] at h
   cases h2 : isFn 32 x with
   | true =>
    rw [h2] at h
    cases h
    rw [isFn_eq h2]
    exact c28b y hy
   | false => rw [h2] at h; cases h
def T28 : Tab := e28 :: []
theorem envT28 : EnvOK Tryd.prog (envH T28 []) := envOK_cons env0 c28
def ruleT (t : D -> Option D) (x : D) : D := fieldD (ruleX t x) 0
def ruleIs (t : D -> Option D) (x : D) : Bool := boolD (fieldD (ruleX t x) 1)
theorem t10 (x : D) : evFn Tryd.prog (envH T28 []) (fun _ => none) 1 Tryd.f10 [dat 24 x] = some (tupA [24, 4] (.agg [ruleT turnX x, .lit (.bool (ruleIs turnX x))])) := by kernel_rfl
theorem t12 (x : D) : evFn Tryd.prog (envH T28 []) (fun _ => none) 1 Tryd.f12 [dat 24 x] = some (tupA [24, 4] (.agg [ruleT moveX x, .lit (.bool (ruleIs moveX x))])) := by kernel_rfl
def e10 : FuncId × TypeId × (List AV -> Bool) × (List AV -> Option D) := (10, 27, yes, ent [24] (f1 fun x => some (.agg [ruleT turnX x, .lit (.bool (ruleIs turnX x))])))
theorem c10 : ∀ args d, e10.2.2.2 args = some d -> CallOK Tryd.prog 10 args (mkRes Tryd.prog 27 d) :=
 ent1 k10 fun x d h ⟨_, hx⟩ => by
  cases h
  rw [n24]
  exact fn_ok hm envT28 k10 ((t10 x).trans (by rw [m27]))
def e12 : FuncId × TypeId × (List AV -> Bool) × (List AV -> Option D) := (12, 27, yes, ent [24] (f1 fun x => some (.agg [ruleT moveX x, .lit (.bool (ruleIs moveX x))])))
theorem c12 : ∀ args d, e12.2.2.2 args = some d -> CallOK Tryd.prog 12 args (mkRes Tryd.prog 27 d) :=
 ent1 k12 fun x d h ⟨_, hx⟩ => by
  cases h
  rw [n24]
  exact fn_ok hm envT28 k12 ((t12 x).trans (by rw [m27]))
def SB : Tab := e12 :: e10 :: SL
theorem envSB : EnvOK Tryd.prog (envH SB []) := envOK_cons (envOK_cons envSL c10) c12
end X
end
section
namespace X
open Go.Ev
set_option linter.unusedVariables false
/- roadbook/roadbooklaw08.RuleBack -/
def t5_h : Hints := fun i => if i = 11 then some ([0, 2, 3, 4, 6, 7, 12, 13, 14, 15, 16, 17, 18, 19, 20, 21, 22, 23, 24, 25, 26, 27, 28, 29, 30, 31, 32, 33, 34, 35, 36, 37, 38, 39, 40, 41, 42, 43, 44, 45, 46, 47, 48, 49, 50, 51, 52, 53, 54, 55, 56, 57, 58, 59, 60, 61, 62, 63, 64, 65, 66, 67, 68, 69, 70, 71, 72, 73, 74, 75, 76, 77, 78, 79, 80, 81, 82, 83, 84, 85, 86, 87, 88, 89, 90, 91, 92, 93, 94, 95, 96, 97, 98, 99, 100, 101, 102, 103, 104, 105, 106, 107, 108, 109, 110, 111, 112, 113, 114, 115], [1, 8], []) else none
def t5_lp11 (P : Program) (fn : Func) (N n : Nat) (x0 : D) (v11 : Int) : Option AV := evLoop (preL t5_h (sub [1, 1, 1, 1, 1, 1, 1, 1, 0, 1, 0, 0] (bodyOf fn))) (evCode P (envH SB []) t5_h N (sub [1, 1, 1, 1, 1, 1, 1, 1, 0, 1, 0, 0] (bodyOf fn))) n ⟨[dead, bxp 1 24, dead, dead, dead, dat 4 (.lit (.bool (ruleIs turnX x0))), dead, dead, bxp 8 24, dat 4 (.lit (.bool (ruleIs moveX x0))), dat 22 (.slice (nextT x0) []), dat 3 (.lit (.int .i64 v11)), dead, dead, dead, dead, dead, dead, dead, dead, dead, dead, dead, dead, dead, dead, dead, dead, dead, dead, dead, dead, dead, dead, dead, dead, dead, dead, dead, dead, dead, dead, dead, dead, dead, dead, dead, dead, dead, dead, dead, dead, dead, dead, dead, dead, dead, dead, dead, dead, dead, dead, dead, dead, dead, dead, dead, dead, dead, dead, dead, dead, dead, dead, dead, dead, dead, dead, dead, dead, dead, dead, dead, dead, dead, dead, dead, dead, dead, dead, dead, dead, dead, dead, dead, dead, dead, dead, dead, dead, dead, dead, dead, dead, dead, dead, dead, dead, dead, dead, dead, dead, dead, dead, dead, dead], lookB [(1, some ⟨24, x0, 0, none⟩), (8, some ⟨24, ruleT moveX x0, 0, none⟩)]⟩ (blockK 0 (seqC P (envH SB []) t5_h N (sub [1, 1, 1, 1, 1, 1, 1, 1, 1] (bodyOf fn)) (finK P fn) ))
theorem t5_lp11_step  (N n : Nat) (x0 : D) (v11 : Int) : t5_lp11 Tryd.prog Tryd.f5 N (n + 1) x0 v11 =
 bif decide (v11 < ((nextT x0).length : Int)) then
  bif (decide (0 <= v11) && decide (v11 < ((nextT x0).length : Int))) then
   bif ((!(mayT ((nextT x0).getD (v11).toNat .nil))) == false) then
    bif (decide (0 <= v11) && decide (v11 < ((nextT x0).length : Int))) then
     bif (((setT ((nextT x0).getD (v11).toNat .nil)) != (setT x0)) == false) then
      bif (decide (0 <= v11) && decide (v11 < ((nextT x0).length : Int))) then
       bif smT ((nextT x0).getD (v11).toNat .nil) then
        bif eqT ((nextT x0).getD (v11).toNat .nil) x0 then
         some (dat 4 (.lit (.bool false)))
        else t5_lp11 Tryd.prog Tryd.f5 N n x0 (IntKind.wrap .i64 (v11 + 1))
       else none
      else none
     else some (dat 4 (.lit (.bool false)))
    else none
   else some (dat 4 (.lit (.bool false)))
  else none
 else bif ((!(ruleIs moveX x0)) == false) then
   bif ((ruleIs turnX x0) == true) then
    bif ((mayT (ruleT moveX x0)) == true) then
     bif (((setT (ruleT moveX x0)) == (setT x0)) == true) then
      bif ((ruleIs turnX x0) == false) then
       some (dat 4 (.lit (.bool (((nextT x0).length : Int) == 0))))
      else some (dat 4 (.lit (.bool true)))
     else some (dat 4 (.lit (.bool false)))
    else some (dat 4 (.lit (.bool false)))
   else some (dat 4 (.lit (.bool false)))
  else bif ((ruleIs turnX x0) == false) then
    some (dat 4 (.lit (.bool (((nextT x0).length : Int) == 0))))
   else some (dat 4 (.lit (.bool true))) := by kernel_rfl
theorem t5 (N : Nat) (x0 : D) : evFn Tryd.prog (envH SB []) t5_h N Tryd.f5 [dat 24 x0] =
 bif (decide (0 <= 100) && decide (100 < ((101 : Nat) : Int)) && decide (101 <= 101)) then
  bif decide ((szK 101 x0 100) > 100) then
   some (dat 4 (.lit (.bool true)))
  else bif ((ruleIs turnX x0) == true) then
    bif smT (ruleT turnX (ruleT turnX x0)) then
     bif ((!(eqT (ruleT turnX (ruleT turnX x0)) x0)) == false) then
      bif (((setT (ruleT turnX x0)) != (setT x0)) == false) then
       bif smT (ruleT turnX x0) then
        bif ((eqT (ruleT turnX x0) x0) == false) then
         bif (!(mayT (ruleT turnX x0))) then
          some (dat 4 (.lit (.bool false)))
         else t5_lp11 Tryd.prog Tryd.f5 N N x0 0
        else some (dat 4 (.lit (.bool false)))
       else none
      else some (dat 4 (.lit (.bool false)))
     else some (dat 4 (.lit (.bool false)))
    else none
   else t5_lp11 Tryd.prog Tryd.f5 N N x0 0
 else none := by kernel_rfl

end X
end
section
namespace X
open Go.Ev
set_option linter.unusedVariables false
/- roadbook/roadbooklaw08.RuleCount -/
def t7_h : Hints := fun _ =>  none
theorem t7 (N : Nat) (x0 : D) : evFn Tryd.prog (envH SL []) t7_h N Tryd.f7 [dat 24 x0] =
 bif (decide (0 <= 100) && decide (100 < ((101 : Nat) : Int)) && decide (101 <= 101)) then
  bif ((decide ((szK 101 x0 100) > 100)) == false) then
   bif (!(mayT x0)) then
    bif ((((nextT x0).length : Int) == 0) == false) then
     some (dat 4 (.lit (.bool (mayT x0))))
    else some (dat 4 (.lit (.bool true)))
   else bif (setK 4 x0 != 0) then
     some (dat 4 (.lit (.bool (((nextT x0).length : Int) == ((jn 4 x0 : Nat) : Int)))))
    else none
  else bif ((((nextT x0).length : Int) == 0) == false) then
    some (dat 4 (.lit (.bool (mayT x0))))
   else some (dat 4 (.lit (.bool true)))
 else none := by kernel_rfl

end X
end
section
namespace X
open Go.Ev
set_option linter.unusedVariables false
set_option linter.unusedSimpArgs false

theorem k7 : FnOK Tryd.prog 7 Tryd.f7 := ⟨Tryd.func7, rfl, by kernel_rfl⟩
theorem pre100 : (decide (0 <= 100) && decide (100 < ((101 : Nat) : Int)) && decide (101 <= 101)) = true := rfl
theorem law7 (x0 : D) : CallOK Tryd.prog 7 [dat 24 x0] (dat 4 (.lit (.bool true))) := by
 refine fn_ok (t := 4) (d := .lit (.bool true)) hm envSL k7 ((t7 0 x0).trans ?_)
 rw [m4]
 show _ = some (dat 4 (.lit (.bool true)))
 rw [pre100, cond_true]
 cases hmay : mayT x0 with
 | true =>
  have h4 : (setK 4 x0 != 0) = true := by simpa using may_set hmay
  have hn : (((nextT x0).length : Int) == ((jn 4 x0 : Nat) : Int)) = true := by
   unfold nextT
   rw [hmay, cond_true, nextK_len]
   simp
  rw [h4, hn]
  cases (decide (szK 101 x0 100 > 100)) with
  | true =>
   cases (((nextT x0).length : Int) == 0) <;> rfl
  | false => rfl
 | false =>
  have hn : nextT x0 = [] := by unfold nextT; rw [hmay]; rfl
  rw [hn]
  cases (decide (szK 101 x0 100 > 100)) <;> rfl
end X
end
section
namespace X
open Go.Ev
set_option linter.unusedVariables false
set_option linter.unusedSimpArgs false
set_option maxRecDepth 100000

theorem k5 : FnOK Tryd.prog 5 Tryd.f5 := ⟨Tryd.func5, rfl, by kernel_rfl⟩
/-- What is to be seen of a tree that may be. -/
def backB (d : D) : Bool :=
 (!(ruleIs turnX d) || (mayT (ruleT turnX d) && mayT (ruleT turnX (ruleT turnX d)) && eqT (ruleT turnX (ruleT turnX d)) d && (setT (ruleT turnX d) == setT d) && !(eqT (ruleT turnX d) d)))
 && (nextT d).all (fun n => mayT n && (setT n == setT d) && !(eqT n d))
 && (!(ruleIs moveX d) || (ruleIs turnX d && mayT (ruleT moveX d) && (setT (ruleT moveX d) == setT d)))
 && (ruleIs turnX d || (nextT d).isEmpty)
def BkS (s : Int) : Prop := (allT s).all backB = true
theorem bk_1 : (allT 1).all backB = true := by kernel_rfl
theorem bk_2 : (allT 2).all backB = true := by kernel_rfl
theorem bk_3 : (allT 3).all backB = true := by kernel_rfl
theorem bk_4 : (allT 4).all backB = true := by kernel_rfl
theorem bk_5 : (allT 5).all backB = true := by kernel_rfl
theorem bk_6 : (allT 6).all backB = true := by kernel_rfl
theorem bk_7 : (allT 7).all backB = true := by kernel_rfl
theorem bk_8 : (allT 8).all backB = true := by kernel_rfl
theorem bk_9 : (allT 9).all backB = true := by kernel_rfl
theorem bk_10 : (allT 10).all backB = true := by kernel_rfl
theorem bk_11 : (allT 11).all backB = true := by kernel_rfl
theorem bk_12 : (allT 12).all backB = true := by kernel_rfl
theorem bk_13 : (allT 13).all backB = true := by kernel_rfl
theorem bk_14 : (allT 14).all backB = true := by kernel_rfl
theorem bk15_0 : (Ch 0).all backB = true := by kernel_rfl
theorem bk15_1 : (Ch 1).all backB = true := by kernel_rfl
theorem bk15_2 : (Ch 2).all backB = true := by kernel_rfl
theorem bk15_3 : (Ch 3).all backB = true := by kernel_rfl
theorem bk15_4 : (Ch 4).all backB = true := by kernel_rfl
theorem bk15_5 : (Ch 5).all backB = true := by kernel_rfl
theorem bk_15 : BkS 15 := by
 unfold BkS
 rw [List.all_eq_true]
 intro d hd
 rcases mem_ch hd with h | h | h | h | h | h
 ·exact List.all_eq_true.1 bk15_0 d h
 ·exact List.all_eq_true.1 bk15_1 d h
 ·exact List.all_eq_true.1 bk15_2 d h
 ·exact List.all_eq_true.1 bk15_3 d h
 ·exact List.all_eq_true.1 bk15_4 d h
 ·exact List.all_eq_true.1 bk15_5 d h
theorem bk_all {x : Int} (a : 1 <= x) (b : x <= 15) : BkS x := fifteen (P := BkS) bk_1 bk_2 bk_3 bk_4 bk_5 bk_6 bk_7 bk_8 bk_9 bk_10 bk_11 bk_12 bk_13 bk_14 bk_15 a b
theorem back_of {n : Nat} {d : D} (hty : Ty Tryd.prog n 24 d) (h : mayT d = true) : backB d = true := by
 obtain ⟨a, b⟩ := may_in h
 exact List.all_eq_true.1 (bk_all a b) d (may_mem hty h)
theorem back_loop {N : Nat} {x0 : D} (hl : (nextT x0).length <= maxLen) (hall : ∀ n ∈ nextT x0, mayT n = true /\ setT n = setT x0 /\ eqT n x0 = false)
  (hm' : ruleIs moveX x0 = true -> ruleIs turnX x0 = true /\ mayT (ruleT moveX x0) = true /\ setT (ruleT moveX x0) = setT x0) (he : ruleIs turnX x0 = false -> nextT x0 = []) : ∀ (n i : Nat), i <= (nextT x0).length -> (nextT x0).length - i < n ->
  t5_lp11 Tryd.prog Tryd.f5 N n x0 (i : Int) = some (dat 4 (.lit (.bool true)))
 | 0, i, _, h => by omega
 | n + 1, i, hi, h => by
  rw [t5_lp11_step]
  by_cases hlt : i < (nextT x0).length
  ·have h1 : decide ((i : Int) < ((nextT x0).length : Int)) = true := by simpa using hlt
   obtain ⟨a1, a2, a3⟩ := hall _ (List.getElem_mem hlt)
   have e2 : (setT (nextT x0)[i] != setT x0) = false := by rw [a2]; simp
   rw [idx_ok hlt, h1, Int.toNat_natCast, getD_lt hlt, a1, e2, a3, may_sm a1, wrap_step hl hlt]
   simp only [cond_true, cond_false, Bool.not_true, Bool.not_false, beq_self_eq_true]
   exact back_loop hl hall hm' he n (i + 1) (by omega) (by omega)
  ·have h1 : decide ((i : Int) < ((nextT x0).length : Int)) = false := by simpa using hlt
   rw [h1, cond_false]
   cases hmo : ruleIs moveX x0 with
   | true =>
    obtain ⟨b1, b2, b3⟩ := hm' hmo
    have e3 : (setT (ruleT moveX x0) == setT x0) = true := by rw [b3]; simp
    rw [b1, b2, e3]
    rfl
   | false =>
    cases htu : ruleIs turnX x0 with
    | true => rfl
    | false =>
     rw [he htu]
     rfl
theorem law5 {n : Nat} (x0 : D) (hty : Ty Tryd.prog n 24 x0) : CallOK Tryd.prog 5 [dat 24 x0] (dat 4 (.lit (.bool true))) := by
 have hl : (nextT x0).length <= maxLen := by
  unfold nextT
  cases mayT x0 with
  | false => simp
  | true =>
   rw [cond_true, nextK_len]
   have := jn_le 4 x0
   unfold maxLen
   omega
 refine fn_ok (t := 4) (d := .lit (.bool true)) hm envSB k5 ((t5 ((nextT x0).length + 1) x0).trans ?_)
 rw [m4]
 show _ = some (dat 4 (.lit (.bool true)))
 rw [pre100, cond_true]
 cases hsz : decide (szK 101 x0 100 > 100) with
 | true => rfl
 | false =>
  rw [cond_false]
  cases hmay : mayT x0 with
  | false =>
   have hn : nextT x0 = [] := by unfold nextT; rw [hmay]; rfl
   have ht : ruleIs turnX x0 = false := by unfold ruleIs ruleX; rw [hmay]; rfl
   have hmo : ruleIs moveX x0 = false := by unfold ruleIs ruleX; rw [hmay]; rfl
   have key : t5_lp11 Tryd.prog Tryd.f5 ((nextT x0).length + 1) ((nextT x0).length + 1) x0 ((0 : Nat) : Int) = some (dat 4 (.lit (.bool true))) :=
    back_loop hl (by rw [hn]; simp) (fun h => by rw [hmo] at h; cases h) (fun _ => hn) _ 0 (by omega) (by omega)
   rw [ht, show ((false : Bool) == true) = false from rfl, cond_false, show (0 : Int) = ((0 : Nat) : Int) from rfl]
   exact key
  | true =>
   have hb := back_of hty hmay
   unfold backB at hb
   simp only [Bool.and_eq_true] at hb
   obtain ⟨⟨⟨b1, b2⟩, b3⟩, b4⟩ := hb
   have key : t5_lp11 Tryd.prog Tryd.f5 ((nextT x0).length + 1) ((nextT x0).length + 1) x0 ((0 : Nat) : Int) = some (dat 4 (.lit (.bool true))) := by
    refine back_loop hl (fun n hn => ?_) (fun h => ?_) (fun h => ?_) _ 0 (by omega) (by omega)
    ·have := List.all_eq_true.1 b2 n hn
     simp only [Bool.and_eq_true, beq_iff_eq, Bool.not_eq_true'] at this
     exact ⟨this.1.1, this.1.2, this.2⟩
    ·rw [h] at b3
     simp only [Bool.not_true, Bool.false_or, Bool.and_eq_true, beq_iff_eq] at b3
     exact ⟨b3.1.1, b3.1.2, b3.2⟩
    ·rw [h] at b4
     simpa using b4
   cases htu : ruleIs turnX x0 with
   | false =>
    rw [show ((false : Bool) == true) = false from rfl, cond_false, show (0 : Int) = ((0 : Nat) : Int) from rfl]
    exact key
   | true =>
    rw [htu] at b1
    simp only [Bool.not_true, Bool.false_or, Bool.and_eq_true, beq_iff_eq, Bool.not_eq_true'] at b1
    obtain ⟨⟨⟨⟨c1, c2⟩, c3⟩, c4⟩, c5⟩ := b1
    have e4 : (setT (ruleT turnX x0) != setT x0) = false := by rw [c4]; simp
    rw [may_sm c2, may_sm c1, c3, e4, c5, c1, show ((true : Bool) == true) = true from rfl, show ((false : Bool) == false) = true from rfl, show ((!true : Bool)) = false from rfl, show ((false : Bool) == false) = true from rfl]
    simp only [cond_true, cond_false]
    rw [show (0 : Int) = ((0 : Nat) : Int) from rfl]
    exact key
end X
end
end Go.Proofs.YtdacippnonhahaaDoor
