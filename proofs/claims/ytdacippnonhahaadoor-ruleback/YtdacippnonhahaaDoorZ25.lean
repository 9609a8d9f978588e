/- Trees of functions, and lemmas. Nothing here is trusted. -/
import Derived.Test.YtdacippnonhahaaDoorZ18
import Derived.Test.YtdacippnonhahaaDoorZ24
namespace Go.Ev
set_option linter.unusedVariables false
set_option linter.unusedSimpArgs false
section
def turnX (d : D) : Option D := match tkids d with | [a, b] => some (nodeD [b, a]) | _ => none
def moveX (d : D) : Option D := match tkids d with | [ab, c] => (match tkids ab with | [a, b] => some (nodeD [a, nodeD [b, c]]) | _ => none) | _ => none
def resX (o : Option D) : D := match o with | some t => .agg [t, .lit (.bool true)] | none => .agg [leafD 0, .lit (.bool false)]
def nextK : Nat -> D -> List D
 | 0, _ => []
 | k + 1, d => (turnX d).toList ++ (moveX d).toList ++ match tkids d with
  | [a, b] => (nextK k a).map (fun n => nodeD [n, b]) ++ (nextK k b).map (fun n => nodeD [a, n])
  | _ => []
def nextT (d : D) : List D := bif mayT d then nextK 4 d else []

theorem may_inv : ∀ (k : Nat) (t : D), setK k t ≠ 0 -> inv k t
 | 0, t, h => absurd rfl h
 | k + 1, t, h => by
  rcases set_cases k t with h0 | ⟨h1, h2, _⟩ | ⟨a, b, hk, h2, ha, hb, _, _⟩
  ·exact absurd h0 h
  ·refine ⟨by rw [okT_succ, h1]; rfl, ?_⟩
   rw [szT_succ, h1]
   show 1 + 0 + 1 <= 2 ^ (k + 1 + 1)
   have : 1 <= 2 ^ k := Nat.one_le_two_pow
   omega
  ·obtain ⟨a1, a2⟩ := may_inv k a ha
   obtain ⟨b1, b2⟩ := may_inv k b hb
   refine ⟨by rw [okT_succ, hk]; simp [a1, b1], ?_⟩
   rw [szT_succ, hk]
   have e1 : szT 129 a <= szT 130 a := szT_mono 129 a
   have e2 : szT 129 b <= szT 130 b := szT_mono 129 b
   simp only [List.map_cons, List.map_nil, List.sum_cons, List.sum_nil]
   have : 2 ^ (k + 1 + 1) = 2 ^ (k + 1) + 2 ^ (k + 1) := by omega
   omega
theorem may_set {t : D} (h : mayT t = true) : setK 4 t ≠ 0 := by
 unfold mayT setT at h
 simpa using h
theorem may_sm {t : D} (h : mayT t = true) : smT t = true := inv_small (may_inv 4 t (may_set h)) (by omega)
/-- A tree that may be is an occurrence, or has two trees that may be. -/
theorem may_parts {t : D} (h : mayT t = true) : (tkids t = []) \/ ∃ a b, tkids t = [a, b] /\ mayT a = true /\ mayT b = true := by
 rcases set_cases 3 t with h0 | ⟨h1, _, _⟩ | ⟨a, b, hk, _, ha, hb, _, _⟩
 ·exact absurd h0 (may_set h)
 ·exact .inl h1
 ·refine .inr ⟨a, b, hk, ?_, ?_⟩
  ·unfold mayT setT
   rw [setK_mono 3 a ha]
   simpa using ha
  ·unfold mayT setT
   rw [setK_mono 3 b hb]
   simpa using hb
theorem node_sm2 {a b : D} (ha : setK 6 a ≠ 0) (hb : setK 6 b ≠ 0) : smT (nodeD [a, b]) = true := inv_small (inv_node (may_inv 6 a ha) (may_inv 6 b hb)) (by omega)
theorem set6 {a : D} (h : mayT a = true) : setK 6 a ≠ 0 := by
 have h4 := may_set h
 have h5 : setK 5 a ≠ 0 := by rw [setK_mono 4 a h4]; exact h4
 rw [setK_mono 5 a h5]; exact h5
open Go.RowKit
theorem Rep.retype {P : Program} {w : World} {ok : Nat -> Prop} {t u : TypeId} (hu : P.underlying t = P.underlying u) (hc : P.cellsOf t = P.cellsOf u) : ∀ {n : Nat} {cs : List Value} {d : D}, Rep P w ok n t cs d -> Rep P w ok n u cs d
 | 0, _, _, h => h.elim
 | n + 1, cs, d, h => by
  unfold Rep at h ⊢
  rw [<- hu, <- hc]
  exact h
theorem RepV.retype {P : Program} {w : World} {ok : Nat -> Prop} {t u : TypeId} {v : Value} {d : D} (hu : P.underlying t = P.underlying u) (hc : P.cellsOf t = P.cellsOf u) (h : RepV P w ok t v d) : RepV P w ok u v d := by
 obtain ⟨⟨n, h1⟩, h2, h3⟩ := h
 have e : isAggB P u = isAggB P t := by unfold isAggB; rw [hu]
 exact ⟨⟨n, h1.retype hu hc⟩, by rw [e]; exact h2, by rw [e]; exact h3⟩
/-- Of a type that is the same underneath. -/
theorem CallOK.retype {P : Program} {f : FuncId} {t u : TypeId} {d : D} {r : AV} (hu : P.underlying t = P.underlying u) (hc : P.cellsOf t = P.cellsOf u) (h : CallOK P f [dat u d] r) : CallOK P f [dat t d] r := by
 refine ⟨h.fn, h.tag, fun w okA vs htb hok hargs => ?_⟩
 match vs, hargs with
 | [v], hargs => exact h.call w okA [v] htb hok ⟨⟨rfl, RepV.retype hu hc hargs.1.2⟩, trivial⟩
end
/-- How many Joins one has, and Joins whose first one is a Join. -/
def jn : Nat -> D -> Nat
 | 0, _ => 0
 | k + 1, d => match tkids d with
  | [a, b] => (match tkids a with | [_, _] => 2 | _ => 1) + jn k a + jn k b
  | _ => 0
theorem nextK_len : ∀ (k : Nat) (d : D), (nextK k d).length = jn k d
 | 0, _ => rfl
 | k + 1, d => by
  have ih := nextK_len k
  simp only [nextK, jn, turnX, moveX]
  generalize tkids d = l
  match l with
  | [] => rfl
  | [_] => rfl
  | _ :: _ :: _ :: _ => rfl
  | [a, b] =>
   simp only [List.length_append, List.length_map, ih]
   generalize tkids a = m
   match m with
   | [] => simp; omega
   | [_] => simp; omega
   | _ :: _ :: _ :: _ => simp; omega
   | [_, _] => simp; omega
theorem jn_le : ∀ (k : Nat) (d : D), jn k d + 2 <= 2 ^ (k + 1)
 | 0, _ => by simp [jn]
 | k + 1, d => by
  have hp : 2 ^ (k + 1 + 1) = 2 ^ (k + 1) + 2 ^ (k + 1) := by omega
  have h1 : 1 <= 2 ^ (k + 1) := Nat.one_le_two_pow
  unfold jn
  split
  ·rename_i a b h
   have ha := jn_le k a
   have hb := jn_le k b
   split <;> omega
  ·have h2 : 1 <= 2 ^ k := Nat.one_le_two_pow
   omega
end Go.Ev
