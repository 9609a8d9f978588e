/- An occurrence's rows, crossed with another one's, in plain data. Nothing here is trusted. -/
import Derived.Test.YtmopepjahjmdeaaVD
import Derived.Test.YtmopepjahjmdeaaVC
namespace Go.Ev
set_option linter.unusedVariables false
set_option linter.unusedSimpArgs false

theorem meet_seen {n : Nat} {a b : Int} (hn : 1 ≤ n ∧ n ≤ 4) (ha : 0 ≤ a ∧ a < 4) (hb : 0 ≤ b ∧ b < 4) : meetB (seenCols n a) (seenCols n b) = (a == b) := by
  have hn' : n = 1 ∨ n = 2 ∨ n = 3 ∨ n = 4 := by omega
  have ho : a = 0 ∨ a = 1 ∨ a = 2 ∨ a = 3 := by omega
  have hp : b = 0 ∨ b = 1 ∨ b = 2 ∨ b = 3 := by omega
  rcases hn' with rfl | rfl | rfl | rfl <;> rcases ho with rfl | rfl | rfl | rfl <;> rcases hp with rfl | rfl | rfl | rfl <;> decide
/-- What is told of a table as an occurrence. -/
structure OccOf (c d : D) (t a : Int) (T : D) (rows : List D) : Prop where
  bag : ofBag c d t a = seenBag T rows a
  may : mayDef T = true
  occ : 0 ≤ a ∧ a < 4
  fit : rows.all (fitsRow T) = true
  few : rows.length ≤ 8
  tab : 0 ≤ t ∧ t < ((tabs d).length : Int)
  row : elemsD ((tabs d).getD t.toNat .nil) = rows
theorem told {c d : D} {t a : Int} (h : ofOK c d t a = true) : OccOf c d t a ((tabs c).getD t.toNat .nil) (elemsD ((tabs d).getD t.toNat .nil)) := by
  have h' := h
  unfold ofOK at h'
  rw [Bool.and_eq_true, Bool.and_eq_true] at h'
  obtain ⟨h1, h2, h3⟩ := h'
  obtain ⟨f1, f2, f3⟩ := fits_iff.1 h1
  have a1 := below_iff.1 h2
  have hi : t.toNat < (tabs c).length := by omega
  have hft := f3 _ hi
  unfold fitsTab at hft
  rw [Bool.and_eq_true, decide_eq_true_eq] at hft
  refine ⟨?_, ?_, below_iff.1 h3, hft.2, by omega, by omega, rfl⟩
  · unfold ofBag
    rw [h]
    rfl
  · rw [l_get hi]
    exact (mayCat_iff.1 f1).2.2 _ (List.getElem_mem hi)
theorem told_may {c d : D} {t a : Int} {T : D} {rows : List D} (h : OccOf c d t a T rows) : mayBagB (seenBag T rows a) = true := by
  rw [seen_may h.may h.few h.occ, h.fit]
theorem told_cross {c d : D} {t a b : Int} {T : D} {rows : List D} (h : OccOf c d t a T rows) (k : OccOf c d t b T rows) : crossOK (seenBag T rows a) (seenBag T rows b) = !(a == b) := by
  obtain ⟨d1, d2, _, _⟩ := mayDef_iff.1 h.may
  unfold crossOK
  rw [told_may h, told_may k]
  have e1 : meetB (bCols (seenBag T rows a)) (bCols (seenBag T rows b)) = (a == b) := meet_seen (n := (defC T).toNat) ⟨by omega, by omega⟩ h.occ k.occ
  have e2 : decide ((bRows (seenBag T rows a)).length * (bRows (seenBag T rows b)).length ≤ 5000) = true := by
    rw [decide_eq_true_eq]
    show rows.length * rows.length ≤ 5000
    have := Nat.mul_le_mul h.few h.few
    omega
  rw [e1, e2]
  simp
end Go.Ev
