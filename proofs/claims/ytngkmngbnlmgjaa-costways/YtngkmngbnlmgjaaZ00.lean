/- Trees of functions, and lemmas. Nothing here is trusted. -/
namespace Go.Ev
set_option linter.unusedVariables false
set_option linter.unusedSimpArgs false
abbrev Key := Int × Int
def klt (a b : Key) : Bool := decide (a.1 < b.1) || (a.1 == b.1 && decide (a.2 < b.2))
theorem klt_iff {a b : Key} : klt a b = true ↔ a.1 < b.1 \/ (a.1 = b.1 /\ a.2 < b.2) := by simp [klt]
theorem klt_no {a b : Key} : klt a b = false ↔ b.1 < a.1 \/ (b.1 = a.1 /\ b.2 <= a.2) := by
 rw [<- Bool.not_eq_true, klt_iff]; omega
theorem klt_irrefl (a : Key) : klt a a = false := by rw [klt_no]; omega
theorem klt_trans {a b c : Key} (h : klt a b = true) (k : klt b c = true) : klt a c = true := by rw [klt_iff] at *; omega
theorem klt_asymm {a b : Key} (h : klt a b = true) : klt b a = false := by rw [klt_iff] at h; rw [klt_no]; omega
theorem nlt_trans {a b c : Key} (h : klt b a = false) (k : klt c b = false) : klt c a = false := by rw [klt_no] at *; omega
theorem lt_of_lt_nlt {a b c : Key} (h : klt a b = true) (k : klt c b = false) : klt a c = true := by rw [klt_no] at k; rw [klt_iff] at *; omega
theorem lt_of_nlt_lt {a b c : Key} (h : klt b a = false) (k : klt b c = true) : klt a c = true := by rw [klt_no] at h; rw [klt_iff] at *; omega
theorem key_eq {a b : Key} (h : klt a b = false) (k : klt b a = false) : a = b := by
 rw [klt_no] at *
 exact Prod.ext (by omega) (by omega)
theorem klt_ne {a b : Key} (h : klt a b = true) : a ≠ b := by rintro rfl; rw [klt_irrefl] at h; cases h

section
variable {α : Type} (key : α -> Key)

/-- None is less than one ahead of it. -/
def Srt (l : List α) : Prop := l.Pairwise fun x y => klt (key y) (key x) = false
/-- The same elements, those of one key in the same order. -/
def SEq (l m : List α) : Prop := ∀ k, l.filter (fun x => decide (key x = k)) = m.filter (fun x => decide (key x = k))

variable {key}
theorem SEq.refl (l : List α) : SEq key l l := fun _ => rfl
theorem SEq.symm {l m : List α} (h : SEq key l m) : SEq key m l := fun k => (h k).symm
theorem SEq.trans {l m n : List α} (h : SEq key l m) (g : SEq key m n) : SEq key l n := fun k => (h k).trans (g k)
theorem SEq.app {l m l' m' : List α} (h : SEq key l l') (g : SEq key m m') : SEq key (l ++ m) (l' ++ m') := fun k => by
 rw [List.filter_append, List.filter_append, h k, g k]
theorem SEq.mem {l m : List α} (h : SEq key l m) {x : α} (hx : x ∈ l) : x ∈ m := by
 have : x ∈ l.filter (fun y => decide (key y = key x)) := List.mem_filter.2 ⟨hx, by simp⟩
 rw [h (key x)] at this
 exact (List.mem_filter.1 this).1
theorem SEq.mem_iff {l m : List α} (h : SEq key l m) {x : α} : x ∈ l ↔ x ∈ m := ⟨h.mem, h.symm.mem⟩
/-- Two pieces without a common key may be swapped. -/
theorem SEq.swap {l m : List α} (h : ∀ x ∈ l, ∀ y ∈ m, key x ≠ key y) : SEq key (l ++ m) (m ++ l) := fun k => by
 rw [List.filter_append, List.filter_append]
 by_cases hl : l.filter (fun x => decide (key x = k)) = []
 ·rw [hl]; simp
 ·have hm : m.filter (fun x => decide (key x = k)) = [] := by
   rw [List.filter_eq_nil_iff]
   intro y hy hk
   obtain ⟨x, hx⟩ := List.exists_mem_of_ne_nil _ hl
   obtain ⟨hx1, hx2⟩ := List.mem_filter.1 hx
   exact h x hx1 y hy (by simp at hx2 hk; rw [hx2, hk])
  rw [hm]; simp

theorem srt_app {l m : List α} : Srt key (l ++ m) ↔ Srt key l /\ Srt key m /\ ∀ x ∈ l, ∀ y ∈ m, klt (key y) (key x) = false := List.pairwise_append
theorem srt_nil : Srt key ([] : List α) := List.Pairwise.nil
theorem srt_one (x : α) : Srt key [x] := List.pairwise_singleton _ x

/-- There is but one such order. -/
theorem srt_uniq : ∀ {l m : List α}, Srt key l -> Srt key m -> SEq key l m -> l = m
 | [], m, _, _, h => by
  cases m with
  | nil => rfl
  | cons y m => exact absurd (h.symm.mem (x := y) (by simp)) (by simp)
 | x :: l, [], _, _, h => absurd (h.mem (x := x) (by simp)) (by simp)
 | x :: l, y :: m, hl, hm, h => by
  have hx : x ∈ y :: m := h.mem (by simp)
  have hy : y ∈ x :: l := h.symm.mem (by simp)
  have h1 : klt (key x) (key y) = false := by
   rcases List.mem_cons.1 hx with rfl | hx
   ·exact klt_irrefl _
   ·exact (List.pairwise_cons.1 hm).1 x hx
  have h2 : klt (key y) (key x) = false := by
   rcases List.mem_cons.1 hy with rfl | hy
   ·exact klt_irrefl _
   ·exact (List.pairwise_cons.1 hl).1 y hy
  have hk := key_eq h1 h2
  have hh := h (key x)
  simp only [List.filter_cons, decide_true, if_true, hk.symm] at hh
  injection hh with h3 h4
  subst h3
  rw [srt_uniq (List.pairwise_cons.1 hl).2 (List.pairwise_cons.1 hm).2 (fun k => ?_)]
  have hh := h k
  simp only [List.filter_cons] at hh
  split at hh
  ·injection hh
  ·exact hh

/-- Sorting. -/
def insK (key : α -> Key) (x : α) : List α -> List α
 | [] => [x]
 | y :: l => if klt (key y) (key x) then y :: insK key x l else x :: y :: l
def sortK (key : α -> Key) : List α -> List α
 | [] => []
 | x :: l => insK key x (sortK key l)

theorem insK_seq (x : α) : ∀ l : List α, SEq key (insK key x l) (x :: l)
 | [] => SEq.refl _
 | y :: l => by
  unfold insK
  split
  ·rename_i h
   have h1 : SEq key (y :: insK key x l) (y :: x :: l) := SEq.app (l := [y]) (l' := [y]) (SEq.refl _) (insK_seq x l)
   refine h1.trans ?_
   have := SEq.app (SEq.swap (key := key) (l := [y]) (m := [x]) (by simpa using klt_ne h)) (SEq.refl l)
   simpa using this
  ·exact SEq.refl _
theorem sortK_seq : ∀ l : List α, SEq key (sortK key l) l
 | [] => SEq.refl _
 | x :: l => (insK_seq x _).trans (SEq.app (l := [x]) (l' := [x]) (SEq.refl _) (sortK_seq l))
theorem insK_srt (x : α) : ∀ {l : List α}, Srt key l -> Srt key (insK key x l)
 | [], _ => srt_one x
 | y :: l, h => by
  obtain ⟨h1, h2⟩ := List.pairwise_cons.1 h
  unfold insK
  split
  ·rename_i hlt
   refine List.pairwise_cons.2 ⟨fun z hz => ?_, insK_srt x h2⟩
   rcases List.mem_cons.1 ((insK_seq x l).mem hz) with rfl | hz
   ·exact klt_asymm hlt
   ·exact h1 z hz
  ·rename_i hlt
   have hlt : klt (key y) (key x) = false := by simpa using hlt
   refine List.pairwise_cons.2 ⟨fun z hz => ?_, h⟩
   rcases List.mem_cons.1 hz with rfl | hz
   ·exact hlt
   ·exact nlt_trans hlt (h1 z hz)
theorem sortK_srt : ∀ l : List α, Srt key (sortK key l)
 | [] => srt_nil
 | x :: l => insK_srt x (sortK_srt l)
theorem sortK_eq {l m : List α} (h : Srt key m) (g : SEq key m l) : m = sortK key l := srt_uniq h (sortK_srt l) (g.trans (sortK_seq l).symm)
theorem sortK_of_srt {l : List α} (h : Srt key l) : sortK key l = l := (sortK_eq h (SEq.refl l)).symm
theorem sortK_len (l : List α) : (sortK key l).length = l.length := by
 induction l with
 | nil => rfl
 | cons x l ih =>
  have : ∀ m : List α, (insK key x m).length = m.length + 1 := by
   intro m
   induction m with
   | nil => rfl
   | cons y m ih => unfold insK; split <;> simp [ih]
  simp [sortK, this, ih]
theorem mem_sortK {l : List α} {x : α} : x ∈ sortK key l ↔ x ∈ l := (sortK_seq l).mem_iff
theorem sortK_perm (l : List α) : (sortK key l).Perm l := by
 induction l with
 | nil => exact List.Perm.refl _
 | cons x l ih =>
  have : ∀ m : List α, (insK key x m).Perm (x :: m) := by
   intro m
   induction m with
   | nil => exact List.Perm.refl _
   | cons y m ih =>
    unfold insK
    split
    ·exact (List.Perm.cons y ih).trans (List.Perm.swap x y m)
    ·exact List.Perm.refl _
  exact (this _).trans (List.Perm.cons x ih)
theorem seq_perm_len {l m : List α} (h : SEq key l m) : l.length = m.length := by
 have := srt_uniq (sortK_srt l) (sortK_srt m) ((sortK_seq l).trans (h.trans (sortK_seq m).symm))
 rw [<- sortK_len (key := key) l, this, sortK_len]

/-- An element moved back past greater ones. -/
theorem move_back {S1 S2 : List α} {x : α} (h1 : Srt key (S1 ++ S2)) (h2 : ∀ y ∈ S2, klt (key x) (key y) = true) (h3 : ∀ y ∈ S1, klt (key x) (key y) = false) :
  Srt key (S1 ++ x :: S2) /\ SEq key (S1 ++ x :: S2) (S1 ++ S2 ++ [x]) := by
 obtain ⟨a, b, c⟩ := srt_app.1 h1
 refine ⟨srt_app.2 ⟨a, List.pairwise_cons.2 ⟨fun y hy => klt_asymm (h2 y hy), b⟩, fun u hu v hv => ?_⟩, ?_⟩
 ·rcases List.mem_cons.1 hv with rfl | hv
  ·exact h3 u hu
  ·exact c u hu v hv
 ·rw [List.append_assoc]
  exact SEq.app (SEq.refl S1) (SEq.swap (l := [x]) (m := S2) (fun u hu v hv => by
   obtain rfl : u = x := by simpa using hu
   exact klt_ne (h2 v hv)))
/-- An element moved on past lesser ones. -/
theorem move_on {S1 S2 : List α} {x : α} (h1 : Srt key (S1 ++ S2)) (h2 : ∀ y ∈ S1, klt (key y) (key x) = true) (h3 : ∀ y ∈ S2, klt (key y) (key x) = false) :
  Srt key (S1 ++ x :: S2) /\ SEq key (S1 ++ x :: S2) (x :: (S1 ++ S2)) := by
 obtain ⟨a, b, c⟩ := srt_app.1 h1
 refine ⟨srt_app.2 ⟨a, List.pairwise_cons.2 ⟨h3, b⟩, fun u hu v hv => ?_⟩, ?_⟩
 ·rcases List.mem_cons.1 hv with rfl | hv
  ·exact klt_asymm (h2 u hu)
  ·exact c u hu v hv
 ·have := SEq.app (SEq.swap (key := key) (l := S1) (m := [x]) (fun u hu v hv => by
   obtain rfl : v = x := by simpa using hv
   exact klt_ne (h2 u hu))) (SEq.refl S2)
  simpa using this
/-- Two halves of two runs. -/
theorem halves {X1 X2 Y1 Y2 Z1 Z2 : List α} (hX : Srt key (X1 ++ X2)) (hY : Srt key (Y1 ++ Y2)) (h1 : ∀ x ∈ X1, ∀ y ∈ Y2, klt (key y) (key x) = false) (h2 : ∀ y ∈ Y1, ∀ x ∈ X2, klt (key y) (key x) = true)
  (z1 : Srt key Z1) (e1 : SEq key Z1 (X1 ++ Y1)) (z2 : Srt key Z2) (e2 : SEq key Z2 (X2 ++ Y2)) : Srt key (Z1 ++ Z2) /\ SEq key (Z1 ++ Z2) (X1 ++ X2 ++ (Y1 ++ Y2)) := by
 obtain ⟨a1, a2, a3⟩ := srt_app.1 hX
 obtain ⟨b1, b2, b3⟩ := srt_app.1 hY
 refine ⟨srt_app.2 ⟨z1, z2, fun u hu v hv => ?_⟩, ?_⟩
 ·have hu := e1.mem hu
  have hv := e2.mem hv
  rw [List.mem_append] at hu hv
  rcases hu with hu | hu <;> rcases hv with hv | hv
  ·exact a3 u hu v hv
  ·exact h1 u hu v hv
  ·exact klt_asymm (h2 u hu v hv)
  ·exact b3 u hu v hv
 ·refine (SEq.app e1 e2).trans ?_
  have hs := SEq.swap (key := key) (l := Y1) (m := X2) (fun u hu v hv => klt_ne (h2 u hu v hv))
  have := SEq.app (SEq.app (SEq.refl X1) hs) (SEq.refl Y2)
  simpa [List.append_assoc] using this

end
end Go.Ev
