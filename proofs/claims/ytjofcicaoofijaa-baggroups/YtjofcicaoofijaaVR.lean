/- Blocks of a list, each in order, and longer ones out of them. Nothing here is trusted. -/
import Derived.Test.YtjofcicaoofijaaVO
namespace Go.Ev
set_option linter.unusedVariables false
set_option linter.unusedSimpArgs false

theorem seg_take (c d : Nat) (l : List D) : seg c d l = (l.take d).drop c := by unfold seg; rw [List.drop_take]
theorem seg_drop {b c d : Nat} (h : b ≤ c) (l : List D) : seg c d l = seg (c - b) (d - b) (l.drop b) := by
  unfold seg
  rw [List.drop_drop]
  congr 1
  · omega
  · congr 1; omega
theorem len_ins {l : List D} {A B : Nat} (hA : A ≤ B) (hB : B ≤ l.length) : (insL l (A : Int) (B : Int)).length = l.length := by
  rw [insL_nat]
  simp only [List.length_append, sortK_len, seg_len l hA hB, List.length_take, List.length_drop]
  omega
theorem seg_ins_lt {l : List D} {A B c d : Nat} (hA : A ≤ B) (hB : B ≤ l.length) (h : d ≤ A) : seg c d (insL l (A : Int) (B : Int)) = seg c d l := by
  rw [seg_take, seg_take c d l, insL_nat, List.append_assoc, List.take_append_of_le_length (by simp; omega), List.take_take]
  congr 2
  omega
theorem seg_ins_gt {l : List D} {A B c d : Nat} (hA : A ≤ B) (hB : B ≤ l.length) (h : B ≤ c) : seg c d (insL l (A : Int) (B : Int)) = seg c d l := by
  rw [seg_drop h, seg_drop h l, insL_nat]
  have : (l.take A ++ sortK keyE (seg A B l) ++ l.drop B).drop B = l.drop B := drop_of (by rw [sortK_len, seg_len l hA hB]; simp; omega)
  rw [this]
theorem seg_ins_eq {l : List D} {A B : Nat} (hA : A ≤ B) (hB : B ≤ l.length) : seg A B (insL l (A : Int) (B : Int)) = sortK keyE (seg A B l) := by
  rw [insL_nat]
  exact seg_of (by simp; omega) (by rw [sortK_len, seg_len l hA hB]; simp; omega)
theorem seq_ins {l : List D} {A B : Nat} (hA : A ≤ B) (hB : B ≤ l.length) : SEq keyE (insL l (A : Int) (B : Int)) l := by
  rw [insL_nat]
  have := SEq.app (SEq.app (SEq.refl (key := keyE) (l.take A)) (sortK_seq (key := keyE) (seg A B l))) (SEq.refl (l.drop B))
  rw [← seg_split l hA hB] at this
  exact this
theorem seg_clip {l : List D} {c d : Nat} (h : l.length ≤ d) : seg c d l = l.drop c := by
  unfold seg
  exact List.take_of_length_le (by simp; omega)
theorem seg_out {l : List D} {c d : Nat} (h : l.length ≤ c) : seg c d l = [] := by
  unfold seg
  rw [List.drop_of_length_le h, List.take_nil]

def Blk (s : Nat) (l : List D) : Prop := ∀ k, Srt keyE (seg (k * s) ((k + 1) * s) l)
theorem blk_step {s j : Nat} {l : List D} (h : ∀ k, k < j → Srt keyE (seg (k * s) ((k + 1) * s) l)) (hb : (j + 1) * s ≤ l.length) :
    ∀ k, k < j + 1 → Srt keyE (seg (k * s) ((k + 1) * s) (insL l ((j * s : Nat) : Int) (((j + 1) * s : Nat) : Int))) := by
  intro k hk
  have hA : j * s ≤ (j + 1) * s := Nat.mul_le_mul_right s (by omega)
  by_cases he : k = j
  · subst he
    rw [seg_ins_eq hA hb]
    exact sortK_srt _
  · rw [seg_ins_lt hA hb (Nat.mul_le_mul_right s (by omega))]
    exact h k (by omega)
theorem blk_last {s j : Nat} {l : List D} (h : ∀ k, k < j → Srt keyE (seg (k * s) ((k + 1) * s) l)) (hj : j * s ≤ l.length) (hj' : l.length < (j + 1) * s) :
    Blk s (insL l ((j * s : Nat) : Int) (l.length : Int)) := by
  intro k
  have hlen := len_ins (l := l) hj (Nat.le_refl _)
  rcases Nat.lt_trichotomy k j with hk | hk | hk
  · rw [seg_ins_lt hj (Nat.le_refl _) (Nat.mul_le_mul_right s (by omega))]
    exact h k hk
  · subst hk
    rw [seg_clip (by omega), ← seg_clip (d := l.length) (by omega), seg_ins_eq hj (Nat.le_refl _)]
    exact sortK_srt _
  · have : (j + 1) * s ≤ k * s := Nat.mul_le_mul_right s (by omega)
    rw [seg_out (by omega)]
    exact srt_nil
theorem dbl_step {s j : Nat} {l : List D} (h : ∀ k, 2 * j ≤ k → Srt keyE (seg (k * s) ((k + 1) * s) l)) (hb : (j + 1) * (2 * s) ≤ l.length) :
    ∀ k, 2 * (j + 1) ≤ k → Srt keyE (seg (k * s) ((k + 1) * s) (insL l ((j * (2 * s) : Nat) : Int) (((j + 1) * (2 * s) : Nat) : Int))) := by
  intro k hk
  have hA : j * (2 * s) ≤ (j + 1) * (2 * s) := Nat.mul_le_mul_right _ (by omega)
  have : (j + 1) * (2 * s) = (2 * (j + 1)) * s := by rw [Nat.mul_comm 2 s, ← Nat.mul_assoc, Nat.mul_right_comm, Nat.mul_comm 2]
  rw [seg_ins_gt hA hb (by rw [this]; exact Nat.mul_le_mul_right s hk)]
  exact h k (by omega)
theorem dbl_eq (j s : Nat) : j * (2 * s) = (2 * j) * s := by rw [Nat.mul_comm 2 s, ← Nat.mul_assoc, Nat.mul_right_comm, Nat.mul_comm 2]
theorem dbl_none {s j : Nat} {l : List D} (h1 : ∀ k, k < j → Srt keyE (seg (k * (2 * s)) ((k + 1) * (2 * s)) l)) (h2 : ∀ k, 2 * j ≤ k → Srt keyE (seg (k * s) ((k + 1) * s) l)) (hj : l.length ≤ j * (2 * s) + s) : Blk (2 * s) l := by
  intro k
  rcases Nat.lt_trichotomy k j with hk | hk | hk
  · exact h1 k hk
  · subst hk
    have e1 : (k + 1) * (2 * s) = k * (2 * s) + 2 * s := Nat.succ_mul _ _
    have e2 : (2 * k + 1) * s = 2 * k * s + s := Nat.succ_mul _ _
    have h3 := h2 (2 * k) (Nat.le_refl _)
    rw [seg_clip (by rw [e2, ← dbl_eq]; exact hj)] at h3
    rw [seg_clip (by omega), dbl_eq]
    exact h3
  · have e1 : (j + 1) * (2 * s) = j * (2 * s) + 2 * s := Nat.succ_mul _ _
    have : (j + 1) * (2 * s) ≤ k * (2 * s) := Nat.mul_le_mul_right _ (by omega)
    rw [seg_out (by omega)]
    exact srt_nil
theorem blk_done {s : Nat} {l es : List D} (h : Blk s l) (hs : l.length ≤ s) (hq : SEq keyE l es) : l = sortK keyE es := by
  refine sortK_eq ?_ hq
  have := h 0
  rw [seg_clip (by omega), Nat.zero_mul, List.drop_zero] at this
  exact this
theorem symOK_seg {K : Nat} {l : List D} {A M B : Nat} (h1 : A < M) (h2 : M < B) (h3 : B ≤ l.length) (h4 : l.length ≤ 2147483648) (h5 : B - A < K) (h6 : Srt keyE (seg A M l)) (h7 : Srt keyE (seg M B l)) : symOK K l (A : Int) (M : Int) (B : Int) = true := by
  unfold symOK
  simp only [Int.toNat_natCast, srtB_iff.2 h6, srtB_iff.2 h7, Bool.and_true, Bool.and_eq_true, decide_eq_true_eq]
  refine ⟨⟨⟨⟨⟨?_, ?_⟩, ?_⟩, ?_⟩, ?_⟩, ?_⟩ <;> omega
theorem insOK_nat {l : List D} {A B : Nat} (h1 : A ≤ B) (h3 : B ≤ l.length) (h4 : l.length ≤ 2147483648) : insOK l (A : Int) (B : Int) = true := by
  simp only [insOK, Bool.and_eq_true, decide_eq_true_eq]
  refine ⟨⟨⟨?_, ?_⟩, ?_⟩, ?_⟩ <;> omega

/-- Sorted with what it is sorted by, and without. -/
theorem insK_map {α β : Type} (key : β → Key) (f : α → β) (x : α) : ∀ l : List α, insK key (f x) (l.map f) = (insK (fun a => key (f a)) x l).map f
  | [] => rfl
  | y :: l => by
    have ih := insK_map key f x l
    simp only [insK, List.map_cons]
    split <;> simp_all
theorem sortK_map {α β : Type} (key : β → Key) (f : α → β) : ∀ l : List α, sortK key (l.map f) = (sortK (fun a => key (f a)) l).map f
  | [] => rfl
  | x :: l => by
    have ih := sortK_map key f l
    simp only [sortK, List.map_cons]
    rw [ih, insK_map]
end Go.Ev
