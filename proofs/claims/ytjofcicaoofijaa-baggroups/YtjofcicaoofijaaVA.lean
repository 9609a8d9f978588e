/- Templates of what is handed over. Nothing here is trusted. -/
import Derived.Test.YtjofcicaoofijaaEv12
namespace Go.Ev
set_option linter.unusedVariables false
set_option linter.unusedSimpArgs false

def litI (z : Int) : D := .lit (.int .i64 z)
def isNilD : D → Bool
  | .nil => true
  | _ => false
def avT (t x : AV) : Bool := x.tag == t.tag && x.ty == t.ty && x.id == t.id && x.ix == t.ix && x.off == t.off && x.tys == t.tys && (t.tag == 1 || isNilD x.d)
def entT (t x : Ent) : Bool := x.ty == t.ty && x.row == t.row && (match t.c, x.c with | none, none => true | some a, some b => avT a b && !(a.tag == 1) | _, _ => false) && (t.c.isNone || isNilD x.d)
def allA : List AV → List AV → Bool
  | [], [] => true
  | t :: ts, x :: xs => avT t x && allA ts xs
  | _, _ => false
def allE : List Ent → List Ent → Bool
  | [], [] => true
  | t :: ts, x :: xs => entT t x && allE ts xs
  | _, _ => false
def fillA : List AV → List D → List AV
  | t :: ts, d :: ds => (if t.tag == 1 then { t with d := d } else t) :: fillA ts ds
  | _, _ => []
def fillE : List Ent → List D → List Ent
  | t :: ts, d :: ds => (if t.c.isNone then { t with d := d } else t) :: fillE ts ds
  | _, _ => []

theorem isNilD_eq {d : D} (h : isNilD d = true) : d = .nil := by cases d <;> simp [isNilD] at h ⊢
theorem avT_eq {t x : AV} (h : avT t x = true) (hn : t.tag ≠ 1 → t.d = .nil) : x = (if t.tag == 1 then { t with d := x.d } else t) := by
  cases t with | mk tag ty d id ix off tys =>
  cases x with | mk tag' ty' d' id' ix' off' tys' =>
  simp only [avT, Bool.and_eq_true, beq_iff_eq, Bool.or_eq_true] at h
  obtain ⟨⟨⟨⟨⟨⟨h1, h2⟩, h3⟩, h4⟩, h5⟩, h6⟩, h7⟩ := h
  subst h1 h2 h3 h4 h5 h6
  by_cases ht : tag' = 1
  · simp [ht]
  · have hd : d' = .nil := by
      rcases h7 with h7 | h7
      · exact absurd h7 ht
      · exact isNilD_eq h7
    have hd2 : d = .nil := hn ht
    subst hd hd2
    simp [ht]
theorem entT_eq {t x : Ent} (h : entT t x = true) (hn : ∀ a, t.c = some a → a.d = .nil ∧ t.d = .nil) : x = (if t.c.isNone then { t with d := x.d } else t) := by
  cases t with | mk ty d row c =>
  cases x with | mk ty' d' row' c' =>
  simp only [entT, Bool.and_eq_true, beq_iff_eq, Bool.or_eq_true] at h
  obtain ⟨⟨⟨h1, h2⟩, h3⟩, h4⟩ := h
  subst h1 h2
  cases c with
  | none =>
    cases c' with
    | none => simp
    | some b => simp at h3
  | some a =>
    cases c' with
    | none => simp at h3
    | some b =>
      simp only [Bool.and_eq_true, Bool.not_eq_true', beq_eq_false_iff_ne] at h3
      have hb := avT_eq h3.1 (fun _ => (hn a rfl).1)
      have ha : ¬ (a.tag == 1) = true := by simpa using h3.2
      rw [if_neg ha] at hb
      have hd : d' = .nil := by
        rcases h4 with h4 | h4
        · simp at h4
        · exact isNilD_eq h4
      have hd2 : d = .nil := (hn a rfl).2
      subst hb hd hd2
      simp
theorem allA_eq : ∀ {ts xs : List AV}, allA ts xs = true → (∀ t ∈ ts, t.tag ≠ 1 → t.d = .nil) → xs = fillA ts (xs.map (·.d))
  | [], [], _, _ => rfl
  | t :: ts, x :: xs, h, hn => by
    simp only [allA, Bool.and_eq_true] at h
    simp only [List.map_cons, fillA]
    rw [← allA_eq h.2 (fun u hu => hn u (by simp [hu])), ← avT_eq h.1 (hn t (by simp))]
  | [], _ :: _, h, _ => by simp [allA] at h
  | _ :: _, [], h, _ => by simp [allA] at h
theorem allE_eq : ∀ {ts xs : List Ent}, allE ts xs = true → (∀ t ∈ ts, ∀ a, t.c = some a → a.d = .nil ∧ t.d = .nil) → xs = fillE ts (xs.map (·.d))
  | [], [], _, _ => rfl
  | t :: ts, x :: xs, h, hn => by
    simp only [allE, Bool.and_eq_true] at h
    simp only [List.map_cons, fillE]
    rw [← allE_eq h.2 (fun u hu => hn u (by simp [hu])), ← entT_eq h.1 (hn t (by simp))]
  | [], _ :: _, h, _ => by simp [allE] at h
  | _ :: _, [], h, _ => by simp [allE] at h

/-- A row that is where it was may count as another one. -/
def looseE (e : Option Ent) : Option Ent := e.map fun e => ⟨e.ty, e.d, if e.row == 3 then 2 else if e.row == 4 then 1 else e.row, e.c⟩
theorem HCallOK.loose {P : Program} {f : FuncId} {args : List AV} {h : List Ent} {r : AV} {h' : List (Option Ent)} (H : HCallOK P f args h r h') : HCallOK P f args h r (h'.map looseE) := by
  have hget : ∀ i, bxOf' (h'.map looseE) i = looseE (bxOf' h' i) := by
    intro i
    unfold bxOf'
    split
    · rfl
    · rw [List.getElem?_map]
      cases h'[i - OID]? <;> rfl
  have hin : ∀ i e, bxOf' (h'.map looseE) i = some e → ∃ e0, bxOf' h' i = some e0 ∧ e = ⟨e0.ty, e0.d, if e0.row == 3 then 2 else if e0.row == 4 then 1 else e0.row, e0.c⟩ := by
    intro i e he
    rw [hget] at he
    unfold looseE at he
    obtain ⟨e0, h0, rfl⟩ := Option.map_eq_some_iff.1 he
    exact ⟨e0, h0, rfl⟩
  have hlv : ∀ e0 : Ent, (⟨e0.ty, e0.d, if e0.row == 3 then 2 else if e0.row == 4 then 1 else e0.row, e0.c⟩ : Ent).live = e0.live := by
    intro e0
    unfold Ent.live
    by_cases h3 : e0.row = 3
    · simp [h3]
    · by_cases h4 : e0.row = 4
      · simp [h4]
      · simp [h3, h4]
  have hz : ∀ e0 : Ent, (if e0.row == 3 then 2 else if e0.row == 4 then 1 else e0.row) = 0 ↔ e0.row = 0 := by
    intro e0
    by_cases h3 : e0.row = 3
    · simp [h3]
    · by_cases h4 : e0.row = 4
      · simp [h4]
      · simp [h3, h4]
  have hal : ∀ (b : Nat × Nat) (e0 : Ent), Alike b e0 b ⟨e0.ty, e0.d, if e0.row == 3 then 2 else if e0.row == 4 then 1 else e0.row, e0.c⟩ := fun b e0 =>
    ⟨rfl, hz e0, fun _ => rfl, fun _ => ⟨by unfold hv; rw [hlv], rfl⟩⟩
  refine ⟨H.fn, fun w okA β vs hok hH hargs => (H.call w okA β vs hok hH hargs).mono ?_⟩
  rintro e w' ⟨v, ok', β', he, hbel, hokb, HH, hr, hl, hown, halike⟩
  have htr : ∀ x val, RepAV P w' ok' β' (bxOf' h') x val → RepAV P w' ok' β' (bxOf' (h'.map looseE)) x val := fun x val hx => hx.tr (fun _ _ => rfl) (fun _ h => h) (fun i _ f hf => by
    obtain ⟨e0, h0, rfl⟩ := hin i f hf
    exact ⟨e0, h0, hal _ _⟩)
  have hlive : ∀ x, LiveB (bxOf' h') x → LiveB (bxOf' (h'.map looseE)) x := by
    intro x hx j hj
    rw [hget]
    have := hx j hj
    unfold looseE
    simpa using this
  refine ⟨v, ok', β', he, hbel, hokb, ⟨?_, ?_, ?_, ?_, ?_, ?_, ?_, ?_⟩, htr _ _ hr, hlive _ hl, ?_, ?_⟩
  · intro i f hf hfl
    obtain ⟨e0, h0, rfl⟩ := hin i f hf
    exact HH.siz i e0 h0 (by rw [← hlv]; exact hfl)
  · intro b i f hb hf hfl
    obtain ⟨e0, h0, rfl⟩ := hin i f hf
    exact HH.sep b i e0 hb h0 (by rw [← hlv]; exact hfl)
  · intro i j f g hf hg hfl hgl
    obtain ⟨e0, h0, rfl⟩ := hin i f hf
    obtain ⟨e1, h1, rfl⟩ := hin j g hg
    exact HH.inj i j e0 e1 h0 h1 (by rw [← hlv]; exact hfl) (by rw [← hlv]; exact hgl)
  · intro i f hf h00 hc
    obtain ⟨e0, h0, rfl⟩ := hin i f hf
    exact HH.box i e0 h0 ((hz e0).1 h00) hc
  · intro i f x hf h00 hc
    obtain ⟨e0, h0, rfl⟩ := hin i f hf
    obtain ⟨g1, val, g2, g3, g4⟩ := HH.con i e0 x h0 ((hz e0).1 h00) hc
    exact ⟨g1, val, g2, g3, htr _ _ g4⟩
  · intro i f hf h00
    obtain ⟨e0, h0, rfl⟩ := hin i f hf
    exact (HH.row i e0 h0 (fun h => h00 ((hz e0).2 h))).like rfl rfl (hlv e0)
  · intro i f x hf hc
    obtain ⟨e0, h0, rfl⟩ := hin i f hf
    exact hlive _ (HH.nb i e0 x h0 hc)
  · intro i f hf h00
    obtain ⟨e0, h0, rfl⟩ := hin i f hf
    exact HH.rc i e0 h0 (fun h => h00 ((hz e0).2 h))
  · intro i f hf hfl
    obtain ⟨e0, h0, rfl⟩ := hin i f hf
    exact hown i e0 h0 (by rw [← hlv]; exact hfl)
  · intro i f hf hrow
    obtain ⟨e0, h0, rfl⟩ := hin i f hf
    have h00 : e0.row = 0 := by
      rcases hrow with h | h | h
      · exact (hz e0).1 h
      · simp only at h
        split at h
        · cases h
        · split at h
          · cases h
          · rename_i h3 _; simp [h] at h3
      · simp only at h
        split at h
        · cases h
        · split at h
          · cases h
          · rename_i _ h4; simp [h] at h4
    obtain ⟨e2, h2, hA⟩ := halike i e0 h0 (.inl h00)
    refine ⟨e2, h2, ?_⟩
    obtain ⟨a1, a2, a3, a4⟩ := hA
    exact ⟨a1, (hz e0).trans a2, a3, fun hr0 => absurd (a2.1 h00) hr0⟩

end Go.Ev
