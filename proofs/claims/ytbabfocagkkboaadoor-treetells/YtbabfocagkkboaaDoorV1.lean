/- What the functions of layer 1 answer, in plain data. Nothing here is trusted. -/
import Derived.Test.YtbabfocagkkboaaDoorEv12
import Derived.KernelRfl
import Derived.Lib.Slices
namespace Go.Ev

def kk (x : D) : Int := intD (fieldD x 0)
def nn (x : D) : Int := intD (fieldD x 1)
def vv (k n : Int) : D := .agg [.lit (.int .i64 k), .lit (.int .i64 n)]
def mayB (x : D) : Bool := kk x == 0 || ((kk x == 1 || kk x == 2) && nn x == 0)
def readD (x : D) : D := bif mayB x then x else vv 2 0
def isErr (x : D) : Bool := kk (readD x) == 2
def isNul (x : D) : Bool := kk (readD x) == 1
def isNum (x : D) : Bool := kk x == 0
def isFal (x : D) : Bool := kk x == 0 && nn x == 0
def isTru (x : D) : Bool := kk x == 0 && nn x != 0
def truthI (b : Bool) : Int := bif b then 1 else 0
def lessB (x y : D) : Bool := decide (kk (readD x) < kk (readD y)) || (kk (readD x) == kk (readD y) && decide (nn (readD x) < nn (readD y)))
def ifNum (n : Int) (l : List D) : D := bif l.any isErr then vv 2 0 else bif l.any isNul then vv 1 0 else vv 0 n
def oddB (l : List D) : Bool := l.any isErr || l.any isNul
def oddD (l : List D) : D := bif l.any isErr then vv 2 0 else vv 1 0
def inR (n : Int) : Bool := decide (-9223372036854775808 ≤ n) && decide (n ≤ 9223372036854775807)
def addOK (a b : Int) : Bool := inR (a + b)
def subOK (a b : Int) : Bool := inR (a - b)
def mulOK (a b : Int) : Bool := inR (a * b)
def divOK (a b : Int) : Bool := !(b == 0) && inR (Int.tdiv a b)
def divV (a b : Int) : Int := bif divOK a b then Int.tdiv a b else 0
def reck (fits : Bool) (v : Int) (x y : D) : D := bif [x, y].any isErr then vv 2 0 else bif [x, y].any isNul then vv 1 0 else bif fits then vv 0 v else vv 2 0
def addD (x y : D) : D := reck (addOK (nn x) (nn y)) (nn x + nn y) x y
def subD (x y : D) : D := reck (subOK (nn x) (nn y)) (nn x - nn y) x y
def mulD (x y : D) : D := reck (mulOK (nn x) (nn y)) (nn x * nn y) x y
def divD (x y : D) : D := reck (divOK (nn x) (nn y)) (divV (nn x) (nn y)) x y
def eqV (x y : D) : D := ifNum (truthI (nn x == nn y)) [x, y]
def ltV (x y : D) : D := ifNum (truthI (decide (nn x < nn y))) [x, y]
def andD (l : List D) : D := bif l.any isFal then vv 0 0 else ifNum 1 l
def orD (l : List D) : D := bif l.any isTru then vv 0 1 else ifNum 0 l
def notD (x : D) : D := ifNum (truthI (isFal x)) [x]
def total (l : List D) : Int := (l.map nn).sum
def sumD (l : List D) : D := bif l.any isErr then vv 2 0 else bif !(l.any isNum) then vv 1 0 else bif inR (total l) then vv 0 (total l) else vv 2 0


/-! ### Plain arithmetic -/
theorem wrap64_eq (n : Int) : IntKind.wrap .i64 n = (n + 9223372036854775808) % 18446744073709551616 - 9223372036854775808 := by
  simp only [IntKind.wrap, IntKind.bits, IntKind.signed]
  have : (2 : Int) ^ 64 = 18446744073709551616 := by decide
  have h2 : (2 : Int) ^ (64 - 1) = 9223372036854775808 := by decide
  simp only [this, h2, Bool.true_and, decide_eq_true_eq]
  split <;> omega

theorem inR_iff {n : Int} : inR n = true ↔ -9223372036854775808 ≤ n ∧ n ≤ 9223372036854775807 := by simp [inR]
theorem inR_not {n : Int} : inR n = false ↔ (n < -9223372036854775808 ∨ 9223372036854775807 < n) := by
  have := @inR_iff n
  cases h : inR n <;> simp [h] at this ⊢ <;> omega

theorem wrap_in {n : Int} (h : inR n = true) : IntKind.wrap .i64 n = n := by rw [wrap64_eq]; rw [inR_iff] at h; omega
theorem wrap_inR (n : Int) : inR (IntKind.wrap .i64 n) = true := by rw [inR_iff, wrap64_eq]; omega

theorem wf_inR {n : Int} (h : (Lit.int .i64 n).wf = true) : inR n = true := by
  simp [Lit.wf, IntKind.min, IntKind.max, IntKind.signed, IntKind.bits] at h
  rw [inR_iff]; omega

theorem plus_fits {a b : Int} (ha : inR a = true) (hb : inR b = true) : (decide (IntKind.wrap .i64 (a + b) < a) == decide (b < 0)) = inR (a + b) := by
  rw [inR_iff] at ha hb
  rw [wrap64_eq]
  cases h : inR (a + b)
  · rw [inR_not] at h
    rw [beq_eq_false_iff_ne, ne_eq, decide_eq_decide]
    omega
  · rw [inR_iff] at h
    rw [beq_iff_eq, decide_eq_decide]
    omega

theorem minus_fits {a b : Int} (ha : inR a = true) (hb : inR b = true) : (decide (IntKind.wrap .i64 (a - b) > a) == decide (b < 0)) = inR (a - b) := by
  rw [inR_iff] at ha hb
  rw [wrap64_eq]
  cases h : inR (a - b)
  · rw [inR_not] at h
    rw [beq_eq_false_iff_ne, ne_eq, decide_eq_decide]
    omega
  · rw [inR_iff] at h
    rw [beq_iff_eq, decide_eq_decide]
    omega

/-- A quotient whose product is near: only the true one is. -/
theorem quot_fits {a b : Int} (ha : inR a = true) (_hb : inR b = true) (h0 : a ≠ 0) (h1 : a ≠ -1) :
    (IntKind.wrap .i64 (Int.tdiv (IntKind.wrap .i64 (a * b)) a) == b) = inR (a * b) := by
  rw [inR_iff] at ha
  have hw := wrap_inR (a * b)
  rw [inR_iff] at hw
  have hk : ∃ k : Int, a * b = IntKind.wrap .i64 (a * b) + k * 18446744073709551616 := by
    refine ⟨(a * b + 9223372036854775808) / 18446744073709551616, ?_⟩
    rw [wrap64_eq]
    omega
  obtain ⟨k, hk⟩ := hk
  generalize hn : IntKind.wrap .i64 (a * b) = n at *
  have hr := Int.mul_tdiv_add_tmod n a
  have hrm : (n.tmod a).natAbs < a.natAbs := by
    rw [Int.natAbs_tmod]
    exact Nat.mod_lt _ (by omega)
  have hqa : (n.tdiv a).natAbs ≤ n.natAbs := by rw [Int.natAbs_tdiv]; exact Nat.div_le_self _ _
  have hq : inR (n.tdiv a) = true := by
    rw [inR_iff]
    by_cases hq0 : n.tdiv a = 9223372036854775808
    · exfalso
      rw [hq0] at hr
      have : n = -9223372036854775808 := by omega
      subst this
      have : a * 9223372036854775808 = -9223372036854775808 - (-9223372036854775808 : Int).tmod a := by omega
      have ha1 : a = -1 := by omega
      exact h1 ha1
    · omega
  rw [wrap_in hq]
  cases h : inR (a * b)
  · rw [inR_not] at h
    rw [beq_eq_false_iff_ne]
    intro he
    rw [he] at hr
    rw [hk] at hr
    have hk0 : k ≠ 0 := by
      intro hk0
      subst hk0
      omega
    omega
  · have hin := h
    rw [inR_iff] at h
    have : n = a * b := by rw [← hn]; exact wrap_in hin
    rw [beq_iff_eq, this]
    exact Int.mul_tdiv_cancel_left b h0

theorem tdiv_fits {a b : Int} (ha : inR a = true) (hb : b ≠ 0) : inR (Int.tdiv a b) = !(a == -9223372036854775808 && b == -1) := by
  rw [inR_iff] at ha
  have hqa : (a.tdiv b).natAbs = a.natAbs / b.natAbs := Int.natAbs_tdiv a b
  by_cases h1 : b = -1
  · subst h1
    have : a.tdiv (-1) = -a := by rw [Int.tdiv_neg, Int.tdiv_one]
    rw [this]
    cases h : inR (-a)
    · rw [inR_not] at h
      have : a = -9223372036854775808 := by omega
      subst this
      decide
    · rw [inR_iff] at h
      have : a ≠ -9223372036854775808 := by omega
      simp [this]
  · have hle : a.natAbs / b.natAbs ≤ a.natAbs := Nat.div_le_self _ _
    have : (b == -1) = false := by simpa using h1
    rw [this, Bool.and_false, Bool.not_false, inR_iff]
    by_cases h2 : b = 1
    · subst h2; rw [Int.tdiv_one]; exact ha
    · have hb2 : 2 ≤ b.natAbs := by omega
      have : a.natAbs / b.natAbs ≤ a.natAbs / 2 := Nat.div_le_div_left hb2 (by omega)
      omega

end Go.Ev

namespace Go.Ev
set_option linter.unusedVariables false
set_option linter.unusedSimpArgs false

def litI (z : Int) : D := .lit (.int .i64 z)
def isNilD : D → Bool
  | .nil => true
  | _ => false
def avT (t x : AV) : Bool := x.tag == t.tag && x.ty == t.ty && x.id == t.id && x.ix == t.ix && x.off == t.off && x.tys == t.tys && (t.tag == 1 || isNilD x.d)
def entT (t x : Ent) : Bool := x.ty == t.ty && x.row == t.row && (match t.c, x.c with | none, none => true | some a, some b => avT a b && !(a.tag == 1) | _, _ => false) && (t.c.isNone || isNilD x.d)
def allA : List AV → List AV → Bool
  | [], [] => true
  | t :: ts, x :: xs => avT t x && allA ts xs
  | _, _ => false
def allE : List Ent → List Ent → Bool
  | [], [] => true
  | t :: ts, x :: xs => entT t x && allE ts xs
  | _, _ => false
def fillA : List AV → List D → List AV
  | t :: ts, d :: ds => (if t.tag == 1 then { t with d := d } else t) :: fillA ts ds
  | _, _ => []
def fillE : List Ent → List D → List Ent
  | t :: ts, d :: ds => (if t.c.isNone then { t with d := d } else t) :: fillE ts ds
  | _, _ => []

theorem isNilD_eq {d : D} (h : isNilD d = true) : d = .nil := by cases d <;> simp [isNilD] at h ⊢
theorem avT_eq {t x : AV} (h : avT t x = true) (hn : t.tag ≠ 1 → t.d = .nil) : x = (if t.tag == 1 then { t with d := x.d } else t) := by
  cases t with | mk tag ty d id ix off tys =>
  cases x with | mk tag' ty' d' id' ix' off' tys' =>
  simp only [avT, Bool.and_eq_true, beq_iff_eq, Bool.or_eq_true] at h
  obtain ⟨⟨⟨⟨⟨⟨h1, h2⟩, h3⟩, h4⟩, h5⟩, h6⟩, h7⟩ := h
  subst h1 h2 h3 h4 h5 h6
  by_cases ht : tag' = 1
  · simp [ht]
  · have hd : d' = .nil := by
      rcases h7 with h7 | h7
      · exact absurd h7 ht
      · exact isNilD_eq h7
    have hd2 : d = .nil := hn ht
    subst hd hd2
    simp [ht]
theorem entT_eq {t x : Ent} (h : entT t x = true) (hn : ∀ a, t.c = some a → a.d = .nil ∧ t.d = .nil) : x = (if t.c.isNone then { t with d := x.d } else t) := by
  cases t with | mk ty d row c =>
  cases x with | mk ty' d' row' c' =>
  simp only [entT, Bool.and_eq_true, beq_iff_eq, Bool.or_eq_true] at h
  obtain ⟨⟨⟨h1, h2⟩, h3⟩, h4⟩ := h
  subst h1 h2
  cases c with
  | none =>
    cases c' with
    | none => simp
    | some b => simp at h3
  | some a =>
    cases c' with
    | none => simp at h3
    | some b =>
      simp only [Bool.and_eq_true, Bool.not_eq_true', beq_eq_false_iff_ne] at h3
      have hb := avT_eq h3.1 (fun _ => (hn a rfl).1)
      have ha : ¬ (a.tag == 1) = true := by simpa using h3.2
      rw [if_neg ha] at hb
      have hd : d' = .nil := by
        rcases h4 with h4 | h4
        · simp at h4
        · exact isNilD_eq h4
      have hd2 : d = .nil := (hn a rfl).2
      subst hb hd hd2
      simp
theorem allA_eq : ∀ {ts xs : List AV}, allA ts xs = true → (∀ t ∈ ts, t.tag ≠ 1 → t.d = .nil) → xs = fillA ts (xs.map (·.d))
  | [], [], _, _ => rfl
  | t :: ts, x :: xs, h, hn => by
    simp only [allA, Bool.and_eq_true] at h
    simp only [List.map_cons, fillA]
    rw [← allA_eq h.2 (fun u hu => hn u (by simp [hu])), ← avT_eq h.1 (hn t (by simp))]
  | [], _ :: _, h, _ => by simp [allA] at h
  | _ :: _, [], h, _ => by simp [allA] at h
theorem allE_eq : ∀ {ts xs : List Ent}, allE ts xs = true → (∀ t ∈ ts, ∀ a, t.c = some a → a.d = .nil ∧ t.d = .nil) → xs = fillE ts (xs.map (·.d))
  | [], [], _, _ => rfl
  | t :: ts, x :: xs, h, hn => by
    simp only [allE, Bool.and_eq_true] at h
    simp only [List.map_cons, fillE]
    rw [← allE_eq h.2 (fun u hu => hn u (by simp [hu])), ← entT_eq h.1 (hn t (by simp))]
  | [], _ :: _, h, _ => by simp [allE] at h
  | _ :: _, [], h, _ => by simp [allE] at h

/-- A row that is where it was may count as another one. -/
def looseE (e : Option Ent) : Option Ent := e.map fun e => ⟨e.ty, e.d, if e.row == 3 then 2 else if e.row == 4 then 1 else e.row, e.c⟩
theorem HCallOK.loose {P : Program} {f : FuncId} {args : List AV} {h : List Ent} {r : AV} {h' : List (Option Ent)} (H : HCallOK P f args h r h') : HCallOK P f args h r (h'.map looseE) := by
  have hget : ∀ i, bxOf' (h'.map looseE) i = looseE (bxOf' h' i) := by
    intro i
    unfold bxOf'
    split
    · rfl
    · rw [List.getElem?_map]
      cases h'[i - OID]? <;> rfl
  have hin : ∀ i e, bxOf' (h'.map looseE) i = some e → ∃ e0, bxOf' h' i = some e0 ∧ e = ⟨e0.ty, e0.d, if e0.row == 3 then 2 else if e0.row == 4 then 1 else e0.row, e0.c⟩ := by
    intro i e he
    rw [hget] at he
    unfold looseE at he
    obtain ⟨e0, h0, rfl⟩ := Option.map_eq_some_iff.1 he
    exact ⟨e0, h0, rfl⟩
  have hlv : ∀ e0 : Ent, (⟨e0.ty, e0.d, if e0.row == 3 then 2 else if e0.row == 4 then 1 else e0.row, e0.c⟩ : Ent).live = e0.live := by
    intro e0
    unfold Ent.live
    by_cases h3 : e0.row = 3
    · simp [h3]
    · by_cases h4 : e0.row = 4
      · simp [h4]
      · simp [h3, h4]
  have hz : ∀ e0 : Ent, (if e0.row == 3 then 2 else if e0.row == 4 then 1 else e0.row) = 0 ↔ e0.row = 0 := by
    intro e0
    by_cases h3 : e0.row = 3
    · simp [h3]
    · by_cases h4 : e0.row = 4
      · simp [h4]
      · simp [h3, h4]
  have hal : ∀ (b : Nat × Nat) (e0 : Ent), Alike b e0 b ⟨e0.ty, e0.d, if e0.row == 3 then 2 else if e0.row == 4 then 1 else e0.row, e0.c⟩ := fun b e0 =>
    ⟨rfl, hz e0, fun _ => rfl, fun _ => ⟨by unfold hv; rw [hlv], rfl⟩⟩
  refine ⟨H.fn, fun w okA β vs htb hok hH hargs => (H.call w okA β vs htb hok hH hargs).mono ?_⟩
  rintro e w' ⟨v, ok', β', he, hbel, hokb, HH, hr, hl, hown, halike⟩
  have htr : ∀ x val, RepAV P w' ok' β' (bxOf' h') x val → RepAV P w' ok' β' (bxOf' (h'.map looseE)) x val := fun x val hx => hx.tr (fun _ _ => rfl) (fun _ h => h) (fun i _ f hf => by
    obtain ⟨e0, h0, rfl⟩ := hin i f hf
    exact ⟨e0, h0, hal _ _⟩)
  have hlive : ∀ x, LiveB (bxOf' h') x → LiveB (bxOf' (h'.map looseE)) x := by
    intro x hx j hj
    rw [hget]
    have := hx j hj
    unfold looseE
    simpa using this
  refine ⟨v, ok', β', he, hbel, hokb, ⟨?_, ?_, ?_, ?_, ?_, ?_, ?_, ?_⟩, htr _ _ hr, hlive _ hl, ?_, ?_⟩
  · intro i f hf hfl
    obtain ⟨e0, h0, rfl⟩ := hin i f hf
    exact HH.siz i e0 h0 (by rw [← hlv]; exact hfl)
  · intro b i f hb hf hfl
    obtain ⟨e0, h0, rfl⟩ := hin i f hf
    exact HH.sep b i e0 hb h0 (by rw [← hlv]; exact hfl)
  · intro i j f g hf hg hfl hgl
    obtain ⟨e0, h0, rfl⟩ := hin i f hf
    obtain ⟨e1, h1, rfl⟩ := hin j g hg
    exact HH.inj i j e0 e1 h0 h1 (by rw [← hlv]; exact hfl) (by rw [← hlv]; exact hgl)
  · intro i f hf h00 hc
    obtain ⟨e0, h0, rfl⟩ := hin i f hf
    exact HH.box i e0 h0 ((hz e0).1 h00) hc
  · intro i f x hf h00 hc
    obtain ⟨e0, h0, rfl⟩ := hin i f hf
    obtain ⟨g1, val, g2, g3, g4⟩ := HH.con i e0 x h0 ((hz e0).1 h00) hc
    exact ⟨g1, val, g2, g3, htr _ _ g4⟩
  · intro i f hf h00
    obtain ⟨e0, h0, rfl⟩ := hin i f hf
    exact (HH.row i e0 h0 (fun h => h00 ((hz e0).2 h))).like rfl rfl (hlv e0)
  · intro i f x hf hc
    obtain ⟨e0, h0, rfl⟩ := hin i f hf
    exact hlive _ (HH.nb i e0 x h0 hc)
  · intro i f hf h00
    obtain ⟨e0, h0, rfl⟩ := hin i f hf
    exact HH.rc i e0 h0 (fun h => h00 ((hz e0).2 h))
  · intro i f hf hfl
    obtain ⟨e0, h0, rfl⟩ := hin i f hf
    exact hown i e0 h0 (by rw [← hlv]; exact hfl)
  · intro i f hf hrow
    obtain ⟨e0, h0, rfl⟩ := hin i f hf
    have h00 : e0.row = 0 := by
      rcases hrow with h | h | h
      · exact (hz e0).1 h
      · simp only at h
        split at h
        · cases h
        · split at h
          · cases h
          · rename_i h3 _; simp [h] at h3
      · simp only at h
        split at h
        · cases h
        · split at h
          · cases h
          · rename_i _ h4; simp [h] at h4
    obtain ⟨e2, h2, hA⟩ := halike i e0 h0 (.inl h00)
    refine ⟨e2, h2, ?_⟩
    obtain ⟨a1, a2, a3, a4⟩ := hA
    exact ⟨a1, (hz e0).trans a2, a3, fun hr0 => absurd (a2.1 h00) hr0⟩

end Go.Ev

namespace Go.Ev
set_option linter.unusedVariables false
set_option linter.unusedSimpArgs false

abbrev HRes := Option (AV × List (Option Ent))
def entH (ta : List AV) (th : List Ent) (G : List D → List D → HRes) (args : List AV) (h : List Ent) : HRes := bif allA ta args && allE th h then G (args.map (·.d)) (h.map (·.d)) else none
def preH (ta : List AV) (th : List Ent) (q : List D → List D → Bool) (args : List AV) (h : List Ent) : Bool := allA ta args && allE th h && q (args.map (·.d)) (h.map (·.d))
def tmplA (ta : List AV) : Bool := ta.all fun t => t.tag == 1 || isNilD t.d
def tmplE (th : List Ent) : Bool := th.all fun t => match t.c with | some a => isNilD a.d && isNilD t.d | none => true

theorem entH_ok {P : Program} {f : FuncId} {ta : List AV} {th : List Ent} {q : List D → List D → Bool} {G : List D → List D → HRes} (h1 : tmplA ta = true) (h2 : tmplE th = true)
    (h : ∀ ds es r h', q ds es = true → G ds es = some (r, h') → HCallOK P f (fillA ta ds) (fillE th es) r h') :
    ∀ args hh r h', preH ta th q args hh = true → entH ta th G args hh = some (r, h') → HCallOK P f args hh r h' := by
  intro args hh r h' hp hd
  unfold preH at hp
  unfold entH at hd
  rw [Bool.and_eq_true] at hp
  rw [hp.1, cond_true] at hd
  rw [Bool.and_eq_true] at hp
  have ea := allA_eq hp.1.1 (fun t ht hn => by
    unfold tmplA at h1
    rw [List.all_eq_true] at h1
    have := h1 t ht
    rw [Bool.or_eq_true] at this
    rcases this with h | h
    · exact absurd (by simpa using h) hn
    · exact isNilD_eq h)
  have ee := allE_eq hp.1.2 (fun t ht a ha => by
    unfold tmplE at h2
    rw [List.all_eq_true] at h2
    have := h2 t ht
    rw [ha] at this
    simp only [Bool.and_eq_true] at this
    exact ⟨isNilD_eq this.1, isNilD_eq this.2⟩)
  rw [ea, ee]
  exact h _ _ r h' hp.2 hd

/-- A contract may lean on the types of what is handed over. -/
theorem HCallOK.typed {P : Program} {f : FuncId} {args : List AV} {h : List Ent} {r : AV} {h' : List (Option Ent)} (hfn : ∃ fn c, P.funcs[f]? = some fn ∧ fn.body = some c ∧ (fn.name == "runtime.NumGoroutine") = false)
    (H : (∀ x ∈ args, x.tag = 1 → ∃ n, Ty P n x.ty x.d) → (∀ e ∈ h, e.row = 0 → e.c = none → ∃ n, Ty P n e.ty e.d) → HCallOK P f args h r h') : HCallOK P f args h r h' := by
  refine ⟨hfn, fun w okA β vs htb hok hH hargs => ?_⟩
  refine (H ?_ ?_).call w okA β vs htb hok hH hargs
  · have key : ∀ (xs : List AV) (vs : List Value), ArgsRepH P w okA β (bxOf h) xs vs → ∀ x ∈ xs, x.tag = 1 → ∃ n, Ty P n x.ty x.d := by
      intro xs
      induction xs with
      | nil => intro vs _ x hx; cases hx
      | cons y xs ih =>
        intro vs hv x hx ht
        cases vs with
        | nil => exact hv.elim
        | cons v vs =>
          rcases List.mem_cons.1 hx with rfl | hx
          · obtain ⟨⟨n, hn⟩, _⟩ := hv.1.2.1.d1 ht
            exact ⟨n, hn.ty⟩
          · exact ih vs hv.2 x hx ht
    exact key args vs hargs
  · intro e he h0 hc
    obtain ⟨k, hk⟩ := List.getElem?_of_mem he
    have hb : bxOf h (OID + k) = some e := by
      unfold bxOf
      rw [if_neg (by omega), Nat.add_sub_cancel_left]
      exact hk
    obtain ⟨cs, _, n, hn⟩ := hH.box _ e hb h0 hc
    exact ⟨n, hn.ty⟩

/-- .. and on what is in rows. -/
theorem HCallOK.typedR {P : Program} {f : FuncId} {args : List AV} {h : List Ent} {r : AV} {h' : List (Option Ent)} (hfn : ∃ fn c, P.funcs[f]? = some fn ∧ fn.body = some c ∧ (fn.name == "runtime.NumGoroutine") = false)
    (H : (∀ x ∈ args, x.tag = 1 → ∃ n, Ty P n x.ty x.d) → (∀ e ∈ h, e.row = 0 → e.c = none → ∃ n, Ty P n e.ty e.d) →
      (∀ e ∈ h, e.row ≠ 0 → ∃ el es, P.underlying e.ty = some (.slice el) ∧ e.d = .slice es [] ∧ es.length ≤ maxLen ∧ ∀ y ∈ es, ∃ n, Ty P n el y) → HCallOK P f args h r h') : HCallOK P f args h r h' := by
  refine HCallOK.typed hfn fun h1 h2 => ⟨hfn, fun w okA β vs htb hok hH hargs => ?_⟩
  refine (H h1 h2 ?_).call w okA β vs htb hok hH hargs
  intro e he h0
  obtain ⟨k, hk⟩ := List.getElem?_of_mem he
  have hb : bxOf h (OID + k) = some e := by
    unfold bxOf
    rw [if_neg (by omega), Nat.add_sub_cancel_left]
    exact hk
  obtain ⟨el, g1, g2, g3, ⟨es, g4⟩, g5⟩ := hH.row _ e hb h0
  have hes : elemsD e.d = es := by rw [g4]; rfl
  refine ⟨el, es, g1, g4, ?_, ?_⟩
  · cases hl : e.live with
    | true => obtain ⟨_, _, _, q1, q2, _⟩ := g5 hl; rw [hes] at q1; omega
    | false => have := not_live hl; rw [hes] at this; subst this; exact Nat.zero_le _
  · intro y hy
    cases hl : e.live with
    | true =>
      obtain ⟨_, n, _, _, _, _, q⟩ := g5 hl
      obtain ⟨i, hi⟩ := List.getElem?_of_mem hy
      exact ⟨n, (q i y (by rw [hes]; exact hi)).ty⟩
    | false => have := not_live hl; rw [hes] at this; subst this; cases hy

/-- Functions that only look at what they have captured. -/
def entR (ta : List AV) (th : List Ent) (G : List D → List D → Option D) (args : List AV) (h : List Ent) : Option D := bif allA ta args && allE th h then G (args.map (·.d)) (h.map (·.d)) else none
theorem entR_ok {P : Program} {f : FuncId} {t : TypeId} {ta : List AV} {th : List Ent} {q : List D → List D → Bool} {G : List D → List D → Option D} (h1 : tmplA ta = true) (h2 : tmplE th = true)
    (h : ∀ ds es d, q ds es = true → G ds es = some d → HCallOK P f (fillA ta ds) (fillE th es) (mkRes P t d) ((fillE th es).map some)) :
    ∀ args hh d, preH ta th q args hh = true → entR ta th G args hh = some d → HCallOK P f args hh (mkRes P t d) (hh.map some) := by
  intro args hh d hp hd
  unfold preH at hp
  unfold entR at hd
  rw [Bool.and_eq_true] at hp
  rw [hp.1, cond_true] at hd
  rw [Bool.and_eq_true] at hp
  have ea := allA_eq hp.1.1 (fun t ht hn => by
    unfold tmplA at h1
    rw [List.all_eq_true] at h1
    have := h1 t ht
    rw [Bool.or_eq_true] at this
    rcases this with h | h
    · exact absurd (by simpa using h) hn
    · exact isNilD_eq h)
  have ee := allE_eq hp.1.2 (fun t ht a ha => by
    unfold tmplE at h2
    rw [List.all_eq_true] at h2
    have := h2 t ht
    rw [ha] at this
    simp only [Bool.and_eq_true] at this
    exact ⟨isNilD_eq this.1, isNilD_eq this.2⟩)
  rw [ea, ee]
  exact h _ _ d hp.2 hd

theorem fnH_ok {P : Program} (hm : P.follows .mixedOrders = true) {env : Env} (henv : EnvOK P env) {hh : Hints} {fuel : Nat} {f : FuncId} {fn : Func} {args : List AV} {h : List Ent} {r : AV} {h' : List (Option Ent)} (hf : FnOK P f fn)
    (hev : evFnH P env hh fuel fn args h = some (r, h')) : HCallOK P f args h r h' := evFnH_sound hm henv hf.1 hf.2.2 hev

end Go.Ev

namespace Go.Ev
set_option linter.unusedVariables false
set_option linter.unusedSimpArgs false

abbrev Key := Int × Int
def klt (a b : Key) : Bool := decide (a.1 < b.1) || (a.1 == b.1 && decide (a.2 < b.2))
theorem klt_iff {a b : Key} : klt a b = true ↔ a.1 < b.1 ∨ (a.1 = b.1 ∧ a.2 < b.2) := by simp [klt]
theorem klt_no {a b : Key} : klt a b = false ↔ b.1 < a.1 ∨ (b.1 = a.1 ∧ b.2 ≤ a.2) := by
  rw [← Bool.not_eq_true, klt_iff]; omega
theorem klt_irrefl (a : Key) : klt a a = false := by rw [klt_no]; omega
theorem klt_trans {a b c : Key} (h : klt a b = true) (k : klt b c = true) : klt a c = true := by rw [klt_iff] at *; omega
theorem klt_asymm {a b : Key} (h : klt a b = true) : klt b a = false := by rw [klt_iff] at h; rw [klt_no]; omega
theorem nlt_trans {a b c : Key} (h : klt b a = false) (k : klt c b = false) : klt c a = false := by rw [klt_no] at *; omega
theorem lt_of_lt_nlt {a b c : Key} (h : klt a b = true) (k : klt c b = false) : klt a c = true := by rw [klt_no] at k; rw [klt_iff] at *; omega
theorem lt_of_nlt_lt {a b c : Key} (h : klt b a = false) (k : klt b c = true) : klt a c = true := by rw [klt_no] at h; rw [klt_iff] at *; omega
theorem key_eq {a b : Key} (h : klt a b = false) (k : klt b a = false) : a = b := by
  rw [klt_no] at *
  exact Prod.ext (by omega) (by omega)
theorem klt_ne {a b : Key} (h : klt a b = true) : a ≠ b := by rintro rfl; rw [klt_irrefl] at h; cases h

section
variable {α : Type} (key : α → Key)

/-- None is less than one ahead of it. -/
def Srt (l : List α) : Prop := l.Pairwise fun x y => klt (key y) (key x) = false
/-- The same elements, those of one key in the same order. -/
def SEq (l m : List α) : Prop := ∀ k, l.filter (fun x => decide (key x = k)) = m.filter (fun x => decide (key x = k))

variable {key}
theorem SEq.refl (l : List α) : SEq key l l := fun _ => rfl
theorem SEq.symm {l m : List α} (h : SEq key l m) : SEq key m l := fun k => (h k).symm
theorem SEq.trans {l m n : List α} (h : SEq key l m) (g : SEq key m n) : SEq key l n := fun k => (h k).trans (g k)
theorem SEq.app {l m l' m' : List α} (h : SEq key l l') (g : SEq key m m') : SEq key (l ++ m) (l' ++ m') := fun k => by
  rw [List.filter_append, List.filter_append, h k, g k]
theorem SEq.mem {l m : List α} (h : SEq key l m) {x : α} (hx : x ∈ l) : x ∈ m := by
  have : x ∈ l.filter (fun y => decide (key y = key x)) := List.mem_filter.2 ⟨hx, by simp⟩
  rw [h (key x)] at this
  exact (List.mem_filter.1 this).1
theorem SEq.mem_iff {l m : List α} (h : SEq key l m) {x : α} : x ∈ l ↔ x ∈ m := ⟨h.mem, h.symm.mem⟩
/-- Two pieces without a common key may be swapped. -/
theorem SEq.swap {l m : List α} (h : ∀ x ∈ l, ∀ y ∈ m, key x ≠ key y) : SEq key (l ++ m) (m ++ l) := fun k => by
  rw [List.filter_append, List.filter_append]
  by_cases hl : l.filter (fun x => decide (key x = k)) = []
  · rw [hl]; simp
  · have hm : m.filter (fun x => decide (key x = k)) = [] := by
      rw [List.filter_eq_nil_iff]
      intro y hy hk
      obtain ⟨x, hx⟩ := List.exists_mem_of_ne_nil _ hl
      obtain ⟨hx1, hx2⟩ := List.mem_filter.1 hx
      exact h x hx1 y hy (by simp at hx2 hk; rw [hx2, hk])
    rw [hm]; simp

theorem srt_app {l m : List α} : Srt key (l ++ m) ↔ Srt key l ∧ Srt key m ∧ ∀ x ∈ l, ∀ y ∈ m, klt (key y) (key x) = false := List.pairwise_append
theorem srt_nil : Srt key ([] : List α) := List.Pairwise.nil
theorem srt_one (x : α) : Srt key [x] := List.pairwise_singleton _ x

/-- There is but one such order. -/
theorem srt_uniq : ∀ {l m : List α}, Srt key l → Srt key m → SEq key l m → l = m
  | [], m, _, _, h => by
    cases m with
    | nil => rfl
    | cons y m => exact absurd (h.symm.mem (x := y) (by simp)) (by simp)
  | x :: l, [], _, _, h => absurd (h.mem (x := x) (by simp)) (by simp)
  | x :: l, y :: m, hl, hm, h => by
    have hx : x ∈ y :: m := h.mem (by simp)
    have hy : y ∈ x :: l := h.symm.mem (by simp)
    have h1 : klt (key x) (key y) = false := by
      rcases List.mem_cons.1 hx with rfl | hx
      · exact klt_irrefl _
      · exact (List.pairwise_cons.1 hm).1 x hx
    have h2 : klt (key y) (key x) = false := by
      rcases List.mem_cons.1 hy with rfl | hy
      · exact klt_irrefl _
      · exact (List.pairwise_cons.1 hl).1 y hy
    have hk := key_eq h1 h2
    have hh := h (key x)
    simp only [List.filter_cons, decide_true, if_true, hk.symm] at hh
    injection hh with h3 h4
    subst h3
    rw [srt_uniq (List.pairwise_cons.1 hl).2 (List.pairwise_cons.1 hm).2 (fun k => ?_)]
    have hh := h k
    simp only [List.filter_cons] at hh
    split at hh
    · injection hh
    · exact hh

/-- Sorting. -/
def insK (key : α → Key) (x : α) : List α → List α
  | [] => [x]
  | y :: l => if klt (key y) (key x) then y :: insK key x l else x :: y :: l
def sortK (key : α → Key) : List α → List α
  | [] => []
  | x :: l => insK key x (sortK key l)

theorem insK_seq (x : α) : ∀ l : List α, SEq key (insK key x l) (x :: l)
  | [] => SEq.refl _
  | y :: l => by
    unfold insK
    split
    · rename_i h
      have h1 : SEq key (y :: insK key x l) (y :: x :: l) := SEq.app (l := [y]) (l' := [y]) (SEq.refl _) (insK_seq x l)
      refine h1.trans ?_
      have := SEq.app (SEq.swap (key := key) (l := [y]) (m := [x]) (by simpa using klt_ne h)) (SEq.refl l)
      simpa using this
    · exact SEq.refl _
theorem sortK_seq : ∀ l : List α, SEq key (sortK key l) l
  | [] => SEq.refl _
  | x :: l => (insK_seq x _).trans (SEq.app (l := [x]) (l' := [x]) (SEq.refl _) (sortK_seq l))
theorem insK_srt (x : α) : ∀ {l : List α}, Srt key l → Srt key (insK key x l)
  | [], _ => srt_one x
  | y :: l, h => by
    obtain ⟨h1, h2⟩ := List.pairwise_cons.1 h
    unfold insK
    split
    · rename_i hlt
      refine List.pairwise_cons.2 ⟨fun z hz => ?_, insK_srt x h2⟩
      rcases List.mem_cons.1 ((insK_seq x l).mem hz) with rfl | hz
      · exact klt_asymm hlt
      · exact h1 z hz
    · rename_i hlt
      have hlt : klt (key y) (key x) = false := by simpa using hlt
      refine List.pairwise_cons.2 ⟨fun z hz => ?_, h⟩
      rcases List.mem_cons.1 hz with rfl | hz
      · exact hlt
      · exact nlt_trans hlt (h1 z hz)
theorem sortK_srt : ∀ l : List α, Srt key (sortK key l)
  | [] => srt_nil
  | x :: l => insK_srt x (sortK_srt l)
theorem sortK_eq {l m : List α} (h : Srt key m) (g : SEq key m l) : m = sortK key l := srt_uniq h (sortK_srt l) (g.trans (sortK_seq l).symm)
theorem sortK_of_srt {l : List α} (h : Srt key l) : sortK key l = l := (sortK_eq h (SEq.refl l)).symm
theorem sortK_len (l : List α) : (sortK key l).length = l.length := by
  induction l with
  | nil => rfl
  | cons x l ih =>
    have : ∀ m : List α, (insK key x m).length = m.length + 1 := by
      intro m
      induction m with
      | nil => rfl
      | cons y m ih => unfold insK; split <;> simp [ih]
    simp [sortK, this, ih]
theorem mem_sortK {l : List α} {x : α} : x ∈ sortK key l ↔ x ∈ l := (sortK_seq l).mem_iff
theorem sortK_perm (l : List α) : (sortK key l).Perm l := by
  induction l with
  | nil => exact List.Perm.refl _
  | cons x l ih =>
    have : ∀ m : List α, (insK key x m).Perm (x :: m) := by
      intro m
      induction m with
      | nil => exact List.Perm.refl _
      | cons y m ih =>
        unfold insK
        split
        · exact (List.Perm.cons y ih).trans (List.Perm.swap x y m)
        · exact List.Perm.refl _
    exact (this _).trans (List.Perm.cons x ih)
theorem seq_perm_len {l m : List α} (h : SEq key l m) : l.length = m.length := by
  have := srt_uniq (sortK_srt l) (sortK_srt m) ((sortK_seq l).trans (h.trans (sortK_seq m).symm))
  rw [← sortK_len (key := key) l, this, sortK_len]

/-- An element moved back past greater ones. -/
theorem move_back {S1 S2 : List α} {x : α} (h1 : Srt key (S1 ++ S2)) (h2 : ∀ y ∈ S2, klt (key x) (key y) = true) (h3 : ∀ y ∈ S1, klt (key x) (key y) = false) :
    Srt key (S1 ++ x :: S2) ∧ SEq key (S1 ++ x :: S2) (S1 ++ S2 ++ [x]) := by
  obtain ⟨a, b, c⟩ := srt_app.1 h1
  refine ⟨srt_app.2 ⟨a, List.pairwise_cons.2 ⟨fun y hy => klt_asymm (h2 y hy), b⟩, fun u hu v hv => ?_⟩, ?_⟩
  · rcases List.mem_cons.1 hv with rfl | hv
    · exact h3 u hu
    · exact c u hu v hv
  · rw [List.append_assoc]
    exact SEq.app (SEq.refl S1) (SEq.swap (l := [x]) (m := S2) (fun u hu v hv => by
      obtain rfl : u = x := by simpa using hu
      exact klt_ne (h2 v hv)))
/-- An element moved on past lesser ones. -/
theorem move_on {S1 S2 : List α} {x : α} (h1 : Srt key (S1 ++ S2)) (h2 : ∀ y ∈ S1, klt (key y) (key x) = true) (h3 : ∀ y ∈ S2, klt (key y) (key x) = false) :
    Srt key (S1 ++ x :: S2) ∧ SEq key (S1 ++ x :: S2) (x :: (S1 ++ S2)) := by
  obtain ⟨a, b, c⟩ := srt_app.1 h1
  refine ⟨srt_app.2 ⟨a, List.pairwise_cons.2 ⟨h3, b⟩, fun u hu v hv => ?_⟩, ?_⟩
  · rcases List.mem_cons.1 hv with rfl | hv
    · exact klt_asymm (h2 u hu)
    · exact c u hu v hv
  · have := SEq.app (SEq.swap (key := key) (l := S1) (m := [x]) (fun u hu v hv => by
      obtain rfl : v = x := by simpa using hv
      exact klt_ne (h2 u hu))) (SEq.refl S2)
    simpa using this
/-- Two halves of two runs. -/
theorem halves {X1 X2 Y1 Y2 Z1 Z2 : List α} (hX : Srt key (X1 ++ X2)) (hY : Srt key (Y1 ++ Y2)) (h1 : ∀ x ∈ X1, ∀ y ∈ Y2, klt (key y) (key x) = false) (h2 : ∀ y ∈ Y1, ∀ x ∈ X2, klt (key y) (key x) = true)
    (z1 : Srt key Z1) (e1 : SEq key Z1 (X1 ++ Y1)) (z2 : Srt key Z2) (e2 : SEq key Z2 (X2 ++ Y2)) : Srt key (Z1 ++ Z2) ∧ SEq key (Z1 ++ Z2) (X1 ++ X2 ++ (Y1 ++ Y2)) := by
  obtain ⟨a1, a2, a3⟩ := srt_app.1 hX
  obtain ⟨b1, b2, b3⟩ := srt_app.1 hY
  refine ⟨srt_app.2 ⟨z1, z2, fun u hu v hv => ?_⟩, ?_⟩
  · have hu := e1.mem hu
    have hv := e2.mem hv
    rw [List.mem_append] at hu hv
    rcases hu with hu | hu <;> rcases hv with hv | hv
    · exact a3 u hu v hv
    · exact h1 u hu v hv
    · exact klt_asymm (h2 u hu v hv)
    · exact b3 u hu v hv
  · refine (SEq.app e1 e2).trans ?_
    have hs := SEq.swap (key := key) (l := Y1) (m := X2) (fun u hu v hv => klt_ne (h2 u hu v hv))
    have := SEq.app (SEq.app (SEq.refl X1) hs) (SEq.refl Y2)
    simpa [List.append_assoc] using this

end
end Go.Ev

namespace Go.Ev
set_option linter.unusedVariables false
set_option linter.unusedSimpArgs false

def intsB (a b : List D) : Bool := a.map intD == b.map intD
def bCols (b : D) : List D := elemsD (fieldD b 0)
def bRows (b : D) : List D := elemsD (fieldD b 1)
def bagD (cols rows : List D) : D := .agg [.slice cols [], .slice rows []]
def placeI (cols : List D) (c : Int) : Int := Lib.idxOf (cols.map intD) c
/-- What a row is ordered by. -/
def rankD (row : List D) (p : Int) : D :=
  bif decide (p < 0) || decide (p ≥ (row.length : Int)) then .agg [litI 0, litI 0]
  else bif mayB (row.getD p.toNat .nil) then .agg [litI (kk (row.getD p.toNat .nil)), litI (nn (row.getD p.toNat .nil))] else .agg [litI 2, litI 0]
def valueD (r : D) : D := vv (intD (fieldD r 0)) (intD (fieldD r 1))
def rankEq (a b : D) : Bool := (intD (fieldD a 0) == intD (fieldD b 0)) && ((intD (fieldD a 1) == intD (fieldD b 1)) && true)
def againstI (a b : D) : Int := bif rankEq a b then 0 else bif lessB (valueD a) (valueD b) then -1 else 1
def keyR (r : D) : Key := (kk (readD (valueD r)), nn (readD (valueD r)))
def keyE (e : D) : Key := keyR (fieldD e 0)
/-- No two the same. -/
def nodupI : List Int → Bool
  | [] => true
  | x :: l => !l.contains x && nodupI l
def colsMayB (l : List D) : Bool := (l.map intD).all (fun c => decide (0 ≤ c) && decide (c ≤ 15)) && nodupI (l.map intD)
def rowsMayB (b : D) : Bool := (bRows b).all fun r => ((elemsD r).length == (bCols b).length) && (elemsD r).all mayB
def mayBagB (b : D) : Bool := colsMayB (bCols b) && decide ((bRows b).length ≤ 5000) && rowsMayB b
def pairI (x : D) : Int × Int := (kk x, nn x)
def rowI (r : D) : List (Int × Int) := (elemsD r).map pairI
def rowEqB (a b : List D) : Bool := a.map pairI == b.map pairI
def likeB (a b : D) : Bool := intsB (bCols a) (bCols b) && ((bRows a).map rowI == (bRows b).map rowI)
def fewBagB (b : D) (most : Int) : Bool := decide (((bRows b).length : Int) ≤ most) && decide ((bCols b).length ≤ 20) && (bRows b).all fun r => decide ((elemsD r).length ≤ 20)
def hasB (l : List D) (c : Int) : Bool := (l.map intD).contains c
def hasAllB (all some : List D) : Bool := (some.map intD).all (fun c => hasB all c)
def alikeN (rows : List D) (p : Int) : Nat := 1 + ((rows.drop 1).takeWhile fun r => rankEq (rankD (elemsD r) p) (rankD (elemsD (rows.getD 0 .nil)) p)).length
def columnL (rows : List D) (p : Int) : List D := rows.map fun r => (elemsD r).getD p.toNat .nil
def colOK (rows : List D) (p : Int) : Bool := decide (0 ≤ p) && decide (rows.length ≤ 2147483648) && rows.all fun r => decide (p < ((elemsD r).length : Int))
def summedL (b : D) (p : Int) (sums : List D) : List D :=
  (elemsD ((bRows b).getD 0 .nil)).getD p.toNat .nil :: vv 0 ((bRows b).length : Int) :: sums.map fun c => sumD (columnL (bRows b) (placeI (bCols b) (intD c)))
def sumOK (b : D) (p : Int) (sums : List D) : Bool :=
  decide (0 < (bRows b).length) && decide (sums.length ≤ 1000) && colOK (bRows b) p && sums.all fun c => colOK (bRows b) (placeI (bCols b) (intD c))
def groupColsL (by_ n : Int) : List D := litI by_ :: (List.range (n.toNat + 1)).map fun (i : Nat) => litI (16 + (i : Int))
def big : Nat := 2147483648
def sortOK (b : D) : Bool := decide ((bRows b).length ≤ 2147483648) && decide ((bCols b).length ≤ 2147483648) && (bRows b).all fun r => decide ((elemsD r).length ≤ 2147483648)
def keyAt (p : Int) (r : D) : Key := keyR (rankD (elemsD r) p)
def sortRows (p : Int) (rows : List D) : List D := sortK (keyAt p) rows
def sortBag (b : D) (c : Int) : D := bagD (bCols b) (sortRows (placeI (bCols b) c) (bRows b))
/-- In order, one by one. -/
def adjB (p : Int) : List D → Bool
  | x :: y :: l => !klt (keyAt p y) (keyAt p x) && adjB p (y :: l)
  | _ => true
def sortedB (b : D) (c : Int) : Bool := adjB (placeI (bCols b) c) (bRows b)
/-- The groups of rows in order. -/
def grpK (cols : List D) (p : Int) (sums : List D) : Nat → List D → List D
  | 0, _ => []
  | _ + 1, [] => []
  | k + 1, rows => .slice (summedL (bagD cols (rows.take (alikeN rows p))) p sums) [] :: grpK cols p sums k (rows.drop (alikeN rows p))
def groupOK (b : D) (by_ : Int) (sums : List D) : Bool := mayBagB b && hasB (bCols b) by_ && hasAllB (bCols b) sums && decide (sums.length ≤ 4)
def groupBag (b : D) (by_ : Int) (sums : List D) : D :=
  bif groupOK b by_ sums then bagD (groupColsL by_ (sums.length : Int)) (grpK (bCols b) (placeI (bCols b) by_) sums (bRows b).length (sortRows (placeI (bCols b) by_) (bRows b))) else bagD [] []
def threeD : D := bagD [litI 0, litI 1] [.slice [vv 0 1, vv 0 2] [], .slice [vv 0 3, vv 0 4] [], .slice [vv 0 1, vv 0 5] []]
/-- Pieces of a row that is sorted in place. -/
def seg (a b : Nat) (l : List D) : List D := (l.drop a).take (b - a)
def putSeg (a b : Nat) (l m : List D) : List D := l.take a ++ m ++ l.drop b
def insOK (es : List D) (a b : Int) : Bool := decide (0 ≤ a) && decide (a ≤ b) && decide (b ≤ (es.length : Int)) && decide (es.length ≤ 2147483648)
def insL (es : List D) (a b : Int) : List D := putSeg a.toNat b.toNat es (sortK keyE (seg a.toNat b.toNat es))
def swpOK (es : List D) (a b n : Int) : Bool := decide (0 ≤ a) && decide (0 ≤ n) && decide (a + n ≤ b) && decide (b + n ≤ (es.length : Int)) && decide (es.length ≤ 2147483648)
def swpL (es : List D) (a b n : Int) : List D :=
  es.take a.toNat ++ (es.drop b.toNat).take n.toNat ++ (es.drop (a + n).toNat).take (b - (a + n)).toNat ++ (es.drop a.toNat).take n.toNat ++ es.drop (b + n).toNat
def rotOK (es : List D) (a m b : Int) : Bool := decide (0 ≤ a) && decide (a < m) && decide (m < b) && decide (b ≤ (es.length : Int)) && decide (es.length ≤ 2147483648)
def rotL (es : List D) (a m b : Int) : List D := es.take a.toNat ++ (es.drop m.toNat).take (b - m).toNat ++ (es.drop a.toNat).take (m - a).toNat ++ es.drop b.toNat
def srtB : List D → Bool
  | [] => true
  | x :: l => (l.all fun y => !klt (keyE y) (keyE x)) && srtB l
theorem srtB_iff : ∀ {l : List D}, srtB l = true ↔ Srt keyE l
  | [] => by simp [srtB, Srt]
  | x :: l => by
    have ih := srtB_iff (l := l)
    unfold Srt at ih ⊢
    rw [List.pairwise_cons, srtB, Bool.and_eq_true, ih, List.all_eq_true]
    simp
def symOK (K : Nat) (es : List D) (a m b : Int) : Bool := decide (0 ≤ a) && decide (a < m) && decide (m < b) && decide (b ≤ (es.length : Int)) && decide (es.length ≤ 2147483648) && decide (b - a < (K : Int)) &&
  srtB (seg a.toNat m.toNat es) && srtB (seg m.toNat b.toNat es)
def stbOK (es : List D) (n : Int) : Bool := (n == (es.length : Int)) && decide (es.length ≤ 2147483648)

end Go.Ev
