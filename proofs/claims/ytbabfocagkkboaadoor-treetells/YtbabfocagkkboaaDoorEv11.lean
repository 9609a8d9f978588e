/- From what a claim hands over to the evaluator's data, and back. Nothing here is trusted. -/
import Derived.Test.YtbabfocagkkboaaDoorEv10
import Derived.WideShapes
import Derived.ChangeOld
namespace Go.Ev
open Go.RowKit
set_option linter.unusedVariables false
set_option linter.unusedSimpArgs false

/-- Data of a type. -/
def Ty (P : Program) : Nat → TypeId → D → Prop
  | 0, _, _ => False
  | n + 1, t, d =>
    match P.underlying t, d with
    | some .bool, .lit (.bool _) => True
    | some (.int k), .lit (.int k' z) => k' = k ∧ (Lit.int k z).wf = true
    | some .string, .lit (.string s) => s.length ≤ maxLen
    | some (.slice e), .slice es sp => sp = [] ∧ es.length ≤ maxLen ∧ ∀ y ∈ es, Ty P n e y
    | some (.struct fs), .agg ps => ps.length = fs.size ∧ ∀ k f, fs[k]? = some f → Ty P n f.type (ps.getD k .nil)
    | some (.array m e), .agg ps => ps.length = m ∧ ∀ k, k < m → Ty P n e (ps.getD k .nil)
    | some (.func _ _ _), .held v => v = .nilFunc ∨ ∃ f, v = .func (.func f) #[] #[]
    | some (.func _ _ _), .agg ps => ∃ (f : FuncId) (t0 : TypeId) (x : D), ps = [.held (.func (.func f) #[] #[]), .lit (.int .u64 (t0 : Int)), x] ∧ Ty P n t0 x
    | _, _ => False

/-- Types that are read through: with each those that it leads to. -/
def okTypes (P : Program) (S : List TypeId) : Bool :=
  S.all fun t => match P.underlying t with
    | some .bool | some (.int _) | some .string => P.cellsOf t == 1
    | some (.slice e) => P.cellsOf t == 1 && S.contains e && decide (0 < P.cellsOf e)
    | some (.struct fs) => layOK P fs (P.cellsOf t) && fs.toList.all (fun f => S.contains f.type) &&
        (List.range (P.cellsOf t)).all fun j => fs.toList.any fun f => decide (f.offset ≤ j) && decide (j < f.offset + P.cellsOf f.type)
    | _ => false

section
variable {P : Program} {w w' : World} {ok ok' : Nat → Prop}

theorem Rep.ty : ∀ {n : Nat} {t : TypeId} {cs : List Value} {d : D}, Rep P w ok n t cs d → Ty P n t d
  | 0, _, _, _, h => h.elim
  | n + 1, t, cs, d, h => by
    obtain ⟨h1, h2, h3⟩ := h
    unfold Ty
    split at h3
    · rename_i hu; rw [hu]; trivial
    · rename_i hu; rw [hu]; exact ⟨h3.1, h3.2.2⟩
    · rename_i hu; rw [hu]; exact h3.2
    · rename_i hu
      rw [hu]
      obtain ⟨hsp, a, cap, e1, e2, e3, e4, e5⟩ := h3
      refine ⟨hsp, Nat.le_trans e2 e3, fun y hy => ?_⟩
      obtain ⟨i, hi⟩ := List.getElem?_of_mem hy
      cases a with
      | none =>
        have := e4 rfl
        have hlt := (List.getElem?_eq_some_iff.1 hi).1
        omega
      | some x =>
        obtain ⟨_, c, _, hr⟩ := e5 x rfl i y hi
        exact hr.ty
    · rename_i hu; rw [hu]; exact ⟨h3.1, fun k f hf => (h3.2 k f hf).ty⟩
    · rename_i hu; rw [hu]; exact ⟨h3.1, fun k hk => (h3.2 k hk).ty⟩
    · rename_i hu; rw [hu]; exact h3.2
    · rename_i hu
      rw [hu]
      obtain ⟨f, r, t0, x, e1, e2, e3, e4⟩ := h3
      exact ⟨f, t0, x, e1, e3.ty⟩
    · exact h3.elim

theorem choose_list {Q : Nat → D → Prop} : ∀ (n : Nat), (∀ k, k < n → ∃ d, Q k d) → ∃ l : List D, l.length = n ∧ ∀ k, k < n → Q k (l.getD k .nil)
  | 0, _ => ⟨[], rfl, fun k hk => by omega⟩
  | n + 1, h => by
    obtain ⟨l, hl, hq⟩ := choose_list n (fun k hk => h k (by omega))
    obtain ⟨d, hd⟩ := h n (by omega)
    refine ⟨l ++ [d], by simp [hl], fun k hk => ?_⟩
    by_cases hkn : k < n
    · rw [List.getD_eq_getElem?_getD, List.getElem?_append_left (by omega), ← List.getD_eq_getElem?_getD]
      exact hq k hkn
    · have : k = n := by omega
      subst this
      rw [List.getD_eq_getElem?_getD, List.getElem?_append_right (by omega)]
      simpa [hl] using hd

theorem mapM_get {α β : Type} {f : α → Option β} : ∀ {l : List α} {r : List β}, l.mapM f = some r → r.length = l.length ∧ ∀ (i : Nat) (x : α), l[i]? = some x → ∃ y, f x = some y ∧ r[i]? = some y
  | [], r, h => by
    simp at h
    subst h
    exact ⟨rfl, fun i x hx => by simp at hx⟩
  | a :: l, r, h => by
    rw [List.mapM_cons] at h
    simp only [Option.bind_eq_bind, Option.pure_def, Option.bind_eq_some_iff, Option.some.injEq] at h
    obtain ⟨y, hy, ys, hys, rfl⟩ := h
    obtain ⟨h1, h2⟩ := mapM_get hys
    refine ⟨by simp [h1], fun i x hx => ?_⟩
    cases i with
    | zero => simp at hx; subst hx; exact ⟨y, hy, rfl⟩
    | succ i => simp at hx; simpa using h2 i x hx

theorem cells?_row {base : Nat} {a : Addr} {n : Nat} {c : List Value} (h : w.cells? base a n = some c) : rowAt w a c := by
  unfold World.cells? at h
  split at h
  · obtain ⟨h1, h2⟩ := mapM_get h
    intro j v hj
    have hlt : j < n := by
      have := (List.getElem?_eq_some_iff.1 hj).1
      rw [h1] at this
      simpa using this
    obtain ⟨y, hy, hr⟩ := h2 j j (by simp [hlt])
    rw [hr] at hj
    cases hj
    exact hy
  · cases h

theorem okTypes_spec {S : List TypeId} (hS : okTypes P S = true) {t : TypeId} (ht : t ∈ S) : (match P.underlying t with
    | some .bool | some (.int _) | some .string => P.cellsOf t == 1
    | some (.slice e) => P.cellsOf t == 1 && S.contains e && decide (0 < P.cellsOf e)
    | some (.struct fs) => layOK P fs (P.cellsOf t) && fs.toList.all (fun f => S.contains f.type) &&
        (List.range (P.cellsOf t)).all fun j => fs.toList.any fun f => decide (f.offset ≤ j) && decide (j < f.offset + P.cellsOf f.type)
    | _ => false) = true := by
  unfold okTypes at hS
  rw [List.all_eq_true] at hS
  exact hS t ht

theorem trod_rep {H : Type} {enc : TypeId × Value → H} {base : Nat} {spare : Nat → Bool} {held : Bool} {S : List TypeId} (hS : okTypes P S = true) :
    ∀ (fuel : Nat) (t : TypeId) (cs : List Value) (x : DataW H × List MemPlace), t ∈ S → DataW.trod enc P w base spare held fuel t cs = some x → (∀ p ∈ x.2, ok p.block) → ∃ d, Rep P w ok fuel t cs d
  | 0, _, _, _, _, h, _ => by simp [DataW.trod] at h
  | fuel + 1, t, cs, x, ht, h, hok => by
    have hs := okTypes_spec hS ht
    unfold DataW.trod at h
    split at hs
    · rename_i hu
      rw [hu] at h
      rw [beq_iff_eq] at hs
      split at h <;> try (simp_all; done)
      rename_i b _
      refine ⟨.lit (.bool b), by simp [hs], by simp [Value.oneCell'], ?_⟩
      rw [hu]
    · rename_i k hu
      rw [hu] at h
      rw [beq_iff_eq] at hs
      split at h <;> try (simp_all; done)
      rename_i k0 k' n heq
      cases heq
      split at h
      · rename_i hc
        obtain ⟨rfl, hw⟩ := hc
        refine ⟨.lit (.int k' n), by simp [hs], by simp [Value.oneCell'], ?_⟩
        rw [hu]
        exact ⟨rfl, rfl, hw⟩
      · cases h
    · rename_i hu
      rw [hu] at h
      rw [beq_iff_eq] at hs
      split at h <;> try (simp_all; done)
      rename_i s _
      split at h
      · rename_i hc
        refine ⟨.lit (.string s.data.toList), by simp [hs], by simp [Value.oneCell'], ?_⟩
        rw [hu]
        exact ⟨by simp, by simpa using hc⟩
      · cases h
    · rename_i e hu
      rw [hu] at h
      rw [Bool.and_eq_true, Bool.and_eq_true, beq_iff_eq, decide_eq_true_eq] at hs
      obtain ⟨⟨h1, he⟩, hpos⟩ := hs
      have he' : e ∈ S := by simpa using he
      split at h <;> try (simp_all; done)
      · refine ⟨.slice [] [], by simp [h1], by simp [Value.oneCell'], ?_⟩
        rw [hu]
        exact ⟨rfl, none, 0, rfl, Nat.le_refl _, Nat.zero_le _, fun _ => rfl, fun x hx => by cases hx⟩
      · rename_i e0 a len cap heq
        cases heq
        simp only at h
        split at h
        · rename_i hc
          obtain ⟨_, hlc, hcm⟩ := hc
          obtain ⟨elems, hel, h⟩ := Option.bind_eq_some_iff.1 h
          obtain ⟨rest, _, rfl⟩ := Option.map_eq_some_iff.1 h
          obtain ⟨hlen, hget⟩ := mapM_get hel
          have hlen' : elems.length = len := by simpa using hlen
          have hcell : ∀ k, k < len → ∃ y, (w.cells? base (a.add (k * P.cellsOf e)) (P.cellsOf e)).bind (DataW.trod enc P w base spare held fuel e) = some y ∧ elems[k]? = some y := fun k hk => hget k k (by simp [hk])
          have hex : ∀ k, k < len → ∃ d, ∃ c : List Value, rowAt w (a.add (k * P.cellsOf e)) c ∧ Rep P w ok fuel e c d := by
            intro k hk
            obtain ⟨y, hy, hyk⟩ := hcell k hk
            obtain ⟨c, hc1, hc2⟩ := Option.bind_eq_some_iff.1 hy
            obtain ⟨d, hd⟩ := trod_rep hS fuel e c y he' hc2 (fun p hp => hok p (by
              simp only
              refine List.mem_append_right _ (List.mem_flatMap.2 ⟨y, List.mem_append_left _ (List.mem_of_getElem? hyk), hp⟩)))
            exact ⟨d, c, cells?_row hc1, hd⟩
          obtain ⟨l, hl, hq⟩ := choose_list len hex
          refine ⟨.slice l [], by simp [h1], by simp [Value.oneCell'], ?_⟩
          rw [hu]
          refine ⟨rfl, some a, cap, by rw [hl], by omega, hcm, by simp, fun x hx k y hy => ?_⟩
          cases hx
          have hk : k < len := by rw [← hl]; exact (List.getElem?_eq_some_iff.1 hy).1
          have hgd : l.getD k .nil = y := by simp [List.getD, hy]
          obtain ⟨c, hc1, hc2⟩ := hq k hk
          rw [hgd] at hc2
          refine ⟨?_, c, hc1, hc2⟩
          have hmem : MemPlace.cell a.block (a.off + 0) ∈ MemPlace.row a ((elems.length + rest.length) * P.cellsOf e) := by
            unfold MemPlace.row
            refine List.mem_map.2 ⟨0, List.mem_range.2 ?_, rfl⟩
            exact Nat.mul_pos (by omega) hpos
          exact hok _ (List.mem_append_left _ hmem)
        · cases h
    · rename_i fs hu
      simp only [hu] at h
      simp only [Bool.and_eq_true] at hs
      obtain ⟨⟨hl, hall⟩, hcov⟩ := hs
      split at h
      · rename_i hlen
        obtain ⟨xs, hxs, rfl⟩ := Option.map_eq_some_iff.1 h
        obtain ⟨hxl, hget⟩ := mapM_get hxs
        have hex : ∀ k, k < fs.size → ∃ d, ∀ f, fs[k]? = some f → Rep P w ok fuel f.type ((cs.drop f.offset).take (P.cellsOf f.type)) d := by
          intro k hk
          have hfk : fs.toList[k]? = some fs[k] := by simp [hk]
          obtain ⟨y, hy, hyk⟩ := hget k fs[k] hfk
          have hm : (fs[k]).type ∈ S := by
            rw [List.all_eq_true] at hall
            have := hall fs[k] (by simp)
            simpa using this
          obtain ⟨d, hd⟩ := trod_rep hS fuel _ _ y hm hy (fun p hp => hok p (List.mem_flatMap.2 ⟨y, List.mem_of_getElem? hyk, hp⟩))
          refine ⟨d, fun f hf => ?_⟩
          have : fs[k]? = some fs[k] := Array.getElem?_eq_getElem hk
          rw [this] at hf
          cases hf
          exact hd
        obtain ⟨l, hll, hq⟩ := choose_list fs.size hex
        refine ⟨.agg l, hlen, fun v hv => ?_, ?_⟩
        · obtain ⟨j, hj⟩ := List.getElem?_of_mem hv
          have hjlt : j < P.cellsOf t := by rw [← hlen]; exact (List.getElem?_eq_some_iff.1 hj).1
          rw [List.all_eq_true] at hcov
          have := hcov j (List.mem_range.2 hjlt)
          rw [List.any_eq_true] at this
          obtain ⟨f, hf, hfj⟩ := this
          simp only [Bool.and_eq_true, decide_eq_true_eq] at hfj
          obtain ⟨k, hk⟩ := List.getElem?_of_mem hf
          have hk' : fs[k]? = some f := by simpa using hk
          have hklt : k < fs.size := (Array.getElem?_eq_some_iff.1 hk').1
          have hr := hq k hklt f hk'
          refine hr.one v ?_
          refine List.mem_of_getElem? (i := j - f.offset) ?_
          rw [List.getElem?_take_of_lt (by omega), List.getElem?_drop]
          rw [show f.offset + (j - f.offset) = j from by omega]
          exact hj
        · rw [hu]
          exact ⟨hll, fun k f hf => hq k ((Array.getElem?_eq_some_iff.1 hf).1) f hf⟩
      · cases h
    · cases hs

/-- An argument of a claim. -/
theorem arg_rep {H : Type} {enc : TypeId × Value → H} {r : Reach} {b0 : Nat} {spare : Nat → Bool} {held : Bool} {S : List TypeId} (hS : okTypes P S = true) {t : TypeId} (ht : t ∈ S) {v : Value} {d : DataW H} {p : List MemPlace}
    (hv : Value.okWide P w r b0 t v) (h : DataW.Trod enc P w 0 spare held t v d p) : ∃ n x, Ty P n t x ∧ RepV P w (fun b => b < w.heap.size) t v x := by
  obtain ⟨fuel, hf⟩ := h
  obtain ⟨x, hx⟩ := trod_rep (ok := fun b => b < w.heap.size) hS fuel t _ _ ht hf (fun q hq => DataW.trod_lt fuel _ _ _ hf q hq)
  refine ⟨fuel, x, hx.ty, ⟨fuel, hx⟩, fun ha => ?_, fun ha => ?_⟩
  · unfold isAggB at ha
    unfold Value.okWide at hv
    split at ha
    · rename_i hu; rw [hu] at hv; obtain ⟨cs, e, _⟩ := hv; exact ⟨cs, e⟩
    · rename_i hu; rw [hu] at hv; obtain ⟨cs, e, _⟩ := hv; exact ⟨cs, e⟩
    · cases ha
  · have hs := okTypes_spec hS ht
    have hone := hx.one
    cases v with
    | agg cs =>
      exfalso
      unfold isAggB at ha
      unfold Value.okWide at hv
      split at hs
      all_goals first
        | (rename_i hu; rw [hu] at ha; simp at ha; done)
        | (rename_i hu; rw [hu] at hv; simp [Cell.okWide, Cell.ok, hu] at hv; done)
        | (cases hs)
    | _ => rfl

/-- A contract that tells true: the call returns true, and nothing that was there has turned. -/
theorem calls_true {f : FuncId} {args : List AV} {tb : TypeId} (hb : P.underlying tb = some .bool) (htb : TabOn P (fun _ => False) w) (h : CallOK P f args (dat tb (.lit (.bool true)))) {vs : List Value} (hargs : ArgsRep P w (fun b => b < w.heap.size) args vs) :
    Calls P f vs.toArray w fun e w' => e = .returned (.bool true) ∧ Below w.heap.size w w' := by
  refine (h.call w _ vs htb (fun b hb => hb) hargs).mono ?_
  rintro e w' ⟨v, ok', rfl, hbel, _, hr⟩
  obtain ⟨b, h1, h2⟩ := (hr.d1 rfl).bool hb
  have : b = true := by simpa [dat] using h1.symm
  rw [h2, this]
  exact ⟨rfl, hbel⟩

end
end Go.Ev
