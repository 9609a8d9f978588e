/- Every operation of a region, one behind the other, in whatever order the text allows. Nothing here is trusted. -/
import Derived.Test.YtjgpdleibkfadaaEvR
namespace Go.Ev
open Go.RowKit
set_option linter.unusedVariables false
set_option linter.unusedSimpArgs false

section
variable {P : Program} {w w' : World} {ok ok' : Nat → Prop} {β : Nat → Nat × Nat}
variable {base : Nat} {w0 : World} {okA : Nat → Prop} {st st' : St} {a : Act} {env : Env} {o : Oper} {av : AV} {Q : Exit → Act → World → Prop}

theorem good_buildSlice0 (R : RelX P base w0 okA st ok β a w) {t e : TypeId} {parts : Array (Nat × Operand)} (hop : o.op = .buildSlice t 0 parts) (hu : P.underlying t = some (.slice e)) (h1 : P.cellsOf t = 1) (hp : 0 < P.cellsOf e)
    (hz : parts.size = 0) : o.wp P a w (Good P ok β st o (dat t (.slice [] [])) a w) Q := by
  have hinfo : ∃ ii, P.info? e = some ii := by
    unfold Program.cellsOf at hp
    cases hi : P.info? e with
    | none => rw [hi] at hp; simp at hp
    | some i => exact ⟨i, rfl⟩
  obtain ⟨ii, hi⟩ := hinfo
  have hparts : parts = #[] := by simpa using hz
  have hx : (execOp a.eval o).run P w = .ok (.value (.slice (some ⟨w.heap.size, 0, none⟩) 0 0)) (w.alloc (.cells #[] e)) := by
    unfold execOp
    simp [hop, hparts, Instr.buildSlice, run_underlying hu, run_sizeOf w hi, Instr.fill, newRow, show Array.range 0 = #[] from rfl]
  have hb : Below w.heap.size w (w.alloc (.cells #[] e)) := (Below.refl _ _).alloc (Nat.le_refl _) _
  have hsz' : (w.alloc (.cells #[] e)).heap.size = w.heap.size + 1 := by simp
  unfold Oper.wp
  rw [hx]
  refine ⟨_, fun b => ok b ∨ b = w.heap.size, rfl, hb, fun b h => .inl h, fun b h => ?_, repAV_dat ⟨⟨1, by simp [Value.cells, h1], by simp [Value.cells, Value.oneCell'], ?_⟩, by simp [isAggB, hu], fun _ => rfl⟩⟩
  · rcases h with h | h
    · exact .inl h
    · right; rw [hsz']; omega
  · rw [hu]
    exact ⟨rfl, some ⟨w.heap.size, 0, none⟩, 0, by simp [Value.cells], Nat.le_refl _, Nat.zero_le _, by simp, fun y hy k y' hk => by simp at hk⟩

theorem evVal_sound (henv : EnvOK P env) (R : RelX P base w0 okA st ok β a w) (hc : chkOp P env st o = true) (h : evVal P env o st = some av) : o.wp P a w (Good P ok β st o av a w) Q := by
  unfold evVal at h
  split at h
  · rename_i x hop; exact good_move R (.inl hop) h
  · rename_i x hop; exact good_move R (.inr hop) h
  · rename_i c x y hop
    split at h
    · rename_i b hb; exact good_pick R hop hb (by simpa using h)
    · cases h
  · rename_i hop; exact good_bin R hop hc h
  · rename_i hop; exact good_not R hop h
  · rename_i hop; exact good_neg R hop h
  · rename_i hop
    split at h
    · rename_i f hf; exact good_field R hop hf h
    · cases h
  · rename_i hop
    split at h
    · rename_i e hu; exact good_indexAddr R hop hu hc h
    · cases h
  · rename_i hop
    split at h
    · rename_i t ht; exact good_extract R hop ht h
    · cases h
  · rename_i hop
    split at h
    · rename_i fs hu
      split at h
      · rename_i hl
        split at h
        · rename_i z hz; exact good_build R hop hu hl hz h
        · cases h
      · cases h
    · cases h
  · rename_i t len parts hop
    split at h
    · rename_i e hu
      split at h
      · rename_i hcond
        simp only [Bool.and_eq_true, beq_iff_eq, decide_eq_true_eq] at hcond
        obtain ⟨⟨h1, hp⟩, hsm⟩ := hcond
        split at h
        · rename_i hl
          rw [beq_iff_eq] at hl
          subst hl
          split at h
          · rename_i hz
            cases h
            exact good_buildSlice0 R hop hu h1 hp (by simpa using hz)
          · cases h
        · rename_i hl
          split at h
          · rename_i z hz; exact good_buildSlice R hop hu h1 hp hsm (by simpa using hl) hz h
          · cases h
      · cases h
    · cases h
  · rename_i c hop
    split at h
    · rename_i b hb
      unfold evBuiltin at h
      split at h
      · rename_i x t hb2 hx ht
        split at h
        · rename_i e hu; exact good_len R hop hb hx ht hu h
        · cases h
      · cases h
    · split at h
      · rename_i f as hf has; exact good_call R henv hop hf has hc h
      · cases h
  · cases h

/-! ### No address leads to a box that is not there -/
def Live (st : St) (v : AV) : Prop := v.tag = 2 → (st.bx v.id).isSome = true
def ND (st : St) : Prop := ∀ i, Live st (st.get i)
theorem mkRes_tag (t : TypeId) (d : D) : (mkRes P t d).tag = 1 ∨ (mkRes P t d).tag = 6 := by
  unfold mkRes
  split
  · exact .inr rfl
  · exact .inl rfl

theorem live_of_ne {v : AV} (h : v.tag ≠ 2) : Live st v := fun h2 => absurd h2 h

theorem constD_tag (t : TypeId) (v : Value) : (constD P t v).tag ≠ 2 := by
  unfold constD
  repeat' split
  all_goals simp [dead, dat]

theorem opd_live (h : ND st) (t : TypeId) (x : Operand) : Live st (opd P st t x) := by
  cases x with
  | tmp i => exact h i
  | const v => exact live_of_ne (constD_tag t v)
  | global g => exact live_of_ne (by simp [opd, dead])
  | func f =>
    refine live_of_ne ?_
    show (match P.underlying t with
      | some (.func _ _ _) => if P.cellsOf t = 1 then dat t (.held (.func (.func f) #[] #[])) else dead
      | _ => dead).tag ≠ 2
    split
    · split <;> simp [dead, dat]
    · simp [dead]

theorem boolA_tag {t : TypeId} {b : Bool} {v : AV} (h : boolA P t b = some v) : v.tag ≠ 2 := by
  unfold boolA at h
  repeat' split at h
  all_goals first | (cases h; done) | (cases h; simp [dat])

theorem intA_tag {t : TypeId} {k : IntKind} {n : Int} {v : AV} (h : intA P t k n = some v) : v.tag ≠ 2 := by
  unfold intA at h
  repeat' split at h
  all_goals first | (cases h; done) | (cases h; simp [dat])

theorem evBin_tag {op : BinOp} {t : TypeId} {x y v : AV} (h : evBin P o op t x y = some v) : v.tag ≠ 2 := by
  unfold evBin at h
  split at h
  · split at h
    · unfold binInt at h
      split at h <;> first | exact intA_tag h | exact boolA_tag h | cases h
    · cases h
  · split at h
    · split at h <;> first | exact boolA_tag h | cases h
    · split at h
      · split at h <;> first | exact boolA_tag h | cases h
      · cases h

theorem evVal_live (hn : ND st) (h : evVal P env o st = some av) : Live st av := by
  unfold evVal at h
  split at h
  · cases h; exact opd_live hn _ _
  · cases h; exact opd_live hn _ _
  · split at h
    · rename_i b _
      cases h
      cases b
      · exact opd_live hn _ _
      · exact opd_live hn _ _
    · cases h
  · exact live_of_ne (evBin_tag h)
  · split at h
    · exact live_of_ne (boolA_tag h)
    · cases h
  · split at h
    · exact live_of_ne (intA_tag h)
    · cases h
  · split at h
    · split at h
      · cases h; exact live_of_ne (by simp [dat])
      · cases h
    · cases h
  · split at h
    · split at h
      · cases h; exact live_of_ne (by simp [refp])
      · cases h
    · cases h
  · split at h
    · split at h
      · cases h; exact live_of_ne (by simp [dat])
      · cases h
    · cases h
  · split at h
    · split at h
      · split at h
        · obtain ⟨d, _, rfl⟩ := Option.map_eq_some_iff.1 h
          exact live_of_ne (by simp [dat])
        · cases h
      · cases h
    · cases h
  · split at h
    · split at h
      · split at h
        · split at h
          · cases h; exact live_of_ne (by simp [dat])
          · cases h
        · split at h
          · obtain ⟨d, _, rfl⟩ := Option.map_eq_some_iff.1 h
            exact live_of_ne (by simp [dat])
          · cases h
      · cases h
    · cases h
  · split at h
    · unfold evBuiltin at h
      split at h
      · split at h
        · split at h
          · exact live_of_ne (intA_tag h)
          · cases h
        · cases h
      · cases h
    · split at h
      · split at h
        · split at h
          · obtain ⟨d, _, rfl⟩ := Option.map_eq_some_iff.1 h
            rename_i t _ _ _ _ _
            rcases mkRes_tag (P := P) _ d with e | e
            · exact live_of_ne (fun h2 => by rw [e] at h2; cases h2)
            · exact live_of_ne (fun h2 => by rw [e] at h2; cases h2)
          · cases h
        · cases h
      · cases h
  · cases h

/-! ### Memory -/
theorem run_isAgg {t : TypeId} {u : TypeDesc} (hu : P.underlying t = some u) : (isAgg t).run P w = .ok (isAggB P t) w := by
  unfold isAggB
  rw [hu]
  cases u <;> simp [isAgg, run_underlying hu]

theorem run_loadVar {t : TypeId} {y : Addr} {cs : List Value} {n : Nat} {d : D} (hrow : rowAt w y cs) (hr : Rep P w ok n t cs d) :
    ∃ v, (loadVar t y).run P w = .ok v w ∧ RepV P w ok t v d := by
  obtain ⟨u, i, hu, hi⟩ := hr.info
  have hlen := hr.len
  cases hagg : isAggB P t with
  | true =>
    have hl := run_loadCells_list (P := P) w y cs hrow
    rw [hlen] at hl
    refine ⟨.agg cs.toArray, ?_, ⟨n, by simpa [Value.cells] using hr⟩, fun _ => ⟨_, rfl⟩, fun h => by rw [hagg] at h; cases h⟩
    simp [loadVar, run_isAgg hu, hagg, run_sizeOf w hi, hl]
  | false =>
    obtain ⟨v, hp, hrv⟩ := run_part (P := P) (w := w) (ok := ok) (ft := t) (fo := 0) (xs := cs.toArray) (n := n) (d := d) (by
      have : (cs.toArray.toList.drop 0).take (P.cellsOf t) = cs := by simp [← hlen]
      rw [this]; exact hr)
    have hx : cs[0]? = some v := by
      unfold part at hp
      simp only [Sem.run_bind, run_isAgg hu, hagg, Result.andThen_ok, Bool.false_eq_true, if_false] at hp
      cases h0 : cs.toArray[0]? with
      | none => rw [h0] at hp; simp at hp
      | some v' => rw [h0] at hp; simp at hp; subst hp; simpa using h0
    have hcell := hrow 0 v hx
    refine ⟨v, ?_, hrv⟩
    simp only [loadVar, Sem.run_bind, run_isAgg hu, hagg, Result.andThen_ok, Bool.false_eq_true, if_false, run_load]
    have : y.add 0 = y := by simp [Addr.add]
    rw [this] at hcell
    rw [hcell]

theorem box_row {d : Nat} {cs : Array Value} {ty : TypeId} {fr : Nat × Nat} (h : w.heap[d]? = some (.cells cs ty fr)) (off m : Nat) : rowAt w ⟨d, off, none⟩ ((cs.toList.drop off).take m) := by
  intro j v hj
  rw [List.getElem?_take] at hj
  split at hj
  · rw [List.getElem?_drop] at hj
    have hadd : (⟨d, off, none⟩ : Addr).add j = ⟨d, off + j, none⟩ := by unfold Addr.add; split <;> simp_all
    rw [hadd]
    simp only [World.cell?, h]
    simpa using hj
  · cases hj

/-- What is read at an address is there. -/
theorem ldA_sound (R : RelX P base w0 okA st ok β a w) {t : TypeId} {x : AV} {v : Value} (hx : RepAV P w ok β st.bx x v) {d : D} (h : ldA P st t x = some d) :
    ∃ y u, v = .pointer (some y) ∧ (loadVar t y).run P w = .ok u w ∧ RepV P w ok t u d := by
  unfold ldA at h
  split at h
  · rename_i htag
    split at h
    · rename_i e he
      split at h
      · rename_i hty
        rw [Bool.and_eq_true, beq_iff_eq, beq_iff_eq] at hty
        obtain ⟨hty, hrz⟩ := hty
        obtain ⟨hv, h0, hk⟩ := hx.d2 htag e he hrz
        obtain ⟨cs, hcs, n, hn⟩ := R.box _ e he hrz
        split at h
        · rename_i hix
          split at h
          · rename_i het
            rw [beq_iff_eq] at het
            cases h
            obtain ⟨ho, _⟩ := h0 hix
            rw [het] at hn
            have hrow := box_row hcs 0 (P.cellsOf t)
            have e1 : (cs.toList.drop 0).take (P.cellsOf t) = cs.toList := by rw [List.drop_zero]; exact List.take_of_length_le (by rw [hn.len]; exact Nat.le_refl _)
            rw [e1] at hrow
            obtain ⟨u, hu1, hu2⟩ := run_loadVar hrow hn
            exact ⟨_, u, by rw [hv, ho], hu1, hu2.norm⟩
          · cases h
        · rename_i k hix
          split at h
          · rename_i f hf
            split at h
            · rename_i hft
              rw [beq_iff_eq] at hft
              cases h
              obtain ⟨g, hg, ho, _⟩ := hk k hix
              rw [hf] at hg
              cases hg
              obtain ⟨m, hm⟩ := hn.field hf
              rw [hft] at hm
              have hrow := box_row hcs f.offset (P.cellsOf t)
              obtain ⟨u, hu1, hu2⟩ := run_loadVar hrow hm
              exact ⟨_, u, by rw [hv, ← ho], hu1, hu2.norm⟩
            · cases h
          · cases h
      · cases h
    · cases h
  · split at h
    · rename_i htag
      split at h
      · rename_i hty
        rw [beq_iff_eq] at hty
        cases h
        obtain ⟨y, cs, n, hv, hoy, hrow, hrep⟩ := hx.d3 htag
        rw [hty] at hrep
        obtain ⟨u, hu1, hu2⟩ := run_loadVar hrow hrep
        exact ⟨y, u, hv, hu1, hu2.norm⟩
      · cases h
    · cases h

/-- What is written at an address. -/
theorem stA_sound (R : RelX P base w0 okA st ok β a w) {t : TypeId} {x : AV} {v u : Value} (hx : RepAV P w ok β st.bx x v) {d : D} (hu : RepV P w ok t u d) (h : stA P st t x d = some st') :
    ∃ y w', v = .pointer (some y) ∧ (storeVar t y u).run P w = .ok () w' ∧ ∃ β', RelX P base w0 okA st' ok β' a w' := by
  obtain ⟨⟨m, hm⟩, _⟩ := hu
  obtain ⟨_, i, _, hi⟩ := hm.info
  have hul := hm.len
  unfold stA at h
  split at h
  · rename_i htag
    split at h
    · rename_i e he
      split at h
      · rename_i hty
        rw [Bool.and_eq_true, beq_iff_eq, beq_iff_eq] at hty
        obtain ⟨hty, hrz⟩ := hty
        obtain ⟨hv, h0, hk⟩ := hx.d2 htag e he hrz
        obtain ⟨cs, hcs, n, hn⟩ := R.box _ e he hrz
        have hnl := hn.len
        have hstore : ∀ off, off + u.cells.toList.length ≤ cs.size → (storeVar t ⟨(β x.id).1, off, none⟩ u).run P w = .ok () (w.setRow (β x.id).1 (splice cs.toList off u.cells.toList).toArray) := by
          intro off hfit
          have hs := run_storeCells_at P (β x.id).1 off e.ty u.cells.toList 0 cs w hcs (by simpa using hfit) hm.one
          have : u.cells.size = P.cellsOf t := by simpa using hul
          simp only [storeVar, Sem.run_bind, run_sizeOf w hi, Result.andThen_ok, this, ne_eq, not_true_eq_false, if_false, Sem.run_ite, Sem.run_pure]
          simpa [splice] using hs
        split at h
        · rename_i hix
          split at h
          · rename_i het
            rw [beq_iff_eq] at het
            cases h
            obtain ⟨ho, _⟩ := h0 hix
            rw [← het] at hm hul
            have hfit : 0 + u.cells.toList.length ≤ cs.size := by simp at hnl hul ⊢; omega
            refine ⟨_, _, by rw [hv, ho], hstore 0 hfit, R.setBox (n := m) he hrz hcs ?_⟩
            have : (splice cs.toList 0 u.cells.toList) = u.cells.toList := by
              simp only [splice, List.take_zero, List.nil_append, Nat.zero_add]
              rw [List.drop_of_length_le (by omega)]
              simp
            rw [this]
            simpa using hm
          · cases h
        · rename_i k hix
          split at h
          · rename_i f hf
            split at h
            · rename_i hft
              rw [beq_iff_eq] at hft
              cases h
              obtain ⟨g, hg, ho, _⟩ := hk k hix
              rw [hf] at hg
              cases hg
              obtain ⟨fs, hus, hl, hkf⟩ := fieldOf_spec hf
              rw [← hft] at hm hul
              obtain ⟨n', hn'⟩ := hn.set hus hl hkf hm
              have hfit := (layOK_spec hl hkf hkf).1
              refine ⟨_, _, by rw [hv, ← ho], hstore f.offset (by simp at hnl hul ⊢; omega), R.setBox (n := n') he hrz hcs ?_⟩
              simpa using hn'
            · cases h
          · cases h
      · cases h
    · cases h
  · cases h

/-- EVERY OPERATION. -/
theorem evOp_sound (henv : EnvOK P env) (R : RelX P base w0 okA st ok β a w) (hc : chkOp P env st o = true) (h : evOp P env o st = some st') :
    o.wp P a w (fun a' w' => ∃ ok' β', RelX P base w0 okA st' ok' β' a' w') Q := by
  have hgood : ∀ {av : AV}, Live st av → o.wp P a w (Good P ok β st o av a w) Q → o.wp P a w (fun a' w' => ∃ ok' β', RelX P base w0 okA (st.put o.dst av) ok' β' a' w') Q := by
    intro av hl hg
    refine Oper.wp_mono ?_ hg
    rintro a' w' ⟨v, ok', rfl, hb, hk, hn, hr⟩
    exact ⟨ok', β, (R.grow hb hk hn).put hr hl o.dst⟩
  unfold evOp at h
  split at h
  · rename_i t x hop
    obtain ⟨d, hd, rfl⟩ := Option.map_eq_some_iff.1 h
    obtain ⟨y, u, hv, hl, hr⟩ := ldA_sound R (opd_rep R o.type x) hd
    refine hgood (live_of_ne (by simp [dat])) (good_value (v := u) ?_ (repAV_dat hr))
    unfold execOp
    simp [hop, Instr.loadAt, hv, Instr.sureAddr, hl]
  · rename_i t x y hop
    split at h
    · rename_i hcond
      simp only [Bool.and_eq_true, beq_iff_eq] at hcond
      obtain ⟨⟨hnone, ht⟩, hty⟩ := hcond
      have ry := (opd_rep R t y).d1 ht
      rw [hty] at ry
      obtain ⟨z, w', hv, hs, β', R'⟩ := stA_sound R (opd_rep R o.type x) ry h
      unfold Oper.wp
      have hx : (execOp a.eval o).run P w = .ok .skip w' := by
        unfold execOp
        simp [hop, Instr.storeAt, hv, Instr.sureAddr, hs]
      rw [hx]
      have hd : o.dst = none := by simpa using hnone
      show ∃ ok' β', RelX P base w0 okA st' ok' β' (a.put o.dst undef) w'
      rw [hd]
      exact ⟨ok, β', R'⟩
    · cases h
  · rename_i t x k hop
    split at h
    · rename_i f hf
      obtain ⟨av, rfl, hg, hl⟩ := good_fieldAddr (Q := Q) R hop hf h
      exact hgood hl hg
    · cases h
  · rename_i t hop
    split at h
    · rename_i d z hd hz
      split at h
      · rename_i hfr
        cases h
        obtain ⟨i, v, n, hi, hzv, hsz, hrep⟩ := zeroOf_spec hz
        unfold Oper.wp
        have hx : (execOp a.eval o).run P w = .ok (.value (.pointer (some ⟨w.heap.size, 0, none⟩))) (w.alloc (.cells v.cells t)) := by
          unfold execOp
          simp [hop, Instr.alloc, zeroValue, typeInfo, hi, hzv, newVar, newRow]
        rw [hx]
        refine ⟨ok, fun i => if i = d then (w.heap.size, 0) else β i, ?_⟩
        have R' := R.newBox (by simpa using hfr) (hrep w ok)
        rw [hd]
        refine R'.put ⟨by simp [bxp], fun _ e he _ => ?_, fun _ e he hr => ?_, by simp [bxp], by simp [bxp], by simp [bxp]⟩ (fun _ => by rw [upd_bx]; simp [bxp]) (some d)
        rotate_left
        · rw [upd_bx] at he
          simp only [bxp, if_true, Option.some.injEq] at he
          subst he
          exact absurd rfl hr
        rw [upd_bx] at he
        simp only [bxp, if_true, Option.some.injEq] at he ⊢
        subst he
        exact ⟨by trivial, fun _ => ⟨by trivial, by trivial⟩, fun k hk => by omega⟩
      · cases h
    · cases h
  · rename_i t x hop
    split at h
    · rename_i d hd
      split at h
      · rename_i hcond
        simp only [Bool.and_eq_true, beq_iff_eq] at hcond
        obtain ⟨⟨hfr, ht⟩, hty⟩ := hcond
        cases h
        have rx := (opd_rep R t x).d1 ht
        rw [hty] at rx
        obtain ⟨⟨n, hn⟩, _⟩ := rx
        unfold Oper.wp
        have hx : (execOp a.eval o).run P w = .ok (.value (.pointer (some ⟨w.heap.size, 0, none⟩))) (w.alloc (.cells (a.eval x).cells t)) := by
          unfold execOp
          simp [hop, Instr.box, newVar, newRow]
        rw [hx]
        refine ⟨ok, fun i => if i = d then (w.heap.size, 0) else β i, ?_⟩
        have R' := R.newBox (by simpa using hfr) hn
        rw [hd]
        refine R'.put ⟨by simp [bxp], fun _ e he _ => ?_, fun _ e he hr => ?_, by simp [bxp], by simp [bxp], by simp [bxp]⟩ (fun _ => by rw [upd_bx]; simp [bxp]) (some d)
        rotate_left
        · rw [upd_bx] at he
          simp only [bxp, if_true, Option.some.injEq] at he
          subst he
          exact absurd rfl hr
        rw [upd_bx] at he
        simp only [bxp, if_true, Option.some.injEq] at he ⊢
        subst he
        exact ⟨by trivial, fun _ => ⟨by trivial, by trivial⟩, fun k hk => by omega⟩
      · cases h
    · cases h
  · rename_i x hop
    split at h
    rotate_left
    · obtain ⟨v, hv, rfl⟩ := Option.map_eq_some_iff.1 h
      exact hgood (evVal_live R.nd hv) (evVal_sound henv R hc hv)
    rename_i hnil
    have hxn : x = .const (.slice none 0 0) := by
      unfold isNilC at hnil
      split at hnil
      · rfl
      · cases hnil
    subst hxn
    unfold nilRow at h
    split at h
    · rename_i d el hd hso
      split at h
      · rename_i hfr
        cases h
        have hfr' : st.bx d = none := by simpa using hfr
        obtain ⟨hu, h1, hpos, _⟩ := sliceOf_spec hso
        unfold Oper.wp
        have hx : (execOp a.eval o).run P w = .ok (.value (.slice none 0 0)) w := by
          unfold execOp
          simp [hop, Act.eval]
        rw [hx]
        have R' := R.put1 (st' := st.upd d ⟨o.type, .slice [] [], 1⟩) (b := (0, 0)) (w' := w) (upd_bx d _) rfl (Below.refl _ _) (Nat.le_refl _) (fun _ _ _ => rfl) (fun h => by cases h) (fun h => by cases h)
          (fun _ _ => ⟨el, hu, h1, hpos, ⟨[], rfl⟩, fun h => by cases h⟩) (fun _ i => by
            have hs := R.slot i
            have hne : (st.get i).tag = 2 → (st.get i).id ≠ d := fun ht hid => by
              have := R.nd i ht
              rw [hid, hfr'] at this
              cases this
            refine ⟨hs.d1, fun ht e he => ?_, fun ht e he => ?_, hs.d3, hs.d6, hs.d9⟩
            · rw [upd_get] at ht he ⊢
              rw [upd_bx, if_neg (hne ht)] at he
              simp only [hne ht, if_false]
              exact hs.d2 ht e he
            · rw [upd_get] at ht he ⊢
              rw [upd_bx, if_neg (hne ht)] at he
              simp only [hne ht, if_false]
              exact hs.d5 ht e he) (fun i ht => by
            rw [upd_get] at ht ⊢
            rw [upd_bx]
            split
            · rfl
            · exact R.nd i ht)
        refine ⟨ok, fun i => if i = d then (0, 0) else β i, ?_⟩
        rw [hd]
        refine R'.put ⟨by simp [bxp], fun _ e he hr => ?_, fun _ e he hr _ => ?_, by simp [bxp], by simp [bxp], by simp [bxp]⟩ (fun _ => by rw [upd_bx]; simp [bxp]) (some d)
        · rw [upd_bx] at he
          simp only [bxp, if_true, Option.some.injEq] at he
          subst he
          cases hr
        · rw [upd_bx] at he
          simp only [bxp, if_true, Option.some.injEq] at he
          subst he
          rfl
      · cases h
    · cases h
  · rename_i c hop
    split at h
    · rename_i s x t happ
      unfold appRow at h
      split at h
      · rename_i el d e hso hd hro
        split at h
        · rename_i hcond
          rw [Bool.and_eq_true, beq_iff_eq, beq_iff_eq] at hcond
          cases h
          have hcs := appOf_spec happ
          have rx := (opd_rep R t x).d1 hcond.1
          rw [hcond.2] at rx
          have hb : (elemsD e.d).length + (elemsD (opd P st t x).d).length ≤ 2147483648 := by
            simpa only [chkOp, hop, happ, hro, decide_eq_true_eq] using hc
          obtain ⟨v', w', b, hrun, hv', R'⟩ := append_sound R hso hro rx hb o.type
          unfold Oper.wp
          have hx : (execOp a.eval o).run P w = .ok (.value v') w' := by
            unfold execOp
            have he : a.eval (.tmp s) = a.tmps.getD s undef := rfl
            simp only [hop, hcs, resolve, invoke, builtin, Sem.run_bind, Sem.run_pure, Result.andThen_ok, List.map_toArray, List.map_cons, List.map_nil, he, hrun]
          rw [hx]
          refine ⟨ok, fun i => if i = (st.get s).id then b else β i, ?_⟩
          rw [hd]
          refine R'.put ⟨by simp [bxp], fun _ f hf hr => ?_, fun _ f hf hr _ => ?_, by simp [bxp], by simp [bxp], by simp [bxp]⟩ (fun _ => by rw [renew_bx]; simp [bxp]) (some d)
          · rw [renew_bx] at hf
            simp only [bxp, if_true, Option.some.injEq] at hf
            subst hf
            exact absurd hr (rowOf_spec hro).2.2.2.2
          · rw [renew_bx] at hf
            simp only [bxp, if_true, Option.some.injEq] at hf ⊢
            subst hf
            exact hv'
        · cases h
      · cases h
    · obtain ⟨v, hv, rfl⟩ := Option.map_eq_some_iff.1 h
      exact hgood (evVal_live R.nd hv) (evVal_sound henv R hc hv)
  · obtain ⟨v, hv, rfl⟩ := Option.map_eq_some_iff.1 h
    exact hgood (evVal_live R.nd hv) (evVal_sound henv R hc hv)

end
end Go.Ev
