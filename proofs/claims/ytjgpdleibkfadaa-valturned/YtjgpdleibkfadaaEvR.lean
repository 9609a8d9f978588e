/- Rows: 'append' to a slice of the call's own, and a row that is data from then on. Nothing here is trusted. -/
import Derived.Test.YtjgpdleibkfadaaEv5
import Derived.ArgAppend
namespace Go.Ev
open Go.RowKit
set_option linter.unusedVariables false
set_option linter.unusedSimpArgs false

section
variable {P : Program} {w w' : World} {ok ok' : Nat → Prop} {β : Nat → Nat × Nat}
variable {base : Nat} {w0 : World} {okA : Nat → Prop} {st st' : St} {a : Act} {env : Env} {o : Oper} {av : AV} {Q : Exit → Act → World → Prop}

/-- The cells of a slice's elements, one behind the other. -/
theorem flat_cells {el : TypeId} {n : Nat} : ∀ (es : List D) (x : Addr), (∀ i y, es[i]? = some y → ∃ c : List Value, rowAt w (x.add (i * P.cellsOf el)) c ∧ Rep P w ok n el c y) →
    ∃ news : List Value, news.length = es.length * P.cellsOf el ∧ (∀ j u, news[j]? = some u → w.cell? (x.add j) = some u) ∧ (∀ u ∈ news, u.oneCell' = true) ∧
      ∀ i y, es[i]? = some y → Rep P w ok n el ((news.drop (i * P.cellsOf el)).take (P.cellsOf el)) y
  | [], x, _ => ⟨[], by simp, by simp, by simp, by simp⟩
  | y :: es, x, h => by
    obtain ⟨c, hc, hr⟩ := h 0 y rfl
    have hz : x.add (0 * P.cellsOf el) = x := by rw [Nat.zero_mul]; unfold Addr.add; split <;> simp_all
    rw [hz] at hc
    obtain ⟨news, h1, h2, h3, h4⟩ := flat_cells es (x.add (P.cellsOf el)) (fun i z hz => by
      obtain ⟨c, hc, hr⟩ := h (i + 1) z (by simpa using hz)
      refine ⟨c, ?_, hr⟩
      rw [add_add]
      have e : P.cellsOf el + i * P.cellsOf el = (i + 1) * P.cellsOf el := by rw [Nat.succ_mul]; omega
      rw [e]
      exact hc)
    have hl := hr.len
    refine ⟨c ++ news, by rw [List.length_append, h1, hl, List.length_cons, Nat.succ_mul]; omega, fun j u hu => ?_, fun u hu => ?_, fun i z hz => ?_⟩
    · by_cases hj : j < c.length
      · rw [List.getElem?_append_left hj] at hu
        exact hc j u hu
      · rw [List.getElem?_append_right (by omega)] at hu
        have := h2 _ u hu
        rw [add_add] at this
        have e : P.cellsOf el + (j - c.length) = j := by omega
        rw [e] at this
        exact this
    · rcases List.mem_append.1 hu with hu | hu
      · exact hr.one u hu
      · exact h3 u hu
    · cases i with
      | zero =>
        have : z = y := by simpa using hz.symm
        subst this
        rw [Nat.zero_mul, List.drop_zero, List.take_append_of_le_length (by omega), List.take_of_length_le (by omega)]
        exact hr
      | succ i =>
        have e : (i + 1) * P.cellsOf el = c.length + i * P.cellsOf el := by rw [Nat.succ_mul, hl]; omega
        rw [e, List.drop_append, List.drop_of_length_le (by omega), List.nil_append, Nat.add_sub_cancel_left]
        exact h4 i z (by simpa using hz)

theorem part_app {es xs : List D} {olds news : List Value} {el : TypeId} {n m : Nat} (hlo : olds.length = es.length * P.cellsOf el) (hln : news.length = xs.length * P.cellsOf el)
    (ho : ∀ i y, es[i]? = some y → Rep P w ok n el ((olds.drop (i * P.cellsOf el)).take (P.cellsOf el)) y) (hn : ∀ i y, xs[i]? = some y → Rep P w ok m el ((news.drop (i * P.cellsOf el)).take (P.cellsOf el)) y) :
    ∀ i y, (es ++ xs)[i]? = some y → Rep P w ok (n + m) el (((olds ++ news).drop (i * P.cellsOf el)).take (P.cellsOf el)) y := by
  intro i y hy
  by_cases hi : i < es.length
  · rw [List.getElem?_append_left hi] at hy
    have h1 : i * P.cellsOf el + P.cellsOf el ≤ olds.length := by rw [hlo, ← Nat.succ_mul]; exact Nat.mul_le_mul_right _ hi
    rw [List.drop_append_of_le_length (by omega), List.take_append_of_le_length (by simp; omega)]
    exact (ho i y hy).le (by omega)
  · rw [List.getElem?_append_right (by omega)] at hy
    have e : i * P.cellsOf el = olds.length + (i - es.length) * P.cellsOf el := by
      rw [hlo, ← Nat.add_mul]
      congr 1
      omega
    rw [e, List.drop_append, List.drop_of_length_le (by omega), List.nil_append, Nat.add_sub_cancel_left]
    exact (hn _ y hy).le (by omega)

theorem part_take {all cur : List Value} {k sz L : Nat} (h : cur.take (L * sz) = all) (hk : k < L) : (all.drop (k * sz)).take sz = (cur.drop (k * sz)).take sz := by
  have h1 : k * sz + sz ≤ L * sz := by rw [← Nat.succ_mul]; exact Nat.mul_le_mul_right _ hk
  rw [← h, List.drop_take, List.take_take]
  congr 1
  omega

theorem mk_row {t el : TypeId} {es : List D} {all : List Value} {cur : Array Value} {g cap N r : Nat} (hu : P.underlying t = some (.slice el)) (h1 : P.cellsOf t = 1) (hpos : 0 < P.cellsOf el)
    (hg : w'.heap[g]? = some (.cells cur el (0, 0))) (hle : es.length ≤ cap) (hm : cap ≤ maxLen) (hs : cur.size = cap * P.cellsOf el) (ht : cur.toList.take (es.length * P.cellsOf el) = all)
    (hr : ∀ i y, es[i]? = some y → Rep P w ok N el ((all.drop (i * P.cellsOf el)).take (P.cellsOf el)) y) (hsame : ∀ b, ok b → w'.heap[b]? = w.heap[b]?) : RowOK P w' ok (g, cap) ⟨t, .slice es [], r⟩ := by
  refine ⟨el, hu, h1, hpos, ⟨es, rfl⟩, fun _ => ⟨cur, N, hg, hle, hm, hs, fun i y hy => ?_⟩⟩
  have hi : i < es.length := (List.getElem?_eq_some_iff.1 hy).1
  have := (hr i y hy).move hsame (ok' := ok) (fun _ h => h)
  rw [part_take ht hi] at this
  exact this

theorem rowOf_spec {s : Nat} {t : TypeId} {e : Ent} (h : rowOf st s t = some e) : (st.get s).tag = 2 ∧ (st.get s).ix = 0 ∧ st.bx (st.get s).id = some e ∧ e.ty = t ∧ e.row ≠ 0 := by
  unfold rowOf at h
  split at h
  · rename_i hc
    simp only [Bool.and_eq_true, beq_iff_eq] at hc
    split at h
    · rename_i f hf
      split at h
      · rename_i hc2
        simp only [Bool.and_eq_true, beq_iff_eq, bne_iff_ne] at hc2
        cases h
        exact ⟨hc.1, hc.2, hf, hc2.1, hc2.2⟩
      · cases h
    · cases h
  · cases h

theorem sliceOf_spec {t el : TypeId} (h : sliceOf P t = some el) : P.underlying t = some (.slice el) ∧ P.cellsOf t = 1 ∧ 0 < P.cellsOf el ∧ ∃ i z, P.info? el = some i ∧ i.zero = some z ∧ i.size = P.cellsOf el ∧ z.cells.size = P.cellsOf el ∧ i.bytes ≤ 65536 := by
  unfold sliceOf at h
  split at h
  · rename_i el' hu
    split at h
    · rename_i hc
      cases h
      unfold elemOK at hc
      simp only [Bool.and_eq_true, beq_iff_eq, decide_eq_true_eq] at hc
      obtain ⟨h1, ⟨hz, hpos⟩, hb⟩ := hc
      obtain ⟨z, hz⟩ := Option.isSome_iff_exists.1 hz
      obtain ⟨i, v, n, hi, hzv, hsz, _⟩ := zeroOf_spec hz
      rw [hi] at hb
      refine ⟨hu, h1, hpos, i, v, hi, hzv, ?_, hsz, by simpa using hb⟩
      unfold Program.cellsOf
      rw [hi]
      rfl
    · cases h
  · cases h

theorem appOf_spec {c : Call} {s : Nat} {x : Operand} {t : TypeId} (h : appOf c = some (s, x, t)) : c = { callee := .builtin .append, args := #[.tmp s, x], argTypes := #[t, t] } := by
  unfold appOf at h
  split at h
  · rename_i hb ha ht
    split at h
    · rename_i hc
      rw [beq_iff_eq] at hc
      cases h
      subst hc
      obtain ⟨cc, ca, ct⟩ := c
      simp only at hb ha ht
      have e1 : ca = #[.tmp s, x] := by apply Array.ext'; rw [ha]
      have e2 : ct = #[t, t] := by apply Array.ext'; rw [ht]
      rw [hb, e1, e2]
    · cases h
  · cases h

/-- 'append'. -/
theorem append_sound (R : RelX P base w0 okA st ok β a w) {t el : TypeId} (hso : sliceOf P t = some el) {s : Nat} {e : Ent} (hro : rowOf st s t = some e) {x : Value} {xd : D} (hx : RepV P w ok t x xd)
    (hb : (elemsD e.d).length + (elemsD xd).length ≤ 2147483648) (ty : TypeId) :
    ∃ v' w' b, (Builtin.append_ #[t, t] ty #[a.tmps.getD s undef, x]).run P w = .ok v' w' ∧ v' = hv b ⟨t, .slice (elemsD e.d ++ elemsD xd) [], e.row⟩ ∧
      RelX P base w0 okA (st.renew (st.get s).id ⟨t, .slice (elemsD e.d ++ elemsD xd) [], e.row⟩) ok (fun i => if i = (st.get s).id then b else β i) a w' := by
  obtain ⟨hu, h1, hpos, i, z, hi, hz, hsize, hzs, hbytes⟩ := sliceOf_spec hso
  obtain ⟨htag, hix, he, hety, hrow⟩ := rowOf_spec hro
  have hval := (R.slot s).d5 htag e he hrow hix
  rw [hval]
  obtain ⟨el', hu', _, _, ⟨es, hes⟩, hlive⟩ := R.row _ e he hrow
  rw [hety, hu] at hu'
  cases hu'
  obtain ⟨m, xs, ax, capx, rfl, rfl, hx1, hx2, hx3, hx4⟩ := hx.slice hu
  have hed : elemsD e.d = es := by rw [hes]; rfl
  have hxd : elemsD (.slice xs [] : D) = xs := rfl
  rw [hed] at hb ⊢
  rw [hxd] at hb ⊢
  generalize hid : (st.get s).id = id at *
  have hbnd : (es.length + xs.length) * i.bytes ≤ 140737488355328 := by
    have := Nat.mul_le_mul hb hbytes
    omega
  have h63 : es.length + xs.length ≤ maxLen := by unfold maxLen; omega
  -- the cells of what is appended
  have hlv : ∀ l : List D, Ent.live ⟨t, .slice l [], e.row⟩ = (e.row != 1 || !l.isEmpty) := fun _ => rfl
  have hel : e.live = (e.row != 1 || !es.isEmpty) := by unfold Ent.live; rw [hed]
  cases ax with
  | none =>
    have hc0 := hx3 rfl
    have hxs : xs = [] := List.eq_nil_of_length_eq_zero (by omega)
    subst hxs
    subst hc0
    have hsame : (⟨t, .slice (es ++ []) [], e.row⟩ : Ent) = e := by rw [List.append_nil]; cases e; simp_all
    rw [hsame]
    have hown : ∃ xs', w.ownsRow base el (P.cellsOf el) (hv (β id) e) es.length xs' := by
      unfold hv
      split
      · rename_i hl
        obtain ⟨cur, n, g1, g2, g3, g4, g5⟩ := hlive hl
        rw [hed] at g2 ⊢
        exact ⟨cur.toList.take (es.length * P.cellsOf el), by rw [List.length_take, show cur.toList.length = cur.size from Array.length_toList, g4]; exact Nat.min_eq_left (Nat.mul_le_mul_right _ g2), .inr ⟨(β id).1, (β id).2, cur, rfl, (R.own id e he hl).1, g1, g2, g3, g4, rfl⟩⟩
      · rename_i hl
        rw [hel] at hl
        have : es = [] := by
          cases es with
          | nil => rfl
          | cons y l => simp at hl
        subst this
        exact ⟨[], by simp, .inl ⟨rfl, rfl⟩⟩
    obtain ⟨xs', hown⟩ := hown
    refine ⟨_, w, β id, run_append_owned_none (P := P) w base t ty el i (P.cellsOf el) hu hi _ _ _ hown, rfl, ?_⟩
    refine R.newRow hrow (Below.refl _ _) (Nat.le_refl _) (fun _ _ _ => rfl) (fun hl => ⟨(R.own id e he hl).2, .inr ⟨rfl, e, he, hl⟩⟩) (fun _ => R.row id e he hrow)
  | some ad =>
    obtain ⟨news, n1, n2, n3, n4⟩ := flat_cells (P := P) (w := w) (ok := ok) (n := m) (el := el) xs ad (fun i y hy => (hx4 ad rfl i y hy).2)
    cases hl : e.live with
    | false =>
      rw [hel] at hl
      have hes0 : es = [] := by
        cases es with
        | nil => rfl
        | cons y l => simp at hl
      subst hes0
      have hr1 : e.row = 1 := by simpa using hl
      have hvn : hv (β id) e = .slice none 0 0 := by unfold hv; rw [hel, hl]; rfl
      rw [hvn]
      obtain ⟨v', w1, hrun, hown, hgr, hnil⟩ := run_append_own (P := P) w w.heap.size t ty el i z (P.cellsOf el) i.bytes hu hi hz hsize rfl hzs hpos (.slice none 0 0) 0 [] (World.ownsRow_nil w _ el _) ad xs.length capx news n1 n2 n3
        (by simpa using h63) (by simpa using hbnd) (Nat.le_refl _)
      have hblk : ∀ k, k < w.heap.size → w1.heap[k]? = w.heap[k]? := fun k hk => hgr.block k hk (by simp [Value.ownBlock])
      have hbel : Below base w w1 := ⟨hgr.os, hgr.tape, hgr.output, hgr.size, fun k hk => hblk k (Nat.lt_of_lt_of_le hk R.bas)⟩
      rcases hown.2 with ⟨rfl, hm0⟩ | ⟨g, cap, cur, rfl, hgb, hgg, hle, hcm, hcs, htake⟩
      · have hxs : xs = [] := List.eq_nil_of_length_eq_zero (by omega)
        subst hxs
        have hnl : Ent.live ⟨t, .slice ([] ++ []) [], e.row⟩ = false := by rw [hlv, hr1]; rfl
        refine ⟨_, w1, β id, hrun, ?_, R.newRow hrow hbel hgr.size (fun k hk _ => hblk k hk) (fun h => by rw [hnl] at h; cases h) (fun _ => ⟨el, hu, h1, hpos, ⟨[], rfl⟩, fun h => by rw [hnl] at h; cases h⟩)⟩
        unfold hv
        rw [hnl]
        rfl
      · have hg' : g < w1.heap.size := (Array.getElem?_eq_some_iff.1 hgg).1
        rw [Nat.zero_add] at hle htake
        by_cases hxs : xs = []
        · exfalso
          subst hxs
          have := hnil.2 ⟨rfl, rfl⟩
          cases this
        · have hlt : Ent.live ⟨t, .slice ([] ++ xs) [], e.row⟩ = true := by
            rw [hlv, List.nil_append]
            cases xs with
            | nil => exact absurd rfl hxs
            | cons y l => simp
          refine ⟨_, w1, (g, cap), hrun, ?_, R.newRow hrow hbel hgr.size (fun k hk _ => hblk k hk) (fun _ => ⟨hg', .inl hgb⟩) (fun hsame => ?_)⟩
          · unfold hv
            rw [hlt]
            simp [elemsD]
          · rw [List.nil_append]
            exact mk_row hu h1 hpos hgg hle hcm hcs htake (by simpa using n4) hsame
    | true =>
      obtain ⟨cur, n, g1, g2, g3, g4, g5⟩ := hlive hl
      rw [hed] at g2 g5
      have hownb := R.own id e he hl
      have hvl : hv (β id) e = .slice (some ⟨(β id).1, 0, none⟩) es.length (β id).2 := by unfold hv; rw [hl, hed]; rfl
      rw [hvl]
      have hlt : Ent.live ⟨t, .slice (es ++ xs) [], e.row⟩ = true := by
        rw [hlv]
        rw [hel] at hl
        cases hrr : (e.row != 1) with
        | true => rfl
        | false =>
          rw [hrr] at hl
          cases es with
          | nil => simp at hl
          | cons y l => simp
      have hlo : (cur.toList.take (es.length * P.cellsOf el)).length = es.length * P.cellsOf el := by
        rw [List.length_take, show cur.toList.length = cur.size from Array.length_toList, g4]; exact Nat.min_eq_left (Nat.mul_le_mul_right _ g2)
      have hold : ∀ i y, es[i]? = some y → Rep P w ok n el (((cur.toList.take (es.length * P.cellsOf el)).drop (i * P.cellsOf el)).take (P.cellsOf el)) y := by
        intro i y hy
        rw [part_take rfl (List.getElem?_eq_some_iff.1 hy).1]
        exact g5 i y hy
      have hall := part_app hlo n1 hold n4
      by_cases hroom : es.length + xs.length ≤ (β id).2
      · have hfit : es.length * i.size + news.length ≤ cur.size := by rw [n1, g4, hsize, ← Nat.add_mul]; exact Nat.mul_le_mul_right _ hroom
        have hrun := run_append_room (P := P) w t ty el i hu hi (β id).1 es.length (β id).2 cur g1 ad xs.length capx news (by rw [hsize]; exact n1) n2 n3 hroom hfit
        rw [hsize] at hrun
        have hoth : ∀ (cs : Array Value) k, k ≠ (β id).1 → (w.setRow (β id).1 cs).heap[k]? = w.heap[k]? := fun cs k hk => setRow_other w (β id).1 k cs hk
        have hsz : ∀ (cs : Array Value), (w.setRow (β id).1 cs).heap.size = w.heap.size := fun cs => by simp [World.setRow]
        refine ⟨_, _, β id, hrun, ?_, R.newRow hrow ⟨rfl, rfl, rfl, by rw [hsz]; exact Nat.le_refl _, fun k hk => hoth _ k (by omega)⟩ (by rw [hsz]; exact Nat.le_refl _) (fun k _ hk => hoth _ k (hk e he hl))
          (fun _ => ⟨by rw [hsz]; exact hownb.2, .inr ⟨rfl, e, he, hl⟩⟩) (fun hsame => ?_)⟩
        · unfold hv
          rw [hlt]
          simp [elemsD]
        · refine mk_row (g := (β id).1) (cap := (β id).2) hu h1 hpos (setRow_heap w (β id).1 cur _ el (0, 0) g1) (by simpa using hroom) g3 ?_ ?_ hall hsame
          · simp only [List.size_toArray, List.length_append, List.length_drop, hlo, n1, Array.length_toList, g4]
            rw [hsize, g4, n1] at hfit
            omega
          · have e1 : (es ++ xs).length * P.cellsOf el = (cur.toList.take (es.length * P.cellsOf el) ++ news).length := by
              rw [List.length_append, List.length_append, hlo, n1, Nat.add_mul]
            simp only [List.toList_toArray]
            rw [e1]
            exact List.take_left
      · obtain ⟨v', w1, hrun, hown, hgr⟩ := run_append_arg_grows (P := P) w t ty el i z (P.cellsOf el) i.bytes hu hi hz hsize rfl hzs hpos ⟨(β id).1, 0, none⟩ es.length (β id).2 (cur.toList.take (es.length * P.cellsOf el)) hlo
          (fun j u hj => by
            rw [List.getElem?_take] at hj
            split at hj
            · have hadd : (⟨(β id).1, 0, none⟩ : Addr).add j = ⟨(β id).1, j, none⟩ := by unfold Addr.add; split <;> simp_all
              rw [hadd]
              simp only [World.cell?, g1]
              simpa using hj
            · cases hj) ad xs.length capx news n1 n2 (by omega) h63 hbnd
        have hblk : ∀ k, k < w.heap.size → w1.heap[k]? = w.heap[k]? := fun k hk => hgr.block k hk (by simp)
        have hbel : Below base w w1 := ⟨hgr.os, hgr.tape, hgr.output, hgr.size, fun k hk => hblk k (Nat.lt_of_lt_of_le hk R.bas)⟩
        rcases hown.2 with ⟨rfl, hm0⟩ | ⟨g, cap, cur', rfl, hgb, hgg, hle, hcm, hcs, htake⟩
        · omega
        · refine ⟨_, w1, (g, cap), hrun, ?_, R.newRow hrow hbel hgr.size (fun k hk _ => hblk k hk) (fun _ => ⟨(Array.getElem?_eq_some_iff.1 hgg).1, .inl hgb⟩) (fun hsame => ?_)⟩
          · unfold hv
            rw [hlt]
            simp [elemsD]
          · exact mk_row hu h1 hpos hgg (by simpa using hle) hcm hcs (by rw [List.length_append]; exact htake) hall hsame

/-! ### A row that is handed on -/
theorem still_get {i : Nat} {e : Ent} (he : st.bx i = some e) (h0 : e.row ≠ 0) (j : Nat) : (st.still i).get j = stillA i e (st.get j) := by
  have hb : (e.row == 0) = false := by simpa using h0
  unfold St.still
  rw [he]
  simp only [hb, Bool.false_eq_true, if_false]
  show (st.sl.map (stillA i e)).getD j dead = stillA i e (st.sl.getD j dead)
  rw [List.getD_eq_getElem?_getD, List.getD_eq_getElem?_getD, List.getElem?_map]
  cases st.sl[j]? with
  | none => rfl
  | some v => rfl

theorem row_data {b : Nat × Nat} {e : Ent} (h : RowOK P w ok b e) (h0 : e.row ≠ 0) (hk : ∀ b, ok b → ok' b) (hb : e.live = true → ok' b.1) : RepV P w ok' e.ty (hv b e) e.d := by
  obtain ⟨el, hu, h1, hpos, ⟨es, hes⟩, hl⟩ := h
  have hed : elemsD e.d = es := by rw [hes]; rfl
  unfold hv
  split
  · rename_i hlv
    obtain ⟨cur, n, g1, g2, g3, g4, g5⟩ := hl hlv
    rw [hed] at g2 g5 ⊢
    refine ⟨⟨n + 1, by simp [Value.cells, h1], by simp [Value.cells, Value.oneCell'], ?_⟩, by simp [isAggB, hu], fun _ => rfl⟩
    rw [hu, hes]
    refine ⟨rfl, some ⟨b.1, 0, none⟩, b.2, by simp [Value.cells], g2, g3, by simp, fun x hx i y hy => ?_⟩
    cases hx
    refine ⟨hb hlv, (cur.toList.drop (i * P.cellsOf el)).take (P.cellsOf el), fun j v hj => ?_, (g5 i y hy).move (fun _ _ => rfl) hk⟩
    rw [List.getElem?_take] at hj
    split at hj
    · rw [List.getElem?_drop] at hj
      have hadd : ((⟨b.1, 0, none⟩ : Addr).add (i * P.cellsOf el)).add j = ⟨b.1, i * P.cellsOf el + j, none⟩ := by
        rw [add_add]; unfold Addr.add; split <;> simp_all
      rw [hadd]
      simp only [World.cell?, g1]
      simpa using hj
    · cases hj
  · rename_i hlv
    have hes0 : es = [] := by
      unfold Ent.live at hlv
      rw [hed] at hlv
      cases es with
      | nil => rfl
      | cons y l => simp at hlv
    subst hes0
    refine ⟨⟨1, by simp [Value.cells, h1], by simp [Value.cells, Value.oneCell'], ?_⟩, by simp [isAggB, hu], fun _ => rfl⟩
    rw [hu, hes]
    exact ⟨rfl, none, 0, by simp [Value.cells], Nat.le_refl _, Nat.zero_le _, fun _ => rfl, fun x hx => by cases hx⟩

theorem RelX.still (R : RelX P base w0 okA st ok β a w) (i : Nat) : ∃ ok', RelX P base w0 okA (st.still i) ok' β a w := by
  cases he : st.bx i with
  | none =>
    have : st.still i = st := by unfold St.still; rw [he]
    rw [this]
    exact ⟨ok, R⟩
  | some e =>
    by_cases h0 : e.row = 0
    · have : st.still i = st := by unfold St.still; rw [he]; simp [h0]
      rw [this]
      exact ⟨ok, R⟩
    · have hbf : (e.row == 0) = false := by simpa using h0
      have hbx : ∀ j f, (st.still i).bx j = some f → j ≠ i ∧ st.bx j = some f := by
        intro j f h
        unfold St.still at h
        rw [he] at h
        simp only [hbf, Bool.false_eq_true, if_false] at h
        split at h
        · cases h
        · rename_i hne; exact ⟨hne, h⟩
      have hbx' : ∀ j, j ≠ i → (st.still i).bx j = st.bx j := by
        intro j hne
        unfold St.still
        rw [he]
        simp only [hbf, Bool.false_eq_true, if_false]
        rw [if_neg hne]
      have hlen : (st.still i).sl.length = st.sl.length := by
        unfold St.still
        rw [he]
        simp [hbf]
      have hk : ∀ b, ok b → (ok b ∨ (e.live = true ∧ b = (β i).1)) := fun b h => .inl h
      refine ⟨fun b => ok b ∨ (e.live = true ∧ b = (β i).1), by rw [hlen]; exact R.len, R.df, R.bel, R.bas, fun b h => ?_, fun b j f h hj hl => ?_, fun j k f g hj hk' hfl hgl heq => R.inj j k f g (hbx j f hj).2 (hbx k g hk').2 hfl hgl heq,
        fun j f hj hl => R.own j f (hbx j f hj).2 hl, fun j f hj hr => ?_, fun j f hj hr => (R.row j f (hbx j f hj).2 hr).move (fun _ => rfl) (fun _ _ => rfl) hk, fun j => ?_, fun j ht => ?_⟩
      · rcases h with h | ⟨hl, rfl⟩
        · exact R.okb b h
        · exact ⟨(R.own i e he hl).2, .inr (R.own i e he hl).1⟩
      · rcases h with h | ⟨hle, rfl⟩
        · exact R.sep b j f h (hbx j f hj).2 hl
        · intro heq
          exact (hbx j f hj).1 (R.inj j i f e (hbx j f hj).2 he hl hle heq)
      · obtain ⟨cs, c1, n, c2⟩ := R.box j f (hbx j f hj).2 hr
        exact ⟨cs, c1, n, c2.move (fun _ _ => rfl) hk⟩
      · rw [still_get he h0]
        unfold stillA
        have hs := R.slot j
        split
        · rename_i hc
          simp only [Bool.and_eq_true, beq_iff_eq] at hc
          split
          · rename_i hix
            have hix' : (st.get j).ix = 0 := by simpa using hix
            have hv' := hs.d5 hc.1 e (by rw [hc.2]; exact he) h0 hix'
            rw [hv', hc.2]
            exact repAV_dat (row_data (R.row i e he h0) h0 hk (fun hl => .inr ⟨hl, rfl⟩))
          · exact repAV_dead _
        · have hm := hs.move (w' := w) (fun _ _ => rfl) hk
          exact ⟨hm.d1, fun ht f hf => hm.d2 ht f (hbx _ f hf).2, fun ht f hf => hm.d5 ht f (hbx _ f hf).2, hm.d3, hm.d6, hm.d9⟩
      · rw [still_get he h0] at ht ⊢
        unfold stillA at ht ⊢
        split at ht
        · split at ht
          · simp [dat] at ht
          · simp [dead] at ht
        · rename_i hc
          rw [if_neg hc]
          have hne : (st.get j).id ≠ i := fun hh => hc (by simp [ht, hh])
          rw [hbx' _ hne]
          exact R.nd j ht

end
end Go.Ev
