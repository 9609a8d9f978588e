/- Trees of functions, and lemmas. Nothing here is trusted. -/
import Derived.Test.YtngkmngbnlmgjaaZ05
import Derived.ArgAppend
namespace Go.Ev
open Go.RowKit
set_option linter.unusedVariables false
set_option linter.unusedSimpArgs false
section
variable {P : Program} {w w' : World} {ok ok' : Nat -> Prop} {β : Nat -> Nat × Nat}
variable {F : Fr P} {st st' : St} {a : Act} {env : Env} {o : Oper} {av : AV} {Q : Exit -> Act -> World -> Prop}

/-- The cells of a slice's elements, one behind the other. -/
theorem flat_cells {el : TypeId} {n : Nat} : ∀ (es : List D) (x : Addr), (∀ i y, es[i]? = some y -> ∃ c : List Value, rowAt w (x.add (i * P.cellsOf el)) c /\ Rep P w ok n el c y) ->
  ∃ news : List Value, news.length = es.length * P.cellsOf el /\ (∀ j u, news[j]? = some u -> w.cell? (x.add j) = some u) /\ (∀ u ∈ news, u.oneCell' = true) /\
   ∀ i y, es[i]? = some y -> Rep P w ok n el ((news.drop (i * P.cellsOf el)).take (P.cellsOf el)) y
 | [], x, _ => ⟨[], by simp, by simp, by simp, by simp⟩
 | y :: es, x, h => by
  obtain ⟨c, hc, hr⟩ := h 0 y rfl
  have hz : x.add (0 * P.cellsOf el) = x := by rw [Nat.zero_mul]; unfold Addr.add; split <;> simp_all
  rw [hz] at hc
  obtain ⟨news, h1, h2, h3, h4⟩ := flat_cells es (x.add (P.cellsOf el)) (fun i z hz => by
   obtain ⟨c, hc, hr⟩ := h (i + 1) z (by simpa using hz)
   refine ⟨c, ?_, hr⟩
   rw [add_add]
   have e : P.cellsOf el + i * P.cellsOf el = (i + 1) * P.cellsOf el := by rw [Nat.succ_mul]; omega
   rw [e]
   exact hc)
  have hl := hr.len
  refine ⟨c ++ news, by rw [List.length_append, h1, hl, List.length_cons, Nat.succ_mul]; omega, fun j u hu => ?_, fun u hu => ?_, fun i z hz => ?_⟩
  ·by_cases hj : j < c.length
   ·rw [List.getElem?_append_left hj] at hu
    exact hc j u hu
   ·rw [List.getElem?_append_right (by omega)] at hu
    have := h2 _ u hu
    rw [add_add] at this
    have e : P.cellsOf el + (j - c.length) = j := by omega
    rw [e] at this
    exact this
  ·rcases List.mem_append.1 hu with hu | hu
   ·exact hr.one u hu
   ·exact h3 u hu
  ·cases i with
   | zero =>
    have : z = y := by simpa using hz.symm
    subst this
    rw [Nat.zero_mul, List.drop_zero, List.take_append_of_le_length (by omega), List.take_of_length_le (by omega)]
    exact hr
   | succ i =>
    have e : (i + 1) * P.cellsOf el = c.length + i * P.cellsOf el := by rw [Nat.succ_mul, hl]; omega
    rw [e, List.drop_append, List.drop_of_length_le (by omega), List.nil_append, Nat.add_sub_cancel_left]
    exact h4 i z (by simpa using hz)

theorem part_app {es xs : List D} {olds news : List Value} {el : TypeId} {n m : Nat} (hlo : olds.length = es.length * P.cellsOf el) (hln : news.length = xs.length * P.cellsOf el)
  (ho : ∀ i y, es[i]? = some y -> Rep P w ok n el ((olds.drop (i * P.cellsOf el)).take (P.cellsOf el)) y) (hn : ∀ i y, xs[i]? = some y -> Rep P w ok m el ((news.drop (i * P.cellsOf el)).take (P.cellsOf el)) y) :
  ∀ i y, (es ++ xs)[i]? = some y -> Rep P w ok (n + m) el (((olds ++ news).drop (i * P.cellsOf el)).take (P.cellsOf el)) y := by
 intro i y hy
 by_cases hi : i < es.length
 ·rw [List.getElem?_append_left hi] at hy
  have h1 : i * P.cellsOf el + P.cellsOf el <= olds.length := by rw [hlo, <- Nat.succ_mul]; exact Nat.mul_le_mul_right _ hi
  rw [List.drop_append_of_le_length (by omega), List.take_append_of_le_length (by simp; omega)]
  exact (ho i y hy).le (by omega)
 ·rw [List.getElem?_append_right (by omega)] at hy
  have e : i * P.cellsOf el = olds.length + (i - es.length) * P.cellsOf el := by
   rw [hlo, <- Nat.add_mul]
   congr 1
   omega
  rw [e, List.drop_append, List.drop_of_length_le (by omega), List.nil_append, Nat.add_sub_cancel_left]
  exact (hn _ y hy).le (by omega)

theorem part_take {all cur : List Value} {k sz L : Nat} (h : cur.take (L * sz) = all) (hk : k < L) : (all.drop (k * sz)).take sz = (cur.drop (k * sz)).take sz := by
 have h1 : k * sz + sz <= L * sz := by rw [<- Nat.succ_mul]; exact Nat.mul_le_mul_right _ hk
 rw [<- h, List.drop_take, List.take_take]
 congr 1
 omega

theorem mk_row {t el : TypeId} {es : List D} {all : List Value} {cur : Array Value} {g cap N r : Nat} (hu : P.underlying t = some (.slice el)) (h1 : P.cellsOf t = 1) (hpos : 0 < P.cellsOf el)
  (hg : w'.heap[g]? = some (.cells cur el (0, 0))) (hle : es.length <= cap) (hm : cap <= maxLen) (hs : cur.size = cap * P.cellsOf el) (ht : cur.toList.take (es.length * P.cellsOf el) = all)
  (hr : ∀ i y, es[i]? = some y -> Rep P w ok N el ((all.drop (i * P.cellsOf el)).take (P.cellsOf el)) y) (hsame : ∀ b, ok b -> w'.heap[b]? = w.heap[b]?) : RowOK P w' ok (g, cap) ⟨t, .slice es [], r, none⟩ := by
 refine ⟨el, hu, h1, hpos, ⟨es, rfl⟩, fun _ => ⟨cur, N, hg, hle, hm, hs, fun i y hy => ?_⟩⟩
 have hi : i < es.length := (List.getElem?_eq_some_iff.1 hy).1
 have := (hr i y hy).move hsame (ok' := ok) (fun _ h => h)
 rw [part_take ht hi] at this
 exact this

theorem rowOf_spec {s : Nat} {t : TypeId} {e : Ent} (h : rowOf st s t = some e) : (st.get s).tag = 2 /\ ((st.get s).ix = 0 /\ (st.get s).tys = []) /\ st.bx (st.get s).id = some e /\ e.ty = t /\ e.row ≠ 0 := by
 unfold rowOf at h
 split at h
 ·rename_i hc
  simp only [Bool.and_eq_true, beq_iff_eq, List.isEmpty_iff] at hc
  split at h
  ·rename_i f hf
   split at h
   ·rename_i hc2
    simp only [Bool.and_eq_true, beq_iff_eq, bne_iff_ne] at hc2
    cases h
    exact ⟨hc.1.1, ⟨hc.1.2, hc.2⟩, hf, hc2.1, hc2.2⟩
   ·cases h
  ·cases h
 ·cases h

theorem sliceOf_spec {t el : TypeId} (h : sliceOf P t = some el) : P.underlying t = some (.slice el) /\ P.cellsOf t = 1 /\ 0 < P.cellsOf el /\ ∃ i z, P.info? el = some i /\ i.zero = some z /\ i.size = P.cellsOf el /\ z.cells.size = P.cellsOf el /\ i.bytes <= 65536 := by
 unfold sliceOf at h
 split at h
 ·rename_i el' hu
  split at h
  ·rename_i hc
   cases h
   unfold elemOK at hc
   simp only [Bool.and_eq_true, beq_iff_eq, decide_eq_true_eq] at hc
   obtain ⟨h1, ⟨hz, hpos⟩, hb⟩ := hc
   obtain ⟨z, hz⟩ := Option.isSome_iff_exists.1 hz
   obtain ⟨i, v, n, hi, hzv, hsz, _⟩ := zeroOf_spec hz
   rw [hi] at hb
   refine ⟨hu, h1, hpos, i, v, hi, hzv, ?_, hsz, by simpa using hb⟩
   unfold Program.cellsOf
   rw [hi]
   rfl
  ·cases h
 ·cases h

/-- A row so long has room: by its bytes. -/
def Room (P : Program) (t : TypeId) (n : Nat) : Prop := ∀ el i, P.underlying t = some (.slice el) -> P.info? el = some i -> i.bytes <= 65536 -> n * i.bytes <= 140737488355328 /\ n <= maxLen
theorem room_of {env : Env} {dst : Option Nat} {t : TypeId} {n : Nat} (h : roomOK P env dst t n = true) : Room P t n := by
 intro el i hu hi hb
 unfold roomOK at h
 split at h
 ·unfold roomB at h
  rw [hu] at h
  simp only [hi, Bool.and_eq_true, decide_eq_true_eq] at h
  obtain ⟨h1, h2⟩ := h
  refine ⟨h2, ?_⟩
  have : n <= n * i.bytes := Nat.le_mul_of_pos_right _ h1
  unfold maxLen
  omega
 ·have h := of_decide_eq_true h
  have := Nat.mul_le_mul h hb
  refine ⟨by omega, by unfold maxLen; omega⟩
theorem appOf_spec {c : Call} {s : Nat} {x : Operand} {t : TypeId} (h : appOf c = some (s, x, t)) : c = { callee := .builtin .append, args := #[.tmp s, x], argTypes := #[t, t] } := by
 unfold appOf at h
 split at h
 ·rename_i hb ha ht
  split at h
  ·rename_i hc
   rw [beq_iff_eq] at hc
   cases h
   subst hc
   obtain ⟨cc, ca, ct⟩ := c
   simp only at hb ha ht
   have e1 : ca = #[.tmp s, x] := by apply Array.ext'; rw [ha]
   have e2 : ct = #[t, t] := by apply Array.ext'; rw [ht]
   rw [hb, e1, e2]
  ·cases h
 ·cases h

/-- 'append'. -/
theorem append_sound (R : RelX P F st ok β a w) {t el : TypeId} (hso : sliceOf P t = some el) {s : Nat} {e : Ent} (hro : rowOf st s t = some e) {x : Value} {xd : D} (hx : RepV P w ok t x xd)
  (hb : Room P t ((elemsD e.d).length + (elemsD xd).length)) (ty : TypeId) :
  ∃ v' w' b, (Builtin.append_ #[t, t] ty #[a.tmps.getD s undef, x]).run P w = .ok v' w' /\ v' = hv b ⟨t, .slice (elemsD e.d ++ elemsD xd) [], if e.row == 3 then 2 else if e.row == 4 then 1 else e.row, none⟩ /\
   RelX P F (st.renew (st.get s).id ⟨t, .slice (elemsD e.d ++ elemsD xd) [], if e.row == 3 then 2 else if e.row == 4 then 1 else e.row, none⟩) ok (fun i => if i = (st.get s).id then b else β i) a w' := by
 obtain ⟨hu, h1, hpos, i, z, hi, hz, hsize, hzs, hbytes⟩ := sliceOf_spec hso
 obtain ⟨htag, hix, he, hety, hrow⟩ := rowOf_spec hro
 have hval := ((R.slot s).d5 htag e he hrow).1 hix.2 hix.1
 rw [hval]
 obtain ⟨el', hu', _, _, ⟨es, hes⟩, hlive⟩ := R.hp.row _ e he hrow
 rw [hety, hu] at hu'
 cases hu'
 obtain ⟨m, xs, ax, capx, rfl, rfl, hx1, hx2, hx3, hx4⟩ := hx.slice hu
 have hed : elemsD e.d = es := by rw [hes]; rfl
 have hxd : elemsD (.slice xs [] : D) = xs := rfl
 rw [hed] at hb ⊢
 rw [hxd] at hb ⊢
 generalize hid : (st.get s).id = id at *
 obtain ⟨hbnd, h63⟩ := hb el i hu hi hbytes
 -- the cells of what is appended
 generalize hr' : (if e.row == 3 then 2 else if e.row == 4 then 1 else e.row) = r'
 have hr0 : r' ≠ 0 := by subst hr'; split <;> (try split) <;> simp_all
 have hr3 : r' ≠ 3 := by subst hr'; split <;> (try split) <;> simp_all
 have hr4 : r' ≠ 4 := by subst hr'; split <;> (try split) <;> simp_all
 have hkind : (r' != 1 && r' != 4) = (e.row != 1 && e.row != 4) := by
  subst hr'
  by_cases h3 : e.row = 3
  ·simp [h3]
  ·by_cases h4 : e.row = 4
   ·simp [h4]
   ·simp [h3, h4]
 have hlv : ∀ l : List D, Ent.live ⟨t, .slice l [], r', none⟩ = ((e.row != 1 && e.row != 4) || !l.isEmpty) := fun l => by rw [<- hkind]; rfl
 have hel : e.live = ((e.row != 1 && e.row != 4) || !es.isEmpty) := by unfold Ent.live; rw [hed]
 cases ax with
 | none =>
  have hc0 := hx3 rfl
  have hxs : xs = [] := List.eq_nil_of_length_eq_zero (by omega)
  subst hxs
  subst hc0
  have hlsame : Ent.live ⟨t, .slice (es ++ []) [], r', none⟩ = e.live := by rw [hlv, hel, List.append_nil]
  have hvsame : hv (β id) ⟨t, .slice (es ++ []) [], r', none⟩ = hv (β id) e := by
   unfold hv
   rw [hlsame, hed, show elemsD (.slice (es ++ []) [] : D) = es from List.append_nil es]
  have hown : ∃ xs', w.ownsRow 0 el (P.cellsOf el) (hv (β id) e) es.length xs' := by
   unfold hv
   split
   ·rename_i hl
    obtain ⟨cur, n, g1, g2, g3, g4, g5⟩ := hlive hl
    rw [hed] at g2 ⊢
    exact ⟨cur.toList.take (es.length * P.cellsOf el), by rw [List.length_take, show cur.toList.length = cur.size from Array.length_toList, g4]; exact Nat.min_eq_left (Nat.mul_le_mul_right _ g2), .inr ⟨(β id).1, (β id).2, cur, rfl, Nat.zero_le _, g1, g2, g3, g4, rfl⟩⟩
   ·rename_i hl
    rw [hel] at hl
    have : es = [] := by
     cases es with
     | nil => rfl
     | cons y l => simp at hl
    subst this
    exact ⟨[], by simp, .inl ⟨rfl, rfl⟩⟩
  obtain ⟨xs', hown⟩ := hown
  refine ⟨_, w, β id, run_append_owned_none (P := P) w 0 t ty el i (P.cellsOf el) hu hi _ _ _ hown, hvsame.symm, ?_⟩
  refine R.newRow hr0 rfl hr3 hr4 rfl rfl rfl (Nat.le_refl _) (fun _ _ _ => rfl) (fun hl => ⟨R.hp.siz id e he (by rw [<- hlsame]; exact hl), .inr ⟨rfl, e, he, by rw [<- hlsame]; exact hl⟩⟩) (fun _ => ?_)
  obtain ⟨el', q1, q2, q3, q4, q5⟩ := R.hp.row id e he hrow
  rw [hety] at q1 q2
  refine ⟨el', q1, q2, q3, ⟨_, rfl⟩, fun hl => ?_⟩
  have := q5 (by rw [<- hlsame]; exact hl)
  rw [hed] at this
  simpa [elemsD] using this
 | some ad =>
  obtain ⟨news, n1, n2, n3, n4⟩ := flat_cells (P := P) (w := w) (ok := ok) (n := m) (el := el) xs ad (fun i y hy => (hx4 ad rfl i y hy).2)
  cases hl : e.live with
  | false =>
   rw [hel] at hl
   have hes0 : es = [] := by
    cases es with
    | nil => rfl
    | cons y l => simp at hl
   subst hes0
   have hr1 : (e.row != 1 && e.row != 4) = false := by simpa using hl
   have hvn : hv (β id) e = .slice none 0 0 := by unfold hv; rw [hel, hl]; rfl
   rw [hvn]
   obtain ⟨v', w1, hrun, hown, hgr, hnil⟩ := run_append_own (P := P) w w.heap.size t ty el i z (P.cellsOf el) i.bytes hu hi hz hsize rfl hzs hpos (.slice none 0 0) 0 [] (World.ownsRow_nil w _ el _) ad xs.length capx news n1 n2 n3
    (by simpa using h63) (by simpa using hbnd) (Nat.le_refl _)
   have hblk : ∀ k, k < w.heap.size -> w1.heap[k]? = w.heap[k]? := fun k hk => hgr.block k hk (by simp [Value.ownBlock])
   rcases hown.2 with ⟨rfl, hm0⟩ | ⟨g, cap, cur, rfl, hgb, hgg, hle, hcm, hcs, htake⟩
   ·have hxs : xs = [] := List.eq_nil_of_length_eq_zero (by omega)
    subst hxs
    have hnl : Ent.live ⟨t, .slice ([] ++ []) [], r', none⟩ = false := by rw [hlv, hr1]; rfl
    refine ⟨_, w1, β id, hrun, ?_, R.newRow hr0 rfl hr3 hr4 hgr.os hgr.tape hgr.output hgr.size (fun k hk _ => hblk k hk) (fun h => by rw [hnl] at h; cases h) (fun _ => ⟨el, hu, h1, hpos, ⟨[], rfl⟩, fun h => by rw [hnl] at h; cases h⟩)⟩
    unfold hv
    rw [hnl]
    rfl
   ·have hg' : g < w1.heap.size := (Array.getElem?_eq_some_iff.1 hgg).1
    rw [Nat.zero_add] at hle htake
    by_cases hxs : xs = []
    ·exfalso
     subst hxs
     have := hnil.2 ⟨rfl, rfl⟩
     cases this
    ·have hlt : Ent.live ⟨t, .slice ([] ++ xs) [], r', none⟩ = true := by
      rw [hlv, List.nil_append]
      cases xs with
      | nil => exact absurd rfl hxs
      | cons y l => simp
     refine ⟨_, w1, (g, cap), hrun, ?_, R.newRow hr0 rfl hr3 hr4 hgr.os hgr.tape hgr.output hgr.size (fun k hk _ => hblk k hk) (fun _ => ⟨hg', .inl hgb⟩) (fun hsame => ?_)⟩
     ·unfold hv
      rw [hlt]
      simp [elemsD]
     ·rw [List.nil_append]
      exact mk_row hu h1 hpos hgg hle hcm hcs htake (by simpa using n4) hsame
  | true =>
   obtain ⟨cur, n, g1, g2, g3, g4, g5⟩ := hlive hl
   rw [hed] at g2 g5
   have hownb := R.hp.siz id e he hl
   have hvl : hv (β id) e = .slice (some ⟨(β id).1, 0, none⟩) es.length (β id).2 := by unfold hv; rw [hl, hed]; rfl
   rw [hvl]
   have hlt : Ent.live ⟨t, .slice (es ++ xs) [], r', none⟩ = true := by
    rw [hlv]
    rw [hel] at hl
    cases hrr : (e.row != 1 && e.row != 4) with
    | true => rfl
    | false =>
     rw [hrr] at hl
     cases es with
     | nil => simp at hl
     | cons y l => simp
   have hlo : (cur.toList.take (es.length * P.cellsOf el)).length = es.length * P.cellsOf el := by
    rw [List.length_take, show cur.toList.length = cur.size from Array.length_toList, g4]; exact Nat.min_eq_left (Nat.mul_le_mul_right _ g2)
   have hold : ∀ i y, es[i]? = some y -> Rep P w ok n el (((cur.toList.take (es.length * P.cellsOf el)).drop (i * P.cellsOf el)).take (P.cellsOf el)) y := by
    intro i y hy
    rw [part_take rfl (List.getElem?_eq_some_iff.1 hy).1]
    exact g5 i y hy
   have hall := part_app hlo n1 hold n4
   by_cases hroom : es.length + xs.length <= (β id).2
   ·have hfit : es.length * i.size + news.length <= cur.size := by rw [n1, g4, hsize, <- Nat.add_mul]; exact Nat.mul_le_mul_right _ hroom
    have hrun := run_append_room (P := P) w t ty el i hu hi (β id).1 es.length (β id).2 cur g1 ad xs.length capx news (by rw [hsize]; exact n1) n2 n3 hroom hfit
    rw [hsize] at hrun
    have hoth : ∀ (cs : Array Value) k, k ≠ (β id).1 -> (w.setRow (β id).1 cs).heap[k]? = w.heap[k]? := fun cs k hk => setRow_other w (β id).1 k cs hk
    have hsz : ∀ (cs : Array Value), (w.setRow (β id).1 cs).heap.size = w.heap.size := fun cs => by simp [World.setRow]
    refine ⟨_, _, β id, hrun, ?_, R.newRow hr0 rfl hr3 hr4 rfl rfl rfl (by rw [hsz]; exact Nat.le_refl _) (fun k _ hk => hoth _ k (hk e he hl))
     (fun _ => ⟨by rw [hsz]; exact hownb, .inr ⟨rfl, e, he, hl⟩⟩) (fun hsame => ?_)⟩
    ·unfold hv
     rw [hlt]
     simp [elemsD]
    ·refine mk_row (g := (β id).1) (cap := (β id).2) hu h1 hpos (setRow_heap w (β id).1 cur _ el (0, 0) g1) (by simpa using hroom) g3 ?_ ?_ hall hsame
     ·simp only [List.size_toArray, List.length_append, List.length_drop, hlo, n1, Array.length_toList, g4]
      rw [hsize, g4, n1] at hfit
      omega
     ·have e1 : (es ++ xs).length * P.cellsOf el = (cur.toList.take (es.length * P.cellsOf el) ++ news).length := by
       rw [List.length_append, List.length_append, hlo, n1, Nat.add_mul]
      simp only [List.toList_toArray]
      rw [e1]
      exact List.take_left
   ·obtain ⟨v', w1, hrun, hown, hgr⟩ := run_append_arg_grows (P := P) w t ty el i z (P.cellsOf el) i.bytes hu hi hz hsize rfl hzs hpos ⟨(β id).1, 0, none⟩ es.length (β id).2 (cur.toList.take (es.length * P.cellsOf el)) hlo
     (fun j u hj => by
      rw [List.getElem?_take] at hj
      split at hj
      ·have hadd : (⟨(β id).1, 0, none⟩ : Addr).add j = ⟨(β id).1, j, none⟩ := by unfold Addr.add; split <;> simp_all
       rw [hadd]
       simp only [World.cell?, g1]
       simpa using hj
      ·cases hj) ad xs.length capx news n1 n2 (by omega) h63 hbnd
    have hblk : ∀ k, k < w.heap.size -> w1.heap[k]? = w.heap[k]? := fun k hk => hgr.block k hk (by simp)
    rcases hown.2 with ⟨rfl, hm0⟩ | ⟨g, cap, cur', rfl, hgb, hgg, hle, hcm, hcs, htake⟩
    ·omega
    ·refine ⟨_, w1, (g, cap), hrun, ?_, R.newRow hr0 rfl hr3 hr4 hgr.os hgr.tape hgr.output hgr.size (fun k hk _ => hblk k hk) (fun _ => ⟨(Array.getElem?_eq_some_iff.1 hgg).1, .inl hgb⟩) (fun hsame => ?_)⟩
     ·unfold hv
      rw [hlt]
      simp [elemsD]
     ·exact mk_row hu h1 hpos hgg (by simpa using hle) hcm hcs (by rw [List.length_append]; exact htake) hall hsame

theorem preOf_row {s : Nat} {t : TypeId} {e : Ent} (h : rowOf st s t = some e) : preOf st s t = none := by
 have := (rowOf_spec h).2.1.1
 unfold preOf
 rw [this]
 simp
theorem preOf_dat {s : Nat} {t : TypeId} (h : (st.get s).tag = 1) : preOf st s t = none := by
 unfold preOf
 rw [h]
 simp
theorem preOf_spec {s : Nat} {t : TypeId} {e : Ent} (h : preOf st s t = some e) : (st.get s).tag = 2 /\ ((st.get s).ix = 1 /\ (st.get s).tys = []) /\ st.bx (st.get s).id = some e /\ e.ty = t /\ e.row ≠ 0 := by
 unfold preOf at h
 split at h
 ·rename_i hc
  simp only [Bool.and_eq_true, beq_iff_eq, List.isEmpty_iff] at hc
  split at h
  ·rename_i f hf
   split at h
   ·rename_i hc2
    simp only [Bool.and_eq_true, beq_iff_eq, bne_iff_ne] at hc2
    cases h
    exact ⟨hc.1.1, ⟨hc.1.2, hc.2⟩, hf, hc2.1, hc2.2⟩
   ·cases h
  ·cases h
 ·cases h

/-- 'append' to a row's first elements. -/
theorem append_pre (R : RelX P F st ok β a w) {t el : TypeId} (hso : sliceOf P t = some el) {s : Nat} {e : Ent} (hro : preOf st s t = some e) {x : Value} {xd : D} (hx : RepV P w ok t x xd) (hne : elemsD xd ≠ [])
  (hb : Room P t ((elemsD e.d).length + (elemsD xd).length)) (ty : TypeId) :
  ∃ v' w' b, (Builtin.append_ #[t, t] ty #[a.tmps.getD s undef, x]).run P w = .ok v' w' /\ v' = hv b ⟨t, .slice ((elemsD e.d).take (intD (st.get s).d).toNat ++ elemsD xd) [], if e.row == 3 then 2 else if e.row == 4 then 1 else e.row, none⟩ /\
   RelX P F (st.renew (st.get s).id ⟨t, .slice ((elemsD e.d).take (intD (st.get s).d).toNat ++ elemsD xd) [], if e.row == 3 then 2 else if e.row == 4 then 1 else e.row, none⟩) ok (fun i => if i = (st.get s).id then b else β i) a w' := by
 obtain ⟨hu, h1, hpos, i, z, hi, hz, hsize, hzs, hbytes⟩ := sliceOf_spec hso
 obtain ⟨htag, hix, he, hety, hrow⟩ := preOf_spec hro
 obtain ⟨q, hq, hqlt, hval⟩ := ((R.slot s).d5 htag e he hrow).2.2 hix.2 hix.1
 rw [hval, hq, Int.toNat_natCast]
 obtain ⟨el', hu', _, _, ⟨es0, hes⟩, hlive⟩ := R.hp.row _ e he hrow
 rw [hety, hu] at hu'
 cases hu'
 obtain ⟨m, xs, ax, capx, rfl, rfl, hx1, hx2, hx3, hx4⟩ := hx.slice hu
 have hed : elemsD e.d = es0 := by rw [hes]; rfl
 have hxd : elemsD (.slice xs [] : D) = xs := rfl
 have hl := live_of_lt hqlt
 rw [hed] at hb hqlt ⊢
 rw [hxd] at hb hne ⊢
 generalize hid : (st.get s).id = id at *
 have hesl : (es0.take q).length = q := by rw [List.length_take]; omega
 obtain ⟨es, hes'⟩ : ∃ es, es = es0.take q := ⟨_, rfl⟩
 have hget : ∀ (k : Nat) (y : D), es[k]? = some y -> es0[k]? = some y := by
  intro k y hy
  rw [hes', List.getElem?_take] at hy
  split at hy
  ·exact hy
  ·cases hy
 rw [<- hes'] at hesl ⊢
 obtain ⟨hbnd, h63⟩ : (es.length + xs.length) * i.bytes <= 140737488355328 /\ es.length + xs.length <= maxLen := by
  obtain ⟨h1, h2⟩ := hb el i hu hi hbytes
  have hle : es.length + xs.length <= es0.length + xs.length := by omega
  exact ⟨Nat.le_trans (Nat.mul_le_mul_right _ hle) h1, Nat.le_trans hle h2⟩
 generalize hr' : (if e.row == 3 then 2 else if e.row == 4 then 1 else e.row) = r'
 have hr0 : r' ≠ 0 := by subst hr'; split <;> (try split) <;> simp_all
 have hr3 : r' ≠ 3 := by subst hr'; split <;> (try split) <;> simp_all
 have hr4 : r' ≠ 4 := by subst hr'; split <;> (try split) <;> simp_all
 have hlt : Ent.live ⟨t, .slice (es ++ xs) [], r', none⟩ = true := by
  unfold Ent.live
  cases xs with
  | nil => exact absurd rfl hne
  | cons y l => simp [elemsD]
 cases ax with
 | none =>
  have hc0 := hx3 rfl
  have hxs : xs = [] := List.eq_nil_of_length_eq_zero (by omega)
  exact absurd hxs hne
 | some ad =>
  obtain ⟨news, n1, n2, n3, n4⟩ := flat_cells (P := P) (w := w) (ok := ok) (n := m) (el := el) xs ad (fun i y hy => (hx4 ad rfl i y hy).2)
  obtain ⟨cur, n, g1, g2, g3, g4, g5⟩ := hlive hl
  rw [hed] at g2 g5
  have g2' : es.length <= (β id).2 := by omega
  have hownb := R.hp.siz id e he hl
  have hvl : pre (β id) e q = .slice (some ⟨(β id).1, 0, none⟩) es.length (β id).2 := by unfold pre; rw [hl, hesl]; rfl
  rw [hvl]
  have hlo : (cur.toList.take (es.length * P.cellsOf el)).length = es.length * P.cellsOf el := by
   rw [List.length_take, show cur.toList.length = cur.size from Array.length_toList, g4]; exact Nat.min_eq_left (Nat.mul_le_mul_right _ g2')
  have hold : ∀ i y, es[i]? = some y -> Rep P w ok n el (((cur.toList.take (es.length * P.cellsOf el)).drop (i * P.cellsOf el)).take (P.cellsOf el)) y := by
   intro i y hy
   rw [part_take rfl (List.getElem?_eq_some_iff.1 hy).1]
   exact g5 i y (hget i y hy)
  have hall := part_app hlo n1 hold n4
  by_cases hroom : es.length + xs.length <= (β id).2
  ·have hfit : es.length * i.size + news.length <= cur.size := by rw [n1, g4, hsize, <- Nat.add_mul]; exact Nat.mul_le_mul_right _ hroom
   have hrun := run_append_room (P := P) w t ty el i hu hi (β id).1 es.length (β id).2 cur g1 ad xs.length capx news (by rw [hsize]; exact n1) n2 n3 hroom hfit
   rw [hsize] at hrun
   have hoth : ∀ (cs : Array Value) k, k ≠ (β id).1 -> (w.setRow (β id).1 cs).heap[k]? = w.heap[k]? := fun cs k hk => setRow_other w (β id).1 k cs hk
   have hsz : ∀ (cs : Array Value), (w.setRow (β id).1 cs).heap.size = w.heap.size := fun cs => by simp [World.setRow]
   refine ⟨_, _, β id, hrun, ?_, R.newRow hr0 rfl hr3 hr4 rfl rfl rfl (by rw [hsz]; exact Nat.le_refl _) (fun k _ hk => hoth _ k (hk e he hl))
    (fun _ => ⟨by rw [hsz]; exact hownb, .inr ⟨rfl, e, he, hl⟩⟩) (fun hsame => ?_)⟩
   ·unfold hv
    rw [hlt]
    simp [elemsD]
   ·refine mk_row (g := (β id).1) (cap := (β id).2) hu h1 hpos (setRow_heap w (β id).1 cur _ el (0, 0) g1) (by simpa using hroom) g3 ?_ ?_ hall hsame
    ·simp only [List.size_toArray, List.length_append, List.length_drop, hlo, n1, Array.length_toList, g4]
     rw [hsize, g4, n1] at hfit
     omega
    ·have e1 : (es ++ xs).length * P.cellsOf el = (cur.toList.take (es.length * P.cellsOf el) ++ news).length := by
      rw [List.length_append, List.length_append, hlo, n1, Nat.add_mul]
     simp only [List.toList_toArray]
     rw [e1]
     exact List.take_left
  ·obtain ⟨v', w1, hrun, hown, hgr⟩ := run_append_arg_grows (P := P) w t ty el i z (P.cellsOf el) i.bytes hu hi hz hsize rfl hzs hpos ⟨(β id).1, 0, none⟩ es.length (β id).2 (cur.toList.take (es.length * P.cellsOf el)) hlo
    (fun j u hj => by
     rw [List.getElem?_take] at hj
     split at hj
     ·have hadd : (⟨(β id).1, 0, none⟩ : Addr).add j = ⟨(β id).1, j, none⟩ := by unfold Addr.add; split <;> simp_all
      rw [hadd]
      simp only [World.cell?, g1]
      simpa using hj
     ·cases hj) ad xs.length capx news n1 n2 (by omega) h63 hbnd
   have hblk : ∀ k, k < w.heap.size -> w1.heap[k]? = w.heap[k]? := fun k hk => hgr.block k hk (by simp)
   rcases hown.2 with ⟨rfl, hm0⟩ | ⟨g, cap, cur', rfl, hgb, hgg, hle, hcm, hcs, htake⟩
   ·omega
   ·refine ⟨_, w1, (g, cap), hrun, ?_, R.newRow hr0 rfl hr3 hr4 hgr.os hgr.tape hgr.output hgr.size (fun k hk _ => hblk k hk) (fun _ => ⟨(Array.getElem?_eq_some_iff.1 hgg).1, .inl hgb⟩) (fun hsame => ?_)⟩
    ·unfold hv
     rw [hlt]
     simp [elemsD]
    ·exact mk_row hu h1 hpos hgg (by simpa using hle) hcm hcs (by rw [List.length_append]; exact htake) hall hsame

theorem row_data {b : Nat × Nat} {e : Ent} (h : RowOK P w ok b e) (h0 : e.row ≠ 0) (hk : ∀ b, ok b -> ok' b) (hb : e.live = true -> ok' b.1) : RepV P w ok' e.ty (hv b e) e.d := by
 obtain ⟨el, hu, h1, hpos, ⟨es, hes⟩, hl⟩ := h
 have hed : elemsD e.d = es := by rw [hes]; rfl
 unfold hv
 split
 ·rename_i hlv
  obtain ⟨cur, n, g1, g2, g3, g4, g5⟩ := hl hlv
  rw [hed] at g2 g5 ⊢
  refine ⟨⟨n + 1, by simp [Value.cells, h1], by simp [Value.cells, Value.oneCell'], ?_⟩, by simp [isAggB, hu], fun _ => rfl⟩
  rw [hu, hes]
  refine ⟨rfl, some ⟨b.1, 0, none⟩, b.2, by simp [Value.cells], g2, g3, by simp, fun x hx i y hy => ?_⟩
  cases hx
  refine ⟨hb hlv, (cur.toList.drop (i * P.cellsOf el)).take (P.cellsOf el), fun j v hj => ?_, (g5 i y hy).move (fun _ _ => rfl) hk⟩
  rw [List.getElem?_take] at hj
  split at hj
  ·rw [List.getElem?_drop] at hj
   have hadd : ((⟨b.1, 0, none⟩ : Addr).add (i * P.cellsOf el)).add j = ⟨b.1, i * P.cellsOf el + j, none⟩ := by
    rw [add_add]; unfold Addr.add; split <;> simp_all
   rw [hadd]
   simp only [World.cell?, g1]
   simpa using hj
  ·cases hj
 ·rename_i hlv
  have hes0 : es = [] := by
   unfold Ent.live at hlv
   rw [hed] at hlv
   cases es with
   | nil => rfl
   | cons y l => simp at hlv
  subst hes0
  refine ⟨⟨1, by simp [Value.cells, h1], by simp [Value.cells, Value.oneCell'], ?_⟩, by simp [isAggB, hu], fun _ => rfl⟩
  rw [hu, hes]
  exact ⟨rfl, none, 0, by simp [Value.cells], Nat.le_refl _, Nat.zero_le _, fun _ => rfl, fun x hx => by cases hx⟩

/-- 'append' to a slice with no room behind its end: what comes back is data. -/
theorem append_full (R : RelX P F st ok β a w) {t el : TypeId} (hso : sliceOf P t = some el) {s x : Value} {sd xd : D} (hs : RepV P w ok t s sd) (hx : RepV P w ok t x xd) (hfull : ∃ y n, s = .slice y n n)
  (hb : Room P t ((elemsD sd).length + (elemsD xd).length)) (ty : TypeId) :
  ∃ v' w' ok', (Builtin.append_ #[t, t] ty #[s, x]).run P w = .ok v' w' /\ Below w.heap.size w w' /\ (∀ b, ok b -> ok' b) /\ (∀ b, ok' b -> ok b \/ (w.heap.size <= b /\ b < w'.heap.size)) /\
   RepV P w' ok' t v' (.slice (elemsD sd ++ elemsD xd) []) := by
 obtain ⟨hu, h1, hpos, i, z, hi, hz, hsize, hzs, hbytes⟩ := sliceOf_spec hso
 obtain ⟨m, xs, ax, capx, rfl, rfl, hx1, hx2, hx3, hx4⟩ := hx.slice hu
 obtain ⟨m', es, as, cap, rfl, rfl, hs1, hs2, hs3, hs4⟩ := hs.slice hu
 obtain ⟨y, n, hyn⟩ := hfull
 have hcap : cap = es.length := by simp at hyn; omega
 subst hcap
 have hxd : elemsD (.slice xs [] : D) = xs := rfl
 have hsd : elemsD (.slice es [] : D) = es := rfl
 rw [hxd, hsd] at hb
 rw [hxd, hsd]
 obtain ⟨hbnd, h63⟩ := hb el i hu hi hbytes
 cases xs with
 | nil =>
  -- nothing is appended
  have hrun : (Builtin.append_ #[t, t] ty #[.slice as es.length es.length, .slice ax ([] : List D).length capx]).run P w = .ok (.slice as es.length es.length) w := by
   cases ax with
   | none =>
    have hc0 := hx3 rfl
    subst hc0
    cases as <;> simp [Builtin.append_, run_underlying hu, sizeOf, typeInfo, hi, Builtin.lenOf, Builtin.firstCells, storeCells]
   | some ad =>
    cases as <;> simp [Builtin.append_, run_underlying hu, sizeOf, typeInfo, hi, Builtin.lenOf, Builtin.firstCells, storeCells, loadCells, loadCellsFrom]
  refine ⟨_, w, ok, hrun, Below.refl _ _, fun _ h => h, fun _ h => .inl h, ?_⟩
  rw [List.append_nil]
  exact hs
 | cons y0 xs =>
  cases ax with
  | none =>
   have hc0 := hx3 rfl
   simp at hx1
   omega
  | some ad =>
   obtain ⟨news, n1, n2, n3, n4⟩ := flat_cells (P := P) (w := w) (ok := ok) (n := m) (el := el) (y0 :: xs) ad (fun i y hy => (hx4 ad rfl i y hy).2)
   -- the cells of what was there
   have hold : ∃ olds : List Value, olds.length = es.length * P.cellsOf el /\ (∀ i y, es[i]? = some y -> Rep P w ok m' el ((olds.drop (i * P.cellsOf el)).take (P.cellsOf el)) y) /\
     ∃ v' w', (Builtin.append_ #[t, t] ty #[.slice as es.length es.length, .slice (some ad) (y0 :: xs).length capx]).run P w = .ok v' w' /\ w'.ownsRow w.heap.size el (P.cellsOf el) v' (es.length + (y0 :: xs).length) (olds ++ news) /\ w.grownBy w' none := by
    cases as with
    | none =>
     have hc0 := hs3 rfl
     have hes : es = [] := List.eq_nil_of_length_eq_zero hc0
     subst hes
     obtain ⟨v', w1, hrun, hown, hgr, _⟩ := run_append_own (P := P) w w.heap.size t ty el i z (P.cellsOf el) i.bytes hu hi hz hsize rfl hzs hpos (.slice none 0 0) 0 [] (World.ownsRow_nil w _ el _) ad (y0 :: xs).length capx news n1 n2 n3
      (by simpa using h63) (by simpa using hbnd) (Nat.le_refl _)
     exact ⟨[], by simp, by simp, v', w1, hrun, hown, hgr⟩
    | some bd =>
     obtain ⟨olds, o1, o2, o3, o4⟩ := flat_cells (P := P) (w := w) (ok := ok) (n := m') (el := el) es bd (fun i y hy => (hs4 bd rfl i y hy).2)
     obtain ⟨v', w1, hrun, hown, hgr⟩ := run_append_arg_grows (P := P) w t ty el i z (P.cellsOf el) i.bytes hu hi hz hsize rfl hzs hpos bd es.length es.length olds o1 o2 ad (y0 :: xs).length capx news n1 n2 (by simp) h63 hbnd
     exact ⟨olds, o1, o4, v', w1, hrun, hown, hgr⟩
   obtain ⟨olds, hlo, ho, v', w1, hrun, hown, hgr⟩ := hold
   have hall := part_app hlo n1 ho n4
   have hblk : ∀ k, k < w.heap.size -> w1.heap[k]? = w.heap[k]? := fun k hk => hgr.block k hk (by simp)
   have hbel : Below w.heap.size w w1 := ⟨hgr.os, hgr.tape, hgr.output, hgr.size, hblk⟩
   rcases hown.2 with ⟨rfl, hm0⟩ | ⟨g, cap', cur', rfl, hgb, hgg, hle, hcm, hcs, htake⟩
   ·simp at hm0
   ·have hg' : g < w1.heap.size := (Array.getElem?_eq_some_iff.1 hgg).1
    have hsame : ∀ b, ok b -> w1.heap[b]? = w.heap[b]? := fun b h => hblk b (R.okb b h).1
    have hrow : RowOK P w1 ok (g, cap') ⟨t, .slice (es ++ y0 :: xs) [], 2, none⟩ := mk_row hu h1 hpos hgg (by simpa using hle) hcm hcs (by rw [List.length_append]; exact htake) hall hsame
    have hv' : hv (g, cap') ⟨t, .slice (es ++ y0 :: xs) [], 2, none⟩ = .slice (some ⟨g, 0, none⟩) (es.length + (y0 :: xs).length) cap' := by
     unfold hv Ent.live
     simp [elemsD]
    refine ⟨_, w1, fun b => ok b \/ b = g, hrun, hbel, fun b h => .inl h, fun b h => ?_, ?_⟩
    ·rcases h with h | rfl
     ·exact .inl h
     ·exact .inr ⟨hgb, hg'⟩
    ·rw [<- hv']
     exact row_data hrow (by simp) (fun b h => .inl h) (fun _ => .inr rfl)

/-- Something appended to what has no room: a row of the call's own. -/
theorem append_grow (R : RelX P F st ok β a w) {t el : TypeId} (hso : sliceOf P t = some el) {s x : Value} {sd xd : D} (hs : RepV P w ok t s sd) (hx : RepV P w ok t x xd) (hfull : ∃ y n, s = .slice y n n)
  (hne : elemsD xd ≠ []) (hb : Room P t ((elemsD sd).length + (elemsD xd).length)) (ty : TypeId) :
  ∃ g cap' w1, (Builtin.append_ #[t, t] ty #[s, x]).run P w = .ok (.slice (some ⟨g, 0, none⟩) (elemsD sd ++ elemsD xd).length cap') w1 /\ Below w.heap.size w w1 /\ w.heap.size <= g /\ g < w1.heap.size /\
   ∀ k, RowOK P w1 ok (g, cap') ⟨t, .slice (elemsD sd ++ elemsD xd) [], k, none⟩ := by
 obtain ⟨hu, h1, hpos, i, z, hi, hz, hsize, hzs, hbytes⟩ := sliceOf_spec hso
 obtain ⟨m, xs, ax, capx, rfl, rfl, hx1, hx2, hx3, hx4⟩ := hx.slice hu
 obtain ⟨m', es, as, cap, rfl, rfl, hs1, hs2, hs3, hs4⟩ := hs.slice hu
 obtain ⟨y, n, hyn⟩ := hfull
 have hcap : cap = es.length := by simp at hyn; omega
 subst hcap
 have hxd : elemsD (.slice xs [] : D) = xs := rfl
 have hsd : elemsD (.slice es [] : D) = es := rfl
 rw [hxd, hsd] at hb
 rw [hxd] at hne
 rw [hxd, hsd]
 obtain ⟨hbnd, h63⟩ := hb el i hu hi hbytes
 cases xs with
 | nil => exact absurd rfl hne
 | cons y0 xs =>
  cases ax with
  | none =>
   have hc0 := hx3 rfl
   simp at hx1
   omega
  | some ad =>
   obtain ⟨news, n1, n2, n3, n4⟩ := flat_cells (P := P) (w := w) (ok := ok) (n := m) (el := el) (y0 :: xs) ad (fun i y hy => (hx4 ad rfl i y hy).2)
   have hold : ∃ olds : List Value, olds.length = es.length * P.cellsOf el /\ (∀ i y, es[i]? = some y -> Rep P w ok m' el ((olds.drop (i * P.cellsOf el)).take (P.cellsOf el)) y) /\
     ∃ v' w', (Builtin.append_ #[t, t] ty #[.slice as es.length es.length, .slice (some ad) (y0 :: xs).length capx]).run P w = .ok v' w' /\ w'.ownsRow w.heap.size el (P.cellsOf el) v' (es.length + (y0 :: xs).length) (olds ++ news) /\ w.grownBy w' none := by
    cases as with
    | none =>
     have hc0 := hs3 rfl
     have hes : es = [] := List.eq_nil_of_length_eq_zero hc0
     subst hes
     obtain ⟨v', w1, hrun, hown, hgr, _⟩ := run_append_own (P := P) w w.heap.size t ty el i z (P.cellsOf el) i.bytes hu hi hz hsize rfl hzs hpos (.slice none 0 0) 0 [] (World.ownsRow_nil w _ el _) ad (y0 :: xs).length capx news n1 n2 n3
      (by simpa using h63) (by simpa using hbnd) (Nat.le_refl _)
     exact ⟨[], by simp, by simp, v', w1, hrun, hown, hgr⟩
    | some bd =>
     obtain ⟨olds, o1, o2, o3, o4⟩ := flat_cells (P := P) (w := w) (ok := ok) (n := m') (el := el) es bd (fun i y hy => (hs4 bd rfl i y hy).2)
     obtain ⟨v', w1, hrun, hown, hgr⟩ := run_append_arg_grows (P := P) w t ty el i z (P.cellsOf el) i.bytes hu hi hz hsize rfl hzs hpos bd es.length es.length olds o1 o2 ad (y0 :: xs).length capx news n1 n2 (by simp) h63 hbnd
     exact ⟨olds, o1, o4, v', w1, hrun, hown, hgr⟩
   obtain ⟨olds, hlo, ho, v', w1, hrun, hown, hgr⟩ := hold
   have hall := part_app hlo n1 ho n4
   have hblk : ∀ k, k < w.heap.size -> w1.heap[k]? = w.heap[k]? := fun k hk => hgr.block k hk (by simp)
   have hbel : Below w.heap.size w w1 := ⟨hgr.os, hgr.tape, hgr.output, hgr.size, hblk⟩
   rcases hown.2 with ⟨rfl, hm0⟩ | ⟨g, cap', cur', rfl, hgb, hgg, hle, hcm, hcs, htake⟩
   ·simp at hm0
   ·have hg' : g < w1.heap.size := (Array.getElem?_eq_some_iff.1 hgg).1
    have hsame : ∀ b, ok b -> w1.heap[b]? = w.heap[b]? := fun b h => hblk b (R.okb b h).1
    exact ⟨g, cap', w1, by rw [List.length_append]; exact hrun, hbel, hgb, hg', fun k => mk_row hu h1 hpos hgg (by simpa using hle) hcm hcs (by rw [List.length_append]; exact htake) hall hsame⟩

/-- Nothing appended to nil. -/
theorem append_none (R : RelX P F st ok β a w) {t el : TypeId} (hso : sliceOf P t = some el) {x : Value} {xd : D} (hx : RepV P w ok t x xd) (hne : elemsD xd = []) (ty : TypeId) :
  (Builtin.append_ #[t, t] ty #[.slice none 0 0, x]).run P w = .ok (.slice none 0 0) w := by
 obtain ⟨hu, h1, hpos, i, z, hi, hz, hsize, hzs, hbytes⟩ := sliceOf_spec hso
 obtain ⟨m, xs, ax, capx, rfl, rfl, hx1, hx2, hx3, hx4⟩ := hx.slice hu
 have hxd : elemsD (.slice xs [] : D) = xs := rfl
 rw [hxd] at hne
 subst hne
 cases ax with
 | none =>
  have hc0 := hx3 rfl
  subst hc0
  simp [Builtin.append_, run_underlying hu, sizeOf, typeInfo, hi, Builtin.lenOf, Builtin.firstCells, storeCells]
 | some ad =>
  simp [Builtin.append_, run_underlying hu, sizeOf, typeInfo, hi, Builtin.lenOf, Builtin.firstCells, storeCells, loadCells, loadCellsFrom]

/-- What leads to a row. -/
theorem rep_new {s2 : St} {β2 : Nat -> Nat × Nat} {d : Nat} {e : Ent} {t : TypeId} {w2 : World} {ok2 : Nat -> Prop} (he : s2.bx d = some e) (h0 : e.row ≠ 0) : RepAV P w2 ok2 β2 s2.bx (bxp d t) (hv (β2 d) e) := by
 refine ⟨by simp [bxp], fun _ f hf hr => ?_, fun _ f hf hr => ⟨fun _ _ => ?_, by simp [bxp]⟩, by simp [bxp], by simp [bxp], by simp [bxp], by simp [bxp], by simp [bxp], by simp [bxp], by simp [bxp], by simp [bxp]⟩
 ·have hf' : s2.bx d = some f := hf
  rw [he] at hf'
  cases hf'
  exact absurd hr h0
 ·have hf' : s2.bx d = some f := hf
  rw [he] at hf'
  cases hf'
  rfl

/-! ### A row that is handed on -/
theorem stillA_dead (i : Nat) (e : Ent) : stillA i e dead = dead := rfl
theorem still_get {i : Nat} {e : Ent} (he : st.bx i = some e) (h0 : e.row ≠ 0) (j : Nat) : (st.still i).get j = stillA i e (st.get j) := by
 have hb : (e.row == 0) = false := by simpa using h0
 unfold St.still
 rw [he]
 simp only [hb, Bool.false_eq_true, if_false]
 exact map_get _ (stillA_dead i e) j

theorem stillA_cases (i : Nat) (e : Ent) (v : AV) : (v.tag = 2 /\ v.id = i /\ v.ix = 0 /\ v.tys = [] /\ stillA i e v = dat e.ty e.d) \/ stillA i e v = dz v \/ (stillA i e v = v /\ i ∉ refs v) := by
 unfold stillA
 split
 ·rename_i hc
  simp only [Bool.and_eq_true, beq_iff_eq] at hc
  split
  ·rename_i hix
   simp only [Bool.and_eq_true, beq_iff_eq, List.isEmpty_iff] at hix
   exact .inl ⟨hc.1, hc.2, hix.1, hix.2, rfl⟩
  ·refine .inr (.inl ?_)
   unfold dz
   rw [if_neg (by simp [hc.1]), if_neg (by simp [hc.1])]
 ·split
  ·exact .inr (.inl rfl)
  ·rename_i h
   exact .inr (.inr ⟨rfl, by simpa using h⟩)

theorem stillE_alike (i : Nat) (e f : Ent) (b : Nat × Nat) (hr : f.row ≠ 0 -> f.c = none) : Alike b f b (stillE i e f) := by
 unfold stillE
 split
 ·rename_i v hv
  have h0 : f.row = 0 := by
   by_cases h : f.row = 0
   ·exact h
   ·rw [hr h] at hv; cases hv
  split
  ·exact ⟨rfl, ⟨fun _ => h0, fun _ => h0⟩, fun _ => rfl, fun h => absurd h0 h⟩
  ·split
   ·split
    ·exact ⟨rfl, ⟨fun _ => h0, fun _ => h0⟩, fun _ => rfl, fun h => absurd h0 h⟩
    ·exact ⟨rfl, ⟨fun _ => h0, fun _ => h0⟩, fun _ => rfl, fun h => absurd h0 h⟩
   ·split
    ·exact ⟨rfl, ⟨fun _ => h0, fun _ => h0⟩, fun _ => rfl, fun h => absurd h0 h⟩
    ·exact Alike.refl _ _
 ·exact Alike.refl _ _

theorem stillE_row (i : Nat) (e f : Ent) : (stillE i e f).row = f.row /\ (stillE i e f).ty = f.ty := by
 unfold stillE
 split
 ·split
  ·exact ⟨rfl, rfl⟩
  ·split
   ·split <;> exact ⟨rfl, rfl⟩
   ·split <;> exact ⟨rfl, rfl⟩
 ·exact ⟨rfl, rfl⟩

theorem stillE_live (i : Nat) (e f : Ent) (hr : f.row ≠ 0 -> f.c = none) : (stillE i e f).live = f.live := by
 by_cases h0 : f.row = 0
 ·rw [live_box h0, live_box (by rw [(stillE_row i e f).1]; exact h0)]
 ·unfold stillE
  rw [hr h0]

theorem fillK_len (i : Nat) (x : D) : ∀ (ts : List Nat) (ps : List D), (fillK i x ts ps).length = ps.length
 | [], ps => by cases ps <;> rfl
 | t :: ts, [] => rfl
 | t :: ts, p :: ps => by simp [fillK, fillK_len i x ts ps]
theorem fillK_get (i : Nat) (x : D) : ∀ (ts : List Nat) (ps : List D) (k : Nat) (t : Nat), ts[k]? = some t -> k < ps.length -> (fillK i x ts ps).getD k .nil = if t = i + 2 then x else ps.getD k .nil
 | [], ps, k, t, h, _ => by simp at h
 | t' :: ts, [], k, t, h, hk => by simp at hk
 | t' :: ts, p :: ps, 0, t, h, hk => by
  simp only [List.getElem?_cons_zero, Option.some.injEq] at h
  subst h
  simp only [fillK, List.getD_cons_zero]
  by_cases hh : t' = i + 2
  ·simp [hh]
  ·simp [hh]
 | t' :: ts, p :: ps, k + 1, t, h, hk => by
  simp only [List.getElem?_cons_succ] at h
  simp only [fillK, List.getD_cons_succ]
  exact fillK_get i x ts ps k t h (by simpa using hk)

/-- A struct all of whose fields are data is data. -/
theorem spl_data {bx : Nat -> Option Ent} {x : AV} {cs : List Value} (h : SplRep P w ok β bx x cs) (h0 : x.tys.all (· == 0) = true) : ∃ n, Rep P w ok n x.ty cs (.agg (partsD x.d)) := by
 obtain ⟨fs, q1, q2, q3, q4, q5, q6, q7⟩ := h
 have hz : ∀ k, k < fs.size -> x.tys[k]? = some 0 := by
  intro k hk
  rw [List.all_eq_true] at h0
  have hk' : k < x.tys.length := by omega
  have := h0 x.tys[k] (List.getElem_mem hk')
  rw [List.getElem?_eq_getElem hk']
  simpa using this
 have key : ∀ m, m <= fs.size -> ∃ N, ∀ (k : Nat) (f : Field), k < m -> fs[k]? = some f -> Rep P w ok N f.type ((cs.drop f.offset).take (P.cellsOf f.type)) (fieldD x.d k) := by
  intro m
  induction m with
  | zero => intro _; exact ⟨0, fun k f hk => by omega⟩
  | succ m ih =>
   intro hm
   obtain ⟨N, hN⟩ := ih (by omega)
   have hmf : fs[m]? = some fs[m] := Array.getElem?_eq_getElem (by omega)
   obtain ⟨n, hn⟩ := (q7 m fs[m] hmf).1 (hz m (by omega))
   refine ⟨max N n, fun k f hk hf => ?_⟩
   by_cases hkm : k = m
   ·subst hkm
    rw [hmf] at hf
    cases hf
    exact hn.le (Nat.le_max_right _ _)
   ·exact (hN k f (by omega) hf).le (Nat.le_max_left _ _)
 obtain ⟨N, hN⟩ := key fs.size (Nat.le_refl _)
 refine ⟨N + 1, q3, q4, ?_⟩
 rw [q1]
 exact ⟨q5, fun k f hf => hN k f (Array.getElem?_eq_some_iff.1 hf).1 hf⟩

theorem RelX.still (R : RelX P F st ok β a w) (i : Nat) : ∃ ok', RelX P F (st.still i) ok' β a w := by
 cases he : st.bx i with
 | none =>
  have : st.still i = st := by unfold St.still; rw [he]
  rw [this]
  exact ⟨ok, R⟩
 | some e =>
  by_cases h0 : e.row = 0
  ·have : st.still i = st := by unfold St.still; rw [he]; simp [h0]
   rw [this]
   exact ⟨ok, R⟩
  ·have hbf : (e.row == 0) = false := by simpa using h0
   have H := R.hp
   have hrc : ∀ j f, st.bx j = some f -> f.row ≠ 0 -> f.c = none := fun j f hj hr => H.rc j f hj hr
   have hbx' : ∀ j, j ≠ i -> (st.still i).bx j = (st.bx j).map (stillE i e) := by
    intro j hne
    unfold St.still
    rw [he]
    simp only [hbf, Bool.false_eq_true, if_false]
    rw [if_neg hne]
   have hbi : (st.still i).bx i = none := by
    unfold St.still
    rw [he]
    simp [hbf]
   have hbx : ∀ j f', (st.still i).bx j = some f' -> j ≠ i /\ ∃ f, st.bx j = some f /\ f' = stillE i e f := by
    intro j f' h
    by_cases hne : j = i
    ·subst hne; rw [hbi] at h; cases h
    ·rw [hbx' j hne] at h
     obtain ⟨f, hf, rfl⟩ := Option.map_eq_some_iff.1 h
     exact ⟨hne, f, hf, rfl⟩
   have hlen : (st.still i).sl.length = st.sl.length := by
    unfold St.still
    rw [he]
    simp [hbf]
   have hk : ∀ b, ok b -> (ok b \/ (e.live = true /\ b = (β i).1)) := fun b h => .inl h
   have htr : ∀ v val, i ∉ refs v -> RepAV P w ok β st.bx v val -> RepAV P w (fun b => ok b \/ (e.live = true /\ b = (β i).1)) β (st.still i).bx v val := by
    intro v val hni hr
    refine hr.tr (fun _ _ => rfl) hk (fun j hj f' hf' => ?_)
    obtain ⟨hne, f, hf, rfl⟩ := hbx j f' hf'
    exact ⟨f, hf, stillE_alike i e f _ (hrc j f hf)⟩
   have hlv : ∀ v, i ∉ refs v -> LiveB st.bx v -> LiveB (st.still i).bx v := by
    intro v hni hl j hj
    have hne : j ≠ i := fun hh => hni (hh ▸ hj)
    rw [hbx' j hne]
    simpa using hl j hj
   -- a struct one of whose fields is this row
   have hspl : ∀ v val, v.tag = 7 -> RepAV P w ok β st.bx v val -> SplRep P w (fun b => ok b \/ (e.live = true /\ b = (β i).1)) β (st.still i).bx (stillV i e v) val.cells.toList := by
    intro v val h7 hr
    obtain ⟨fs, q1, q2, q3, q4, q5, q6, q7⟩ := hr.d7 h7
    refine ⟨fs, q1, q2, q3, q4, ?_, by simpa [stillV] using q6, fun k f hf => ⟨fun hk0 => ?_, fun j e' hkj he' => ?_⟩⟩
    ·show (fillK i e.d v.tys (partsD v.d)).length = fs.size
     rw [fillK_len, q5]
    ·simp only [stillV, List.getElem?_map, Option.map_eq_some_iff] at hk0
     obtain ⟨t, ht, hk0⟩ := hk0
     have hklt : k < (partsD v.d).length := by
      have := (List.getElem?_eq_some_iff.1 ht).1
      omega
     have hfd : fieldD (stillV i e v).d k = if t = i + 2 then e.d else fieldD v.d k := fillK_get i e.d v.tys (partsD v.d) k t ht hklt
     rw [hfd]
     by_cases hti : t = i + 2
     ·rw [if_pos hti]
      subst hti
      obtain ⟨_, g1, g2, g3⟩ := (q7 k f hf).2 i e ht he
      obtain ⟨⟨n, hn⟩, _⟩ := row_data (H.row i e he h0) h0 hk (fun hl => .inr ⟨hl, rfl⟩)
      refine ⟨n, ?_⟩
      rw [g2, g3, <- g1]
      have hc1 : (hv (β i) e).cells.toList = [hv (β i) e] := by unfold hv; split <;> rfl
      rw [<- hc1]
      exact hn
     ·rw [if_neg hti]
      have ht0 : t = 0 := by
       rw [if_neg (by simpa using hti)] at hk0
       exact hk0
      rw [ht0] at ht
      obtain ⟨n, hn⟩ := (q7 k f hf).1 ht
      exact ⟨n, hn.move (fun _ _ => rfl) hk⟩
    ·simp only [stillV, List.getElem?_map, Option.map_eq_some_iff] at hkj
     obtain ⟨t, ht, hkj⟩ := hkj
     have hti : t ≠ i + 2 := by
      intro hh
      have hkj : (if (t == i + 2) = true then 0 else t) = j + 2 := hkj
      rw [if_pos (by simpa using hh)] at hkj
      omega
     rw [if_neg (by simpa using hti)] at hkj
     subst hkj
     obtain ⟨hne, f0, hf0, rfl⟩ := hbx j e' he'
     have h0' := ((q7 k f hf).2 j f0 ht hf0).1
     have hE : stillE i e f0 = f0 := by unfold stillE; rw [hrc j f0 hf0 h0']
     rw [hE]
     exact (q7 k f hf).2 j f0 ht hf0
   have hspl7 : ∀ v val, v.tag = 7 -> RepAV P w ok β st.bx v val -> RepAV P w (fun b => ok b \/ (e.live = true /\ b = (β i).1)) β (st.still i).bx (stillV i e v) val := by
    intro v val h7 hr
    have ht : (stillV i e v).tag = 7 := h7
    exact ⟨fun hh => by omega, fun hh => by omega, fun hh => by omega, fun hh => by omega, fun hh => by omega, fun hh => by omega, fun hh => by omega, fun hh => by omega, fun hh => by omega, fun _ => hspl v val h7 hr, fun hh => by omega⟩
   refine ⟨fun b => ok b \/ (e.live = true /\ b = (β i).1), by rw [hlen]; exact R.len, R.df, ⟨?_, ?_, ?_, ?_, ?_, ?_, ?_, ?_⟩, R.bel, R.bas, fun b h => ?_, ?_, ?_, fun j => ?_, fun j => ?_⟩
   ·intro j f' hj hl
    obtain ⟨hne, f, hf, rfl⟩ := hbx j f' hj
    rw [stillE_live i e f (hrc j f hf)] at hl
    exact H.siz j f hf hl
   ·intro b j f' h hj hl
    obtain ⟨hne, f, hf, rfl⟩ := hbx j f' hj
    rw [stillE_live i e f (hrc j f hf)] at hl
    rcases h with h | ⟨hle, rfl⟩
    ·exact H.sep b j f h hf hl
    ·intro heq
     exact hne (H.inj j i f e hf he hl hle heq)
   ·intro j k f' g' hj hk' hfl hgl heq
    obtain ⟨_, f, hf, rfl⟩ := hbx j f' hj
    obtain ⟨_, g, hg, rfl⟩ := hbx k g' hk'
    rw [stillE_live i e f (hrc j f hf)] at hfl
    rw [stillE_live i e g (hrc k g hg)] at hgl
    exact H.inj j k f g hf hg hfl hgl heq
   ·intro j f' hj hr hc
    obtain ⟨_, f, hf, rfl⟩ := hbx j f' hj
    rw [(stillE_row i e f).1] at hr
    cases hv : f.c with
    | some v =>
     obtain ⟨g4, val, g5, g6, g7⟩ := H.con j f v hf hr hv
     by_cases hcc : (v.tag == 2 && v.id == i && v.ix == 0 && v.tys.isEmpty && f.ty == e.ty) = true
     ·have hE : stillE i e f = ⟨f.ty, e.d, f.row, none⟩ := by unfold stillE; rw [hv]; simp only [hcc, if_true]
      rw [hE]
      simp only [Bool.and_eq_true, beq_iff_eq, List.isEmpty_iff] at hcc
      obtain ⟨⟨⟨⟨c1, c2⟩, c3⟩, c4⟩, c5⟩ := hcc
      have hv' := (g7.d5 c1 e (by rw [c2]; exact he) h0).1 c4 c3
      have hrow := row_data (H.row i e he h0) h0 hk (fun hl => .inr ⟨hl, rfl⟩)
      rw [c2] at hv'
      rw [<- hv', <- c5] at hrow
      obtain ⟨⟨n, hn⟩, _⟩ := hrow
      exact ⟨val.cells, by rw [objC_ne (by omega)] at g5; exact g5, n, hn⟩
     ·by_cases hcd : (v.tag == 7 && (refs v).contains i) = true
      ·have h7 : v.tag = 7 := by
        rw [Bool.and_eq_true, beq_iff_eq] at hcd
        exact hcd.1
       by_cases hall : (stillV i e v).tys.all (· == 0) = true
       ·have hE : stillE i e f = ⟨f.ty, (stillV i e v).d, f.row, none⟩ := by unfold stillE; rw [hv]; simp only [hcc, hcd, hall, if_true, Bool.false_eq_true, if_false]
        rw [hE]
        obtain ⟨n, hn⟩ := spl_data (hspl v val h7 g7) hall
        refine ⟨val.cells, by rw [objC_ne (by omega)] at g5; exact g5, n, ?_⟩
        have ht : (stillV i e v).ty = f.ty := g4.2.1 h7
        rw [ht] at hn
        exact hn
       ·exfalso
        unfold stillE at hc
        rw [hv] at hc
        simp only [hcc, hcd, hall, if_true, Bool.false_eq_true, if_false] at hc
        cases hc
      ·exfalso
       unfold stillE at hc
       rw [hv] at hc
       simp only [hcc, hcd, Bool.false_eq_true, if_false] at hc
       split at hc
       ·cases hc
       ·rw [hv] at hc; cases hc
    | none =>
     have hE : stillE i e f = f := by unfold stillE; rw [hv]
     rw [hE]
     obtain ⟨cs, c1, n, c2⟩ := H.box j f hf hr hv
     exact ⟨cs, c1, n, c2.move (fun _ _ => rfl) hk⟩
   ·intro j f' v hj hr hc
    obtain ⟨_, f, hf, rfl⟩ := hbx j f' hj
    rw [(stillE_row i e f).1] at hr
    rw [(stillE_row i e f).2]
    unfold stillE at hc
    split at hc
    ·rename_i u hu
     obtain ⟨g4, val, g5, g6, g7⟩ := H.con j f u hf hr hu
     split at hc
     ·cases hc
     ·split at hc
      ·rename_i hcd
       have h7 : u.tag = 7 := by
        rw [Bool.and_eq_true, beq_iff_eq] at hcd
        exact hcd.1
       split at hc
       ·cases hc
       ·cases hc
        exact ⟨⟨fun hh => absurd h7 hh, fun _ => g4.2.1 h7, fun hh => absurd (h7.symm.trans hh) (by decide)⟩, val, by rw [objC_ne (by omega)] at g5; rw [objC_ne (show (stillV i e u).tag ≠ 8 by show u.tag ≠ 8; omega)]; exact g5, fun hh => absurd h7 hh, hspl7 u val h7 g7⟩
      ·split at hc
       ·cases hc
        exact ⟨g4.dz, val, by rw [objC_dz]; exact g5, fun hh => g6 (fun h7 => hh ((dz_tag u).1.2 h7)), repAV_dz g7 (fun _ _ => rfl) hk⟩
       ·rename_i hni
        rw [hu] at hc
        cases hc
        exact ⟨g4, val, g5, g6, htr _ val (by simpa using hni) g7⟩
    ·rename_i hn
     rw [hn] at hc
     cases hc
   ·intro j f' hj hr
    obtain ⟨_, f, hf, rfl⟩ := hbx j f' hj
    rw [(stillE_row i e f).1] at hr
    have : stillE i e f = f := by unfold stillE; rw [hrc j f hf hr]
    rw [this]
    exact (H.row j f hf hr).move (fun _ => rfl) (fun _ _ => rfl) hk
   ·intro j f' v hj hc
    obtain ⟨_, f, hf, rfl⟩ := hbx j f' hj
    unfold stillE at hc
    split at hc
    ·rename_i u hu
     split at hc
     ·cases hc
     ·split at hc
      ·rename_i hcd
       have h7 : u.tag = 7 := by
        rw [Bool.and_eq_true, beq_iff_eq] at hcd
        exact hcd.1
       split at hc
       ·cases hc
       ·cases hc
        intro q hq
        rw [refs_7 (x := stillV i e u) h7, mem_rids] at hq
        simp only [stillV, List.mem_map] at hq
        obtain ⟨t, ht, hq⟩ := hq
        have hti : t ≠ i + 2 := by
         intro hh
         rw [if_pos (by simpa using hh)] at hq
         omega
        rw [if_neg (by simpa using hti)] at hq
        subst hq
        have hqi : q ≠ i := fun hh => hti (by rw [hh])
        rw [hbx' q hqi]
        have := H.nb j f u hf hu q (by rw [refs_7 h7, mem_rids]; exact ht)
        simpa using this
      ·split at hc
       ·cases hc; exact live_of_refs (refs_dz u)
       ·rename_i hni
        rw [hu] at hc
        cases hc
        exact hlv _ (by simpa using hni) (H.nb j f _ hf hu)
    ·rename_i hn
     rw [hn] at hc
     cases hc
   ·intro j f' hj hr
    obtain ⟨_, f, hf, rfl⟩ := hbx j f' hj
    rw [(stillE_row i e f).1] at hr
    have : stillE i e f = f := by unfold stillE; rw [hrc j f hf hr]
    rw [this]
    exact hrc j f hf hr
   ·rcases h with h | ⟨hl, rfl⟩
    ·exact R.okb b h
    ·exact ⟨H.siz i e he hl, .inr (R.own i e he hl)⟩
   ·intro j f' hj hl
    obtain ⟨_, f, hf, rfl⟩ := hbx j f' hj
    rw [stillE_live i e f (hrc j f hf)] at hl
    exact R.own j f hf hl
   ·intro j f' hj hc
    obtain ⟨_, f, hf, rfl⟩ := hbx j f' hj
    rw [(stillE_row i e f).1] at hc
    have h1 := R.hdr j f hf hc
    refine ⟨?_, by rw [(stillE_row i e f).2]; exact h1.2⟩
    rw [<- h1.1]
    unfold hval
    rw [(stillE_row i e f).1]
    split
    ·rfl
    ·rename_i hr
     have : stillE i e f = f := by unfold stillE; rw [hrc j f hf hr]
     rw [this]
   ·rw [still_get he h0]
    have hs := R.slot j
    rcases stillA_cases i e (st.get j) with ⟨c1, c2, c3, c4, c5⟩ | hd | ⟨hsame, hni⟩
    ·rw [c5]
     have hv' := (hs.d5 c1 e (by rw [c2]; exact he) h0).1 c4 c3
     rw [hv', c2]
     exact repAV_dat (row_data (H.row i e he h0) h0 hk (fun hl => .inr ⟨hl, rfl⟩))
    ·rw [hd]; exact repAV_dz hs (fun _ _ => rfl) hk
    ·rw [hsame]; exact htr _ _ hni hs
   ·rw [still_get he h0]
    rcases stillA_cases i e (st.get j) with ⟨c1, c2, c3, c4, c5⟩ | hd | ⟨hsame, hni⟩
    ·rw [c5]; exact live_of_refs rfl
    ·rw [hd]; exact live_of_refs (refs_dz _)
    ·rw [hsame]; exact hlv _ hni (R.nd j)

end
end Go.Ev
