/- Trees of functions, and lemmas. Nothing here is trusted. -/
import Derived.Test.YtngkmngbnlmgjaaZ07
import Derived.Laws.OwnMore
namespace Go.Ev
open Go.RowKit
set_option linter.unusedVariables false
set_option linter.unusedSimpArgs false
section
variable {P : Program} {w w' : World} {ok ok' : Nat -> Prop} {β : Nat -> Nat × Nat}
variable {F : Fr P} {st st' : St} {a : Act} {env : Env} {o : Oper} {av : AV} {Q : Exit -> Act -> World -> Prop}

theorem splice_at (cur cs : List Value) (off j sz : Nat) (h : off + cs.length <= cur.length) (hj : j + sz <= off \/ off + cs.length <= j) : ((splice cur off cs).drop j).take sz = (cur.drop j).take sz := by
 apply List.ext_getElem?
 intro q
 rw [List.getElem?_take, List.getElem?_take]
 split
 ·rw [List.getElem?_drop, List.getElem?_drop]
  unfold splice
  rcases hj with hj | hj
  ·rw [List.append_assoc, List.getElem?_append_left (by rw [List.length_take]; omega), List.getElem?_take, if_pos (by omega)]
  ·rw [List.getElem?_append_right (by rw [List.length_append, List.length_take]; omega), List.getElem?_drop, List.length_append, List.length_take]
   congr 1
   omega
 ·rfl

theorem splice_in (cur cs : List Value) (off : Nat) (h : off + cs.length <= cur.length) : ((splice cur off cs).drop off).take cs.length = cs := by
 unfold splice
 rw [List.append_assoc, List.drop_append, List.drop_of_length_le (by rw [List.length_take]; omega), List.nil_append, List.length_take]
 have : off - min off cur.length = 0 := by omega
 rw [this, List.drop_zero]
 exact List.take_left

theorem splice_len (cur cs : List Value) (off : Nat) (h : off + cs.length <= cur.length) : (splice cur off cs).length = cur.length := by
 unfold splice
 simp only [List.length_append, List.length_take, List.length_drop]
 omega

theorem rep7 {x : AV} {v : Value} {bx : Nat -> Option Ent} (h7 : x.tag = 7) (h : SplRep P w ok β bx x v.cells.toList) : RepAV P w ok β bx x v :=
 ⟨fun e => by omega, fun e => by omega, fun e => by omega, fun e => by omega, fun e => by omega, fun e => by omega, fun e => by omega, fun e => by omega, fun e => by omega, fun _ => h, fun e => by omega⟩

theorem live_spl {t : TypeId} {d : D} {k r n : Nat} {bx : Nat -> Option Ent} (hb : (bx r).isSome = true) : LiveB bx ⟨7, t, d, 0, 0, 0, (List.replicate n 0).set k (r + 2)⟩ := by
 intro q hq
 rw [refs_7 rfl, mem_rids] at hq
 have hq : (q + 2) ∈ (List.replicate n 0).set k (r + 2) := hq
 rcases List.mem_or_eq_of_mem_set hq with hq | hq
 ·have := List.eq_of_mem_replicate hq
  omega
 ·have : q = r := by omega
  rw [this]; exact hb
theorem rowBuild_live {t : TypeId} {z : D} {parts : List (Nat × Operand)} (h : rowBuild P st t z parts = some av) : LiveB st.bx av := by
 unfold rowBuild at h
 split at h
 ·rename_i k i
  split at h
  ·split at h
   ·rename_i e he
    split at h
    ·cases h
     obtain ⟨_, _, a4, _⟩ := rowOf_spec he
     intro q hq
     rw [refs_7 rfl, mem_rids] at hq
     have hq : (q + 2) ∈ (List.replicate (nF P t) 0).set k ((st.get i).id + 2) := hq
     rcases List.mem_or_eq_of_mem_set hq with hq | hq
     ·have := List.eq_of_mem_replicate hq
      omega
     ·have : q = (st.get i).id := by omega
      rw [this, a4]; rfl
    ·cases h
   ·cases h
  ·cases h
 ·cases h
theorem hv_cells (b : Nat × Nat) (e : Ent) : (hv b e).cells = #[hv b e] /\ (hv b e).oneCell' = true := by
 unfold hv
 split <;> exact ⟨rfl, rfl⟩
theorem good_rowBuild (R : RelX P F st ok β a w) {t : TypeId} {parts : Array (Nat × Operand)} (hop : o.op = .build t parts) {fs : Array Field} (hu : P.underlying t = some (.struct fs))
  (hl : layOK P fs (P.cellsOf t) = true) {z : D} (hz : zeroOf P t = some z) (h : rowBuild P st t z parts.toList = some av) : o.wp P a w (Good P ok β st o av a w) Q := by
 unfold rowBuild at h
 split at h
 ·rename_i k i hp
  split at h
  ·rename_i f hf
   split at h
   ·rename_i e he
    split at h
    ·rename_i h1
     rw [beq_iff_eq] at h1
     cases h
     obtain ⟨i0, v, n, hi, hzv, hsz, hrep⟩ := zeroOf_spec hz
     obtain ⟨places, hpm, hpl⟩ := places_of (P := P) (fs := fs) (fun k f hk => (layOK_spec hl hk hk).2.1)
     obtain ⟨fs', hus, hl', hkf⟩ := fieldOf_spec hf
     rw [hu] at hus
     cases hus
     obtain ⟨a1, ⟨a2, a3⟩, a4, a5, a6⟩ := rowOf_spec he
     have hv0 : a.tmps.getD i undef = hv (β (st.get i).id) e := ((R.slot i).d5 a1 e a4 a6).1 a3 a2
     have hfit := (layOK_spec hl hkf hkf).1
     have hr := hrep w ok
     have hlen := hr.len
     have hone := hr.one
     have hstep := fill_step (place := fun x => places[x]?) (cells := v.cells) (i := k) (off := f.offset) (size := P.cellsOf f.type) (v := hv (β (st.get i).id) e) (rest := [])
      (hpl k f hkf) (by rw [(hv_cells _ _).1, h1]; rfl) (by simp at hlen; omega)
     rw [(hv_cells _ _).1] at hstep
     have hs1 : f.offset + [hv (β (st.get i).id) e].length <= v.cells.toList.length := by rw [hlen, List.length_singleton]; omega
     have hnf : nF P t = fs.size := by unfold nF; rw [hu]
     obtain ⟨m, ps, rfl, rfl, hps, hpp⟩ := hr.struct hu
     have hsr : SplRep P w ok β st.bx ⟨7, t, .agg ps, 0, 1, 0, (List.replicate (nF P t) 0).set k ((st.get i).id + 2)⟩ (splice v.cells.toList f.offset [hv (β (st.get i).id) e]) := by
      refine ⟨fs, hu, hl, by rw [splice_len _ _ _ hs1, hlen], ?_, hps, by simp [hnf], fun k' g hg => ⟨fun h0 => ?_, fun j e' hj he' => ?_⟩⟩
      ·intro u hu2
       unfold splice at hu2
       rw [List.mem_append, List.mem_append] at hu2
       rcases hu2 with (hu2 | hu2) | hu2
       ·exact hone u (List.mem_of_mem_take hu2)
       ·rw [List.mem_singleton] at hu2; rw [hu2]; exact (hv_cells _ _).2
       ·exact hone u (List.mem_of_mem_drop hu2)
      ·have h0 : ((List.replicate (nF P t) 0).set k ((st.get i).id + 2))[k']? = some 0 := h0
       have hkk : k' ≠ k := by
        intro hkk
        subst hkk
        rw [List.getElem?_set] at h0
        simp at h0
       have hap := (layOK_spec hl hkf hg).2.2
       refine ⟨m, ?_⟩
       rw [splice_at _ _ _ _ _ hs1 (by
        rw [List.length_singleton, <- h1]
        rcases hap with hap | hap | hap
        ·exact absurd hap.symm hkk
        ·exact .inr hap
        ·exact .inl hap)]
       exact hpp k' g hg
      ·have hj : ((List.replicate (nF P t) 0).set k ((st.get i).id + 2))[k']? = some (j + 2) := hj
       have hjr : k' = k /\ j = (st.get i).id := by
        rw [List.getElem?_set] at hj
        split at hj
        ·rename_i hkk
         split at hj
         ·have : (st.get i).id + 2 = j + 2 := by simpa using hj
          exact ⟨hkk.symm, by omega⟩
         ·cases hj
        ·rw [List.getElem?_replicate] at hj
         split at hj
         ·have : (0 : Nat) = j + 2 := Option.some.inj hj
          omega
         ·cases hj
       obtain ⟨rfl, rfl⟩ := hjr
       rw [hkf] at hg
       cases hg
       rw [a4] at he'
       cases he'
       exact ⟨a6, a5, h1, splice_in v.cells.toList [hv (β (st.get i).id) e] f.offset hs1⟩
     refine good_value (v := .agg (splice v.cells.toList f.offset [hv (β (st.get i).id) e]).toArray) ?_ (rep7 rfl (by simpa [Value.cells] using hsr))
     unfold execOp
     simp only [hop, Sem.run_bind]
     have hparts : parts.toList.map (fun p => (p.1, a.eval p.2)) = [(k, hv (β (st.get i).id) e)] := by
      rw [hp]
      show [(k, a.tmps.getD i undef)] = _
      rw [hv0]
     rw [run_build w t _ (splice v.cells.toList f.offset [hv (β (st.get i).id) e]).toArray ?_]
     ·rfl
     ·simp only [Program.built, hi, hu, hzv, hpm]
      have : (fun x : Nat => places.toArray[x]?) = (fun x : Nat => places[x]?) := by funext x; simp
      rw [this]
      have hfill : Instr.fill (fun x => places[x]?) v.cells [(k, hv (β (st.get i).id) e)] = some (splice v.cells.toList f.offset [hv (β (st.get i).id) e]).toArray := by
       rw [hstep]; rfl
      rw [<- hfill, <- hparts]
      congr 1
      simp
    ·cases h
   ·cases h
  ·cases h
 ·cases h

theorem good_buildSlice0 (R : RelX P F st ok β a w) {t e : TypeId} {parts : Array (Nat × Operand)} (hop : o.op = .buildSlice t 0 parts) (hu : P.underlying t = some (.slice e)) (h1 : P.cellsOf t = 1) (hp : 0 < P.cellsOf e)
  (hz : parts.size = 0) : o.wp P a w (Good P ok β st o (ful t (.slice [] [])) a w) Q := by
 have hinfo : ∃ ii, P.info? e = some ii := by
  unfold Program.cellsOf at hp
  cases hi : P.info? e with
  | none => rw [hi] at hp; simp at hp
  | some i => exact ⟨i, rfl⟩
 obtain ⟨ii, hi⟩ := hinfo
 have hparts : parts = #[] := by simpa using hz
 have hx : (execOp a.eval o).run P w = .ok (.value (.slice (some ⟨w.heap.size, 0, none⟩) 0 0)) (w.alloc (.cells #[] e)) := by
  unfold execOp
  simp [hop, hparts, Instr.buildSlice, run_underlying hu, run_sizeOf w hi, Instr.fill, newRow, show Array.range 0 = #[] from rfl]
 have hb : Below w.heap.size w (w.alloc (.cells #[] e)) := (Below.refl _ _).alloc (Nat.le_refl _) _
 have hsz' : (w.alloc (.cells #[] e)).heap.size = w.heap.size + 1 := by simp
 unfold Oper.wp
 rw [hx]
 refine ⟨_, fun b => ok b \/ b = w.heap.size, rfl, hb, fun b h => .inl h, fun b h => ?_, repAV_ful ⟨⟨1, by simp [Value.cells, h1], by simp [Value.cells, Value.oneCell'], ?_⟩, by simp [isAggB, hu], fun _ => rfl⟩⟩
 ·rcases h with h | h
  ·exact .inl h
  ·right; rw [hsz']; omega
 ·rw [hu]
  exact ⟨rfl, some ⟨w.heap.size, 0, none⟩, 0, by simp [Value.cells], Nat.le_refl _, Nat.zero_le _, by simp, fun y hy k y' hk => by simp at hk⟩

theorem evVal_sound (henv : EnvOK P env) (R : RelX P F st ok β a w) (hc : chkOp P env st o = true) (hnh : ∀ c, o.op = .call c -> heapF P env st c = none /\ roSlot st c = none /\ freshF env c = none /\ bornF env c = none) (h : evVal P env o st = some av) : o.wp P a w (Good P ok β st o av a w) Q := by
 unfold evVal at h
 split at h
 ·rename_i x hop; exact good_move R (.inl hop) h
 ·rename_i x hop; exact good_move R (.inr hop) h
 ·rename_i c x y hop
  split at h
  ·rename_i b hb; exact good_pick R hop hb (by simpa using h)
  ·cases h
 ·rename_i hop
  split at h
  ·rename_i hn; exact good_nil R hop hn h
  ·exact good_bin R hop hc h
 ·rename_i hop
  split at h
  ·rename_i hk hu
   split at h
   ·rename_i hs; exact good_convert R hop hk (Option.isSome_iff_exists.1 hs) hu h
   ·cases h
  ·rename_i hu
   split at h
   ·rename_i e hs
    split at h
    ·rename_i hcond
     simp only [Bool.and_eq_true, beq_iff_eq] at hcond
     exact good_convBytes R hop hs hu hcond.1.1 hcond.1.2 hcond.2 h
    ·cases h
   ·cases h
  ·cases h
 ·rename_i t x lo hi mx hop
  split at h
  ·rename_i e hu
   split at h
   ·rename_i hcond
    simp only [Bool.and_eq_true, beq_iff_eq, decide_eq_true_eq, Option.isNone_iff_eq_none] at hcond
    obtain ⟨⟨⟨⟨⟨rfl, c1⟩, c2⟩, c3⟩, c4⟩, c5⟩ := hcond
    cases h
    exact good_slice R hop hu hc c1 c2 c3 c4 c5
   ·cases h
  ·rename_i hu
   split at h
   ·rename_i hcond
    simp only [Bool.and_eq_true, beq_iff_eq, Option.isNone_iff_eq_none] at hcond
    obtain ⟨⟨⟨⟨⟨rfl, c1⟩, c2⟩, c3⟩, c4⟩, c5⟩ := hcond
    cases h
    exact good_sliceStr R hop hu hc c1 c2 c3 c4 c5
   ·cases h
  ·cases h
 ·rename_i hop; exact good_not R hop h
 ·rename_i hop; exact good_neg R hop h
 ·rename_i hop
  split at h
  ·rename_i f hf; exact good_field R hop hf h
  ·cases h
 ·rename_i hop
  split at h
  ·rename_i e hu; exact good_indexAddr R hop hu hc h
  ·rename_i m e hu; exact good_indexRef R hop hu hc h
  ·cases h
 ·rename_i hop
  split at h
  ·rename_i t ht; exact good_extract R hop ht h
  ·cases h
 ·rename_i hop
  split at h
  ·rename_i fs hu
   split at h
   ·rename_i hl
    split at h
    ·rename_i z hz
     split at h
     ·exact good_rowBuild R hop hu hl hz h
     ·exact good_build R hop hu hl hz env.sn h
    ·cases h
   ·cases h
  ·rename_i m e hu
   split at h
   ·rename_i hcond
    simp only [Bool.and_eq_true, beq_iff_eq, decide_eq_true_eq] at hcond
    split at h
    ·rename_i z hz; exact good_buildArr R hop hu hcond.1 hcond.2 hz h
    ·cases h
   ·cases h
  ·cases h
 ·rename_i t x i hop
  split at h
  ·rename_i m e hu
   split at h
   ·rename_i hcond
    simp only [Bool.and_eq_true, beq_iff_eq, decide_eq_true_eq] at hcond
    cases h
    exact good_index R hop hu hc hcond.1.1.1 hcond.1.1.2 hcond.1.2 hcond.2
   ·cases h
  ·rename_i hu
   split at h
   ·rename_i hcond
    simp only [Bool.and_eq_true, beq_iff_eq] at hcond
    exact good_indexStr R hop hu hc hcond.1.1 hcond.1.2 hcond.2 h
   ·cases h
  ·cases h
 ·rename_i f first caps hop
  split at h
  ·rename_i hfl
   split at h
   ·obtain ⟨ids, hids, rfl⟩ := Option.map_eq_some_iff.1 h
    exact good_makeFunc R hop (by simpa using hfl) hids
   ·cases h
  ·rename_i x hfl
   split at h
   ·rename_i hcond
    simp only [Bool.and_eq_true, beq_iff_eq] at hcond
    cases h
    exact good_makeBnd R hop hfl hcond.1.1.2 hcond.1.1.1 hcond.1.2 hcond.2
   ·cases h
  ·cases h
 ·rename_i t len parts hop
  split at h
  ·rename_i e hu
   split at h
   ·rename_i hcond
    simp only [Bool.and_eq_true, beq_iff_eq, decide_eq_true_eq] at hcond
    obtain ⟨⟨h1, hp⟩, hsm⟩ := hcond
    split at h
    ·rename_i hl
     rw [beq_iff_eq] at hl
     subst hl
     split at h
     ·rename_i hz
      cases h
      exact good_buildSlice0 R hop hu h1 hp (by simpa using hz)
     ·cases h
    ·rename_i hl
     split at h
     ·rename_i z hz; exact good_buildSlice R hop hu h1 hp hsm (by simpa using hl) hz h
     ·cases h
   ·cases h
  ·cases h
 ·rename_i c hop
  split at h
  ·rename_i b hb
   unfold evBuiltin at h
   split at h
   ·rename_i x y t t' hb2 hx ht
    split at h
    ·rename_i k k' hk hk'; exact good_max R hop hb hx ht hk hk' h
    ·cases h
   ·rename_i x y t t' hb2 hx ht
    split at h
    ·rename_i k k' hk hk'; exact good_min R hop hb hx ht hk hk' h
    ·cases h
   ·rename_i x t hb2 hx ht
    split at h
    ·rename_i e hu; exact good_len R hop hb hx ht hu h
    ·rename_i hu; exact good_lenStr R hop hb hx ht hu h
    ·cases h
   ·cases h
  ·split at h
   ·rename_i f as hf has; exact good_call R henv hop hf has hc (hnh c hop).1 (hnh c hop).2.1 (hnh c hop).2.2.1 (hnh c hop).2.2.2 h
   ·cases h
 ·cases h

/-! ### No address leads to a box that is not there -/
def ND (st : St) : Prop := ∀ i, LiveB st.bx (st.get i)
theorem mkRes_tag (t : TypeId) (d : D) : (mkRes P t d).tag = 1 \/ (mkRes P t d).tag = 6 := by
 unfold mkRes
 split
 ·exact .inr rfl
 ·exact .inl rfl

theorem boolA_tag {t : TypeId} {b : Bool} {v : AV} (h : boolA P t b = some v) : refs v = [] := by
 unfold boolA at h
 repeat' split at h
 all_goals first | (cases h; done) | (cases h; rfl)

theorem intA_tag {t : TypeId} {k : IntKind} {n : Int} {v : AV} (h : intA P t k n = some v) : refs v = [] := by
 unfold intA at h
 repeat' split at h
 all_goals first | (cases h; done) | (cases h; rfl)

theorem strA_tag {t : TypeId} {s : List UInt8} {v : AV} (h : strA P t s = some v) : refs v = [] := by
 unfold strA at h
 repeat' split at h
 all_goals first | (cases h; done) | (cases h; rfl)

theorem tabEl_refs {m : Nat} {e : TypeId} {x : Operand} {i v : AV} (h : tabEl P m e x i = some v) : refs v = [] := by
 unfold tabEl at h
 repeat' split at h
 all_goals first | (cases h; done) | (cases h; rfl)
theorem evBin_tag {op : BinOp} {t : TypeId} {x y v : AV} (h : evBin P o op t x y = some v) : refs v = [] := by
 unfold evBin at h
 split at h
 ·split at h
  ·unfold binInt at h
   split at h <;> first | exact intA_tag h | exact boolA_tag h | cases h
  ·split at h
   ·unfold binInt at h
    split at h <;> first | exact intA_tag h | exact boolA_tag h | cases h
   ·cases h
 ·split at h
  ·split at h <;> first | exact boolA_tag h | cases h
  ·split at h
   ·split at h <;> first | exact boolA_tag h | cases h
   ·split at h
    ·split at h <;> first | exact boolA_tag h | cases h
    ·split at h
     ·unfold binStr at h
      split at h <;> first | exact strA_tag h | exact boolA_tag h | cases h
     ·cases h

theorem capIds_live (hn : ND st) : ∀ (l : List Operand) (ids : List Nat), capIds P st l = some ids -> ∀ j ∈ ids, (st.bx j).isSome = true
 | [], ids, h, j, hj => by
  simp only [capIds, Option.some.injEq] at h
  subst h
  cases hj
 | x :: xs, ids, h, j, hj => by
  simp only [capIds] at h
  split at h
  ·rename_i hc
   simp only [Bool.and_eq_true, beq_iff_eq, List.isEmpty_iff] at hc
   obtain ⟨ids', h', rfl⟩ := Option.map_eq_some_iff.1 h
   rcases List.mem_cons.1 hj with rfl | hj
   ·exact opd_live hn 0 x _ (by rw [refs_2 hc.1.1]; simp)
   ·exact capIds_live hn xs ids' h' j hj
  ·cases h

theorem retA_live {bx : Nat -> Option Ent} {t : TypeId} {v : AV} (h : LiveB bx v) : LiveB bx (retA P t v) := by
 unfold retA
 split
 ·split
  ·split
   ·exact live_of_refs rfl
   ·exact h
  ·exact h
 ·exact h
theorem evVal_live (hn : ND st) (h : evVal P env o st = some av) : LiveB st.bx av := by
 unfold evVal at h
 split at h
 ·cases h; exact retA_live (opd_live hn _ _)
 ·cases h; exact retA_live (opd_live hn _ _)
 ·split at h
  ·rename_i b _
   cases h
   cases b
   ·exact opd_live hn _ _
   ·exact opd_live hn _ _
  ·cases h
 ·split at h
  ·unfold evNil at h
   split at h
   ·split at h
    ·split at h
     ·exact live_of_refs (boolA_tag h)
     ·exact live_of_refs (boolA_tag h)
     ·cases h
    ·cases h
   ·cases h
  ·exact live_of_refs (evBin_tag h)
 ·split at h
  ·split at h
   ·exact live_of_refs (intA_tag h)
   ·cases h
  ·split at h
   ·split at h
    ·exact live_of_refs (strA_tag h)
    ·cases h
   ·cases h
  ·cases h
 ·split at h
  ·split at h
   ·cases h; exact live_of_refs rfl
   ·cases h
  ·split at h
   ·cases h; exact live_of_refs rfl
   ·cases h
  ·cases h
 ·split at h
  ·exact live_of_refs (boolA_tag h)
  ·cases h
 ·split at h
  ·exact live_of_refs (intA_tag h)
  ·cases h
 ·split at h
  ·split at h
   ·cases h; exact live_of_refs rfl
   ·cases h
  ·cases h
 ·split at h
  ·split at h
   ·cases h; exact live_of_refs rfl
   ·cases h
  ·split at h
   ·cases h; exact live_of_refs rfl
   ·exact live_of_refs (tabEl_refs h)
  ·cases h
 ·split at h
  ·split at h
   ·cases h; exact live_of_refs rfl
   ·cases h
  ·cases h
 ·split at h
  ·split at h
   ·split at h
    ·split at h
     ·exact rowBuild_live h
     obtain ⟨d, _, rfl⟩ := Option.map_eq_some_iff.1 h
     split <;> exact live_of_refs rfl
    ·cases h
   ·cases h
  ·split at h
   ·split at h
    ·obtain ⟨d, _, rfl⟩ := Option.map_eq_some_iff.1 h
     exact live_of_refs rfl
    ·cases h
   ·cases h
  ·cases h
 ·split at h
  ·split at h
   ·cases h; exact live_of_refs rfl
   ·cases h
  ·split at h
   ·exact live_of_refs (intA_tag h)
   ·cases h
  ·cases h
 ·split at h
  ·split at h
   ·obtain ⟨ids, hids, rfl⟩ := Option.map_eq_some_iff.1 h
    intro j hj
    have hj' : j ∈ ids := by rw [refs_4 rfl] at hj; exact hj
    exact capIds_live hn _ _ hids j hj'
   ·cases h
  ·split at h
   ·cases h; exact live_of_refs rfl
   ·cases h
  ·cases h
 ·split at h
  ·split at h
   ·split at h
    ·split at h
     ·cases h; exact live_of_refs rfl
     ·cases h
    ·split at h
     ·obtain ⟨d, _, rfl⟩ := Option.map_eq_some_iff.1 h
      exact live_of_refs rfl
     ·cases h
   ·cases h
  ·cases h
 ·split at h
  ·unfold evBuiltin at h
   split at h
   ·split at h
    ·split at h
     ·exact live_of_refs (intA_tag h)
     ·cases h
    ·cases h
   ·split at h
    ·split at h
     ·exact live_of_refs (intA_tag h)
     ·cases h
    ·cases h
   ·split at h
    ·split at h
     ·exact live_of_refs (intA_tag h)
     ·cases h
    ·split at h
     ·exact live_of_refs (intA_tag h)
     ·cases h
    ·cases h
   ·cases h
  ·split at h
   ·split at h
    ·split at h
     ·obtain ⟨d, _, rfl⟩ := Option.map_eq_some_iff.1 h
      rename_i t _ _ _ _ _
      rcases mkRes_tag (P := P) _ d with e | e
      ·exact live_of_ne (fun h2 => by rw [e] at h2; cases h2) (fun h2 => by rw [e] at h2; cases h2) (fun h2 => by rw [e] at h2; cases h2)
      ·exact live_of_ne (fun h2 => by rw [e] at h2; cases h2) (fun h2 => by rw [e] at h2; cases h2) (fun h2 => by rw [e] at h2; cases h2)
     ·cases h
    ·cases h
   ·cases h
 ·cases h

/-! ### Memory -/
theorem run_isAgg {t : TypeId} {u : TypeDesc} (hu : P.underlying t = some u) : (isAgg t).run P w = .ok (isAggB P t) w := by
 unfold isAggB
 rw [hu]
 cases u <;> simp [isAgg, run_underlying hu]

theorem one1_spec {t : TypeId} (h : one1 P t = true) : P.cellsOf t = 1 /\ isAggB P t = false /\ ∃ u, P.underlying t = some u := by
 unfold one1 at h
 rw [Bool.and_eq_true, beq_iff_eq] at h
 refine ⟨h.1, ?_⟩
 have h2 := h.2
 split at h2
 ·rename_i hu; exact ⟨by simp [isAggB, hu], _, hu⟩
 ·rename_i hu; exact ⟨by simp [isAggB, hu], _, hu⟩
 ·rename_i hu; exact ⟨by simp [isAggB, hu], _, hu⟩
 ·cases h2

theorem run_loadVar {t : TypeId} {y : Addr} {cs : List Value} {n : Nat} {d : D} (hrow : rowAt w y cs) (hr : Rep P w ok n t cs d) :
  ∃ v, (loadVar t y).run P w = .ok v w /\ RepV P w ok t v d := by
 obtain ⟨u, i, hu, hi⟩ := hr.info
 have hlen := hr.len
 cases hagg : isAggB P t with
 | true =>
  have hl := run_loadCells_list (P := P) w y cs hrow
  rw [hlen] at hl
  refine ⟨.agg cs.toArray, ?_, ⟨n, by simpa [Value.cells] using hr⟩, fun _ => ⟨_, rfl⟩, fun h => by rw [hagg] at h; cases h⟩
  simp [loadVar, run_isAgg hu, hagg, run_sizeOf w hi, hl]
 | false =>
  obtain ⟨v, hp, hrv⟩ := run_part (P := P) (w := w) (ok := ok) (ft := t) (fo := 0) (xs := cs.toArray) (n := n) (d := d) (by
   have : (cs.toArray.toList.drop 0).take (P.cellsOf t) = cs := by simp [<- hlen]
   rw [this]; exact hr)
  have hx : cs[0]? = some v := by
   unfold part at hp
   simp only [Sem.run_bind, run_isAgg hu, hagg, Result.andThen_ok, Bool.false_eq_true, if_false] at hp
   cases h0 : cs.toArray[0]? with
   | none => rw [h0] at hp; simp at hp
   | some v' => rw [h0] at hp; simp at hp; subst hp; simpa using h0
  have hcell := hrow 0 v hx
  refine ⟨v, ?_, hrv⟩
  simp only [loadVar, Sem.run_bind, run_isAgg hu, hagg, Result.andThen_ok, Bool.false_eq_true, if_false, run_load]
  have : y.add 0 = y := by simp [Addr.add]
  rw [this] at hcell
  rw [hcell]

theorem box_row {d : Nat} {cs : Array Value} {ty : TypeId} {fr : Nat × Nat} (h : w.heap[d]? = some (.cells cs ty fr)) (off m : Nat) : rowAt w ⟨d, off, none⟩ ((cs.toList.drop off).take m) := by
 intro j v hj
 rw [List.getElem?_take] at hj
 split at hj
 ·rw [List.getElem?_drop] at hj
  have hadd : (⟨d, off, none⟩ : Addr).add j = ⟨d, off + j, none⟩ := by unfold Addr.add; split <;> simp_all
  rw [hadd]
  simp only [World.cell?, h]
  simpa using hj
 ·cases hj

theorem eltD_get {e : Ent} {x : AV} {i : Nat} (hi : i < (elemsD e.d).length) (hx : intD x.d = (i : Int)) : (elemsD e.d)[i]? = some (eltD e x) := by
 unfold eltD
 rw [hx, Int.toNat_natCast]
 simp [List.getD, hi]

/-- An element of a row in memory. -/
theorem elem_rep (R : RelX P F st ok β a w) {e : Ent} {d i : Nat} {el : TypeId} (he : st.bx d = some e) (he0 : e.row ≠ 0) (hu : P.underlying e.ty = some (.slice el)) (hi : i < (elemsD e.d).length) :
  e.live = true /\ 0 < P.cellsOf el /\ ∃ (cur : Array Value) (n : Nat), w.heap[(β d).1]? = some (.cells cur el (0, 0)) /\ i * P.cellsOf el + P.cellsOf el <= cur.size /\
   ∀ y, (elemsD e.d)[i]? = some y -> Rep P w ok n el ((cur.toList.drop (i * P.cellsOf el)).take (P.cellsOf el)) y := by
 obtain ⟨el', hu', h1, hpos, _, h5⟩ := R.hp.row d e he he0
 rw [hu] at hu'
 cases hu'
 have hl : e.live = true := by
  unfold Ent.live
  have : (elemsD e.d).isEmpty = false := by
   cases h : elemsD e.d with
   | nil => rw [h] at hi; simp at hi
   | cons y l => rfl
  rw [this]
  simp
 obtain ⟨cur, n, g1, g2, g3, g4, g5⟩ := h5 hl
 refine ⟨hl, hpos, cur, n, g1, ?_, fun y hy => g5 i y hy⟩
 rw [g4, <- Nat.succ_mul]
 exact Nat.mul_le_mul_right _ (by omega)

theorem ldE_sound (R : RelX P F st ok β a w) {t : TypeId} {x : AV} {v : Value} (hx : RepAV P w ok β st.bx x v) {e : Ent} (htag : x.tag = 2) (he : st.bx x.id = some e) (he0 : e.row ≠ 0) (htys : x.tys ≠ []) {d : D} (h : ldE P e t x = some d) :
  ∃ y u, v = .pointer (some y) /\ (loadVar t y).run P w = .ok u w /\ RepV P w ok t u d := by
 obtain ⟨el, i, hu, hi, hidx, hv, h0, hk⟩ := (hx.d5 htag e he he0).2.1 htys
 obtain ⟨hl, hpos, cur, n, hcs, hfit, hrep⟩ := elem_rep R he he0 hu hi
 have hn := hrep _ (eltD_get hi hidx)
 unfold ldE at h
 rw [hu] at h
 simp only at h
 split at h
 ·rename_i hix
  split at h
  ·rename_i het
   rw [beq_iff_eq] at het
   cases h
   subst het
   obtain ⟨ho, _⟩ := h0 hix
   have hrow := box_row hcs (i * P.cellsOf el) (P.cellsOf el)
   obtain ⟨u, hu1, hu2⟩ := run_loadVar hrow hn
   exact ⟨_, u, by rw [hv, ho, Nat.add_zero], hu1, hu2.norm⟩
  ·cases h
 ·rename_i k hix
  split at h
  ·rename_i f hf
   split at h
   ·rename_i hft
    rw [beq_iff_eq] at hft
    cases h
    obtain ⟨g, hg, ho, _⟩ := hk k hix
    rw [hf] at hg
    cases hg
    obtain ⟨m, hm⟩ := hn.field hf
    obtain ⟨fs, hus, hlay, hkf⟩ := fieldOf_spec hf
    have hff := (layOK_spec hlay hkf hkf).1
    have e1 : ((((cur.toList.drop (i * P.cellsOf el)).take (P.cellsOf el)).drop f.offset).take (P.cellsOf f.type)) = (cur.toList.drop (i * P.cellsOf el + f.offset)).take (P.cellsOf f.type) := by
     rw [List.drop_take, List.drop_drop, List.take_take]
     congr 1
     omega
    rw [e1, hft] at hm
    have hrow := box_row hcs (i * P.cellsOf el + f.offset) (P.cellsOf t)
    obtain ⟨u, hu1, hu2⟩ := run_loadVar hrow hm
    exact ⟨_, u, by rw [hv, <- ho], hu1, hu2.norm⟩
   ·cases h
  ·cases h

/-- What is read at an address is there. -/
theorem globalNamed_has {nm : String} {g : Nat} (h : P.globalNamed nm = some g) : hasVar P nm = true := by
 unfold Program.globalNamed at h
 split at h
 ·rename_i g' hf
  have hm : g' ∈ (List.range P.globals.size).filter fun g => (P.globals[g]?).any (·.name == nm) := by rw [hf]; simp
  rw [List.mem_filter] at hm
  obtain ⟨_, h2⟩ := hm
  unfold hasVar
  rw [Array.any_eq_true]
  cases hgl : P.globals[g']? with
  | none => rw [hgl] at h2; cases h2
  | some gl =>
   rw [hgl] at h2
   obtain ⟨hlt, he⟩ := Array.getElem?_eq_some_iff.1 hgl
   exact ⟨g', hlt, by rw [he]; exact h2⟩
 ·cases h
theorem tab_row {nm : String} {k : IntKind} {zs : List Int} {g i : Nat} {z : Int} (h : Lib.TabIs P w nm k zs) (hg : P.globalNamed nm = some g) (hz : zs[i]? = some z) : rowAt w ⟨g, i, none⟩ [Value.int k z] := by
 intro j v hj
 cases j with
 | succ j => simp at hj
 | zero =>
  simp at hj
  subst hj
  unfold Lib.TabIs World.var? at h
  rw [hg] at h
  simp only [Option.bind_some] at h
  have hadd : (⟨g, i, none⟩ : Addr).add 0 = ⟨g, i, none⟩ := by unfold Addr.add; simp
  rw [hadd]
  split at h
  ·rename_i cs _ _ hc
   injection h with h
   unfold World.cell?
   rw [h] at hc
   simp [hc, hz]
  ·cases h
theorem ldA_sound (R : RelX P F st ok β a w) {t : TypeId} {x : AV} {v : Value} (hx : RepAV P w ok β st.bx x v) {d : D} (h : ldA P st t x = some d) :
  ∃ y u, v = .pointer (some y) /\ (loadVar t y).run P w = .ok u w /\ RepV P w ok t u d := by
 unfold ldA at h
 split at h
 ·rename_i htag
  split at h
  ·rename_i e he
   split at h
   ·rename_i hty
    rw [Bool.and_eq_true, beq_iff_eq, beq_iff_eq] at hty
    obtain ⟨hty, hrz⟩ := hty
    obtain ⟨hv, h0, hk, hka⟩ := hx.d2 htag e he hrz
    split at h
    ·cases h
    rename_i hcn
    have hcn : e.c = none := by simpa using hcn
    obtain ⟨cs, hcs, n, hn⟩ := R.hp.box _ e he hrz hcn
    split at h
    rotate_left
    ·rename_i hte
     split at h
     ·rename_i hix
      rw [beq_iff_eq] at hix
      cases h
      obtain ⟨m, el, i, hu, hi, hxd, hoff, htyx, hpos⟩ := hka (by simpa using hte) hix
      obtain ⟨n', ps, rfl, hd, hps, hel⟩ := hn.array hu
      have hm := hel i hi
      have hte2 : t = el := by rw [<- hty]; exact htyx
      subst hte2
      have hrow := box_row hcs (i * P.cellsOf t) (P.cellsOf t)
      obtain ⟨u, hu1, hu2⟩ := run_loadVar hrow hm
      have hfd : fieldD e.d (intD x.d).toNat = ps.getD i .nil := by rw [hd, hxd]; simp [fieldD, partsD]
      rw [hfd]
      exact ⟨_, u, by rw [hv, hoff], hu1, hu2.norm⟩
     ·cases h
    rename_i hte
    have h0 := h0 (by simpa using hte)
    split at h
    ·rename_i hix
     split at h
     ·rename_i het
      rw [beq_iff_eq] at het
      cases h
      obtain ⟨ho, _⟩ := h0 hix
      rw [het] at hn
      have hrow := box_row hcs 0 (P.cellsOf t)
      have e1 : (cs.toList.drop 0).take (P.cellsOf t) = cs.toList := by rw [List.drop_zero]; exact List.take_of_length_le (by rw [hn.len]; exact Nat.le_refl _)
      rw [e1] at hrow
      obtain ⟨u, hu1, hu2⟩ := run_loadVar hrow hn
      exact ⟨_, u, by rw [hv, ho], hu1, hu2.norm⟩
     ·cases h
    ·rename_i k hix
     split at h
     ·rename_i f hf
      split at h
      ·rename_i hft
       rw [beq_iff_eq] at hft
       cases h
       obtain ⟨g, hg, ho, _⟩ := hk k hix
       rw [hf] at hg
       cases hg
       obtain ⟨m, hm⟩ := hn.field hf
       rw [hft] at hm
       have hrow := box_row hcs f.offset (P.cellsOf t)
       obtain ⟨u, hu1, hu2⟩ := run_loadVar hrow hm
       exact ⟨_, u, by rw [hv, <- ho], hu1, hu2.norm⟩
      ·cases h
     ·cases h
   ·split at h
    ·rename_i hcond
     simp only [Bool.and_eq_true, beq_iff_eq, bne_iff_ne, Bool.not_eq_true', List.isEmpty_eq_false_iff] at hcond
     exact ldE_sound R hx htag he hcond.1.2 hcond.2 h
    ·cases h
  ·cases h
 ·split at h
  ·rename_i htag
   split at h
   ·rename_i hty
    rw [beq_iff_eq] at hty
    cases h
    by_cases hix : x.ix = 1
    ·obtain ⟨nm, k, zs, g, i, z, hm, hg, hz, hv, hd, hu, h1, hw⟩ := (hx.d3 htag).1 hix
     have htab := R.tabs0 w (BelowX.refl _ _ _) _ hm (globalNamed_has hg)
     rw [hty] at hu h1
     obtain ⟨⟨n, hrep⟩, _, _⟩ := repV_int (w := w) (ok := ok) hu h1 hw
     obtain ⟨u, hu1, hu2⟩ := run_loadVar (cs := [Value.int k z]) (tab_row htab hg hz) hrep
     rw [hd]
     exact ⟨_, u, hv, hu1, hu2.norm⟩
    ·obtain ⟨y, cs, n, hv, hoy, hrow, hrep⟩ := (hx.d3 htag).2 hix
     rw [hty] at hrep
     obtain ⟨u, hu1, hu2⟩ := run_loadVar hrow hrep
     exact ⟨y, u, hv, hu1, hu2.norm⟩
   ·cases h
  ·cases h

theorem stE_sound (R : RelX P F st ok β a w) {t : TypeId} {x : AV} {v u : Value} (hx : RepAV P w ok β st.bx x v) {d : D} (hu : RepV P w ok t u d) {e e' : Ent} (htag : x.tag = 2) (he : st.bx x.id = some e) (he0 : e.row ≠ 0) (htys : x.tys ≠ []) (h : stE P e t x d = some e') :
  ∃ y w', v = .pointer (some y) /\ (storeVar t y u).run P w = .ok () w' /\ ∃ β', RelX P F (st.upd x.id e') ok β' a w' := by
 obtain ⟨⟨m, hm⟩, _⟩ := hu
 obtain ⟨_, ti, _, hti⟩ := hm.info
 have hul := hm.len
 obtain ⟨el, i, hus, hi, hidx, hv, h0, hk⟩ := (hx.d5 htag e he he0).2.1 htys
 obtain ⟨hl, hpos, cur, n, hcs, hfit, hrep⟩ := elem_rep R he he0 hus hi
 have hn := hrep _ (eltD_get hi hidx)
 have hstore : ∀ off, off + u.cells.toList.length <= cur.size -> (storeVar t ⟨(β x.id).1, off, none⟩ u).run P w = .ok () (w.setRow (β x.id).1 (splice cur.toList off u.cells.toList).toArray) := by
  intro off hfit
  have hs := run_storeCells_at P (β x.id).1 off el u.cells.toList 0 cur w hcs (by simpa using hfit) hm.one
  have : u.cells.size = P.cellsOf t := by simpa using hul
  simp only [storeVar, Sem.run_bind, run_sizeOf w hti, Result.andThen_ok, this, ne_eq, not_true_eq_false, if_false, Sem.run_ite, Sem.run_pure]
  simpa [splice] using hs
 have hcl : cur.toList.length = cur.size := Array.length_toList
 have hother : ∀ (off : Nat) (cs : List Value), i * P.cellsOf el <= off -> off + cs.length <= i * P.cellsOf el + P.cellsOf el -> ∀ j, j ≠ i -> ((splice cur.toList off cs).drop (j * P.cellsOf el)).take (P.cellsOf el) = (cur.toList.drop (j * P.cellsOf el)).take (P.cellsOf el) := by
  intro off cs h1 h2 j hj
  refine splice_at _ _ _ _ _ (by omega) ?_
  by_cases hlt : j < i
  ·left
   have := Nat.mul_le_mul_right (P.cellsOf el) (show j + 1 <= i by omega)
   rw [Nat.succ_mul] at this
   omega
  ·right
   have := Nat.mul_le_mul_right (P.cellsOf el) (show i + 1 <= j by omega)
   rw [Nat.succ_mul] at this
   omega
 unfold stE at h
 rw [hus] at h
 simp only at h
 have htn : (intD x.d).toNat = i := by rw [hidx, Int.toNat_natCast]
 split at h
 ·rename_i hix
  split at h
  ·rename_i het
   rw [beq_iff_eq] at het
   cases h
   subst het
   obtain ⟨ho, _⟩ := h0 hix
   unfold putE
   rw [htn]
   refine ⟨_, _, by rw [hv, ho, Nat.add_zero], hstore (i * P.cellsOf el) (by rw [hul]; exact hfit), R.setElem (n := m) he he0 hl hi hus hcs (by rw [splice_len _ _ _ (by omega)]; exact hcl) (hother _ _ (Nat.le_refl _) (by omega)) ?_⟩
   have := splice_in cur.toList u.cells.toList (i * P.cellsOf el) (by omega)
   rw [hul] at this
   rw [this]
   exact hm
  ·cases h
 ·rename_i k hix
  split at h
  ·rename_i f hf
   split at h
   ·rename_i hft
    rw [beq_iff_eq] at hft
    cases h
    obtain ⟨g, hg, ho, _⟩ := hk k hix
    rw [hf] at hg
    cases hg
    obtain ⟨fs, hust, hlay, hkf⟩ := fieldOf_spec hf
    rw [<- hft] at hm hul
    obtain ⟨n', hn'⟩ := hn.set hust hlay hkf hm
    have hff := (layOK_spec hlay hkf hkf).1
    unfold putE
    rw [htn]
    refine ⟨_, _, by rw [hv, <- ho], hstore (i * P.cellsOf el + f.offset) (by omega), R.setElem (n := n') he he0 hl hi hus hcs (by rw [splice_len _ _ _ (by omega)]; exact hcl) (hother _ _ (by omega) (by omega)) ?_⟩
    have e1 : ((splice cur.toList (i * P.cellsOf el + f.offset) u.cells.toList).drop (i * P.cellsOf el)).take (P.cellsOf el) = splice ((cur.toList.drop (i * P.cellsOf el)).take (P.cellsOf el)) f.offset u.cells.toList := by
     apply List.ext_getElem?
     intro q
     unfold splice
     simp only [List.getElem?_take, List.getElem?_drop, List.getElem?_append, List.length_append, List.length_take, List.length_drop, hcl]
     repeat' split
     all_goals first | rfl | omega | (congr 1; omega)
    rw [e1]
    exact hn'
   ·cases h
  ·cases h

theorem box_cells {bx : Nat -> Option Ent} (H : HeapOK P w ok β bx) {d : Nat} {e : Ent} (he : bx d = some e) (h0 : e.row = 0) (hu : P.underlying e.ty ≠ none) : ∃ cs : Array Value, w.heap[(β d).1]? = some (.cells cs e.ty (0, 0)) /\ cs.toList.length = P.cellsOf e.ty := by
 cases hc : e.c with
 | none =>
  obtain ⟨cs, h1, n, h2⟩ := H.box d e he h0 hc
  exact ⟨cs, h1, h2.len⟩
 | some v =>
  obtain ⟨h1, val, h2, h3, h4⟩ := H.con d e v he h0 hc
  have h8 : v.tag ≠ 8 := fun h => hu (h1.2.2 h).1
  rw [objC_ne h8] at h2
  by_cases h7 : v.tag = 7
  ·obtain ⟨fs, q1, q2, q3, _⟩ := h4.d7 h7
   exact ⟨val.cells, h2, by rw [q3, h1.2.1 h7]⟩
  ·exact ⟨val.cells, h2, by rw [(one1_spec (h1.1 h7 h8)).1, h3 h7]; rfl⟩

theorem cont_tag {x : AV} (hx : isCont x = true) : x.tag ≠ 7 := by
 unfold isCont at hx
 rw [Bool.or_eq_true] at hx
 rcases hx with hx | hx
 ·simp only [Bool.and_eq_true, beq_iff_eq] at hx
  omega
 ·have : x.tag = 4 := by simpa using hx
  omega
theorem cont_tag8 {x : AV} (hx : isCont x = true) : x.tag ≠ 8 := by
 unfold isCont at hx
 rw [Bool.or_eq_true] at hx
 rcases hx with hx | hx
 ·simp only [Bool.and_eq_true, beq_iff_eq] at hx
  omega
 ·have : x.tag = 4 := by simpa using hx
  omega
theorem cont_val {bx : Nat -> Option Ent} {x : AV} {v : Value} (hx : isCont x = true) (hl : LiveB bx x) (hr : RepAV P w ok β bx x v) : v.cells = #[v] /\ v.oneCell' = true := by
 unfold isCont at hx
 rw [Bool.or_eq_true] at hx
 rcases hx with hx | hx
 ·simp only [Bool.and_eq_true, beq_iff_eq, List.isEmpty_iff] at hx
  have := hl x.id (by rw [refs_2 hx.1.1]; simp)
  obtain ⟨e, he⟩ := Option.isSome_iff_exists.1 this
  by_cases h0 : e.row = 0
  ·rw [(hr.d2 hx.1.1 e he h0).1]; exact ⟨rfl, rfl⟩
  ·rw [(hr.d5 hx.1.1 e he h0).1 hx.2 hx.1.2]
   unfold hv
   split <;> exact ⟨rfl, rfl⟩
 ·obtain ⟨caps, hv, _⟩ := hr.d4 (by simpa using hx)
  rw [hv]
  exact ⟨rfl, rfl⟩

/-- What stands in a variable and is no data. -/
theorem boxC_sound (R : RelX P F st ok β a w) {t : TypeId} {x u : AV} {v : Value} (hx : RepAV P w ok β st.bx x v) (h : boxC st t x = some u) :
  ∃ y val, v = .pointer (some y) /\ (loadVar t y).run P w = .ok val w /\ RepAV P w ok β st.bx u val /\ LiveB st.bx u := by
 unfold boxC at h
 split at h
 ·rename_i hc
  simp only [Bool.and_eq_true, beq_iff_eq, List.isEmpty_iff] at hc
  split at h
  ·rename_i e he
   split at h
   ·rename_i hc2
    rw [Bool.and_eq_true, beq_iff_eq, beq_iff_eq] at hc2
    obtain ⟨hv, h0, _⟩ := hx.d2 hc.1.1 e he hc2.2
    obtain ⟨ho, hty⟩ := h0 hc.2 hc.1.2
    obtain ⟨h7, h8, h⟩ : u.tag ≠ 7 /\ u.tag ≠ 8 /\ e.c = some u := by
     split at h
     ·rename_i v' hv'
      split at h
      ·cases h
      ·rename_i hn7
       cases h
       rw [Bool.or_eq_true, beq_iff_eq, beq_iff_eq, not_or] at hn7
       exact ⟨hn7.1, hn7.2, hv'⟩
     ·cases h
    obtain ⟨h1, val, h2, h3, h4⟩ := R.hp.con _ e u he hc2.2 h
    rw [objC_ne h8] at h2
    have h1 := h1.1 h7 h8
    have h3 := h3 h7
    rw [h3] at h2
    have het : e.ty = t := by rw [hty]; exact hc2.1
    rw [het] at h1 h2
    obtain ⟨h11, h12, uu, hu⟩ := one1_spec h1
    refine ⟨_, val, by rw [hv, ho], ?_, h4, R.hp.nb _ e u he h⟩
    simp only [loadVar, Sem.run_bind, run_isAgg hu, h12, Result.andThen_ok, Bool.false_eq_true, if_false, run_load]
    simp [World.cell?, h2]
   ·cases h
  ·cases h
 ·cases h

theorem stC_sound (R : RelX P F st ok β a w) {t : TypeId} {x y : AV} {v u : Value} (hx : RepAV P w ok β st.bx x v) (hy : RepAV P w ok β st.bx y u) (hyl : LiveB st.bx y) (h : stC P st t x y = some st') :
  ∃ z w', v = .pointer (some z) /\ (storeVar t z u).run P w = .ok () w' /\ ∃ β', RelX P F st' ok β' a w' := by
 unfold stC at h
 split at h
 ·rename_i hc
  simp only [Bool.and_eq_true, beq_iff_eq, List.isEmpty_iff] at hc
  split at h
  ·rename_i e he
   split at h
   ·rename_i hc2
    simp only [Bool.and_eq_true, beq_iff_eq] at hc2
    obtain ⟨⟨⟨⟨c1, c2⟩, c3⟩, c4⟩, c5⟩ := hc2
    cases h
    obtain ⟨hv, h0, _⟩ := hx.d2 hc.1.1 e he c2
    obtain ⟨ho, _⟩ := h0 hc.2 hc.1.2
    have h1 := one1_spec c4
    obtain ⟨cs, hcs, hnl⟩ := box_cells R.hp he c2 (by rw [c3]; obtain ⟨_, _, uu, huu⟩ := h1; rw [huu]; simp)
    obtain ⟨q1, q2⟩ := cont_val c5 hyl hy
    have hi : ∃ i, P.info? t = some i := by
     have := h1.1
     unfold Program.cellsOf at this
     cases hi : P.info? t with
     | none => rw [hi] at this; simp at this
     | some i => exact ⟨i, rfl⟩
    obtain ⟨i, hi⟩ := hi
    have hs := run_storeCells_at P (β x.id).1 0 e.ty u.cells.toList 0 cs w hcs (by rw [q1]; rw [c3, h1.1] at hnl; simp at hnl ⊢; omega) (by rw [q1]; simpa using q2)
    have hrun : (storeVar t ⟨(β x.id).1, 0, none⟩ u).run P w = .ok () (w.setRow (β x.id).1 #[u]) := by
     have hsz : u.cells.size = P.cellsOf t := by rw [q1, h1.1]; rfl
     simp only [storeVar, Sem.run_bind, run_sizeOf w hi, Result.andThen_ok, hsz, ne_eq, not_true_eq_false, if_false, Sem.run_ite, Sem.run_pure]
     rw [hs]
     congr 2
     rw [q1]
     have : cs.toList.drop 1 = [] := List.drop_of_length_le (by rw [hnl, c3, h1.1]; exact Nat.le_refl _)
     simp [this]
    have hset := R.setCon (x := y) (val := u) he c2 hcs (cont_tag c5) (cont_tag8 c5) (by rw [c3]; exact c4) q1 hyl hy
    rw [c3] at hset
    exact ⟨_, _, by rw [hv, ho], hrun, hset⟩
   ·cases h
  ·cases h
 ·cases h

theorem Rep.setArr {n m : Nat} {t : TypeId} {cs part : List Value} {d x : D} {q k : Nat} {el : TypeId} (h : Rep P w ok n t cs d)
  (hu : P.underlying t = some (.array q el)) (hk : k < q) (hx : Rep P w ok m el part x) :
  ∃ n', Rep P w ok n' t (splice cs (k * P.cellsOf el) part) (setD d k x) /\ k * P.cellsOf el + part.length <= cs.length := by
 have hlen := h.len
 have hone := h.one
 obtain ⟨n0, ps, rfl, rfl, hps, hp⟩ := h.array hu
 have hpl := hx.len
 have hkl := (hp k hk).len
 have hfit : k * P.cellsOf el + part.length <= cs.length := by
  simp at hkl
  by_cases h0 : P.cellsOf el = 0
  ·rw [h0] at hpl hkl ⊢; rw [hpl]; omega
  ·omega
 refine ⟨max n0 m + 1, ⟨by rw [splice_length hfit, hlen], fun v hv => ?_, ?_⟩, hfit⟩
 ·rcases mem_splice hv with hv | hv
  ·exact hone v hv
  ·exact hx.one v hv
 ·rw [hu]
  refine ⟨by simpa [setD, partsD] using hps, fun j hj => ?_⟩
  have hklt : k < ps.length := by omega
  by_cases e : k = j
  ·subst e
   rw [<- hpl, splice_same (by rw [hpl] at hfit ⊢; exact hfit)]
   have : (partsD (.agg ps) |>.set k x).getD k .nil = x := by simp [partsD, List.getD, hklt]
   rw [this]
   exact hx.le (by omega)
  ·have hap : j * P.cellsOf el + P.cellsOf el <= k * P.cellsOf el \/ k * P.cellsOf el + part.length <= j * P.cellsOf el := by
    rw [hpl]
    rcases Nat.lt_or_gt_of_ne e with h1 | h1
    ·right
     have := Nat.mul_le_mul_right (P.cellsOf el) h1
     rw [Nat.succ_mul] at this
     exact this
    ·left
     have := Nat.mul_le_mul_right (P.cellsOf el) h1
     rw [Nat.succ_mul] at this
     exact this
   rw [splice_apart hfit hap]
   have : (partsD (.agg ps) |>.set k x).getD j .nil = ps.getD j .nil := by simp [partsD, List.getD, List.getElem?_set_ne e]
   rw [this]
   exact (hp j hj).le (by omega)

/-- What is written at an address. -/
theorem stA_sound (R : RelX P F st ok β a w) {t : TypeId} {x : AV} {v u : Value} (hx : RepAV P w ok β st.bx x v) {d : D} (hu : RepV P w ok t u d) (h : stA P st t x d = some st') :
  ∃ y w', v = .pointer (some y) /\ (storeVar t y u).run P w = .ok () w' /\ ∃ β', RelX P F st' ok β' a w' := by
 obtain ⟨⟨m, hm⟩, hu2⟩ := hu
 obtain ⟨u0, i, hu0, hi⟩ := hm.info
 have hul := hm.len
 unfold stA at h
 split at h
 ·rename_i htag
  split at h
  ·rename_i e he
   split at h
   ·rename_i hty
    rw [Bool.and_eq_true, beq_iff_eq, beq_iff_eq] at hty
    obtain ⟨hty, hrz⟩ := hty
    obtain ⟨hv, h0, hk, hka⟩ := hx.d2 htag e he hrz
    have hue : P.underlying e.ty ≠ none := by
     cases hix : x.ix with
     | zero =>
      by_cases htys : x.tys = []
      ·rw [(h0 htys hix).2, hty, hu0]; simp
      ·obtain ⟨m', el', i', q1, _⟩ := hka htys hix
       rw [q1]; simp
     | succ k =>
      obtain ⟨f, hf, _⟩ := hk k hix
      obtain ⟨fs, hus, _⟩ := fieldOf_spec hf
      rw [hus]; simp
    obtain ⟨cs, hcs, hnl⟩ := box_cells R.hp he hrz hue
    have hstore : ∀ off, off + u.cells.toList.length <= cs.size -> (storeVar t ⟨(β x.id).1, off, none⟩ u).run P w = .ok () (w.setRow (β x.id).1 (splice cs.toList off u.cells.toList).toArray) := by
     intro off hfit
     have hs := run_storeCells_at P (β x.id).1 off e.ty u.cells.toList 0 cs w hcs (by simpa using hfit) hm.one
     have : u.cells.size = P.cellsOf t := by simpa using hul
     simp only [storeVar, Sem.run_bind, run_sizeOf w hi, Result.andThen_ok, this, ne_eq, not_true_eq_false, if_false, Sem.run_ite, Sem.run_pure]
     simpa [splice] using hs
    split at h
    rotate_left
    ·rename_i hte
     split at h
     ·rename_i hix
      simp only [Bool.and_eq_true, beq_iff_eq, Option.isNone_iff_eq_none] at hix
      obtain ⟨hix, hcn⟩ := hix
      cases h
      obtain ⟨q, el, i, hua, hi', hxd, hoff, htyx, hpos⟩ := hka (by simpa using hte) hix
      obtain ⟨cs2, hcs2, n, hn⟩ := R.hp.box _ e he hrz hcn
      rw [hcs] at hcs2
      cases hcs2
      have hte2 : t = el := by rw [<- hty]; exact htyx
      subst hte2
      obtain ⟨n', hn', hfit⟩ := hn.setArr hua hi' hm
      have hid : (intD x.d).toNat = i := by rw [hxd]; simp
      rw [hid]
      refine ⟨_, _, by rw [hv, hoff], hstore (i * P.cellsOf t) (by simpa using hfit), R.setBox (n := n') he hrz hcs ?_⟩
      simpa using hn'
     ·cases h
    rename_i hte
    have h0 := h0 (by simpa using hte)
    split at h
    ·rename_i hix
     split at h
     ·rename_i het
      rw [beq_iff_eq] at het
      cases h
      obtain ⟨ho, _⟩ := h0 hix
      rw [<- het] at hm hul
      have hfit : 0 + u.cells.toList.length <= cs.size := by simp at hnl hul ⊢; omega
      refine ⟨_, _, by rw [hv, ho], hstore 0 hfit, R.setBox (n := m) he hrz hcs ?_⟩
      have : (splice cs.toList 0 u.cells.toList) = u.cells.toList := by
       simp only [splice, List.take_zero, List.nil_append, Nat.zero_add]
       rw [List.drop_of_length_le (by omega)]
       simp
      rw [this]
      simpa using hm
     ·cases h
    ·rename_i k hix
     split at h
     ·cases h
     rename_i hcn
     have hcn : e.c = none := by simpa using hcn
     obtain ⟨cs2, hcs2, n, hn⟩ := R.hp.box _ e he hrz hcn
     rw [hcs] at hcs2
     cases hcs2
     split at h
     ·rename_i f hf
      split at h
      ·rename_i hft
       rw [beq_iff_eq] at hft
       cases h
       obtain ⟨g, hg, ho, _⟩ := hk k hix
       rw [hf] at hg
       cases hg
       obtain ⟨fs, hus, hl, hkf⟩ := fieldOf_spec hf
       rw [<- hft] at hm hul
       obtain ⟨n', hn'⟩ := hn.set hus hl hkf hm
       have hfit := (layOK_spec hl hkf hkf).1
       refine ⟨_, _, by rw [hv, <- ho], hstore f.offset (by simp at hnl hul ⊢; omega), R.setBox (n := n') he hrz hcs ?_⟩
       simpa using hn'
      ·cases h
     ·cases h
   ·split at h
    ·rename_i hcond
     simp only [Bool.and_eq_true, beq_iff_eq, bne_iff_ne, Bool.not_eq_true', List.isEmpty_eq_false_iff] at hcond
     obtain ⟨e', he', rfl⟩ := Option.map_eq_some_iff.1 h
     exact stE_sound R hx ⟨⟨m, hm⟩, hu2⟩ htag he hcond.1.2 hcond.2 he'
    ·cases h
  ·cases h
 ·cases h

theorem hargs_rep (R : RelX P F st ok β a w) {c : Call} {as : List AV} (h : hargs P st c = some as) :
  ∃ f caps capv, calleeH P st c.callee = some (f, caps) /\ (∃ g, c.callee = .value g /\ a.eval g = .func (.func f) #[] capv) /\
   ArgsRepH P w ok β st.bx as (c.args.toList.map a.eval ++ capv.toList) := by
 unfold hargs at h
 split at h
 ·rename_i f caps as' hcal has
  split at h
  ·rename_i hall
   cases h
   have hval : ∃ capv : Array Value, (∃ g, c.callee = .value g /\ a.eval g = .func (.func f) #[] capv) /\ capv.size = caps.length /\ (∀ j ∈ caps, (st.bx j).isSome = true) /\
     ∀ (k i : Nat) (e : Ent), caps[k]? = some i -> st.bx i = some e -> e.row = 0 -> capv[k]? = some (Value.pointer (some ⟨(β i).1, 0, none⟩)) := by
    unfold calleeH at hcal
    split at hcal
    ·rename_i g hc
     cases hcal
     exact ⟨#[], ⟨.func f, hc, rfl⟩, rfl, by simp, by simp⟩
    ·rename_i i hc
     split at hcal
     ·rename_i h4
      cases hcal
      have h4 : (st.get i).tag = 4 := by simpa using h4
      obtain ⟨cv, e1, e2, e3⟩ := (R.slot i).d4 h4
      exact ⟨cv, ⟨.tmp i, hc, e1⟩, e2, fun j hj => R.nd i j (by rw [refs_4 h4]; exact hj), e3⟩
     ·split at hcal
      ·rename_i h1
       rw [Bool.and_eq_true, beq_iff_eq] at h1
       obtain ⟨f', hf', hfc⟩ := Option.map_eq_some_iff.1 hcal
       cases hfc
       have hu := h1.2
       unfold isFuncT at hu
       split at hu
       ·rename_i hu2
        rcases ((R.slot i).d1 h1.1).func hu2 with ⟨e1, e2 | ⟨f2, e2⟩ | ⟨f2, e2⟩⟩ | ⟨f2, r, t0, x, e1, e2, e3⟩
        ·rw [e1, e2] at hf'; simp [fnD] at hf'
        rotate_left
        ·rw [e1, e2] at hf'; simp [fnD] at hf'
        rotate_left
        ·rw [e1, e2] at hf'
         simp only [fnD, Option.some.injEq] at hf'
         subst hf'
         exact ⟨#[], ⟨.tmp i, hc, e2⟩, rfl, by simp, by simp⟩
        ·rw [e1] at hf'; simp [fnD, bndD] at hf'
       ·cases hu
      ·cases hcal
    ·cases hcal
   obtain ⟨capv, hg, hcs, hlc, hcp⟩ := hval
   refine ⟨f, caps, capv, hcal, hg, ?_⟩
   have hargs : ∀ (xs : List Operand) (ts : List TypeId) (as : List AV), argsH P st xs ts = some as -> ArgsRepH P w ok β st.bx as (xs.map a.eval) := by
    intro xs
    induction xs with
    | nil =>
     intro ts as h
     cases ts with
     | nil => simp only [argsH, Option.some.injEq] at h; subst h; exact trivial
     | cons t ts => simp [argsH] at h
    | cons x xs ih =>
     intro ts as h
     cases ts with
     | nil => simp [argsH] at h
     | cons t ts =>
      simp only [argsH] at h
      split at h
      ·rename_i hc
       obtain ⟨as', ha', rfl⟩ := Option.map_eq_some_iff.1 h
       have hr := opd_rep R t x
       have hl := opd_live (P := P) R.nd t x
       refine ⟨?_, ih ts as' ha'⟩
       unfold argA
       rw [Bool.or_eq_true] at hc
       by_cases h1 : (opd P st t x).tag = 1
       ·have h1' : ((opd P st t x).tag == 1) = true := by simpa using h1
        rw [if_pos h1']
        exact ⟨.inl ⟨rfl, rfl⟩, repAV_dat (hr.d1 h1), live_of_refs rfl⟩
       ·have h1' : ¬ ((opd P st t x).tag == 1) = true := by simpa using h1
        rw [if_neg h1']
        rcases hc with hc | hc
        ·exact absurd hc h1'
        ·exact ⟨.inr hc, hr, hl⟩
      ·cases h
   have happ : ∀ (xs ys : List AV) (us vs : List Value), ArgsRepH P w ok β st.bx xs us -> ArgsRepH P w ok β st.bx ys vs -> ArgsRepH P w ok β st.bx (xs ++ ys) (us ++ vs) := by
    intro xs
    induction xs with
    | nil =>
     intro ys us vs h1 h2
     cases us with
     | nil => exact h2
     | cons u us => exact h1.elim
    | cons x xs ih =>
     intro ys us vs h1 h2
     cases us with
     | nil => exact h1.elim
     | cons u us => exact ⟨h1.1, ih ys us vs h1.2 h2⟩
   refine happ _ _ _ _ (hargs _ _ _ has) ?_
   have hcap : ∀ (caps : List Nat) (cv : List Value), cv.length = caps.length -> (∀ j ∈ caps, isBoxB st j = true) -> (∀ (k i : Nat) (e : Ent), caps[k]? = some i -> st.bx i = some e -> e.row = 0 -> cv[k]? = some (Value.pointer (some ⟨(β i).1, 0, none⟩))) ->
     ArgsRepH P w ok β st.bx (caps.map (capA st)) cv := by
    intro caps
    induction caps with
    | nil =>
     intro cv hl _ _
     have : cv = [] := List.eq_nil_of_length_eq_zero (by simpa using hl)
     subst this
     exact trivial
    | cons i caps ih =>
     intro cv hl hb hp
     cases cv with
     | nil => simp at hl
     | cons v cv =>
      have hbi := hb i (by simp)
      unfold isBoxB at hbi
      split at hbi
      rotate_left
      ·cases hbi
      rename_i e he
      have h0 : e.row = 0 := by simpa using hbi
      have hv : v = .pointer (some ⟨(β i).1, 0, none⟩) := by
       have := hp 0 i e (by simp) he h0
       simpa using this
      have hcA : capA st i = bxp i e.ty := by unfold capA; rw [he]
      refine ⟨⟨.inr (by rw [hcA]; rfl), ?_, ?_⟩, ih cv (by simpa using hl) (fun j hj => hb j (by simp [hj])) (fun k j f hk => by have := hp (k + 1) j f (by simpa using hk); simpa using this)⟩
      ·rw [hcA, hv]
       refine ⟨by simp [bxp], fun _ f hf hr => ?_, fun _ f hf hr => ?_, by simp [bxp], by simp [bxp], by simp [bxp], by simp [bxp], by simp [bxp], by simp [bxp], by simp [bxp], by simp [bxp]⟩
       ·have hf' : st.bx i = some f := hf
        rw [he] at hf'
        cases hf'
        exact ⟨rfl, fun _ _ => ⟨rfl, rfl⟩, fun k hk => by simp [bxp] at hk, by simp [bxp]⟩
       ·have hf' : st.bx i = some f := hf
        rw [he] at hf'
        cases hf'
        exact absurd h0 hr
      ·intro j hj
       rw [hcA, refs_2 rfl] at hj
       obtain rfl : j = i := by simpa [bxp] using hj
       rw [he]
       rfl
   refine hcap caps capv.toList (by simpa using hcs) (fun j hj => by rw [List.all_eq_true] at hall; exact hall j hj) (fun k i e hk he h0 => by simpa using hcp k i e hk he h0)
  ·cases h
 ·cases h

theorem argsRepH_ren {ids : List Nat} {as0 : List AV} (hc : closedB st as0 ids = true) : ∀ (as : List AV) (vs : List Value), (∀ v ∈ as, ∀ j ∈ refs v, j ∈ ids) -> ArgsRepH P w ok β st.bx as vs ->
  ArgsRepH P w ok (fun k => β (bwd ids k)) (bxOf (ids.map (entOf st ids))) (as.map (renA (fwd ids))) vs
 | [], [], _, _ => trivial
 | x :: xs, v :: vs, hm, h => by
  refine ⟨⟨?_, rep_handed hc (hm x (by simp)) h.1.2.1, live_handed hc (hm x (by simp))⟩, argsRepH_ren hc xs vs (fun y hy => hm y (by simp [hy])) h.2⟩
  obtain ⟨t1, t2, _⟩ := ren_tag (fwd ids) x
  rcases h.1.1 with h1 | h1
  ·exact .inl ⟨by rw [t1]; exact h1.1, by rw [t2]; exact h1.2⟩
  ·refine .inr ?_
   unfold isCont at h1 ⊢
   unfold renA
   split
   ·exact h1
   ·split
    ·rename_i h4
     have : x.tag = 4 := by simpa using h4
     simp [this]
    ·split
     ·rename_i h7
      have h7 : x.tag = 7 := by simpa using h7
      exact absurd h7 (cont_tag (by unfold isCont; exact h1))
     ·exact h1
 | [], _ :: _, _, h => h.elim
 | _ :: _, [], _, h => h.elim

/-- A call that is handed boxes and rows. -/
theorem callH_sound (henv : EnvOK P env) (R : RelX P F st ok β a w) {c : Call} (hop : o.op = .call c) (hnn : appNil c = none) (hna : appOf c = none) (hc : chkOp P env st o = true) (h : callH P env o st c = some st') :
  o.wp P a w (fun a' w' => ∃ ok' β', RelX P F st' ok' β' a' w') Q := by
 unfold callH at h
 split at h
 ·rename_i t pre FF as hheap has
  split at h
  ·rename_i hcond
   rw [Bool.and_eq_true, beq_iff_eq] at hcond
   obtain ⟨hty, hcl⟩ := hcond
   split at h
   ·rename_i r hh hF
    split at h
    ·rename_i hlen
     have hlen : hh.length = (idsOf st as).length := by simpa using hlen
     cases h
     obtain ⟨f, caps, capv, hcal, ⟨g, hg, hev⟩, harg⟩ := hargs_rep R has
     have hpre : pre (as.map (renA (fwd (idsOf st as)))) ((idsOf st as).map (entOf st (idsOf st as))) = true := by
      simpa only [chkOp, hop, hnn, hna, hheap, has] using hc
     have hfe : env.h f = some (t, pre, FF) := by
      unfold heapF at hheap
      rw [hcal] at hheap
      split at hheap
      ·exact hheap
      ·cases hheap
     have hk := henv.2 f t pre FF _ _ r hh hfe hpre hF
     obtain ⟨fn, cd, hfn, hbody, hname⟩ := hk.fn
     have hx : (execOp a.eval o).run P w = .ok (.enter f (c.args.toList.map a.eval ++ capv.toList).toArray) w := by
      unfold execOp
      simp only [hop, resolve, hg, hev, Deferred.ofValue, Sem.run_bind, Sem.run_pure, Result.andThen_ok, invoke]
      have e : (#[] ++ c.args.map a.eval ++ capv : Array Value) = (c.args.toList.map a.eval ++ capv.toList).toArray := by
       apply Array.ext'; simp
      rw [e]
      have h1 : fn.name ≠ "runtime.NumGoroutine" := by simpa using hname
      simp [callFunc, hfn, h1, hbody]
     unfold Oper.wp
     rw [hx]
     refine (hk.call w ok (fun k => β (bwd (idsOf st as) k)) _ (R.tabsH hcl) (fun b hb => (R.okb b hb).1) (heap_handed R.hp hcl) (argsRepH_ren hcl _ _ ((closedB_spec hcl).2.1) harg)).mono ?_
     intro e w' hp
     obtain ⟨v, ok', β', he, R', hr, hl⟩ := R.after hcl hlen hp
     subst he
     exact ⟨ok', β', R'.put hr hl o.dst⟩
    ·cases h
   ·cases h
  ·cases h
 ·cases h

/-- Something appended to nil. -/
theorem appNil_spec {c : Call} {x : Operand} {t : TypeId} (h : appNil c = some (x, t)) : c = { callee := .builtin .append, args := #[.const (.slice none 0 0), x], argTypes := #[t, t] } := by
 unfold appNil at h
 split at h
 ·rename_i y t1 t2 h1 h2 h3
  split at h
  ·rename_i he
   rw [beq_iff_eq] at he
   cases h
   subst he
   cases c
   simp only at h1 h2 h3
   subst h1
   congr
   ·apply Array.ext'; rw [h2]
   ·apply Array.ext'; rw [h3]
  ·cases h
 ·cases h

theorem appNew_sound (R : RelX P F st ok β a w) {c : Call} (hop : o.op = .call c) {x : Operand} {t : TypeId} (happ : appNil c = some (x, t)) (hc : chkOp P env st o = true) (h : appNew P st o.dst x t = some st') :
  o.wp P a w (fun a' w' => ∃ ok' β', RelX P F st' ok' β' a' w') Q := by
 have hcs := appNil_spec happ
 unfold appNew at h
 split at h
 ·rename_i d el hd hso
  split at h
  ·rename_i hcond
   simp only [Bool.and_eq_true, beq_iff_eq, decide_eq_true_eq] at hcond
   obtain ⟨⟨⟨tx, ex⟩, hfr⟩, hlt⟩ := hcond
   cases h
   have hfr' : st.bx d = none := by simpa using hfr
   have rx := (opd_rep R t x).d1 tx
   rw [ex] at rx
   have hb : Room P t (elemsD (opd P st t x).d).length := room_of (env := env) (dst := o.dst) (by
    simpa only [chkOp, hop, happ] using hc)
   obtain ⟨hu, h1, hpos, _⟩ := sliceOf_spec hso
   have hlive : ∀ s2 : St, s2.bx d = some ⟨t, .slice (elemsD (opd P st t x).d) [], 1, none⟩ -> LiveB s2.bx (bxp d t) := by
    intro s2 he j hj
    rw [refs_2 rfl] at hj
    obtain rfl : j = d := by simpa [bxp] using hj
    rw [he]; rfl
   have hnil : RepV P w ok t (.slice none 0 0) (.slice [] []) := by
    refine ⟨⟨1, by simp [Value.cells, h1], by simp [Value.cells, Value.oneCell'], ?_⟩, by simp [isAggB, hu], fun _ => rfl⟩
    rw [hu]
    exact ⟨rfl, none, 0, by simp [Value.cells], Nat.le_refl _, Nat.zero_le _, fun _ => rfl, fun y hy => by cases hy⟩
   have hfin : ∀ (b : Nat × Nat) (w1 : World) (v : Value), (Builtin.append_ #[t, t] o.type #[.slice none 0 0, a.eval x]).run P w = .ok v w1 -> v = hv b ⟨t, .slice (elemsD (opd P st t x).d) [], 1, none⟩ ->
     RelX P F (st.upd d ⟨t, .slice (elemsD (opd P st t x).d) [], 1, none⟩) ok (fun i => if i = d then b else β i) a w1 ->
     o.wp P a w (fun a' w' => ∃ ok' β', RelX P F ((st.upd d ⟨t, .slice (elemsD (opd P st t x).d) [], 1, none⟩).put (some d) (bxp d t)) ok' β' a' w') Q := by
    intro b w1 v hrun hvv R'
    unfold Oper.wp
    have hx : (execOp a.eval o).run P w = .ok (.value v) w1 := by
     unfold execOp
     have he : a.eval (.const (.slice none 0 0)) = .slice none 0 0 := rfl
     simp only [hop, hcs, resolve, invoke, builtin, Sem.run_bind, Sem.run_pure, Result.andThen_ok, List.map_toArray, List.map_cons, List.map_nil, he, hrun]
    rw [hx]
    refine ⟨ok, fun i => if i = d then b else β i, ?_⟩
    rw [hd]
    have hrn := rep_new (P := P) (w2 := w1) (ok2 := ok) (s2 := st.upd d ⟨t, .slice (elemsD (opd P st t x).d) [], 1, none⟩) (β2 := fun i => if i = d then b else β i) (d := d) (t := t) (by rw [upd_bx, if_pos rfl]) (by simp)
    simp only [if_true] at hrn
    rw [<- hvv] at hrn
    exact R'.put hrn (hlive _ (by rw [upd_bx, if_pos rfl])) (some d)
   cases hxs : elemsD (opd P st t x).d with
   | nil =>
    rw [hxs] at hfin
    have hrun := append_none R hso rx hxs o.type
    refine hfin (0, 0) w _ hrun rfl (R.newRow0 (d := d) (e' := ⟨t, .slice [] [], 1, none⟩) (b := (0, 0)) hfr' (by simp) rfl (by simp) (by simp) (Below.refl _ w) (fun h => by cases h) (fun _ => ⟨el, hu, h1, hpos, ⟨[], rfl⟩, fun h => by cases h⟩))
   | cons y0 l0 =>
    obtain ⟨g, cap', w1, hrun, hbel, hg1, hg2, hrow⟩ := append_grow R hso hnil rx ⟨none, 0, rfl⟩ (by rw [hxs]; simp) (by simpa [elemsD] using hb) o.type
    have he : elemsD (.slice [] [] : D) = [] := rfl
    rw [he, List.nil_append] at hrun hrow
    rw [<- hxs]
    refine hfin (g, cap') w1 _ hrun ?_ (R.newRow0 (d := d) (e' := ⟨t, .slice (elemsD (opd P st t x).d) [], 1, none⟩) (b := (g, cap')) hfr' (by simp) rfl (by simp) (by simp) hbel (fun _ => ⟨hg2, hg1⟩) (fun _ => hrow 1))
    unfold hv Ent.live
    rw [hxs]
    simp [elemsD]
  ·cases h
 ·cases h

theorem roSlot_spec {c : Call} {i : Nat} (h : roSlot st c = some i) : c.callee = .value (.tmp i) /\ (st.get i).tag = 4 := by
 unfold roSlot at h
 split at h
 ·rename_i j hc
  split at h
  ·rename_i ht
   cases h
   exact ⟨hc, by simpa using ht⟩
  ·cases h
 ·cases h

theorem roEnts0_spec {all : List Nat} : ∀ {ids : List Nat} {es : List Ent}, roEnts0 st all ids = some es -> es.length = ids.length /\ ∀ (k i : Nat), ids[k]? = some i -> ∃ e : Ent, st.bx i = some e /\ e.row = 0 /\ (∀ j ∈ refsE e, j ∈ all) /\ es[k]? = some ⟨e.ty, e.d, 0, e.c.map (renA (fwd all))⟩
 | [], es, h => by
  simp only [roEnts0, Option.some.injEq] at h
  subst h
  exact ⟨rfl, by simp⟩
 | i :: l, es, h => by
  simp only [roEnts0] at h
  split at h
  ·rename_i e he
   split at h
   ·rename_i hc
    simp only [Bool.and_eq_true, beq_iff_eq, List.all_eq_true] at hc
    obtain ⟨es', h', rfl⟩ := Option.map_eq_some_iff.1 h
    obtain ⟨g1, g2⟩ := roEnts0_spec h'
    refine ⟨by simp [g1], fun k j hk => ?_⟩
    cases k with
    | zero =>
     simp only [List.getElem?_cons_zero, Option.some.injEq] at hk
     subst hk
     exact ⟨e, he, hc.1, fun q hq => by simpa using hc.2 q hq, by simp⟩
    | succ k => simpa using g2 k j (by simpa using hk)
   ·cases h
  ·cases h
theorem renA_back {ids : List Nat} {v : AV} (h : ∀ j ∈ refs v, j ∈ ids) : renA (bwd ids) (renA (fwd ids) v) = v := by
 by_cases h2 : v.tag = 2
 ·have e1 : renA (fwd ids) v = { v with id := fwd ids v.id } := by unfold renA; simp [h2]
  rw [e1]
  have e2 : renA (bwd ids) { v with id := fwd ids v.id } = { v with id := bwd ids (fwd ids v.id) } := by unfold renA; simp [h2]
  rw [e2, bwd_fwd (h v.id (by rw [refs_2 h2]; simp))]
 ·by_cases h4 : v.tag = 4
  ·have e1 : renA (fwd ids) v = { v with tys := v.tys.map (fwd ids) } := by unfold renA; simp [h4]
   rw [e1]
   have e2 : renA (bwd ids) { v with tys := v.tys.map (fwd ids) } = { v with tys := (v.tys.map (fwd ids)).map (bwd ids) } := by unfold renA; simp [h4]
   rw [e2]
   have : (v.tys.map (fwd ids)).map (bwd ids) = v.tys := by
    rw [List.map_map]
    have : v.tys.map (bwd ids ∘ fwd ids) = v.tys.map id := List.map_congr_left fun j hj => bwd_fwd (h j (by rw [refs_4 h4]; exact hj))
    rw [this, List.map_id]
   rw [this]
  ·by_cases h7 : v.tag = 7
   ·have e1 : renA (fwd ids) v = { v with tys := v.tys.map fun x => if x < 2 then x else fwd ids (x - 2) + 2 } := by unfold renA; simp [h7]
    rw [e1]
    have e2 : renA (bwd ids) { v with tys := v.tys.map fun x => if x < 2 then x else fwd ids (x - 2) + 2 } = { v with tys := (v.tys.map fun x => if x < 2 then x else fwd ids (x - 2) + 2).map fun x => if x < 2 then x else bwd ids (x - 2) + 2 } := by unfold renA; simp [h7]
    rw [e2]
    have : ((v.tys.map fun x => if x < 2 then x else fwd ids (x - 2) + 2).map fun x => if x < 2 then x else bwd ids (x - 2) + 2) = v.tys := by
     rw [List.map_map]
     have : (v.tys.map ((fun x => if x < 2 then x else bwd ids (x - 2) + 2) ∘ fun x => if x < 2 then x else fwd ids (x - 2) + 2)) = v.tys.map id := by
      refine List.map_congr_left fun (x : Nat) hx => ?_
      simp only [Function.comp, id]
      by_cases hx2 : x < 2
      ·simp [hx2]
      ·have hm : (x - 2) ∈ refs v := by
        rw [refs_7 h7, mem_rids]
        have : x - 2 + 2 = x := by omega
        rw [this]
        exact hx
       have hn : ¬ (fwd ids (x - 2) + 2 < 2) := by omega
       rw [if_neg hx2, if_neg hn, Nat.add_sub_cancel, bwd_fwd (h _ hm)]
       omega
     rw [this, List.map_id]
    rw [this]
   ·have e1 : renA (fwd ids) v = v := by unfold renA; simp [h2, h4, h7]
    rw [e1]
    unfold renA
    simp [h2, h4, h7]

theorem roCaps_get : ∀ (es : List Ent) (m k : Nat), (roCaps m es)[k]? = (es[k]?).map fun e => bxp (OID + (m + k)) e.ty
 | [], m, k => by simp [roCaps]
 | e :: l, m, k => by
  cases k with
  | zero => simp [roCaps]
  | succ k => simp only [roCaps, List.getElem?_cons_succ]; rw [roCaps_get l (m + 1) k, show m + 1 + k = m + (k + 1) by omega]

theorem argsH_of : ∀ (xs : List Operand) (ts : List TypeId) (as : List AV), argsOf P st xs ts = some as -> argsH P st xs ts = some (as.map argA) /\ ∀ v ∈ as.map argA, refs v = []
 | [], [], as, h => by
  simp only [argsOf, Option.some.injEq] at h
  subst h
  exact ⟨rfl, by simp⟩
 | [], _ :: _, as, h => by simp [argsOf] at h
 | _ :: _, [], as, h => by simp [argsOf] at h
 | x :: xs, t :: ts, as, h => by
  simp only [argsOf] at h
  split at h
  ·rename_i ht
   obtain ⟨as', ha', rfl⟩ := Option.map_eq_some_iff.1 h
   obtain ⟨g1, g2⟩ := argsH_of xs ts as' ha'
   have ht' : (opd P st t x).tag = 1 := by simpa using ht
   refine ⟨by simp only [argsH, ht, Bool.true_or, if_true, g1, Option.map_some, List.map_cons], fun v hv => ?_⟩
   rcases List.mem_cons.1 hv with rfl | hv
   ·unfold argA; simp [ht', dat, refs]
   ·exact g2 v hv
  ·cases h

theorem addNew_self : ∀ (l acc : List Nat), (acc ++ l).Nodup -> addNew acc l = acc ++ l
 | [], acc, _ => by simp [addNew]
 | i :: l, acc, h => by
  have hi : acc.contains i = false := by
   rw [List.nodup_append] at h
   have := h.2.2
   rw [Bool.eq_false_iff]
   intro hc
   exact this i (by simpa using hc) i (by simp) rfl
  simp only [addNew, hi, Bool.false_eq_true, if_false]
  rw [addNew_self l (acc ++ [i]) (by simpa using h)]
  simp

theorem addNew_in : ∀ (l acc : List Nat), (∀ j ∈ l, j ∈ acc) -> addNew acc l = acc
 | [], acc, _ => by simp [addNew]
 | i :: l, acc, h => by
  have hi : acc.contains i = true := by simpa using h i (by simp)
  simp only [addNew, hi, if_true]
  exact addNew_in l acc (fun j hj => h j (by simp [hj]))

theorem reach_self {acc : List Nat} (h : ∀ i ∈ acc, ∀ e, st.bx i = some e -> ∀ j ∈ refsE e, j ∈ acc) : ∀ (n k : Nat), reach st n acc k = acc
 | 0, k => rfl
 | n + 1, k => by
  unfold reach
  cases hk : acc[k]? with
  | none => rfl
  | some i =>
   simp only
   cases hb : st.bx i with
   | none => exact reach_self h n (k + 1)
   | some e =>
    simp only [addNew_in _ _ (h i (List.mem_of_getElem? hk) e hb)]
    exact reach_self h n (k + 1)

theorem nodupB_of {l : List Nat} (h : nodupB l = true) : l.Nodup := nodupB_spec h

/-- A call of a function that only looks at what it has captured. -/
theorem roCall_sound (henv : EnvOK P env) (R : RelX P F st ok β a w) {c : Call} (hop : o.op = .call c) (hnn : appNil c = none) (hna : appOf c = none) (hnh : heapF P env st c = none) {i : Nat} (hro : roSlot st c = some i)
  (hc : chkOp P env st o = true) (h : roCall P env o st c i = some st') : o.wp P a w (fun a' w' => ∃ ok' β', RelX P F st' ok' β' a' w') Q := by
 unfold roCall at h
 split at h
 ·rename_i hnd
  split at h
  ·rename_i t pre FF as es hr has hes
   split at h
   ·rename_i hty
    rw [beq_iff_eq] at hty
    obtain ⟨d, hd, rfl⟩ := Option.map_eq_some_iff.1 h
    obtain ⟨hcal, h4⟩ := roSlot_spec hro
    obtain ⟨hel, heg⟩ := roEnts0_spec hes
    obtain ⟨hargs0, hrf⟩ := argsH_of _ _ _ has
    have hndp := nodupB_of hnd
    have hallbox : (st.get i).tys.all (isBoxB st) = true := by
     rw [List.all_eq_true]
     intro j hj
     obtain ⟨k, hk⟩ := List.getElem?_of_mem hj
     obtain ⟨e, he, h0, _⟩ := heg k j hk
     unfold isBoxB
     simp [he, h0]
    have hcalH : calleeH P st c.callee = some ((st.get i).id, (st.get i).tys) := by
     rw [hcal]
     simp [calleeH, h4]
    have hha : hargs P st c = some (as.map argA ++ (st.get i).tys.map (capA st)) := by
     unfold Ev.hargs
     rw [hcalH, hargs0]
     simp only [hallbox, if_true]
    have hcapr : ∀ j ∈ (st.get i).tys, refs (capA st j) = [j] := fun j hj => by unfold capA; rw [refs_2 rfl]; rfl
    have hflat : (as.map argA ++ (st.get i).tys.map (capA st)).flatMap refs = (st.get i).tys := by
     rw [List.flatMap_append]
     have e1 : (as.map argA).flatMap refs = [] := by
      rw [List.flatMap_eq_nil_iff]
      exact hrf
     have e2 : ∀ l : List Nat, (l.map (capA st)).flatMap refs = l := by
      intro l
      induction l with
      | nil => rfl
      | cons j l ih =>
       simp only [List.map_cons, List.flatMap_cons]
       rw [ih]
       show refs (capA st j) ++ l = j :: l
       have : refs (capA st j) = [j] := by unfold capA; rw [refs_2 rfl]; rfl
       rw [this]
       rfl
     rw [e1, e2]
     rfl
    have hrefsE : ∀ j ∈ (st.get i).tys, ∀ e, st.bx j = some e -> ∀ q ∈ refsE e, q ∈ (st.get i).tys := by
     intro j hj e he
     obtain ⟨k, hk⟩ := List.getElem?_of_mem hj
     obtain ⟨e', he', _, hcn, _⟩ := heg k j hk
     rw [he] at he'
     cases he'
     exact hcn
    have hids : idsOf st (as.map argA ++ (st.get i).tys.map (capA st)) = (st.get i).tys := by
     unfold idsOf
     rw [hflat, addNew_self _ [] (by simpa using hndp)]
     exact reach_self (by simpa using hrefsE) 60 0
    have hcl : closedB st (as.map argA ++ (st.get i).tys.map (capA st)) (st.get i).tys = true := by
     unfold closedB
     rw [hflat]
     simp only [Bool.and_eq_true, List.all_eq_true]
     refine ⟨⟨hnd, fun j hj => by simpa using hj⟩, fun j hj => ?_⟩
     obtain ⟨k, hk⟩ := List.getElem?_of_mem hj
     obtain ⟨e, he, _, hcn, _⟩ := heg k j hk
     rw [he]
     simp only [List.all_eq_true]
     intro q hq
     simpa using hcn q hq
    have hent : (st.get i).tys.map (entOf st (st.get i).tys) = es := by
     apply List.ext_getElem?
     intro k
     rw [List.getElem?_map]
     cases hk : (st.get i).tys[k]? with
     | none =>
      have := List.getElem?_eq_none_iff.1 hk
      rw [List.getElem?_eq_none (by omega)]
      rfl
     | some j =>
      obtain ⟨e, he, h0, hcn, hek⟩ := heg k j hk
      rw [hek]
      simp only [Option.map_some, Option.some.injEq]
      unfold entOf
      rw [he]
      cases e
      simp only at h0
      subst h0
      rfl
    have hren : (as.map argA ++ (st.get i).tys.map (capA st)).map (renA (fwd (st.get i).tys)) = as.map argA ++ roCaps 0 es := by
     rw [List.map_append]
     congr 1
     ·rw [List.map_congr_left (g := id)]
      ·simp
      ·intro v hv
       have := hrf v hv
       unfold renA
       unfold refs at this
       split
       ·rename_i h2; simp [h2] at this
       ·split
        ·rename_i h2 h4'
         simp only [h2, Bool.false_eq_true, if_false, h4', if_true] at this
         cases v
         simp only at this
         subst this
         rfl
        ·split
         ·rename_i h2 h4' h7
          simp only [h2, h4', h7, Bool.false_eq_true, if_false, if_true] at this
          have hm : v.tys.map (fun x => if x < 2 then x else fwd (st.get i).tys (x - 2) + 2) = v.tys := by
           have hmm : v.tys.map (fun x => if x < 2 then x else fwd (st.get i).tys (x - 2) + 2) = v.tys.map id := by
            refine List.map_congr_left fun (x : Nat) hx => ?_
            by_cases hx2 : x < 2
            ·rw [if_pos hx2]; rfl
            ·exfalso
             have hmem : (x - 2) ∈ rids v := by
              rw [mem_rids]
              have hxx : x - 2 + 2 = x := by omega
              rw [hxx]
              exact hx
             rw [this] at hmem
             cases hmem
           rw [hmm, List.map_id]
          cases v
          simp only [id] at hm ⊢
          rw [hm]
         ·rfl
     ·apply List.ext_getElem?
      intro k
      rw [roCaps_get, List.getElem?_map, List.getElem?_map]
      cases hk : (st.get i).tys[k]? with
      | none =>
       have := List.getElem?_eq_none_iff.1 hk
       rw [List.getElem?_eq_none (by omega)]
       rfl
      | some j =>
       obtain ⟨e, he, h0, hcn, hek⟩ := heg k j hk
       rw [hek]
       simp only [Option.map_some, Option.some.injEq]
       have hp : posOf (st.get i).tys j = k := posOf_of_get hndp hk
       unfold capA
       rw [he]
       simp [renA, bxp, fwd, hp]
    have hpre : pre (as.map argA ++ roCaps 0 es) es = true := by
     simpa only [chkOp, hop, hnn, hna, hnh, hro, hr, has, hes] using hc
    have hk := henv.r _ t pre FF _ _ d hr hpre hd
    obtain ⟨f, caps, capv, hcal2, ⟨g, hg, hev⟩, harg⟩ := hargs_rep R hha
    rw [hcalH] at hcal2
    cases hcal2
    obtain ⟨fn, cd, hfn, hbody, hname⟩ := hk.fn
    have hx : (execOp a.eval o).run P w = .ok (.enter (st.get i).id (c.args.toList.map a.eval ++ capv.toList).toArray) w := by
     unfold execOp
     simp only [hop, resolve, hg, hev, Deferred.ofValue, Sem.run_bind, Sem.run_pure, Result.andThen_ok, invoke]
     have e : (#[] ++ c.args.map a.eval ++ capv : Array Value) = (c.args.toList.map a.eval ++ capv.toList).toArray := by
      apply Array.ext'; simp
     rw [e]
     have h1 : fn.name ≠ "runtime.NumGoroutine" := by simpa using hname
     simp [callFunc, hfn, h1, hbody]
    unfold Oper.wp
    rw [hx]
    have har := argsRepH_ren hcl _ _ ((closedB_spec hcl).2.1) harg
    rw [hent, hren] at har
    have hhh := heap_handed R.hp hcl
    rw [hent] at hhh
    have htb := R.tabsH hcl
    rw [hent] at htb
    refine (hk.call w ok (fun k => β (bwd (st.get i).tys k)) _ htb (fun b hb => (R.okb b hb).1) hhh har).mono ?_
    intro e w' hp
    rw [<- hent] at hp
    obtain ⟨v, ok', β', he, R', hr', hl'⟩ := R.after hcl (by simp) hp
    subst he
    have hgone : goneOf (st.get i).tys (((st.get i).tys.map (entOf st (st.get i).tys)).map some) = [] := by
     have : ∀ (l : List Nat), (∀ j ∈ l, ∃ e, st.bx j = some e /\ e.row = 0) -> goneOf l ((l.map (entOf st (st.get i).tys)).map some) = [] := by
      intro l
      induction l with
      | nil => intro _; rfl
      | cons j l ih =>
       intro hj
       obtain ⟨e, he, h0⟩ := hj j (by simp)
       have hrow : (entOf st (st.get i).tys j).row = 0 := by unfold entOf; rw [he]; simp [Ent.ren, handed, h0]
       simp only [List.map_cons, goneOf, hrow, beq_self_eq_true, Bool.true_or, if_true]
       exact ih (fun q hq => hj q (by simp [hq]))
     refine this _ (fun j hj => ?_)
     obtain ⟨k, hk⟩ := List.getElem?_of_mem hj
     obtain ⟨e, he, h0, _⟩ := heg k j hk
     exact ⟨e, he, h0⟩
    have hkill : ∀ v : AV, killL [] v = v := by
     intro v
     unfold killL
     rw [if_neg]
     simp
    have hst : st.after (st.get i).tys (((st.get i).tys.map (entOf st (st.get i).tys)).map some) = st := by
     unfold St.after
     rw [hgone]
     show St.mk _ _ = St.mk st.sl st.bx
     congr 1
     ·rw [List.map_congr_left (g := id) (fun v _ => hkill v)]; simp
     ·funext j
      have hlk := lookI_spec (ids := (st.get i).tys) (h := ((st.get i).tys.map (entOf st (st.get i).tys)).map some) (by simp) j
      by_cases hj : j ∈ (st.get i).tys
      ·rw [hlk.1 hj]
       have hpg := posOf_get hj
       obtain ⟨e, he, h0, hcn, _⟩ := heg _ j hpg
       rw [List.getElem?_map, List.getElem?_map, hpg]
       simp only [Option.map_some]
       rw [he]
       unfold entOf
       rw [he]
       simp only [Option.map_some, Option.some.injEq]
       have hcc : (e.c.map (renA (fwd (st.get i).tys))).map (renA (bwd (st.get i).tys)) = e.c := by
        cases hc0 : e.c with
        | none => rfl
        | some v =>
         simp only [Option.map_some, Option.some.injEq]
         exact renA_back (fun q hq => hcn q (by unfold refsE; rw [hc0]; exact hq))
       cases e
       simp only at h0 hcc
       subst h0
       unfold Ent.ren
       simp only [hcc]
       rfl
      ·rw [hlk.2 hj]
       simp only
       cases hb : st.bx j with
       | none => rfl
       | some e =>
        simp only [Option.map_some, Option.some.injEq]
        cases e with
        | mk t d r cc => cases cc with
         | none => rfl
         | some v => simp only [Ent.mapC, Option.map_some, hkill]
    rw [hst] at R' hr' hl'
    have hren' : renA (bwd (st.get i).tys) (mkRes P t d) = mkRes P t d := by
     rcases mkRes_tag (P := P) t d with e | e <;> · unfold renA; simp [e]
    rw [hren'] at hr' hl'
    exact ⟨ok', β', R'.put hr' hl' o.dst⟩
   ·cases h
  ·cases h
 ·cases h

/-- A row that is there already, and that nothing else leads to. -/
theorem RelX.addRow (R : RelX P F st ok β a w) {d : Nat} {e' : Ent} {b : Nat × Nat} (hf : st.bx d = none) (hrow : e'.row ≠ 0) (hc : e'.c = none) (h3 : e'.row ≠ 3) (h4 : e'.row ≠ 4)
  (hnew : e'.live = true -> b.1 < w.heap.size /\ F.base <= b.1 /\ ¬ ok b.1 /\ ∀ i e, st.bx i = some e -> e.live = true -> (β i).1 ≠ b.1) (h1 : RowOK P w ok b e') :
  RelX P F (st.upd d e') ok (fun i => if i = d then b else β i) a w := by
 have H := R.hp
 have hget : ∀ j f, (st.upd d e').bx j = some f -> (j = d /\ f = e') \/ (j ≠ d /\ st.bx j = some f) := by
  intro j f hj
  rw [upd_bx] at hj
  split at hj
  ·cases hj; exact .inl ⟨by assumption, rfl⟩
  ·exact .inr ⟨by assumption, hj⟩
 have hlv : ∀ v, LiveB st.bx v -> LiveB (st.upd d e').bx v := by
  intro v h j hj
  rw [upd_bx]
  split
  ·rfl
  ·exact h j hj
 have htr : ∀ v val, LiveB st.bx v -> RepAV P w ok β st.bx v val -> RepAV P w ok (fun i => if i = d then b else β i) (st.upd d e').bx v val := by
  intro v val hl hr
  refine hr.tr (fun _ _ => rfl) (fun _ h => h) (fun i hi f hfi => ?_)
  have hne : i ≠ d := fun hh => by have := hl i hi; rw [hh, hf] at this; cases this
  rcases hget i f hfi with ⟨hh, _⟩ | ⟨_, hh⟩
  ·exact absurd hh hne
  ·exact ⟨f, hh, by simp only [hne, if_false]; exact Alike.refl _ _⟩
 refine ⟨R.len, R.df, ⟨?_, ?_, ?_, ?_, ?_, ?_, ?_, ?_⟩, R.bel, R.bas, R.okb, ?_, ?_, ?_, ?_⟩
 ·intro i f hi hl
  rcases hget i f hi with ⟨rfl, rfl⟩ | ⟨hne, hh⟩
  ·simp only [if_true]; exact (hnew hl).1
  ·simp only [hne, if_false]; exact H.siz i f hh hl
 ·intro q i f hq hi hl
  rcases hget i f hi with ⟨rfl, rfl⟩ | ⟨hne, hh⟩
  ·simp only [if_true]; exact fun he => (hnew hl).2.2.1 (he ▸ hq)
  ·simp only [hne, if_false]; exact H.sep q i f hq hh hl
 ·intro i j f g hi hj hfl hgl heq
  rcases hget i f hi with ⟨rfl, rfl⟩ | ⟨hne, hh⟩ <;> rcases hget j g hj with ⟨rfl, rfl⟩ | ⟨hne', hh'⟩
  ·rfl
  ·simp only [if_true, hne', if_false] at heq
   exact absurd heq.symm ((hnew hfl).2.2.2 j g hh' hgl)
  ·simp only [if_true, hne, if_false] at heq
   exact absurd heq ((hnew hgl).2.2.2 i f hh hfl)
  ·simp only [hne, hne', if_false] at heq
   exact H.inj i j f g hh hh' hfl hgl heq
 ·intro i f hi h0 hcn
  rcases hget i f hi with ⟨rfl, rfl⟩ | ⟨hne, hh⟩
  ·exact absurd h0 hrow
  ·simp only [hne, if_false]; exact H.box i f hh h0 hcn
 ·intro i f v hi h0 hcv
  rcases hget i f hi with ⟨rfl, rfl⟩ | ⟨hne, hh⟩
  ·exact absurd h0 hrow
  ·simp only [hne, if_false]
   obtain ⟨g1, val, g2, g3, g4⟩ := H.con i f v hh h0 hcv
   exact ⟨g1, val, g2, g3, htr v val (H.nb i f v hh hcv) g4⟩
 ·intro i f hi h0
  rcases hget i f hi with ⟨rfl, rfl⟩ | ⟨hne, hh⟩
  ·simp only [if_true]; exact h1
  ·simp only [hne, if_false]; exact H.row i f hh h0
 ·intro i f v hi hcv
  rcases hget i f hi with ⟨rfl, rfl⟩ | ⟨hne, hh⟩
  ·rw [hc] at hcv; cases hcv
  ·exact hlv v (H.nb i f v hh hcv)
 ·intro i f hi h0
  rcases hget i f hi with ⟨rfl, rfl⟩ | ⟨hne, hh⟩
  ·exact hc
  ·exact H.rc i f hh h0
 ·intro i f hi hl
  rcases hget i f hi with ⟨rfl, rfl⟩ | ⟨hne, hh⟩
  ·simp only [if_true]; exact .inl (hnew hl).2.1
  ·simp only [hne, if_false]; exact R.own i f hh hl
 ·intro i f hi hcase
  rcases hget i f hi with ⟨rfl, rfl⟩ | ⟨hne, hh⟩
  ·rcases hcase with h | h | h
   ·exact absurd h.2 hrow
   ·exact absurd h h3
   ·exact absurd h h4
  ·simp only [hne, if_false]; exact R.hdr i f hh hcase
 ·intro i
  exact htr _ _ (R.nd i) (R.slot i)
 ·intro i
  exact hlv _ (R.nd i)

/-- A call that answers a row of its own. -/
theorem argsN_rep (R : RelX P F st ok β a w) : ∀ (xs : List Operand) (ts : List TypeId) (as : List AV), argsN P st xs ts = some as -> ArgsRepN P w ok as (xs.map a.eval) := by
 intro xs ts as h
 unfold argsN at h
 cases hb : argsOf P st xs ts with
 | none => rw [hb] at h; cases h
 | some bs =>
  rw [hb] at h
  cases h
  induction xs generalizing ts bs with
  | nil =>
   cases ts with
   | nil => cases hb; trivial
   | cons t ts => cases hb
  | cons x xs ih =>
   cases ts with
   | nil => cases hb
   | cons t ts =>
    unfold argsOf at hb
    split at hb
    ·rename_i ht
     cases hq : argsOf P st xs ts with
     | none => rw [hq] at hb; cases hb
     | some cs =>
      rw [hq] at hb
      cases hb
      have hr := opd_rep R t x
      have ht' : (opd P st t x).tag = 1 := by simpa using ht
      refine ⟨?_, ih ts cs hq⟩
      unfold nilA
      split
      ·rename_i hn
       refine ⟨ht', hr.d1 ht', fun _ => ?_⟩
       unfold isNilC at hn
       split at hn
       ·rfl
       ·cases hn
      ·exact ⟨ht', hr.d1 ht', (hr.dN ht').1⟩
    ·cases hb

theorem freshCall_sound (henv : EnvOK P env) (R : RelX P F st ok β a w) {c : Call} (hop : o.op = .call c) (hnn : appNil c = none) (hna : appOf c = none) (hnh : heapF P env st c = none) (hro : roSlot st c = none)
  (hc : chkOp P env st o = true) (h : freshCall P env o st c = some st') : o.wp P a w (fun a' w' => ∃ ok' β', RelX P F st' ok' β' a' w') Q := by
 unfold freshCall at h
 split at h
 ·rename_i t pre FF as d hfr has hd
  split at h
  ·rename_i hcond
   simp only [Bool.and_eq_true, beq_iff_eq, decide_eq_true_eq] at hcond
   obtain ⟨⟨⟨hty, hso⟩, hbn⟩, hlt⟩ := hcond
   split at h
   ·rename_i k x hF
    split at h
    ·rename_i hk
     simp only [Bool.and_eq_true, Bool.or_eq_true, beq_iff_eq] at hk
     cases h
     have hbn' : st.bx d = none := by simpa using hbn
     have hpre : pre as = true := by
      simpa only [chkOp, hop, hnn, hna, hnh, hro, hfr, has] using hc
     obtain ⟨f, hcal, hfe⟩ : ∃ f, c.callee = .value (.func f) /\ env.f f = some (t, pre, FF) := by
      unfold freshF at hfr
      split at hfr
      ·rename_i f hcal; exact ⟨f, hcal, hfr⟩
      ·cases hfr
     have hkc := henv.f f t pre FF as k x hfe hpre hF
     obtain ⟨fn, cd, hfn, hbody, hname⟩ := hkc.fn
     have hx : (execOp a.eval o).run P w = .ok (.enter f (c.args.toList.map a.eval).toArray) w := by
      unfold execOp
      have hev : a.eval (.func f) = .func (.func f) #[] #[] := rfl
      simp only [hop, resolve, hcal, hev, Deferred.ofValue, Sem.run_bind, Sem.run_pure, Result.andThen_ok, invoke]
      have e : (#[] ++ c.args.map a.eval ++ #[] : Array Value) = (c.args.toList.map a.eval).toArray := by
       apply Array.ext'; simp
      rw [e]
      have h1 : fn.name ≠ "runtime.NumGoroutine" := by simpa using hname
      simp [callFunc, hfn, h1, hbody]
     unfold Oper.wp
     rw [hx]
     refine (hkc.call w ok (c.args.toList.map a.eval) R.tabs0 (fun b hb => (R.okb b hb).1) (argsN_rep R _ _ _ has)).mono ?_
     rintro e w' ⟨b, ok', rfl, hb, hok, hrow, hlv⟩
     have h0 : (⟨t, x, k, none⟩ : Ent).row ≠ 0 := by show k ≠ 0; rcases hk.1 with h | h <;> omega
     have h3 : (⟨t, x, k, none⟩ : Ent).row ≠ 3 := by show k ≠ 3; rcases hk.1 with h | h <;> omega
     have h4 : (⟨t, x, k, none⟩ : Ent).row ≠ 4 := by show k ≠ 4; rcases hk.1 with h | h <;> omega
     have R1 := R.grow (ok' := fun b => ok b \/ ok' b) (hb) (fun b h => .inl h) (fun b h => by
      rcases h with h | h
      ·exact .inl h
      ·obtain ⟨q1, q2⟩ := hok b h
       rcases q2 with q2 | q2
       ·exact .inl q2
       ·exact .inr ⟨q2, q1⟩)
     have R2 := RelX.addRow R1 (d := d) (e' := ⟨t, x, k, none⟩) (b := b) hbn' h0 rfl h3 h4 (fun hl => by
      obtain ⟨q1, q2, q3⟩ := hlv hl
      refine ⟨q2, Nat.le_trans R.bas q1, ?_, fun i e hi hle heq => ?_⟩
      ·rintro (hh | hh)
       ·have := (R.okb _ hh).1; omega
       ·exact q3 hh
      ·have := R.hp.siz i e hi hle; omega) (hrow.move (w' := w') (fun _ => rfl) (fun _ _ => rfl) (fun b h => .inr h))
     refine ⟨fun b => ok b \/ ok' b, fun i => if i = d then b else β i, ?_⟩
     rw [hd]
     have hrn := rep_new (P := P) (w2 := w') (ok2 := fun b => ok b \/ ok' b) (s2 := st.upd d ⟨t, x, k, none⟩) (β2 := fun i => if i = d then b else β i) (d := d) (t := t) (by rw [upd_bx, if_pos rfl]) h0
     simp only [if_true] at hrn
     refine R2.put hrn (fun j hj => ?_) (some d)
     rw [refs_2 rfl] at hj
     obtain rfl : j = d := by simpa [bxp] using hj
     rw [upd_bx, if_pos rfl]
     rfl
    ·cases h
   ·cases h
  ·cases h
 ·cases h

/-! ### Structs that are held field by field -/
theorem splAt_spec {t : TypeId} {x v : AV} {e : Ent} {k : Nat} (h : splAt P st t x = some (e, v, k)) :
  x.tag = 2 /\ x.tys = [] /\ x.ty = t /\ st.bx x.id = some e /\ x.ix = k + 1 /\ e.row = 0 /\ e.c = some v /\ v.tag = 7 /\ ∃ f, fieldOf P e.ty k = some f /\ f.type = t := by
 unfold splAt at h
 split at h
 ·rename_i hc
  simp only [Bool.and_eq_true, beq_iff_eq, List.isEmpty_iff] at hc
  split at h
  ·rename_i e' k' he hix
   split at h
   ·rename_i h0
    split at h
    ·rename_i v' hv
     split at h
     ·rename_i h7
      split at h
      ·rename_i f hf
       split at h
       ·rename_i hft
        cases h
        exact ⟨hc.1.1, hc.1.2, hc.2, he, hix, by simpa using h0, hv, by simpa using h7, f, hf, by simpa using hft⟩
       ·cases h
      ·cases h
     ·cases h
    ·cases h
   ·cases h
  ·cases h
 ·cases h

/-- The box of a struct that is held field by field, in whatever world that has its cells. -/
theorem RelX.spl0 (R : RelX P F st ok β a w) {w' : World} {d : Nat} {e : Ent} {x : AV} {val : Value} {dd : D} (he : st.bx d = some e) (he0 : e.row = 0) (h7 : x.tag = 7) (ht : x.ty = e.ty) (hl : LiveB st.bx x) (hr : RepAV P w ok β st.bx x val)
  (hos : w'.os = w.os) (htape : w'.tape = w.tape) (hout : w'.output = w.output) (hsz : w'.heap.size = w.heap.size) (hoth : ∀ k, k ≠ (β d).1 -> w'.heap[k]? = w.heap[k]?) (hc : w'.heap[(β d).1]? = some (.cells val.cells e.ty (0, 0))) :
  RelX P F (st.upd d ⟨e.ty, dd, 0, some x⟩) ok (fun i => if i = d then β d else β i) a w' := by
 refine R.put0 (b := β d) (fun _ => ⟨e, he, alike_box he0⟩) hos htape hout (by omega) (fun k _ hk => hoth k (hk e he (live_box he0)))
  (fun _ => ⟨by rw [hsz]; exact R.hp.siz d e he (live_box he0), .inr ⟨rfl, e, he, live_box he0⟩⟩) (fun _ h => by cases h) (fun v h => by cases h; exact ⟨hl, fun _ => ⟨⟨fun hh => absurd h7 hh, fun _ => ht, fun hh => absurd (h7.symm.trans hh) (by decide)⟩, val, by rw [objC_ne (by omega)]; exact hc, fun hh => absurd h7 hh, hr⟩⟩) (fun _ h => absurd rfl h) (fun h => absurd rfl h) (fun h => ?_)
 rcases h with h | h | h
 ·have := R.hdr d e he (.inl ⟨h.1, he0⟩)
  rw [<- this.1]
  refine ⟨?_, this.2⟩
  unfold hval
  rw [if_pos he0, if_pos rfl]
 ·cases h
 ·cases h

/-- A field is forgotten. -/
theorem SplRep.forget {x : AV} {cs : List Value} {bx : Nat -> Option Ent} (k : Nat) (h : SplRep P w ok β bx x cs) : SplRep P w ok β bx { x with tys := x.tys.set k 1 } cs := by
 obtain ⟨fs, q1, q2, q3, q4, q5, q6, q7⟩ := h
 refine ⟨fs, q1, q2, q3, q4, q5, by simpa using q6, fun k' f hf => ⟨fun h0 => ?_, fun j e hj => ?_⟩⟩
 ·have h0 : (x.tys.set k 1)[k']? = some 0 := h0
  rw [List.getElem?_set] at h0
  split at h0
  ·split at h0
   ·cases h0
   ·cases h0
  ·exact (q7 k' f hf).1 h0
 ·have hj : (x.tys.set k 1)[k']? = some (j + 2) := hj
  rw [List.getElem?_set] at hj
  split at hj
  ·split at hj
   ·have hj : (1 : Nat) = j + 2 := Option.some.inj hj
    omega
   ·cases hj
  ·exact (q7 k' f hf).2 j e hj

theorem ldF_sound (R : RelX P F st ok β a w) {t : TypeId} {x v : AV} {vx : Value} {e : Ent} {k : Nat} (hx : RepAV P w ok β st.bx x vx) (hs : splAt P st t x = some (e, v, k)) (h : ldF P st o t x e v k = some st') :
  ∃ y val, vx = .pointer (some y) /\ (loadVar t y).run P w = .ok val w /\ ∃ ok' β', RelX P F st' ok' β' (a.put o.dst val) w := by
 obtain ⟨h2, hty0, hty, he, hix, h0, hc, h7, f, hf, hft⟩ := splAt_spec hs
 obtain ⟨hvp, _, hk, _⟩ := hx.d2 h2 e he h0
 obtain ⟨f', hf', ho, _⟩ := hk k hix
 rw [hf] at hf'
 cases hf'
 obtain ⟨g1, val, g2, _, g4⟩ := R.hp.con _ e v he h0 hc
 rw [objC_ne (by omega)] at g2
 have hvt := g1.2.1 h7
 obtain ⟨fs, hus, hl, hkf⟩ := fieldOf_spec hf
 have hsp := g4.d7 h7
 obtain ⟨fs', q1, q2, q3, q4, q5, q6, q7⟩ := hsp
 rw [hvt, hus] at q1
 cases q1
 unfold ldF at h
 split at h
 ·rename_i hcode
  cases h
  obtain ⟨n, hn⟩ := (q7 k f hkf).1 hcode
  have hrow := box_row g2 f.offset (P.cellsOf f.type)
  rw [hft] at hn hrow
  obtain ⟨u, hu1, hu2⟩ := run_loadVar hrow hn
  exact ⟨_, u, by rw [hvp, <- ho], hu1, ok, β, R.put (repAV_dat hu2.norm) (live_of_refs rfl) o.dst⟩
 ·rename_i j hcode
  split at h
  ·rename_i r hr
   split at h
   ·rename_i hcond
    rw [Bool.and_eq_true, bne_iff_ne, beq_iff_eq] at hcond
    obtain ⟨_, w1, w2, w3⟩ := (q7 k f hkf).2 j r hcode hr
    obtain ⟨el, ru, _⟩ := R.hp.row j r hr hcond.1
    rw [hcond.2] at ru
    have hne : j ≠ x.id := by
     intro hh
     rw [hh, he] at hr
     cases hr
     exact hcond.1 h0
    split at h
    ·cases h
     have hcell : w.cell? ⟨(β x.id).1, f.offset, none⟩ = some (hv (β j) r) := by
      have hrow := box_row g2 f.offset 1
      rw [w3] at hrow
      have := hrow 0 _ rfl
      simpa [Addr.add] using this
     refine ⟨⟨(β x.id).1, f.offset, none⟩, hv (β j) r, by rw [hvp, <- ho], ?_, ok, β, ?_⟩
     ·have hag : isAggB P t = false := by unfold isAggB; rw [ru]
      simp only [loadVar, Sem.run_bind, run_isAgg ru, hag, Result.andThen_ok, Bool.false_eq_true, if_false, run_load]
      rw [hcell]
     ·have hrn := rep_new (P := P) (w2 := w) (ok2 := ok) (β2 := β) (t := t) hr hcond.1
      refine R.put hrn (fun q hq => ?_) o.dst
      rw [refs_2 rfl] at hq
      obtain rfl : q = j := by simpa [bxp] using hq
      rw [hr]
      rfl
    cases h
    have hcell : w.cell? ⟨(β x.id).1, f.offset, none⟩ = some (hv (β j) r) := by
     have hrow := box_row g2 f.offset 1
     rw [w3] at hrow
     have := hrow 0 _ rfl
     simpa [Addr.add] using this
    refine ⟨⟨(β x.id).1, f.offset, none⟩, hv (β j) r, by rw [hvp, <- ho], ?_, ok, (fun i => if i = x.id then β x.id else β i), ?_⟩
    ·have hag : isAggB P t = false := by unfold isAggB; rw [ru]
     simp only [loadVar, Sem.run_bind, run_isAgg ru, hag, Result.andThen_ok, Bool.false_eq_true, if_false, run_load]
     rw [hcell]
    ·have hl1 : LiveB st.bx { v with tys := v.tys.set k 1 } := by
      intro q hq
      rw [refs_7 (x := { v with tys := v.tys.set k 1 }) h7, mem_rids] at hq
      rcases List.mem_or_eq_of_mem_set hq with hq | hq
      ·exact R.hp.nb _ e v he hc q (by rw [refs_7 h7, mem_rids]; exact hq)
      ·have hq : q + 2 = (1 : Nat) := hq
       omega
     have R1 := R.spl0 (w' := w) (dd := e.d) (x := { v with tys := v.tys.set k 1 }) (val := val) he h0 h7 hvt hl1 (rep7 h7 (SplRep.forget k (g4.d7 h7))) rfl rfl rfl rfl (fun _ _ => rfl) g2
     have hjb : (st.upd x.id ⟨e.ty, e.d, 0, some { v with tys := v.tys.set k 1 }⟩).bx j = some r := by rw [upd_bx, if_neg hne]; exact hr
     have hrn := rep_new (P := P) (w2 := w) (ok2 := ok) (β2 := fun i => if i = x.id then β x.id else β i) (t := t) hjb hcond.1
     simp only [hne, if_false] at hrn
     refine R1.put hrn (fun q hq => ?_) o.dst
     rw [refs_2 rfl] at hq
     obtain rfl : q = j := by simpa [bxp] using hq
     rw [hjb]
     rfl
   ·cases h
  ·cases h
 ·cases h

theorem lvC_sound (R : RelX P F st ok β a w) {t : TypeId} {x u : AV} {vx : Value} (hx : RepAV P w ok β st.bx x vx) (h : lvC st t x = some u) :
  ∃ y val, vx = .pointer (some y) /\ (loadVar t y).run P w = .ok val w /\ RepAV P w ok β st.bx u val /\ LiveB st.bx u := by
 unfold lvC at h
 split at h
 ·cases h
 ·rename_i k hix
  split at h
  ·rename_i hc1
   simp only [Bool.and_eq_true, beq_iff_eq, List.isEmpty_iff] at hc1
   obtain ⟨⟨h2, hty0⟩, hty⟩ := hc1
   split at h
   ·rename_i e he
    split at h
    ·rename_i v hc
     split at h
     ·rename_i hcc
      simp only [Bool.and_eq_true, beq_iff_eq] at hcc
      obtain ⟨⟨h0, h7⟩, _⟩ := hcc
      split at h
      ·rename_i j hcode
       cases h
       obtain ⟨hvp, _, hk, _⟩ := hx.d2 h2 e he h0
       obtain ⟨f, hf, ho, hft⟩ := hk k hix
       rw [hty] at hft
       obtain ⟨g1, val, g2, _, g4⟩ := R.hp.con _ e v he h0 hc
       rw [objC_ne (by omega)] at g2
       have hvt := g1.2.1 h7
       obtain ⟨fs, hus, hl, hkf⟩ := fieldOf_spec hf
       obtain ⟨fs', q1, q2, q3, q4, q5, q6, q7⟩ := g4.d7 h7
       rw [hvt, hus] at q1
       cases q1
       have hlive := R.hp.nb _ e v he hc j (by rw [refs_7 h7, mem_rids]; exact List.mem_of_getElem? hcode)
       obtain ⟨r, hr⟩ := Option.isSome_iff_exists.1 hlive
       obtain ⟨hr0, w1, w2, w3⟩ := (q7 k f hkf).2 j r hcode hr
       obtain ⟨el, ru, _⟩ := R.hp.row j r hr hr0
       rw [w1, hft] at ru
       have hcell : w.cell? ⟨(β x.id).1, f.offset, none⟩ = some (hv (β j) r) := by
        have hrow := box_row g2 f.offset 1
        rw [w3] at hrow
        have := hrow 0 _ rfl
        simpa [Addr.add] using this
       refine ⟨⟨(β x.id).1, f.offset, none⟩, hv (β j) r, by rw [hvp, <- ho], ?_, rep_new (P := P) (w2 := w) (ok2 := ok) (β2 := β) (t := t) hr hr0, fun q hq => ?_⟩
       ·have hag : isAggB P t = false := by unfold isAggB; rw [ru]
        simp only [loadVar, Sem.run_bind, run_isAgg ru, hag, Result.andThen_ok, Bool.false_eq_true, if_false, run_load]
        rw [hcell]
       ·rw [refs_2 rfl] at hq
        obtain rfl : q = j := by simpa [bxp] using hq
        rw [hr]
        rfl
      ·cases h
     ·cases h
    ·cases h
   ·cases h
  ·cases h
theorem boxL_sound (R : RelX P F st ok β a w) {lv : Bool} {t : TypeId} {x u : AV} {v : Value} (hx : RepAV P w ok β st.bx x v) (h : boxL lv st t x = some u) :
  ∃ y val, v = .pointer (some y) /\ (loadVar t y).run P w = .ok val w /\ RepAV P w ok β st.bx u val /\ LiveB st.bx u := by
 unfold boxL at h
 split at h
 ·rename_i u' hb
  cases h
  exact boxC_sound R hx hb
 ·split at h
  ·exact lvC_sound R hx h
  ·cases h

/-- A field of a struct that is held field by field is written. -/
theorem SplRep.write {x : AV} {cs part : List Value} {bx : Nat -> Option Ent} {k c : Nat} {dd : D} {f : Field} (h : SplRep P w ok β bx x cs) (hf : fieldOf P x.ty k = some f) (hp : part.length = P.cellsOf f.type) (h1 : ∀ u ∈ part, u.oneCell' = true)
  (hd : (partsD dd).length = (partsD x.d).length) (hdk : ∀ q, q ≠ k -> fieldD dd q = fieldD x.d q)
  (hc : (c = 0 -> ∃ n, Rep P w ok n f.type part (fieldD dd k)) /\ (∀ j e, c = j + 2 -> bx j = some e -> e.row ≠ 0 /\ e.ty = f.type /\ P.cellsOf f.type = 1 /\ part = [hv (β j) e])) :
  SplRep P w ok β bx { x with tys := x.tys.set k c, d := dd } (splice cs f.offset part) := by
 obtain ⟨fs, q1, q2, q3, q4, q5, q6, q7⟩ := h
 obtain ⟨fs', hus, hl, hkf⟩ := fieldOf_spec hf
 rw [hus] at q1
 cases q1
 have hfit := (layOK_spec hl hkf hkf).1
 have hfl : f.offset + part.length <= cs.length := by rw [hp, q3]; exact hfit
 have hkl : k < x.tys.length := by rw [q6]; exact (Array.getElem?_eq_some_iff.1 hkf).1
 refine ⟨fs, hus, q2, by rw [splice_length hfl]; exact q3, fun u hu => ?_, by rw [<- q5]; exact hd, by simpa using q6, fun k' g hg => ?_⟩
 ·rcases mem_splice hu with hu | hu
  ·exact q4 u hu
  ·exact h1 u hu
 by_cases hkk : k' = k
 ·subst hkk
  rw [hkf] at hg
  cases hg
  have hset : ∀ y, (x.tys.set k' c)[k']? = some y -> y = c := by
   intro y hy
   rw [List.getElem?_set_self hkl] at hy
   exact (Option.some.inj hy).symm
  have hsame : ((splice cs f.offset part).drop f.offset).take (P.cellsOf f.type) = part := by
   rw [<- hp]; exact splice_same hfl
  refine ⟨fun h0 => ?_, fun j e hj he => ?_⟩
  ·have := hset 0 h0
   rw [hsame]
   exact hc.1 this.symm
  ·have hcj := hset _ hj
   obtain ⟨a0, a1, a2, a3⟩ := hc.2 j e hcj.symm he
   refine ⟨a0, a1, a2, ?_⟩
   rw [a2] at hsame
   rw [hsame, a3]
 ·have hap := (layOK_spec hl hkf hg).2.2
  have hsl : ∀ m, m <= P.cellsOf g.type -> ((splice cs f.offset part).drop g.offset).take m = (cs.drop g.offset).take m := by
   intro m hm
   refine splice_apart hfl ?_
   rw [hp]
   rcases hap with hh | hh | hh
   ·exact absurd hh.symm hkk
   ·exact .inr hh
   ·exact .inl (by omega)
  have hset : ∀ y, (x.tys.set k c)[k']? = some y -> x.tys[k']? = some y := by
   intro y hy
   rw [List.getElem?_set_ne (fun hh => hkk hh.symm)] at hy
   exact hy
  refine ⟨fun h0 => ?_, fun j e hj he => ?_⟩
  ·rw [hsl _ (Nat.le_refl _)]
   show ∃ n, Rep P w ok n g.type _ (fieldD dd k')
   rw [hdk k' hkk]
   exact (q7 k' g hg).1 (hset 0 h0)
  ·obtain ⟨a0, a1, a2, a3⟩ := (q7 k' g hg).2 j e (hset _ hj) he
   refine ⟨a0, a1, a2, ?_⟩
   rw [hsl 1 (by omega)]
   exact a3

theorem stF_sound (R : RelX P F st ok β a w) {t : TypeId} {x y v : AV} {vx u : Value} {e : Ent} {k : Nat} (hx : RepAV P w ok β st.bx x vx) (hy : RepAV P w ok β st.bx y u) (hyl : LiveB st.bx y) (hs : splAt P st t x = some (e, v, k)) (h : stF P st t x y e v k = some st') :
  ∃ z w', vx = .pointer (some z) /\ (storeVar t z u).run P w = .ok () w' /\ ∃ β', RelX P F st' ok β' a w' := by
 obtain ⟨h2, hty0, hty, he, hix, h0, hc, h7, f, hf, hft⟩ := splAt_spec hs
 obtain ⟨hvp, _, hk, _⟩ := hx.d2 h2 e he h0
 obtain ⟨f', hf', ho, _⟩ := hk k hix
 rw [hf] at hf'
 cases hf'
 obtain ⟨g1, val, g2, _, g4⟩ := R.hp.con _ e v he h0 hc
 rw [objC_ne (by omega)] at g2
 have hvt := g1.2.1 h7
 obtain ⟨fs, hus, hl, hkf⟩ := fieldOf_spec hf
 have hsp := g4.d7 h7
 have hlen : val.cells.toList.length = P.cellsOf e.ty := by
  obtain ⟨_, _, _, q3, _⟩ := hsp
  rw [q3, hvt]
 have hfit := (layOK_spec hl hkf hkf).1
 have hinfo : ∃ i, P.info? t = some i := by
  have := (layOK_spec hl hkf hkf).2.1
  rw [hft] at this
  unfold Program.cellsOf at this
  cases hi : P.info? t with
  | none => rw [hi] at this; simp at this
  | some i => exact ⟨i, rfl⟩
 obtain ⟨i, hi⟩ := hinfo
 have hstore : u.cells.toList.length = P.cellsOf t -> (∀ q ∈ u.cells.toList, q.oneCell' = true) -> (storeVar t ⟨(β x.id).1, f.offset, none⟩ u).run P w = .ok () (w.setRow (β x.id).1 (splice val.cells.toList f.offset u.cells.toList).toArray) := by
  intro hul h1
  have hs := run_storeCells_at P (β x.id).1 f.offset e.ty u.cells.toList 0 val.cells w g2 (by rw [hul, <- hft]; simp at hlen ⊢; omega) h1
  have : u.cells.size = P.cellsOf t := by simpa using hul
  simp only [storeVar, Sem.run_bind, run_sizeOf w hi, Result.andThen_ok, this, ne_eq, not_true_eq_false, if_false, Sem.run_ite, Sem.run_pure]
  simpa [splice] using hs
 have hset : ∀ (c : Nat) (dd : D), LiveB st.bx { v with tys := v.tys.set k c, d := dd } -> SplRep P w ok β st.bx { v with tys := v.tys.set k c, d := dd } (splice val.cells.toList f.offset u.cells.toList) ->
   ∃ β', RelX P F (st.upd x.id ⟨e.ty, e.d, 0, some { v with tys := v.tys.set k c, d := dd }⟩) ok β' a (w.setRow (β x.id).1 (splice val.cells.toList f.offset u.cells.toList).toArray) := by
  intro c dd hl1 hr1
  refine ⟨_, R.spl0 (val := .agg (splice val.cells.toList f.offset u.cells.toList).toArray) he h0 h7 hvt hl1 (rep7 h7 (by simpa [Value.cells] using hr1)) rfl rfl rfl (by simp [World.setRow]) (fun q hq => setRow_other w (β x.id).1 q _ hq) (setRow_heap w (β x.id).1 _ _ e.ty (0, 0) g2)⟩
 have hlive : ∀ (c : Nat) (dd : D), (∀ j, c = j + 2 -> (st.bx j).isSome = true) -> LiveB st.bx { v with tys := v.tys.set k c, d := dd } := by
  intro c dd hcj q hq
  rw [refs_7 (x := { v with tys := v.tys.set k c, d := dd }) h7, mem_rids] at hq
  rcases List.mem_or_eq_of_mem_set hq with hq | hq
  ·exact R.hp.nb _ e v he hc q (by rw [refs_7 h7, mem_rids]; exact hq)
  ·exact hcj q hq.symm
 unfold stF at h
 split at h
 ·rename_i hcond
  rw [Bool.and_eq_true, beq_iff_eq, beq_iff_eq] at hcond
  cases h
  have ry := hy.d1 hcond.1
  rw [hcond.2] at ry
  obtain ⟨⟨m, hm⟩, _⟩ := ry
  have hml := hm.len
  have hklt : k < (partsD v.d).length := by
   obtain ⟨fs', q1, _, _, _, q5, _⟩ := hsp
   rw [hvt, hus] at q1
   cases q1
   rw [q5]
   exact (Array.getElem?_eq_some_iff.1 hkf).1
  refine ⟨_, _, by rw [hvp, <- ho], hstore hml hm.one, hset 0 (setD v.d k y.d) (hlive 0 _ (fun j hj => by omega)) ?_⟩
  refine SplRep.write (k := k) (c := 0) hsp (by rw [hvt]; exact hf) (by rw [hft]; exact hml) hm.one (by simp [setD, partsD]) (fun q hq => ?_) ⟨fun _ => ⟨m, ?_⟩, fun j e hj => by omega⟩
  ·unfold setD fieldD
   show ((partsD v.d).set k y.d).getD q .nil = _
   rw [List.getD_eq_getElem?_getD, List.getElem?_set_ne (fun hh => hq hh.symm), <- List.getD_eq_getElem?_getD]
  ·have : fieldD (setD v.d k y.d) k = y.d := by
    unfold setD fieldD
    show ((partsD v.d).set k y.d).getD k .nil = _
    rw [List.getD_eq_getElem?_getD, List.getElem?_set_self hklt]
    rfl
   rw [this, hft]
   exact hm
 ·split at h
  ·rename_i hcond
   simp only [Bool.and_eq_true, beq_iff_eq, List.isEmpty_iff] at hcond
   split at h
   ·rename_i r hr
    split at h
    ·rename_i hc2
     simp only [Bool.and_eq_true, bne_iff_ne, beq_iff_eq] at hc2
     cases h
     have huv := (hy.d5 hcond.1.1 r hr hc2.1.1).1 hcond.2 hcond.1.2
     have hu1 : u.cells.toList = [hv (β y.id) r] := by rw [huv]; unfold hv; split <;> rfl
     have ho1 : ∀ q ∈ u.cells.toList, q.oneCell' = true := by
      rw [hu1]
      intro q hq
      rw [List.mem_singleton] at hq
      rw [hq]
      unfold hv
      split <;> rfl
     have hul : u.cells.toList.length = P.cellsOf t := by rw [hu1, hc2.2]; rfl
     refine ⟨_, _, by rw [hvp, <- ho], hstore hul ho1, hset (y.id + 2) v.d (hlive _ _ (fun j hj => ?_)) ?_⟩
     ·have : j = y.id := by omega
      rw [this, hr]
      rfl
     ·refine SplRep.write (k := k) (c := y.id + 2) (dd := v.d) hsp (by rw [hvt]; exact hf) (by rw [hft]; exact hul) ho1 rfl (fun q _ => rfl) ⟨fun hh => by omega, fun j e' hj he' => ?_⟩
      have : j = y.id := by omega
      subst this
      rw [hr] at he'
      cases he'
      exact ⟨hc2.1.1, by rw [hc2.1.2, hft], by rw [hft]; exact hc2.2, hu1⟩
    ·cases h
   ·cases h
  ·cases h

theorem nil_row (t : TypeId) : (⟨t, .slice [] [], 1, none⟩ : Ent).live = false := rfl
theorem nil_hv (b : Nat × Nat) (t : TypeId) : hv b ⟨t, .slice [] [], 1, none⟩ = .slice none 0 0 := by unfold hv; rw [if_neg (by rw [nil_row]; simp)]
/-- Data of a struct with a field that is nil: held field by field. -/
theorem spl_of {t : TypeId} {cs : List Value} {d : D} {n k r : Nat} {f : Field} {bx : Nat -> Option Ent} (hr : Rep P w ok n t cs d) (hf : fieldOf P t k = some f) (hn : (cs.drop f.offset).take 1 = [.slice none 0 0]) (h1 : P.cellsOf f.type = 1)
  (hb : bx r = some ⟨f.type, .slice [] [], 1, none⟩) : SplRep P w ok β bx ⟨7, t, d, 0, 0, 0, (List.replicate (partsD d).length 0).set k (r + 2)⟩ cs := by
 obtain ⟨fs, hus, hl, hkf⟩ := fieldOf_spec hf
 have hlen := hr.len
 have hone := hr.one
 obtain ⟨m, ps, rfl, rfl, hps, hp⟩ := hr.struct hus
 have hkl : k < fs.size := (Array.getElem?_eq_some_iff.1 hkf).1
 refine ⟨fs, hus, hl, hlen, hone, hps, by simp [partsD, hps], fun k' g hg => ⟨fun h0 => ⟨m, hp k' g hg⟩, fun j e hj he => ?_⟩⟩
 have hj : ((List.replicate ps.length 0).set k (r + 2))[k']? = some (j + 2) := hj
 have hjr : k' = k /\ j = r := by
  rw [List.getElem?_set] at hj
  split at hj
  ·rename_i hkk
   split at hj
   ·have : r + 2 = j + 2 := by simpa using hj
    exact ⟨hkk.symm, by omega⟩
   ·cases hj
  ·rw [List.getElem?_replicate] at hj
   split at hj
   ·have : (0 : Nat) = j + 2 := Option.some.inj hj
    omega
   ·cases hj
 obtain ⟨rfl, rfl⟩ := hjr
 rw [hkf] at hg
 cases hg
 rw [hb] at he
 cases he
 exact ⟨by simp, rfl, h1, by rw [hn, nil_hv]⟩
theorem row_off {d k : Nat} : d ≠ d + (k + 2) * RID := by
 have : 0 < (k + 2) * RID := Nat.mul_pos (by omega) (by decide)
 omega

theorem stS_d {P : Program} {env : Env} {st s : St} {t : TypeId} {x y : AV} (h : stS P env st t x y = some s) : stSd P env st t x y x.id = some s := by
 unfold stS at h
 split at h
 ·cases h
 ·rename_i n hn
  rw [hn]
  exact h
theorem info_of {t : TypeId} {u : TypeDesc} (h : P.underlying t = some u) : ∃ i, P.info? t = some i := by
 unfold Program.underlying at h
 cases hi : P.info? t with
 | none => rw [hi] at h; cases h
 | some i => exact ⟨i, rfl⟩
theorem nilA_rep (R : RelX P F st ok β a w) (t : TypeId) (y : Operand) : RepAV P w ok β st.bx (nilA y (opd P st t y)) (a.eval y) := by
 have hr := opd_rep R t y
 unfold nilA
 split
 ·rename_i hn
  have hv : a.eval y = .slice none 0 0 := by
   unfold isNilC at hn
   split at hn
   ·rfl
   ·cases hn
  have htag : (opd P st t y).tag = 0 \/ (opd P st t y).tag = 1 := by
   unfold isNilC at hn
   split at hn
   ·unfold opd constD
    dsimp only
    repeat' split
    all_goals first | exact .inl rfl | exact .inr rfl
   ·cases hn
  generalize opd P st t y = v at hr htag
  refine ⟨hr.d1, fun h => ?_, fun h => ?_, fun h => ?_, fun h => ?_, fun h => ?_, hr.d9, fun _ h => ?_, fun _ => ⟨fun _ => hv, fun h => ?_⟩, fun h => ?_, hr.dZ⟩
  ·have h : v.tag = 2 := h
   omega
  ·have h : v.tag = 2 := h
   omega
  ·have h : v.tag = 3 := h
   omega
  ·have h : v.tag = 4 := h
   omega
  ·have h : v.tag = 6 := h
   omega
  ·have h : (2 : Nat) = 1 := h
   omega
  ·have h : (2 : Nat) = 3 := h
   omega
  ·have h : v.tag = 7 := h
   omega
 ·exact hr
theorem nilA_live {y : Operand} {v : AV} {bx : Nat -> Option Ent} (h : LiveB bx v) : LiveB bx (nilA y v) := by
 unfold nilA
 split
 ·exact h
 ·exact h
theorem stT_sound (R : RelX P F st ok β a w) {t : TypeId} {x y : AV} {vx u : Value} (hx : RepAV P w ok β st.bx x vx) (hy : RepAV P w ok β st.bx y u) (hl : LiveB st.bx y) (h7 : y.tag = 7) (h : stT P st t x y = some st') :
  ∃ z w', vx = .pointer (some z) /\ (storeVar t z u).run P w = .ok () w' /\ ∃ β', RelX P F st' ok β' a w' := by
 unfold stT at h
 split at h
 ·rename_i hc
  simp only [Bool.and_eq_true, beq_iff_eq, List.isEmpty_iff] at hc
  obtain ⟨⟨⟨⟨h2, hix⟩, hty0⟩, hxt⟩, hyt⟩ := hc
  split at h
  ·rename_i e he
   split at h
   ·rename_i hc2
    simp only [Bool.and_eq_true, beq_iff_eq] at hc2
    obtain ⟨h0, het⟩ := hc2
    cases h
    obtain ⟨fs, q1, q2, q3, q4, _⟩ := hy.d7 h7
    obtain ⟨hv, hv0, _⟩ := hx.d2 h2 e he h0
    obtain ⟨ho, _⟩ := hv0 hty0 hix
    obtain ⟨i, hi⟩ := info_of q1
    obtain ⟨cs, hcs, hnl⟩ := box_cells R.hp he h0 (by rw [het, <- hyt, q1]; simp)
    have hul : u.cells.toList.length = P.cellsOf t := by rw [q3, hyt]
    have hfit : 0 + u.cells.toList.length <= cs.size := by rw [hul, <- het]; simp at hnl ⊢; omega
    have hsplice : (splice cs.toList 0 u.cells.toList) = u.cells.toList := by
     simp only [splice, List.take_zero, List.nil_append, Nat.zero_add]
     rw [List.drop_of_length_le (by rw [hul, <- het, hnl]; exact Nat.le_refl _)]
     simp
    rw [hyt] at hi
    have hrun : (storeVar t ⟨(β x.id).1, 0, none⟩ u).run P w = .ok () (w.setRow (β x.id).1 u.cells) := by
     have hs := run_storeCells_at P (β x.id).1 0 e.ty u.cells.toList 0 cs w hcs (by simpa using hfit) q4
     have hsz : u.cells.size = P.cellsOf t := by simpa using hul
     simp only [storeVar, Sem.run_bind, run_sizeOf w hi, Result.andThen_ok, hsz, ne_eq, not_true_eq_false, if_false, Sem.run_ite, Sem.run_pure]
     have hs2 : (storeCells ⟨(β x.id).1, 0, none⟩ u.cells.toList).run P w = .ok () (w.setRow (β x.id).1 (splice cs.toList 0 u.cells.toList).toArray) := by simpa [splice] using hs
     rw [hs2, hsplice]
    have R2 := R.spl0 (w' := w.setRow (β x.id).1 u.cells) (dd := .nil) (d := x.id) (e := e) (x := y) (val := u) he h0 h7 (hyt.trans het.symm) hl hy rfl rfl rfl (by simp [World.setRow]) (fun q hq => setRow_other w (β x.id).1 q _ hq) (setRow_heap w (β x.id).1 _ _ e.ty (0, 0) hcs)
    exact ⟨_, _, by rw [hv, ho], hrun, _, R2⟩
   ·cases h
  ·cases h
 ·cases h
theorem stNd_sound (R : RelX P F st ok β a w) {t : TypeId} {x y : AV} {vx u : Value} (hx : RepAV P w ok β st.bx x vx) (hy : RepAV P w ok β st.bx y u) (h : stNd P env st t x y x.id = some st') :
  ∃ z w', vx = .pointer (some z) /\ (storeVar t z u).run P w = .ok () w' /\ ∃ β', RelX P F st' ok β' a w' := by
 unfold stNd at h
 split at h
 ·rename_i hc
  simp only [Bool.and_eq_true, beq_iff_eq, List.isEmpty_iff] at hc
  obtain ⟨⟨⟨⟨⟨⟨_, h2⟩, hty0⟩, hxt⟩, hy1⟩, hyt⟩, hy2⟩ := hc
  split at h
  ·rename_i k e k' hsp he hix
   split at h
   ·rename_i hc2
    simp only [Bool.and_eq_true, beq_iff_eq, Option.isNone_iff_eq_none] at hc2
    obtain ⟨⟨hkk, h0⟩, hcn⟩ := hc2
    subst hkk
    split at h
    ·rename_i f hf
     split at h
     ·rename_i hc3
      simp only [Bool.and_eq_true, beq_iff_eq, decide_eq_true_eq] at hc3
      obtain ⟨⟨hft, hso⟩, _⟩ := hc3
      cases h
      obtain ⟨el, hso⟩ := Option.isSome_iff_exists.1 hso
      obtain ⟨hu, h1, hpos, _⟩ := sliceOf_spec hso
      have hun : u = .slice none 0 0 := (hy.dN hy1).1 hy2
      subst hun
      have ry := hy.d1 hy1
      rw [hyt, <- hft] at ry
      obtain ⟨es, hes⟩ : ∃ es, y.d = .slice es [] := by
       obtain ⟨m, es, b, cap, hd, _⟩ := ry.slice hu
       exact ⟨es, hd⟩
      have hes0 : y.d = .slice [] [] := by
       obtain ⟨m, es, b, cap, hd, hv, _⟩ := ry.slice hu
       injection hv with hv1 hv2 hv3
       have : es = [] := List.length_eq_zero_iff.1 (by omega)
       rw [hd, this]
      rw [hes0] at ry
      obtain ⟨⟨m, hm⟩, _⟩ := ry
      obtain ⟨fs, hus, hl, hkf⟩ := fieldOf_spec hf
      obtain ⟨hvp, _, hkx, _⟩ := hx.d2 h2 e he h0
      obtain ⟨g, hg, ho, _⟩ := hkx k' hix
      rw [hf] at hg
      cases hg
      obtain ⟨i, hi⟩ := info_of hu
      obtain ⟨cs, hcs, n, hn⟩ := R.hp.box _ e he h0 hcn
      have hcl := hn.len
      obtain ⟨n', hn'⟩ := hn.set hus hl hkf hm
      have hfit := (layOK_spec hl hkf hkf).1
      have hcc : (Value.slice none 0 0).cells.toList = [Value.slice none 0 0] := rfl
      rw [hcc] at hn' hm
      have hs1 : f.offset + [Value.slice none 0 0].length <= cs.toList.length := by rw [hcl, List.length_singleton]; omega
      have hne := row_off (d := x.id) (k := k')
      have R1 := R.newRow (w' := w) (d := x.id + (k' + 2) * RID) (e' := ⟨f.type, .slice [] [], 1, none⟩) (b := (0, 0)) (by simp) rfl (by simp) (by simp) rfl rfl rfl (Nat.le_refl _) (fun _ _ _ => rfl) (fun hl => by cases hl) (fun _ => ⟨el, hu, h1, hpos, ⟨[], rfl⟩, fun hl => by cases hl⟩)
      have hb1 : (st.renew (x.id + (k' + 2) * RID) ⟨f.type, .slice [] [], 1, none⟩).bx x.id = some (e.mapC (killL [x.id + (k' + 2) * RID])) := by rw [renew_bx, if_neg hne, he]; rfl
      have hbr : (st.renew (x.id + (k' + 2) * RID) ⟨f.type, .slice [] [], 1, none⟩).bx (x.id + (k' + 2) * RID) = some ⟨f.type, .slice [] [], 1, none⟩ := by rw [renew_bx, if_pos rfl]
      have hrun : (storeVar t ⟨(β x.id).1, f.offset, none⟩ (.slice none 0 0)).run P w = .ok () (w.setRow (β x.id).1 (splice cs.toList f.offset [Value.slice none 0 0]).toArray) := by
       have hs := run_storeCells_at P (β x.id).1 f.offset e.ty [Value.slice none 0 0] 0 cs w hcs (by simpa using hs1) hm.one
       have hsz : (Value.slice none 0 0).cells.size = P.cellsOf t := by rw [<- hft, h1]; rfl
       rw [hft] at hi
       simp only [storeVar, Sem.run_bind, run_sizeOf w hi, Result.andThen_ok, hsz, ne_eq, not_true_eq_false, if_false, Sem.run_ite, Sem.run_pure]
       rw [hcc]
       simpa [splice] using hs
      have hβ : (if x.id = x.id + (k' + 2) * RID then ((0, 0) : Nat × Nat) else β x.id) = β x.id := by rw [if_neg hne]
      have hnil : ((splice cs.toList f.offset [Value.slice none 0 0]).drop f.offset).take 1 = [.slice none 0 0] := splice_in cs.toList [Value.slice none 0 0] f.offset hs1
      have hnf : nF P e.ty = (partsD (setD e.d k' (.slice [] []))).length := by
       obtain ⟨m2, ps, _, hps, hpl, _⟩ := hn'.struct hus
       unfold nF
       rw [hus, hps]
       exact hpl.symm
      have hspl := spl_of (bx := (st.renew (x.id + (k' + 2) * RID) ⟨f.type, .slice [] [], 1, none⟩).bx) (β := fun i => if i = x.id + (k' + 2) * RID then (0, 0) else β i) hn' hf hnil h1 hbr
      rw [<- hnf] at hspl
      have hspl1 : SplRep P w ok (fun i => if i = x.id + (k' + 2) * RID then (0, 0) else β i) (st.renew (x.id + (k' + 2) * RID) ⟨f.type, .slice [] [], 1, none⟩).bx ⟨7, e.ty, setD e.d k' (.slice [] []), 0, 1, 0, (List.replicate (nF P e.ty) 0).set k' (x.id + (k' + 2) * RID + 2)⟩ (Value.agg (splice cs.toList f.offset [Value.slice none 0 0]).toArray).cells.toList := by
       have := hspl
       simp only [Value.cells]
       exact this
      have R2 := R1.spl0 (w' := w.setRow (β x.id).1 (splice cs.toList f.offset [Value.slice none 0 0]).toArray) (dd := .nil) (d := x.id) (e := e.mapC (killL [x.id + (k' + 2) * RID])) (x := ⟨7, e.ty, setD e.d k' (.slice [] []), 0, 1, 0, (List.replicate (nF P e.ty) 0).set k' (x.id + (k' + 2) * RID + 2)⟩) (val := .agg (splice cs.toList f.offset [Value.slice none 0 0]).toArray) hb1 h0 rfl rfl
       (fun q hq => live_spl (t := e.ty) (d := setD e.d k' (.slice [] [])) (by rw [hbr]; rfl) q hq) (rep7 rfl hspl1) rfl rfl rfl (by simp [World.setRow]) (fun q hq => setRow_other w (β x.id).1 q _ (by have hq : q ≠ (if x.id = x.id + (k' + 2) * RID then ((0, 0) : Nat × Nat) else β x.id).1 := hq; rw [hβ] at hq; exact hq)) (by
        show (w.setRow (β x.id).1 (splice cs.toList f.offset [Value.slice none 0 0]).toArray).heap[(if x.id = x.id + (k' + 2) * RID then ((0, 0) : Nat × Nat) else β x.id).1]? = _
        rw [hβ]
        exact setRow_heap w (β x.id).1 _ _ e.ty (0, 0) hcs)
      exact ⟨_, _, by rw [hvp, <- ho], hrun, _, R2⟩
     ·cases h
    ·cases h
   ·cases h
  ·cases h
 ·cases h
theorem stS_sound (R : RelX P F st ok β a w) {t : TypeId} {x y : AV} {vx u : Value} (hx : RepAV P w ok β st.bx x vx) (hy : RepAV P w ok β st.bx y u) (hlv : LiveB st.bx y) (h : stS P env st t x y = some st') :
  ∃ z w', vx = .pointer (some z) /\ (storeVar t z u).run P w = .ok () w' /\ ∃ β', RelX P F st' ok β' a w' := by
 replace h := stS_d h
 unfold stSd at h
 split at h
 rotate_left
 ·split at h
  ·rename_i h7
   rw [beq_iff_eq] at h7
   exact stT_sound R hx hy hlv h7 h
  ·exact stNd_sound R hx hy h
 ·rename_i hc
  simp only [Bool.and_eq_true, beq_iff_eq, List.isEmpty_iff] at hc
  obtain ⟨⟨⟨⟨⟨⟨_, h2⟩, hix⟩, hty0⟩, hxt⟩, hy1⟩, hyt⟩ := hc
  split at h
  ·rename_i k e hsp he
   split at h
   ·rename_i hc2
    simp only [Bool.and_eq_true, beq_iff_eq] at hc2
    obtain ⟨⟨h0, het⟩, hk⟩ := hc2
    split at h
    ·rename_i f hf
     split at h
     ·rename_i hc3
      simp only [Bool.and_eq_true, decide_eq_true_eq] at hc3
      obtain ⟨hso, _⟩ := hc3
      cases h
      obtain ⟨el, hso⟩ := Option.isSome_iff_exists.1 hso
      obtain ⟨hu, h1, hpos, _⟩ := sliceOf_spec hso
      have hk : k ∈ y.tys := by simpa using hk
      obtain ⟨hnil, _⟩ := hy.dZ hy1 k hk f (by rw [hyt]; exact hf)
      have ry := hy.d1 hy1
      rw [hyt] at ry
      obtain ⟨⟨m, hm⟩, _⟩ := ry
      have hml := hm.len
      obtain ⟨_, i, _, hi⟩ := hm.info
      obtain ⟨hv, hv0, _⟩ := hx.d2 h2 e he h0
      obtain ⟨ho, _⟩ := hv0 hty0 hix
      obtain ⟨cs, hcs, hnl⟩ := box_cells R.hp he h0 (by rw [het]; obtain ⟨u0, _, hu0, _⟩ := hm.info; rw [hu0]; simp)
      have hne := row_off (d := x.id) (k := k)
      have R1 := R.newRow (w' := w) (d := x.id + (k + 2) * RID) (e' := ⟨f.type, .slice [] [], 1, none⟩) (b := (0, 0)) (by simp) rfl (by simp) (by simp) rfl rfl rfl (Nat.le_refl _) (fun _ _ _ => rfl) (fun hl => by cases hl) (fun _ => ⟨el, hu, h1, hpos, ⟨[], rfl⟩, fun hl => by cases hl⟩)
      have hb1 : (st.renew (x.id + (k + 2) * RID) ⟨f.type, .slice [] [], 1, none⟩).bx x.id = some (e.mapC (killL [x.id + (k + 2) * RID])) := by rw [renew_bx, if_neg hne, he]; rfl
      have hbr : (st.renew (x.id + (k + 2) * RID) ⟨f.type, .slice [] [], 1, none⟩).bx (x.id + (k + 2) * RID) = some ⟨f.type, .slice [] [], 1, none⟩ := by rw [renew_bx, if_pos rfl]
      have hfit : 0 + u.cells.toList.length <= cs.size := by rw [hml, <- het]; simp at hnl ⊢; omega
      have hsplice : (splice cs.toList 0 u.cells.toList) = u.cells.toList := by
       simp only [splice, List.take_zero, List.nil_append, Nat.zero_add]
       rw [List.drop_of_length_le (by rw [hml, <- het, hnl]; exact Nat.le_refl _)]
       simp
      have hrun : (storeVar t ⟨(β x.id).1, 0, none⟩ u).run P w = .ok () (w.setRow (β x.id).1 u.cells) := by
       have hs := run_storeCells_at P (β x.id).1 0 e.ty u.cells.toList 0 cs w hcs (by simpa using hfit) hm.one
       have hsz : u.cells.size = P.cellsOf t := by simpa using hml
       simp only [storeVar, Sem.run_bind, run_sizeOf w hi, Result.andThen_ok, hsz, ne_eq, not_true_eq_false, if_false, Sem.run_ite, Sem.run_pure]
       have hs2 : (storeCells ⟨(β x.id).1, 0, none⟩ u.cells.toList).run P w = .ok () (w.setRow (β x.id).1 (splice cs.toList 0 u.cells.toList).toArray) := by simpa [splice] using hs
       rw [hs2, hsplice]
      have hβ : (if x.id = x.id + (k + 2) * RID then ((0, 0) : Nat × Nat) else β x.id) = β x.id := by rw [if_neg hne]
      have R2 := R1.spl0 (w' := w.setRow (β x.id).1 u.cells) (dd := .nil) (d := x.id) (e := e.mapC (killL [x.id + (k + 2) * RID])) (x := ⟨7, t, y.d, 0, 0, 0, (List.replicate (partsD y.d).length 0).set k (x.id + (k + 2) * RID + 2)⟩) (val := u) hb1 h0 rfl het.symm
       (live_spl (by rw [hbr]; rfl)) (rep7 rfl (spl_of hm hf hnil h1 hbr)) rfl rfl rfl (by simp [World.setRow]) (fun q hq => setRow_other w (β x.id).1 q _ (by have hq : q ≠ (if x.id = x.id + (k + 2) * RID then ((0, 0) : Nat × Nat) else β x.id).1 := hq; rw [hβ] at hq; exact hq)) (by show (w.setRow (β x.id).1 u.cells).heap[(if x.id = x.id + (k + 2) * RID then ((0, 0) : Nat × Nat) else β x.id).1]? = _; rw [hβ]; exact setRow_heap w (β x.id).1 _ _ e.ty (0, 0) hcs)
      have R2' : RelX P F ((st.renew (x.id + (k + 2) * RID) ⟨f.type, .slice [] [], 1, none⟩).upd x.id ⟨e.ty, .nil, 0, some ⟨7, t, y.d, 0, 0, 0, (List.replicate (partsD y.d).length 0).set k (x.id + (k + 2) * RID + 2)⟩⟩) ok _ a (w.setRow (β x.id).1 u.cells) := R2
      rw [het] at R2'
      exact ⟨_, _, by rw [hv, ho], hrun, _, R2'⟩
     ·cases h
    ·cases h
   ·cases h
  ·cases h

theorem alS_sound (R : RelX P F st ok β a w) {t : TypeId} {d : Nat} {z : D} (hfr : st.bx d = none) (hd : d < OID) {i : TypeInfo} {v : Value} {n : Nat} (hi : P.info? t = some i) (hzv : i.zero = some v) (hrep : Rep P w ok n t v.cells.toList z) (h : alS P env st t d z = some st') :
  ∃ st2 e β', st' = st2.put (some d) (bxp d t) /\ st2.bx d = some e /\ e.row = 0 /\ e.ty = t /\ (β' d).1 = w.heap.size /\ RelX P F st2 ok β' a (w.alloc (.cells v.cells t)) := by
 unfold alS at h
 split at h
 ·rename_i k hsp
  split at h
  ·rename_i f hf
   split at h
   ·rename_i hc
    simp only [Bool.and_eq_true, decide_eq_true_eq] at hc
    obtain ⟨⟨⟨hso, hfr2⟩, _⟩, hnil⟩ := hc
    cases h
    obtain ⟨el, hso⟩ := Option.isSome_iff_exists.1 hso
    obtain ⟨hu, h1, hpos, _⟩ := sliceOf_spec hso
    have hfr2 : st.bx (d + (k + 2) * RID) = none := by simpa using hfr2
    have hne := row_off (d := d) (k := k)
    unfold chkNil at hnil
    rw [hi, hf] at hnil
    simp only [Option.bind_some, hzv, Bool.and_eq_true] at hnil
    have hcell : (v.cells.toList.drop f.offset).take 1 = [.slice none 0 0] := by
     have h3 := hnil.1
     unfold isNilCell at h3
     split at h3
     ·rename_i heq; exact heq
     ·cases h3
    have R1 := R.newRow0 (d := d + (k + 2) * RID) (e' := ⟨f.type, .slice [] [], 1, none⟩) (b := (0, 0)) hfr2 (by simp) rfl (by simp) (by simp) (Below.refl _ w) (fun h => by cases h) (fun _ => ⟨el, hu, h1, hpos, ⟨[], rfl⟩, fun h => by cases h⟩)
    have hbd : (st.upd (d + (k + 2) * RID) ⟨f.type, .slice [] [], 1, none⟩).bx d = none := by rw [upd_bx, if_neg hne]; exact hfr
    have hbr : (st.upd (d + (k + 2) * RID) ⟨f.type, .slice [] [], 1, none⟩).bx (d + (k + 2) * RID) = some ⟨f.type, .slice [] [], 1, none⟩ := by rw [upd_bx, if_pos rfl]
    have hb : Below w.heap.size w (w.alloc (.cells v.cells t)) := (Below.refl _ _).alloc (Nat.le_refl _) _
    have hsz : (w.alloc (.cells v.cells t)).heap.size = w.heap.size + 1 := by simp
    have R2 := R1.put0 (w' := w.alloc (.cells v.cells t)) (d := d) (e' := ⟨t, .nil, 0, some ⟨7, t, z, 0, 0, 0, (List.replicate (partsD z).length 0).set k (d + (k + 2) * RID + 2)⟩⟩) (b := (w.heap.size, 0)) (fresh_refs hbd) rfl rfl rfl (by omega) (fun k hk _ => hb.block k hk) (fun _ => ⟨by omega, .inl (Nat.le_refl _)⟩) (fun _ h => by cases h)
     (fun v' h => by cases h; exact ⟨live_spl (by rw [hbr]; rfl), fun _ => ⟨⟨fun hh => absurd rfl hh, fun _ => rfl, fun hh => absurd hh (by simp)⟩, v, alloc_new w _, fun hh => absurd rfl hh, rep7 rfl (spl_of hrep hf hcell h1 hbr)⟩⟩) (fun _ h => absurd rfl h) (fun h => absurd rfl h) (fun h => by
      rcases h with h | h | h
      ·omega
      ·cases h
      ·cases h)
    refine ⟨_, _, _, rfl, by rw [upd_bx, if_pos rfl], rfl, rfl, ?_, R2⟩
    simp
   ·cases h
  ·cases h
 ·cases h

/-- EVERY OPERATION. -/
theorem stillA_kill (i : Nat) (e : Ent) (v : AV) : stillA i e (killL [i] v) = killL [i] v := by
 have key : ∀ u : AV, (∀ j ∈ refs u, j ≠ i) -> stillA i e u = u := by
  intro u hu
  unfold stillA
  have h1 : (u.tag == 2 && u.id == i) = false := by
   rw [<- Bool.not_eq_true, Bool.and_eq_true, beq_iff_eq, beq_iff_eq]
   rintro ⟨h2, h3⟩
   exact hu u.id (by rw [refs_2 h2]; simp) h3
  have h2 : (refs u).contains i = false := by
   rw [<- Bool.not_eq_true, List.contains_iff_mem]
   exact fun hh => hu i hh rfl
  rw [h1, h2]
  rfl
 rcases killL_cases [i] v with h | ⟨h, hne⟩
 ·rw [h]
  exact key _ (fun j hj => by rw [refs_dz] at hj; cases hj)
 ·rw [h]
  exact key _ (fun j hj hh => hne j hj (by simp [hh]))
theorem stillE_kill (i : Nat) (e f : Ent) : stillE i e (Ent.mapC (killL [i]) f) = Ent.mapC (killL [i]) f := by
 unfold stillE Ent.mapC
 cases hc : f.c with
 | none => rfl
 | some v =>
  simp only [Option.map_some]
  have hu : ∀ j ∈ refs (killL [i] v), j ≠ i := by
   rcases killL_cases [i] v with h | ⟨h, hne⟩
   ·rw [h]
    exact fun j hj => by rw [refs_dz] at hj; cases hj
   ·rw [h]
    exact fun j hj hh => hne j hj (by simp [hh])
  have h2 : (refs (killL [i] v)).contains i = false := by
   rw [<- Bool.not_eq_true, List.contains_iff_mem]
   exact fun hh => hu i hh rfl
  have h1 : ((killL [i] v).tag == 2 && (killL [i] v).id == i) = false := by
   rw [<- Bool.not_eq_true, Bool.and_eq_true, beq_iff_eq, beq_iff_eq]
   rintro ⟨h2, h3⟩
   exact hu _ (by rw [refs_2 h2]; simp) h3
  rw [h1, h2]
  simp only [Bool.false_and, Bool.and_false, Bool.false_eq_true, if_false]
theorem renew_still {st : St} {i d : Nat} {e : Ent} {t : TypeId} (hr : e.row ≠ 0) (ht : e.ty = t) : ((st.renew i e).put (some d) (bxp i t)).still i = (st.kill i).put (some d) (dat t e.d) := by
 have hb : ((st.renew i e).put (some d) (bxp i t)).bx i = some e := by rw [put_bx, renew_bx, if_pos rfl]
 have h0 : (e.row == 0) = false := by simpa using hr
 unfold St.still
 rw [hb]
 simp only [h0, Bool.false_eq_true, if_false]
 have hs : (((st.renew i e).put (some d) (bxp i t)).sl).map (stillA i e) = ((st.kill i).put (some d) (dat t e.d)).sl := by
  show ((st.sl.map (killL [i])).set d (bxp i t)).map (stillA i e) = (st.sl.map (killL [i])).set d (dat t e.d)
  rw [List.map_set, List.map_map]
  have e1 : stillA i e (bxp i t) = dat t e.d := by
   unfold stillA
   simp [bxp, ht]
  have e2 : stillA i e ∘ killL [i] = killL [i] := by funext v; exact stillA_kill i e v
  rw [e1, e2]
 have hx : (fun j => if j = i then none else (((st.renew i e).put (some d) (bxp i t)).bx j).map (stillE i e)) = ((st.kill i).put (some d) (dat t e.d)).bx := by
  funext j
  show (if j = i then none else (if j = i then some e else (st.bx j).map (Ent.mapC (killL [i]))).map (stillE i e)) = if j = i then none else (st.bx j).map (Ent.mapC (killL [i]))
  split
  ·rfl
  ·rw [Option.map_map]
   congr 1
   funext f
   exact stillE_kill i e f
 rw [hs, hx]

theorem ite_fst {c : Prop} [Decidable c] {x y : Nat × Nat} {p : Nat × Nat -> Prop} (hx : c -> p x) (hy : ¬ c -> p y) : p (if c then x else y) := by
 split
 ·exact hx (by assumption)
 ·exact hy (by assumption)
def okR (x : Nat × Nat) : Prop := x.1 <= 1114111 /\ 1 <= x.2
theorem rune_le (s : List UInt8) (p : Nat) : okR (runeAt s p) := by
 unfold runeAt Utf8.decode
 simp only
 refine ite_fst (fun h => ?_) (fun _ => ite_fst (fun _ => ite_fst (fun _ => ?_) (fun _ => ?_)) (fun _ => ite_fst (fun _ => ite_fst (fun _ => ?_) (fun _ => ?_)) (fun _ => ite_fst (fun _ => ite_fst (fun hv => ?_) (fun _ => ?_)) (fun _ => ?_))))
 ·exact ⟨by show _ <= 1114111; omega, Nat.le_refl _⟩
 ·refine ⟨?_, by show 1 <= 2; omega⟩
  show _ % 32 * 64 + _ % 64 <= 1114111
  omega
 ·exact ⟨by show Utf8.runeError <= _; decide, Nat.le_refl _⟩
 ·refine ⟨?_, by show 1 <= 3; omega⟩
  show _ % 16 * 4096 + _ % 64 * 64 + _ % 64 <= 1114111
  omega
 ·exact ⟨by show Utf8.runeError <= _; decide, Nat.le_refl _⟩
 ·refine ⟨?_, by show 1 <= 4; omega⟩
  rw [Bool.and_eq_true] at hv
  have h2 := hv.2
  unfold Utf8.valid at h2
  rw [Bool.or_eq_true, Bool.and_eq_true, Bool.and_eq_true, decide_eq_true_eq, decide_eq_true_eq, decide_eq_true_eq, decide_eq_true_eq] at h2
  show _ % 8 * 262144 + _ % 64 * 4096 + _ % 64 * 64 + _ % 64 <= 1114111
  omega
 ·exact ⟨by show Utf8.runeError <= _; decide, Nat.le_refl _⟩
 ·exact ⟨by show Utf8.runeError <= _; decide, Nat.le_refl _⟩

theorem itAt_spec {st : St} {i : Nat} {s : List UInt8} {p : Nat} (h : itAt st i = some (s, p)) : (st.get i).tag = 2 /\ (st.get i).ix = 0 /\ (st.get i).tys = [] /\ ∃ e v, st.bx (st.get i).id = some e /\ e.row = 0 /\ e.ty = ITY /\ e.c = some v /\ v.tag = 8 /\ v.d = .lit (.string s) /\ v.ix = p := by
 unfold itAt at h
 split at h
 ·rename_i hc
  simp only [Bool.and_eq_true, beq_iff_eq, List.isEmpty_iff] at hc
  split at h
  ·rename_i e he
   split at h
   ·rename_i v hv
    split at h
    ·rename_i s' hs
     split at h
     ·rename_i hc2
      simp only [Bool.and_eq_true, beq_iff_eq] at hc2
      cases h
      exact ⟨hc.1.1, hc.1.2, hc.2, e, v, he, hc2.1.1, hc2.2, hv, hc2.1.2, hs, rfl⟩
     ·cases h
    ·cases h
   ·cases h
  ·cases h
 ·cases h

/-- Going on in a text. -/
theorem RelX.stepIt' (R : RelX P F st ok β a w) {d : Nat} {e : Ent} {v : AV} {s : List UInt8} {p : Nat} (he : st.bx d = some e) (he0 : e.row = 0) (hc : e.c = some v) (h8 : v.tag = 8) (hd : v.d = .lit (.string s)) :
  w.heap[(β d).1]? = some (.stringIter ⟨s.toArray⟩ v.ix) /\ s.length <= maxLen /\
  ∃ β', RelX P F (st.upd d ⟨e.ty, .nil, 0, some (itr s p)⟩) ok β' a { w with heap := w.heap.setIfInBounds (β d).1 (.stringIter ⟨s.toArray⟩ p) } := by
 obtain ⟨g1, val, g2, g3, g4⟩ := R.hp.con d e _ he he0 hc
 have hb : (β d).1 < w.heap.size := R.hp.siz d e he (live_box he0)
 refine ⟨by rw [g2]; unfold objC; rw [if_pos h8, hd]; rfl, by have := (g1.2.2 h8).2; rw [hd] at this; exact this, _, R.put0 (b := β d) (fun _ => ⟨e, he, alike_box he0⟩) rfl rfl rfl (by simp) (fun k _ hk => ?_)
  (fun _ => ⟨by simpa using hb, .inr ⟨rfl, e, he, live_box he0⟩⟩) (fun _ h => by cases h) (fun v h => by
   cases h
   exact ⟨live_of_refs rfl, fun _ => ⟨⟨fun _ h => absurd rfl h, fun h => by simp [itr] at h, fun _ => ⟨(g1.2.2 h8).1, by have := (g1.2.2 h8).2; rw [hd] at this; exact this⟩⟩, .nilFunc, by simp [hb, objC, itr, strD], fun _ => rfl, repAV_8 rfl⟩⟩) (fun _ h => absurd rfl h) (fun h => absurd rfl h) (fun h => ?_)⟩
 ·have hne := hk e he (live_box he0)
  simp [Array.getElem?_setIfInBounds_ne (Ne.symm hne)]
 ·rcases h with h | h | h
  ·have := R.hdr d e he (.inl ⟨h.1, he0⟩)
   rw [<- this.1]
   refine ⟨?_, this.2⟩
   unfold hval
   rw [if_pos he0, if_pos rfl]
  ·cases h
  ·cases h

theorem run_next_on {r : Nat} {s : List UInt8} {p : Nat} (hb : w.heap[r]? = some (.stringIter ⟨s.toArray⟩ p)) (hp : p < s.length) (t : TypeId) :
  (Instr.next (.pointer (some ⟨r, 0, none⟩)) true t).run P w = .ok (.tuple #[.bool true, .int .i64 (p : Int), .int .i32 ((runeAt s p).1 : Int)]) { w with heap := w.heap.setIfInBounds r (.stringIter ⟨s.toArray⟩ (p + (runeAt s p).2)) } := by
 have hg : (getObj r).run P w = .ok (.stringIter ⟨s.toArray⟩ p) w := by simp [getObj, Sem.run, hb]
 have hs : ∀ o, (setObj r o).run P w = .ok () { w with heap := w.heap.setIfInBounds r o } := fun o => by simp [setObj, Sem.run, hb]
 have hsz : p < (⟨s.toArray⟩ : ByteArray).size := hp
 unfold Instr.next
 simp only [Sem.run_bind, hg, Result.andThen_ok, hsz, if_true, hs, Sem.run_pure]
 rfl
theorem run_next_over {r : Nat} {s : List UInt8} {p : Nat} (hb : w.heap[r]? = some (.stringIter ⟨s.toArray⟩ p)) (hp : ¬ p < s.length) (t : TypeId) :
  (Instr.next (.pointer (some ⟨r, 0, none⟩)) true t).run P w = .ok (.tuple #[.bool false]) w := by
 have hg : (getObj r).run P w = .ok (.stringIter ⟨s.toArray⟩ p) w := by simp [getObj, Sem.run, hb]
 have hsz : ¬ p < (⟨s.toArray⟩ : ByteArray).size := hp
 unfold Instr.next
 simp only [Sem.run_bind, hg, Result.andThen_ok, hsz, if_false, Sem.run_pure]
theorem rtOK_spec (h : rtOK P = true) : (P.underlying P.rt.bool = some .bool /\ P.underlying P.rt.int = some (.int .i64) /\ P.underlying P.rt.rune = some (.int .i32)) /\ P.cellsOf P.rt.bool = 1 /\ P.cellsOf P.rt.int = 1 /\ P.cellsOf P.rt.rune = 1 := by
 unfold rtOK at h
 simp only [Bool.and_eq_true, beq_iff_eq] at h
 obtain ⟨⟨⟨h1, h2⟩, h3⟩, h4⟩ := h
 split at h1
 ·rename_i a b c
  exact ⟨⟨a, b, c⟩, h2, h3, h4⟩
 ·cases h1
theorem next_sound (R : RelX P F st ok β a w) {i : Nat} (hop : o.op = .next (.tmp i) true) {s : List UInt8} {p : Nat} (hit : itAt st i = some (s, p)) (hrt : rtOK P = true)
  (h : (if decide (p < s.length) then some ((stepIt st i s (p + (runeAt s p).2)).put o.dst (nextA P s p)) else some (st.put o.dst (overA P))) = some st') :
  o.wp P a w (fun a' w' => ∃ ok' β', RelX P F st' ok' β' a' w') Q := by
 obtain ⟨⟨u1, u2, u3⟩, c1, c2, c3⟩ := rtOK_spec hrt
 obtain ⟨g1, g2, g3, e, v, he, he0, hty, hc, h8, hd, hix⟩ := itAt_spec hit
 obtain ⟨hv, hv0, _⟩ := (R.slot i).d2 g1 e he he0
 obtain ⟨ho, _⟩ := hv0 g3 g2
 have hpt : a.eval (.tmp i) = .pointer (some ⟨(β (st.get i).id).1, 0, none⟩) := by show a.tmps.getD i undef = _; rw [hv, ho]
 obtain ⟨hb, hlen, β', R'⟩ := R.stepIt' (p := p + (runeAt s p).2) he he0 hc h8 hd
 rw [hix] at hb
 split at h
 ·rename_i hlt
  rw [decide_eq_true_eq] at hlt
  cases h
  unfold Oper.wp
  have hx : (execOp a.eval o).run P w = .ok (.value (.tuple #[.bool true, .int .i64 (p : Int), .int .i32 ((runeAt s p).1 : Int)])) { w with heap := w.heap.setIfInBounds (β (st.get i).id).1 (.stringIter ⟨s.toArray⟩ (p + (runeAt s p).2)) } := by
   unfold execOp
   simp only [hop, hpt, Sem.run_bind, run_next_on hb hlt, Result.andThen_ok, Sem.run_pure]
  rw [hx]
  have hst : stepIt st i s (p + (runeAt s p).2) = st.upd (st.get i).id ⟨e.ty, .nil, 0, some (itr s (p + (runeAt s p).2))⟩ := by unfold stepIt; rw [hty]
  rw [hst]
  refine ⟨ok, β', R'.put ?_ (live_of_refs rfl) o.dst⟩
  refine ⟨by simp [nextA, tupA], by simp [nextA, tupA], by simp [nextA, tupA], by simp [nextA, tupA], by simp [nextA, tupA], fun _ => ⟨_, rfl, rfl, fun k t ht => ?_⟩, by simp [nextA, tupA], by simp [nextA, tupA], by simp [nextA, tupA], by simp [nextA, tupA], by simp [nextA, tupA]⟩
  have hr := rune_le s p
  simp only [nextA, tupA] at ht ⊢
  match k with
  | 0 => simp at ht; subst ht; exact repV_bool u1 c1
  | 1 =>
   simp at ht; subst ht
   refine repV_int u2 c2 ?_
   unfold maxLen at hlen
   simp [Lit.wf, IntKind.min, IntKind.max, IntKind.signed, IntKind.bits]
   omega
  | 2 =>
   simp at ht; subst ht
   refine repV_int u3 c3 ?_
   have := hr.1
   simp [Lit.wf, IntKind.min, IntKind.max, IntKind.signed, IntKind.bits]
   omega
  | k + 3 => simp at ht
 ·rename_i hlt
  rw [decide_eq_true_eq] at hlt
  cases h
  unfold Oper.wp
  have hx : (execOp a.eval o).run P w = .ok (.value (.tuple #[.bool false])) w := by
   unfold execOp
   simp only [hop, hpt, Sem.run_bind, run_next_over hb hlt, Result.andThen_ok, Sem.run_pure]
  rw [hx]
  refine ⟨ok, β, R.put ?_ (live_of_refs rfl) o.dst⟩
  refine ⟨by simp [overA, tupA], by simp [overA, tupA], by simp [overA, tupA], by simp [overA, tupA], by simp [overA, tupA], fun _ => ⟨_, rfl, rfl, fun k t ht => ?_⟩, by simp [overA, tupA], by simp [overA, tupA], by simp [overA, tupA], by simp [overA, tupA], by simp [overA, tupA]⟩
  simp only [overA, tupA] at ht ⊢
  match k with
  | 0 => simp at ht; subst ht; exact repV_bool u1 c1
  | k + 1 => simp at ht

theorem evOp_sound (henv : EnvOK P env) (R : RelX P F st ok β a w) (hc : chkOp P env st o = true) (h : evOp P env o st = some st') :
  o.wp P a w (fun a' w' => ∃ ok' β', RelX P F st' ok' β' a' w') Q := by
 have hgood : ∀ {av : AV}, LiveB st.bx av -> o.wp P a w (Good P ok β st o av a w) Q -> o.wp P a w (fun a' w' => ∃ ok' β', RelX P F (st.put o.dst av) ok' β' a' w') Q := by
  intro av hl hg
  refine Oper.wp_mono ?_ hg
  rintro a' w' ⟨v, ok', rfl, hb, hk, hn, hr⟩
  exact ⟨ok', β, (R.grow hb hk hn).put hr hl o.dst⟩
 have hR : RID < OID := by decide
 have hptr : ∀ {s2 : St} {β2 : Nat -> Nat × Nat} {d : Nat} {e : Ent} {n : Nat} {w2 : World} {ok2 : Nat -> Prop}, s2.bx d = some e -> e.row = 0 -> (β2 d).1 = n -> RepAV P w2 ok2 β2 s2.bx (bxp d e.ty) (.pointer (some ⟨n, 0, none⟩)) := by
  intro s2 β2 d e n w2 ok2 he h0 hn
  refine ⟨by simp [bxp], fun _ f hf hr => ?_, fun _ f hf hr => ?_, by simp [bxp], by simp [bxp], by simp [bxp], by simp [bxp], by simp [bxp], by simp [bxp], by simp [bxp], by simp [bxp]⟩
  ·have hf' : s2.bx d = some f := hf
   rw [he] at hf'
   cases hf'
   refine ⟨?_, fun _ _ => ⟨rfl, rfl⟩, fun k hk => by simp [bxp] at hk, by simp [bxp]⟩
   show _ = Value.pointer (some ⟨(β2 d).1, 0, none⟩)
   rw [hn]
  ·have hf' : s2.bx d = some f := hf
   rw [he] at hf'
   cases hf'
   exact absurd h0 hr
 have hlptr : ∀ {s2 : St} {d : Nat} {e : Ent} (t : TypeId), s2.bx d = some e -> LiveB s2.bx (bxp d t) := by
  intro s2 d e t he j hj
  rw [refs_2 rfl] at hj
  obtain rfl : j = d := by simpa [bxp] using hj
  rw [he]
  rfl
 unfold evOp at h
 split at h
 ·rename_i t x hop
  split at h
  ·rename_i e v k hsp
   have hsp : splAt P st t (opd0 P st o x) = some (e, v, k) := by
    split at hsp
    ·exact hsp
    ·cases hsp
   obtain ⟨y, val, hv, hl, ok', β', R'⟩ := ldF_sound (o := o) R (opd_rep R o.type x) hsp h
   unfold Oper.wp
   have hx : (execOp a.eval o).run P w = .ok (.value val) w := by
    unfold execOp
    simp [hop, Instr.loadAt, hv, Instr.sureAddr, hl]
   rw [hx]
   exact ⟨ok', β', R'⟩
  obtain ⟨u, hd, rfl⟩ := Option.map_eq_some_iff.1 h
  unfold ldV at hd
  split at hd
  ·rename_i u' hbc
   cases hd
   obtain ⟨y, val, hv, hl, hr, hlu⟩ := boxL_sound R (opd_rep R o.type x) hbc
   refine hgood hlu (good_value (v := val) ?_ hr)
   unfold execOp
   simp [hop, Instr.loadAt, hv, Instr.sureAddr, hl]
  ·obtain ⟨d, hd2, rfl⟩ := Option.map_eq_some_iff.1 hd
   obtain ⟨y, u, hv, hl, hr⟩ := ldA_sound R (opd_rep R o.type x) hd2
   refine hgood (live_of_refs rfl) (good_value (v := u) ?_ (repAV_dat hr))
   unfold execOp
   simp [hop, Instr.loadAt, hv, Instr.sureAddr, hl]
 ·rename_i t x y hop
  split at h
  rotate_left
  ·cases h
  rename_i hnone
  have hd : o.dst = none := by simpa using hnone
  have hst : ∃ z w', a.eval x = .pointer (some z) /\ (storeVar t z (a.eval y)).run P w = .ok () w' /\ ∃ β', RelX P F st' ok β' a w' := by
   split at h
   ·rename_i e v k hsp
    have hsp : splAt P st t (opd0 P st o x) = some (e, v, k) := by
     split at hsp
     ·exact hsp
     ·cases hsp
    exact stF_sound R (opd_rep R o.type x) (opd_rep R t y) (opd_live R.nd t y) hsp h
   split at h
   ·rename_i s hss
    cases h
    have hss : stS P env st t (opd0 P st o x) (nilA y (opd P st t y)) = some st' := by
     split at hss
     ·exact hss
     ·cases hss
    exact stS_sound R (opd_rep R o.type x) (nilA_rep R t y) (nilA_live (opd_live R.nd t y)) hss
   split at h
   ·rename_i hcond
    simp only [Bool.and_eq_true, beq_iff_eq] at hcond
    have ry := (opd_rep R t y).d1 hcond.1
    rw [hcond.2] at ry
    exact stA_sound R (opd_rep R o.type x) ry h
   ·exact stC_sound R (opd_rep R o.type x) (opd_rep R t y) (opd_live R.nd t y) h
  obtain ⟨z, w', hv, hs, β', R'⟩ := hst
  unfold Oper.wp
  have hx : (execOp a.eval o).run P w = .ok .skip w' := by
   unfold execOp
   simp [hop, Instr.storeAt, hv, Instr.sureAddr, hs]
  rw [hx]
  show ∃ ok' β', RelX P F st' ok' β' (a.put o.dst undef) w'
  rw [hd]
  exact ⟨ok, β', R'⟩
 ·rename_i t x k hop
  split at h
  ·rename_i f hf
   obtain ⟨av, rfl, hg, hl⟩ := good_fieldAddr (Q := Q) R hop hf h
   exact hgood hl hg
  ·cases h
 ·rename_i t hop
  split at h
  ·rename_i d z hd hz
   split at h
   ·rename_i hfr
    rw [Bool.and_eq_true, decide_eq_true_eq] at hfr
    have hfr' : st.bx d = none := by simpa using hfr.1
    have hdlt : d < OID := Nat.lt_trans hfr.2 hR
    obtain ⟨i, v, n, hi, hzv, hsz, hrep⟩ := zeroOf_spec hz
    have hx : (execOp a.eval o).run P w = .ok (.value (.pointer (some ⟨w.heap.size, 0, none⟩))) (w.alloc (.cells v.cells t)) := by
     unfold execOp
     simp [hop, Instr.alloc, zeroValue, typeInfo, hi, hzv, newVar, newRow]
    split at h
    ·obtain ⟨st2, e2, β', rfl, hb2, h02, ht2, hβ2, R2⟩ := alS_sound R hfr' hdlt hi hzv (hrep w ok) h
     unfold Oper.wp
     rw [hx]
     refine ⟨ok, β', ?_⟩
     rw [hd]
     have hp := hptr (w2 := w.alloc (.cells v.cells t)) (ok2 := ok) hb2 h02 hβ2
     rw [ht2] at hp
     exact R2.put hp (hlptr t hb2) (some d)
    split at h
    ·rename_i hrow
     simp only [Bool.and_eq_true] at hrow
     split at h
     ·rename_i hfr2
      have hfr2' : st.bx (d + RID) = none := by simpa using hfr2
      cases h
      obtain ⟨el, hso⟩ := Option.isSome_iff_exists.1 hrow.1.2
      obtain ⟨hu, h1, hpos, _⟩ := sliceOf_spec hso
      have hz1 : v.cells = #[.slice none 0 0] := by
       have hchk : chkRep P deep t v.cells.toList (zeroD P deep t) = true := by
        unfold zeroOf at hz
        rw [hi] at hz
        simp only [Option.bind_some, hzv] at hz
        split at hz
        ·rename_i hcc
         rw [Bool.and_eq_true] at hcc
         exact hcc.1
        ·cases hz
       have hzd : zeroD P deep t = .slice [] [] := by unfold deep zeroD; rw [hu]
       rw [hzd] at hchk
       unfold deep chkRep at hchk
       rw [hu] at hchk
       simp only [Bool.and_eq_true] at hchk
       have h3 := hchk.2
       split at h3
       ·rename_i heq _ _
        apply Array.ext'
        exact heq
       ·cases h3
      rw [hz1] at hx
      unfold Oper.wp
      rw [hx]
      have R1 := R.newRow0 (d := d + RID) (e' := ⟨t, .slice [] [], 1, none⟩) (b := (0, 0)) hfr2' (by simp) rfl (by simp) (by simp) (Below.refl _ w) (fun h => by cases h) (fun _ => ⟨el, hu, h1, hpos, ⟨[], rfl⟩, fun h => by cases h⟩)
      have hne : d ≠ d + RID := Nat.ne_of_lt (Nat.lt_add_of_pos_right (by decide))
      have hrh : RepAV P w ok (fun i => if i = d + RID then (0, 0) else β i) (st.upd (d + RID) ⟨t, .slice [] [], 1, none⟩).bx (bxp (d + RID) t) (.slice none 0 0) := by
       refine ⟨by simp [bxp], fun _ f hf hr => ?_, fun _ f hf hr => ⟨fun _ _ => ?_, by simp [bxp]⟩, by simp [bxp], by simp [bxp], by simp [bxp], by simp [bxp], by simp [bxp], by simp [bxp], by simp [bxp], by simp [bxp]⟩
       ·rw [upd_bx] at hf
        simp only [bxp, if_true, Option.some.injEq] at hf
        subst hf
        cases hr
       ·rw [upd_bx] at hf
        simp only [bxp, if_true, Option.some.injEq] at hf
        subst hf
        rfl
      have R2 := R1.newCon (d := d) (t := t) (x := bxp (d + RID) t) (val := .slice none 0 0) (by rw [upd_bx, if_neg hne]; exact hfr') hdlt (by simp [bxp]) (by simp [bxp]) hrow.2 rfl (hlptr t (by rw [upd_bx, if_pos rfl])) hrh
      refine ⟨ok, fun i => if i = d then (w.heap.size, 0) else if i = d + RID then (0, 0) else β i, ?_⟩
      rw [hd]
      exact R2.put (hptr (e := ⟨t, .nil, 0, some (bxp (d + RID) t)⟩) (by rw [upd_bx, if_pos rfl]) rfl (by simp)) (hlptr t (by rw [upd_bx, if_pos rfl])) (some d)
     ·cases h
    ·cases h
     unfold Oper.wp
     rw [hx]
     have R' := R.newBox hfr' hdlt (hrep w ok)
     refine ⟨ok, fun i => if i = d then (w.heap.size, 0) else β i, ?_⟩
     rw [hd]
     exact R'.put (hptr (e := ⟨t, z, 0, none⟩) (by rw [upd_bx, if_pos rfl]) rfl (by simp)) (hlptr t (by rw [upd_bx, if_pos rfl])) (some d)
   ·cases h
  ·cases h
 ·rename_i t x hop
  split at h
  ·rename_i d hd
   split at h
   ·rename_i hfr
    rw [Bool.and_eq_true, decide_eq_true_eq] at hfr
    have hfr' : st.bx d = none := by simpa using hfr.1
    have hdlt : d < OID := Nat.lt_trans hfr.2 hR
    have hx : (execOp a.eval o).run P w = .ok (.value (.pointer (some ⟨w.heap.size, 0, none⟩))) (w.alloc (.cells (a.eval x).cells t)) := by
     unfold execOp
     simp [hop, Instr.box, newVar, newRow]
    unfold Oper.wp
    rw [hx]
    split at h
    ·rename_i hcond
     simp only [Bool.and_eq_true, beq_iff_eq] at hcond
     cases h
     have rx := (opd_rep R t x).d1 hcond.1
     rw [hcond.2] at rx
     obtain ⟨⟨n, hn⟩, _⟩ := rx
     have R' := R.newBox hfr' hdlt hn
     refine ⟨ok, fun i => if i = d then (w.heap.size, 0) else β i, ?_⟩
     rw [hd]
     exact R'.put (hptr (e := ⟨t, _, 0, none⟩) (by rw [upd_bx, if_pos rfl]) rfl (by simp)) (hlptr t (by rw [upd_bx, if_pos rfl])) (some d)
    ·split at h
     ·rename_i hcond
      rw [Bool.and_eq_true] at hcond
      cases h
      have hr := opd_rep R t x
      have hl := opd_live (P := P) R.nd t x
      obtain ⟨q1, q2⟩ := cont_val hcond.1 hl hr
      rw [q1]
      have R' := R.newCon hfr' hdlt (cont_tag hcond.1) (cont_tag8 hcond.1) hcond.2 q1 hl hr
      refine ⟨ok, fun i => if i = d then (w.heap.size, 0) else β i, ?_⟩
      rw [hd]
      exact R'.put (hptr (e := ⟨t, .nil, 0, _⟩) (by rw [upd_bx, if_pos rfl]) rfl (by simp)) (hlptr t (by rw [upd_bx, if_pos rfl])) (some d)
     ·cases h
   ·cases h
  ·cases h
 ·rename_i t x y hop
  split at h
  ·rename_i d el hd hso
   split at h
   ·rename_i z hz
    split at h
    ·rename_i hcond
     simp only [Bool.and_eq_true, decide_eq_true_eq] at hcond
     obtain ⟨⟨⟨hfr, hlt⟩, hk⟩, hky⟩ := hcond
     cases h
     have hfr' : st.bx d = none := by simpa using hfr
     obtain ⟨hu, h1, hpos, ii, z0, hii, hzz, hsize, hzs, hbytes⟩ := sliceOf_spec hso
     obtain ⟨i2, v, n0, hi2, hzv, hsz, hrep⟩ := zeroOf_spec hz
     rw [hii] at hi2
     cases hi2
     obtain ⟨k, hk⟩ := Option.isSome_iff_exists.1 hk
     obtain ⟨t2, u2⟩ := kindOf_spec hk
     obtain ⟨m, d2, v2, _⟩ := ((opd_rep R P.rt.int x).d1 t2).int u2
     obtain ⟨ky, c, dy, vy⟩ := asInt_opt R hky
     simp only [chkOp, hop, Bool.and_eq_true, Bool.or_eq_true, decide_eq_true_eq, d2, dy, intD] at hc
     obtain ⟨⟨hle, hm0⟩, hmb⟩ := hc
     have hmc : m <= c := by
      rcases hle with hle | hle
      ·have hxy : x = y := by
        unfold sameOp at hle
        split at hle
        ·have := beq_iff_eq.1 hle
         subst this
         rfl
        ·rw [Bool.and_eq_true, beq_iff_eq, beq_iff_eq] at hle
         obtain ⟨rfl, rfl⟩ := hle
         rfl
        ·cases hle
       subst hxy
       rw [d2] at dy
       injection dy with dy
       injection dy with _ dy
       omega
      ·exact hle
     have hb1 : ((ii.bytes : Int) * c) <= 281474976710656 := by
      have h1' : (ii.bytes : Int) <= 65536 := by omega
      have : (ii.bytes : Int) * c <= 65536 * 2147483648 := Int.mul_le_mul h1' hmb (by omega) (by omega)
      omega
     have hrun := run_make (P := P) w t el ii v hu hii hzv k ky m c hm0 hmc hb1 (by omega)
     have hx : (execOp a.eval o).run P w = .ok (.value (.slice (some ⟨w.heap.size, 0, none⟩) m.toNat c.toNat)) (w.alloc (.cells (madeCells v.cells (c.toNat * ii.size)) el)) := by
      unfold execOp
      simp only [hop, v2, vy, Sem.run_bind, hrun, Result.andThen_ok, Sem.run_pure]
     unfold Oper.wp
     rw [hx]
     rw [d2]
     simp only [intD]
     have hcs : P.cellsOf el = ii.size := by simp [Program.cellsOf, hii]
     have hmcn : m.toNat <= c.toNat := by omega
     have hb : Below w.heap.size w (w.alloc (.cells (madeCells v.cells (c.toNat * ii.size)) el)) := (Below.refl _ _).alloc (Nat.le_refl _) _
     have hsz' : (w.alloc (.cells (madeCells v.cells (c.toNat * ii.size)) el)).heap.size = w.heap.size + 1 := by simp
     have hlen : (elemsD (.slice (List.replicate m.toNat z) [] : D)).length = m.toNat := by simp [elemsD]
     have R' := R.newRow0 (d := d) (e' := ⟨t, .slice (List.replicate m.toNat z) [], 2, none⟩) (b := (w.heap.size, c.toNat)) hfr' (by simp) rfl (by simp) (by simp) hb (fun _ => ⟨by rw [hsz']; exact Nat.lt_succ_self _, Nat.le_refl _⟩) (fun hsm => by
      refine ⟨el, hu, h1, hpos, ⟨_, rfl⟩, fun _ => ⟨madeCells v.cells (c.toNat * ii.size), n0, alloc_new w _, by rw [hlen]; exact hmcn, by unfold maxLen; show c.toNat <= _; omega, by rw [size_madeCells, hcs], fun q yy hq => ?_⟩⟩
      have hq' : (List.replicate m.toNat z)[q]? = some yy := hq
      have hqlt : q < m.toNat := by have := (List.getElem?_eq_some_iff.1 hq').1; simpa using this
      have hyy : yy = z := by
       rw [List.getElem?_replicate] at hq'
       simp [hqlt] at hq'
       exact hq'.symm
      subst hyy
      have hseg : (((madeCells v.cells (c.toNat * ii.size)).toList.drop (q * P.cellsOf el)).take (P.cellsOf el)) = v.cells.toList := by
       apply List.ext_getElem?
       intro j
       have hmul : (q + 1) * P.cellsOf el <= c.toNat * P.cellsOf el := Nat.mul_le_mul_right _ (Nat.le_trans hqlt hmcn)
       have hmul' : (q + 1) * P.cellsOf el = q * P.cellsOf el + P.cellsOf el := Nat.succ_mul _ _
       by_cases hj : j < P.cellsOf el
       ·rw [List.getElem?_take_of_lt hj, List.getElem?_drop]
        have hlt : q * P.cellsOf el + j < c.toNat * ii.size := by rw [<- hcs]; omega
        have hmod : (q * P.cellsOf el + j) % P.cellsOf el = j := by rw [Nat.add_comm, Nat.add_mul_mod_self_right, Nat.mod_eq_of_lt hj]
        simp [madeCells, hlt, hsz, hmod, hj]
       ·rw [List.getElem?_take_eq_none (by omega), List.getElem?_eq_none (by simp [hsz]; omega)]
      rw [hseg]
      exact hrep _ _)
     refine ⟨ok, fun i => if i = d then (w.heap.size, c.toNat) else β i, ?_⟩
     rw [hd]
     refine R'.put ⟨by simp [bxp], fun _ f hf hr => ?_, fun _ f hf hr => ⟨fun _ _ => ?_, by simp [bxp]⟩, by simp [bxp], by simp [bxp], by simp [bxp], by simp [bxp], by simp [bxp], by simp [bxp], by simp [bxp], by simp [bxp]⟩ (hlptr t (by rw [upd_bx, if_pos rfl])) (some d)
     ·rw [upd_bx] at hf
      simp only [bxp, if_true, Option.some.injEq] at hf
      subst hf
      cases hr
     ·rw [upd_bx] at hf
      simp only [bxp, if_true, Option.some.injEq] at hf
      subst hf
      unfold hv
      have : Ent.live ⟨t, .slice (List.replicate m.toNat z) [], 2, none⟩ = true := rfl
      rw [this]
      simp [elemsD, bxp]
    ·cases h
   ·cases h
  ·cases h
 ·rename_i x hop
  split at h
  rotate_left
  ·obtain ⟨v, hv, rfl⟩ := Option.map_eq_some_iff.1 h
   exact hgood (evVal_live R.nd hv) (evVal_sound henv R hc (fun c hc => by rw [hop] at hc; cases hc) hv)
  rename_i hnil
  have hxn : x = .const (.slice none 0 0) := by
   unfold isNilC at hnil
   split at hnil
   ·rfl
   ·cases hnil
  subst hxn
  unfold nilRow at h
  split at h
  ·rename_i d el hd hso
   split at h
   ·rename_i hfr
    rw [Bool.and_eq_true, decide_eq_true_eq] at hfr
    cases h
    have hfr' : st.bx d = none := by simpa using hfr.1
    have hdlt : d < OID := Nat.lt_trans hfr.2 hR
    obtain ⟨hu, h1, hpos, _⟩ := sliceOf_spec hso
    unfold Oper.wp
    have hx : (execOp a.eval o).run P w = .ok (.value (.slice none 0 0)) w := by
     unfold execOp
     simp [hop, Act.eval]
    rw [hx]
    have R' := R.newRow0 (d := d) (e' := ⟨o.type, .slice [] [], 1, none⟩) (b := (0, 0)) hfr' (by simp) rfl (by simp) (by simp) (Below.refl _ w) (fun h => by cases h) (fun _ => ⟨el, hu, h1, hpos, ⟨[], rfl⟩, fun h => by cases h⟩)
    refine ⟨ok, fun i => if i = d then (0, 0) else β i, ?_⟩
    rw [hd]
    refine R'.put ⟨by simp [bxp], fun _ e he hr => ?_, fun _ e he hr => ⟨fun _ _ => ?_, by simp [bxp]⟩, by simp [bxp], by simp [bxp], by simp [bxp], by simp [bxp], by simp [bxp], by simp [bxp], by simp [bxp], by simp [bxp]⟩ (hlptr o.type (by rw [upd_bx, if_pos rfl])) (some d)
    ·rw [upd_bx] at he
     simp only [bxp, if_true, Option.some.injEq] at he
     subst he
     cases hr
    ·rw [upd_bx] at he
     simp only [bxp, if_true, Option.some.injEq] at he
     subst he
     rfl
   ·cases h
  ·cases h
 ·rename_i c hop
  split at h
  ·rename_i x t happ
   exact appNew_sound R hop happ hc h
  rename_i hnn
  split at h
  ·rename_i s x t happ
   split at h
   ·unfold appData at h
    split at h
    ·rename_i el d e hso hd hro
     split at h
     ·rename_i hcond'
      rw [Bool.and_eq_true] at hcond'
      have hcond := hcond'.1
      rw [Bool.and_eq_true, beq_iff_eq, beq_iff_eq] at hcond
      cases h
      have hcs := appOf_spec happ
      have rx := (opd_rep R t x).d1 hcond.1
      rw [hcond.2] at rx
      have hb : Room P t ((elemsD e.d).length + (elemsD (opd P st t x).d).length) := room_of (env := env) (dst := o.dst) (by
       simpa only [chkOp, hop, hnn, happ, preOf_row hro, hro] using hc)
      obtain ⟨v', w', b, hrun, hv', R'⟩ := append_sound R hso hro rx hb o.type
      unfold Oper.wp
      have hx : (execOp a.eval o).run P w = .ok (.value v') w' := by
       unfold execOp
       have he : a.eval (.tmp s) = a.tmps.getD s undef := rfl
       simp only [hop, hcs, resolve, invoke, builtin, Sem.run_bind, Sem.run_pure, Result.andThen_ok, List.map_toArray, List.map_cons, List.map_nil, he, hrun]
      rw [hx]
      have hrow' : (if e.row == 3 then 2 else if e.row == 4 then 1 else e.row) ≠ 0 := by
       have hne := (rowOf_spec hro).2.2.2.2
       intro hr
       split at hr
       ·cases hr
       ·split at hr
        ·cases hr
        ·exact hne hr
      have Rn := R'.put (x := bxp (st.get s).id t) (v := v') (by
       refine ⟨by simp [bxp], fun _ f hf hr => ?_, fun _ f hf hr => ⟨fun _ _ => ?_, by simp [bxp]⟩, by simp [bxp], by simp [bxp], by simp [bxp], by simp [bxp], by simp [bxp], by simp [bxp], by simp [bxp], by simp [bxp]⟩
       ·rw [renew_bx] at hf
        simp only [bxp, if_true, Option.some.injEq] at hf
        subst hf
        exfalso
        have hne := (rowOf_spec hro).2.2.2.2
        simp only at hr
        split at hr
        ·cases hr
        ·split at hr
         ·cases hr
         ·exact hne hr
       ·rw [renew_bx] at hf
        simp only [bxp, if_true, Option.some.injEq] at hf ⊢
        subst hf
        exact hv') (hlptr t (by rw [renew_bx, if_pos rfl])) (some d)
      obtain ⟨ok2, R2⟩ := Rn.still (st.get s).id
      rw [renew_still hrow' rfl] at R2
      first
       | exact ⟨ok2, _, R2⟩
       | (refine ⟨ok2, fun i => if i = (st.get s).id then b else β i, ?_⟩; rw [hd]; exact R2)
     ·cases h
    ·rename_i el d hso hd hro
     split at h
     ·rename_i hcond
      simp only [Bool.and_eq_true, beq_iff_eq] at hcond
      obtain ⟨⟨⟨⟨ts, is⟩, es⟩, tx⟩, ex⟩ := hcond
      have hcs := appOf_spec happ
      have rx := (opd_rep R t x).d1 tx
      rw [ex] at rx
      have rs := (R.slot s).d1 ts
      rw [es] at rs
      have hb : Room P t ((elemsD (st.get s).d).length + (elemsD (opd P st t x).d).length) := room_of (env := env) (dst := o.dst) (by
       have hq := hc
       simp only [chkOp, hop, hnn, happ, preOf_dat ts, hro, Bool.and_eq_true] at hq
       exact hq.2)
      cases h
      obtain ⟨v', w', ok', hrun, hbel, hk, hn, hr⟩ := append_full R hso rs rx ((R.slot s).dF ts is) hb o.type
      rw [<- hd]
      refine hgood (live_of_refs rfl) ?_
      unfold Oper.wp
      have hx : (execOp a.eval o).run P w = .ok (.value v') w' := by
       unfold execOp
       have he : a.eval (.tmp s) = a.tmps.getD s undef := rfl
       simp only [hop, hcs, resolve, invoke, builtin, Sem.run_bind, Sem.run_pure, Result.andThen_ok, List.map_toArray, List.map_cons, List.map_nil, he, hrun]
      rw [hx]
      exact ⟨v', ok', rfl, hbel, hk, hn, repAV_dat hr⟩
     ·cases h
    ·cases h
   split at h
   ·rename_i e hpr
    unfold appPre at h
    split at h
    ·rename_i el d y ys hso hd hel
     split at h
     ·rename_i hcond
      rw [Bool.and_eq_true, beq_iff_eq, beq_iff_eq] at hcond
      cases h
      have hcs := appOf_spec happ
      have rx := (opd_rep R t x).d1 hcond.1
      rw [hcond.2] at rx
      have hb : Room P t ((elemsD e.d).length + (elemsD (opd P st t x).d).length) := room_of (env := env) (dst := o.dst) (by
       simpa only [chkOp, hop, hnn, happ, hpr] using hc)
      obtain ⟨v', w', b, hrun, hv', R'⟩ := append_pre R hso hpr rx (by rw [hel]; simp) hb o.type
      rw [hel] at hv' R'
      unfold Oper.wp
      have hx : (execOp a.eval o).run P w = .ok (.value v') w' := by
       unfold execOp
       have he : a.eval (.tmp s) = a.tmps.getD s undef := rfl
       simp only [hop, hcs, resolve, invoke, builtin, Sem.run_bind, Sem.run_pure, Result.andThen_ok, List.map_toArray, List.map_cons, List.map_nil, he, hrun]
      rw [hx]
      refine ⟨ok, fun i => if i = (st.get s).id then b else β i, ?_⟩
      rw [hd]
      refine R'.put ⟨by simp [bxp], fun _ f hf hr => ?_, fun _ f hf hr => ⟨fun _ _ => ?_, by simp [bxp]⟩, by simp [bxp], by simp [bxp], by simp [bxp], by simp [bxp], by simp [bxp], by simp [bxp], by simp [bxp], by simp [bxp]⟩ (hlptr t (by rw [renew_bx, if_pos rfl])) (some d)
      ·rw [renew_bx] at hf
       simp only [bxp, if_true, Option.some.injEq] at hf
       subst hf
       exfalso
       have hne := (preOf_spec hpr).2.2.2.2
       simp only at hr
       split at hr
       ·cases hr
       ·split at hr
        ·cases hr
        ·exact hne hr
      ·rw [renew_bx] at hf
       simp only [bxp, if_true, Option.some.injEq] at hf ⊢
       subst hf
       exact hv'
     ·cases h
    ·cases h
   rename_i hpr
   unfold appRow at h
   split at h
   ·rename_i el d hso hd hro
    split at h
    ·rename_i hcond
     simp only [Bool.and_eq_true, beq_iff_eq] at hcond
     obtain ⟨⟨⟨⟨ts, is⟩, es⟩, tx⟩, ex⟩ := hcond
     have hcs := appOf_spec happ
     have rx := (opd_rep R t x).d1 tx
     rw [ex] at rx
     have rs := (R.slot s).d1 ts
     rw [es] at rs
     have hb : Room P t ((elemsD (st.get s).d).length + (elemsD (opd P st t x).d).length) := room_of (env := env) (dst := o.dst) (by
      have hq := hc
      simp only [chkOp, hop, hnn, happ, hpr, hro, Bool.and_eq_true] at hq
      exact hq.2)
     split at h
     ·split at h
      ·cases h
      ·rename_i y0 l0 hne
       split at h
       ·rename_i hfr
        rw [Bool.and_eq_true, decide_eq_true_eq] at hfr
        cases h
        have hfr' : st.bx d = none := by simpa using hfr.1
        obtain ⟨g, cap', w1, hrun, hbel, hg1, hg2, hrow⟩ := append_grow R hso rs rx ((R.slot s).dF ts is) (by rw [hne]; simp) hb o.type
        unfold Oper.wp
        have hx : (execOp a.eval o).run P w = .ok (.value (.slice (some ⟨g, 0, none⟩) (elemsD (st.get s).d ++ elemsD (opd P st t x).d).length cap')) w1 := by
         unfold execOp
         have he : a.eval (.tmp s) = a.tmps.getD s undef := rfl
         simp only [hop, hcs, resolve, invoke, builtin, Sem.run_bind, Sem.run_pure, Result.andThen_ok, List.map_toArray, List.map_cons, List.map_nil, he, hrun]
        rw [hx]
        have R' := R.newRow0 (d := d) (e' := ⟨t, .slice (elemsD (st.get s).d ++ elemsD (opd P st t x).d) [], 2, none⟩) (b := (g, cap')) hfr' (by simp) rfl (by simp) (by simp) hbel (fun _ => ⟨hg2, hg1⟩) (fun _ => hrow 2)
        refine ⟨ok, fun i => if i = d then (g, cap') else β i, ?_⟩
        rw [hd]
        have hrn := rep_new (P := P) (w2 := w1) (ok2 := ok) (s2 := st.upd d ⟨t, .slice (elemsD (st.get s).d ++ elemsD (opd P st t x).d) [], 2, none⟩) (β2 := fun i => if i = d then (g, cap') else β i) (d := d) (t := t) (by rw [upd_bx, if_pos rfl]) (by simp)
        have hvv : hv (g, cap') ⟨t, .slice (elemsD (st.get s).d ++ elemsD (opd P st t x).d) [], 2, none⟩ = .slice (some ⟨g, 0, none⟩) (elemsD (st.get s).d ++ elemsD (opd P st t x).d).length cap' := by
         unfold hv Ent.live
         simp [elemsD]
        simp only [if_true] at hrn
        rw [hvv] at hrn
        exact R'.put hrn (hlptr t (by rw [upd_bx, if_pos rfl])) (some d)
       ·cases h
     cases h
     obtain ⟨v', w', ok', hrun, hbel, hk, hn, hr⟩ := append_full R hso rs rx ((R.slot s).dF ts is) hb o.type
     rw [<- hd]
     refine hgood (live_of_refs rfl) ?_
     unfold Oper.wp
     have hx : (execOp a.eval o).run P w = .ok (.value v') w' := by
      unfold execOp
      have he : a.eval (.tmp s) = a.tmps.getD s undef := rfl
      simp only [hop, hcs, resolve, invoke, builtin, Sem.run_bind, Sem.run_pure, Result.andThen_ok, List.map_toArray, List.map_cons, List.map_nil, he, hrun]
     rw [hx]
     exact ⟨v', ok', rfl, hbel, hk, hn, repAV_dat hr⟩
    ·cases h
   ·rename_i el d e hso hd hro
    split at h
    ·rename_i hcond
     rw [Bool.and_eq_true, beq_iff_eq, beq_iff_eq] at hcond
     cases h
     have hcs := appOf_spec happ
     have rx := (opd_rep R t x).d1 hcond.1
     rw [hcond.2] at rx
     have hb : Room P t ((elemsD e.d).length + (elemsD (opd P st t x).d).length) := room_of (env := env) (dst := o.dst) (by
      simpa only [chkOp, hop, hnn, happ, hpr, hro] using hc)
     obtain ⟨v', w', b, hrun, hv', R'⟩ := append_sound R hso hro rx hb o.type
     unfold Oper.wp
     have hx : (execOp a.eval o).run P w = .ok (.value v') w' := by
      unfold execOp
      have he : a.eval (.tmp s) = a.tmps.getD s undef := rfl
      simp only [hop, hcs, resolve, invoke, builtin, Sem.run_bind, Sem.run_pure, Result.andThen_ok, List.map_toArray, List.map_cons, List.map_nil, he, hrun]
     rw [hx]
     refine ⟨ok, fun i => if i = (st.get s).id then b else β i, ?_⟩
     rw [hd]
     refine R'.put ⟨by simp [bxp], fun _ f hf hr => ?_, fun _ f hf hr => ⟨fun _ _ => ?_, by simp [bxp]⟩, by simp [bxp], by simp [bxp], by simp [bxp], by simp [bxp], by simp [bxp], by simp [bxp], by simp [bxp], by simp [bxp]⟩ (hlptr t (by rw [renew_bx, if_pos rfl])) (some d)
     ·rw [renew_bx] at hf
      simp only [bxp, if_true, Option.some.injEq] at hf
      subst hf
      exfalso
      have hne := (rowOf_spec hro).2.2.2.2
      simp only at hr
      split at hr
      ·cases hr
      ·split at hr
       ·cases hr
       ·exact hne hr
     ·rw [renew_bx] at hf
      simp only [bxp, if_true, Option.some.injEq] at hf ⊢
      subst hf
      exact hv'
    ·cases h
   ·cases h
  ·rename_i happ
   split at h
   ·rename_i e hlr
    obtain ⟨v, hvi, rfl⟩ := Option.map_eq_some_iff.1 h
    unfold lenRow at hlr
    split at hlr
    ·rename_i s t hlo
     obtain ⟨h2, ⟨hix, htys⟩, he, hety, he0⟩ := rowOf_spec hlr
     have hval := ((R.slot s).d5 h2 e he he0).1 htys hix
     obtain ⟨el, hu, h1, hpos, ⟨es, hes⟩, hl5⟩ := R.hp.row _ e he he0
     rw [hety] at hu
     have hlen : (elemsD e.d).length <= maxLen := by
      cases hl : e.live with
      | true => obtain ⟨_, _, _, g2, g3, _⟩ := hl5 hl; omega
      | false =>
       unfold Ent.live at hl
       cases h : elemsD e.d with
       | nil => simp
       | cons y l => rw [h] at hl; simp at hl
     have hvl : ∃ y cap, a.tmps.getD s undef = .slice y (elemsD e.d).length cap := by
      rw [hval]
      unfold hv
      split
      ·exact ⟨_, _, rfl⟩
      ·rename_i hl
       unfold Ent.live at hl
       cases h : elemsD e.d with
       | nil => exact ⟨none, 0, rfl⟩
       | cons y l => rw [h] at hl; simp at hl
     obtain ⟨y, cap, hvl⟩ := hvl
     refine hgood (live_of_refs (intA_tag hvi)) (good_value (v := .int .i64 (elemsD e.d).length) ?_ (intA_spec hvi ?_ _))
     ·unfold execOp
      unfold lenOf at hlo
      split at hlo
      ·rename_i hb ha ht
       cases hlo
       have e1 : c.args = #[.tmp s] := by apply Array.ext'; rw [ha]
       have e2 : c.argTypes = #[t] := by apply Array.ext'; rw [ht]
       have he' : a.eval (.tmp s) = .slice y (elemsD e.d).length cap := hvl
       simp [hop, hb, e1, e2, resolve, invoke, builtin, Builtin.len_, run_underlying hu, he', goInt]
      ·cases hlo
     ·have : ((elemsD e.d).length : Int) <= 9223372036854775807 := by unfold maxLen at hlen; omega
      simp [Lit.wf, IntKind.min, IntKind.max, IntKind.signed, IntKind.bits]
      omega
    ·cases hlr
   ·split at h
    ·exact callH_sound henv R hop hnn happ hc h
    ·rename_i hnh
     have hnh : heapF P env st c = none := by simpa using hnh
     split at h
     ·rename_i i hro
      exact roCall_sound henv R hop hnn happ hnh hro hc h
     ·rename_i hro
      split at h
      ·exact freshCall_sound henv R hop hnn happ hnh hro hc h
      ·rename_i hfr
       split at h
       ·exact bornCall_sound henv R hop hnn happ hnh hro (by simpa using hfr) hc h
       rename_i hbf
       obtain ⟨v, hv, rfl⟩ := Option.map_eq_some_iff.1 h
       refine hgood (evVal_live R.nd hv) (evVal_sound henv R hc (fun c' hc' => ?_) hv)
       rw [hop] at hc'
       cases hc'
       exact ⟨hnh, hro, by simpa using hfr, by simpa using hbf⟩
 ·rename_i t x i hop
  split at h
  ·rename_i e hrx
   split at h
   ·rename_i el hso
    split at h
    ·rename_i hk
     cases h
     obtain ⟨hu, h1, hpos, ii, _, hii, _⟩ := sliceOf_spec hso
     unfold rowX at hrx
     split at hrx
     ·rename_i s
      obtain ⟨h2, ⟨hix, htys⟩, he, hety, he0⟩ := rowOf_spec hrx
      have hval := ((R.slot s).d5 h2 e he he0).1 htys hix
      obtain ⟨k, hk⟩ := Option.isSome_iff_exists.1 hk
      obtain ⟨t2, u2⟩ := kindOf_spec hk
      obtain ⟨z, d2, v2, _⟩ := ((opd_rep R P.rt.int i).d1 t2).int u2
      have hrx' : rowX st (.tmp s) t = some e := hrx
      simp only [chkOp, hop, hrx', Bool.and_eq_true, decide_eq_true_eq] at hc
      rw [d2] at hc
      simp only [intD] at hc
      obtain ⟨hz, hlt⟩ := hc
      have hltn : z.toNat < (elemsD e.d).length := by omega
      have hue : P.underlying e.ty = some (.slice el) := by rw [hety]; exact hu
      obtain ⟨hl, _, cur, n, hcs, hfit, _⟩ := elem_rep R he he0 hue hltn
      have hv' : a.tmps.getD s undef = .slice (some ⟨(β (st.get s).id).1, 0, none⟩) (elemsD e.d).length (β (st.get s).id).2 := by rw [hval]; unfold hv; rw [hl]; rfl
      refine hgood (fun j hj => by
       rw [refs_2 rfl] at hj
       obtain rfl : j = (st.get s).id := by simpa [elp, opd] using hj
       rw [he]; rfl) (good_value (v := .pointer (some ⟨(β (st.get s).id).1, z.toNat * P.cellsOf el, none⟩)) ?_ ⟨by simp [elp], fun _ f hf h0 => ?_, fun _ f hf h0 => ⟨by simp [elp], fun _ => ?_, by simp [elp]⟩, by simp [elp], by simp [elp], by simp [elp], by simp [elp], by simp [elp], by simp [elp], by simp [elp], by simp [elp]⟩)
      ·unfold execOp
       have he' : a.eval (.tmp s) = .slice (some ⟨(β (st.get s).id).1, 0, none⟩) (elemsD e.d).length (β (st.get s).id).2 := hv'
       have hadd : (⟨(β (st.get s).id).1, 0, none⟩ : Addr).add (z.toNat * P.cellsOf el) = ⟨(β (st.get s).id).1, z.toNat * P.cellsOf el, none⟩ := by unfold Addr.add; split <;> simp_all
       simp [hop, Instr.indexAt, v2, asIntOf, run_underlying hu, he', hz, hlt, run_sizeOf w hii, hadd]
      ·have hf' : st.bx (st.get s).id = some f := hf
       rw [he] at hf'
       cases hf'
       exact absurd h0 he0
      ·have hf' : st.bx (st.get s).id = some f := hf
       rw [he] at hf'
       cases hf'
       refine ⟨el, z.toNat, hue, hltn, ?_, by simp [elp, opd], fun _ => ⟨rfl, rfl⟩, fun k hk => by simp [elp] at hk⟩
       simp only [elp, intD]
       rw [d2]
       simp only [intD]
       omega
     ·cases hrx
    ·cases h
   ·cases h
  ·rename_i hrx
   split at h
   ·rename_i m el hu
    split at h
    ·rename_i hcond
     simp only [Bool.and_eq_true, beq_iff_eq, List.isEmpty_iff, decide_eq_true_eq] at hcond
     obtain ⟨⟨⟨⟨⟨⟨c1, c2⟩, c3⟩, c4⟩, c5⟩, c6⟩, c7⟩ := hcond
     cases h
     obtain ⟨e, he, he0⟩ : ∃ e, st.bx (opd0 P st o x).id = some e /\ e.row = 0 := by
      unfold isBoxB at c5
      split at c5
      ·rename_i e he; exact ⟨e, he, by simpa using c5⟩
      ·cases c5
     obtain ⟨hv, h0, _⟩ := (opd_rep R o.type x).d2 c1 e he he0
     obtain ⟨hoff, hty⟩ := h0 c3 c2
     have hety : e.ty = t := by rw [hty]; exact c4
     have hv' : a.eval x = .pointer (some ⟨(β (opd0 P st o x).id).1, 0, none⟩) := by rw [hv]; rw [show (opd P st o.type x).off = 0 from hoff]; rfl
     obtain ⟨k, z, d2, v2⟩ := asInt_opt R c6
     simp only [chkOp, hop, hrx, Bool.and_eq_true, decide_eq_true_eq, idxLen, hu, d2, intD] at hc
     obtain ⟨hz, hlt⟩ := hc
     have hie : ∃ ie, P.info? el = some ie := by
      unfold Program.cellsOf at c7
      cases hie : P.info? el with
      | none => rw [hie] at c7; simp at c7
      | some ie => exact ⟨ie, rfl⟩
     obtain ⟨ie, hie⟩ := hie
     refine hgood (fun j hj => by
      rw [refs_2 rfl] at hj
      obtain rfl : j = (opd0 P st o x).id := by simpa [arp] using hj
      rw [he]; rfl) (good_value (v := .pointer (some ⟨(β (opd0 P st o x).id).1, z.toNat * P.cellsOf el, none⟩)) ?_ ⟨by simp [arp], fun _ f hf h0 => ?_, fun _ f hf h0 => ?_, by simp [arp], by simp [arp], by simp [arp], by simp [arp], by simp [arp], by simp [arp], by simp [arp], by simp [arp]⟩)
     ·unfold execOp
      have hadd : (⟨(β (opd0 P st o x).id).1, 0, none⟩ : Addr).add (z.toNat * P.cellsOf el) = ⟨(β (opd0 P st o x).id).1, z.toNat * P.cellsOf el, none⟩ := by unfold Addr.add; split <;> simp_all
      simp [hop, Instr.indexAt, v2, asIntOf, run_underlying hu, hv', Instr.sureAddr, hz, hlt, run_sizeOf w hie, hadd]
     ·have hf' : st.bx (opd0 P st o x).id = some f := hf
      rw [he] at hf'
      cases hf'
      rw [d2]
      simp only [arp, intD]
      exact ⟨by trivial, by simp, by simp, fun _ _ => ⟨m, el, z.toNat, by rw [hety]; exact hu, by omega, by omega, rfl, rfl, c7⟩⟩
     ·have hf' : st.bx (opd0 P st o x).id = some f := hf
      rw [he] at hf'
      cases hf'
      exact absurd he0 h0
    ·obtain ⟨v, hv, rfl⟩ := Option.map_eq_some_iff.1 h
     exact hgood (evVal_live R.nd hv) (evVal_sound henv R hc (fun c hc => by rw [hop] at hc; cases hc) hv)
   ·obtain ⟨v, hv, rfl⟩ := Option.map_eq_some_iff.1 h
    exact hgood (evVal_live R.nd hv) (evVal_sound henv R hc (fun c hc => by simp_all) hv)
 ·rename_i t len parts hop
  split at h
  ·unfold rowLit at h
   split at h
   ·rename_i d el hd hso
    split at h
    ·rename_i hcond
     simp only [Bool.and_eq_true, decide_eq_true_eq, bne_iff_ne] at hcond
     obtain ⟨⟨⟨hfr, hlt⟩, hlen⟩, hsm⟩ := hcond
     split at h
     ·rename_i z hz
      obtain ⟨dd, hdd, rfl⟩ := Option.map_eq_some_iff.1 h
      have hfr' : st.bx d = none := by simpa using hfr
      obtain ⟨hu, h1, hpos, ii, z0, hii, hzz, hsize, hzs, hbytes⟩ := sliceOf_spec hso
      obtain ⟨i2, v, n0, hi2, hzv, hsz, hrep⟩ := zeroOf_spec hz
      have hcs : P.cellsOf el = i2.size := by simp [Program.cellsOf, hi2]
      obtain ⟨cells', hfill, hr⟩ := fill_row R parts.toList _ _ dd (zero_row (len := len) hsz hpos (hrep w ok)) hdd
      have hrun := run_buildSlice (P := P) w t el len (parts.map fun (i, x) => (i, a.eval x)) cells' i2 v hu hi2 hzv (by rw [<- hcs]; omega)
       (by rw [<- hcs]; exact Nat.pos_iff_ne_zero.1 (Nat.mul_pos (Nat.pos_of_ne_zero hlen) hpos)) (by rw [<- hcs, <- hfill]; congr 1; simp)
      have hx : (execOp a.eval o).run P w = .ok (.value (.slice (some ⟨w.heap.size, 0, none⟩) len len)) (w.alloc (.cells cells' el)) := by
       unfold execOp
       simp only [hop, Sem.run_bind, hrun, Result.andThen_ok, Sem.run_pure]
      unfold Oper.wp
      rw [hx]
      have hb : Below w.heap.size w (w.alloc (.cells cells' el)) := (Below.refl _ _).alloc (Nat.le_refl _) _
      have hsz' : (w.alloc (.cells cells' el)).heap.size = w.heap.size + 1 := by simp
      obtain ⟨q1, q2, q3⟩ := hr
      obtain ⟨M, hM⟩ := one_fuel (cells := cells'.toList) (d := dd) (len := len) q3
      have hel : (elemsD (.slice (partsD dd) [] : D)).length = len := q2
      have hlm : len <= maxLen := by
       have : len * 1 <= len * P.cellsOf el := Nat.mul_le_mul_left _ hpos
       unfold maxLen
       omega
      have R' := R.newRow0 (d := d) (e' := ⟨t, .slice (partsD dd) [], 2, none⟩) (b := (w.heap.size, len)) hfr' (by simp) rfl (by simp) (by simp) hb (fun _ => ⟨by rw [hsz']; exact Nat.lt_succ_self _, Nat.le_refl _⟩) (fun hsm => by
       refine ⟨el, hu, h1, hpos, ⟨_, rfl⟩, fun _ => ⟨cells', M, alloc_new w _, by rw [hel]; exact Nat.le_refl _, hlm, q1, fun q yy hq => ?_⟩⟩
       have hq' : (partsD dd)[q]? = some yy := hq
       have hqlt : q < len := by rw [<- q2]; exact (List.getElem?_eq_some_iff.1 hq').1
       have hfd : fieldD dd q = yy := by simp [fieldD, List.getD, hq']
       rw [<- hfd]
       exact (hM q hqlt).move hsm (fun b hb => hb))
      refine ⟨ok, fun i => if i = d then (w.heap.size, len) else β i, ?_⟩
      rw [hd]
      refine R'.put ⟨by simp [bxp], fun _ f hf hr => ?_, fun _ f hf hr => ⟨fun _ _ => ?_, by simp [bxp]⟩, by simp [bxp], by simp [bxp], by simp [bxp], by simp [bxp], by simp [bxp], by simp [bxp], by simp [bxp], by simp [bxp]⟩ (hlptr t (by rw [upd_bx, if_pos rfl])) (some d)
      ·rw [upd_bx] at hf
       simp only [bxp, if_true, Option.some.injEq] at hf
       subst hf
       cases hr
      ·rw [upd_bx] at hf
       simp only [bxp, if_true, Option.some.injEq] at hf
       subst hf
       unfold hv
       have : Ent.live ⟨t, .slice (partsD dd) [], 2, none⟩ = true := rfl
       rw [this]
       simp [elemsD, bxp, q2]
     ·cases h
    ·cases h
   ·cases h
  ·obtain ⟨v, hv, rfl⟩ := Option.map_eq_some_iff.1 h
   exact hgood (evVal_live R.nd hv) (evVal_sound henv R hc (fun c hc => by rw [hop] at hc; cases hc) hv)
 ·rename_i t x lo hi mx hop
  split at h
  ·rename_i e hrx
   split at h
   ·rename_i hcond
    simp only [Bool.and_eq_true, Option.isNone_iff_eq_none] at hcond
    obtain ⟨⟨⟨⟨⟨_, rfl⟩, rfl⟩, hin⟩, his⟩, hsl⟩ := hcond
    cases h
    obtain ⟨y, rfl⟩ := Option.isSome_iff_exists.1 his
    obtain ⟨el, hso⟩ := Option.isSome_iff_exists.1 hsl
    obtain ⟨hu, h1, hpos, ii, _, hii, _⟩ := sliceOf_spec hso
    have hrx' := hrx
    unfold rowX at hrx
    split at hrx
    ·rename_i s
     obtain ⟨h2, ⟨hix, htys⟩, he, hety, he0⟩ := rowOf_spec hrx
     have hval := ((R.slot s).d5 h2 e he he0).1 htys hix
     obtain ⟨k, z, d2, v2⟩ := asInt_opt R hin
     simp only [chkOp, hop, hrx', Bool.and_eq_true, decide_eq_true_eq, hiOf, d2, intD] at hc
     obtain ⟨hz, hlt⟩ := hc
     obtain ⟨n, rfl⟩ : ∃ n : Nat, z = (n : Int) := ⟨z.toNat, by omega⟩
     have hltn : n < (elemsD e.d).length := by omega
     have hl := live_of_lt hltn
     obtain ⟨_, _, _, _, _, hl5⟩ := R.hp.row _ e he he0
     obtain ⟨_, _, _, q2, _⟩ := hl5 hl
     have he' : a.eval (.tmp s) = .slice (some ⟨(β (st.get s).id).1, 0, none⟩) (elemsD e.d).length (β (st.get s).id).2 := by show a.tmps.getD s undef = _; rw [hval]; unfold hv; rw [hl]; rfl
     refine hgood (fun j hj => by
      rw [refs_2 rfl] at hj
      obtain rfl : j = (st.get s).id := by simpa [prf, opd] using hj
      rw [he]; rfl) (good_value (v := .slice (some ⟨(β (st.get s).id).1, 0, none⟩) n (β (st.get s).id).2) ?_ ⟨by simp [prf], fun _ f hf h0 => ?_, fun _ f hf h0 => ⟨by simp [prf], by simp [prf], fun _ _ => ?_⟩, by simp [prf], by simp [prf], by simp [prf], by simp [prf], by simp [prf], by simp [prf], by simp [prf], by simp [prf]⟩)
     ·have hcap : n <= (β (st.get s).id).2 := by omega
      have hadd : ∀ q : Addr, q.add 0 = q := fun q => by unfold Addr.add; simp
      have hbounds : (Instr.sliceBounds true (elemsD e.d).length (β (st.get s).id).2 none (some (.int k (n : Int))) none).run P w = .ok (0, n, (β (st.get s).id).2) w := by
       unfold Instr.sliceBounds
       simp [run_sliceBound hcap]
      have hrun : (Instr.sliceAt t (a.eval (.tmp s)) none (some (a.eval y)) none).run P w = .ok (.slice (some ⟨(β (st.get s).id).1, 0, none⟩) n (β (st.get s).id).2) w := by
       unfold Instr.sliceAt
       simp only [Sem.run_bind, run_underlying hu, Result.andThen_ok]
       unfold Instr.slice
       simp only [Sem.run_bind, run_underlying hu, Result.andThen_ok, he', v2, hbounds, run_sizeOf w hii, Sem.run_pure, Nat.zero_mul, Option.map_some, hadd, ite_self, Nat.sub_zero]
      unfold execOp
      simp only [hop, Option.map_none, Option.map_some, Sem.run_bind, hrun, Result.andThen_ok, Sem.run_pure]
     ·have hf' : st.bx (st.get s).id = some f := hf
      rw [he] at hf'
      cases hf'
      exact absurd h0 he0
     ·have hf' : st.bx (st.get s).id = some f := hf
      rw [he] at hf'
      cases hf'
      refine ⟨n, by simp only [prf, hiOf, d2, intD], hltn, ?_⟩
      unfold pre
      rw [hl]
      rfl
    ·cases hrx
   ·cases h
  ·obtain ⟨v, hv, rfl⟩ := Option.map_eq_some_iff.1 h
   exact hgood (evVal_live R.nd hv) (evVal_sound henv R hc (fun c hc => by rw [hop] at hc; cases hc) hv)
 ·rename_i t x hop
  unfold rangeIt at h
  split at h
  ·rename_i d hd hu
   split at h
   ·rename_i hcond
    simp only [Bool.and_eq_true, beq_iff_eq, decide_eq_true_eq, Option.isNone_iff_eq_none] at hcond
    obtain ⟨⟨⟨⟨q1, q2⟩, q3⟩, q4⟩, q5⟩ := hcond
    cases h
    have rx := (opd_rep R t x).d1 q1
    rw [q2] at rx
    obtain ⟨es, hde, hve⟩ := rx.string hu
    have hx : (execOp a.eval o).run P w = .ok (.value (.pointer (some ⟨w.heap.size, 0, none⟩))) (w.alloc (.stringIter ⟨es.toArray⟩ 0)) := by
     unfold execOp
     simp only [hop, Instr.range, run_underlying hu, hve, newObj, Sem.run_bind, Result.andThen_ok, Sem.run_pure]
     rfl
    unfold Oper.wp
    rw [hx, hde]
    have R' := R.newIt (d := d) (t := ITY) (s := es) q3 (Nat.lt_trans q4 hR) q5 (rx.strLen hu hde)
    refine ⟨ok, fun i => if i = d then (w.heap.size, 0) else β i, ?_⟩
    rw [hd]
    exact R'.put (hptr (e := ⟨ITY, .nil, 0, some (itr es 0)⟩) (by rw [upd_bx, if_pos rfl]) rfl (by simp)) (hlptr ITY (by rw [upd_bx, if_pos rfl])) (some d)
   ·cases h
  ·cases h
 ·rename_i i hop
  split at h
  ·rename_i s p hit
   split at h
   ·rename_i hrt
    exact next_sound R hop hit hrt h
   ·cases h
  ·cases h
 ·cases h
 ·obtain ⟨v, hv, rfl⟩ := Option.map_eq_some_iff.1 h
  exact hgood (evVal_live R.nd hv) (evVal_sound henv R hc (fun c hc => by simp_all) hv)

end
end Go.Ev
