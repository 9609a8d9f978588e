/- Trees of functions, and lemmas. Nothing here is trusted. -/
import Derived.Test.YtngkmngbnlmgjaaZ11
namespace Go.Ev
open Go.RowKit
set_option linter.unusedVariables false
set_option linter.unusedSimpArgs false
section
section
variable {P : Program} {w w' : World} {ok ok' : Nat -> Prop} {β : Nat -> Nat × Nat} {ops : Array Oper}
variable {F : Fr P} {st st' s s' s1 s2 s12 : St} {a : Act} {env : Env} {o oi oj : Oper} {av : AV} {Q : Exit -> Act -> World -> Prop}

theorem constD_tag01 (P : Program) (t : TypeId) (v : Value) : (constD P t v).tag = 0 \/ (constD P t v).tag = 1 := by
 unfold constD
 split
 ·split
  ·split
   ·exact .inr rfl
   ·exact .inl rfl
  ·exact .inl rfl
 ·split
  ·exact .inr rfl
  ·split
   ·exact .inr rfl
   ·exact .inl rfl
  ·split
   ·exact .inr rfl
   ·exact .inl rfl
  ·exact .inr rfl
  ·exact .inr rfl
  ·exact .inl rfl
theorem kill_put {i : Nat} {d : Option Nat} {v : AV} (hv : ∀ j ∈ refs v, j ≠ i) : (st.put d v).kill i = (st.kill i).put d v := by
 have hk : killL [i] v = v := by
  unfold killL
  have : (refs v).any [i].contains = false := by
   rw [<- Bool.not_eq_true, List.any_eq_true]
   rintro ⟨j, hj, hh⟩
   simp only [List.contains_iff_mem, List.mem_singleton] at hh
   exact hv j hj hh
  rw [this]
  rfl
 cases d with
 | none => rfl
 | some d =>
  show (⟨(st.sl.set d v).map (killL [i]), _⟩ : St) = ⟨(st.sl.map (killL [i])).set d v, _⟩
  rw [List.map_set, hk]
  rfl
/-- What the address of a field is. -/
theorem evOp_fa {t : TypeId} {y : Operand} {k : Nat} (hop : o.op = .fieldAddr t y k) (h : evOp P env o st = some s') :
  ∃ v, s' = st.put o.dst v /\ (∀ j ∈ refs v, j ∈ refs (opd0 P st o y)) /\ ((opd0 P st o y).tag = 2 \/ (opd0 P st o y).tag = 3) /\
   ∀ s2 : St, opd0 P s2 o y = opd0 P st o y -> ((opd0 P st o y).tag = 2 -> (s2.bx (opd0 P st o y).id).map (·.row) = (st.bx (opd0 P st o y).id).map (·.row)) -> evOp P env o s2 = some (s2.put o.dst v) := by
 unfold evOp at h
 simp only [hop] at h
 have hbox : ∀ {s2 : St} {i : Nat}, (s2.bx i).map (·.row) = (st.bx i).map (·.row) -> isBoxB s2 i = isBoxB st i /\ isRowB s2 i = isRowB st i := by
  intro s2 i hh
  unfold isBoxB isRowB
  cases h1 : s2.bx i <;> cases h2 : st.bx i <;> rw [h1, h2] at hh <;> simp_all
 split at h
 ·rename_i f hf
  split at h
  ·rename_i hc
   have hc' := hc
   simp only [Bool.and_eq_true, beq_iff_eq] at hc
   cases h
   refine ⟨_, rfl, fun j hj => ?_, .inl hc.1.1.1.1, fun s2 h2 h3 => ?_⟩
   ·rw [refs_2 rfl] at hj
    rw [refs_2 hc.1.1.1.1]
    simpa [fdp] using hj
   ·unfold evOp
    simp only [hop, hf, h2, (hbox (h3 hc.1.1.1.1)).1, hc', if_true]
  ·rename_i hn1
   split at h
   ·rename_i hc
    have hc' := hc
    simp only [Bool.and_eq_true, beq_iff_eq] at hc
    cases h
    refine ⟨_, rfl, fun j hj => ?_, .inr hc.1, fun s2 h2 h3 => ?_⟩
    ·have : refs (refp f.type (fieldD (opd0 P st o y).d k)) = [] := rfl
     rw [this] at hj
     cases hj
    ·unfold evOp
     have ht : ((opd0 P st o y).tag == 2) = false := by rw [hc.1]; rfl
     simp only [hop, hf, h2, ht, Bool.false_and, Bool.false_eq_true, if_false, hc', if_true]
   ·rename_i hn2
    split at h
    ·rename_i hc
     have hc' := hc
     simp only [Bool.and_eq_true, beq_iff_eq] at hc
     cases h
     have htag := hc.1.1.1.1
     refine ⟨_, rfl, fun j hj => ?_, .inl htag, fun s2 h2 h3 => ?_⟩
     ·rw [refs_2 rfl] at hj
      rw [refs_2 htag]
      simpa [elf] using hj
     ·unfold evOp
      simp only [hop, hf, h2, (hbox (h3 htag)).1, (hbox (h3 htag)).2, hn1, hn2, hc', Bool.false_eq_true, if_false, if_true]
    ·cases h
 ·cases h
def killO (k : Option Nat) (st : St) : St := match k with | none => st | some i => st.kill i
def kA (k : Option Nat) (v : AV) : AV := match k with | none => v | some i => killL [i] v
theorem kput {i : Nat} {d : Option Nat} {v : AV} : (st.put d v).kill i = (st.kill i).put d (killL [i] v) := by
 cases d with
 | none => rfl
 | some d =>
  show (⟨(st.sl.set d v).map (killL [i]), _⟩ : St) = ⟨(st.sl.map (killL [i])).set d (killL [i] v), _⟩
  rw [List.map_set]
  rfl
theorem killO_put {k : Option Nat} {d : Option Nat} {v : AV} : killO k (st.put d v) = (killO k st).put d (kA k v) := by
 cases k with
 | none => rfl
 | some i => exact kput
theorem kA_same {k : Option Nat} {v : AV} (h : ∀ j ∈ refs v, k ≠ some j) : kA k v = v := by
 cases k with
 | none => rfl
 | some i =>
  show killL [i] v = v
  unfold killL
  have : (refs v).any [i].contains = false := by
   rw [<- Bool.not_eq_true, List.any_eq_true]
   rintro ⟨j, hj, hh⟩
   simp only [List.contains_iff_mem, List.mem_singleton] at hh
   exact h j hj (by rw [hh])
  rw [this]
  rfl
theorem mapC_id0 (e : Ent) : Ent.mapC (kA none) e = e := by
 unfold Ent.mapC
 cases e with
 | mk a b c d => cases d <;> rfl
theorem killO_bx {k : Option Nat} {j : Nat} (h : k ≠ some j) : (killO k st).bx j = (st.bx j).map (Ent.mapC (kA k)) := by
 cases k with
 | none =>
  show st.bx j = _
  cases st.bx j with
  | none => rfl
  | some e => rw [Option.map_some, mapC_id0]
 | some i =>
  show (st.kill i).bx j = _
  rw [killB_bx, if_neg (fun hh => h (by rw [hh]))]
  rfl
theorem killO_upd {k : Option Nat} {d : Nat} {e : Ent} (h : k ≠ some d) (he : e.c = none) : killO k (st.upd d e) = (killO k st).upd d e := by
 cases k with
 | none => rfl
 | some i =>
  have hne : d ≠ i := fun hh => h (by rw [hh])
  show (⟨st.sl.map (killL [i]), fun j => if j = i then none else ((if j = d then some e else st.bx j)).map (Ent.mapC (killL [i]))⟩ : St) = ⟨st.sl.map (killL [i]), fun j => if j = d then some e else if j = i then none else (st.bx j).map (Ent.mapC (killL [i]))⟩
  congr 1
  funext j
  by_cases hj : j = d
  ·subst hj
   rw [if_neg hne, if_pos rfl, if_pos rfl, Option.map_some]
   unfold Ent.mapC
   rw [he]
   cases e
   simp_all
  ·rw [if_neg hj, if_neg hj]
theorem kA_tag7 {k : Option Nat} {v : AV} : ((kA k v).tag == 7) = (v.tag == 7) := by
 cases k with
 | none => rfl
 | some i =>
  show ((killL [i] v).tag == 7) = _
  unfold killL
  split
  ·unfold dz
   split
   ·rename_i h; exact h.symm ▸ h
   ·rename_i h; simp at h; split <;> simp [dead, h]
  ·rfl
theorem kA_tag8 {k : Option Nat} {v : AV} : ((kA k v).tag == 8) = (v.tag == 8) := by
 cases k with
 | none => rfl
 | some i =>
  show ((killL [i] v).tag == 8) = _
  unfold killL
  split
  ·unfold dz
   split
   ·rfl
   ·split
    ·rfl
    ·rename_i h8
     have : v.tag ≠ 8 := by simpa using h8
     simp [dead, this]
  ·rfl
theorem boxC_killO {k : Option Nat} {t : TypeId} {x : AV} (h : x.tag = 2 -> k ≠ some x.id) : boxC (killO k st) t x = (boxC st t x).map (kA k) := by
 unfold boxC
 split
 ·rename_i hx
  simp only [Bool.and_eq_true, beq_iff_eq] at hx
  rw [killO_bx (h hx.1.1)]
  cases st.bx x.id with
  | none => rfl
  | some e =>
   simp only [Option.map_some]
   have e1 : (Ent.mapC (kA k) e).row = e.row := rfl
   have e2 : (Ent.mapC (kA k) e).c = e.c.map (kA k) := rfl
   rw [e1, e2]
   split
   ·cases e.c with
    | none => rfl
    | some v =>
     simp only [Option.map_some, kA_tag7, kA_tag8]
     split <;> rfl
   ·rfl
 ·rfl
theorem ldA_killO {k : Option Nat} {t : TypeId} {x : AV} (h : x.tag = 2 -> k ≠ some x.id) : ldA P (killO k st) t x = ldA P st t x := by
 unfold ldA
 split
 ·rename_i hx
  rw [killO_bx (h hx)]
  cases st.bx x.id with
  | none => rfl
  | some e =>
   simp only [Option.map_some]
   have e1 : (Ent.mapC (kA k) e).row = e.row := rfl
   have e2 : (Ent.mapC (kA k) e).c.isSome = e.c.isSome := by
    show (e.c.map (kA k)).isSome = _
    cases e.c <;> rfl
   have e3 : (Ent.mapC (kA k) e).ty = e.ty := rfl
   have e4 : (Ent.mapC (kA k) e).d = e.d := rfl
   have e5 : ldE P (Ent.mapC (kA k) e) t x = ldE P e t x := rfl
   rw [e1, e2, e3, e4, e5]
 ·rfl
theorem boxL_no {t : TypeId} {x : AV} : boxL false st t x = boxC st t x := by unfold boxL; cases boxC st t x <;> rfl
theorem ldV_killO {k : Option Nat} {t : TypeId} {x : AV} (h : x.tag = 2 -> k ≠ some x.id) : ldV P false (killO k st) t x = (ldV P false st t x).map (kA k) := by
 unfold ldV
 rw [boxL_no, boxL_no, boxC_killO h, ldA_killO h]
 cases boxC st t x with
 | some v => rfl
 | none =>
  simp only [Option.map_none, Option.map_map]
  congr 1
  funext z
  exact (kA_same (v := dat t z) (fun j hj => by cases hj)).symm
theorem ldV_tag {t : TypeId} {x v : AV} (h : ldV P false st t x = some v) : x.tag = 2 \/ x.tag = 3 := by
 unfold ldV at h
 rw [boxL_no] at h
 unfold boxC ldA at h
 by_cases h2 : x.tag = 2
 ·exact .inl h2
 ·by_cases h3 : x.tag = 3
  ·exact .inr h3
  ·have hb : (x.tag == 2) = false := by simpa using h2
   simp [hb, h2, h3] at h
/-- What an append of which only data is asked comes to. -/
theorem app_form (hi : isAppD env oi = true) (hk : chkOp P env st oi = true) (h : evOp P env oi st = some s1) :
  ∃ (k : Option Nat) (d : Nat) (A : AV), oi.dst = some d /\ refs A = [] /\ s1 = (killO k st).put (some d) A /\ (∀ i, k = some i -> Operand.tmp i ∈ oi.op.operands.toList) /\
   ∀ s2 : St, Same oi s2 st -> (∀ i, k = some i -> s2.bx i = st.bx i) -> chkOp P env s2 oi = true /\ evOp P env oi s2 = some ((killO k s2).put (some d) A) := by
 unfold isAppD at hi
 split at hi
 rotate_left
 ·cases hi
 rename_i c hoi
 simp only [Bool.and_eq_true, Option.isNone_iff_eq_none, Option.isSome_iff_exists] at hi
 obtain ⟨⟨hnn, ⟨⟨q, x, t⟩, happ⟩⟩, hda⟩ := hi
 have hcs := appOf_spec happ
 have hargs : c.args.toList = [.tmp q, x] := by rw [hcs]
 have hmq : Operand.tmp q ∈ oi.op.operands.toList := by rw [hoi]; simp only [Op.operands, Call.operands, Array.toList_append, List.mem_append]; right; rw [hargs]; simp
 have hmx : x ∈ oi.op.operands.toList := by rw [hoi]; simp only [Op.operands, Call.operands, Array.toList_append, List.mem_append]; right; rw [hargs]; simp
 unfold evOp at h
 simp only [hoi, hnn, happ, hda, if_true] at h
 unfold appData at h
 split at h
 ·rename_i el d e hso hd hro
  split at h
  ·rename_i hcond
   cases h
   have hid : (st.get q).id = q := by simp only [Bool.and_eq_true, beq_iff_eq] at hcond; exact hcond.2
   refine ⟨some q, d, _, hd, rfl, by rw [hid]; rfl, fun i hi => by cases hi; exact hmq, fun s2 hs hb => ?_⟩
   have hq : s2.get q = st.get q := hs q hmq
   have hx : opd P s2 t x = opd P st t x := opd_same hs hmx t
   have hr : rowOf s2 q t = rowOf st q t := by unfold rowOf; rw [hq, hid, hb q rfl]
   refine ⟨?_, ?_⟩
   ·unfold chkOp at hk ⊢
    simp only [hoi, hnn, happ, preOf_row hro, preOf_row (hr.trans hro), hr, hro, hx] at hk ⊢
    exact hk
   ·unfold evOp
    simp only [hoi, hnn, happ, hda, if_true]
    unfold appData
    rw [hso, hd, hr, hro, hx, hq]
    simp only [hcond, if_true]
    rw [hid]
    rfl
  ·cases h
 ·rename_i el d hso hd hro
  split at h
  ·rename_i hcond
   cases h
   have hc2 := hcond
   simp only [Bool.and_eq_true, beq_iff_eq] at hc2
   refine ⟨none, d, dat t (.slice (elemsD (st.get q).d ++ elemsD (opd P st t x).d) []), hd, rfl, rfl, fun i hi => (by cases hi), fun s2 hs _ => ?_⟩
   have hq : s2.get q = st.get q := hs q hmq
   have hx : opd P s2 t x = opd P st t x := opd_same hs hmx t
   have hr : rowOf s2 q t = none := by unfold rowOf; rw [hq, hc2.1.1.1.1]; rfl
   refine ⟨?_, ?_⟩
   ·unfold chkOp at hk ⊢
    simp only [hoi, hnn, happ, preOf_dat hc2.1.1.1.1, preOf_dat (st := s2) (s := q) (by rw [hq]; exact hc2.1.1.1.1), hr, hro, hx, hq] at hk ⊢
    exact hk
   ·unfold evOp
    simp only [hoi, hnn, happ, hda, if_true]
    unfold appData
    rw [hso, hd, hr, hx, hq]
    simp only [hcond, if_true]
    rfl
  ·cases h
 ·cases h
theorem opd_killO {k : Option Nat} {d : Nat} {A : AV} {y : Operand} (hd : ∀ i, y = .tmp i -> i ≠ d) (ht : (opd0 P ((killO k st).put (some d) A) oj y).tag = 2 \/ (opd0 P ((killO k st).put (some d) A) oj y).tag = 3) :
  opd0 P ((killO k st).put (some d) A) oj y = opd0 P st oj y /\ ∀ j ∈ refs (opd0 P st oj y), k ≠ some j := by
 cases y with
 | tmp i =>
  have hg' : opd0 P ((killO k st).put (some d) A) oj (.tmp i) = (killO k st).get i := get_put_ne (fun hh => hd i rfl (Option.some.inj hh).symm)
  cases k with
  | none =>
   refine ⟨hg', fun j _ hh => by cases hh⟩
  | some q =>
   have hg : (killO (some q) st).get i = killL [q] (st.get i) := killB_get q i
   rw [hg] at hg'
   rw [hg'] at ht ⊢
   rcases killL_cases [q] (st.get i) with hk | ⟨hk, hne2⟩
   ·exfalso
    rw [hk] at ht
    unfold dz at ht
    split at ht
    ·rename_i h7
     have h7 : (st.get i).tag = 7 := by simpa using h7
     rcases ht with h | h <;> · simp only [h7] at h; cases h
    ·split at ht
     ·rename_i h8
      have h8 : (st.get i).tag = 8 := by simpa using h8
      rcases ht with h | h <;> omega
     ·rcases ht with h | h <;> cases h
   ·rw [hk]
    refine ⟨rfl, fun j hj hh => hne2 j hj ?_⟩
    cases hh
    simp
 | const u =>
  exfalso
  have ht' : (opd0 P ((killO k st).put (some d) A) oj (.const u)).tag = 0 \/ (opd0 P ((killO k st).put (some d) A) oj (.const u)).tag = 1 := constD_tag01 P oj.type u
  omega
 | global g =>
  refine ⟨rfl, fun j hj => ?_⟩
  have : refs (opd0 P st oj (.global g)) = [] := rfl
  rw [this] at hj
  cases hj
 | func f =>
  refine ⟨rfl, fun j hj => ?_⟩
  have : refs (opd0 P st oj (.func f)) = [] := by
   have e : opd0 P st oj (.func f) = (match P.underlying oj.type with
     | some (.func _ _ _) => if P.cellsOf oj.type = 1 then dat oj.type (.held (.func (.func f) #[] #[])) else dead
     | _ => dead) := rfl
   rw [e]
   split
   ·split <;> rfl
   ·rfl
  rw [this] at hj
  cases hj
/-- What was done behind the append may be done ahead of it. -/
theorem soft_back (hpl : PlainE env) (hlv : env.lv = false) (hs : isFA oj.op = true) {k : Option Nat} {d : Nat} {A : AV} (hA : refs A = []) (hk : ∀ i, k = some i -> oj.dst ≠ some i) (hl : ∀ i, Operand.tmp i ∈ oj.op.operands.toList -> i ≠ d) (hd : oj.dst ≠ some d)
  (h : evOp P env oj ((killO k st).put (some d) A) = some s12) :
  ∃ s2, evOp P env oj st = some s2 /\ (∀ i, k = some i -> s2.bx i = st.bx i) /\ (∀ j, oj.dst ≠ some j -> s2.get j = st.get j) /\ s12 = (killO k s2).put (some d) A /\ ∀ s, chkOp P env s oj = true := by
 have hc : ∀ i, (some d : Option Nat) = some i -> oj.dst ≠ some i := fun i hi => by cases hi; exact hd
 have hc' : ∀ i, oj.dst = some i -> (some d : Option Nat) ≠ some i := fun i hi hh => by cases hh; exact hd hi
 unfold isFA at hs
 split at hs
 ·rename_i t' y n hoj
  obtain ⟨v, rfl, hv, htag, hre⟩ := evOp_fa hoj h
  obtain ⟨ho, hnr⟩ := opd_killO (fun i hi => hl i (by rw [hoj]; simp [Op.operands, hi])) htag
  rw [ho] at hv htag
  have ej : evOp P env oj st = some (st.put oj.dst v) := by
   refine hre st ho.symm fun h2 => ?_
   rw [ho] at h2 ⊢
   have hne : k ≠ some (opd0 P st oj y).id := hnr _ (by rw [refs_2 h2]; simp)
   rw [put_bx, killO_bx hne, Option.map_map]
   rfl
  refine ⟨_, ej, fun i _ => by rw [put_bx], fun j hj => get_put_ne hj, ?_, fun s => by unfold chkOp; rw [hoj]⟩
  rw [killO_put, kA_same (fun j hj => hnr j (hv j hj))]
  exact put_comm hc
 ·rename_i t' y hoj
  unfold evOp at h
  simp only [hoj, hpl.1, hlv, Bool.false_eq_true, if_false] at h
  obtain ⟨v1, hv1, rfl⟩ := Option.map_eq_some_iff.1 h
  have htag := ldV_tag hv1
  obtain ⟨ho, hnr⟩ := opd_killO (fun i hi => hl i (by rw [hoj]; simp [Op.operands, hi])) htag
  rw [ho, ldV_put, ldV_killO (fun h2 => hnr _ (by rw [refs_2 h2]; simp))] at hv1
  obtain ⟨v, hv, rfl⟩ := Option.map_eq_some_iff.1 hv1
  refine ⟨st.put oj.dst v, ?_, fun i _ => by rw [put_bx], fun j hj => get_put_ne hj, ?_, fun s => by unfold chkOp; rw [hoj]⟩
  ·unfold evOp
   simp only [hoj, hpl.1, hlv, Bool.false_eq_true, if_false]
   rw [hv]
   rfl
  ·rw [killO_put]
   exact put_comm hc
 ·rename_i t' hoj
  unfold evOp at h
  simp only [hoj, hpl.1, Bool.false_and, Bool.false_eq_true, if_false] at h
  split at h
  ·rename_i d' z hd' hz
   split at h
   ·rename_i hf
    cases h
    have hkd : k ≠ some d' := fun hh => hk d' hh hd'
    have hf' : ((st.bx d').isNone && decide (d' < RID)) = true := by
     rw [put_bx, killO_bx hkd, Option.isNone_map] at hf
     exact hf
    refine ⟨(st.upd d' ⟨t', z, 0, none⟩).put (some d') (bxp d' t'), ?_, fun i hi => ?_, fun j hj => ?_, ?_, fun s => by unfold chkOp; rw [hoj]⟩
    ·unfold evOp
     simp only [hoj, hpl.1, Bool.false_and, Bool.false_eq_true, if_false]
     rw [hd', hz]
     simp only [hf', if_true]
    ·rw [put_bx, upd_bx, if_neg (fun hh => hkd (by rw [hi, hh]))]
    ·rw [hd'] at hj
     rw [get_put_ne hj]
     rfl
    ·rw [killO_put, killO_upd hkd rfl, kA_same (v := bxp d' t') (fun j hj => by rw [refs_2 rfl] at hj; simp [bxp] at hj; rw [hj]; exact hkd), upd_put]
     exact put_comm (by rw [<- hd']; exact hc)
   ·cases h
  ·cases h
 ·cases hs
theorem diamond_app (hpl : PlainE env) (hlv : env.lv = false) (hc : appFld env ops oi oj = true) (h1 : opStep P env ops oi st = some s1) (h2 : opStep P env ops oj s1 = some s12) :
  ∃ s2, opStep P env ops oj st = some s2 /\ opStep P env ops oi s2 = some s12 := by
 unfold appFld at hc
 simp only [Bool.and_eq_true, Option.isNone_iff_eq_none] at hc
 obtain ⟨⟨⟨⟨hap, gi⟩, gj⟩, hi⟩, hj⟩ := hc
 obtain ⟨a1, a2, a3⟩ := Oper.apart_spec hap
 have ask : ∀ (o : Oper) (s : St), o.guard = none -> asked P ops o s = some true := fun o s hg => by unfold asked; rw [hg]
 have step : ∀ (o : Oper) (s s' : St), o.guard = none -> opStep P env ops o s = some s' -> chkOp P env s o = true /\ evOp P env o s = some s' := by
  intro o s s' hg h
  unfold opStep at h
  rw [ask o s hg] at h
  simp only at h
  split at h
  ·rename_i hk; exact ⟨hk, h⟩
  ·cases h
 have back : ∀ (o : Oper) (s s' : St), o.guard = none -> chkOp P env s o = true -> evOp P env o s = some s' -> opStep P env ops o s = some s' := by
  intro o s s' hg hk he
  unfold opStep
  rw [ask o s hg]
  simp only
  rw [if_pos hk]
  exact he
 obtain ⟨k1, e1⟩ := step oi st s1 gi h1
 obtain ⟨k2, e2⟩ := step oj s1 s12 gj h2
 obtain ⟨k, d, A, hd, hA, rfl, hko, hre⟩ := app_form hi k1 e1
 obtain ⟨s2, ej, hb, hg, hs, hck⟩ := soft_back hpl hlv hj hA (fun i hki hh => a3 i hh (looks_operand (hko i hki))) (fun i hi hh => a1 d hd (by rw [<- hh]; exact looks_operand hi)) (fun hh => a2 d hd hh) e2
 obtain ⟨c3, e3⟩ := hre s2 (fun i hi => hg i (fun hh => a3 i hh (looks_operand hi))) hb
 exact ⟨s2, back oj st s2 gj (hck st) ej, back oi s2 s12 gi c3 (by rw [e3, hs])⟩

/-- What an append to a row comes to. -/
theorem appR_form (hi : isAppR env oi = true) (hk : chkOp P env st oi = true) (h : evOp P env oi st = some s1) (hlv : env.lv = true) :
  ∃ (j d : Nat) (e' : Ent) (t : TypeId), oi.dst = some d /\ s1 = (st.renew j e').put (some d) (bxp j t) /\ (∃ r, st.bx j = some r /\ r.row ≠ 0) /\
   ∀ s2 : St, Same oi s2 st -> s2.bx j = st.bx j -> chkOp P env s2 oi = true /\ evOp P env oi s2 = some ((s2.renew j e').put (some d) (bxp j t)) := by
 unfold isAppR at hi
 split at hi
 rotate_left
 ·cases hi
 rename_i c hoi
 simp only [Bool.and_eq_true, Option.isNone_iff_eq_none, Option.isSome_iff_exists, Bool.not_eq_true'] at hi
 obtain ⟨⟨hnn, ⟨⟨q, x, t⟩, happ⟩⟩, hda⟩ := hi
 have hcs := appOf_spec happ
 have hargs : c.args.toList = [.tmp q, x] := by rw [hcs]
 have hmq : Operand.tmp q ∈ oi.op.operands.toList := by rw [hoi]; simp only [Op.operands, Call.operands, Array.toList_append, List.mem_append]; right; rw [hargs]; simp
 have hmx : x ∈ oi.op.operands.toList := by rw [hoi]; simp only [Op.operands, Call.operands, Array.toList_append, List.mem_append]; right; rw [hargs]; simp
 unfold evOp at h
 simp only [hoi, hnn, happ, hda, Bool.false_eq_true, if_false] at h
 split at h
 ·rename_i e hpr
  unfold appPre at h
  split at h
  ·rename_i el d y ys hso hd hel
   split at h
   ·rename_i hcond
    cases h
    obtain ⟨_, _, he, hety, he0⟩ := preOf_spec hpr
    refine ⟨(st.get q).id, d, _, t, hd, rfl, ⟨e, he, he0⟩, fun s2 hs hb => ?_⟩
    have hq : s2.get q = st.get q := hs q hmq
    have hx : opd P s2 t x = opd P st t x := opd_same hs hmx t
    have hp2 : preOf s2 q t = some e := by rw [<- hpr]; unfold preOf; rw [hq, hb]
    refine ⟨?_, ?_⟩
    ·unfold chkOp at hk ⊢
     simp only [hoi, hnn, happ, hpr, hp2, hx] at hk ⊢
     exact hk
    ·unfold evOp
     simp only [hoi, hnn, happ, hda, hp2, Bool.false_eq_true, if_false]
     unfold appPre
     rw [hx, hso, hd, hel, hq]
     simp only [hcond, if_true]
   ·cases h
  ·cases h
 ·rename_i hpr
  unfold appRow at h
  split at h
  ·rename_i el d hso hd hro
   split at h
   ·exfalso
    unfold chkOp at hk
    simp only [hoi, hnn, happ, hpr, hro, hlv, Bool.not_true, Bool.false_and, Bool.false_eq_true] at hk
   ·cases h
  ·rename_i el d e hso hd hro
   split at h
   ·rename_i hcond
    cases h
    obtain ⟨_, _, he, hety, he0⟩ := rowOf_spec hro
    refine ⟨(st.get q).id, d, _, t, hd, rfl, ⟨e, he, he0⟩, fun s2 hs hb => ?_⟩
    have hq : s2.get q = st.get q := hs q hmq
    have hx : opd P s2 t x = opd P st t x := opd_same hs hmx t
    have hp2 : preOf s2 q t = none := by rw [<- hpr]; unfold preOf; rw [hq, hb]
    have hr2 : rowOf s2 q t = some e := by rw [<- hro]; unfold rowOf; rw [hq, hb]
    refine ⟨?_, ?_⟩
    ·unfold chkOp at hk ⊢
     simp only [hoi, hnn, happ, hpr, hp2, hro, hr2, hx] at hk ⊢
     exact hk
    ·unfold evOp
     simp only [hoi, hnn, happ, hda, hp2, Bool.false_eq_true, if_false]
     unfold appRow
     rw [hso, hd, hr2, hx, hq]
     simp only [hcond, if_true]
   ·cases h
  ·cases h
theorem renew_kill {j : Nat} {e : Ent} : st.renew j e = (st.kill j).upd j e := by
 unfold St.renew St.kill St.upd
 congr 1
 funext k
 by_cases h : k = j
 ·simp [h]
 ·simp [h]
theorem diamond_fa (hc : appFA env ops oi oj = true) (h1 : opStep P env ops oi st = some s1) (h2 : opStep P env ops oj s1 = some s12) :
  ∃ s2, opStep P env ops oj st = some s2 /\ opStep P env ops oi s2 = some s12 := by
 unfold appFA at hc
 simp only [Bool.and_eq_true, Option.isNone_iff_eq_none] at hc
 obtain ⟨⟨⟨⟨⟨hlv, hap⟩, gi⟩, gj⟩, hi⟩, hj⟩ := hc
 obtain ⟨a1, a2, a3⟩ := Oper.apart_spec hap
 have ask : ∀ (o : Oper) (s : St), o.guard = none -> asked P ops o s = some true := fun o s hg => by unfold asked; rw [hg]
 have step : ∀ (o : Oper) (s s' : St), o.guard = none -> opStep P env ops o s = some s' -> chkOp P env s o = true /\ evOp P env o s = some s' := by
  intro o s s' hg h
  unfold opStep at h
  rw [ask o s hg] at h
  simp only at h
  split at h
  ·rename_i hk; exact ⟨hk, h⟩
  ·cases h
 have back : ∀ (o : Oper) (s s' : St), o.guard = none -> chkOp P env s o = true -> evOp P env o s = some s' -> opStep P env ops o s = some s' := by
  intro o s s' hg hk he
  unfold opStep
  rw [ask o s hg]
  simp only
  rw [if_pos hk]
  exact he
 obtain ⟨k1, e1⟩ := step oi st s1 gi h1
 obtain ⟨k2, e2⟩ := step oj s1 s12 gj h2
 obtain ⟨j, d, e', t, hd, rfl, ⟨r, hr, hr0⟩, hre⟩ := appR_form hi k1 e1 hlv
 have hdj : oj.dst ≠ some d := fun hh => a2 d hd hh
 unfold isFA0 at hj
 split at hj
 rotate_left
 ·cases hj
 rename_i t' y n hoj
 obtain ⟨v, rfl, hv, htag, hre2⟩ := evOp_fa hoj e2
 have hop1 : opd0 P ((st.renew j e').put (some d) (bxp j t)) oj y = opd0 P ((killO (some j) st).put (some d) (bxp j t)) oj y := by
  rw [renew_kill]
  cases y <;> rfl
 rw [hop1] at hv htag hre2
 obtain ⟨ho, hnr⟩ := opd_killO (k := some j) (fun i hy => (fun hh => a1 d hd (by rw [<- hh]; exact looks_operand (by rw [hoj]; simp [Op.operands, hy])))) htag
 rw [ho] at hv htag hre2
 have ej : evOp P env oj st = some (st.put oj.dst v) := by
  refine hre2 st rfl fun h2 => ?_
  have hne : (opd0 P st oj y).id ≠ j := fun hh => hnr (opd0 P st oj y).id (by rw [refs_2 h2]; simp) (by rw [hh])
  rw [put_bx, renew_bx, if_neg hne, Option.map_map]
  rfl
 have hsame : Same oi (st.put oj.dst v) st := fun i hio => get_put_ne (fun hh => a3 i hh (looks_operand hio))
 obtain ⟨c3, e3⟩ := hre (st.put oj.dst v) hsame (by rw [put_bx])
 refine ⟨st.put oj.dst v, back oj st _ gj (by unfold chkOp; rw [hoj]) ej, back oi _ _ gi c3 ?_⟩
 rw [e3]
 congr 1
 have hkv : killL [j] v = v := by
  rcases killL_cases [j] v with h | ⟨h, _⟩
  ·unfold killL at h ⊢
   split
   ·rename_i hh
    exfalso
    rw [List.any_eq_true] at hh
    obtain ⟨q, hq, hqj⟩ := hh
    have : q = j := by simpa using hqj
    exact hnr q (hv q hq) (by rw [this])
   ·rfl
  ·exact h
 have hrp : (st.put oj.dst v).renew j e' = (st.renew j e').put oj.dst v := by
  rw [renew_kill, renew_kill, kput, hkv, upd_put]
 rw [hrp]
 exact put_comm (fun i hi hh => hdj (by rw [hh]; exact hi))

theorem anyA_first3 (hpl : PlainE env) (hlv : env.lv = false) {G : St -> Prop} {i : Nat} (hi : ops[i]? = some oi) :
  ∀ (n : Nat) (listed : Array Bool) (st s1 : St), ND2 st -> Closed ops listed -> i ∈ Region.ready .any ops listed ->
   (∀ (j : Nat) (oj : Oper), ops[j]? = some oj -> j ≠ i -> listed.getD j true = false -> (comm ops oi oj = true \/ waits ops 8 j i = true) \/ appFld env ops oi oj = true) ->
   opStep P env ops oi st = some s1 -> anyA P env ops G n (listed.setIfInBounds i true) s1 -> anyA P env ops G (n + 1) listed st := by
 intro n
 induction n with
 | zero =>
  intro listed st s1 hn hc hr hfree h1 H
  refine ⟨fun h => (by rw [h] at hr; cases hr), fun j hj => ?_⟩
  by_cases hji : j = i
  ·subst hji; exact ⟨oi, s1, hi, h1, H⟩
  ·have := ready_mono hj hji
   rw [H.1] at this
   cases this
 | succ n ih =>
  intro listed st s1 hn hc hr hfree h1 H
  refine ⟨fun h => (by rw [h] at hr; cases hr), fun j hj => ?_⟩
  by_cases hji : j = i
  ·subst hji; exact ⟨oi, s1, hi, h1, H⟩
  ·obtain ⟨oj, s12, hoj, h2, hrest⟩ := H.2 j (ready_mono hj hji)
   have hiun := (mem_ready.1 hr).1
   have hjun := (mem_ready.1 hj).1
   have hd : ∃ s2, opStep P env ops oj st = some s2 /\ opStep P env ops oi s2 = some s12 := by
    rcases hfree j oj hoj hji hjun with (h | h) | h
    ·exact diamond hpl h hn.1 h1 h2
    ·rw [no_wait_ready hc hiun hj] at h; cases h
    ·exact diamond_app hpl hlv h h1 h2
   obtain ⟨s2, g1, g2⟩ := hd
   refine ⟨oj, s2, hoj, g1, ?_⟩
   refine ih (listed.setIfInBounds j true) s2 s12 (opStep_nd hpl hn g1) (closed_set hc hj) (ready_mono hr (Ne.symm hji)) ?_ g2 ?_
   ·intro k ok hk hki hun
    refine hfree k ok hk hki ?_
    by_cases hjk : j = k
    ·subst hjk; exact hjun
    ·rw [getD_set_ne true hjk] at hun; exact hun
   ·rw [Array.setIfInBounds_comm _ _ hji]
    exact hrest
theorem anyA_lex3 (hpl : PlainE env) (hlv : env.lv = false) (hlex : lexOK3 env ops = true) {G : St -> Prop} (hG : G st') :
  ∀ (l : List Oper) (k : Nat) (listed : Array Bool) (st : St), (∀ j, l[j]? = ops[k + j]?) -> listed.size = ops.size -> (∀ j, j < ops.size -> listed.getD j true = decide (j < k)) -> k + l.length = ops.size ->
   ND2 st -> runOps P env ops l st = some st' -> anyA P env ops G l.length listed st
 | [], k, listed, st, hl, hsz, hlist, hlen, hn, h => by
  simp only [runOps, Option.some.injEq] at h
  subst h
  refine ⟨?_, hG⟩
  rw [List.eq_nil_iff_forall_not_mem]
  intro j hj
  obtain ⟨h1, o, ho, _⟩ := mem_ready.1 hj
  have hlt : j < ops.size := (Array.getElem?_eq_some_iff.1 ho).1
  rw [hlist j hlt] at h1
  simp at hlen h1
  omega
 | o :: l, k, listed, st, hl, hsz, hlist, hlen, hn, h => by
  simp only [runOps] at h
  obtain ⟨s1, h1, h2⟩ := Option.bind_eq_some_iff.1 h
  have h0 : ops[k]? = some o := by simpa using (hl 0).symm
  have hk : k < ops.size := (Array.getElem?_eq_some_iff.1 h0).1
  have hlf : ∀ j, j < ops.size -> listed.getD j false = decide (j < k) := fun j hj => by
   have := hlist j hj
   have hj' : j < listed.size := by omega
   simpa [hj'] using this
  unfold lexOK3 at hlex
  have hlex' := hlex
  rw [List.all_eq_true] at hlex'
  have hat : ∀ (j : Nat) (oj : Oper), ops[j]? = some oj -> (∀ e ∈ oj.after, Region.binds .any e = true -> e.on < j) /\ ∀ (i : Nat) (oi : Oper), i < j -> ops[i]? = some oi -> (comm ops oi oj = true \/ waits ops 8 j i = true) \/ appFld env ops oi oj = true := by
   intro j oj hj
   have hlt : j < ops.size := (Array.getElem?_eq_some_iff.1 hj).1
   have := hlex' j (List.mem_range.2 hlt)
   rw [hj] at this
   simp only [Bool.and_eq_true, Array.all_eq_true_iff_forall_mem, List.all_eq_true] at this
   refine ⟨fun e he hb => ?_, fun i oi hij hi => ?_⟩
   ·have := this.1 e he
    simpa [hb] using this
   ·have := this.2 i (List.mem_range.2 hij)
    rw [hi] at this
    simpa using this
  have hready : k ∈ Region.ready .any ops listed := mem_ready.2 ⟨by rw [hlist k hk]; simp, o, h0, fun e he hb => by
   have hlt := (hat k o h0).1 e he hb
   rw [hlf e.on (by omega)]
   simpa using hlt⟩
  have hclosed : Closed ops listed := by
   intro j oj hj hjl e he hb
   have hlt : j < ops.size := (Array.getElem?_eq_some_iff.1 hj).1
   rw [hlf j hlt] at hjl
   have := (hat j oj hj).1 e he hb
   rw [hlf e.on (by omega)]
   simp at hjl ⊢
   omega
  refine anyA_first3 hpl hlv h0 l.length listed st s1 hn hclosed hready ?_ h1 ?_
  ·intro j oj hj hjk hun
   have hlt : j < ops.size := (Array.getElem?_eq_some_iff.1 hj).1
   rw [hlist j hlt] at hun
   simp at hun
   exact (hat j oj hj).2 k o (by omega) h0
  ·refine anyA_lex3 hpl hlv hlex hG l (k + 1) _ s1 (fun j => by have := hl (j + 1); simpa [Nat.add_assoc, Nat.add_comm 1 j] using this) (by simpa using hsz) ?_ (by simp at hlen; omega) (opStep_nd hpl hn h1) h2
   intro j hj
   by_cases hjk : k = j
   ·subst hjk
    have : k < listed.size := by omega
    simp [this]
   ·rw [getD_set_ne true hjk, hlist j hj]
    simp
    omega

theorem anyA_firstL (hpl : PlainE env) {G : St -> Prop} {i : Nat} (hi : ops[i]? = some oi) :
  ∀ (n : Nat) (listed : Array Bool) (st s1 : St), ND2 st -> Closed ops listed -> i ∈ Region.ready .any ops listed ->
   (∀ (j : Nat) (oj : Oper), ops[j]? = some oj -> j ≠ i -> listed.getD j true = false -> (comm ops oi oj = true \/ waits ops 8 j i = true) \/ appFA env ops oi oj = true) ->
   opStep P env ops oi st = some s1 -> anyA P env ops G n (listed.setIfInBounds i true) s1 -> anyA P env ops G (n + 1) listed st := by
 intro n
 induction n with
 | zero =>
  intro listed st s1 hn hc hr hfree h1 H
  refine ⟨fun h => (by rw [h] at hr; cases hr), fun j hj => ?_⟩
  by_cases hji : j = i
  ·subst hji; exact ⟨oi, s1, hi, h1, H⟩
  ·have := ready_mono hj hji
   rw [H.1] at this
   cases this
 | succ n ih =>
  intro listed st s1 hn hc hr hfree h1 H
  refine ⟨fun h => (by rw [h] at hr; cases hr), fun j hj => ?_⟩
  by_cases hji : j = i
  ·subst hji; exact ⟨oi, s1, hi, h1, H⟩
  ·obtain ⟨oj, s12, hoj, h2, hrest⟩ := H.2 j (ready_mono hj hji)
   have hiun := (mem_ready.1 hr).1
   have hjun := (mem_ready.1 hj).1
   have hd : ∃ s2, opStep P env ops oj st = some s2 /\ opStep P env ops oi s2 = some s12 := by
    rcases hfree j oj hoj hji hjun with (h | h) | h
    ·exact diamond hpl h hn.1 h1 h2
    ·rw [no_wait_ready hc hiun hj] at h; cases h
    ·exact diamond_fa h h1 h2
   obtain ⟨s2, g1, g2⟩ := hd
   refine ⟨oj, s2, hoj, g1, ?_⟩
   refine ih (listed.setIfInBounds j true) s2 s12 (opStep_nd hpl hn g1) (closed_set hc hj) (ready_mono hr (Ne.symm hji)) ?_ g2 ?_
   ·intro k ok hk hki hun
    refine hfree k ok hk hki ?_
    by_cases hjk : j = k
    ·subst hjk; exact hjun
    ·rw [getD_set_ne true hjk] at hun; exact hun
   ·rw [Array.setIfInBounds_comm _ _ hji]
    exact hrest
theorem anyA_lexL (hpl : PlainE env) (hlex : lexOKL env ops = true) {G : St -> Prop} (hG : G st') :
  ∀ (l : List Oper) (k : Nat) (listed : Array Bool) (st : St), (∀ j, l[j]? = ops[k + j]?) -> listed.size = ops.size -> (∀ j, j < ops.size -> listed.getD j true = decide (j < k)) -> k + l.length = ops.size ->
   ND2 st -> runOps P env ops l st = some st' -> anyA P env ops G l.length listed st
 | [], k, listed, st, hl, hsz, hlist, hlen, hn, h => by
  simp only [runOps, Option.some.injEq] at h
  subst h
  refine ⟨?_, hG⟩
  rw [List.eq_nil_iff_forall_not_mem]
  intro j hj
  obtain ⟨h1, o, ho, _⟩ := mem_ready.1 hj
  have hlt : j < ops.size := (Array.getElem?_eq_some_iff.1 ho).1
  rw [hlist j hlt] at h1
  simp at hlen h1
  omega
 | o :: l, k, listed, st, hl, hsz, hlist, hlen, hn, h => by
  simp only [runOps] at h
  obtain ⟨s1, h1, h2⟩ := Option.bind_eq_some_iff.1 h
  have h0 : ops[k]? = some o := by simpa using (hl 0).symm
  have hk : k < ops.size := (Array.getElem?_eq_some_iff.1 h0).1
  have hlf : ∀ j, j < ops.size -> listed.getD j false = decide (j < k) := fun j hj => by
   have := hlist j hj
   have hj' : j < listed.size := by omega
   simpa [hj'] using this
  unfold lexOKL at hlex
  have hlex' := hlex
  rw [List.all_eq_true] at hlex'
  have hat : ∀ (j : Nat) (oj : Oper), ops[j]? = some oj -> (∀ e ∈ oj.after, Region.binds .any e = true -> e.on < j) /\ ∀ (i : Nat) (oi : Oper), i < j -> ops[i]? = some oi -> (comm ops oi oj = true \/ waits ops 8 j i = true) \/ appFA env ops oi oj = true := by
   intro j oj hj
   have hlt : j < ops.size := (Array.getElem?_eq_some_iff.1 hj).1
   have := hlex' j (List.mem_range.2 hlt)
   rw [hj] at this
   simp only [Bool.and_eq_true, Array.all_eq_true_iff_forall_mem, List.all_eq_true] at this
   refine ⟨fun e he hb => ?_, fun i oi hij hi => ?_⟩
   ·have := this.1 e he
    simpa [hb] using this
   ·have := this.2 i (List.mem_range.2 hij)
    rw [hi] at this
    simpa using this
  have hready : k ∈ Region.ready .any ops listed := mem_ready.2 ⟨by rw [hlist k hk]; simp, o, h0, fun e he hb => by
   have hlt := (hat k o h0).1 e he hb
   rw [hlf e.on (by omega)]
   simpa using hlt⟩
  have hclosed : Closed ops listed := by
   intro j oj hj hjl e he hb
   have hlt : j < ops.size := (Array.getElem?_eq_some_iff.1 hj).1
   rw [hlf j hlt] at hjl
   have := (hat j oj hj).1 e he hb
   rw [hlf e.on (by omega)]
   simp at hjl ⊢
   omega
  refine anyA_firstL hpl h0 l.length listed st s1 hn hclosed hready ?_ h1 ?_
  ·intro j oj hj hjk hun
   have hlt : j < ops.size := (Array.getElem?_eq_some_iff.1 hj).1
   rw [hlist j hlt] at hun
   simp at hun
   exact (hat j oj hj).2 k o (by omega) h0
  ·refine anyA_lexL hpl hlex hG l (k + 1) _ s1 (fun j => by have := hl (j + 1); simpa [Nat.add_assoc, Nat.add_comm 1 j] using this) (by simpa using hsz) ?_ (by simp at hlen; omega) (opStep_nd hpl hn h1) h2
   intro j hj
   by_cases hjk : k = j
   ·subst hjk
    have : k < listed.size := by omega
    simp [this]
   ·rw [getD_set_ne true hjk, hlist j hj]
    simp
    omega

theorem anyA_perm (hpl : PlainE env) (hlv : env.lv = false) {G : St -> Prop} (hG : G st') :
  ∀ (l done : List Nat) (listed : Array Bool) (st : St), lexPr env ops done l = true -> listed.size = ops.size -> (∀ j, listed.getD j false = done.contains j) -> Closed ops listed -> (∀ j, j < ops.size -> j ∈ done \/ j ∈ l) ->
   ND2 st -> runOps P env ops (pickOps ops l) st = some st' -> anyA P env ops G l.length listed st
 | [], done, listed, st, hx, hsz, hlist, hcl, hcov, hn, h => by
  have h : some st = some st' := h
  cases h
  refine ⟨?_, hG⟩
  rw [List.eq_nil_iff_forall_not_mem]
  intro j hj
  obtain ⟨h1, o, ho, _⟩ := mem_ready.1 hj
  have hlt : j < ops.size := (Array.getElem?_eq_some_iff.1 ho).1
  have hd : j ∈ done := (hcov j hlt).resolve_right (by simp)
  have h2 : listed.getD j false = true := by rw [hlist, List.contains_iff_mem]; exact hd
  have hj' : j < listed.size := by omega
  simp [hj'] at h1 h2
  rw [h1] at h2
  cases h2
 | k :: l, done, listed, st, hx, hsz, hlist, hcl, hcov, hn, h => by
  unfold lexPr at hx
  rw [Bool.and_eq_true] at hx
  obtain ⟨hx1, hx2⟩ := hx
  cases h0 : ops[k]? with
  | none => rw [h0] at hx1; cases hx1
  | some o =>
   rw [h0] at hx1
   simp only [Bool.and_eq_true, Array.all_eq_true_iff_forall_mem, List.all_eq_true] at hx1
   obtain ⟨⟨hnd, haft⟩, hrest⟩ := hx1
   have hk : k < ops.size := (Array.getElem?_eq_some_iff.1 h0).1
   have hkd : done.contains k = false := by simpa using hnd
   have hpick : pickOps ops (k :: l) = o :: pickOps ops l := by unfold pickOps; rw [List.filterMap_cons, h0]
   rw [hpick] at h
   simp only [runOps] at h
   obtain ⟨s1, h1, h2⟩ := Option.bind_eq_some_iff.1 h
   have hready : k ∈ Region.ready .any ops listed := mem_ready.2 ⟨by
    have := hlist k
    have hk' : k < listed.size := by omega
    rw [hkd] at this
    simpa [hk'] using this, o, h0, fun e he hb => by
     have := haft e he
     rw [hlist]
     simpa [hb] using this⟩
   refine anyA_first3 hpl hlv h0 l.length listed st s1 hn hcl hready ?_ h1 ?_
   ·intro j oj hj hjk hun
    have hlt : j < ops.size := (Array.getElem?_eq_some_iff.1 hj).1
    have hjd : j ∉ done := fun hh => by
     have h3 : listed.getD j false = true := by rw [hlist, List.contains_iff_mem]; exact hh
     have hj' : j < listed.size := by omega
     simp [hj'] at hun h3
     rw [hun] at h3
     cases h3
    have hjl : j ∈ l := by
     rcases List.mem_cons.1 ((hcov j hlt).resolve_left hjd) with hh | hh
     ·exact absurd hh hjk
     ·exact hh
    have := hrest j hjl
    rw [hj] at this
    simpa using this
   ·refine anyA_perm hpl hlv hG l (k :: done) _ s1 hx2 (by simpa using hsz) ?_ (closed_set hcl hready) ?_ (opStep_nd hpl hn h1) h2
    ·intro j
     by_cases hjk : k = j
     ·subst hjk
      have : k < listed.size := by omega
      simp [this]
     ·rw [getD_set_ne false hjk, hlist, List.contains_cons]
      have : (j == k) = false := by simpa using Ne.symm hjk
      rw [this, Bool.false_or]
    ·intro j hj
     rcases hcov j hj with hh | hh
     ·exact .inl (List.mem_cons_of_mem _ hh)
     ·rcases List.mem_cons.1 hh with rfl | hh
      ·exact .inl (List.mem_cons_self ..)
      ·exact .inr hh

theorem lexPr_cov {j : Nat} (hj : j < ops.size) : ∀ (l done : List Nat), lexPr env ops done l = true -> j ∈ done \/ j ∈ l
 | [], done, h => by
  have h : (List.range ops.size).all done.contains = true := h
  rw [List.all_eq_true] at h
  have := h j (List.mem_range.2 hj)
  rw [List.contains_iff_mem] at this
  exact .inl this
 | k :: l, done, h => by
  unfold lexPr at h
  rw [Bool.and_eq_true] at h
  rcases lexPr_cov hj l (k :: done) h.2 with hh | hh
  ·rcases List.mem_cons.1 hh with rfl | hh
   ·exact .inr (List.mem_cons_self ..)
   ·exact .inl hh
  ·exact .inr (List.mem_cons_of_mem _ hh)

theorem split_len (p : Nat -> Bool) (l : List Nat) : (l.filter p ++ l.filter fun j => !p j).length = l.length := by
 induction l with
 | nil => rfl
 | cons x l ih =>
  rw [List.length_append] at ih ⊢
  cases hp : p x <;> simp [List.filter_cons, hp] <;> omega
theorem appOrd_len (env : Env) (ops : Array Oper) : (appOrd env ops).length = ops.size :=
 (split_len (fun j => (List.range ops.size).any fun a => ((ops[a]?).map (isAppD env)).getD false && (a == j || waits ops 8 a j)) (List.range ops.size)).trans List.length_range
theorem rep_false (n j : Nat) : (Array.replicate n false).getD j false = false := by
 rw [Array.getD_eq_getD_getElem?, Array.getElem?_replicate]
 split <;> rfl
theorem region_draw_sound4 (hpl : PlainE env) (hlv : env.lv = false) (hm : P.follows .mixedOrders = true) (henv : EnvOK P env) {l : List Nat} (hlex : lexPr env ops [] l = true) (hlen : l.length = ops.size) {id : Nat} (h : runOps P env ops (pickOps ops l) st = some st') (R : Rel P F st a w)
  (hQ : ∀ a w, Rel P F st' a w -> Q .normal a w) : (Code.region id ops true).wp P Q a w := by
 obtain ⟨ok, β, R⟩ := R
 refine wp_region_any hm ?_
 refine anyA_sound (G := fun s => s = st') henv (fun s a w hs R' => hQ a w (hs ▸ R')) _ _ st a _ ?_ ⟨ok, β, R.drawn⟩
 have := anyA_perm (G := fun s => s = st') hpl hlv rfl l [] (Array.replicate ops.size false) st hlex (by simp) (fun j => rep_false _ j) (by intro j oj hj hjl; rw [rep_false] at hjl; cases hjl) (fun j hj => lexPr_cov hj l [] hlex) ⟨R.nd, R.hp.nb⟩ h
 rw [hlen] at this
 simpa using this

theorem region_draw_sound3 (hpl : PlainE env) (hlv : env.lv = false) (hm : P.follows .mixedOrders = true) (henv : EnvOK P env) (hlex : lexOK3 env ops = true) {id : Nat} (h : runOps P env ops ops.toList st = some st') (R : Rel P F st a w)
  (hQ : ∀ a w, Rel P F st' a w -> Q .normal a w) : (Code.region id ops true).wp P Q a w := by
 obtain ⟨ok, β, R⟩ := R
 refine wp_region_any hm ?_
 refine anyA_sound (G := fun s => s = st') henv (fun s a w hs R' => hQ a w (hs ▸ R')) _ _ st a _ ?_ ⟨ok, β, R.drawn⟩
 have := anyA_lex3 (G := fun s => s = st') hpl hlv hlex rfl ops.toList 0 (Array.replicate ops.size false) st (by simp) (by simp) (fun j hj => by simp [hj]) (by simp) ⟨R.nd, R.hp.nb⟩ h
 simpa using this

theorem region_draw_soundL (hpl : PlainE env) (hm : P.follows .mixedOrders = true) (henv : EnvOK P env) (hlex : lexOKL env ops = true) {id : Nat} (h : runOps P env ops ops.toList st = some st') (R : Rel P F st a w)
  (hQ : ∀ a w, Rel P F st' a w -> Q .normal a w) : (Code.region id ops true).wp P Q a w := by
 obtain ⟨ok, β, R⟩ := R
 refine wp_region_any hm ?_
 refine anyA_sound (G := fun s => s = st') henv (fun s a w hs R' => hQ a w (hs ▸ R')) _ _ st a _ ?_ ⟨ok, β, R.drawn⟩
 have := anyA_lexL (G := fun s => s = st') hpl hlex rfl ops.toList 0 (Array.replicate ops.size false) st (by simp) (by simp) (fun j hj => by simp [hj]) (by simp) ⟨R.nd, R.hp.nb⟩ h
 simpa using this

end
end
section
section
variable {P : Program} {w w' : World} {ok ok' : Nat -> Prop} {β : Nat -> Nat × Nat} {ops : Array Oper}
variable {F : Fr P} {st st' s s' s1 s2 s12 : St} {a : Act} {env : Env} {o oi oj : Oper} {av : AV} {Q : Exit -> Act -> World -> Prop}

theorem EnvOK.half (h : EnvOK P env) : EnvOK P env.half := ⟨h.p, h.h, h.r, fun f t pre F args k d he => (by cases he), fun f t pre F args r es he => (by cases he)⟩

theorem heapF_half {c : Call} (h : tmpCallee c = false) : heapF P env.half st c = heapF P env.plain st c := by
 unfold heapF
 rw [h]
 rfl
theorem evVal_half : evVal P env.half o st = evVal P env.plain o st := rfl
theorem freshF_half {c : Call} : freshF env.half c = freshF env.plain c := rfl
theorem bornF_half {c : Call} : bornF env.half c = bornF env.plain c := rfl

theorem chkOp_half (h : nt o = true) : chkOp P env.half st o = chkOp P env.plain st o := by
 unfold chkOp
 cases hop : o.op <;> try rfl
 case binOp op t x y yt => cases op <;> rfl
 case call c =>
  simp only
  have ht : tmpCallee c = false := by
   unfold nt at h
   rw [hop] at h
   simpa using h
  rw [heapF_half ht, freshF_half, bornF_half]
  rfl

theorem evOp_half (h : nt o = true) : evOp P env.half o st = evOp P env.plain o st := by
 unfold evOp
 cases hop : o.op <;> try rfl
 case next y b => cases y <;> cases b <;> rfl
 case call c =>
  simp only
  have ht : tmpCallee c = false := by
   unfold nt at h
   rw [hop] at h
   simpa using h
  rw [heapF_half ht, freshF_half, bornF_half, evVal_half]
  have hn : heapF P env.plain st c = none := heapF_none (plainE env)
  rw [hn]
  rfl

theorem opStep_half (h : nt o = true) : opStep P env.half ops o st = opStep P env.plain ops o st := by
 unfold opStep
 rw [chkOp_half h, evOp_half h]

theorem diamond_half (hi : nt oi = true) (hj : nt oj = true) (hc : comm ops oi oj = true) (hn : ND st) (h1 : opStep P env.half ops oi st = some s1) (h2 : opStep P env.half ops oj s1 = some s12) :
  ∃ s2, opStep P env.half ops oj st = some s2 /\ opStep P env.half ops oi s2 = some s12 := by
 rw [opStep_half hi] at h1
 rw [opStep_half hj] at h2
 obtain ⟨s2, g1, g2⟩ := diamond (plainE env) hc hn h1 h2
 exact ⟨s2, by rw [opStep_half hj]; exact g1, by rw [opStep_half hi]; exact g2⟩

theorem anyA_first5 {G : St -> Prop} {i : Nat} (hi : ops[i]? = some oi) :
  ∀ (n : Nat) (listed : Array Bool) (st s1 : St), ND2 st -> Closed ops listed -> i ∈ Region.ready .any ops listed ->
   (∀ (j : Nat) (oj : Oper), ops[j]? = some oj -> j ≠ i -> listed.getD j true = false -> (comm ops oi oj = true /\ nt oi = true /\ nt oj = true) \/ waits ops 8 j i = true) ->
   opStep P env.half ops oi st = some s1 -> anyA P env.half ops G n (listed.setIfInBounds i true) s1 -> anyA P env.half ops G (n + 1) listed st := by
 intro n
 induction n with
 | zero =>
  intro listed st s1 hn hc hr hfree h1 H
  refine ⟨fun h => (by rw [h] at hr; cases hr), fun j hj => ?_⟩
  by_cases hji : j = i
  ·subst hji; exact ⟨oi, s1, hi, h1, H⟩
  ·have := ready_mono hj hji
   rw [H.1] at this
   cases this
 | succ n ih =>
  intro listed st s1 hn hc hr hfree h1 H
  refine ⟨fun h => (by rw [h] at hr; cases hr), fun j hj => ?_⟩
  by_cases hji : j = i
  ·subst hji; exact ⟨oi, s1, hi, h1, H⟩
  ·obtain ⟨oj, s12, hoj, h2, hrest⟩ := H.2 j (ready_mono hj hji)
   have hiun := (mem_ready.1 hr).1
   have hjun := (mem_ready.1 hj).1
   have hcomm : comm ops oi oj = true /\ nt oi = true /\ nt oj = true := by
    rcases hfree j oj hoj hji hjun with h | h
    ·exact h
    ·rw [no_wait_ready hc hiun hj] at h; cases h
   obtain ⟨s2, g1, g2⟩ := diamond_half hcomm.2.1 hcomm.2.2 hcomm.1 hn.1 h1 h2
   refine ⟨oj, s2, hoj, g1, ?_⟩
   refine ih (listed.setIfInBounds j true) s2 s12 (opStep_nd (plainE env) hn (by rw [opStep_half hcomm.2.2] at g1; exact g1)) (closed_set hc hj) (ready_mono hr (Ne.symm hji)) ?_ g2 ?_
   ·intro k ok hk hki hun
    refine hfree k ok hk hki ?_
    by_cases hjk : j = k
    ·subst hjk; exact hjun
    ·rw [getD_set_ne true hjk] at hun; exact hun
   ·rw [Array.setIfInBounds_comm _ _ hji]
    exact hrest

theorem anyA_only {G : St -> Prop} {i n : Nat} {listed : Array Bool} (hi : ops[i]? = some oi) (hr : i ∈ Region.ready .any ops listed) (ho : ∀ j ∈ Region.ready .any ops listed, j = i)
  (h1 : opStep P env ops oi st = some s1) (H : anyA P env ops G n (listed.setIfInBounds i true) s1) : anyA P env ops G (n + 1) listed st := by
 refine ⟨fun h => (by rw [h] at hr; cases hr), fun j hj => ?_⟩
 obtain rfl := ho j hj
 exact ⟨oi, s1, hi, h1, H⟩

theorem anyA_lex5 (hlex : lexOK5 ops = true) {G : St -> Prop} (hG : G st') :
  ∀ (l : List Oper) (k : Nat) (listed : Array Bool) (st : St), (∀ j, l[j]? = ops[k + j]?) -> listed.size = ops.size -> (∀ j, j < ops.size -> listed.getD j true = decide (j < k)) -> k + l.length = ops.size ->
   (ntTo ops k = true -> ND2 st) -> runOps P env.half ops l st = some st' -> anyA P env.half ops G l.length listed st
 | [], k, listed, st, hl, hsz, hlist, hlen, hn, h => by
  simp only [runOps, Option.some.injEq] at h
  subst h
  refine ⟨?_, hG⟩
  rw [List.eq_nil_iff_forall_not_mem]
  intro j hj
  obtain ⟨h1, o, ho, _⟩ := mem_ready.1 hj
  have hlt : j < ops.size := (Array.getElem?_eq_some_iff.1 ho).1
  rw [hlist j hlt] at h1
  simp at hlen h1
  omega
 | o :: l, k, listed, st, hl, hsz, hlist, hlen, hn, h => by
  simp only [runOps] at h
  obtain ⟨s1, h1, h2⟩ := Option.bind_eq_some_iff.1 h
  have h0 : ops[k]? = some o := by simpa using (hl 0).symm
  have hk : k < ops.size := (Array.getElem?_eq_some_iff.1 h0).1
  have hlf : ∀ j, j < ops.size -> listed.getD j false = decide (j < k) := fun j hj => by
   have := hlist j hj
   have hj' : j < listed.size := by omega
   simpa [hj'] using this
  unfold lexOK5 at hlex
  have hlex' := hlex
  rw [List.all_eq_true] at hlex'
  have hat : ∀ (j : Nat) (oj : Oper), ops[j]? = some oj -> (∀ e ∈ oj.after, Region.binds .any e = true -> e.on < j) /\ ∀ (i : Nat) (oi : Oper), i < j -> ops[i]? = some oi -> (comm ops oi oj = true /\ nt oi = true /\ nt oj = true /\ ntTo ops j = true) \/ waits ops 8 j i = true := by
   intro j oj hj
   have hlt : j < ops.size := (Array.getElem?_eq_some_iff.1 hj).1
   have := hlex' j (List.mem_range.2 hlt)
   rw [hj] at this
   simp only [Bool.and_eq_true, Array.all_eq_true_iff_forall_mem, List.all_eq_true] at this
   refine ⟨fun e he hb => ?_, fun i oi hij hi => ?_⟩
   ·have := this.1 e he
    simpa [hb] using this
   ·have := this.2 i (List.mem_range.2 hij)
    rw [hi] at this
    simp only [Bool.or_eq_true, Bool.and_eq_true] at this
    rcases this with h | ⟨⟨⟨q1, q2⟩, q3⟩, q4⟩
    ·exact .inr h
    ·exact .inl ⟨q1, q2, q3, q4⟩
  have hready : k ∈ Region.ready .any ops listed := mem_ready.2 ⟨by rw [hlist k hk]; simp, o, h0, fun e he hb => by
   have hlt := (hat k o h0).1 e he hb
   rw [hlf e.on (by omega)]
   simpa using hlt⟩
  have hclosed : Closed ops listed := by
   intro j oj hj hjl e he hb
   have hlt : j < ops.size := (Array.getElem?_eq_some_iff.1 hj).1
   rw [hlf j hlt] at hjl
   have := (hat j oj hj).1 e he hb
   rw [hlf e.on (by omega)]
   simp at hjl ⊢
   omega
  have hlater : ∀ j, j ∈ Region.ready .any ops listed -> j ≠ k -> ∃ oj, ops[j]? = some oj /\ k < j := by
   intro j hj hjk
   obtain ⟨hun, oj, hoj, _⟩ := mem_ready.1 hj
   have hlt : j < ops.size := (Array.getElem?_eq_some_iff.1 hoj).1
   rw [hlist j hlt] at hun
   simp at hun
   exact ⟨oj, hoj, by omega⟩
  have hgo : anyA P env.half ops G l.length (listed.setIfInBounds k true) s1 := by
   refine anyA_lex5 hlex hG l (k + 1) _ s1 (fun j => by have := hl (j + 1); simpa [Nat.add_assoc, Nat.add_comm 1 j] using this) (by simpa using hsz) ?_ (by simp at hlen; omega) (fun hnt => ?_) h2
   ·intro j hj
    by_cases hjk : k = j
    ·subst hjk
     have : k < listed.size := by omega
     simp [this]
    ·rw [getD_set_ne true hjk, hlist j hj]
     simp
     omega
   ·unfold ntTo at hnt
    rw [List.all_eq_true] at hnt
    have hk1 := hnt k (List.mem_range.2 (Nat.lt_succ_self k))
    rw [h0] at hk1
    have hk0 : ntTo ops k = true := by
     unfold ntTo
     rw [List.all_eq_true]
     intro j hj
     exact hnt j (List.mem_range.2 (Nat.lt_succ_of_lt (List.mem_range.1 hj)))
    exact opStep_nd (plainE env) (hn hk0) (by rw [<- opStep_half hk1]; exact h1)
  by_cases hall : ∀ j ∈ Region.ready .any ops listed, j = k
  ·exact anyA_only h0 hready hall h1 hgo
  ·have hnd : ND2 st := by
    obtain ⟨j, hj⟩ := Classical.not_forall.1 hall
    obtain ⟨hj, hjk⟩ := Classical.not_imp.1 hj
    obtain ⟨oj, hoj, hlt⟩ := hlater j hj hjk
    refine hn ?_
    rcases (hat j oj hoj).2 k o hlt h0 with h | h
    ·have h4 := h.2.2.2
     unfold ntTo at h4 ⊢
     rw [List.all_eq_true] at h4 ⊢
     intro q hq
     exact h4 q (List.mem_range.2 (Nat.lt_trans (List.mem_range.1 hq) hlt))
    ·rw [no_wait_ready hclosed (mem_ready.1 hready).1 hj] at h
     cases h
   refine anyA_first5 h0 l.length listed st s1 hnd hclosed hready ?_ h1 hgo
   intro j oj hj hjk hun
   have hlt : j < ops.size := (Array.getElem?_eq_some_iff.1 hj).1
   rw [hlist j hlt] at hun
   simp at hun
   rcases (hat j oj hj).2 k o (by omega) h0 with h | h
   ·exact .inl ⟨h.1, h.2.1, h.2.2.1⟩
   ·exact .inr h

theorem region_draw_sound5 (hm : P.follows .mixedOrders = true) (henv : EnvOK P env) (hlex : lexOK5 ops = true) {id : Nat} (h : runOps P env.half ops ops.toList st = some st') (R : Rel P F st a w)
  (hQ : ∀ a w, Rel P F st' a w -> Q .normal a w) : (Code.region id ops true).wp P Q a w := by
 obtain ⟨ok, β, R⟩ := R
 refine wp_region_any hm ?_
 refine anyA_sound (G := fun s => s = st') henv.half (fun s a w hs R' => hQ a w (hs ▸ R')) _ _ st a _ ?_ ⟨ok, β, R.drawn⟩
 have := anyA_lex5 (G := fun s => s = st') hlex rfl ops.toList 0 (Array.replicate ops.size false) st (by simp) (by simp) (fun j hj => by simp [hj]) (by simp) (fun _ => ⟨R.nd, R.hp.nb⟩) h
 simpa using this

end
end
end Go.Ev
