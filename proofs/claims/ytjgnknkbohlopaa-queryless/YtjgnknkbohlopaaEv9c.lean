/- An append of which only data is asked, and the address of a field, in any order. Nothing here is trusted. -/
import Derived.Test.YtjgnknkbohlopaaEv9b
namespace Go.Ev
open Go.RowKit
set_option linter.unusedVariables false
set_option linter.unusedSimpArgs false

section
variable {P : Program} {w w' : World} {ok ok' : Nat → Prop} {β : Nat → Nat × Nat} {ops : Array Oper}
variable {F : Fr P} {st st' s s' s1 s2 s12 : St} {a : Act} {env : Env} {o oi oj : Oper} {av : AV} {Q : Exit → Act → World → Prop}

theorem constD_tag01 (P : Program) (t : TypeId) (v : Value) : (constD P t v).tag = 0 ∨ (constD P t v).tag = 1 := by
  unfold constD
  split
  · exact .inl rfl
  · split
    · exact .inr rfl
    · split
      · exact .inr rfl
      · exact .inl rfl
    · split
      · exact .inr rfl
      · exact .inl rfl
    · exact .inr rfl
    · exact .inr rfl
    · exact .inl rfl
theorem kill_put {i : Nat} {d : Option Nat} {v : AV} (hv : ∀ j ∈ refs v, j ≠ i) : (st.put d v).kill i = (st.kill i).put d v := by
  have hk : killL [i] v = v := by
    unfold killL
    have : (refs v).any [i].contains = false := by
      rw [← Bool.not_eq_true, List.any_eq_true]
      rintro ⟨j, hj, hh⟩
      simp only [List.contains_iff_mem, List.mem_singleton] at hh
      exact hv j hj hh
    rw [this]
    rfl
  cases d with
  | none => rfl
  | some d =>
    show (⟨(st.sl.set d v).map (killL [i]), _⟩ : St) = ⟨(st.sl.map (killL [i])).set d v, _⟩
    rw [List.map_set, hk]
    rfl
/-- What the address of a field is. -/
theorem evOp_fa {t : TypeId} {y : Operand} {k : Nat} (hop : o.op = .fieldAddr t y k) (h : evOp P env o st = some s') :
    ∃ v, s' = st.put o.dst v ∧ (∀ j ∈ refs v, j ∈ refs (opd0 P st o y)) ∧ ((opd0 P st o y).tag = 2 ∨ (opd0 P st o y).tag = 3) ∧
      ∀ s2 : St, opd0 P s2 o y = opd0 P st o y → ((opd0 P st o y).tag = 2 → (s2.bx (opd0 P st o y).id).map (·.row) = (st.bx (opd0 P st o y).id).map (·.row)) → evOp P env o s2 = some (s2.put o.dst v) := by
  unfold evOp at h
  simp only [hop] at h
  have hbox : ∀ {s2 : St} {i : Nat}, (s2.bx i).map (·.row) = (st.bx i).map (·.row) → isBoxB s2 i = isBoxB st i ∧ isRowB s2 i = isRowB st i := by
    intro s2 i hh
    unfold isBoxB isRowB
    cases h1 : s2.bx i <;> cases h2 : st.bx i <;> rw [h1, h2] at hh <;> simp_all
  split at h
  · rename_i f hf
    split at h
    · rename_i hc
      have hc' := hc
      simp only [Bool.and_eq_true, beq_iff_eq] at hc
      cases h
      refine ⟨_, rfl, fun j hj => ?_, .inl hc.1.1.1.1, fun s2 h2 h3 => ?_⟩
      · rw [refs_2 rfl] at hj
        rw [refs_2 hc.1.1.1.1]
        simpa [fdp] using hj
      · unfold evOp
        simp only [hop, hf, h2, (hbox (h3 hc.1.1.1.1)).1, hc', if_true]
    · rename_i hn1
      split at h
      · rename_i hc
        have hc' := hc
        simp only [Bool.and_eq_true, beq_iff_eq] at hc
        cases h
        refine ⟨_, rfl, fun j hj => ?_, .inr hc.1, fun s2 h2 h3 => ?_⟩
        · have : refs (refp f.type (fieldD (opd0 P st o y).d k)) = [] := rfl
          rw [this] at hj
          cases hj
        · unfold evOp
          have ht : ((opd0 P st o y).tag == 2) = false := by rw [hc.1]; rfl
          simp only [hop, hf, h2, ht, Bool.false_and, Bool.false_eq_true, if_false, hc', if_true]
      · rename_i hn2
        split at h
        · rename_i hc
          have hc' := hc
          simp only [Bool.and_eq_true, beq_iff_eq] at hc
          cases h
          have htag := hc.1.1.1.1
          refine ⟨_, rfl, fun j hj => ?_, .inl htag, fun s2 h2 h3 => ?_⟩
          · rw [refs_2 rfl] at hj
            rw [refs_2 htag]
            simpa [elf] using hj
          · unfold evOp
            simp only [hop, hf, h2, (hbox (h3 htag)).1, (hbox (h3 htag)).2, hn1, hn2, hc', Bool.false_eq_true, if_false, if_true]
        · cases h
  · cases h
theorem diamond_app (hc : appFld env ops oi oj = true) (h1 : opStep P env ops oi st = some s1) (h2 : opStep P env ops oj s1 = some s12) :
    ∃ s2, opStep P env ops oj st = some s2 ∧ opStep P env ops oi s2 = some s12 := by
  unfold appFld at hc
  simp only [Bool.and_eq_true, Option.isNone_iff_eq_none] at hc
  obtain ⟨⟨⟨⟨hap, gi⟩, gj⟩, hi⟩, hj⟩ := hc
  obtain ⟨a1, a2, a3⟩ := Oper.apart_spec hap
  unfold isFA at hj
  split at hj
  rotate_left
  · cases hj
  rename_i t' y k hoj
  unfold isAppD at hi
  split at hi
  rotate_left
  · cases hi
  rename_i c hoi
  simp only [Bool.and_eq_true, Option.isNone_iff_eq_none, Option.isSome_iff_exists] at hi
  obtain ⟨⟨hnn, ⟨⟨q, x, t⟩, happ⟩⟩, hda⟩ := hi
  have ask : ∀ (o : Oper) (s : St), o.guard = none → asked P ops o s = some true := fun o s hg => by unfold asked; rw [hg]
  have step : ∀ (o : Oper) (s s' : St), o.guard = none → opStep P env ops o s = some s' → chkOp P env s o = true ∧ evOp P env o s = some s' := by
    intro o s s' hg h
    unfold opStep at h
    rw [ask o s hg] at h
    simp only at h
    split at h
    · rename_i hk; exact ⟨hk, h⟩
    · cases h
  have back : ∀ (o : Oper) (s s' : St), o.guard = none → chkOp P env s o = true → evOp P env o s = some s' → opStep P env ops o s = some s' := by
    intro o s s' hg hk he
    unfold opStep
    rw [ask o s hg]
    simp only
    rw [if_pos hk]
    exact he
  obtain ⟨k1, e1⟩ := step oi st s1 gi h1
  obtain ⟨k2, e2⟩ := step oj s1 s12 gj h2
  have e1' := e1
  unfold evOp at e1
  simp only [hoi, hnn, happ, hda, if_true] at e1
  unfold appData at e1
  split at e1
  · rename_i el d e hso hd hro
    split at e1
    · rename_i hcond
      cases e1
      obtain ⟨v, rfl, hv, htag, hre⟩ := evOp_fa hoj e2
      -- the operand is as it was
      have hop : opd0 P ((st.kill (st.get q).id).put (some d) (dat t (.slice (elemsD e.d ++ elemsD (opd P st t x).d) []))) oj y = opd0 P st oj y ∧ ∀ j ∈ refs (opd0 P st oj y), j ≠ (st.get q).id := by
        cases y with
        | tmp i =>
          have hne : oi.dst ≠ some i := fun hh => a1 i hh (looks_operand (by rw [hoj]; simp [Op.operands]))
          have hg : ((st.kill (st.get q).id).put (some d) (dat t (.slice (elemsD e.d ++ elemsD (opd P st t x).d) []))).get i = killL [(st.get q).id] (st.get i) := by
            rw [get_put_ne (by rw [← hd]; exact hne), killB_get]
          have hg' : opd0 P ((st.kill (st.get q).id).put (some d) (dat t (.slice (elemsD e.d ++ elemsD (opd P st t x).d) []))) oj (.tmp i) = killL [(st.get q).id] (st.get i) := hg
          rcases killL_cases [(st.get q).id] (st.get i) with hk | ⟨hk, hne2⟩
          · exfalso
            rw [hg', hk] at htag
            unfold dz at htag
            split at htag
            · rename_i h7
              have h7 : (st.get i).tag = 7 := by simpa using h7
              rcases htag with h | h <;> · simp only [h7] at h; cases h
            · rcases htag with h | h <;> cases h
          · rw [hg', hk]
            exact ⟨rfl, fun j hj hh => hne2 j hj (by simp [hh])⟩
        | const u =>
          refine ⟨rfl, fun j hj => ?_⟩
          exfalso
          have ht : (opd0 P st oj (.const u)).tag = 0 ∨ (opd0 P st oj (.const u)).tag = 1 := constD_tag01 P oj.type u
          have htag' : (opd0 P st oj (.const u)).tag = 2 ∨ (opd0 P st oj (.const u)).tag = 3 := htag
          omega
        | global g =>
          refine ⟨rfl, fun j hj => ?_⟩
          have : refs (opd0 P st oj (.global g)) = [] := rfl
          rw [this] at hj
          cases hj
        | func f =>
          refine ⟨rfl, fun j hj => ?_⟩
          have : refs (opd0 P st oj (.func f)) = [] := by
            have e : opd0 P st oj (.func f) = (match P.underlying oj.type with
                | some (.func _ _ _) => if P.cellsOf oj.type = 1 then dat oj.type (.held (.func (.func f) #[] #[])) else dead
                | _ => dead) := rfl
            rw [e]
            split
            · split <;> rfl
            · rfl
          rw [this] at hj
          cases hj
      obtain ⟨ho, hnr⟩ := hop
      rw [ho] at hv htag
      have hbx : (opd0 P st oj y).tag = 2 → (st.bx (opd0 P st oj y).id).map (·.row) = (((st.kill (st.get q).id).put (some d) (dat t (.slice (elemsD e.d ++ elemsD (opd P st t x).d) []))).bx (opd0 P st oj y).id).map (·.row) := by
        intro h2
        have hne : (opd0 P st oj y).id ≠ (st.get q).id := hnr _ (by rw [refs_2 h2]; simp)
        rw [put_bx, killB_bx, if_neg hne, Option.map_map]
        rfl
      have ej : evOp P env oj st = some (st.put oj.dst v) := hre st ho.symm (by rw [ho]; exact hbx)
      have kj : chkOp P env st oj = true := by unfold chkOp; rw [hoj]
      refine ⟨st.put oj.dst v, back oj st _ gj kj ej, ?_⟩
      have hvr : ∀ j ∈ refs v, j ≠ (st.get q).id := fun j hj => hnr j (hv j hj)
      have hs : Same oi (st.put oj.dst v) st := same_put a3
      have hcs := appOf_spec happ
      have hargs : c.args.toList = [.tmp q, x] := by rw [hcs]
      have hq : (st.put oj.dst v).get q = st.get q := hs q (by rw [hoi]; simp only [Op.operands, Call.operands, Array.toList_append, List.mem_append]; right; rw [hargs]; simp)
      have hx : ∀ t, opd P (st.put oj.dst v) t x = opd P st t x := fun t => opd_same hs (by rw [hoi]; simp only [Op.operands, Call.operands, Array.toList_append, List.mem_append]; right; rw [hargs]; simp) t
      have hr : rowOf (st.put oj.dst v) q t = rowOf st q t := rowOf_congr hq put_bx
      refine back oi _ _ gi ?_ ?_
      · have k1' := k1
        unfold chkOp at k1' ⊢
        simp only [hoi, hnn, happ, hr, hro, hx] at k1' ⊢
        exact k1'
      · unfold evOp
        simp only [hoi, hnn, happ, hda, if_true]
        unfold appData
        rw [hso, hd, hr, hro, hx, hq]
        simp only [hcond, if_true]
        rw [kill_put hvr]
        congr 1
        exact put_comm (fun i hi hh => a2 i (by rw [hd]; exact hh) hi)
    · cases e1
  · cases e1

theorem anyA_first3 (hpl : PlainE env) {G : St → Prop} {i : Nat} (hi : ops[i]? = some oi) :
    ∀ (n : Nat) (listed : Array Bool) (st s1 : St), ND2 st → Closed ops listed → i ∈ Region.ready .any ops listed →
      (∀ (j : Nat) (oj : Oper), ops[j]? = some oj → j ≠ i → listed.getD j true = false → (comm ops oi oj = true ∨ waits ops 8 j i = true) ∨ appFld env ops oi oj = true) →
      opStep P env ops oi st = some s1 → anyA P env ops G n (listed.setIfInBounds i true) s1 → anyA P env ops G (n + 1) listed st := by
  intro n
  induction n with
  | zero =>
    intro listed st s1 hn hc hr hfree h1 H
    refine ⟨fun h => (by rw [h] at hr; cases hr), fun j hj => ?_⟩
    by_cases hji : j = i
    · subst hji; exact ⟨oi, s1, hi, h1, H⟩
    · have := ready_mono hj hji
      rw [H.1] at this
      cases this
  | succ n ih =>
    intro listed st s1 hn hc hr hfree h1 H
    refine ⟨fun h => (by rw [h] at hr; cases hr), fun j hj => ?_⟩
    by_cases hji : j = i
    · subst hji; exact ⟨oi, s1, hi, h1, H⟩
    · obtain ⟨oj, s12, hoj, h2, hrest⟩ := H.2 j (ready_mono hj hji)
      have hiun := (mem_ready.1 hr).1
      have hjun := (mem_ready.1 hj).1
      have hd : ∃ s2, opStep P env ops oj st = some s2 ∧ opStep P env ops oi s2 = some s12 := by
        rcases hfree j oj hoj hji hjun with (h | h) | h
        · exact diamond hpl h hn.1 h1 h2
        · rw [no_wait_ready hc hiun hj] at h; cases h
        · exact diamond_app h h1 h2
      obtain ⟨s2, g1, g2⟩ := hd
      refine ⟨oj, s2, hoj, g1, ?_⟩
      refine ih (listed.setIfInBounds j true) s2 s12 (opStep_nd hpl hn g1) (closed_set hc hj) (ready_mono hr (Ne.symm hji)) ?_ g2 ?_
      · intro k ok hk hki hun
        refine hfree k ok hk hki ?_
        by_cases hjk : j = k
        · subst hjk; exact hjun
        · rw [getD_set_ne true hjk] at hun; exact hun
      · rw [Array.setIfInBounds_comm _ _ hji]
        exact hrest
theorem anyA_lex3 (hpl : PlainE env) (hlex : lexOK3 env ops = true) {G : St → Prop} (hG : G st') :
    ∀ (l : List Oper) (k : Nat) (listed : Array Bool) (st : St), (∀ j, l[j]? = ops[k + j]?) → listed.size = ops.size → (∀ j, j < ops.size → listed.getD j true = decide (j < k)) → k + l.length = ops.size →
      ND2 st → runOps P env ops l st = some st' → anyA P env ops G l.length listed st
  | [], k, listed, st, hl, hsz, hlist, hlen, hn, h => by
    simp only [runOps, Option.some.injEq] at h
    subst h
    refine ⟨?_, hG⟩
    rw [List.eq_nil_iff_forall_not_mem]
    intro j hj
    obtain ⟨h1, o, ho, _⟩ := mem_ready.1 hj
    have hlt : j < ops.size := (Array.getElem?_eq_some_iff.1 ho).1
    rw [hlist j hlt] at h1
    simp at hlen h1
    omega
  | o :: l, k, listed, st, hl, hsz, hlist, hlen, hn, h => by
    simp only [runOps] at h
    obtain ⟨s1, h1, h2⟩ := Option.bind_eq_some_iff.1 h
    have h0 : ops[k]? = some o := by simpa using (hl 0).symm
    have hk : k < ops.size := (Array.getElem?_eq_some_iff.1 h0).1
    have hlf : ∀ j, j < ops.size → listed.getD j false = decide (j < k) := fun j hj => by
      have := hlist j hj
      have hj' : j < listed.size := by omega
      simpa [hj'] using this
    unfold lexOK3 at hlex
    have hlex' := hlex
    rw [List.all_eq_true] at hlex'
    have hat : ∀ (j : Nat) (oj : Oper), ops[j]? = some oj → (∀ e ∈ oj.after, Region.binds .any e = true → e.on < j) ∧ ∀ (i : Nat) (oi : Oper), i < j → ops[i]? = some oi → (comm ops oi oj = true ∨ waits ops 8 j i = true) ∨ appFld env ops oi oj = true := by
      intro j oj hj
      have hlt : j < ops.size := (Array.getElem?_eq_some_iff.1 hj).1
      have := hlex' j (List.mem_range.2 hlt)
      rw [hj] at this
      simp only [Bool.and_eq_true, Array.all_eq_true_iff_forall_mem, List.all_eq_true] at this
      refine ⟨fun e he hb => ?_, fun i oi hij hi => ?_⟩
      · have := this.1 e he
        simpa [hb] using this
      · have := this.2 i (List.mem_range.2 hij)
        rw [hi] at this
        simpa using this
    have hready : k ∈ Region.ready .any ops listed := mem_ready.2 ⟨by rw [hlist k hk]; simp, o, h0, fun e he hb => by
      have hlt := (hat k o h0).1 e he hb
      rw [hlf e.on (by omega)]
      simpa using hlt⟩
    have hclosed : Closed ops listed := by
      intro j oj hj hjl e he hb
      have hlt : j < ops.size := (Array.getElem?_eq_some_iff.1 hj).1
      rw [hlf j hlt] at hjl
      have := (hat j oj hj).1 e he hb
      rw [hlf e.on (by omega)]
      simp at hjl ⊢
      omega
    refine anyA_first3 hpl h0 l.length listed st s1 hn hclosed hready ?_ h1 ?_
    · intro j oj hj hjk hun
      have hlt : j < ops.size := (Array.getElem?_eq_some_iff.1 hj).1
      rw [hlist j hlt] at hun
      simp at hun
      exact (hat j oj hj).2 k o (by omega) h0
    · refine anyA_lex3 hpl hlex hG l (k + 1) _ s1 (fun j => by have := hl (j + 1); simpa [Nat.add_assoc, Nat.add_comm 1 j] using this) (by simpa using hsz) ?_ (by simp at hlen; omega) (opStep_nd hpl hn h1) h2
      intro j hj
      by_cases hjk : k = j
      · subst hjk
        have : k < listed.size := by omega
        simp [this]
      · rw [getD_set_ne true hjk, hlist j hj]
        simp
        omega

theorem region_draw_sound3 (hpl : PlainE env) (hm : P.follows .mixedOrders = true) (henv : EnvOK P env) (hlex : lexOK3 env ops = true) {id : Nat} (h : runOps P env ops ops.toList st = some st') (R : Rel P F st a w)
    (hQ : ∀ a w, Rel P F st' a w → Q .normal a w) : (Code.region id ops true).wp P Q a w := by
  obtain ⟨ok, β, R⟩ := R
  refine wp_region_any hm ?_
  refine anyA_sound (G := fun s => s = st') henv (fun s a w hs R' => hQ a w (hs ▸ R')) _ _ st a _ ?_ ⟨ok, β, R.drawn⟩
  have := anyA_lex3 (G := fun s => s = st') hpl hlex rfl ops.toList 0 (Array.replicate ops.size false) st (by simp) (by simp) (fun j hj => by simp [hj]) (by simp) ⟨R.nd, R.hp.nb⟩ h
  simpa using this

end
end Go.Ev
