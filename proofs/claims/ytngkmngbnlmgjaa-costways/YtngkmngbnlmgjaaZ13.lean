/- Trees of functions, and lemmas. Nothing here is trusted. -/
import Derived.Test.YtngkmngbnlmgjaaZ12
namespace Go.Ev
open Go.RowKit
set_option linter.unusedVariables false
set_option linter.unusedSimpArgs false
section
variable {P : Program} {w w' : World} {ok ok' : Nat -> Prop} {β : Nat -> Nat × Nat} {ops : Array Oper}
variable {F : Fr P} {st st' s s' s1 s2 s12 : St} {a : Act} {env : Env} {o oi oj : Oper} {av : AV} {Q : Exit -> Act -> World -> Prop}

theorem EnvOK.part (h : EnvOK P env) : EnvOK P env.part := ⟨h.p, fun f t pre F args h r h' he => (by cases he), h.r, fun f t pre F args k d he => (by cases he), h.g⟩

theorem bornF_part {c : Call} (h : bornB env o = false) (hop : o.op = .call c) : bornF env.part c = bornF env.plain c := by
 have h1 : bornF env.plain c = none := bornF_none (plainE env)
 have h2 : bornF env.part c = bornF env c := rfl
 unfold bornB at h
 rw [hop] at h
 simp only at h
 rw [h1, h2]
 cases hb : bornF env c with
 | none => rfl
 | some x => rw [hb] at h; cases h

theorem chkOp_part (h : bornB env o = false) : chkOp P env.part st o = chkOp P env.plain st o := by
 unfold chkOp
 cases hop : o.op <;> try rfl
 case binOp op t x y yt => cases op <;> rfl
 case call c =>
  simp only
  rw [bornF_part h hop]
  rfl

theorem evOp_part (h : bornB env o = false) : evOp P env.part o st = evOp P env.plain o st := by
 unfold evOp
 cases hop : o.op <;> try rfl
 case next y b => cases y <;> cases b <;> rfl
 case call c =>
  simp only
  rw [bornF_part h hop, bornF_none (plainE env)]
  rfl

theorem opStep_part (h : bornB env o = false) : opStep P env.part ops o st = opStep P env.plain ops o st := by
 unfold opStep
 rw [chkOp_part h, evOp_part h]

theorem asked_free (h : o.guard = none) : asked P ops o st = some true := by unfold asked; rw [h]

/-- The names of what a call made, with what is there. -/
def bornL (d : Nat) (es : List Ent) : List (Nat × Ent) := (List.range es.length).map fun k => (d + (k + 1) * RID, (es.getD k ⟨0, .nil, 0, none⟩).ren (bwd (bornIds d es.length)) unhand)
theorem bornL_ids (d : Nat) (es : List Ent) : (bornL d es).map (·.1) = bornIds d es.length := by
 unfold bornL bornIds
 rw [List.map_map]
 rfl
theorem updL_bx : ∀ (m : List (Nat × Ent)) (st : St) (j : Nat), (m.map (·.1)).Nodup -> (updL st m).bx j = match m.find? (fun p => p.1 == j) with | some p => some p.2 | none => st.bx j
 | [], st, j, _ => rfl
 | p :: m, st, j, hn => by
  rw [List.map_cons, List.nodup_cons] at hn
  show (updL (st.upd p.1 p.2) m).bx j = _
  rw [updL_bx m _ j hn.2, List.find?_cons]
  by_cases hp : p.1 = j
  ·have hnone : m.find? (fun q => q.1 == j) = none := by
    rw [List.find?_eq_none]
    intro q hq hh
    apply hn.1
    rw [beq_iff_eq] at hh
    rw [hp, <- hh]
    exact List.mem_map.2 ⟨q, hq, rfl⟩
   simp only [hnone, beq_iff_eq, hp, upd_bx, if_true, beq_self_eq_true]
  ·have h1 : (p.1 == j) = false := by simpa using hp
   rw [h1]
   cases hf : m.find? (fun q => q.1 == j) with
   | none => simp only [hf, upd_bx]; rw [if_neg (fun hh => hp hh.symm)]
   | some q => rfl
theorem updL_sl : ∀ (m : List (Nat × Ent)) (st : St), (updL st m).sl = st.sl
 | [], st => rfl
 | p :: m, st => by show (updL (st.upd p.1 p.2) m).sl = st.sl; rw [updL_sl m]; rfl

theorem born_updL (st : St) (d : Nat) (es : List Ent) : st.born d es = updL st (bornL d es) := by
 have hsl : (st.born d es).sl = (updL st (bornL d es)).sl := by rw [updL_sl]; rfl
 have hbx : (st.born d es).bx = (updL st (bornL d es)).bx := by
  funext j
  rw [born_bx, updL_bx _ _ _ (by rw [bornL_ids]; exact bornIds_nodup _ _)]
  by_cases hj : j ∈ bornIds d es.length
  ·rw [if_pos hj]
   have hj' := hj
   unfold bornIds at hj'
   rw [List.mem_map] at hj'
   obtain ⟨k, hk, rfl⟩ := hj'
   have hk := List.mem_range.1 hk
   have hpos : posOf (bornIds d es.length) (d + (k + 1) * RID) = k := posOf_of_get (bornIds_nodup _ _) (bornIds_get hk)
   have h1 : bxOf es (fwd (bornIds d es.length) (d + (k + 1) * RID)) = es[k]? := by
    unfold bxOf fwd
    rw [hpos, if_neg (by omega), Nat.add_sub_cancel_left]
   rw [h1, List.getElem?_eq_getElem hk]
   have hfind : (bornL d es).find? (fun p => p.1 == d + (k + 1) * RID) = some (d + (k + 1) * RID, (es.getD k ⟨0, .nil, 0, none⟩).ren (bwd (bornIds d es.length)) unhand) := by
    cases hf : (bornL d es).find? (fun p => p.1 == d + (k + 1) * RID) with
    | none =>
     rw [List.find?_eq_none] at hf
     have := hf (d + (k + 1) * RID, (es.getD k ⟨0, .nil, 0, none⟩).ren (bwd (bornIds d es.length)) unhand) (List.mem_map.2 ⟨k, List.mem_range.2 hk, rfl⟩)
     simp at this
    | some p =>
     have hm := List.mem_of_find?_eq_some hf
     have hp := List.find?_some hf
     unfold bornL at hm
     rw [List.mem_map] at hm
     obtain ⟨q, hq, rfl⟩ := hm
     simp only [beq_iff_eq] at hp
     have : (q + 1) * RID = (k + 1) * RID := by omega
     have := Nat.eq_of_mul_eq_mul_right (by decide) this
     have hqk : q = k := by omega
     subst hqk
     rfl
   rw [hfind]
   simp [List.getD, hk]
  ·rw [if_neg hj]
   have : (bornL d es).find? (fun p => p.1 == j) = none := by
    rw [List.find?_eq_none]
    intro p hp hh
    rw [beq_iff_eq] at hh
    apply hj
    rw [<- bornL_ids, <- hh]
    exact List.mem_map.2 ⟨p, hp, rfl⟩
   rw [this]
 cases h1 : st.born d es with
 | mk a b => cases h2 : updL st (bornL d es) with
  | mk a' b' =>
   rw [h1, h2] at hsl hbx
   simp only at hsl hbx
   rw [hsl, hbx]

theorem opStep_updL (hpl : PlainE env) (hm : memCls o.op <= 1) : ∀ (m : List (Nat × Ent)) (st : St), ND st -> (∀ p ∈ m, st.bx p.1 = none) -> (m.map (·.1)).Nodup -> (∀ p ∈ m, o.dst ≠ some p.1) ->
  opStep P env ops o (updL st m) = (opStep P env ops o st).map fun s => updL s m
 | [], st, _, _, _, _ => by
  show opStep P env ops o st = (opStep P env ops o st).map fun s => s
  cases opStep P env ops o st <;> rfl
 | p :: m, st, hn, hb, hnd, hd => by
  rw [List.map_cons, List.nodup_cons] at hnd
  show opStep P env ops o (updL (st.upd p.1 p.2) m) = _
  rw [opStep_updL hpl hm m (st.upd p.1 p.2) (nd_upd hn _ _) (fun q hq => ?_) hnd.2 (fun q hq => hd q (List.mem_cons_of_mem _ hq)), opStep_upd1 hpl (by omega) (hb p (List.mem_cons_self ..)) hn (hd p (List.mem_cons_self ..))]
  ·cases opStep P env ops o st <;> rfl
  ·have hne : q.1 ≠ p.1 := fun he => hnd.1 (he ▸ List.mem_map.2 ⟨q, hq, rfl⟩)
   rw [upd_bx, if_neg hne]
   exact hb q (List.mem_cons_of_mem _ hq)

theorem born_off {c : Call} {x : TypeId × (List AV -> Bool) × (List AV -> Option (AV × List Ent))} (h : bornF env c = some x) :
  appNil c = none /\ appOf c = none /\ (∀ st, lenRow st c = none) /\ (∀ st, roSlot st c = none) /\ (∀ st, heapF P env.part st c = none) /\ freshF env.part c = none := by
 obtain ⟨f, hcal⟩ : ∃ f, c.callee = .value (.func f) := by
  unfold bornF at h
  split at h
  ·rename_i f hc; exact ⟨f, hc⟩
  ·cases h
 have hf : calleeOf P ⟨[], fun _ => none⟩ c.callee = some f := by rw [hcal]; rfl
 refine ⟨appNil_none hf, appOf_none hf, fun st => ?_, fun st => ?_, fun st => ?_, ?_⟩
 ·unfold lenRow lenOf
  rw [hcal]
 ·unfold roSlot
  rw [hcal]
 ·unfold heapF
  split
  ·split <;> rfl
  ·rfl
 ·unfold freshF
  split <;> rfl

theorem born_form (hb : bornB env o = true) (hg : o.guard = none) (h : opStep P env.part ops o st = some s1) :
  ∃ d r es, o.dst = some d /\ d < RID /\ (∀ i ∈ bornIds d es.length, st.bx i = none) /\ (inOut es.length (refs r) = true /\ ∀ e ∈ es, inOut es.length (refsE e) = true) /\
   s1 = (st.born d es).put (some d) (renA (bwd (bornIds d es.length)) r) /\
   ∀ s, Same o s st -> (∀ i ∈ bornIds d es.length, s.bx i = none) -> opStep P env.part ops o s = some ((s.born d es).put (some d) (renA (bwd (bornIds d es.length)) r)) := by
 unfold bornB at hb
 split at hb
 ·rename_i c hop
  obtain ⟨x, hx⟩ := Option.isSome_iff_exists.1 hb
  obtain ⟨q1, q2, q3, q4, q5, q6⟩ := born_off (P := P) hx
  have hxp : bornF env.part c = some x := hx
  obtain ⟨t, pre, FF⟩ := x
  have hev : ∀ s, evOp P env.part o s = bornCall P env.part o s c := by
   intro s
   unfold evOp
   rw [hop]
   simp only [q1, q2, q3, q4, q5, q6, hxp, Option.isSome_none, Option.isSome_some, Bool.false_eq_true, if_false, if_true]
  have hck : ∀ s, chkOp P env.part s o = match argsOf P s c.args.toList c.argTypes.toList with | some as => pre as | none => (match calleeOf P s c.callee, argsOf P s c.args.toList c.argTypes.toList with
    | some f, some as => (match env.p f with | some (_, pre, _) => pre (bndOf P s c.callee ++ as) | none => true)
    | _, _ => true) := by
   intro s
   unfold chkOp
   rw [hop]
   simp only [q1, q2, q4, q5, q6, hxp]
   cases argsOf P s c.args.toList c.argTypes.toList <;> rfl
  unfold opStep at h
  rw [asked_free hg] at h
  simp only at h
  split at h
  ·rename_i hchk
   rw [hev] at h
   have h0 := h
   unfold bornCall at h
   rw [hxp] at h
   split at h
   ·rename_i t' pre' FF' as d heq has hd
    cases heq
    split at h
    ·rename_i hcond
     split at h
     ·rename_i r es hF
      split at h
      ·rename_i hk
       cases h
       have hk' := hk
       simp only [Bool.and_eq_true, List.all_eq_true, decide_eq_true_eq] at hk'
       have hcond' := hcond
       simp only [Bool.and_eq_true, beq_iff_eq, decide_eq_true_eq] at hcond'
       refine ⟨d, r, es, hd, hcond'.2, fun i hi => by simpa using hk'.1.1 i hi, ⟨hk'.2.1, hk'.2.2⟩, rfl, fun s hs hfree => ?_⟩
       have has' : argsOf P s c.args.toList c.argTypes.toList = some as := by
        rw [<- has]
        refine argsOf_congr _ _ (fun y hy t => ?_)
        exact opd_same hs (by rw [hop]; simp only [Op.operands, Call.operands, Array.toList_append, List.mem_append]; exact .inr hy) t
       unfold opStep
       rw [asked_free hg, hck, has', hev]
       rw [hck, has] at hchk
       simp only at hchk ⊢
       rw [if_pos hchk]
       unfold bornCall
       rw [hxp, has', hd]
       simp only
       rw [if_pos hcond, hF]
       simp only
       have hk2 : (((bornIds d es.length).all fun i => (s.bx i).isNone) && decide (es.length <= 7) && (inOut es.length (refs r) && es.all fun e => inOut es.length (refsE e))) = true := by
        simp only [Bool.and_eq_true, List.all_eq_true, decide_eq_true_eq]
        exact ⟨⟨fun i hi => by rw [hfree i hi]; rfl, hk'.1.2⟩, hk'.2⟩
       rw [if_pos hk2]
      ·cases h
     ·cases h
    ·cases h
   ·cases h
  ·cases h
 ·cases hb

theorem born_nd (hn : ND2 st) {d : Nat} {r : AV} {es : List Ent} (hfree : ∀ i ∈ bornIds d es.length, st.bx i = none) (hr : inOut es.length (refs r) = true) (he : ∀ e ∈ es, inOut es.length (refsE e) = true) :
  ND2 ((st.born d es).put (some d) (renA (bwd (bornIds d es.length)) r)) := by
 have hnot : ∀ u, LiveB st.bx u -> LiveB (st.born d es).bx u := by
  intro u hl i hi
  have hni : i ∉ bornIds d es.length := fun hm => by have := hl i hi; rw [hfree i hm] at this; cases this
  rw [born_bx, if_neg hni]
  exact hl i hi
 have hnew : ∀ u : AV, inOut es.length (refs u) = true -> LiveB (st.born d es).bx (renA (bwd (bornIds d es.length)) u) := by
  intro u hu i hi
  rw [refs_ren, List.mem_map] at hi
  obtain ⟨k, hk, rfl⟩ := hi
  unfold inOut at hu
  rw [List.all_eq_true] at hu
  have hk2 := hu k hk
  simp only [Bool.and_eq_true, decide_eq_true_eq] at hk2
  obtain ⟨m1, m2⟩ := fwd_bwd (bornIds_nodup d es.length) hk2.1 (by rw [bornIds_len]; omega)
  rw [born_bx, if_pos m1, m2]
  unfold bxOf
  rw [if_neg (by omega), List.getElem?_eq_getElem (show k - OID < es.length by omega)]
  rfl
 refine put_nd ⟨fun i => hnot _ (hn.1 i), fun i e v hi hv => ?_⟩ (hnew r hr)
 rw [born_bx] at hi
 split at hi
 ·obtain ⟨e0, he0, rfl⟩ := Option.map_eq_some_iff.1 hi
  simp only [Ent.ren, Option.map_eq_some_iff] at hv
  obtain ⟨u, hu, rfl⟩ := hv
  refine hnew u ?_
  have hm : e0 ∈ es := by
   unfold bxOf at he0
   split at he0
   ·cases he0
   ·exact List.mem_of_getElem? he0
  have := he e0 hm
  unfold refsE at this
  rw [hu] at this
  exact this
 ·exact hnot _ (hn.2 i e v hi hv)

theorem opStep_nd6 (hg : bornB env o = true -> o.guard = none) (hn : ND2 st) (h : opStep P env.part ops o st = some s') : ND2 s' := by
 by_cases hb : bornB env o = true
 ·obtain ⟨d, r, es, _, _, hfree, ⟨hr, he⟩, rfl, _⟩ := born_form hb (hg hb) h
  exact born_nd hn hfree hr he
 ·have hb : bornB env o = false := by simpa using hb
  rw [opStep_part hb] at h
  exact opStep_nd (plainE env) hn h

theorem low_ne {d m : Nat} (hl : lowD o = true) : ∀ p ∈ bornIds d m, o.dst ≠ some p := by
 intro p hp hh
 unfold lowD at hl
 rw [hh] at hl
 unfold bornIds at hp
 rw [List.mem_map] at hp
 obtain ⟨k, _, rfl⟩ := hp
 have hl : d + (k + 1) * RID < RID := by simpa using hl
 have h2 : RID <= (k + 1) * RID := Nat.le_mul_of_pos_left _ (by omega)
 exact absurd hl (Nat.not_lt.2 (Nat.le_trans h2 (Nat.le_add_left _ _)))

theorem diamond6 (hc : pair6 env ops oi oj = true) (hn : ND st) (h1 : opStep P env.part ops oi st = some s1) (h2 : opStep P env.part ops oj s1 = some s12) :
  ∃ s2, opStep P env.part ops oj st = some s2 /\ opStep P env.part ops oi s2 = some s12 := by
 unfold pair6 at hc
 by_cases hbi : bornB env oi = true
 ·rw [hbi, cond_true] at hc
  simp only [Bool.and_eq_true, Option.isNone_iff_eq_none, decide_eq_true_eq, Bool.not_eq_true'] at hc
  obtain ⟨⟨⟨⟨hap, hgi⟩, hmj⟩, hbj⟩, hlj⟩ := hc
  obtain ⟨a1, a2, a3⟩ := Oper.apart_spec hap
  obtain ⟨d, r, es, hd, hlt, hfree, _, rfl, hre⟩ := born_form hbi hgi h1
  rw [opStep_part hbj] at h2
  rw [hd] at a1 a2
  rw [opStep_put (plainE env) (by omega) a1 a2, born_updL, opStep_updL (plainE env) hmj _ _ hn (fun p hp => hfree _ (by rw [<- bornL_ids]; exact List.mem_map.2 ⟨p, hp, rfl⟩)) (by rw [bornL_ids]; exact bornIds_nodup _ _)
   (fun p hp => low_ne hlj p.1 (by rw [<- bornL_ids]; exact List.mem_map.2 ⟨p, hp, rfl⟩))] at h2
  obtain ⟨s3, hs3, rfl⟩ := Option.map_eq_some_iff.1 h2
  obtain ⟨s2, hs2, rfl⟩ := Option.map_eq_some_iff.1 hs3
  obtain ⟨v, rfl⟩ := step_put (plainE env) hmj hs2
  refine ⟨st.put oj.dst v, by rw [opStep_part hbj]; exact hs2, ?_⟩
  rw [hre _ (same_put a3) (fun i hi => by rw [put_bx]; exact hfree i hi), born_updL]
 ·have hbi : bornB env oi = false := by simpa using hbi
  rw [hbi, cond_false] at hc
  by_cases hbj : bornB env oj = true
  ·rw [hbj, cond_true] at hc
   simp only [Bool.and_eq_true, Option.isNone_iff_eq_none, decide_eq_true_eq] at hc
   obtain ⟨⟨⟨hap, hgj⟩, hmi⟩, hli⟩ := hc
   obtain ⟨a1, a2, a3⟩ := Oper.apart_spec hap
   rw [opStep_part hbi] at h1
   obtain ⟨v, rfl⟩ := step_put (plainE env) hmi h1
   obtain ⟨d, r, es, hd, hlt, hfree, _, rfl, hre⟩ := born_form hbj hgj h2
   have hfree' : ∀ i ∈ bornIds d es.length, st.bx i = none := fun i hi => by have := hfree i hi; rwa [put_bx] at this
   refine ⟨_, hre st (fun i hi => ((same_put a1) i hi).symm) hfree', ?_⟩
   have a4 : ∀ d', some d = some d' -> oi.dst ≠ some d' := by
    intro d' hd' hh
    have := a2 d' hh
    rw [hd] at this
    exact this hd'
   rw [hd] at a3
   rw [opStep_part hbi, opStep_put (plainE env) (by omega) a3 a4, born_updL, opStep_updL (plainE env) hmi _ _ hn (fun p hp => hfree' _ (by rw [<- bornL_ids]; exact List.mem_map.2 ⟨p, hp, rfl⟩)) (by rw [bornL_ids]; exact bornIds_nodup _ _)
    (fun p hp => low_ne hli p.1 (by rw [<- bornL_ids]; exact List.mem_map.2 ⟨p, hp, rfl⟩)), h1]
   simp only [Option.map_some, born_updL, updL_put]
  ·have hbj : bornB env oj = false := by simpa using hbj
   rw [hbj, cond_false] at hc
   rw [opStep_part hbi] at h1
   rw [opStep_part hbj] at h2
   obtain ⟨s2, g1, g2⟩ := diamond (plainE env) hc hn h1 h2
   exact ⟨s2, by rw [opStep_part hbj]; exact g1, by rw [opStep_part hbi]; exact g2⟩

theorem anyA_first6 (hgd : ∀ (j : Nat) (oj : Oper), ops[j]? = some oj -> bornB env oj = true -> oj.guard = none) {G : St -> Prop} {i : Nat} (hi : ops[i]? = some oi) :
  ∀ (n : Nat) (listed : Array Bool) (st s1 : St), ND2 st -> Closed ops listed -> i ∈ Region.ready .any ops listed ->
   (∀ (j : Nat) (oj : Oper), ops[j]? = some oj -> j ≠ i -> listed.getD j true = false -> pair6 env ops oi oj = true \/ waits ops 8 j i = true) ->
   opStep P env.part ops oi st = some s1 -> anyA P env.part ops G n (listed.setIfInBounds i true) s1 -> anyA P env.part ops G (n + 1) listed st := by
 intro n
 induction n with
 | zero =>
  intro listed st s1 hn hc hr hfree h1 H
  refine ⟨fun h => (by rw [h] at hr; cases hr), fun j hj => ?_⟩
  by_cases hji : j = i
  ·subst hji; exact ⟨oi, s1, hi, h1, H⟩
  ·have := ready_mono hj hji
   rw [H.1] at this
   cases this
 | succ n ih =>
  intro listed st s1 hn hc hr hfree h1 H
  refine ⟨fun h => (by rw [h] at hr; cases hr), fun j hj => ?_⟩
  by_cases hji : j = i
  ·subst hji; exact ⟨oi, s1, hi, h1, H⟩
  ·obtain ⟨oj, s12, hoj, h2, hrest⟩ := H.2 j (ready_mono hj hji)
   have hiun := (mem_ready.1 hr).1
   have hjun := (mem_ready.1 hj).1
   have hcomm : pair6 env ops oi oj = true := by
    rcases hfree j oj hoj hji hjun with h | h
    ·exact h
    ·rw [no_wait_ready hc hiun hj] at h; cases h
   obtain ⟨s2, g1, g2⟩ := diamond6 hcomm hn.1 h1 h2
   refine ⟨oj, s2, hoj, g1, ?_⟩
   refine ih (listed.setIfInBounds j true) s2 s12 (opStep_nd6 (hgd j oj hoj) hn g1) (closed_set hc hj) (ready_mono hr (Ne.symm hji)) ?_ g2 ?_
   ·intro k ok hk hki hun
    refine hfree k ok hk hki ?_
    by_cases hjk : j = k
    ·subst hjk; exact hjun
    ·rw [getD_set_ne true hjk] at hun; exact hun
   ·rw [Array.setIfInBounds_comm _ _ hji]
    exact hrest

theorem anyA_lex6 (hgd : ∀ (j : Nat) (oj : Oper), ops[j]? = some oj -> bornB env oj = true -> oj.guard = none) (hlex : lexOK6 env ops = true) {G : St -> Prop} (hG : G st') :
  ∀ (l : List Oper) (k : Nat) (listed : Array Bool) (st : St), (∀ j, l[j]? = ops[k + j]?) -> listed.size = ops.size -> (∀ j, j < ops.size -> listed.getD j true = decide (j < k)) -> k + l.length = ops.size ->
   ND2 st -> runOps P env.part ops l st = some st' -> anyA P env.part ops G l.length listed st
 | [], k, listed, st, hl, hsz, hlist, hlen, hn, h => by
  simp only [runOps, Option.some.injEq] at h
  subst h
  refine ⟨?_, hG⟩
  rw [List.eq_nil_iff_forall_not_mem]
  intro j hj
  obtain ⟨h1, o, ho, _⟩ := mem_ready.1 hj
  have hlt : j < ops.size := (Array.getElem?_eq_some_iff.1 ho).1
  rw [hlist j hlt] at h1
  simp at hlen h1
  omega
 | o :: l, k, listed, st, hl, hsz, hlist, hlen, hn, h => by
  simp only [runOps] at h
  obtain ⟨s1, h1, h2⟩ := Option.bind_eq_some_iff.1 h
  have h0 : ops[k]? = some o := by simpa using (hl 0).symm
  have hk : k < ops.size := (Array.getElem?_eq_some_iff.1 h0).1
  have hlf : ∀ j, j < ops.size -> listed.getD j false = decide (j < k) := fun j hj => by
   have := hlist j hj
   have hj' : j < listed.size := by omega
   simpa [hj'] using this
  unfold lexOK6 at hlex
  have hlex' := hlex
  rw [List.all_eq_true] at hlex'
  have hat : ∀ (j : Nat) (oj : Oper), ops[j]? = some oj -> (∀ e ∈ oj.after, Region.binds .any e = true -> e.on < j) /\ ∀ (i : Nat) (oi : Oper), i < j -> ops[i]? = some oi -> pair6 env ops oi oj = true \/ waits ops 8 j i = true := by
   intro j oj hj
   have hlt : j < ops.size := (Array.getElem?_eq_some_iff.1 hj).1
   have := hlex' j (List.mem_range.2 hlt)
   rw [hj] at this
   simp only [Bool.and_eq_true, Array.all_eq_true_iff_forall_mem, List.all_eq_true] at this
   refine ⟨fun e he hb => ?_, fun i oi hij hi => ?_⟩
   ·have := this.1.2 e he
    simpa [hb] using this
   ·have := this.2 i (List.mem_range.2 hij)
    rw [hi] at this
    simpa using this
  have hready : k ∈ Region.ready .any ops listed := mem_ready.2 ⟨by rw [hlist k hk]; simp, o, h0, fun e he hb => by
   have hlt := (hat k o h0).1 e he hb
   rw [hlf e.on (by omega)]
   simpa using hlt⟩
  have hclosed : Closed ops listed := by
   intro j oj hj hjl e he hb
   have hlt : j < ops.size := (Array.getElem?_eq_some_iff.1 hj).1
   rw [hlf j hlt] at hjl
   have := (hat j oj hj).1 e he hb
   rw [hlf e.on (by omega)]
   simp at hjl ⊢
   omega
  refine anyA_first6 hgd h0 l.length listed st s1 hn hclosed hready ?_ h1 ?_
  ·intro j oj hj hjk hun
   have hlt : j < ops.size := (Array.getElem?_eq_some_iff.1 hj).1
   rw [hlist j hlt] at hun
   simp at hun
   exact (hat j oj hj).2 k o (by omega) h0
  ·refine anyA_lex6 hgd hlex hG l (k + 1) _ s1 (fun j => by have := hl (j + 1); simpa [Nat.add_assoc, Nat.add_comm 1 j] using this) (by simpa using hsz) ?_ (by simp at hlen; omega) (opStep_nd6 (hgd k o h0) hn h1) h2
   intro j hj
   by_cases hjk : k = j
   ·subst hjk
    have : k < listed.size := by omega
    simp [this]
   ·rw [getD_set_ne true hjk, hlist j hj]
    simp
    omega

theorem region_draw_sound6 (hm : P.follows .mixedOrders = true) (henv : EnvOK P env) (hlex : lexOK6 env ops = true) {id : Nat} (h : runOps P env.part ops ops.toList st = some st') (R : Rel P F st a w)
  (hQ : ∀ a w, Rel P F st' a w -> Q .normal a w) : (Code.region id ops true).wp P Q a w := by
 obtain ⟨ok, β, R⟩ := R
 have hgd : ∀ (j : Nat) (oj : Oper), ops[j]? = some oj -> bornB env oj = true -> oj.guard = none := by
  intro j oj hj hb
  unfold lexOK6 at hlex
  rw [List.all_eq_true] at hlex
  have := hlex j (List.mem_range.2 (Array.getElem?_eq_some_iff.1 hj).1)
  rw [hj] at this
  simp only [Bool.and_eq_true, hb, Bool.not_true, Bool.false_or, Option.isNone_iff_eq_none] at this
  exact this.1.1
 refine wp_region_any hm ?_
 refine anyA_sound (G := fun s => s = st') henv.part (fun s a w hs R' => hQ a w (hs ▸ R')) _ _ st a _ ?_ ⟨ok, β, R.drawn⟩
 have := anyA_lex6 (G := fun s => s = st') hgd hlex rfl ops.toList 0 (Array.replicate ops.size false) st (by simp) (by simp) (fun j hj => by simp [hj]) (by simp) ⟨R.nd, R.hp.nb⟩ h
 simpa using this

end
end Go.Ev
