/- Trees of functions, and lemmas. Nothing here is trusted. -/
import Derived.Test.YtngkmngbnlmgjaaZ09
namespace Go.Ev
open Go.RowKit
set_option linter.unusedVariables false
set_option linter.unusedSimpArgs false
section
section
variable {P : Program} {w w' : World} {ok ok' : Nat -> Prop} {β : Nat -> Nat × Nat} {ops : Array Oper}
variable {F : Fr P} {st st' s s' s1 s2 s12 : St} {a : Act} {env : Env} {o oi oj : Oper} {av : AV} {Q : Exit -> Act -> World -> Prop}

theorem opStep_upd0 (hpl : PlainE env) {i : Nat} {e : Ent} (hm : memCls o.op = 0) : opStep P env ops o (st.upd i e) = (opStep P env ops o st).map fun s => s.upd i e := by
 unfold opStep
 rw [asked_upd, chkOp_congr hpl (by omega) (same_upd (st := st) (i := i) (e := e)) (fun h1 => by omega) (fun h1 => by omega)]
 split
 ·split
  ·exact evOp_upd0 hpl hm
  ·rfl
 ·simp only [Option.map_some, upd_put]
 ·rfl

theorem opStep_upd1 (hpl : PlainE env) {i : Nat} {e : Ent} (hm : memCls o.op <= 2) (hi : st.bx i = none) (hn : ND st) (hd : o.dst ≠ some i) : opStep P env ops o (st.upd i e) = (opStep P env ops o st).map fun s => s.upd i e := by
 unfold opStep
 rw [asked_upd, chkOp_congr hpl (by omega) (same_upd (st := st) (i := i) (e := e)) (fun _ t y hro => rowX_upd hi hn) (fun _ c k _ hro => roEnts_upd hi _ (fun j hj => hn k j (by rw [refs_4 (roSlot_spec hro).2]; exact hj)))]
 split
 ·split
  ·exact evOp_upd1 hpl hm hi hn hd
  ·rfl
 ·simp only [Option.map_some, upd_put]
 ·rfl

theorem evOp_new (hpl : PlainE env) (hm : memCls o.op = 2) (h : evOp P env o st = some s') : ∃ d e b, o.dst = some d /\ st.bx d = none /\ s' = (st.upd d e).put (some d) b /\
  ∀ s2, Same o s2 st -> s2.bx d = none -> evOp P env o s2 = some ((s2.upd d e).put (some d) b) := by
 unfold evOp opd0 at h
 cases hop : o.op <;> simp only [litRow_plain hpl, Bool.false_eq_true, if_false, hop] at h hm <;> try (simp [memCls] at hm; done)
 case alloc t =>
  rw [hpl.1] at h
  simp only [Bool.false_and, Bool.false_eq_true, if_false] at h
  split at h
  ·rename_i d z hd hz
   split at h
   ·rename_i hf
    rw [Bool.and_eq_true] at hf
    cases h
    have hf' : st.bx d = none := by simpa using hf.1
    have hlt : d < RID := by simpa using hf.2
    refine ⟨d, _, _, hd, hf', rfl, fun s2 _ h2 => ?_⟩
    unfold evOp opd0
    simp [hop, hd, hz, h2, hpl.1, hlt]
   ·cases h
  ·cases h
 case box t y =>
  split at h
  ·rename_i d hd
   split at h
   ·rename_i hf
    rw [Bool.and_eq_true] at hf
    have hf' : st.bx d = none := by simpa using hf.1
    have hlt : d < RID := by simpa using hf.2
    split at h
    ·rename_i hc
     cases h
     refine ⟨d, _, _, hd, hf', rfl, fun s2 hs h2 => ?_⟩
     have key := opd_same (P := P) (x := y) hs (by simp [hop, Op.operands]) t
     unfold evOp opd0
     simp only [hop, hd, key, h2, hc, if_true]
     simp [hlt]
    ·rename_i hc
     split at h
     ·rename_i hc2
      cases h
      refine ⟨d, _, _, hd, hf', rfl, fun s2 hs h2 => ?_⟩
      have key := opd_same (P := P) (x := y) hs (by simp [hop, Op.operands]) t
      unfold evOp opd0
      simp only [hop, hd, key, h2, hc, hc2, if_true]
      simp [hlt]
     ·cases h
   ·cases h
  ·cases h
 case makeSlice t y z1 =>
  split at h
  ·rename_i d el hd hso
   split at h
   ·rename_i z hz
    split at h
    ·rename_i hf
     have hf0 := hf
     simp only [Bool.and_eq_true] at hf
     cases h
     have hf' : st.bx d = none := by simpa using hf.1.1.1
     refine ⟨d, _, _, hd, hf', rfl, fun s2 hs h2 => ?_⟩
     have key := opd_same (P := P) (x := y) hs (by simp [hop, Op.operands]) P.rt.int
     have key2 := opd_same (P := P) (x := z1) hs (by simp [hop, Op.operands]) P.rt.int
     unfold evOp opd0
     simp only [hop, hd, hso, hz, key, key2, h2]
     rw [hf'] at hf0
     rw [if_pos hf0]
    ·cases h
   ·cases h
  ·cases h
 case assign y =>
  split at h
  ·rename_i hn
   unfold nilRow at h
   split at h
   ·rename_i d z hd hz
    split at h
    ·rename_i hf
     rw [Bool.and_eq_true] at hf
     cases h
     have hf' : st.bx d = none := by simpa using hf.1
     have hlt : d < RID := by simpa using hf.2
     refine ⟨d, _, _, hd, hf', rfl, fun s2 _ h2 => ?_⟩
     unfold evOp opd0
     simp [hop, hn, nilRow, hd, hz, h2, hlt]
    ·cases h
   ·cases h
  ·rename_i hn
   simp [memCls, hn] at hm
 case call c =>
  obtain ⟨y, t, hn⟩ := nil_not hm
  simp only [hn] at h
  unfold appNew at h
  split at h
  ·rename_i d el hd hso
   split at h
   ·rename_i hf
    have hf0 := hf
    simp only [Bool.and_eq_true] at hf
    cases h
    have hf' : st.bx d = none := by simpa using hf.1.2
    refine ⟨d, _, _, hd, hf', rfl, fun s2 hs h2 => ?_⟩
    have hy : y ∈ c.args.toList := by rw [appNil_spec hn]; simp
    have key := opd_same (P := P) (x := y) hs (by simp only [hop, Op.operands, Call.operands, Array.toList_append, List.mem_append]; exact .inr hy) t
    unfold evOp opd0
    simp only [hop, hn]
    unfold appNew
    simp only [hd, hso, key, h2]
    rw [hf'] at hf0
    rw [if_pos hf0]
   ·cases h
  ·cases h

theorem evOp_store (hpl : PlainE env) (hm : memCls o.op = 3) (h : evOp P env o st = some s') : ∃ i e, s' = st.upd i e /\ o.dst = none /\ (st.bx i).isSome = true := by
 unfold evOp opd0 at h
 cases hop : o.op <;> simp only [litRow_plain hpl, Bool.false_eq_true, if_false, hop] at h hm <;> try (simp [memCls] at hm; done)
 case assign y =>
  cases hn : isNilC y <;> simp [memCls, hn] at hm
 case call c =>
  exfalso
  simp only [memCls] at hm
  cases hn : (appNil c).isSome <;> cases ha : (appOf c).isSome <;> cases hl : (lenOf c).isSome <;> cases ht : tmpCallee c <;> simp [hn, ha, hl, ht] at hm
 case store t x y =>
  simp only [hpl.1, Bool.false_or, Bool.false_eq_true, if_false] at h
  split at h
  ·rename_i hc
   have hd : o.dst = none := by simpa using hc
   split at h
   ·rename_i e v k hsp
    have hsp : splAt P st t (opd P st o.type x) = some (e, v, k) := by
     split at hsp
     ·exact hsp
     ·cases hsp
    have he := (splAt_spec hsp).2.2.2.1
    unfold stF at h
    split at h
    ·cases h; exact ⟨_, _, rfl, hd, by rw [he]; rfl⟩
    ·split at h
     ·split at h
      ·split at h
       ·cases h; exact ⟨_, _, rfl, hd, by rw [he]; rfl⟩
       ·cases h
      ·cases h
     ·cases h
   split at h
   rotate_left
   ·unfold stC at h
    split at h
    ·split at h
     ·rename_i e he
      split at h
      ·cases h; exact ⟨_, _, rfl, hd, by rw [he]; rfl⟩
      ·cases h
     ·cases h
    ·cases h
   unfold stA at h
   split at h
   ·split at h
    ·rename_i e he
     split at h
     ·split at h
      ·split at h
       ·split at h
        ·cases h; exact ⟨_, _, rfl, hd, by rw [he]; rfl⟩
        ·cases h
       ·split at h
        ·cases h
        ·split at h
         ·split at h
          ·cases h; exact ⟨_, _, rfl, hd, by rw [he]; rfl⟩
          ·cases h
         ·cases h
      ·split at h
       ·cases h; exact ⟨_, _, rfl, hd, by rw [he]; rfl⟩
       ·cases h
     ·split at h
      ·obtain ⟨e', _, rfl⟩ := Option.map_eq_some_iff.1 h
       exact ⟨_, _, rfl, hd, by rw [he]; rfl⟩
      ·cases h
    ·cases h
   ·cases h
  ·cases h

theorem step_cases (h : opStep P env ops o st = some s') :
  (asked P ops o st = some false /\ s' = st.put o.dst undA) \/ (asked P ops o st = some true /\ chkOp P env st o = true /\ evOp P env o st = some s') := by
 unfold opStep at h
 split at h
 ·rename_i ha
  split at h
  ·rename_i hc; exact .inr ⟨ha, hc, h⟩
  ·cases h
 ·rename_i ha; cases h; exact .inl ⟨ha, rfl⟩
 ·cases h

theorem opStep_mk (ha : asked P ops o st = some true) (hc : chkOp P env st o = true) (h : evOp P env o st = some s') : opStep P env ops o st = some s' := by
 unfold opStep; rw [ha]; simp [hc, h]
theorem opStep_skip (ha : asked P ops o st = some false) : opStep P env ops o st = some (st.put o.dst undA) := by
 unfold opStep; rw [ha]

theorem diamond (hpl : PlainE env) (hc : comm ops oi oj = true) (hn : ND st) (h1 : opStep P env ops oi st = some s1) (h2 : opStep P env ops oj s1 = some s12) :
  ∃ s2, opStep P env ops oj st = some s2 /\ opStep P env ops oi s2 = some s12 := by
 unfold comm at hc
 simp only [Bool.and_eq_true, Bool.not_eq_true', Bool.and_eq_false_iff, beq_eq_false_iff_ne, decide_eq_false_iff_not] at hc
 obtain ⟨⟨⟨⟨hap, li⟩, lj⟩, hc1⟩, hc2⟩ := hc
 have li : memCls oi.op <= 3 := by simpa using li
 have lj : memCls oj.op <= 3 := by simpa using lj
 obtain ⟨a1, a2, a3⟩ := Oper.apart_spec hap
 have a4 : ∀ d, oj.dst = some d -> oi.dst ≠ some d := fun d hd hd' => a2 d hd' hd
 -- what oi does if it only puts
 have hput : ∀ v, s1 = st.put oi.dst v -> (asked P ops oi st = some false \/ memCls oi.op <= 1) -> ∃ s2, opStep P env ops oj st = some s2 /\ opStep P env ops oi s2 = some s12 := by
  intro v hs1 hkind
  subst hs1
  rw [opStep_put hpl lj a1 a2] at h2
  obtain ⟨s2, hs2, rfl⟩ := Option.map_eq_some_iff.1 h2
  refine ⟨s2, hs2, ?_⟩
  have hupd : ∀ i e, (memCls oj.op = 3 \/ (st.bx i = none /\ oj.dst = some i)) -> opStep P env ops oi (st.upd i e) = some ((st.upd i e).put oi.dst v) := by
   intro i e hi
   rcases hkind with hk | hk
   ·rw [opStep_skip hk] at h1
    have : (st.put oi.dst undA) = st.put oi.dst v := Option.some.inj h1
    rw [opStep_skip (by rw [asked_upd]; exact hk)]
    rw [<- upd_put, <- upd_put, this]
   ·rcases hi with hi | ⟨hi, hd⟩
    ·rw [opStep_upd0 hpl (by omega), h1]
     simp only [Option.map_some, upd_put]
    ·rw [opStep_upd1 hpl (by omega) hi hn (a4 i hd), h1]
     simp only [Option.map_some, upd_put]
  rcases step_cases hs2 with ⟨_, rfl⟩ | ⟨haj, hcj, hej⟩
  ·rw [opStep_put hpl li a3 a4, h1]
   simp only [Option.map_some, Option.some.injEq]
   exact put_comm a2
  ·by_cases hj1 : memCls oj.op <= 1
   ·obtain ⟨u, rfl⟩ := evOp_shape hpl hj1 hej
    rw [opStep_put hpl li a3 a4, h1]
    simp only [Option.map_some, Option.some.injEq]
    exact put_comm a2
   ·by_cases hj2 : memCls oj.op = 2
    ·obtain ⟨d, e, b, hd, hf, rfl, _⟩ := evOp_new hpl hj2 hej
     rw [hd] at a3 a4
     rw [opStep_put hpl li a3 a4, hupd d e (.inr ⟨hf, hd⟩)]
     simp only [Option.map_some, Option.some.injEq]
     rw [hd] at a2
     exact put_comm a2
    ·obtain ⟨i, e, rfl, hd, _⟩ := evOp_store hpl (by omega) hej
     exact hupd i e (.inl (by omega))
 rcases step_cases h1 with ⟨hai, hs1⟩ | ⟨hai, hci, hei⟩
 ·exact hput _ hs1 (.inl hai)
 ·by_cases hi1 : memCls oi.op <= 1
  ·obtain ⟨v, hv⟩ := evOp_shape hpl hi1 hei
   exact hput v hv (.inr hi1)
  ·by_cases hi2 : memCls oi.op = 2
   ·obtain ⟨d, e, b, hd, hf, rfl, hre⟩ := evOp_new hpl hi2 hei
    have hjd : oj.dst ≠ some d := fun hh => a2 d hd hh
    rw [hd] at a1 a2
    rw [opStep_put hpl lj a1 a2, opStep_upd1 hpl (by omega) hf hn hjd] at h2
    obtain ⟨s3, hs3, rfl⟩ := Option.map_eq_some_iff.1 h2
    obtain ⟨s2, hs2, rfl⟩ := Option.map_eq_some_iff.1 hs3
    refine ⟨s2, hs2, ?_⟩
    have hsame : asked P ops oi s2 = some true /\ Same oi s2 st /\ s2.bx d = none := by
     rcases step_cases hs2 with ⟨_, rfl⟩ | ⟨_, _, hej⟩
     ·exact ⟨by rw [asked_put a3]; exact hai, same_put a3, by rw [put_bx]; exact hf⟩
     ·by_cases hj1 : memCls oj.op <= 1
      ·obtain ⟨u, rfl⟩ := evOp_shape hpl hj1 hej
       exact ⟨by rw [asked_put a3]; exact hai, same_put a3, by rw [put_bx]; exact hf⟩
      ·obtain ⟨d', e', b', hd', hf', rfl, _⟩ := evOp_new hpl (by omega) hej
       rw [hd'] at a3
       have hne : d ≠ d' := fun hh => hjd (by rw [hd', hh])
       exact ⟨by rw [asked_put a3, asked_upd]; exact hai, (same_put a3).trans same_upd, by rw [put_bx, upd_bx, if_neg hne]; exact hf⟩
    obtain ⟨g1, g2, g3⟩ := hsame
    exact opStep_mk g1 (by rw [chkOp_congr hpl li g2 (fun h1 => by omega) (fun h1 => by omega)]; exact hci) (hre s2 g2 g3)
   ·obtain ⟨i, e, rfl, hd, _⟩ := evOp_store hpl (by omega) hei
    have hj0 : memCls oj.op = 0 := by omega
    rw [opStep_upd0 hpl hj0] at h2
    obtain ⟨s2, hs2, rfl⟩ := Option.map_eq_some_iff.1 h2
    refine ⟨s2, hs2, ?_⟩
    have hp : ∃ u, s2 = st.put oj.dst u := by
     rcases step_cases hs2 with ⟨_, rfl⟩ | ⟨_, _, hej⟩
     ·exact ⟨_, rfl⟩
     ·exact evOp_shape hpl (by omega) hej
    obtain ⟨u, rfl⟩ := hp
    rw [opStep_put hpl li a3 a4, h1]
    simp only [Option.map_some, upd_put]

/-- Nor does what stands in variables. -/
def ND2 (st : St) : Prop := ND st /\ ∀ i e v, st.bx i = some e -> e.c = some v -> LiveB st.bx v

theorem put_nd (hn : ND2 st) {d : Option Nat} {v : AV} (hv : LiveB st.bx v) : ND2 (st.put d v) := by
 refine ⟨fun i => ?_, by rw [put_bx]; exact hn.2⟩
 rw [get_put, put_bx]
 split
 ·exact hv
 ·exact hn.1 i

theorem live_upd {i : Nat} {e : Ent} {v : AV} (h : LiveB st.bx v) : LiveB (st.upd i e).bx v := by
 intro j hj
 rw [upd_bx]
 split
 ·rfl
 ·exact h j hj

theorem upd_nd (hn : ND2 st) (i : Nat) (e : Ent) (hc : ∀ v, e.c = some v -> LiveB st.bx v) : ND2 (st.upd i e) := by
 refine ⟨fun j => live_upd (hn.1 j), fun j f v hj hv => ?_⟩
 rw [upd_bx] at hj
 split at hj
 ·cases hj; exact live_upd (hc v hv)
 ·exact live_upd (hn.2 j f v hj hv)

theorem renew_nd (hn : ND2 st) (i : Nat) (e : Ent) (hc : e.c = none) : ND2 (st.renew i e) := by
 have key : ∀ v, LiveB st.bx v -> LiveB (st.renew i e).bx (killL [i] v) := by
  intro v hv
  rcases killL_cases [i] v with h | ⟨h, hne⟩
  ·rw [h]; exact live_of_refs (refs_dz v)
  ·rw [h]
   intro j hj
   have hji : j ≠ i := fun hh => hne j hj (by simp [hh])
   rw [renew_bx, if_neg hji]
   simpa using hv j hj
 refine ⟨fun j => by rw [renew_get]; exact key _ (hn.1 j), fun j f v hj hv => ?_⟩
 rw [renew_bx] at hj
 split at hj
 ·cases hj; rw [hc] at hv; cases hv
 ·obtain ⟨g, hg, rfl⟩ := Option.map_eq_some_iff.1 hj
  simp only [Ent.mapC, Option.map_eq_some_iff] at hv
  obtain ⟨u, hu, rfl⟩ := hv
  exact key u (hn.2 j g u hg hu)

theorem killB_get (i j : Nat) : (st.kill i).get j = killL [i] (st.get j) := map_get _ (killL_dead _) j
theorem killB_bx (i j : Nat) : (st.kill i).bx j = if j = i then none else (st.bx j).map (Ent.mapC (killL [i])) := rfl
theorem killB_nd (hn : ND2 st) (i : Nat) : ND2 (st.kill i) := by
 have key : ∀ v, LiveB st.bx v -> LiveB (st.kill i).bx (killL [i] v) := by
  intro v hv
  rcases killL_cases [i] v with h | ⟨h, hne⟩
  ·rw [h]; exact live_of_refs (refs_dz v)
  ·rw [h]
   intro j hj
   have hji : j ≠ i := fun hh => hne j hj (by simp [hh])
   rw [killB_bx, if_neg hji]
   simpa using hv j hj
 refine ⟨fun j => by rw [killB_get]; exact key _ (hn.1 j), fun j f v hj hv => ?_⟩
 rw [killB_bx] at hj
 split at hj
 ·cases hj
 ·obtain ⟨g, hg, rfl⟩ := Option.map_eq_some_iff.1 hj
  simp only [Ent.mapC, Option.map_eq_some_iff] at hv
  obtain ⟨u, hu, rfl⟩ := hv
  exact key u (hn.2 j g u hg hu)

theorem bxp_live {d : Nat} {t : TypeId} {e : Ent} (h : st.bx d = some e) : LiveB st.bx (bxp d t) := by
 intro j hj
 rw [refs_2 rfl] at hj
 obtain rfl : j = d := by simpa [bxp] using hj
 rw [h]
 rfl

theorem boxC_live (hn : ND2 st) {t : TypeId} {x v : AV} (h : boxC st t x = some v) : LiveB st.bx v := by
 unfold boxC at h
 split at h
 ·split at h
  ·rename_i e he
   split at h
   ·split at h
    ·rename_i v' hv'
     split at h
     ·cases h
     ·cases h
      exact hn.2 _ e v he hv'
    ·cases h
   ·cases h
  ·cases h
 ·cases h

theorem lvC_live (hn : ND2 st) {t : TypeId} {x v : AV} (h : lvC st t x = some v) : LiveB st.bx v := by
 unfold lvC at h
 split at h
 ·cases h
 ·split at h
  ·split at h
   ·rename_i e he
    split at h
    ·rename_i v' hc
     split at h
     ·rename_i hcc
      simp only [Bool.and_eq_true, beq_iff_eq] at hcc
      split at h
      ·rename_i j hcode
       cases h
       intro q hq
       rw [refs_2 rfl] at hq
       obtain rfl : q = j := by simpa [bxp] using hq
       exact hn.2 _ e v' he hc q (by rw [refs_7 hcc.1.2, mem_rids]; exact List.mem_of_getElem? hcode)
      ·cases h
     ·cases h
    ·cases h
   ·cases h
  ·cases h
theorem boxL_live (hn : ND2 st) {lv : Bool} {t : TypeId} {x v : AV} (h : boxL lv st t x = some v) : LiveB st.bx v := by
 unfold boxL at h
 split at h
 ·rename_i u hb
  cases h
  exact boxC_live hn hb
 ·split at h
  ·exact lvC_live hn h
  ·cases h
theorem evOp_nd (hpl : PlainE env) (hn : ND2 st) (h : evOp P env o st = some s') : ND2 s' := by
 unfold evOp opd0 at h
 cases hop : o.op <;> simp only [litRow_plain hpl, Bool.false_eq_true, if_false, hop] at h
 case load t x =>
  simp only [hpl.1, Bool.false_eq_true, if_false] at h
  obtain ⟨v, hv, rfl⟩ := Option.map_eq_some_iff.1 h
  unfold ldV at hv
  split at hv
  ·rename_i hb; cases hv; exact put_nd hn (boxL_live hn hb)
  ·obtain ⟨d, _, rfl⟩ := Option.map_eq_some_iff.1 hv; exact put_nd hn (live_of_refs rfl)
 case store t x y =>
  simp only [hpl.1, Bool.false_or, Bool.false_eq_true, if_false] at h
  split at h
  ·split at h
   ·rename_i e v k hsp
    have hsp : splAt P st t (opd P st o.type x) = some (e, v, k) := by
     split at hsp
     ·exact hsp
     ·cases hsp
    obtain ⟨h2, _, _, he, _, h0, hc, h7, _⟩ := splAt_spec hsp
    have hvl := hn.2 _ e v he hc
    have hset : ∀ (c : Nat) (dd : D), (∀ q, c = q + 2 -> (st.bx q).isSome = true) -> LiveB st.bx { v with tys := v.tys.set k c, d := dd } := by
     intro c dd hcq q hq
     rw [refs_7 (x := { v with tys := v.tys.set k c, d := dd }) h7, mem_rids] at hq
     rcases List.mem_or_eq_of_mem_set hq with hq | hq
     ·exact hvl q (by rw [refs_7 h7, mem_rids]; exact hq)
     ·exact hcq q hq.symm
    unfold stF at h
    split at h
    ·cases h
     exact upd_nd hn _ _ (fun v' hv => by cases hv; exact hset 0 _ (fun q hq => by omega))
    ·split at h
     ·split at h
      ·rename_i r hr
       split at h
       ·cases h
        exact upd_nd hn _ _ (fun v' hv => by cases hv; exact hset (_ + 2) v.d (fun q hq => by obtain rfl : q = _ := (by omega : q = (opd P st t y).id); rw [hr]; rfl))
       ·cases h
      ·cases h
     ·cases h
   split at h
   ·unfold stA at h
    split at h
    ·split at h
     ·split at h
      ·split at h
       ·split at h
        ·split at h
         ·cases h; exact upd_nd hn _ _ (fun v hv => by cases hv)
         ·cases h
        ·split at h
         ·cases h
         ·split at h
          ·split at h
           ·cases h; exact upd_nd hn _ _ (fun v hv => by cases hv)
           ·cases h
          ·cases h
       ·split at h
        ·cases h; exact upd_nd hn _ _ (fun v hv => by cases hv)
        ·cases h
      ·split at h
       ·obtain ⟨e', he', rfl⟩ := Option.map_eq_some_iff.1 h
        refine upd_nd hn _ _ (fun v hv => ?_)
        unfold stE at he'
        split at he'
        ·split at he'
         ·split at he'
          ·cases he'; cases hv
          ·cases he'
         ·split at he'
          ·split at he'
           ·cases he'; cases hv
           ·cases he'
          ·cases he'
        ·cases he'
       ·cases h
     ·cases h
    ·cases h
   ·unfold stC at h
    split at h
    ·split at h
     ·split at h
      ·cases h
       refine upd_nd hn _ _ (fun v hv => ?_)
       cases hv
       exact opd_live hn.1 _ _
      ·cases h
     ·cases h
    ·cases h
  ·cases h
 case fieldAddr t x k =>
  split at h
  ·split at h
   ·rename_i hc
    simp only [Bool.and_eq_true] at hc
    cases h
    refine put_nd hn ?_
    have hib := hc.2
    unfold isBoxB at hib
    split at hib
    ·rename_i e he
     intro j hj
     rw [refs_2 rfl] at hj
     obtain rfl : j = (opd P st o.type x).id := by simpa [fdp] using hj
     rw [he]; rfl
    ·cases hib
   ·split at h
    ·cases h; exact put_nd hn (live_of_refs rfl)
    ·split at h
     ·rename_i hc
      simp only [Bool.and_eq_true] at hc
      cases h
      refine put_nd hn ?_
      have hib := hc.2
      unfold isRowB at hib
      split at hib
      ·rename_i e he
       intro j hj
       rw [refs_2 rfl] at hj
       obtain rfl : j = (opd P st o.type x).id := by simpa [elf] using hj
       rw [he]; rfl
      ·cases hib
     ·cases h
  ·cases h
 case alloc t =>
  rw [hpl.1] at h
  simp only [Bool.false_and, Bool.false_eq_true, if_false] at h
  split at h
  ·split at h
   ·cases h; exact put_nd (upd_nd hn _ _ (fun v hv => by cases hv)) (bxp_live (by rw [upd_bx, if_pos rfl]))
   ·cases h
  ·cases h
 case box t y =>
  split at h
  ·split at h
   ·split at h
    ·cases h; exact put_nd (upd_nd hn _ _ (fun v hv => by cases hv)) (bxp_live (by rw [upd_bx, if_pos rfl]))
    ·split at h
     ·cases h; exact put_nd (upd_nd hn _ _ (fun v hv => by cases hv; exact opd_live hn.1 _ _)) (bxp_live (by rw [upd_bx, if_pos rfl]))
     ·cases h
   ·cases h
  ·cases h
 case makeSlice t y z =>
  split at h
  ·split at h
   ·split at h
    ·cases h; exact put_nd (upd_nd hn _ _ (fun v hv => by cases hv)) (bxp_live (by rw [upd_bx, if_pos rfl]))
    ·cases h
   ·cases h
  ·cases h
 case assign y =>
  split at h
  ·unfold nilRow at h
   split at h
   ·split at h
    ·cases h; exact put_nd (upd_nd hn _ _ (fun v hv => by cases hv)) (bxp_live (by rw [upd_bx, if_pos rfl]))
    ·cases h
   ·cases h
  ·obtain ⟨v, hv, rfl⟩ := Option.map_eq_some_iff.1 h; exact put_nd hn (evVal_live hn.1 hv)
 case call c =>
  rw [heapF_none hpl, freshF_none hpl, bornF_none hpl] at h
  simp only [Option.isSome_none, Bool.false_eq_true, if_false] at h
  split at h
  ·unfold appNew at h
   split at h
   ·split at h
    ·cases h; exact put_nd (upd_nd hn _ _ (fun v hv => by cases hv)) (bxp_live (by rw [upd_bx, if_pos rfl]))
    ·cases h
   ·cases h
  split at h
  ·split at h
   ·unfold appData at h
    split at h
    ·split at h
     ·cases h; exact put_nd (killB_nd hn _) (live_of_refs rfl)
     ·cases h
    ·split at h
     ·cases h; exact put_nd hn (live_of_refs rfl)
     ·cases h
    ·cases h
   split at h
   ·unfold appPre at h
    split at h
    ·split at h
     ·cases h; exact put_nd (renew_nd hn _ _ rfl) (bxp_live (by rw [renew_bx, if_pos rfl]))
     ·cases h
    ·cases h
   unfold appRow at h
   split at h
   ·split at h
    ·split at h
     ·split at h
      ·cases h
      ·split at h
       ·cases h; exact put_nd (upd_nd hn _ _ (fun v hv => by cases hv)) (bxp_live (by rw [upd_bx, if_pos rfl]))
       ·cases h
     ·cases h; exact put_nd hn (live_of_refs rfl)
    ·cases h
   ·split at h
    ·cases h; exact put_nd (renew_nd hn _ _ rfl) (bxp_live (by rw [renew_bx, if_pos rfl]))
    ·cases h
   ·cases h
  ·split at h
   ·obtain ⟨v, hv, rfl⟩ := Option.map_eq_some_iff.1 h; exact put_nd hn (live_of_refs (intA_tag hv))
   ·split at h
    ·unfold roCall at h
     split at h
     ·split at h
      ·split at h
       ·obtain ⟨v, hv, rfl⟩ := Option.map_eq_some_iff.1 h
        refine put_nd hn ?_
        rcases mkRes_tag (P := P) _ v with e | e
        ·exact live_of_ne (fun h2 => by rw [e] at h2; cases h2) (fun h2 => by rw [e] at h2; cases h2) (fun h2 => by rw [e] at h2; cases h2)
        ·exact live_of_ne (fun h2 => by rw [e] at h2; cases h2) (fun h2 => by rw [e] at h2; cases h2) (fun h2 => by rw [e] at h2; cases h2)
       ·cases h
      ·cases h
     ·cases h
    ·obtain ⟨v, hv, rfl⟩ := Option.map_eq_some_iff.1 h; exact put_nd hn (evVal_live hn.1 hv)
 case indexAddr t y j =>
  split at h
  ·rename_i e hrx
   split at h
   ·split at h
    ·cases h
     refine put_nd hn ?_
     unfold rowX at hrx
     split at hrx
     ·rename_i s
      have he := (rowOf_spec hrx).2.2.1
      intro j hj
      rw [refs_2 rfl] at hj
      obtain rfl : j = (st.get s).id := by simpa [elp, opd] using hj
      rw [he]; rfl
     ·cases hrx
    ·cases h
   ·cases h
  ·split at h
   ·split at h
    ·rename_i hc
     simp only [Bool.and_eq_true] at hc
     cases h
     refine put_nd hn ?_
     have hib := hc.1.1.2
     unfold isBoxB at hib
     split at hib
     ·rename_i e he
      intro j hj
      rw [refs_2 rfl] at hj
      obtain rfl : j = (opd P st o.type y).id := by simpa [arp] using hj
      rw [he]; rfl
     ·cases hib
    ·obtain ⟨v, hv, rfl⟩ := Option.map_eq_some_iff.1 h; exact put_nd hn (evVal_live hn.1 hv)
   obtain ⟨v, hv, rfl⟩ := Option.map_eq_some_iff.1 h; exact put_nd hn (evVal_live hn.1 hv)
 case slice t y lo hi mx =>
  split at h
  ·rename_i e hrx
   split at h
   ·cases h
    refine put_nd hn ?_
    unfold rowX at hrx
    split at hrx
    ·rename_i s
     have he := (rowOf_spec hrx).2.2.1
     intro j hj
     rw [refs_2 rfl] at hj
     obtain rfl : j = (st.get s).id := by simpa [prf, opd] using hj
     rw [he]; rfl
    ·cases hrx
   ·cases h
  ·obtain ⟨v, hv, rfl⟩ := Option.map_eq_some_iff.1 h; exact put_nd hn (evVal_live hn.1 hv)
 case range t y =>
  unfold rangeIt at h
  split at h
  ·split at h
   ·cases h; exact put_nd (upd_nd hn _ _ (fun v hv => by cases hv; exact live_of_refs rfl)) (bxp_live (by rw [upd_bx, if_pos rfl]))
   ·cases h
  ·cases h
 case next y b =>
  cases y with
  | tmp i =>
   cases b with
   | true =>
    simp only at h
    split at h
    ·split at h
     ·split at h
      ·cases h; exact put_nd (upd_nd hn _ _ (fun v hv => by cases hv; exact live_of_refs rfl)) (live_of_refs rfl)
      ·cases h; exact put_nd hn (live_of_refs rfl)
     ·cases h
    ·cases h
   | false => cases h
  | _ => cases h
 all_goals (obtain ⟨v, hv, rfl⟩ := Option.map_eq_some_iff.1 h; exact put_nd hn (evVal_live hn.1 hv))

theorem opStep_nd (hpl : PlainE env) (hn : ND2 st) (h : opStep P env ops o st = some s') : ND2 s' := by
 rcases step_cases h with ⟨_, rfl⟩ | ⟨_, _, he⟩
 ·exact put_nd hn (live_of_refs rfl)
 ·exact evOp_nd hpl hn he

end
end
section
section
variable {P : Program} {w w' : World} {ok ok' : Nat -> Prop} {β : Nat -> Nat × Nat} {ops : Array Oper}
variable {F : Fr P} {st st' s s' s1 s2 s12 : St} {a : Act} {env : Env} {o oi oj : Oper} {av : AV} {Q : Exit -> Act -> World -> Prop}

/-- A state and the machine's, for some addresses. -/
def Rel (P : Program) (F : Fr P) (st : St) (a : Act) (w : World) : Prop := ∃ ok β, RelX P F st ok β a w

theorem asked_wanted (R : RelX P F st ok β a w) {b : Bool} (h : asked P ops o st = some b) : Region.wanted o (yielded ops a.tmps) = b := by
 unfold asked at h
 unfold Region.wanted
 cases hg : o.guard with
 | none => rw [hg] at h; simpa using h
 | some g =>
  obtain ⟨j, want⟩ := g
  rw [hg] at h
  simp only at h ⊢
  unfold guardOf at h
  unfold yielded
  cases hd : (ops[j]?).bind (·.dst) with
  | none => rw [hd] at h; cases h
  | some d =>
   rw [hd] at h
   simp only [Option.bind_some] at h ⊢
   split at h
   ·rename_i h9
    have hv := (R.slot d).d9 h9
    have : ∀ c, a.tmps[d]? ≠ some (.bool c) := by
     intro c hc
     rw [Array.getD_eq_getD_getElem?, hc] at hv
     simp [undef] at hv
    cases h
    cases hx : a.tmps[d]? with
    | none => simp
    | some v =>
     cases v <;> simp
     exact absurd hx (this _)
   ·cases hb : boolOf P (st.get d) with
    | none => rw [hb] at h; cases h
    | some c =>
     rw [hb] at h
     simp only [Option.map_some, Option.some.injEq] at h
     obtain ⟨t1, u1, d1⟩ := boolOf_spec hb
     obtain ⟨c', e1, e2⟩ := ((R.slot d).d1 t1).bool u1
     have hcc : c' = c := by rw [d1] at e1; simpa using e1.symm
     subst hcc
     have hx : a.tmps[d]? = some (.bool c') := by
      rw [Array.getD_eq_getD_getElem?] at e2
      cases hx : a.tmps[d]? with
      | none => rw [hx] at e2; simp [undef] at e2
      | some v => rw [hx] at e2; simpa using e2
     rw [hx]
     simp only
     rw [<- h]
     cases c' <;> cases want <;> rfl

theorem opStep_sound (henv : EnvOK P env) (R : Rel P F st a w) {i : Nat} (hi : ops[i]? = some o) (h : opStep P env ops o st = some st') :
  wpOp P ops Q i (Rel P F st') a w := by
 obtain ⟨ok, β, R⟩ := R
 unfold wpOp
 rw [hi]
 simp only
 rcases step_cases h with ⟨ha, rfl⟩ | ⟨ha, hc, he⟩
 ·rw [asked_wanted R ha]
  simp only [Bool.false_eq_true, if_false]
  exact ⟨ok, β, R.put repAV_undA (live_of_refs rfl) o.dst⟩
 ·rw [asked_wanted R ha]
  simp only [if_true]
  exact .inl (evOp_sound henv R hc he)

theorem runOps_sound (henv : EnvOK P env) (hQ : ∀ a w, Rel P F st' a w -> Q .normal a w) :
  ∀ (l : List Oper) (k : Nat) (st : St) (a : Act) (w : World), (∀ j, l[j]? = ops[k + j]?) -> runOps P env ops l st = some st' -> Rel P F st a w -> wpOps P ops Q (List.range' k l.length) a w
 | [], k, st, a, w, hl, h, R => by
  simp only [runOps, Option.some.injEq] at h
  subst h
  exact hQ a w R
 | o :: l, k, st, a, w, hl, h, R => by
  simp only [runOps] at h
  obtain ⟨s1, h1, h2⟩ := Option.bind_eq_some_iff.1 h
  have h0 : ops[k]? = some o := by simpa using (hl 0).symm
  simp only [List.length_cons, List.range'_succ]
  rw [wpOps_cons]
  exact wpOp_mono (fun a' w' R' => runOps_sound henv hQ l (k + 1) s1 a' w' (fun j => by have := hl (j + 1); simpa [Nat.add_assoc, Nat.add_comm 1 j] using this) h2 R') (opStep_sound henv R h0 h1)

theorem region_sound (henv : EnvOK P env) {id : Nat} (h : runOps P env ops ops.toList st = some st') (R : Rel P F st a w) (hQ : ∀ a w, Rel P F st' a w -> Q .normal a w) :
  (Code.region id ops false).wp P Q a w := by
 refine wp_region ?_
 have := runOps_sound (Q := Q) henv hQ ops.toList 0 st a w (by simp) h R
 rw [List.range_eq_range']
 simpa using this

/-! ### All orders -/
def anyA (P : Program) (env : Env) (ops : Array Oper) (G : St -> Prop) : Nat -> Array Bool -> St -> Prop
 | 0, listed, st => Region.ready .any ops listed = [] /\ G st
 | n + 1, listed, st => (Region.ready .any ops listed = [] -> G st) /\
  ∀ i ∈ Region.ready .any ops listed, ∃ o s, ops[i]? = some o /\ opStep P env ops o st = some s /\ anyA P env ops G n (listed.setIfInBounds i true) s

theorem anyA_sound (henv : EnvOK P env) {G : St -> Prop} (hQ : ∀ s a w, G s -> Rel P F s a w -> Q .normal a w) :
  ∀ (n : Nat) (listed : Array Bool) (st : St) (a : Act) (w : World), anyA P env ops G n listed st -> Rel P F st a w -> wpAny P .any ops Q n listed a w
 | 0, listed, st, a, w, h, R => ⟨h.1, hQ st a w h.2 R⟩
 | n + 1, listed, st, a, w, h, R => ⟨fun h0 => hQ st a w (h.1 h0) R, fun i hi => by
   obtain ⟨o, s, ho, hs, hr⟩ := h.2 i hi
   exact wpOp_mono (fun a' w' R' => anyA_sound henv hQ n _ s a' w' hr R') (opStep_sound henv R ho hs)⟩

/-- What has come up: with each, what it waits for. -/
def Closed (ops : Array Oper) (listed : Array Bool) : Prop := ∀ (j : Nat) (o : Oper), ops[j]? = some o -> listed.getD j false = true -> ∀ e ∈ o.after, Region.binds .any e = true -> listed.getD e.on false = true

theorem no_wait_listed {listed : Array Bool} (hc : Closed ops listed) {i : Nat} (hi : listed.getD i true = false) : ∀ (n j : Nat), listed.getD j false = true -> waits ops n j i = false
 | 0, _, _ => rfl
 | n + 1, j, hj => by
  unfold waits
  cases ho : ops[j]? with
  | none => rfl
  | some o =>
   simp only [Option.map_some, Option.getD_some]
   rw [Array.any_eq_false']
   intro e he hh
   simp only [Bool.and_eq_true, Bool.or_eq_true, beq_iff_eq] at hh
   obtain ⟨hb, hh⟩ := hh
   have hl := hc j o ho hj e he hb
   rcases hh with hh | hh
   ·subst hh
    simp only [Array.getD_eq_getD_getElem?] at hl hi
    cases hx : listed[e.on]? with
    | none => rw [hx] at hl; simp at hl
    | some b => rw [hx] at hl hi; simp at hl hi; rw [hl] at hi; cases hi
   ·rw [no_wait_listed hc hi n e.on hl] at hh
    cases hh

theorem no_wait_ready {listed : Array Bool} (hc : Closed ops listed) {i j n : Nat} (hi : listed.getD i true = false) (hj : j ∈ Region.ready .any ops listed) : waits ops n j i = false := by
 cases n with
 | zero => rfl
 | succ n =>
  obtain ⟨_, o, ho, hall⟩ := mem_ready.1 hj
  unfold waits
  rw [ho]
  simp only [Option.map_some, Option.getD_some]
  rw [Array.any_eq_false']
  intro e he hh
  simp only [Bool.and_eq_true, Bool.or_eq_true, beq_iff_eq] at hh
  obtain ⟨hb, hh⟩ := hh
  have hl := hall e he hb
  rcases hh with hh | hh
  ·subst hh
   simp only [Array.getD_eq_getD_getElem?] at hl hi
   cases hx : listed[e.on]? with
   | none => rw [hx] at hl; simp at hl
   | some b => rw [hx] at hl hi; simp at hl hi; rw [hl] at hi; cases hi
  ·rw [no_wait_listed hc hi n e.on hl] at hh
   cases hh

theorem closed_set {listed : Array Bool} (hc : Closed ops listed) {j : Nat} (hj : j ∈ Region.ready .any ops listed) : Closed ops (listed.setIfInBounds j true) := by
 obtain ⟨_, o, ho, hall⟩ := mem_ready.1 hj
 intro k ok hk hl e he hb
 by_cases hkj : j = k
 ·subst hkj
  rw [ho] at hk
  cases hk
  exact getD_set_true (hall e he hb)
 ·rw [getD_set_ne false hkj] at hl
  exact getD_set_true (hc k ok hk hl e he hb)

theorem anyA_first (hpl : PlainE env) {G : St -> Prop} {i : Nat} (hi : ops[i]? = some oi) :
  ∀ (n : Nat) (listed : Array Bool) (st s1 : St), ND2 st -> Closed ops listed -> i ∈ Region.ready .any ops listed ->
   (∀ (j : Nat) (oj : Oper), ops[j]? = some oj -> j ≠ i -> listed.getD j true = false -> comm ops oi oj = true \/ waits ops 8 j i = true) ->
   opStep P env ops oi st = some s1 -> anyA P env ops G n (listed.setIfInBounds i true) s1 -> anyA P env ops G (n + 1) listed st := by
 intro n
 induction n with
 | zero =>
  intro listed st s1 hn hc hr hfree h1 H
  refine ⟨fun h => (by rw [h] at hr; cases hr), fun j hj => ?_⟩
  by_cases hji : j = i
  ·subst hji; exact ⟨oi, s1, hi, h1, H⟩
  ·have := ready_mono hj hji
   rw [H.1] at this
   cases this
 | succ n ih =>
  intro listed st s1 hn hc hr hfree h1 H
  refine ⟨fun h => (by rw [h] at hr; cases hr), fun j hj => ?_⟩
  by_cases hji : j = i
  ·subst hji; exact ⟨oi, s1, hi, h1, H⟩
  ·obtain ⟨oj, s12, hoj, h2, hrest⟩ := H.2 j (ready_mono hj hji)
   have hiun := (mem_ready.1 hr).1
   have hjun := (mem_ready.1 hj).1
   have hcomm : comm ops oi oj = true := by
    rcases hfree j oj hoj hji hjun with h | h
    ·exact h
    ·rw [no_wait_ready hc hiun hj] at h; cases h
   obtain ⟨s2, g1, g2⟩ := diamond hpl hcomm hn.1 h1 h2
   refine ⟨oj, s2, hoj, g1, ?_⟩
   refine ih (listed.setIfInBounds j true) s2 s12 (opStep_nd hpl hn g1) (closed_set hc hj) (ready_mono hr (Ne.symm hji)) ?_ g2 ?_
   ·intro k ok hk hki hun
    refine hfree k ok hk hki ?_
    by_cases hjk : j = k
    ·subst hjk; exact hjun
    ·rw [getD_set_ne true hjk] at hun; exact hun
   ·rw [Array.setIfInBounds_comm _ _ hji]
    exact hrest

theorem anyA_lex (hpl : PlainE env) (hlex : lexOK ops = true) {G : St -> Prop} (hG : G st') :
  ∀ (l : List Oper) (k : Nat) (listed : Array Bool) (st : St), (∀ j, l[j]? = ops[k + j]?) -> listed.size = ops.size -> (∀ j, j < ops.size -> listed.getD j true = decide (j < k)) -> k + l.length = ops.size ->
   ND2 st -> runOps P env ops l st = some st' -> anyA P env ops G l.length listed st
 | [], k, listed, st, hl, hsz, hlist, hlen, hn, h => by
  simp only [runOps, Option.some.injEq] at h
  subst h
  refine ⟨?_, hG⟩
  rw [List.eq_nil_iff_forall_not_mem]
  intro j hj
  obtain ⟨h1, o, ho, _⟩ := mem_ready.1 hj
  have hlt : j < ops.size := (Array.getElem?_eq_some_iff.1 ho).1
  rw [hlist j hlt] at h1
  simp at hlen h1
  omega
 | o :: l, k, listed, st, hl, hsz, hlist, hlen, hn, h => by
  simp only [runOps] at h
  obtain ⟨s1, h1, h2⟩ := Option.bind_eq_some_iff.1 h
  have h0 : ops[k]? = some o := by simpa using (hl 0).symm
  have hk : k < ops.size := (Array.getElem?_eq_some_iff.1 h0).1
  have hlf : ∀ j, j < ops.size -> listed.getD j false = decide (j < k) := fun j hj => by
   have := hlist j hj
   have hj' : j < listed.size := by omega
   simpa [hj'] using this
  unfold lexOK at hlex
  have hlex' := hlex
  rw [List.all_eq_true] at hlex'
  have hat : ∀ (j : Nat) (oj : Oper), ops[j]? = some oj -> (∀ e ∈ oj.after, Region.binds .any e = true -> e.on < j) /\ ∀ (i : Nat) (oi : Oper), i < j -> ops[i]? = some oi -> comm ops oi oj = true \/ waits ops 8 j i = true := by
   intro j oj hj
   have hlt : j < ops.size := (Array.getElem?_eq_some_iff.1 hj).1
   have := hlex' j (List.mem_range.2 hlt)
   rw [hj] at this
   simp only [Bool.and_eq_true, Array.all_eq_true_iff_forall_mem, List.all_eq_true] at this
   refine ⟨fun e he hb => ?_, fun i oi hij hi => ?_⟩
   ·have := this.1 e he
    simpa [hb] using this
   ·have := this.2 i (List.mem_range.2 hij)
    rw [hi] at this
    simpa using this
  have hready : k ∈ Region.ready .any ops listed := mem_ready.2 ⟨by rw [hlist k hk]; simp, o, h0, fun e he hb => by
   have hlt := (hat k o h0).1 e he hb
   rw [hlf e.on (by omega)]
   simpa using hlt⟩
  have hclosed : Closed ops listed := by
   intro j oj hj hjl e he hb
   have hlt : j < ops.size := (Array.getElem?_eq_some_iff.1 hj).1
   rw [hlf j hlt] at hjl
   have := (hat j oj hj).1 e he hb
   rw [hlf e.on (by omega)]
   simp at hjl ⊢
   omega
  refine anyA_first hpl h0 l.length listed st s1 hn hclosed hready ?_ h1 ?_
  ·intro j oj hj hjk hun
   have hlt : j < ops.size := (Array.getElem?_eq_some_iff.1 hj).1
   rw [hlist j hlt] at hun
   simp at hun
   exact (hat j oj hj).2 k o (by omega) h0
  ·refine anyA_lex hpl hlex hG l (k + 1) _ s1 (fun j => by have := hl (j + 1); simpa [Nat.add_assoc, Nat.add_comm 1 j] using this) (by simpa using hsz) ?_ (by simp at hlen; omega) (opStep_nd hpl hn h1) h2
   intro j hj
   by_cases hjk : k = j
   ·subst hjk
    have : k < listed.size := by omega
    simp [this]
   ·rw [getD_set_ne true hjk, hlist j hj]
    simp
    omega

theorem region_draw_sound (hpl : PlainE env) (hm : P.follows .mixedOrders = true) (henv : EnvOK P env) (hlex : lexOK ops = true) {id : Nat} (h : runOps P env ops ops.toList st = some st') (R : Rel P F st a w)
  (hQ : ∀ a w, Rel P F st' a w -> Q .normal a w) : (Code.region id ops true).wp P Q a w := by
 obtain ⟨ok, β, R⟩ := R
 refine wp_region_any hm ?_
 refine anyA_sound (G := fun s => s = st') henv (fun s a w hs R' => hQ a w (hs ▸ R')) _ _ st a _ ?_ ⟨ok, β, R.drawn⟩
 have := anyA_lex (G := fun s => s = st') hpl hlex rfl ops.toList 0 (Array.replicate ops.size false) st (by simp) (by simp) (fun j hj => by simp [hj]) (by simp) ⟨R.nd, R.hp.nb⟩ h
 simpa using this

end
end
end Go.Ev
