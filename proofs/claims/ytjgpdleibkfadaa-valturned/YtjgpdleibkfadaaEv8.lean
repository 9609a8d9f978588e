/- Two operations either way round; all orders. Nothing here is trusted. -/
import Derived.Test.YtjgpdleibkfadaaEv7
namespace Go.Ev
open Go.RowKit
set_option linter.unusedVariables false
set_option linter.unusedSimpArgs false

section
variable {P : Program} {w w' : World} {ok ok' : Nat → Prop} {β : Nat → Nat × Nat} {ops : Array Oper}
variable {base : Nat} {w0 : World} {okA : Nat → Prop} {st st' s s' s1 s2 s12 : St} {a : Act} {env : Env} {o oi oj : Oper} {av : AV} {Q : Exit → Act → World → Prop}

theorem opStep_upd0 {i : Nat} {e : Ent} (hm : memCls o.op = 0) : opStep P env ops o (st.upd i e) = (opStep P env ops o st).map fun s => s.upd i e := by
  unfold opStep
  rw [asked_upd, chkOp_congr (by omega) (same_upd (st := st) (i := i) (e := e))]
  split
  · split
    · exact evOp_upd0 hm
    · rfl
  · simp only [Option.map_some, upd_put]
  · rfl

theorem opStep_upd1 {i : Nat} {e : Ent} (hm : memCls o.op ≤ 2) (hi : st.bx i = none) (hn : ND st) (hd : o.dst ≠ some i) : opStep P env ops o (st.upd i e) = (opStep P env ops o st).map fun s => s.upd i e := by
  unfold opStep
  rw [asked_upd, chkOp_congr (by omega) (same_upd (st := st) (i := i) (e := e))]
  split
  · split
    · exact evOp_upd1 hm hi hn hd
    · rfl
  · simp only [Option.map_some, upd_put]
  · rfl

theorem evOp_new (hm : memCls o.op = 2) (h : evOp P env o st = some s') : ∃ d e b, o.dst = some d ∧ st.bx d = none ∧ s' = (st.upd d e).put (some d) b ∧
    ∀ s2, Same o s2 st → s2.bx d = none → evOp P env o s2 = some ((s2.upd d e).put (some d) b) := by
  unfold evOp opd0 at h
  cases hop : o.op <;> simp only [hop] at h hm <;> try (simp [memCls] at hm; done)
  case alloc t =>
    split at h
    · rename_i d z hd hz
      split at h
      · rename_i hf
        cases h
        have hf' : st.bx d = none := by simpa using hf
        refine ⟨d, _, _, hd, hf', rfl, fun s2 _ h2 => ?_⟩
        unfold evOp opd0
        simp [hop, hd, hz, h2]
      · cases h
    · cases h
  case box t y =>
    split at h
    · rename_i d hd
      split at h
      · rename_i hf
        simp only [Bool.and_eq_true] at hf
        cases h
        have hf' : st.bx d = none := by simpa using hf.1.1
        refine ⟨d, _, _, hd, hf', rfl, fun s2 hs h2 => ?_⟩
        have key := opd_same (P := P) (x := y) hs (by simp [hop, Op.operands]) t
        unfold evOp opd0
        simp only [hop, hd, key, h2, hf.1.2, hf.2]
        simp
      · cases h
    · cases h
  case assign y =>
    split at h
    · rename_i hn
      unfold nilRow at h
      split at h
      · rename_i d z hd hz
        split at h
        · rename_i hf
          cases h
          have hf' : st.bx d = none := by simpa using hf
          refine ⟨d, _, _, hd, hf', rfl, fun s2 _ h2 => ?_⟩
          unfold evOp opd0
          simp [hop, hn, nilRow, hd, hz, h2]
        · cases h
      · cases h
    · rename_i hn
      simp [memCls, hn] at hm
  case call c =>
    cases ha : appOf c with
    | none => simp [memCls, ha] at hm
    | some x => simp [memCls, ha] at hm

theorem evOp_store (hm : memCls o.op = 3) (h : evOp P env o st = some s') : ∃ i e, s' = st.upd i e ∧ o.dst = none ∧ (st.bx i).isSome = true := by
  unfold evOp opd0 at h
  cases hop : o.op <;> simp only [hop] at h hm <;> try (simp [memCls] at hm; done)
  case assign y =>
    cases hn : isNilC y <;> simp [memCls, hn] at hm
  case call c =>
    cases ha : appOf c <;> simp [memCls, ha] at hm
  case store t x y =>
    split at h
    · rename_i hc
      simp only [Bool.and_eq_true] at hc
      have hd : o.dst = none := by simpa using hc.1.1
      unfold stA at h
      split at h
      · split at h
        · rename_i e he
          split at h
          · split at h
            · split at h
              · cases h; exact ⟨_, _, rfl, hd, by rw [he]; rfl⟩
              · cases h
            · split at h
              · split at h
                · cases h; exact ⟨_, _, rfl, hd, by rw [he]; rfl⟩
                · cases h
              · cases h
          · cases h
        · cases h
      · cases h
    · cases h

theorem step_cases (h : opStep P env ops o st = some s') :
    (asked P ops o st = some false ∧ s' = st.put o.dst undA) ∨ (asked P ops o st = some true ∧ chkOp P env st o = true ∧ evOp P env o st = some s') := by
  unfold opStep at h
  split at h
  · rename_i ha
    split at h
    · rename_i hc; exact .inr ⟨ha, hc, h⟩
    · cases h
  · rename_i ha; cases h; exact .inl ⟨ha, rfl⟩
  · cases h

theorem opStep_mk (ha : asked P ops o st = some true) (hc : chkOp P env st o = true) (h : evOp P env o st = some s') : opStep P env ops o st = some s' := by
  unfold opStep; rw [ha]; simp [hc, h]
theorem opStep_skip (ha : asked P ops o st = some false) : opStep P env ops o st = some (st.put o.dst undA) := by
  unfold opStep; rw [ha]

theorem diamond (hc : comm ops oi oj = true) (hn : ND st) (h1 : opStep P env ops oi st = some s1) (h2 : opStep P env ops oj s1 = some s12) :
    ∃ s2, opStep P env ops oj st = some s2 ∧ opStep P env ops oi s2 = some s12 := by
  unfold comm at hc
  simp only [Bool.and_eq_true, Bool.not_eq_true', Bool.and_eq_false_iff, beq_eq_false_iff_ne, decide_eq_false_iff_not] at hc
  obtain ⟨⟨⟨⟨hap, li⟩, lj⟩, hc1⟩, hc2⟩ := hc
  have li : memCls oi.op ≤ 3 := by simpa using li
  have lj : memCls oj.op ≤ 3 := by simpa using lj
  obtain ⟨a1, a2, a3⟩ := Oper.apart_spec hap
  have a4 : ∀ d, oj.dst = some d → oi.dst ≠ some d := fun d hd hd' => a2 d hd' hd
  -- what oi does if it only puts
  have hput : ∀ v, s1 = st.put oi.dst v → (asked P ops oi st = some false ∨ memCls oi.op ≤ 1) → ∃ s2, opStep P env ops oj st = some s2 ∧ opStep P env ops oi s2 = some s12 := by
    intro v hs1 hkind
    subst hs1
    rw [opStep_put lj a1 a2] at h2
    obtain ⟨s2, hs2, rfl⟩ := Option.map_eq_some_iff.1 h2
    refine ⟨s2, hs2, ?_⟩
    have hupd : ∀ i e, (memCls oj.op = 3 ∨ (st.bx i = none ∧ oj.dst = some i)) → opStep P env ops oi (st.upd i e) = some ((st.upd i e).put oi.dst v) := by
      intro i e hi
      rcases hkind with hk | hk
      · rw [opStep_skip hk] at h1
        have : (st.put oi.dst undA) = st.put oi.dst v := Option.some.inj h1
        rw [opStep_skip (by rw [asked_upd]; exact hk)]
        rw [← upd_put, ← upd_put, this]
      · rcases hi with hi | ⟨hi, hd⟩
        · rw [opStep_upd0 (by omega), h1]
          simp only [Option.map_some, upd_put]
        · rw [opStep_upd1 (by omega) hi hn (a4 i hd), h1]
          simp only [Option.map_some, upd_put]
    rcases step_cases hs2 with ⟨_, rfl⟩ | ⟨haj, hcj, hej⟩
    · rw [opStep_put li a3 a4, h1]
      simp only [Option.map_some, Option.some.injEq]
      exact put_comm a2
    · by_cases hj1 : memCls oj.op ≤ 1
      · obtain ⟨u, rfl⟩ := evOp_shape hj1 hej
        rw [opStep_put li a3 a4, h1]
        simp only [Option.map_some, Option.some.injEq]
        exact put_comm a2
      · by_cases hj2 : memCls oj.op = 2
        · obtain ⟨d, e, b, hd, hf, rfl, _⟩ := evOp_new hj2 hej
          rw [hd] at a3 a4
          rw [opStep_put li a3 a4, hupd d e (.inr ⟨hf, hd⟩)]
          simp only [Option.map_some, Option.some.injEq]
          rw [hd] at a2
          exact put_comm a2
        · obtain ⟨i, e, rfl, hd, _⟩ := evOp_store (by omega) hej
          exact hupd i e (.inl (by omega))
  rcases step_cases h1 with ⟨hai, hs1⟩ | ⟨hai, hci, hei⟩
  · exact hput _ hs1 (.inl hai)
  · by_cases hi1 : memCls oi.op ≤ 1
    · obtain ⟨v, hv⟩ := evOp_shape hi1 hei
      exact hput v hv (.inr hi1)
    · by_cases hi2 : memCls oi.op = 2
      · obtain ⟨d, e, b, hd, hf, rfl, hre⟩ := evOp_new hi2 hei
        have hjd : oj.dst ≠ some d := fun hh => a2 d hd hh
        rw [hd] at a1 a2
        rw [opStep_put lj a1 a2, opStep_upd1 (by omega) hf hn hjd] at h2
        obtain ⟨s3, hs3, rfl⟩ := Option.map_eq_some_iff.1 h2
        obtain ⟨s2, hs2, rfl⟩ := Option.map_eq_some_iff.1 hs3
        refine ⟨s2, hs2, ?_⟩
        have hsame : asked P ops oi s2 = some true ∧ Same oi s2 st ∧ s2.bx d = none := by
          rcases step_cases hs2 with ⟨_, rfl⟩ | ⟨_, _, hej⟩
          · exact ⟨by rw [asked_put a3]; exact hai, same_put a3, by rw [put_bx]; exact hf⟩
          · by_cases hj1 : memCls oj.op ≤ 1
            · obtain ⟨u, rfl⟩ := evOp_shape hj1 hej
              exact ⟨by rw [asked_put a3]; exact hai, same_put a3, by rw [put_bx]; exact hf⟩
            · obtain ⟨d', e', b', hd', hf', rfl, _⟩ := evOp_new (by omega) hej
              rw [hd'] at a3
              have hne : d ≠ d' := fun hh => hjd (by rw [hd', hh])
              exact ⟨by rw [asked_put a3, asked_upd]; exact hai, (same_put a3).trans same_upd, by rw [put_bx, upd_bx, if_neg hne]; exact hf⟩
        obtain ⟨g1, g2, g3⟩ := hsame
        exact opStep_mk g1 (by rw [chkOp_congr li g2]; exact hci) (hre s2 g2 g3)
      · obtain ⟨i, e, rfl, hd, _⟩ := evOp_store (by omega) hei
        have hj0 : memCls oj.op = 0 := by omega
        rw [opStep_upd0 hj0] at h2
        obtain ⟨s2, hs2, rfl⟩ := Option.map_eq_some_iff.1 h2
        refine ⟨s2, hs2, ?_⟩
        have hp : ∃ u, s2 = st.put oj.dst u := by
          rcases step_cases hs2 with ⟨_, rfl⟩ | ⟨_, _, hej⟩
          · exact ⟨_, rfl⟩
          · exact evOp_shape (by omega) hej
        obtain ⟨u, rfl⟩ := hp
        rw [opStep_put li a3 a4, h1]
        simp only [Option.map_some, upd_put]

theorem put_nd (hn : ND st) {d : Option Nat} {v : AV} (hv : Live st v) : ND (st.put d v) := by
  intro i
  unfold Live
  rw [get_put, put_bx]
  split
  · exact hv
  · exact hn i

theorem upd_nd (hn : ND st) (i : Nat) (e : Ent) : ND (st.upd i e) := by
  intro j ht
  rw [upd_bx]
  split
  · rfl
  · exact hn j ht

theorem renew_nd (hn : ND st) (i : Nat) (e : Ent) : ND (st.renew i e) := by
  intro j ht
  rw [renew_get] at ht ⊢
  unfold killA at ht ⊢
  split at ht
  · simp [dead] at ht
  · rename_i hne
    rw [if_neg hne, renew_bx]
    split
    · rfl
    · exact hn j ht

theorem evOp_nd (hn : ND st) (h : evOp P env o st = some s') : ND s' := by
  by_cases h2 : memCls o.op = 2
  · unfold evOp opd0 at h
    cases hop : o.op <;> simp only [hop] at h h2 <;> try (simp [memCls] at h2; done)
    case alloc t =>
      split at h
      · split at h
        · cases h; exact put_nd (upd_nd hn _ _) (fun _ => by rw [upd_bx]; simp [bxp])
        · cases h
      · cases h
    case box t y =>
      split at h
      · split at h
        · cases h; exact put_nd (upd_nd hn _ _) (fun _ => by rw [upd_bx]; simp [bxp])
        · cases h
      · cases h
    case assign y =>
      split at h
      · unfold nilRow at h
        split at h
        · split at h
          · cases h; exact put_nd (upd_nd hn _ _) (fun _ => by rw [upd_bx]; simp [bxp])
          · cases h
        · cases h
      · rename_i hnn
        simp [memCls, hnn] at h2
    case call c =>
      cases ha : appOf c <;> simp [memCls, ha] at h2
  · by_cases h3 : memCls o.op = 3
    · obtain ⟨i, e, rfl, _, _⟩ := evOp_store h3 h
      exact upd_nd hn i e
    · unfold evOp opd0 at h
      cases hop : o.op <;> simp only [hop] at h h2 h3 <;> try (simp [memCls] at h2 h3; done)
      case load t x => obtain ⟨d, _, rfl⟩ := Option.map_eq_some_iff.1 h; exact put_nd hn (live_of_ne (by simp [dat]))
      case fieldAddr t x k =>
        split at h
        · split at h
          · rename_i hc
            simp only [Bool.and_eq_true] at hc
            cases h
            refine put_nd hn (fun _ => ?_)
            have hib := hc.2
            unfold isBoxB at hib
            show (st.bx (opd P st o.type x).id).isSome = true
            split at hib
            · rename_i he; rw [he]; rfl
            · cases hib
          · split at h
            · cases h; exact put_nd hn (live_of_ne (by simp [refp]))
            · cases h
        · cases h
      case assign y =>
        split at h
        · rename_i hnn
          simp [memCls, hnn] at h2
        · obtain ⟨v, hv, rfl⟩ := Option.map_eq_some_iff.1 h; exact put_nd hn (evVal_live hn hv)
      case call c =>
        split at h
        · unfold appRow at h
          split at h
          · split at h
            · cases h; exact put_nd (renew_nd hn _ _) (fun _ => by rw [renew_bx]; simp [bxp])
            · cases h
          · cases h
        · obtain ⟨v, hv, rfl⟩ := Option.map_eq_some_iff.1 h; exact put_nd hn (evVal_live hn hv)
      all_goals (obtain ⟨v, hv, rfl⟩ := Option.map_eq_some_iff.1 h; exact put_nd hn (evVal_live hn hv))

theorem opStep_nd (hn : ND st) (h : opStep P env ops o st = some s') : ND s' := by
  rcases step_cases h with ⟨_, rfl⟩ | ⟨_, _, he⟩
  · exact put_nd hn (live_of_ne (by simp [undA]))
  · exact evOp_nd hn he

end
end Go.Ev
