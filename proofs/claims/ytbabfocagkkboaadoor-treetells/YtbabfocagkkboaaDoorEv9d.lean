/- A region in any order, with a call that is handed boxes: all others are done ahead of it, or wait for it. Nothing here is trusted. -/
import Derived.Test.YtbabfocagkkboaaDoorEv9c
namespace Go.Ev
open Go.RowKit
set_option linter.unusedVariables false
set_option linter.unusedSimpArgs false

section
variable {P : Program} {w w' : World} {ok ok' : Nat → Prop} {β : Nat → Nat × Nat} {ops : Array Oper}
variable {F : Fr P} {st st' s s' s1 s2 s12 : St} {a : Act} {env : Env} {o oi oj : Oper} {av : AV} {Q : Exit → Act → World → Prop}

theorem EnvOK.half (h : EnvOK P env) : EnvOK P env.half := ⟨h.p, h.h, h.r, fun f t pre F args k d he => (by cases he)⟩

theorem heapF_half {c : Call} (h : tmpCallee c = false) : heapF P env.half st c = heapF P env.plain st c := by
  unfold heapF
  rw [h]
  rfl
theorem evVal_half : evVal P env.half o st = evVal P env.plain o st := rfl
theorem freshF_half {c : Call} : freshF env.half c = freshF env.plain c := rfl

theorem chkOp_half (h : nt o = true) : chkOp P env.half st o = chkOp P env.plain st o := by
  unfold chkOp
  cases hop : o.op <;> try rfl
  case binOp op t x y yt => cases op <;> rfl
  case call c =>
    simp only
    have ht : tmpCallee c = false := by
      unfold nt at h
      rw [hop] at h
      simpa using h
    rw [heapF_half ht, freshF_half]
    rfl

theorem evOp_half (h : nt o = true) : evOp P env.half o st = evOp P env.plain o st := by
  unfold evOp
  cases hop : o.op <;> try rfl
  case next y b => cases y <;> cases b <;> rfl
  case call c =>
    simp only
    have ht : tmpCallee c = false := by
      unfold nt at h
      rw [hop] at h
      simpa using h
    rw [heapF_half ht, freshF_half, evVal_half]
    have hn : heapF P env.plain st c = none := heapF_none (plainE env)
    rw [hn]
    rfl

theorem opStep_half (h : nt o = true) : opStep P env.half ops o st = opStep P env.plain ops o st := by
  unfold opStep
  rw [chkOp_half h, evOp_half h]

theorem diamond_half (hi : nt oi = true) (hj : nt oj = true) (hc : comm ops oi oj = true) (hn : ND st) (h1 : opStep P env.half ops oi st = some s1) (h2 : opStep P env.half ops oj s1 = some s12) :
    ∃ s2, opStep P env.half ops oj st = some s2 ∧ opStep P env.half ops oi s2 = some s12 := by
  rw [opStep_half hi] at h1
  rw [opStep_half hj] at h2
  obtain ⟨s2, g1, g2⟩ := diamond (plainE env) hc hn h1 h2
  exact ⟨s2, by rw [opStep_half hj]; exact g1, by rw [opStep_half hi]; exact g2⟩

theorem anyA_first5 {G : St → Prop} {i : Nat} (hi : ops[i]? = some oi) :
    ∀ (n : Nat) (listed : Array Bool) (st s1 : St), ND2 st → Closed ops listed → i ∈ Region.ready .any ops listed →
      (∀ (j : Nat) (oj : Oper), ops[j]? = some oj → j ≠ i → listed.getD j true = false → (comm ops oi oj = true ∧ nt oi = true ∧ nt oj = true) ∨ waits ops 8 j i = true) →
      opStep P env.half ops oi st = some s1 → anyA P env.half ops G n (listed.setIfInBounds i true) s1 → anyA P env.half ops G (n + 1) listed st := by
  intro n
  induction n with
  | zero =>
    intro listed st s1 hn hc hr hfree h1 H
    refine ⟨fun h => (by rw [h] at hr; cases hr), fun j hj => ?_⟩
    by_cases hji : j = i
    · subst hji; exact ⟨oi, s1, hi, h1, H⟩
    · have := ready_mono hj hji
      rw [H.1] at this
      cases this
  | succ n ih =>
    intro listed st s1 hn hc hr hfree h1 H
    refine ⟨fun h => (by rw [h] at hr; cases hr), fun j hj => ?_⟩
    by_cases hji : j = i
    · subst hji; exact ⟨oi, s1, hi, h1, H⟩
    · obtain ⟨oj, s12, hoj, h2, hrest⟩ := H.2 j (ready_mono hj hji)
      have hiun := (mem_ready.1 hr).1
      have hjun := (mem_ready.1 hj).1
      have hcomm : comm ops oi oj = true ∧ nt oi = true ∧ nt oj = true := by
        rcases hfree j oj hoj hji hjun with h | h
        · exact h
        · rw [no_wait_ready hc hiun hj] at h; cases h
      obtain ⟨s2, g1, g2⟩ := diamond_half hcomm.2.1 hcomm.2.2 hcomm.1 hn.1 h1 h2
      refine ⟨oj, s2, hoj, g1, ?_⟩
      refine ih (listed.setIfInBounds j true) s2 s12 (opStep_nd (plainE env) hn (by rw [opStep_half hcomm.2.2] at g1; exact g1)) (closed_set hc hj) (ready_mono hr (Ne.symm hji)) ?_ g2 ?_
      · intro k ok hk hki hun
        refine hfree k ok hk hki ?_
        by_cases hjk : j = k
        · subst hjk; exact hjun
        · rw [getD_set_ne true hjk] at hun; exact hun
      · rw [Array.setIfInBounds_comm _ _ hji]
        exact hrest

theorem anyA_only {G : St → Prop} {i n : Nat} {listed : Array Bool} (hi : ops[i]? = some oi) (hr : i ∈ Region.ready .any ops listed) (ho : ∀ j ∈ Region.ready .any ops listed, j = i)
    (h1 : opStep P env ops oi st = some s1) (H : anyA P env ops G n (listed.setIfInBounds i true) s1) : anyA P env ops G (n + 1) listed st := by
  refine ⟨fun h => (by rw [h] at hr; cases hr), fun j hj => ?_⟩
  obtain rfl := ho j hj
  exact ⟨oi, s1, hi, h1, H⟩

theorem anyA_lex5 (hlex : lexOK5 ops = true) {G : St → Prop} (hG : G st') :
    ∀ (l : List Oper) (k : Nat) (listed : Array Bool) (st : St), (∀ j, l[j]? = ops[k + j]?) → listed.size = ops.size → (∀ j, j < ops.size → listed.getD j true = decide (j < k)) → k + l.length = ops.size →
      (ntTo ops k = true → ND2 st) → runOps P env.half ops l st = some st' → anyA P env.half ops G l.length listed st
  | [], k, listed, st, hl, hsz, hlist, hlen, hn, h => by
    simp only [runOps, Option.some.injEq] at h
    subst h
    refine ⟨?_, hG⟩
    rw [List.eq_nil_iff_forall_not_mem]
    intro j hj
    obtain ⟨h1, o, ho, _⟩ := mem_ready.1 hj
    have hlt : j < ops.size := (Array.getElem?_eq_some_iff.1 ho).1
    rw [hlist j hlt] at h1
    simp at hlen h1
    omega
  | o :: l, k, listed, st, hl, hsz, hlist, hlen, hn, h => by
    simp only [runOps] at h
    obtain ⟨s1, h1, h2⟩ := Option.bind_eq_some_iff.1 h
    have h0 : ops[k]? = some o := by simpa using (hl 0).symm
    have hk : k < ops.size := (Array.getElem?_eq_some_iff.1 h0).1
    have hlf : ∀ j, j < ops.size → listed.getD j false = decide (j < k) := fun j hj => by
      have := hlist j hj
      have hj' : j < listed.size := by omega
      simpa [hj'] using this
    unfold lexOK5 at hlex
    have hlex' := hlex
    rw [List.all_eq_true] at hlex'
    have hat : ∀ (j : Nat) (oj : Oper), ops[j]? = some oj → (∀ e ∈ oj.after, Region.binds .any e = true → e.on < j) ∧ ∀ (i : Nat) (oi : Oper), i < j → ops[i]? = some oi → (comm ops oi oj = true ∧ nt oi = true ∧ nt oj = true ∧ ntTo ops j = true) ∨ waits ops 8 j i = true := by
      intro j oj hj
      have hlt : j < ops.size := (Array.getElem?_eq_some_iff.1 hj).1
      have := hlex' j (List.mem_range.2 hlt)
      rw [hj] at this
      simp only [Bool.and_eq_true, Array.all_eq_true_iff_forall_mem, List.all_eq_true] at this
      refine ⟨fun e he hb => ?_, fun i oi hij hi => ?_⟩
      · have := this.1 e he
        simpa [hb] using this
      · have := this.2 i (List.mem_range.2 hij)
        rw [hi] at this
        simp only [Bool.or_eq_true, Bool.and_eq_true] at this
        rcases this with h | ⟨⟨⟨q1, q2⟩, q3⟩, q4⟩
        · exact .inr h
        · exact .inl ⟨q1, q2, q3, q4⟩
    have hready : k ∈ Region.ready .any ops listed := mem_ready.2 ⟨by rw [hlist k hk]; simp, o, h0, fun e he hb => by
      have hlt := (hat k o h0).1 e he hb
      rw [hlf e.on (by omega)]
      simpa using hlt⟩
    have hclosed : Closed ops listed := by
      intro j oj hj hjl e he hb
      have hlt : j < ops.size := (Array.getElem?_eq_some_iff.1 hj).1
      rw [hlf j hlt] at hjl
      have := (hat j oj hj).1 e he hb
      rw [hlf e.on (by omega)]
      simp at hjl ⊢
      omega
    have hlater : ∀ j, j ∈ Region.ready .any ops listed → j ≠ k → ∃ oj, ops[j]? = some oj ∧ k < j := by
      intro j hj hjk
      obtain ⟨hun, oj, hoj, _⟩ := mem_ready.1 hj
      have hlt : j < ops.size := (Array.getElem?_eq_some_iff.1 hoj).1
      rw [hlist j hlt] at hun
      simp at hun
      exact ⟨oj, hoj, by omega⟩
    have hgo : anyA P env.half ops G l.length (listed.setIfInBounds k true) s1 := by
      refine anyA_lex5 hlex hG l (k + 1) _ s1 (fun j => by have := hl (j + 1); simpa [Nat.add_assoc, Nat.add_comm 1 j] using this) (by simpa using hsz) ?_ (by simp at hlen; omega) (fun hnt => ?_) h2
      · intro j hj
        by_cases hjk : k = j
        · subst hjk
          have : k < listed.size := by omega
          simp [this]
        · rw [getD_set_ne true hjk, hlist j hj]
          simp
          omega
      · unfold ntTo at hnt
        rw [List.all_eq_true] at hnt
        have hk1 := hnt k (List.mem_range.2 (Nat.lt_succ_self k))
        rw [h0] at hk1
        have hk0 : ntTo ops k = true := by
          unfold ntTo
          rw [List.all_eq_true]
          intro j hj
          exact hnt j (List.mem_range.2 (Nat.lt_succ_of_lt (List.mem_range.1 hj)))
        exact opStep_nd (plainE env) (hn hk0) (by rw [← opStep_half hk1]; exact h1)
    by_cases hall : ∀ j ∈ Region.ready .any ops listed, j = k
    · exact anyA_only h0 hready hall h1 hgo
    · have hnd : ND2 st := by
        obtain ⟨j, hj⟩ := Classical.not_forall.1 hall
        obtain ⟨hj, hjk⟩ := Classical.not_imp.1 hj
        obtain ⟨oj, hoj, hlt⟩ := hlater j hj hjk
        refine hn ?_
        rcases (hat j oj hoj).2 k o hlt h0 with h | h
        · have h4 := h.2.2.2
          unfold ntTo at h4 ⊢
          rw [List.all_eq_true] at h4 ⊢
          intro q hq
          exact h4 q (List.mem_range.2 (Nat.lt_trans (List.mem_range.1 hq) hlt))
        · rw [no_wait_ready hclosed (mem_ready.1 hready).1 hj] at h
          cases h
      refine anyA_first5 h0 l.length listed st s1 hnd hclosed hready ?_ h1 hgo
      intro j oj hj hjk hun
      have hlt : j < ops.size := (Array.getElem?_eq_some_iff.1 hj).1
      rw [hlist j hlt] at hun
      simp at hun
      rcases (hat j oj hj).2 k o (by omega) h0 with h | h
      · exact .inl ⟨h.1, h.2.1, h.2.2.1⟩
      · exact .inr h

theorem region_draw_sound5 (hm : P.follows .mixedOrders = true) (henv : EnvOK P env) (hlex : lexOK5 ops = true) {id : Nat} (h : runOps P env.half ops ops.toList st = some st') (R : Rel P F st a w)
    (hQ : ∀ a w, Rel P F st' a w → Q .normal a w) : (Code.region id ops true).wp P Q a w := by
  obtain ⟨ok, β, R⟩ := R
  refine wp_region_any hm ?_
  refine anyA_sound (G := fun s => s = st') henv.half (fun s a w hs R' => hQ a w (hs ▸ R')) _ _ st a _ ?_ ⟨ok, β, R.drawn⟩
  have := anyA_lex5 (G := fun s => s = st') hlex rfl ops.toList 0 (Array.replicate ops.size false) st (by simp) (by simp) (fun j hj => by simp [hj]) (by simp) (fun _ => ⟨R.nd, R.hp.nb⟩) h
  simpa using this

end
end Go.Ev
