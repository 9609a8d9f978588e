/- Layer 2: Pair. Nothing here is trusted. -/
import Derived.Test.YtochjfimogijjaaWPA
import Derived.Test.YtochjfimogijjaaWTP
namespace Go.Proofs.Ytochjfimogijjaa
open Go.Ev
set_option linter.unusedVariables false
set_option linter.unusedSimpArgs false

theorem m31 (x : D) : mkRes Try.prog 31 x = tupA [3, 3, 4] x := by kernel_rfl
def e10 : FuncId × TypeId × (List AV → Bool) × (List AV → Option D) := (10, 31, yes, ent [26] (f1 fun x => some (.agg [.lit (.int .i64 (pairA x)), .lit (.int .i64 (pairB x)), .lit (.bool (pairE x))])))
theorem k10 : FnOK Try.prog 10 Try.f10 := ⟨Try.func10, rfl, by kernel_rfl⟩
theorem takes_two {n : Int} (h : takesN 6 n = true) : n = 2 := by
  have : (n == 2) = true := h
  simpa using this
theorem pair_len {x : D} (h : mayE x = true) (h6 : opI x = 6) : (kids x).length = 2 := by
  have hok := mayE_ok h
  rw [okK_succ, Bool.and_eq_true] at hok
  obtain ⟨_, _, _, _, _, ht⟩ := fits_op hok.1
  rw [h6] at ht
  have := takes_two ht
  omega
theorem c10 : ∀ args d, e10.2.2.2 args = some d → CallOK Try.prog 10 args (mkRes Try.prog 31 d) :=
  ent1 k10 fun x d h _ => by
    cases h
    rw [n26]
    refine fn_ok hm envU4 k10 ((t10 1 x).trans ?_)
    rw [m31, show intD (fieldD x 0) = opI x from rfl, show elemsD (fieldD x 3) = kids x from rfl, show intD (fieldD ((kids x).getD 0 .nil) 0) = opI ((kids x).getD 0 .nil) from rfl, show intD (fieldD ((kids x).getD 1 .nil) 0) = opI ((kids x).getD 1 .nil) from rfl,
      show intD (fieldD ((kids x).getD 0 .nil) 1) = colI ((kids x).getD 0 .nil) from rfl, show intD (fieldD ((kids x).getD 1 .nil) 1) = colI ((kids x).getD 1 .nil) from rfl]
    unfold pairA pairB pairE
    cases hmay : mayE x with
    | false => rfl
    | true =>
      cases h6 : (opI x == 6) with
      | false =>
        rw [show (opI x != 6) = !(opI x == 6) from rfl, h6]
        rfl
      | true =>
        have hl := pair_len hmay (by simpa using h6)
        rw [show (opI x != 6) = !(opI x == 6) from rfl, h6, hl]
        generalize colI ((kids x).getD 0 .nil) = a
        generalize colI ((kids x).getD 1 .nil) = b
        rw [show (opI ((kids x).getD 0 .nil) != 1) = !(opI ((kids x).getD 0 .nil) == 1) from rfl, show (opI ((kids x).getD 1 .nil) != 1) = !(opI ((kids x).getD 1 .nil) == 1) from rfl]
        generalize (opI ((kids x).getD 0 .nil) == 1) = u
        generalize (opI ((kids x).getD 1 .nil) == 1) = v
        generalize (a == b) = q
        cases u <;> cases v <;> cases q <;> rfl
def UP : Tab := e10 :: U9
theorem envUP : EnvOK Try.prog (envH UP []) := envOK_cons envU9 c10

end Go.Proofs.Ytochjfimogijjaa
