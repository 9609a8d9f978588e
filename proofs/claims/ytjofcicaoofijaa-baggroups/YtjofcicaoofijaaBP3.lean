/- Layer 3: what rows are sorted by. Nothing here is trusted. -/
import Derived.Test.YtjofcicaoofijaaBT3
namespace Go.Proofs.Ytjofcicaoofijaa
open Go.Ev
set_option linter.unusedVariables false
set_option linter.unusedSimpArgs false

def e20 : FuncId × TypeId × (List AV → Bool) × (List AV → Option D) := (20, 3, yes, ent [49, 49] (f2 fun x y => some (.lit (.int .i64 (againstI (fieldD x 0) (fieldD y 0))))))
theorem k20 : FnOK Try.prog 20 Try.f20 := ⟨Try.func20, rfl, by kernel_rfl⟩
theorem c20 : ∀ args d, e20.2.2.2 args = some d → CallOK Try.prog 20 args (mkRes Try.prog 3 d) :=
  ent2 k20 fun x y d h _ _ => by
    cases h
    rw [nE, nE]
    refine fn_ok hm envB2 k20 ((t20 1 x y).trans ?_)
    rw [m3]
    rfl
def e13 : FuncId × TypeId × (List AV → Bool) × (List AV → Option D) := (13, 4, yes, ent [22, 22] (f2 fun x y => some (.lit (.bool (hasAllB (elemsD x) (elemsD y))))))
theorem k13 : FnOK Try.prog 13 Try.f13 := ⟨Try.func13, rfl, by kernel_rfl⟩
theorem c13 : ∀ args d, e13.2.2.2 args = some d → CallOK Try.prog 13 args (mkRes Try.prog 4 d) :=
  ent2 k13 fun x y d h ⟨_, hx⟩ ⟨_, hy⟩ => by
    cases h
    rw [nI, nI]
    refine fn_ok hm envB2 k13 ((t13 ((elemsD y).length + 1) x y).trans ?_)
    rw [m4]
    have := l_loop (fun n v => t13_lp2 Try.prog Try.f13 ((elemsD y).length + 1) n x y v) (elemsD y).length (fun i => !hasB (elemsD x) (intD ((elemsD y).getD i .nil))) (some (dat 4 (.lit (.bool false)))) (some (dat 4 (.lit (.bool true))))
      (fun n i hi => by rw [t13_lp2_step, l_idx hi, l_lt hi, cond_true, cond_true, Int.toNat_natCast, l_wrap (lenI hy) hi])
      (fun n => by rw [t13_lp2_step, l_ge (by omega), cond_false]) ((elemsD y).length + 1) 0 (Nat.zero_le _) (by omega)
    refine this.trans ?_
    rw [Nat.sub_zero, l_any0 (elemsD y) (fun c => !hasB (elemsD x) (intD c))]
    show _ = some (dat 4 (.lit (.bool (hasAllB (elemsD x) (elemsD y)))))
    have e : hasAllB (elemsD x) (elemsD y) = !((elemsD y).any fun c => !hasB (elemsD x) (intD c)) := by
      unfold hasAllB
      rw [List.all_map, List.all_eq_not_any_not]
      rfl
    rw [e]
    cases (elemsD y).any _ <;> rfl
def B3 : Tab := e20 :: e13 :: B2
theorem envB3 : EnvOK Try.prog (envR B3 [] [] []) := envOK_cons (envOK_cons envB2 c13) c20

/-! ### What Sorted asks -/
def a27 : List AV := [dat 32 .nil, dat 32 .nil, bxp OID 3]
def b27 : List Ent := [⟨3, .nil, 0, none⟩]
def g27 (ds hs : List D) : Option D := match ds, hs with
  | [x, y, _], [q] => some (.lit (.int .i64 (againstI (rankD (elemsD x) (intD q)) (rankD (elemsD y) (intD q)))))
  | _, _ => none
def r27 : FuncId × TypeId × (List AV → List Ent → Bool) × (List AV → List Ent → Option D) := (27, 3, preH a27 b27 (fun _ _ => true), entR a27 b27 g27)
theorem k27 : FnOK Try.prog 27 Try.f27 := ⟨Try.func27, rfl, by kernel_rfl⟩
theorem r27_ok : ∀ args hp d, preH a27 b27 (fun _ _ => true) args hp = true → entR a27 b27 g27 args hp = some d → HCallOK Try.prog 27 args hp (mkRes Try.prog 3 d) (hp.map some) := by
  refine entR_ok rfl rfl fun ds es d _ hd => ?_
  unfold g27 at hd
  split at hd
  · rename_i x y z q
    cases hd
    refine HCallOK.typed k27.ex fun _ hty => ?_
    obtain ⟨n, hn⟩ := hty ⟨3, q, 0, none⟩ (by simp [fillE, b27]) rfl rfl
    obtain ⟨w, rfl, _⟩ := ty3' hn
    rw [m3]
    exact fnH_ok hm envB2 k27 (t27 1 x y w)
  · cases hd
def R3 : RTab := [r27]
theorem envR3 : EnvOK Try.prog (envR B3 [] R3 []) := envOK_consR envB3 r27_ok

end Go.Proofs.Ytjofcicaoofijaa
