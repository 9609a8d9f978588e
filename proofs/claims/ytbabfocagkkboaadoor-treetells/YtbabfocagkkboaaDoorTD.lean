/- Layer 6: how many bits, and the lowest one, of small numbers. Nothing here is trusted. -/
import Derived.Test.YtbabfocagkkboaaDoorTC
import Derived.Test.YtbabfocagkkboaaDoorTZ
namespace Go.Proofs.YtbabfocagkkboaaDoor
namespace X
open Go.Ev
set_option linter.unusedVariables false
set_option linter.unusedSimpArgs false
set_option maxRecDepth 100000

theorem k46 : FnOK Tryd.prog 46 Tryd.f46 := ⟨Tryd.func46, rfl, by kernel_rfl⟩
theorem k48 : FnOK Tryd.prog 48 Tryd.f48 := ⟨Tryd.func48, rfl, by kernel_rfl⟩
def noH : Hints := fun _ => none
theorem ty53' {n : Nat} {x : D} (h : Ty Tryd.prog n 53 x) : ∃ z, x = .lit (.int .u64 z) ∧ (Lit.int .u64 z).wf = true := ty_int u53 h
theorem t46_0 : evFn Tryd.prog (envH [] []) noH 1 Tryd.f46 [dat 53 (.lit (.int .u64 0))] = some (dat 3 (.lit (.int .i64 (popI 0)))) := by kernel_rfl
theorem t46_1 : evFn Tryd.prog (envH [] []) noH 1 Tryd.f46 [dat 53 (.lit (.int .u64 1))] = some (dat 3 (.lit (.int .i64 (popI 1)))) := by kernel_rfl
theorem t46_2 : evFn Tryd.prog (envH [] []) noH 1 Tryd.f46 [dat 53 (.lit (.int .u64 2))] = some (dat 3 (.lit (.int .i64 (popI 2)))) := by kernel_rfl
theorem t46_3 : evFn Tryd.prog (envH [] []) noH 1 Tryd.f46 [dat 53 (.lit (.int .u64 3))] = some (dat 3 (.lit (.int .i64 (popI 3)))) := by kernel_rfl
theorem t46_4 : evFn Tryd.prog (envH [] []) noH 1 Tryd.f46 [dat 53 (.lit (.int .u64 4))] = some (dat 3 (.lit (.int .i64 (popI 4)))) := by kernel_rfl
theorem t46_5 : evFn Tryd.prog (envH [] []) noH 1 Tryd.f46 [dat 53 (.lit (.int .u64 5))] = some (dat 3 (.lit (.int .i64 (popI 5)))) := by kernel_rfl
theorem t46_6 : evFn Tryd.prog (envH [] []) noH 1 Tryd.f46 [dat 53 (.lit (.int .u64 6))] = some (dat 3 (.lit (.int .i64 (popI 6)))) := by kernel_rfl
theorem t46_7 : evFn Tryd.prog (envH [] []) noH 1 Tryd.f46 [dat 53 (.lit (.int .u64 7))] = some (dat 3 (.lit (.int .i64 (popI 7)))) := by kernel_rfl
theorem t46_8 : evFn Tryd.prog (envH [] []) noH 1 Tryd.f46 [dat 53 (.lit (.int .u64 8))] = some (dat 3 (.lit (.int .i64 (popI 8)))) := by kernel_rfl
theorem t46_9 : evFn Tryd.prog (envH [] []) noH 1 Tryd.f46 [dat 53 (.lit (.int .u64 9))] = some (dat 3 (.lit (.int .i64 (popI 9)))) := by kernel_rfl
theorem t46_10 : evFn Tryd.prog (envH [] []) noH 1 Tryd.f46 [dat 53 (.lit (.int .u64 10))] = some (dat 3 (.lit (.int .i64 (popI 10)))) := by kernel_rfl
theorem t46_11 : evFn Tryd.prog (envH [] []) noH 1 Tryd.f46 [dat 53 (.lit (.int .u64 11))] = some (dat 3 (.lit (.int .i64 (popI 11)))) := by kernel_rfl
theorem t46_12 : evFn Tryd.prog (envH [] []) noH 1 Tryd.f46 [dat 53 (.lit (.int .u64 12))] = some (dat 3 (.lit (.int .i64 (popI 12)))) := by kernel_rfl
theorem t46_13 : evFn Tryd.prog (envH [] []) noH 1 Tryd.f46 [dat 53 (.lit (.int .u64 13))] = some (dat 3 (.lit (.int .i64 (popI 13)))) := by kernel_rfl
theorem t46_14 : evFn Tryd.prog (envH [] []) noH 1 Tryd.f46 [dat 53 (.lit (.int .u64 14))] = some (dat 3 (.lit (.int .i64 (popI 14)))) := by kernel_rfl
theorem t46_15 : evFn Tryd.prog (envH [] []) noH 1 Tryd.f46 [dat 53 (.lit (.int .u64 15))] = some (dat 3 (.lit (.int .i64 (popI 15)))) := by kernel_rfl
def e46 : FuncId × TypeId × (List AV → Bool) × (List AV → Option D) := (46, 3, preD (q1 fun x => decide (0 ≤ intD x) && decide (intD x < 16)), ent [53] (f1 fun x => some (.lit (.int .i64 (popI (intD x))))))
theorem c46 : ∀ args d, e46.2.2.1 args = true → e46.2.2.2 args = some d → CallOK Tryd.prog 46 args (mkRes Tryd.prog 3 d) :=
  ent1p k46 fun x d hq h ⟨_, hx⟩ => by
    cases h
    obtain ⟨z, rfl, hz⟩ := ty53' hx
    rw [n53]
    have hq : (decide (0 ≤ z) && decide (z < 16)) = true := hq
    rw [Bool.and_eq_true, decide_eq_true_eq, decide_eq_true_eq] at hq
    show CallOK Tryd.prog 46 [dat 53 (.lit (.int .u64 z))] (mkRes Tryd.prog 3 (.lit (.int .i64 (popI z))))
    have h16 : z = 0 ∨ z = 1 ∨ z = 2 ∨ z = 3 ∨ z = 4 ∨ z = 5 ∨ z = 6 ∨ z = 7 ∨ z = 8 ∨ z = 9 ∨ z = 10 ∨ z = 11 ∨ z = 12 ∨ z = 13 ∨ z = 14 ∨ z = 15 := by omega
    rcases h16 with rfl | rfl | rfl | rfl | rfl | rfl | rfl | rfl | rfl | rfl | rfl | rfl | rfl | rfl | rfl | rfl
    · exact fn_ok hm env0 k46 (t46_0.trans (by rw [m3]; rfl))
    · exact fn_ok hm env0 k46 (t46_1.trans (by rw [m3]; rfl))
    · exact fn_ok hm env0 k46 (t46_2.trans (by rw [m3]; rfl))
    · exact fn_ok hm env0 k46 (t46_3.trans (by rw [m3]; rfl))
    · exact fn_ok hm env0 k46 (t46_4.trans (by rw [m3]; rfl))
    · exact fn_ok hm env0 k46 (t46_5.trans (by rw [m3]; rfl))
    · exact fn_ok hm env0 k46 (t46_6.trans (by rw [m3]; rfl))
    · exact fn_ok hm env0 k46 (t46_7.trans (by rw [m3]; rfl))
    · exact fn_ok hm env0 k46 (t46_8.trans (by rw [m3]; rfl))
    · exact fn_ok hm env0 k46 (t46_9.trans (by rw [m3]; rfl))
    · exact fn_ok hm env0 k46 (t46_10.trans (by rw [m3]; rfl))
    · exact fn_ok hm env0 k46 (t46_11.trans (by rw [m3]; rfl))
    · exact fn_ok hm env0 k46 (t46_12.trans (by rw [m3]; rfl))
    · exact fn_ok hm env0 k46 (t46_13.trans (by rw [m3]; rfl))
    · exact fn_ok hm env0 k46 (t46_14.trans (by rw [m3]; rfl))
    · exact fn_ok hm env0 k46 (t46_15.trans (by rw [m3]; rfl))
theorem hasTab : hasVar Tryd.prog "math/bits.deBruijn64tab" = true := by kernel_rfl
theorem gTab : Tryd.prog.globalNamed "math/bits.deBruijn64tab" = some 1 := by kernel_rfl
theorem cells3 : Tryd.prog.cellsOf 3 = 1 := by kernel_rfl
def e48 : FuncId × TypeId × (List AV → Bool) × (List AV → Option D) := (48, 3, preD (q1 fun x => tzPre (intD x)), ent [53] (f1 fun x => some (.lit (.int .i64 (tzI (intD x))))))
theorem tz_call {x k idx : Nat} (hx0 : ((x : Int) == 0) = false)
    (key : IntKind.u64.wrap (bits BinOp.and IntKind.u64 (x : Int) (IntKind.u64.wrap (-(x : Int))) * 285870213051353865) / 288230376151711744 = (idx : Int))
    (hi : idx < 64) (hk : k < 64) (ht : deBruijn.getD idx 0 = (k : Int)) : CallOK Tryd.prog 48 [dat 53 (.lit (.int .u64 (x : Int)))] (dat 3 (.lit (.int .i64 (k : Int)))) := by
  refine ⟨k48.ex, .inl rfl, fun w okA vs htb hok hargs => ?_⟩
  match vs, hargs with
  | [v], hargs =>
    obtain ⟨z, hz, hv, _⟩ := hargs.1.2.int u53
    cases hz
    subst hv
    have htab := htb w (BelowX.refl _ _ _) ("math/bits.deBruijn64tab", .u8, deBruijn) (by simp [knownTabs]) hasTab
    have hcell : w.cell? ⟨1, idx, none⟩ = some (.int .u8 (k : Int)) := by
      have := htab.cell gTab idx (by have : deBruijn.length = 64 := rfl
                                     show idx < deBruijn.length
                                     omega)
      rw [this]
      show some (Value.int .u8 (deBruijn.getD idx 0)) = _
      rw [ht]
    refine (tz_core x k idx w hx0 key hi hk hcell).mono ?_
    rintro e w' ⟨rfl, rfl⟩
    refine ⟨_, fun _ => False, rfl, RowKit.Below.refl _ _, fun b hb => hb.elim, repAV_dat (repV_int u3 cells3 ?_)⟩
    simp [Lit.wf, IntKind.min, IntKind.max, IntKind.signed, IntKind.bits]
    omega
  | [], hargs => exact hargs.elim
  | _ :: _ :: _, hargs => exact hargs.2.elim
theorem c48 : ∀ args d, e48.2.2.1 args = true → e48.2.2.2 args = some d → CallOK Tryd.prog 48 args (mkRes Tryd.prog 3 d) :=
  ent1p k48 fun x d hq h ⟨_, hx⟩ => by
    cases h
    obtain ⟨z, rfl, hz⟩ := ty53' hx
    rw [n53]
    have hq : (z == 1 || z == 2 || z == 4 || z == 8) = true := hq
    rw [Bool.or_eq_true, Bool.or_eq_true, Bool.or_eq_true, beq_iff_eq, beq_iff_eq, beq_iff_eq, beq_iff_eq] at hq
    rcases hq with ((rfl | rfl) | rfl) | rfl
    · exact tz_call (x := 1) (k := 0) (idx := 0) rfl (by decide) (by decide) (by decide) rfl
    · exact tz_call (x := 2) (k := 1) (idx := 1) rfl (by decide) (by decide) (by decide) rfl
    · exact tz_call (x := 4) (k := 2) (idx := 3) rfl (by decide) (by decide) (by decide) rfl
    · exact tz_call (x := 8) (k := 3) (idx := 7) rfl (by decide) (by decide) (by decide) rfl
def SB : Tab := e48 :: e46 :: []
theorem envSB : EnvOK Tryd.prog (envH SB []) := envOK_cons' (envOK_cons' env0 c46) c48
end X
end Go.Proofs.YtbabfocagkkboaaDoor

namespace Go.Proofs.YtbabfocagkkboaaDoor
namespace X
open Go.Ev
set_option linter.unusedVariables false
/- math/bits.OnesCount -/
def t39_h : Hints := fun _ =>  none
theorem t39 (N : Nat) (x0 : Int) : evFn Tryd.prog (envH SB []) t39_h N Tryd.f39 [dat 53 (.lit (.int .u64 x0))] =
  bif (decide (0 ≤ x0) && decide (x0 < 16)) then
    some (dat 3 (.lit (.int .i64 (popI x0))))
  else none := by kernel_rfl

/- math/bits.TrailingZeros -/
def t40_h : Hints := fun _ =>  none
theorem t40 (N : Nat) (x0 : Int) : evFn Tryd.prog (envH SB []) t40_h N Tryd.f40 [dat 53 (.lit (.int .u64 x0))] =
  bif tzPre x0 then
    some (dat 3 (.lit (.int .i64 (tzI x0))))
  else none := by kernel_rfl

end X
end Go.Proofs.YtbabfocagkkboaaDoor

namespace Go.Proofs.YtbabfocagkkboaaDoor
namespace X
open Go.Ev
set_option linter.unusedVariables false
set_option linter.unusedSimpArgs false

theorem k39 : FnOK Tryd.prog 39 Tryd.f39 := ⟨Tryd.func39, rfl, by kernel_rfl⟩
theorem k40 : FnOK Tryd.prog 40 Tryd.f40 := ⟨Tryd.func40, rfl, by kernel_rfl⟩
def e39 : FuncId × TypeId × (List AV → Bool) × (List AV → Option D) := (39, 3, preD (q1 fun x => decide (0 ≤ intD x) && decide (intD x < 16)), ent [53] (f1 fun x => some (.lit (.int .i64 (popI (intD x))))))
theorem c39 : ∀ args d, e39.2.2.1 args = true → e39.2.2.2 args = some d → CallOK Tryd.prog 39 args (mkRes Tryd.prog 3 d) :=
  ent1p k39 fun x d hq h ⟨_, hx⟩ => by
    cases h
    obtain ⟨z, rfl, hz⟩ := ty53' hx
    rw [n53]
    have hq : (decide (0 ≤ z) && decide (z < 16)) = true := hq
    refine fn_ok hm envSB k39 ((t39 0 z).trans ?_)
    rw [hq, m3]
    rfl
def e40 : FuncId × TypeId × (List AV → Bool) × (List AV → Option D) := (40, 3, preD (q1 fun x => tzPre (intD x)), ent [53] (f1 fun x => some (.lit (.int .i64 (tzI (intD x))))))
theorem c40 : ∀ args d, e40.2.2.1 args = true → e40.2.2.2 args = some d → CallOK Tryd.prog 40 args (mkRes Tryd.prog 3 d) :=
  ent1p k40 fun x d hq h ⟨_, hx⟩ => by
    cases h
    obtain ⟨z, rfl, hz⟩ := ty53' hx
    rw [n53]
    have hq : tzPre z = true := hq
    refine fn_ok hm envSB k40 ((t40 0 z).trans ?_)
    rw [hq, m3]
    rfl
def e27 (K : Nat) : FuncId × TypeId × (List AV → Bool) × (List AV → Option D) := (27, 22, preD (q1 fun x => decide (1 ≤ intD x) && decide (intD x < (K : Int))), ent [3] (f1 fun x => some (.slice (allT (intD x)) [])))
def SC : Tab := e40 :: e39 :: e41 :: S0
theorem envSC : EnvOK Tryd.prog (envH SC []) := envOK_cons' (envOK_cons' (envOK_cons' envS0 c41) c39) c40
def SA (K : Nat) : Tab := e27 K :: SC
end X
end Go.Proofs.YtbabfocagkkboaaDoor
