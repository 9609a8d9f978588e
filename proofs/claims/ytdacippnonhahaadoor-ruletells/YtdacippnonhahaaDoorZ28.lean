/- Trees of functions, and lemmas. Nothing here is trusted. -/
import Derived.Test.YtdacippnonhahaaDoorZ23
import Derived.Test.YtdacippnonhahaaDoorZ02
import Derived.Test.YtdacippnonhahaaDoorZ20
import Derived.Test.YtdacippnonhahaaDoorZ21
namespace Go.Proofs.YtdacippnonhahaaDoor
section
namespace X
open Go.Ev
set_option linter.unusedVariables false
set_option linter.unusedSimpArgs false
set_option maxRecDepth 10000
set_option maxRecDepth 100000

theorem k47 : FnOK Tryd.prog 47 Tryd.f47 := ⟨Tryd.func47, rfl, by kernel_rfl⟩
theorem k49 : FnOK Tryd.prog 49 Tryd.f49 := ⟨Tryd.func49, rfl, by kernel_rfl⟩
def noH : Hints := fun _ => none
theorem u53' : Tryd.prog.underlying 52 = some (.int .u64) := by kernel_rfl
theorem n53' (x : D) : normD Tryd.prog 52 x = .lit (.int .u64 (intD x)) := by kernel_rfl
theorem ty53' {n : Nat} {x : D} (h : Ty Tryd.prog n 52 x) : ∃ z, x = .lit (.int .u64 z) /\ (Lit.int .u64 z).wf = true := ty_int u53' h
theorem t47_0 : evFn Tryd.prog (envH [] []) noH 1 Tryd.f47 [dat 52 (.lit (.int .u64 0))] = some (dat 3 (.lit (.int .i64 (popI 0)))) := by kernel_rfl
theorem t47_1 : evFn Tryd.prog (envH [] []) noH 1 Tryd.f47 [dat 52 (.lit (.int .u64 1))] = some (dat 3 (.lit (.int .i64 (popI 1)))) := by kernel_rfl
theorem t47_2 : evFn Tryd.prog (envH [] []) noH 1 Tryd.f47 [dat 52 (.lit (.int .u64 2))] = some (dat 3 (.lit (.int .i64 (popI 2)))) := by kernel_rfl
theorem t47_3 : evFn Tryd.prog (envH [] []) noH 1 Tryd.f47 [dat 52 (.lit (.int .u64 3))] = some (dat 3 (.lit (.int .i64 (popI 3)))) := by kernel_rfl
theorem t47_4 : evFn Tryd.prog (envH [] []) noH 1 Tryd.f47 [dat 52 (.lit (.int .u64 4))] = some (dat 3 (.lit (.int .i64 (popI 4)))) := by kernel_rfl
theorem t47_5 : evFn Tryd.prog (envH [] []) noH 1 Tryd.f47 [dat 52 (.lit (.int .u64 5))] = some (dat 3 (.lit (.int .i64 (popI 5)))) := by kernel_rfl
theorem t47_6 : evFn Tryd.prog (envH [] []) noH 1 Tryd.f47 [dat 52 (.lit (.int .u64 6))] = some (dat 3 (.lit (.int .i64 (popI 6)))) := by kernel_rfl
theorem t47_7 : evFn Tryd.prog (envH [] []) noH 1 Tryd.f47 [dat 52 (.lit (.int .u64 7))] = some (dat 3 (.lit (.int .i64 (popI 7)))) := by kernel_rfl
theorem t47_8 : evFn Tryd.prog (envH [] []) noH 1 Tryd.f47 [dat 52 (.lit (.int .u64 8))] = some (dat 3 (.lit (.int .i64 (popI 8)))) := by kernel_rfl
theorem t47_9 : evFn Tryd.prog (envH [] []) noH 1 Tryd.f47 [dat 52 (.lit (.int .u64 9))] = some (dat 3 (.lit (.int .i64 (popI 9)))) := by kernel_rfl
theorem t47_10 : evFn Tryd.prog (envH [] []) noH 1 Tryd.f47 [dat 52 (.lit (.int .u64 10))] = some (dat 3 (.lit (.int .i64 (popI 10)))) := by kernel_rfl
theorem t47_11 : evFn Tryd.prog (envH [] []) noH 1 Tryd.f47 [dat 52 (.lit (.int .u64 11))] = some (dat 3 (.lit (.int .i64 (popI 11)))) := by kernel_rfl
theorem t47_12 : evFn Tryd.prog (envH [] []) noH 1 Tryd.f47 [dat 52 (.lit (.int .u64 12))] = some (dat 3 (.lit (.int .i64 (popI 12)))) := by kernel_rfl
theorem t47_13 : evFn Tryd.prog (envH [] []) noH 1 Tryd.f47 [dat 52 (.lit (.int .u64 13))] = some (dat 3 (.lit (.int .i64 (popI 13)))) := by kernel_rfl
theorem t47_14 : evFn Tryd.prog (envH [] []) noH 1 Tryd.f47 [dat 52 (.lit (.int .u64 14))] = some (dat 3 (.lit (.int .i64 (popI 14)))) := by kernel_rfl
theorem t47_15 : evFn Tryd.prog (envH [] []) noH 1 Tryd.f47 [dat 52 (.lit (.int .u64 15))] = some (dat 3 (.lit (.int .i64 (popI 15)))) := by kernel_rfl
def e47 : FuncId × TypeId × (List AV -> Bool) × (List AV -> Option D)   := (47, 3, preD (q1 fun x => decide (0 <= intD x) && decide (intD x < 16)), ent [52] (f1 fun x => some (.lit (.int .i64 (popI (intD x))))))
theorem c47 : ∀ args d, e47.2.2.1 args = true -> e47.2.2.2 args = some d -> CallOK Tryd.prog 47 args (mkRes Tryd.prog 3 d) :=
 ent1p k47 fun x d hq h ⟨_, hx⟩ => by
  cases h
  obtain ⟨z, rfl, hz⟩ := ty53' hx
  rw [n53']
  have hq : (decide (0 <= z) && decide (z < 16)) = true := hq
  rw [Bool.and_eq_true, decide_eq_true_eq, decide_eq_true_eq] at hq
  show CallOK Tryd.prog 47 [dat 52 (.lit (.int .u64 z))] (mkRes Tryd.prog 3 (.lit (.int .i64 (popI z))))
  have h16 : z = 0 \/ z = 1 \/ z = 2 \/ z = 3 \/ z = 4 \/ z = 5 \/ z = 6 \/ z = 7 \/ z = 8 \/ z = 9 \/ z = 10 \/ z = 11 \/ z = 12 \/ z = 13 \/ z = 14 \/ z = 15 := by omega
  rcases h16 with rfl | rfl | rfl | rfl | rfl | rfl | rfl | rfl | rfl | rfl | rfl | rfl | rfl | rfl | rfl | rfl
  ·exact fn_ok hm env0 k47 (t47_0.trans (by rw [m3]; rfl))
  ·exact fn_ok hm env0 k47 (t47_1.trans (by rw [m3]; rfl))
  ·exact fn_ok hm env0 k47 (t47_2.trans (by rw [m3]; rfl))
  ·exact fn_ok hm env0 k47 (t47_3.trans (by rw [m3]; rfl))
  ·exact fn_ok hm env0 k47 (t47_4.trans (by rw [m3]; rfl))
  ·exact fn_ok hm env0 k47 (t47_5.trans (by rw [m3]; rfl))
  ·exact fn_ok hm env0 k47 (t47_6.trans (by rw [m3]; rfl))
  ·exact fn_ok hm env0 k47 (t47_7.trans (by rw [m3]; rfl))
  ·exact fn_ok hm env0 k47 (t47_8.trans (by rw [m3]; rfl))
  ·exact fn_ok hm env0 k47 (t47_9.trans (by rw [m3]; rfl))
  ·exact fn_ok hm env0 k47 (t47_10.trans (by rw [m3]; rfl))
  ·exact fn_ok hm env0 k47 (t47_11.trans (by rw [m3]; rfl))
  ·exact fn_ok hm env0 k47 (t47_12.trans (by rw [m3]; rfl))
  ·exact fn_ok hm env0 k47 (t47_13.trans (by rw [m3]; rfl))
  ·exact fn_ok hm env0 k47 (t47_14.trans (by rw [m3]; rfl))
  ·exact fn_ok hm env0 k47 (t47_15.trans (by rw [m3]; rfl))
theorem hasTab : hasVar Tryd.prog "math/bits.deBruijn64tab" = true := by kernel_rfl
theorem gTab : Tryd.prog.globalNamed "math/bits.deBruijn64tab" = some 1 := by kernel_rfl
theorem cells3 : Tryd.prog.cellsOf 3 = 1 := by kernel_rfl
def e49 : FuncId × TypeId × (List AV -> Bool) × (List AV -> Option D) := (49, 3, preD (q1 fun x => tzPre (intD x)), ent [52] (f1 fun x => some (.lit (.int .i64 (tzI (intD x))))))
theorem tz_call {x k idx : Nat} (hx0 : ((x : Int) == 0) = false)
  (key : IntKind.u64.wrap (bits BinOp.and IntKind.u64 (x : Int) (IntKind.u64.wrap (-(x : Int))) * 285870213051353865) / 288230376151711744 = (idx : Int))
  (hi : idx < 64) (hk : k < 64) (ht : deBruijn.getD idx 0 = (k : Int)) : CallOK Tryd.prog 49 [dat 52 (.lit (.int .u64 (x : Int)))] (dat 3 (.lit (.int .i64 (k : Int)))) := by
 refine ⟨k49.ex, .inl rfl, fun w okA vs htb hok hargs => ?_⟩
 match vs, hargs with
 | [v], hargs =>
  obtain ⟨z, hz, hv, _⟩ := hargs.1.2.int u53'
  cases hz
  subst hv
  have htab := htb w (BelowX.refl _ _ _) ("math/bits.deBruijn64tab", .u8, deBruijn) (by simp [knownTabs]) hasTab
  have hcell : w.cell? ⟨1, idx, none⟩ = some (.int .u8 (k : Int)) := by
   have := htab.cell gTab idx (by have : deBruijn.length = 64 := rfl
                                  show idx < deBruijn.length
                                  omega)
   rw [this]
   show some (Value.int .u8 (deBruijn.getD idx 0)) = _
   rw [ht]
  refine (tz_core x k idx w hx0 key hi hk hcell).mono ?_
  rintro e w' ⟨rfl, rfl⟩
  refine ⟨_, fun _ => False, rfl, RowKit.Below.refl _ _, fun b hb => hb.elim, repAV_dat (repV_int u3 cells3 ?_)⟩
  simp [Lit.wf, IntKind.min, IntKind.max, IntKind.signed, IntKind.bits]
  omega
 | [], hargs => exact hargs.elim
 | _ :: _ :: _, hargs => exact hargs.2.elim
theorem c49 : ∀ args d, e49.2.2.1 args = true -> e49.2.2.2 args = some d -> CallOK Tryd.prog 49 args (mkRes Tryd.prog 3 d) :=
 ent1p k49 fun x d hq h ⟨_, hx⟩ => by
  cases h
  obtain ⟨z, rfl, hz⟩ := ty53' hx
  rw [n53']
  have hq : (z == 1 || z == 2 || z == 4 || z == 8) = true := hq
  rw [Bool.or_eq_true, Bool.or_eq_true, Bool.or_eq_true, beq_iff_eq, beq_iff_eq, beq_iff_eq, beq_iff_eq] at hq
  rcases hq with ((rfl | rfl) | rfl) | rfl
  ·exact tz_call (x := 1) (k := 0) (idx := 0) rfl (by decide) (by decide) (by decide) rfl
  ·exact tz_call (x := 2) (k := 1) (idx := 1) rfl (by decide) (by decide) (by decide) rfl
  ·exact tz_call (x := 4) (k := 2) (idx := 3) rfl (by decide) (by decide) (by decide) rfl
  ·exact tz_call (x := 8) (k := 3) (idx := 7) rfl (by decide) (by decide) (by decide) rfl
def SBt : Tab := e49 :: e47 :: []
theorem envSBt : EnvOK Tryd.prog (envH SBt []) := envOK_cons' (envOK_cons' env0 c47) c49
end X
end
section
namespace X
open Go.Ev
set_option linter.unusedVariables false
/- math/bits.OnesCount -/
def t35_h : Hints := fun _ =>  none
theorem t35 (N : Nat) (x0 : Int) : evFn Tryd.prog (envH SBt []) t35_h N Tryd.f35 [dat 52 (.lit (.int .u64 x0))] =
 bif (decide (0 <= x0) && decide (x0 < 16)) then
  some (dat 3 (.lit (.int .i64 (popI x0))))
 else none := by kernel_rfl

/- math/bits.TrailingZeros -/
def t37_h : Hints := fun _ =>  none
theorem t37 (N : Nat) (x0 : Int) : evFn Tryd.prog (envH SBt []) t37_h N Tryd.f37 [dat 52 (.lit (.int .u64 x0))] =
 bif tzPre x0 then
  some (dat 3 (.lit (.int .i64 (tzI x0))))
 else none := by kernel_rfl

end X
end
section
namespace X
open Go.Ev
set_option linter.unusedVariables false
set_option linter.unusedSimpArgs false
set_option maxRecDepth 10000

theorem uUI' : Tryd.prog.underlying 52 = some (.int .u64) := by kernel_rfl
theorem nUI' (x : D) : normD Tryd.prog 52 x = .lit (.int .u64 (intD x)) := by kernel_rfl
theorem tyUI' {n : Nat} {x : D} (h : Ty Tryd.prog n 52 x) : ∃ z, x = .lit (.int .u64 z) /\ (Lit.int .u64 z).wf = true := ty_int uUI' h
theorem k35 : FnOK Tryd.prog 35 Tryd.f35 := ⟨Tryd.func35, rfl, by kernel_rfl⟩
theorem k37 : FnOK Tryd.prog 37 Tryd.f37 := ⟨Tryd.func37, rfl, by kernel_rfl⟩
def e35 : FuncId × TypeId × (List AV -> Bool) × (List AV -> Option D) := (35, 3, preD (q1 fun x => decide (0 <= intD x) && decide (intD x < 16)), ent [52] (f1 fun x => some (.lit (.int .i64 (popI (intD x))))))
theorem c35 : ∀ args d, e35.2.2.1 args = true -> e35.2.2.2 args = some d -> CallOK Tryd.prog 35 args (mkRes Tryd.prog 3 d) :=
 ent1p k35 fun x d hq h ⟨_, hx⟩ => by
  cases h
  obtain ⟨z, rfl, hz⟩ := tyUI' hx
  rw [nUI']
  have hq : (decide (0 <= z) && decide (z < 16)) = true := hq
  refine fn_ok hm envSBt k35 ((t35 0 z).trans ?_)
  rw [hq, m3]
  rfl
def e37 : FuncId × TypeId × (List AV -> Bool) × (List AV -> Option D) := (37, 3, preD (q1 fun x => tzPre (intD x)), ent [52] (f1 fun x => some (.lit (.int .i64 (tzI (intD x))))))
theorem c37 : ∀ args d, e37.2.2.1 args = true -> e37.2.2.2 args = some d -> CallOK Tryd.prog 37 args (mkRes Tryd.prog 3 d) :=
 ent1p k37 fun x d hq h ⟨_, hx⟩ => by
  cases h
  obtain ⟨z, rfl, hz⟩ := tyUI' hx
  rw [nUI']
  have hq : tzPre z = true := hq
  refine fn_ok hm envSBt k37 ((t37 0 z).trans ?_)
  rw [hq, m3]
  rfl
def e21 (K : Nat) : FuncId × TypeId × (List AV -> Bool) × (List AV -> Option D) := (21, 22, preD (q1 fun x => decide (1 <= intD x) && decide (intD x < (K : Int))), ent [3] (f1 fun x => some (.slice (allT (intD x)) [])))
def SC : Tab := e37 :: e35 :: e38 :: S0
theorem envSC : EnvOK Tryd.prog (envH SC []) := envOK_cons' (envOK_cons' (envOK_cons' envS0 c38) c35) c37
def SA (K : Nat) : Tab := e21 K :: SC
end X
end
section
namespace X
open Go.Ev
set_option linter.unusedVariables false
/- roadbook/tree.All -/
def t21_h : Hints := fun i => if i = 7 then some ([1, 2, 5, 6, 7, 8, 9, 10, 11, 12, 13, 14, 15, 16, 17, 18, 19, 20, 21, 22, 23, 24, 25, 26, 27, 28, 29, 30, 31, 32, 33, 34, 35, 36, 37, 38], [3], []) else none
def t21_lp7 (P : Program) (fn : Func) (K : Nat) (N n : Nat) (x0 : Int) (v4 : Int) (b3 : List D) : Option AV := evLoop (preL t21_h (sub [1, 1, 1, 1, 0, 1, 0, 0] (bodyOf fn))) (evCode P (envH (SA K) []) t21_h N (sub [1, 1, 1, 1, 0, 1, 0, 0] (bodyOf fn))) n ⟨[dat 3 (.lit (.int .i64 x0)), dead, dead, bxp 3 22, dat 3 (.lit (.int .i64 v4)), dead, dead, dead, dead, dead, dead, dead, dead, dead, dead, dead, dead, dead, dead, dead, dead, dead, dead, dead, dead, dead, dead, dead, dead, dead, dead, dead, dead, dead, dead, dead, dead, dead, dead], lookB [(3, some ⟨22, .slice b3 [], 1, none⟩)]⟩ (blockK 0 (seqC P (envH (SA K) []) t21_h N (sub [1, 1, 1, 1, 1] (bodyOf fn)) (finK P fn) ))
theorem t21_lp7_step (K : Nat) (N n : Nat) (x0 : Int) (v4 : Int) (b3 : List D) : t21_lp7 Tryd.prog Tryd.f21 K N (n + 1) x0 v4 b3 =
 bif decide (v4 < x0) then
  bif ((andNotI .i64 v4 x0) == 0) then
   bif (decide (1 <= v4) && decide (v4 < (K : Int))) then
    bif (decide (1 <= (andNotI .i64 x0 v4)) && decide ((andNotI .i64 x0 v4) < (K : Int))) then
     bif joinPre (allT v4) (allT (andNotI .i64 x0 v4)) then
      bif decide ((b3).length + (joinL (allT v4) (allT (andNotI .i64 x0 v4))).length <= 2147483648) then
       t21_lp7 Tryd.prog Tryd.f21 K N n x0 (IntKind.wrap .i64 (v4 + 1)) (b3 ++ (joinL (allT v4) (allT (andNotI .i64 x0 v4))))
      else none
     else none
    else none
   else none
  else t21_lp7 Tryd.prog Tryd.f21 K N n x0 (IntKind.wrap .i64 (v4 + 1)) b3
 else some (dat 22 (.slice b3 [])) := by kernel_rfl
theorem t21 (K : Nat) (N : Nat) (x0 : Int) : evFn Tryd.prog (envH (SA K) []) t21_h N Tryd.f21 [dat 3 (.lit (.int .i64 x0))] =
 bif ((decide (x0 < 1)) == false) then
  bif decide (x0 >= 16) then
   some (dat 22 (.slice [] []))
  else bif (decide (0 <= (IntKind.wrap .u64 x0)) && decide ((IntKind.wrap .u64 x0) < 16)) then
    bif ((popI (IntKind.wrap .u64 x0)) == 1) then
     bif tzPre (IntKind.wrap .u64 x0) then
      some (dat 22 (.slice [leafD (tzI (IntKind.wrap .u64 x0))] []))
     else none
    else t21_lp7 Tryd.prog Tryd.f21 K N N x0 1 []
   else none
 else some (dat 22 (.slice [] [])) := by kernel_rfl

end X
end
section
namespace X
open Go.Ev
set_option linter.unusedVariables false
set_option linter.unusedSimpArgs false
set_option maxRecDepth 10000
set_option maxRecDepth 100000

theorem k21 : FnOK Tryd.prog 21 Tryd.f21 := ⟨Tryd.func21, rfl, by kernel_rfl⟩
theorem t21_1 : evFn Tryd.prog (envH (SA 1) []) t21_h 20 Tryd.f21 [dat 3 (.lit (.int .i64 1))] = some (dat 22 (.slice (allT 1) [])) := by kernel_rfl
theorem t21_2 : evFn Tryd.prog (envH (SA 2) []) t21_h 20 Tryd.f21 [dat 3 (.lit (.int .i64 2))] = some (dat 22 (.slice (allT 2) [])) := by kernel_rfl
theorem t21_3 : evFn Tryd.prog (envH (SA 3) []) t21_h 20 Tryd.f21 [dat 3 (.lit (.int .i64 3))] = some (dat 22 (.slice (allT 3) [])) := by kernel_rfl
theorem t21_4 : evFn Tryd.prog (envH (SA 4) []) t21_h 20 Tryd.f21 [dat 3 (.lit (.int .i64 4))] = some (dat 22 (.slice (allT 4) [])) := by kernel_rfl
theorem t21_5 : evFn Tryd.prog (envH (SA 5) []) t21_h 20 Tryd.f21 [dat 3 (.lit (.int .i64 5))] = some (dat 22 (.slice (allT 5) [])) := by kernel_rfl
theorem t21_6 : evFn Tryd.prog (envH (SA 6) []) t21_h 20 Tryd.f21 [dat 3 (.lit (.int .i64 6))] = some (dat 22 (.slice (allT 6) [])) := by kernel_rfl
theorem t21_7 : evFn Tryd.prog (envH (SA 7) []) t21_h 20 Tryd.f21 [dat 3 (.lit (.int .i64 7))] = some (dat 22 (.slice (allT 7) [])) := by kernel_rfl
theorem t21_8 : evFn Tryd.prog (envH (SA 8) []) t21_h 20 Tryd.f21 [dat 3 (.lit (.int .i64 8))] = some (dat 22 (.slice (allT 8) [])) := by kernel_rfl
theorem t21_9 : evFn Tryd.prog (envH (SA 9) []) t21_h 20 Tryd.f21 [dat 3 (.lit (.int .i64 9))] = some (dat 22 (.slice (allT 9) [])) := by kernel_rfl
theorem t21_10 : evFn Tryd.prog (envH (SA 10) []) t21_h 20 Tryd.f21 [dat 3 (.lit (.int .i64 10))] = some (dat 22 (.slice (allT 10) [])) := by kernel_rfl
theorem t21_11 : evFn Tryd.prog (envH (SA 11) []) t21_h 20 Tryd.f21 [dat 3 (.lit (.int .i64 11))] = some (dat 22 (.slice (allT 11) [])) := by kernel_rfl
theorem t21_12 : evFn Tryd.prog (envH (SA 12) []) t21_h 20 Tryd.f21 [dat 3 (.lit (.int .i64 12))] = some (dat 22 (.slice (allT 12) [])) := by kernel_rfl
theorem t21_13 : evFn Tryd.prog (envH (SA 13) []) t21_h 20 Tryd.f21 [dat 3 (.lit (.int .i64 13))] = some (dat 22 (.slice (allT 13) [])) := by kernel_rfl
theorem t21_14 : evFn Tryd.prog (envH (SA 14) []) t21_h 20 Tryd.f21 [dat 3 (.lit (.int .i64 14))] = some (dat 22 (.slice (allT 14) [])) := by kernel_rfl
theorem t21_15 : evFn Tryd.prog (envH (SA 15) []) t21_h 20 Tryd.f21 [dat 3 (.lit (.int .i64 15))] = some (dat 22 (.slice (allT 15) [])) := by kernel_rfl
theorem allT_out {n : Int} (h : n < 1 \/ 15 < n) : allT n = [] := by
 unfold allT
 have : (decide (1 <= n) && decide (n <= 15)) = false := by
  rw [Bool.and_eq_false_iff, decide_eq_false_iff_not, decide_eq_false_iff_not]
  omega
 rw [this, cond_false]
theorem all_out {K : Nat} (henv : EnvOK Tryd.prog (envH (SA K) [])) {z : Int} (h : z < 1 \/ 15 < z) : CallOK Tryd.prog 21 [dat 3 (.lit (.int .i64 z))] (mkRes Tryd.prog 22 (.slice (allT z) [])) := by
 refine fn_ok hm henv k21 ((t21 K 20 z).trans ?_)
 rw [allT_out h, m22]
 by_cases h1 : z < 1
 ·have d : decide (z < 1) = true := by simpa using h1
  rw [d]
  rfl
 ·have d : decide (z < 1) = false := by simpa using h1
  have d2 : decide (z >= 16) = true := by rw [decide_eq_true_eq]; omega
  rw [d, d2]
  rfl
theorem all_at (K : Nat) (h0 : 1 <= K) (h1 : K <= 15) (henv : EnvOK Tryd.prog (envH (SA K) [])) : CallOK Tryd.prog 21 [dat 3 (.lit (.int .i64 (K : Int)))] (mkRes Tryd.prog 22 (.slice (allT (K : Int)) [])) := by
 match K, h0, h1, henv with
 | 1, _, _, henv => exact fn_ok hm henv k21 t21_1
 | 2, _, _, henv => exact fn_ok hm henv k21 t21_2
 | 3, _, _, henv => exact fn_ok hm henv k21 t21_3
 | 4, _, _, henv => exact fn_ok hm henv k21 t21_4
 | 5, _, _, henv => exact fn_ok hm henv k21 t21_5
 | 6, _, _, henv => exact fn_ok hm henv k21 t21_6
 | 7, _, _, henv => exact fn_ok hm henv k21 t21_7
 | 8, _, _, henv => exact fn_ok hm henv k21 t21_8
 | 9, _, _, henv => exact fn_ok hm henv k21 t21_9
 | 10, _, _, henv => exact fn_ok hm henv k21 t21_10
 | 11, _, _, henv => exact fn_ok hm henv k21 t21_11
 | 12, _, _, henv => exact fn_ok hm henv k21 t21_12
 | 13, _, _, henv => exact fn_ok hm henv k21 t21_13
 | 14, _, _, henv => exact fn_ok hm henv k21 t21_14
 | 15, _, _, henv => exact fn_ok hm henv k21 t21_15
 | K + 16, _, h, _ => omega
theorem all_lt : ∀ (K : Nat), K <= 16 -> ∀ z : Int, 1 <= z -> z < (K : Int) -> CallOK Tryd.prog 21 [dat 3 (.lit (.int .i64 z))] (mkRes Tryd.prog 22 (.slice (allT z) []))
 | 0, _, z, h0, h1 => by omega
 | K + 1, hK, z, h0, h1 => by
  by_cases h : z < (K : Int)
  ·exact all_lt K (by omega) z h0 h
  ·obtain rfl : z = (K : Int) := by omega
   refine all_at K (by omega) (by omega) (envOK_cons' envSC ?_)
   exact ent1p k21 fun x d hq hd ⟨_, hx⟩ => by
    cases hd
    obtain ⟨u, rfl, hu⟩ := ty3' hx
    rw [n3]
    have hq : (decide (1 <= u) && decide (u < (K : Int))) = true := hq
    rw [Bool.and_eq_true, decide_eq_true_eq, decide_eq_true_eq] at hq
    exact all_lt K (by omega) u hq.1 hq.2
def eAll : FuncId × TypeId × (List AV -> Bool) × (List AV -> Option D) := (21, 22, yes, ent [3] (f1 fun x => some (.slice (allT (intD x)) [])))
theorem envSA1 : EnvOK Tryd.prog (envH (SA 1) []) := envOK_cons' envSC (ent1p k21 fun x d hq hd ⟨_, hx⟩ => by
 exfalso
 have hq : (decide (1 <= intD x) && decide (intD x < ((1 : Nat) : Int))) = true := hq
 rw [Bool.and_eq_true, decide_eq_true_eq, decide_eq_true_eq] at hq
 omega)
theorem cAll : ∀ args d, eAll.2.2.2 args = some d -> CallOK Tryd.prog 21 args (mkRes Tryd.prog 22 d) :=
 ent1 k21 fun x d hd ⟨_, hx⟩ => by
  cases hd
  obtain ⟨z, rfl, hz⟩ := ty3' hx
  rw [n3]
  show CallOK Tryd.prog 21 [dat 3 (.lit (.int .i64 z))] (mkRes Tryd.prog 22 (.slice (allT z) []))
  by_cases h : 1 <= z /\ z < 16
  ·exact all_lt 16 (Nat.le_refl _) z h.1 h.2
  ·exact all_out envSA1 (by omega)
end X
end
section
namespace X
open Go.Ev
set_option linter.unusedVariables false
set_option linter.unusedSimpArgs false
set_option maxRecDepth 10000

theorem u39 : Tryd.prog.underlying 55 = some (.slice 3) := by kernel_rfl
theorem m39 (x : D) : mkRes Tryd.prog 55 x = dat 55 x := by kernel_rfl
theorem m45 (x : D) : mkRes Tryd.prog 56 x = tupA [55, 4] x := by kernel_rfl
def e14 (K : Nat) : FuncId × TypeId × (List AV -> Bool) × (List AV -> Option D) := (14, 4, preD (q2 fun x y => okT K x), ent [24, 24] (f2 fun x y => some (.lit (.bool (eqK K x y)))))
def R1 (K : Nat) : Tab := e14 K :: []
def e43 (K : Nat) : FuncId × TypeId × (List AV -> Bool) × (List AV -> Option D) := (43, 56, preD (q2 fun x y => intD y == 5 - (K : Int)), ent [24, 3] (f2 fun x y => some (.agg [.slice (lvK K x).1 [], .lit (.bool (lvK K x).2)])))
def R2 (K : Nat) : Tab := e43 K :: []
end X
end
section
namespace X
open Go.Ev
set_option linter.unusedVariables false
/- roadbook/roadbookref06.Same -/
def t14_h : Hints := fun i => if i = 4 then some ([0, 1, 4, 6, 7, 8, 9, 10, 11, 12, 13, 14, 15, 16, 17, 18, 19, 20, 21, 22, 23, 24, 25, 26, 27, 28, 29, 30, 31, 32, 33, 34, 35, 36, 37, 38, 39, 40], [2, 3], []) else none
def t14_lp4 (P : Program) (fn : Func) (K : Nat) (N n : Nat) (x0 : D) (x1 : D) (v5 : Int) : Option AV := evLoop (preL t14_h (sub [1, 1, 0, 1, 0, 0] (bodyOf fn))) (evCode P (envH (R1 K) []) t14_h N (sub [1, 1, 0, 1, 0, 0] (bodyOf fn))) n ⟨[dead, dead, bxp 2 24, bxp 3 24, dead, dat 3 (.lit (.int .i64 v5)), dead, dead, dead, dead, dead, dead, dead, dead, dead, dead, dead, dead, dead, dead, dead, dead, dead, dead, dead, dead, dead, dead, dead, dead, dead, dead, dead, dead, dead, dead, dead, dead, dead, dead, dead], lookB [(2, some ⟨24, x0, 0, none⟩), (3, some ⟨24, x1, 0, none⟩)]⟩ (blockK 0 (seqC P (envH (R1 K) []) t14_h N (sub [1, 1, 1] (bodyOf fn)) (finK P fn) ))
theorem t14_lp4_step (K : Nat) (N n : Nat) (x0 : D) (x1 : D) (v5 : Int) : t14_lp4 Tryd.prog Tryd.f14 K N (n + 1) x0 x1 v5 =
 bif decide (v5 < ((elemsD (fieldD x0 1)).length : Int)) then
  bif (decide (0 <= v5) && decide (v5 < ((elemsD (fieldD x0 1)).length : Int))) then
   bif (decide (0 <= v5) && decide (v5 < ((elemsD (fieldD x1 1)).length : Int))) then
    bif okT K ((elemsD (fieldD x0 1)).getD (v5).toNat .nil) then
     bif (!(eqK K ((elemsD (fieldD x0 1)).getD (v5).toNat .nil) ((elemsD (fieldD x1 1)).getD (v5).toNat .nil))) then
      some (dat 4 (.lit (.bool false)))
     else t14_lp4 Tryd.prog Tryd.f14 K N n x0 x1 (IntKind.wrap .i64 (v5 + 1))
    else none
   else none
  else none
 else some (dat 4 (.lit (.bool true))) := by kernel_rfl
theorem t14 (K : Nat) (N : Nat) (x0 : D) (x1 : D) : evFn Tryd.prog (envH (R1 K) []) t14_h N Tryd.f14 [dat 24 x0, dat 24 x1] =
 bif (((intD (fieldD x0 0)) != (intD (fieldD x1 0))) == false) then
  bif (((elemsD (fieldD x0 1)).length : Int) != ((elemsD (fieldD x1 1)).length : Int)) then
   some (dat 4 (.lit (.bool false)))
  else t14_lp4 Tryd.prog Tryd.f14 K N N x0 x1 0
 else some (dat 4 (.lit (.bool false))) := by kernel_rfl

end X
end
section
namespace X
open Go.Ev
set_option linter.unusedVariables false
set_option linter.unusedSimpArgs false
set_option maxRecDepth 10000

theorem k14 : FnOK Tryd.prog 14 Tryd.f14 := ⟨Tryd.func14, rfl, by kernel_rfl⟩
theorem same_loop {K N : Nat} {x0 x1 : D} (hl : (tkids x0).length <= maxLen) (hlen : (tkids x0).length = (tkids x1).length) (hok : ∀ p ∈ tkids x0, okT K p = true) : ∀ (n i : Nat), i <= (tkids x0).length -> (tkids x0).length - i < n ->
  t14_lp4 Tryd.prog Tryd.f14 K N n x0 x1 (i : Int) = some (dat 4 (.lit (.bool (eq2 (eqK K) ((tkids x0).drop i) ((tkids x1).drop i)))))
 | 0, i, _, h => by omega
 | n + 1, i, hi, h => by
  rw [t14_lp4_step, show elemsD (fieldD x0 1) = tkids x0 from rfl, show elemsD (fieldD x1 1) = tkids x1 from rfl]
  by_cases hlt : i < (tkids x0).length
  ·have hlt1 : i < (tkids x1).length := by omega
   have h1 : decide ((i : Int) < ((tkids x0).length : Int)) = true := by simpa using hlt
   rw [idx_ok hlt, idx_ok hlt1, h1, cond_true, cond_true, cond_true, Int.toNat_natCast, getD_lt hlt, getD_lt hlt1, hok _ (List.getElem_mem hlt), cond_true, List.drop_eq_getElem_cons hlt, List.drop_eq_getElem_cons hlt1, eq2_cons]
   cases hb : eqK K (tkids x0)[i] (tkids x1)[i] with
   | false => rfl
   | true =>
    rw [Bool.not_true, cond_false, Bool.true_and, wrap_step hl hlt]
    exact same_loop hl hlen hok n (i + 1) (by omega) (by omega)
  ·have h1 : decide ((i : Int) < ((tkids x0).length : Int)) = false := by simpa using hlt
   have h4 : (tkids x0).drop i = [] := List.drop_of_length_le (by omega)
   have h5 : (tkids x1).drop i = [] := List.drop_of_length_le (by omega)
   rw [h1, h4, h5, cond_false]
   rfl
theorem c14 (K : Nat) (henv : EnvOK Tryd.prog (envH (R1 K) [])) : ∀ args d, (e14 (K + 1)).2.2.1 args = true -> (e14 (K + 1)).2.2.2 args = some d -> CallOK Tryd.prog 14 args (mkRes Tryd.prog 4 d) :=
 ent2p k14 fun x y d hq h ⟨_, hx⟩ ⟨_, hy⟩ => by
  cases h
  rw [n24, n24]
  have hq : okT (K + 1) x = true := hq
  rw [okT_succ, List.all_eq_true] at hq
  obtain ⟨hl, _⟩ := ty_len hx
  refine fn_ok hm henv k14 ((t14 K ((tkids x).length + 1) x y).trans ?_)
  rw [m4, show elemsD (fieldD x 1) = tkids x from rfl, show elemsD (fieldD y 1) = tkids y from rfl, show intD (fieldD x 0) = tocc x from rfl, show intD (fieldD y 0) = tocc y from rfl]
  show _ = some (dat 4 (.lit (.bool (eqK (K + 1) x y))))
  rw [eqK_succ]
  cases ho : (tocc x == tocc y) with
  | false =>
   have : (tocc x != tocc y) = true := by unfold bne; rw [ho]; rfl
   rw [this]
   rfl
  | true =>
   have : (tocc x != tocc y) = false := by unfold bne; rw [ho]; rfl
   rw [this, Bool.true_and]
   by_cases he : (tkids x).length = (tkids y).length
   ·have : (((tkids x).length : Int) != ((tkids y).length : Int)) = false := by rw [he]; simp
    have hlp := same_loop (K := K) (N := (tkids x).length + 1) hl he hq ((tkids x).length + 1) 0 (Nat.zero_le _) (by omega)
    rw [List.drop_zero, List.drop_zero] at hlp
    rw [this, show (false == false) = true from rfl, cond_true, cond_false]
    exact hlp
   ·have : (((tkids x).length : Int) != ((tkids y).length : Int)) = true := by rw [bne_iff_ne]; omega
    have hne : eq2 (eqK K) (tkids x) (tkids y) = false := by
     cases h : eq2 (eqK K) (tkids x) (tkids y) with
     | false => rfl
     | true => exact absurd (eq2_len h) he
    rw [this, hne]
    rfl
theorem envR1 : ∀ K : Nat, EnvOK Tryd.prog (envH (R1 K) [])
 | 0 => envOK_cons' env0 (fun args d hp hd => by
   exfalso
   have hp : q2 (fun x y => okT 0 x) (args.map (·.d)) = true := hp
   unfold q2 at hp
   split at hp
   ·simp [okT] at hp
   ·cases hp)
 | K + 1 => envOK_cons' env0 (c14 K (envR1 K))
end X
end
section
namespace X
open Go.Ev
set_option linter.unusedVariables false
/- roadbook/roadbookref06.leaves -/
def t43_h : Hints := fun _ =>  none
theorem t43 (K : Nat) (N : Nat) (x0 : D) (x1 : Int) : evFn Tryd.prog (envH (R2 K) []) t43_h N Tryd.f43 [dat 24 x0, dat 3 (.lit (.int .i64 x1))] =
 bif decide (x1 > 4) then
  some (tupA [55, 4] (.agg [.slice [] [], .lit (.bool false)]))
 else bif (((elemsD (fieldD x0 1)).length : Int) == 0) then
   bif ((decide ((intD (fieldD x0 0)) >= 0)) == true) then
    some (tupA [55, 4] (.agg [.slice [.lit (.int .i64 (intD (fieldD x0 0)))] [], .lit (.bool (decide ((intD (fieldD x0 0)) <= 3)))]))
   else some (tupA [55, 4] (.agg [.slice [.lit (.int .i64 (intD (fieldD x0 0)))] [], .lit (.bool false)]))
  else bif ((((elemsD (fieldD x0 1)).length : Int) != 2) == false) then
    bif ((intD (fieldD x0 0)) != 0) then
     some (tupA [55, 4] (.agg [.slice [] [], .lit (.bool false)]))
    else bif (decide (0 <= (0 : Int)) && decide ((0 : Int) < ((elemsD (fieldD x0 1)).length : Int))) then
      bif ((IntKind.wrap .i64 (x1 + 1)) == 5 - (K : Int)) then
       bif (decide (0 <= (1 : Int)) && decide ((1 : Int) < ((elemsD (fieldD x0 1)).length : Int))) then
        bif ((IntKind.wrap .i64 (x1 + 1)) == 5 - (K : Int)) then
         bif decide (((lvK K ((elemsD (fieldD x0 1)).getD 0 .nil)).1).length <= 2147483648) then
          bif decide (((lvK K ((elemsD (fieldD x0 1)).getD 0 .nil)).1).length + ((lvK K ((elemsD (fieldD x0 1)).getD 1 .nil)).1).length <= 2147483648) then
           bif (((lvK K ((elemsD (fieldD x0 1)).getD 0 .nil)).2) == true) then
            some (tupA [55, 4] (.agg [.slice (((lvK K ((elemsD (fieldD x0 1)).getD 0 .nil)).1) ++ ((lvK K ((elemsD (fieldD x0 1)).getD 1 .nil)).1)) [], .lit (.bool ((lvK K ((elemsD (fieldD x0 1)).getD 1 .nil)).2))]))
           else some (tupA [55, 4] (.agg [.slice (((lvK K ((elemsD (fieldD x0 1)).getD 0 .nil)).1) ++ ((lvK K ((elemsD (fieldD x0 1)).getD 1 .nil)).1)) [], .lit (.bool false)]))
          else none
         else none
        else none
       else none
      else none
     else none
   else some (tupA [55, 4] (.agg [.slice [] [], .lit (.bool false)])) := by kernel_rfl

end X
end
section
namespace X
open Go.Ev
set_option linter.unusedVariables false
set_option linter.unusedSimpArgs false
set_option maxRecDepth 10000

theorem k43 : FnOK Tryd.prog 43 Tryd.f43 := ⟨Tryd.func43, rfl, by kernel_rfl⟩
theorem t43z (N : Nat) (x0 : D) : evFn Tryd.prog (envH [] []) t43_h N Tryd.f43 [dat 24 x0, dat 3 (.lit (.int .i64 5))] = some (tupA [55, 4] (.agg [.slice [] [], .lit (.bool false)])) := by kernel_rfl
theorem c43z : ∀ args d, (e43 0).2.2.1 args = true -> (e43 0).2.2.2 args = some d -> CallOK Tryd.prog 43 args (mkRes Tryd.prog 56 d) :=
 ent2p k43 fun x y d hq h ⟨_, hx⟩ ⟨_, hy⟩ => by
  cases h
  obtain ⟨z, rfl, hz⟩ := ty3' hy
  rw [n24, n3]
  have hq : (z == 5 - ((0 : Nat) : Int)) = true := hq
  have : z = 5 := by have := eq_of_beq hq; omega
  subst this
  exact fn_ok hm env0 k43 (t43z 0 x)
theorem c43 (K : Nat) (hK : K <= 20) (henv : EnvOK Tryd.prog (envH (R2 K) [])) : ∀ args d, (e43 (K + 1)).2.2.1 args = true -> (e43 (K + 1)).2.2.2 args = some d -> CallOK Tryd.prog 43 args (mkRes Tryd.prog 56 d) :=
 ent2p k43 fun x y d hq h ⟨_, hx⟩ ⟨_, hy⟩ => by
  cases h
  obtain ⟨z, rfl, hz⟩ := ty3' hy
  rw [n24, n3]
  have hq : (z == 5 - ((K + 1 : Nat) : Int)) = true := hq
  have hz' : z = 4 - (K : Int) := by have := eq_of_beq hq; omega
  have h4 : decide (z > 4) = false := by rw [decide_eq_false_iff_not]; omega
  rw [inR_iff] at hz
  have hw : IntKind.wrap .i64 (z + 1) = z + 1 := wrap_in (by rw [inR_iff]; omega)
  have hk : (z + 1 == 5 - (K : Int)) = true := by rw [beq_iff_eq]; omega
  refine fn_ok hm henv k43 ((t43 K 0 x z).trans ?_)
  rw [m45, h4, cond_false, hw, hk]
  show _ = some (tupA [55, 4] (.agg [.slice (lvK (K + 1) x).1 [], .lit (.bool (lvK (K + 1) x).2)]))
  rw [lvK_succ, show elemsD (fieldD x 1) = tkids x from rfl, show intD (fieldD x 0) = tocc x from rfl]
  cases h1 : (((tkids x).length : Int) == 0) with
  | true => cases h2 : decide (tocc x >= 0) <;> rfl
  | false =>
   cases h3 : (((tkids x).length : Int) != 2) with
   | true => rfl
   | false =>
    obtain ⟨l0, l1⟩ := len2 h3
    rw [l0, l1]
    cases h5 : (tocc x != 0) with
    | true => rfl
    | false =>
     have q0 := lv_len K ((tkids x).getD 0 .nil)
     have q1' := lv_len K ((tkids x).getD 1 .nil)
     have hpw : 2 ^ K <= 2 ^ 20 := Nat.pow_le_pow_right (by omega) hK
     have d1 : decide (((lvK K ((tkids x).getD 0 .nil)).1).length <= 2147483648) = true := by rw [decide_eq_true_eq]; omega
     have d2 : decide (((lvK K ((tkids x).getD 0 .nil)).1).length + ((lvK K ((tkids x).getD 1 .nil)).1).length <= 2147483648) = true := by rw [decide_eq_true_eq]; omega
     rw [d1, d2]
     cases h6 : (lvK K ((tkids x).getD 0 .nil)).2 with
     | true => simp only [cond_true, cond_false, Bool.true_and, Bool.or_self, beq_self_eq_true, h6]
     | false => simp [h6]
theorem envR2 : ∀ K : Nat, K <= 20 -> EnvOK Tryd.prog (envH (R2 K) [])
 | 0, _ => envOK_cons' env0 c43z
 | K + 1, h => envOK_cons' env0 (c43 K (by omega) (envR2 K (by omega)))
end X
end
section
namespace X
open Go.Ev
set_option linter.unusedVariables false
/- roadbook/roadbookref06.May -/
def t30_h : Hints := fun i => if i = 3 then some ([0, 1, 2, 6, 7, 8, 9, 10, 11, 12, 13, 14, 15, 16, 17, 18, 19, 20, 21, 22, 23, 24, 25, 26, 27, 28, 29, 30, 31, 32], [], []) else if i = 6 then some ([0, 1, 2, 7, 8, 9, 10, 11, 12, 13, 14, 15, 16, 17, 18, 19, 20, 21, 22, 23, 24, 25, 26, 27, 28, 29, 30, 31, 32], [], []) else none
def t30_lp3 (P : Program) (fn : Func) (N n : Nat) (x0 : D) (v5 : Int) : Option AV := evLoop (preL t30_h (sub [1, 1, 0, 1, 0, 0] (bodyOf fn))) (evCode P (envH (R2 4) []) t30_h N (sub [1, 1, 0, 1, 0, 0] (bodyOf fn))) n ⟨[dead, dead, dead, dat 55 (.slice ((lvK 4 x0).1) []), dat 4 (.lit (.bool ((lvK 4 x0).2))), dat 3 (.lit (.int .i64 v5)), dead, dead, dead, dead, dead, dead, dead, dead, dead, dead, dead, dead, dead, dead, dead, dead, dead, dead, dead, dead, dead, dead, dead, dead, dead, dead, dead], lookB []⟩ (blockK 0 (seqC P (envH (R2 4) []) t30_h N (sub [1, 1, 1] (bodyOf fn)) (finK P fn) ))
def t30_lp6 (P : Program) (fn : Func) (N n : Nat) (x0 : D) (v5 : Int) (m0 : Nat) (v6 : Int) : Option AV := evLoop (preL t30_h (sub [1, 1, 0, 1, 0, 0, 1, 0, 0, 1, 0, 0] (bodyOf fn))) (evCode P (envH (R2 4) []) t30_h N (sub [1, 1, 0, 1, 0, 0, 1, 0, 0, 1, 0, 0] (bodyOf fn))) n ⟨[dead, dead, dead, dat 55 (.slice ((lvK 4 x0).1) []), dat 4 (.lit (.bool ((lvK 4 x0).2))), dat 3 (.lit (.int .i64 v5)), dat 3 (.lit (.int .i64 v6)), dead, dead, dead, dead, dead, dead, dead, dead, dead, dead, dead, dead, dead, dead, dead, dead, dead, dead, dead, dead, dead, dead, dead, dead, dead, dead], lookB []⟩ (blockK 2 (blockK 1 (seqC P (envH (R2 4) []) t30_h N (sub [1, 1, 0, 1, 0, 0, 1, 1] (bodyOf fn)) (seqK (fun s => evLoop (preL t30_h (sub [1, 1, 0, 1, 0, 0] (bodyOf fn))) (evCode P (envH (R2 4) []) t30_h N (sub [1, 1, 0, 1, 0, 0] (bodyOf fn))) m0 ((preL t30_h (sub [1, 1, 0, 1, 0, 0] (bodyOf fn))) s) (blockK 0 (seqC P (envH (R2 4) []) t30_h N (sub [1, 1, 1] (bodyOf fn)) (finK P fn) ))) (blockK 0 (seqC P (envH (R2 4) []) t30_h N (sub [1, 1, 1] (bodyOf fn)) (finK P fn) ))) )))
theorem t30_lp6_step  (N n : Nat) (x0 : D) (v5 : Int) (m0 : Nat) (v6 : Int) : t30_lp6 Tryd.prog Tryd.f30 N (n + 1) x0 v5 m0 v6 =
 bif decide (v6 < v5) then
  bif (decide (0 <= v6) && decide (v6 < (((lvK 4 x0).1).length : Int))) then
   bif (decide (0 <= v5) && decide (v5 < (((lvK 4 x0).1).length : Int))) then
    bif ((intD (((lvK 4 x0).1).getD (v6).toNat .nil)) == (intD (((lvK 4 x0).1).getD (v5).toNat .nil))) then
     some (dat 4 (.lit (.bool false)))
    else t30_lp6 Tryd.prog Tryd.f30 N n x0 v5 m0 (IntKind.wrap .i64 (v6 + 1))
   else none
  else none
 else t30_lp3 Tryd.prog Tryd.f30 N m0 x0 (IntKind.wrap .i64 (v5 + 1)) := by kernel_rfl
theorem t30_lp3_step  (N n : Nat) (x0 : D) (v5 : Int) : t30_lp3 Tryd.prog Tryd.f30 N (n + 1) x0 v5 =
 bif decide (v5 < (((lvK 4 x0).1).length : Int)) then
  t30_lp6 Tryd.prog Tryd.f30 N N x0 v5 n 0
 else some (dat 4 (.lit (.bool ((lvK 4 x0).2)))) := by kernel_rfl
theorem t30 (N : Nat) (x0 : D) : evFn Tryd.prog (envH (R2 4) []) t30_h N Tryd.f30 [dat 24 x0] =
 bif (1 == 5 - ((4 : Nat) : Int)) then
  t30_lp3 Tryd.prog Tryd.f30 N N x0 0
 else none := by kernel_rfl

/- roadbook/roadbookref06.Join -/
def t31_h : Hints := fun _ =>  none
theorem t31 (N : Nat) (x0 : D) (x1 : D) : evFn Tryd.prog (envH [] []) t31_h N Tryd.f31 [dat 24 x0, dat 24 x1] =
 some (dat 24 (.agg [.lit (.int .i64 0), .slice [x0, x1] []])) := by kernel_rfl

end X
end
section
namespace X
open Go.Ev
set_option linter.unusedVariables false
set_option linter.unusedSimpArgs false
set_option maxRecDepth 10000

theorem k30 : FnOK Tryd.prog 30 Tryd.f30 := ⟨Tryd.func30, rfl, by kernel_rfl⟩
theorem k31 : FnOK Tryd.prog 31 Tryd.f31 := ⟨Tryd.func31, rfl, by kernel_rfl⟩
theorem may_inn {N m0 : Nat} {x0 : D} {i : Nat} (hl : (lvK 4 x0).1.length <= 16) (hi : i < (lvK 4 x0).1.length) : ∀ (n k : Nat), k <= i -> i - k < n ->
  ((∃ j, k <= j /\ j < i /\ (intD ((lvK 4 x0).1.getD j .nil) == intD ((lvK 4 x0).1.getD i .nil)) = true) /\ t30_lp6 Tryd.prog Tryd.f30 N n x0 (i : Int) m0 (k : Int) = some (dat 4 (.lit (.bool false)))) \/
  ((∀ j, k <= j -> j < i -> (intD ((lvK 4 x0).1.getD j .nil) == intD ((lvK 4 x0).1.getD i .nil)) = false) /\ t30_lp6 Tryd.prog Tryd.f30 N n x0 (i : Int) m0 (k : Int) = t30_lp3 Tryd.prog Tryd.f30 N m0 x0 (((i + 1 : Nat) : Int)))
 | 0, k, _, h => by omega
 | n + 1, k, hk, h => by
  rw [t30_lp6_step]
  by_cases hlt : k < i
  ·have h1 : decide ((k : Int) < (i : Int)) = true := by rw [decide_eq_true_eq]; omega
   rw [h1, cond_true, idx_ok (show k < (lvK 4 x0).1.length by omega), cond_true, idx_ok hi, cond_true, Int.toNat_natCast, Int.toNat_natCast]
   cases hb : (intD ((lvK 4 x0).1.getD k .nil) == intD ((lvK 4 x0).1.getD i .nil)) with
   | true => exact .inl ⟨⟨k, Nat.le_refl _, hlt, hb⟩, rfl⟩
   | false =>
    rw [cond_false, wrap_step (n := (lvK 4 x0).1.length) (by unfold maxLen; omega) (show k < (lvK 4 x0).1.length by omega)]
    rcases may_inn hl hi n (k + 1) (by omega) (by omega) with ⟨⟨j, j1, j2, j3⟩, he⟩ | ⟨hj, he⟩
    ·exact .inl ⟨⟨j, by omega, j2, j3⟩, he⟩
    ·refine .inr ⟨fun j j1 j2 => ?_, he⟩
     by_cases hjk : j = k
     ·rw [hjk]; exact hb
     ·exact hj j (by omega) j2
  ·have h1 : decide ((k : Int) < (i : Int)) = false := by rw [decide_eq_false_iff_not]; omega
   rw [h1, cond_false, wrap_step (n := (lvK 4 x0).1.length) (by unfold maxLen; omega) hi]
   exact .inr ⟨fun j j1 j2 => by omega, rfl⟩
theorem may_out {N : Nat} {x0 : D} (hl : (lvK 4 x0).1.length <= 16) (hN : 17 <= N) : ∀ (n i : Nat), i <= (lvK 4 x0).1.length -> (lvK 4 x0).1.length - i < n -> (∀ a b, a < i -> b < a -> (intD ((lvK 4 x0).1.getD b .nil) == intD ((lvK 4 x0).1.getD a .nil)) = false) ->
  t30_lp3 Tryd.prog Tryd.f30 N n x0 (i : Int) = some (dat 4 (.lit (.bool (rMay x0))))
 | 0, i, _, h, _ => by omega
 | n + 1, i, hi, h, hb => by
  rw [t30_lp3_step]
  by_cases hlt : i < (lvK 4 x0).1.length
  ·have h1 : decide ((i : Int) < ((lvK 4 x0).1.length : Int)) = true := by rw [decide_eq_true_eq]; omega
   rw [h1, cond_true]
   rcases may_inn (N := N) (m0 := n) hl hlt N 0 (Nat.zero_le _) (by omega) with ⟨⟨j, j1, j2, j3⟩, he⟩ | ⟨hj, he⟩
   ·have hd : dupB (lvK 4 x0).1 = true := by
     unfold dupB
     rw [List.any_eq_true]
     refine ⟨i, List.mem_range.2 hlt, ?_⟩
     rw [List.any_eq_true]
     exact ⟨j, List.mem_range.2 j2, j3⟩
    refine Eq.trans he ?_
    unfold rMay
    rw [hd]
    rfl
   ·refine Eq.trans he ?_
    refine may_out hl hN n (i + 1) (by omega) (by omega) (fun a b ha hba => ?_)
    by_cases hai : a = i
    ·rw [hai]; exact hj b (Nat.zero_le _) (by omega)
    ·exact hb a b (by omega) hba
  ·have h1 : decide ((i : Int) < ((lvK 4 x0).1.length : Int)) = false := by rw [decide_eq_false_iff_not]; omega
   have hd : dupB (lvK 4 x0).1 = false := by
    unfold dupB
    rw [List.any_eq_false]
    intro a ha
    rw [Bool.not_eq_true, List.any_eq_false]
    intro b hb'
    rw [hb a b (by have := List.mem_range.1 ha; omega) (List.mem_range.1 hb')]
    simp
   rw [h1, cond_false]
   unfold rMay
   rw [hd]
   rfl
def e30 : FuncId × TypeId × (List AV -> Bool) × (List AV -> Option D) := (30, 4, yes, ent [24] (f1 fun x => some (.lit (.bool (mayT x)))))
theorem c30 : ∀ args d, e30.2.2.2 args = some d -> CallOK Tryd.prog 30 args (mkRes Tryd.prog 4 d) :=
 ent1 k30 fun x d h ⟨_, hx⟩ => by
  cases h
  rw [n24]
  refine fn_ok hm (envR2 4 (by omega)) k30 ((t30 20 x).trans ?_)
  have hl : (lvK 4 x).1.length <= 16 := Nat.le_trans (lv_len 4 x) (by decide)
  have h1 : ((1 : Int) == 5 - ((4 : Nat) : Int)) = true := rfl
  rw [h1, cond_true, m4, <- rMay_eq]
  have := may_out (N := 20) hl (by omega) 20 0 (Nat.zero_le _) (by omega) (fun a b ha => by omega)
  exact this
def e31 : FuncId × TypeId × (List AV -> Bool) × (List AV -> Option D) := (31, 24, yes, ent [24, 24] (f2 fun x y => some (nodeD [x, y])))
theorem c31 : ∀ args d, e31.2.2.2 args = some d -> CallOK Tryd.prog 31 args (mkRes Tryd.prog 24 d) :=
 ent2 k31 fun x y d h ⟨_, hx⟩ ⟨_, hy⟩ => by
  cases h
  rw [n24, n24]
  exact fn_ok hm env0 k31 (t31 0 x y)
theorem many_chk : ∀ n : Fin 16, (IntKind.wrap .i64 ((IntKind.wrap .i64 ((IntKind.wrap .i64 ((Int.tmod (n.val : Int) 2) + (Int.tmod (IntKind.wrap .i64 (Int.tdiv (n.val : Int) 2)) 2))) + (Int.tmod (IntKind.wrap .i64 (Int.tdiv (n.val : Int) 4)) 2))) + (Int.tmod (IntKind.wrap .i64 (Int.tdiv (n.val : Int) 8)) 2))) = popI (n.val : Int) := by decide +kernel
end X
end
section
namespace X
open Go.Ev
set_option linter.unusedVariables false
/- roadbook/roadbookref06.Lists -/
def t15_h : Hints := fun i => if i = 4 then some ([2, 3, 4, 6, 7, 8, 9, 10, 11, 12, 13, 14, 15, 16, 17, 18, 19, 20, 21, 22, 23, 24, 25, 26, 27, 28], [], []) else none
def t15_lp4 (P : Program) (fn : Func) (N n : Nat) (x0 : D) (x1 : D) (v5 : Int) : Option AV := evLoop (preL t15_h (sub [1, 1, 0, 1, 0, 0] (bodyOf fn))) (evCode P (envH (R1 130) []) t15_h N (sub [1, 1, 0, 1, 0, 0] (bodyOf fn))) n ⟨[dat 22 x0, dat 22 x1, dead, dead, dead, dat 3 (.lit (.int .i64 v5)), dead, dead, dead, dead, dead, dead, dead, dead, dead, dead, dead, dead, dead, dead, dead, dead, dead, dead, dead, dead, dead, dead, dead], lookB []⟩ (blockK 0 (seqC P (envH (R1 130) []) t15_h N (sub [1, 1, 1] (bodyOf fn)) (finK P fn) ))
theorem t15_lp4_step  (N n : Nat) (x0 : D) (x1 : D) (v5 : Int) : t15_lp4 Tryd.prog Tryd.f15 N (n + 1) x0 x1 v5 =
 bif decide (v5 < ((elemsD x0).length : Int)) then
  bif (decide (0 <= v5) && decide (v5 < ((elemsD x0).length : Int))) then
   bif (decide (0 <= v5) && decide (v5 < ((elemsD x1).length : Int))) then
    bif okT 130 ((elemsD x0).getD (v5).toNat .nil) then
     bif (!(eqT ((elemsD x0).getD (v5).toNat .nil) ((elemsD x1).getD (v5).toNat .nil))) then
      some (dat 4 (.lit (.bool false)))
     else t15_lp4 Tryd.prog Tryd.f15 N n x0 x1 (IntKind.wrap .i64 (v5 + 1))
    else none
   else none
  else none
 else some (dat 4 (.lit (.bool true))) := by kernel_rfl
theorem t15 (N : Nat) (x0 : D) (x1 : D) : evFn Tryd.prog (envH (R1 130) []) t15_h N Tryd.f15 [dat 22 x0, dat 22 x1] =
 bif (((elemsD x0).length : Int) != ((elemsD x1).length : Int)) then
  some (dat 4 (.lit (.bool false)))
 else t15_lp4 Tryd.prog Tryd.f15 N N x0 x1 0 := by kernel_rfl

end X
end
section
namespace X
open Go.Ev
set_option linter.unusedVariables false
set_option linter.unusedSimpArgs false
set_option maxRecDepth 10000

theorem k15 : FnOK Tryd.prog 15 Tryd.f15 := ⟨Tryd.func15, rfl, by kernel_rfl⟩
theorem bit_tab : ∀ b : Fin 4, intD (([.lit (.int .i64 1), .lit (.int .i64 2), .lit (.int .i64 4), .lit (.int .i64 8)] : List D).getD ((b.val : Int)).toNat .nil) = bitI (b.val : Int) /\ 1 <= bitI (b.val : Int) /\ bitI (b.val : Int) <= 8 := by decide
theorem lists_loop {N : Nat} {x0 x1 : D} (hl : (elemsD x0).length <= maxLen) (hlen : (elemsD x0).length = (elemsD x1).length) (hok : ∀ p ∈ elemsD x0, okT 130 p = true) : ∀ (n i : Nat), i <= (elemsD x0).length -> (elemsD x0).length - i < n ->
  t15_lp4 Tryd.prog Tryd.f15 N n x0 x1 (i : Int) = some (dat 4 (.lit (.bool (eq2 eqT ((elemsD x0).drop i) ((elemsD x1).drop i)))))
 | 0, i, _, h => by omega
 | n + 1, i, hi, h => by
  rw [t15_lp4_step]
  by_cases hlt : i < (elemsD x0).length
  ·have hlt1 : i < (elemsD x1).length := by omega
   have h1 : decide ((i : Int) < ((elemsD x0).length : Int)) = true := by simpa using hlt
   rw [idx_ok hlt, idx_ok hlt1, h1, cond_true, cond_true, cond_true, Int.toNat_natCast, getD_lt hlt, getD_lt hlt1, hok _ (List.getElem_mem hlt), cond_true, List.drop_eq_getElem_cons hlt, List.drop_eq_getElem_cons hlt1, eq2_cons]
   cases hb : eqT (elemsD x0)[i] (elemsD x1)[i] with
   | false => rfl
   | true =>
    rw [Bool.not_true, cond_false, Bool.true_and, wrap_step hl hlt]
    exact lists_loop hl hlen hok n (i + 1) (by omega) (by omega)
  ·have h1 : decide ((i : Int) < ((elemsD x0).length : Int)) = false := by simpa using hlt
   have h4 : (elemsD x0).drop i = [] := List.drop_of_length_le (by omega)
   have h5 : (elemsD x1).drop i = [] := List.drop_of_length_le (by omega)
   rw [h1, h4, h5, cond_false]
   rfl
def e15 : FuncId × TypeId × (List AV -> Bool) × (List AV -> Option D) := (15, 4, preD (q2 fun x y => (elemsD x).all (okT 130)), ent [22, 22] (f2 fun x y => some (.lit (.bool (eq2 eqT (elemsD x) (elemsD y))))))
theorem c15 : ∀ args d, e15.2.2.1 args = true -> e15.2.2.2 args = some d -> CallOK Tryd.prog 15 args (mkRes Tryd.prog 4 d) :=
 ent2p k15 fun x y d hq h ⟨_, hx⟩ ⟨_, hy⟩ => by
  cases h
  rw [n22, n22]
  have hq : ((elemsD x).all (okT 130)) = true := hq
  rw [List.all_eq_true] at hq
  have hl : (elemsD x).length <= maxLen := by
   obtain ⟨ks, rfl, h, _⟩ := ty22 hx
   exact h
  refine fn_ok hm (envR1 130) k15 ((t15 ((elemsD x).length + 1) x y).trans ?_)
  rw [m4]
  show _ = some (dat 4 (.lit (.bool (eq2 eqT (elemsD x) (elemsD y)))))
  by_cases he : (elemsD x).length = (elemsD y).length
  ·have : (((elemsD x).length : Int) != ((elemsD y).length : Int)) = false := by rw [he]; simp
   have hlp := lists_loop (N := (elemsD x).length + 1) hl he hq ((elemsD x).length + 1) 0 (Nat.zero_le _) (by omega)
   rw [List.drop_zero, List.drop_zero] at hlp
   rw [this, cond_false]
   exact hlp
  ·have : (((elemsD x).length : Int) != ((elemsD y).length : Int)) = true := by rw [bne_iff_ne]; omega
   have hne : eq2 eqT (elemsD x) (elemsD y) = false := by
    cases h : eq2 eqT (elemsD x) (elemsD y) with
    | false => rfl
    | true => exact absurd (eq2_len h) he
   rw [this, hne]
   rfl
end X
end
end Go.Proofs.YtdacippnonhahaaDoor
