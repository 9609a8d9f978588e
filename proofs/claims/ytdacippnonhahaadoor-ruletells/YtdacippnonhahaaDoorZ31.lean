/- Trees of functions, and lemmas. Nothing here is trusted. -/
import Derived.Test.YtdacippnonhahaaDoorZ23
import Derived.Test.YtdacippnonhahaaDoorZ29
namespace Go.Proofs.YtdacippnonhahaaDoor
section
namespace X
open Go.Ev
set_option linter.unusedVariables false
set_option linter.unusedSimpArgs false

theorem k29 : FnOK Tryd.prog 29 Tryd.f29 := ⟨Tryd.func29, rfl, by kernel_rfl⟩
theorem k32 : FnOK Tryd.prog 32 Tryd.f32 := ⟨Tryd.func32, rfl, by kernel_rfl⟩
theorem k34 : FnOK Tryd.prog 34 Tryd.f34 := ⟨Tryd.func34, rfl, by kernel_rfl⟩
theorem k28 : FnOK Tryd.prog 28 Tryd.f28 := ⟨Tryd.func28, rfl, by kernel_rfl⟩
theorem k10 : FnOK Tryd.prog 10 Tryd.f10 := ⟨Tryd.func10, rfl, by kernel_rfl⟩
theorem k12 : FnOK Tryd.prog 12 Tryd.f12 := ⟨Tryd.func12, rfl, by kernel_rfl⟩
theorem n42 (x : D) : normD Tryd.prog 42 x = x := by kernel_rfl
theorem u42 : Tryd.prog.underlying 24 = Tryd.prog.underlying 42 := by kernel_rfl
theorem w42 : Tryd.prog.cellsOf 24 = Tryd.prog.cellsOf 42 := by kernel_rfl

theorem kidsE (x : D) : elemsD (fieldD x 1) = tkids x := rfl
theorem gd0 (a b : D) : ([a, b] : List D).getD 0 .nil = a := rfl
theorem gd1 (a b : D) : ([a, b] : List D).getD 1 .nil = b := rfl
theorem v29 {x : D} (h : mayT x = true) (N : Nat) : evFn Tryd.prog (envH S8 []) t29_h N Tryd.f29 [dat 42 x] = some (tupA [24, 4] (resX (turnX x))) := by
 rw [t29, kidsE]
 unfold turnX
 rcases may_parts h with h0 | ⟨a, b, h0, ha, hb⟩
 ·rw [h0]; rfl
 ·simp only [h0, gd0, gd1, may_sm ha, may_sm hb]; rfl
def e29 : FuncId × TypeId × (List AV -> Bool) × (List AV -> Option D) := (29, 27, preD (q1 fun x => mayT x), ent [24] (f1 fun x => some (resX (turnX x))))
theorem c29 : ∀ args d, e29.2.2.1 args = true -> e29.2.2.2 args = some d -> CallOK Tryd.prog 29 args (mkRes Tryd.prog 27 d) :=
 ent1p k29 fun x d hq h _ => by
  cases h
  rw [n24]
  refine CallOK.retype u42 w42 (fn_ok hm envS8 k29 ((v29 hq 0).trans ?_))
  rw [m27]
theorem v32 {x : D} (h : mayT x = true) (N : Nat) : evFn Tryd.prog (envH S8 []) t32_h N Tryd.f32 [dat 42 x] = some (tupA [24, 4] (resX (moveX x))) := by
 rw [t32, kidsE]
 unfold moveX
 rcases may_parts h with h0 | ⟨a, b, h0, ha, hb⟩
 ·rw [h0]; rfl
 ·simp only [h0, gd0, gd1, kidsE]
  rcases may_parts ha with h1 | ⟨a1, a2, h1, ha1, ha2⟩
  ·rw [h1]; rfl
  ·simp only [h1, gd0, gd1, may_sm ha2, may_sm hb, may_sm ha1, node_sm2 (set6 ha2) (set6 hb)]; rfl
def e32 : FuncId × TypeId × (List AV -> Bool) × (List AV -> Option D) := (32, 27, preD (q1 fun x => mayT x), ent [24] (f1 fun x => some (resX (moveX x))))
theorem c32 : ∀ args d, e32.2.2.1 args = true -> e32.2.2.2 args = some d -> CallOK Tryd.prog 32 args (mkRes Tryd.prog 27 d) :=
 ent1p k32 fun x d hq h _ => by
  cases h
  rw [n24]
  refine CallOK.retype u42 w42 (fn_ok hm envS8 k32 ((v32 hq 0).trans ?_))
  rw [m27]
def e34 : FuncId × TypeId × (List AV -> Bool) × (List AV -> Option D) := (34, 24, preD (q1 fun x => mayT x), ent [24] (f1 fun x => some (copyT x)))
theorem c34 : ∀ args d, e34.2.2.1 args = true -> e34.2.2.2 args = some d -> CallOK Tryd.prog 34 args (mkRes Tryd.prog 24 d) :=
 ent1p k34 fun x d hq h _ => by
  cases h
  rw [n24]
  refine fn_ok hm envS8 k34 ((t34 0 x).trans ?_)
  rw [m24, kidsE]
  unfold copyT
  rcases may_parts hq with h0 | ⟨a, b, h0, ha, hb⟩
  ·rw [h0]; rfl
  ·simp only [h0, gd0, gd1, may_sm ha, may_sm hb]; rfl
/-- What rules lead to what. -/
def U1 : Tab := e34 :: e32 :: e29 :: S8
theorem envU1 : EnvOK Tryd.prog (envH U1 []) := envOK_cons' (envOK_cons' (envOK_cons' envS8 c29) c32) c34
def fn29 : D := .held (.func (.func 29) #[] #[])
def fn32 : D := .held (.func (.func 32) #[] #[])
theorem t28a (x : D) : evFn Tryd.prog (envH U1 []) (fun _ => none) 1 Tryd.f28 [dat 40 fn29, dat 24 x] = bif (!(mayT x)) then some (tupA [24, 4] (resX none)) else bif mayT x then some (tupA [24, 4] (.agg [fieldD (resX (turnX x)) 0, .lit (.bool (boolD (fieldD (resX (turnX x)) 1)))])) else none := by kernel_rfl
theorem t28b (x : D) : evFn Tryd.prog (envH U1 []) (fun _ => none) 1 Tryd.f28 [dat 40 fn32, dat 24 x] = bif (!(mayT x)) then some (tupA [24, 4] (resX none)) else bif mayT x then some (tupA [24, 4] (.agg [fieldD (resX (moveX x)) 0, .lit (.bool (boolD (fieldD (resX (moveX x)) 1)))])) else none := by kernel_rfl
theorem resX_eta (o : Option D) : (DataW.agg [fieldD (resX o) 0, .lit (.bool (boolD (fieldD (resX o) 1)))] : D) = resX o := by cases o <;> rfl
def ruleX (t : D -> Option D) (x : D) : D := resX (bif mayT x then t x else none)
theorem c28a (x : D) (h : ∃ n, Ty Tryd.prog n 24 x) : CallOK Tryd.prog 28 [dat 40 fn29, dat 24 x] (mkRes Tryd.prog 27 (ruleX turnX x)) := by
 refine fn_ok hm envU1 k28 ((t28a x).trans ?_)
 rw [m27]
 unfold ruleX
 cases hmay : mayT x with
 | false => rfl
 | true => rw [resX_eta]; rfl
theorem c28b (x : D) (h : ∃ n, Ty Tryd.prog n 24 x) : CallOK Tryd.prog 28 [dat 40 fn32, dat 24 x] (mkRes Tryd.prog 27 (ruleX moveX x)) := by
 refine fn_ok hm envU1 k28 ((t28b x).trans ?_)
 rw [m27]
 unfold ruleX
 cases hmay : mayT x with
 | false => rfl
 | true => rw [resX_eta]; rfl
end X
end
section
namespace X
open Go.Ev
set_option linter.unusedVariables false
set_option linter.unusedSimpArgs false
set_option maxRecDepth 100000

theorem k45 : FnOK Tryd.prog 45 Tryd.f45 := ⟨Tryd.func45, rfl, by kernel_rfl⟩
theorem k33 : FnOK Tryd.prog 33 Tryd.f33 := ⟨Tryd.func33, rfl, by kernel_rfl⟩
theorem k44 : FnOK Tryd.prog 44 Tryd.f44 := ⟨Tryd.func44, rfl, by kernel_rfl⟩
theorem k16 : FnOK Tryd.prog 16 Tryd.f16 := ⟨Tryd.func16, rfl, by kernel_rfl⟩
theorem m58 (x : D) : mkRes Tryd.prog 58 x = dat 58 x := by kernel_rfl
theorem t45 : evFn Tryd.prog (envH [] []) (fun _ => none) 1 Tryd.f45 [] = some (dat 58 (.agg [fn29, fn32])) := by kernel_rfl
def e45 : FuncId × TypeId × (List AV -> Bool) × (List AV -> Option D) := (45, 58, yes, fun xs => match xs with | [] => some (.agg [fn29, fn32]) | _ => none)
theorem c45 : ∀ args d, e45.2.2.2 args = some d -> CallOK Tryd.prog 45 args (mkRes Tryd.prog 58 d) := by
 intro args d h
 match args, h with
 | [], h =>
  cases h
  exact fn_ok hm env0 k45 (t45.trans (by rw [m58]))
 | _ :: _, h => cases h
def U2 : Tab := e45 :: U1
theorem envU2 : EnvOK Tryd.prog (envH U2 []) := envOK_cons envU1 c45
def g33 : FuncId × TypeId × (List AV -> Bool) × (List AV -> Option (AV × List Ent)) := (33, 45, yes, fun xs => if shapeOK [24] xs then
 (match xs.map (·.d) with
 | [x] => some (clo 44 44 [OID], [⟨24, x, 0, none⟩])
 | _ => none) else none)
theorem t33 (x0 : D) : evFnG Tryd.prog (envR [] [] [] []) (fun _ => none) 9 Tryd.f33 [dat 24 x0] = some (clo 44 44 [OID], [⟨24, x0, 0, none⟩]) := by kernel_rfl
theorem c33 : ∀ args r es, g33.2.2.1 args = true -> g33.2.2.2 args = some (r, es) -> GCallOK Tryd.prog 33 args r es := by
 intro args r es _ h
 have h : (if shapeOK [24] args then (match args.map (·.d) with
  | [x] => some (clo 44 44 [OID], [(⟨24, x, 0, none⟩ : Ent)])
  | _ => none) else none) = some (r, es) := h
 split at h
 ·rename_i hs
  split at h
  ·rename_i x hd
   simp only [Option.some.injEq, Prod.mk.injEq] at h
   obtain ⟨rfl, rfl⟩ := h
   have key := evFnG_sound hm envOK_nil k33.1 k33.2.2 (t33 x)
   refine ⟨key.fn, fun w okA vs htb hok hargs => key.call w okA vs htb hok ?_⟩
   unfold shapeOK at hs
   rw [Bool.and_eq_true, beq_iff_eq, beq_iff_eq] at hs
   exact argsRep_congr (by rw [hs.1]; rfl) (by rw [hs.2]; rfl) (by rw [hd]; rfl) hargs
  ·cases h
 ·cases h
def envN : Env := envR U2 [] [] [] [g33]
theorem envN_ok : EnvOK Tryd.prog envN := envOK_consG envU2 c33

/-- What it hands on, of trees with fewer parts. -/
def itN (n : Nat) (f : FuncId) (d : D) : Option (List D) := bif f == 44 && decide (szT 130 d < n) && mayT d then some (nextK 4 d) else none
def ItS (s : Int) : Prop := ∀ l : Nat, (allT s).map (fun d => evIt Tryd.prog envN (fun _ => none) 4 Tryd.f44 24 4 24 32 (itN (szT 130 d)) (nextK 4 d) d l) = (allT s).map (fun d => some (List.replicate (nextK 4 d).length l))
theorem it_1 : ItS 1 := fun l => by kernel_rfl
theorem it_2 : ItS 2 := fun l => by kernel_rfl
theorem it_3 : ItS 3 := fun l => by kernel_rfl
theorem it_4 : ItS 4 := fun l => by kernel_rfl
theorem it_5 : ItS 5 := fun l => by kernel_rfl
theorem it_6 : ItS 6 := fun l => by kernel_rfl
theorem it_7 : ItS 7 := fun l => by kernel_rfl
theorem it_8 : ItS 8 := fun l => by kernel_rfl
theorem it_9 : ItS 9 := fun l => by kernel_rfl
theorem it_10 : ItS 10 := fun l => by kernel_rfl
theorem it_11 : ItS 11 := fun l => by kernel_rfl
theorem it_12 : ItS 12 := fun l => by kernel_rfl
theorem it_13 : ItS 13 := fun l => by kernel_rfl
theorem it_14 : ItS 14 := fun l => by kernel_rfl
def NxS (s : Int) : Prop := (allT s).map (fun d => evFnY Tryd.prog envN (noY 24 24 (itN 100)) (fun _ => none) 4 Tryd.f16 [dat 24 d]) = (allT s).map (fun d => some (dat 22 (.slice (nextK 4 d) [])))
theorem nx_1 : (allT 1).map (fun d => evFnY Tryd.prog envN (noY 24 24 (itN 100)) (fun _ => none) 4 Tryd.f16 [dat 24 d]) = (allT 1).map (fun d => some (dat 22 (.slice (nextK 4 d) []))) := by kernel_rfl
theorem nx_2 : (allT 2).map (fun d => evFnY Tryd.prog envN (noY 24 24 (itN 100)) (fun _ => none) 4 Tryd.f16 [dat 24 d]) = (allT 2).map (fun d => some (dat 22 (.slice (nextK 4 d) []))) := by kernel_rfl
theorem nx_3 : (allT 3).map (fun d => evFnY Tryd.prog envN (noY 24 24 (itN 100)) (fun _ => none) 4 Tryd.f16 [dat 24 d]) = (allT 3).map (fun d => some (dat 22 (.slice (nextK 4 d) []))) := by kernel_rfl
theorem nx_4 : (allT 4).map (fun d => evFnY Tryd.prog envN (noY 24 24 (itN 100)) (fun _ => none) 4 Tryd.f16 [dat 24 d]) = (allT 4).map (fun d => some (dat 22 (.slice (nextK 4 d) []))) := by kernel_rfl
theorem nx_5 : (allT 5).map (fun d => evFnY Tryd.prog envN (noY 24 24 (itN 100)) (fun _ => none) 4 Tryd.f16 [dat 24 d]) = (allT 5).map (fun d => some (dat 22 (.slice (nextK 4 d) []))) := by kernel_rfl
theorem nx_6 : (allT 6).map (fun d => evFnY Tryd.prog envN (noY 24 24 (itN 100)) (fun _ => none) 4 Tryd.f16 [dat 24 d]) = (allT 6).map (fun d => some (dat 22 (.slice (nextK 4 d) []))) := by kernel_rfl
theorem nx_7 : (allT 7).map (fun d => evFnY Tryd.prog envN (noY 24 24 (itN 100)) (fun _ => none) 4 Tryd.f16 [dat 24 d]) = (allT 7).map (fun d => some (dat 22 (.slice (nextK 4 d) []))) := by kernel_rfl
theorem nx_8 : (allT 8).map (fun d => evFnY Tryd.prog envN (noY 24 24 (itN 100)) (fun _ => none) 4 Tryd.f16 [dat 24 d]) = (allT 8).map (fun d => some (dat 22 (.slice (nextK 4 d) []))) := by kernel_rfl
theorem nx_9 : (allT 9).map (fun d => evFnY Tryd.prog envN (noY 24 24 (itN 100)) (fun _ => none) 4 Tryd.f16 [dat 24 d]) = (allT 9).map (fun d => some (dat 22 (.slice (nextK 4 d) []))) := by kernel_rfl
theorem nx_10 : (allT 10).map (fun d => evFnY Tryd.prog envN (noY 24 24 (itN 100)) (fun _ => none) 4 Tryd.f16 [dat 24 d]) = (allT 10).map (fun d => some (dat 22 (.slice (nextK 4 d) []))) := by kernel_rfl
theorem nx_11 : (allT 11).map (fun d => evFnY Tryd.prog envN (noY 24 24 (itN 100)) (fun _ => none) 4 Tryd.f16 [dat 24 d]) = (allT 11).map (fun d => some (dat 22 (.slice (nextK 4 d) []))) := by kernel_rfl
theorem nx_12 : (allT 12).map (fun d => evFnY Tryd.prog envN (noY 24 24 (itN 100)) (fun _ => none) 4 Tryd.f16 [dat 24 d]) = (allT 12).map (fun d => some (dat 22 (.slice (nextK 4 d) []))) := by kernel_rfl
theorem nx_13 : (allT 13).map (fun d => evFnY Tryd.prog envN (noY 24 24 (itN 100)) (fun _ => none) 4 Tryd.f16 [dat 24 d]) = (allT 13).map (fun d => some (dat 22 (.slice (nextK 4 d) []))) := by kernel_rfl
theorem nx_14 : (allT 14).map (fun d => evFnY Tryd.prog envN (noY 24 24 (itN 100)) (fun _ => none) 4 Tryd.f16 [dat 24 d]) = (allT 14).map (fun d => some (dat 22 (.slice (nextK 4 d) []))) := by kernel_rfl
end X
end
section
namespace X
open Go.Ev
set_option linter.unusedVariables false
set_option maxRecDepth 100000
def Ch (k : Nat) : List D := ((allT 15).drop (20 * k)).take 20
def ItC (k : Nat) : Prop := ∀ l : Nat, (Ch k).map (fun d => evIt Tryd.prog envN (fun _ => none) 4 Tryd.f44 24 4 24 32 (itN (szT 130 d)) (nextK 4 d) d l) = (Ch k).map (fun d => some (List.replicate (nextK 4 d).length l))
end X
end
section
namespace X
open Go.Ev
set_option linter.unusedVariables false
set_option maxRecDepth 100000
theorem it15_0 : ItC 0 := fun l => by kernel_rfl
theorem it15_1 : ItC 1 := fun l => by kernel_rfl
theorem it15_2 : ItC 2 := fun l => by kernel_rfl
end X
end
section
namespace X
open Go.Ev
set_option linter.unusedVariables false
set_option maxRecDepth 100000
theorem it15_3 : ItC 3 := fun l => by kernel_rfl
theorem it15_4 : ItC 4 := fun l => by kernel_rfl
theorem it15_5 : ItC 5 := fun l => by kernel_rfl
end X
end
section
namespace X
open Go.Ev
set_option linter.unusedVariables false
set_option maxRecDepth 100000
theorem nx_15 : (allT 15).map (fun d => evFnY Tryd.prog envN (noY 24 24 (itN 100)) (fun _ => none) 4 Tryd.f16 [dat 24 d]) = (allT 15).map (fun d => some (dat 22 (.slice (nextK 4 d) []))) := by kernel_rfl
end X
end
section
namespace X
open Go.Ev
set_option linter.unusedVariables false
set_option linter.unusedSimpArgs false
set_option maxRecDepth 100000

theorem nx_no (x0 : D) : evFnY Tryd.prog envN (noY 24 24 (fun _ _ => none)) (fun _ => none) 4 Tryd.f16 [dat 24 x0] = Option.map (fun q : AV × Unit => q.1) (bif (!(mayT x0)) then some (dat 22 (.slice [] []), ()) else none) := by kernel_rfl
theorem fifteen {P : Int -> Prop} (h1 : P 1) (h2 : P 2) (h3 : P 3) (h4 : P 4) (h5 : P 5) (h6 : P 6) (h7 : P 7) (h8 : P 8) (h9 : P 9) (h10 : P 10) (h11 : P 11) (h12 : P 12) (h13 : P 13) (h14 : P 14) (h15 : P 15) {x : Int} (a : 1 <= x) (b : x <= 15) : P x := by
 have : x = 1 \/ x = 2 \/ x = 3 \/ x = 4 \/ x = 5 \/ x = 6 \/ x = 7 \/ x = 8 \/ x = 9 \/ x = 10 \/ x = 11 \/ x = 12 \/ x = 13 \/ x = 14 \/ x = 15 := by omega
 rcases this with rfl | rfl | rfl | rfl | rfl | rfl | rfl | rfl | rfl | rfl | rfl | rfl | rfl | rfl | rfl <;> assumption
theorem may_in {d : D} (h : mayT d = true) : 1 <= setT d /\ setT d <= 15 := by
 have h4 := may_set h
 have := setK_in 4 d
 unfold setT
 have h0 := this.1
 exact ⟨by omega, this.2⟩
/-- A tree that may be, of the form that trees are of, is one of all. -/
theorem may_mem {n : Nat} {d : D} (hty : Ty Tryd.prog n 24 d) (h : mayT d = true) : d ∈ allT (setT d) := by
 obtain ⟨h1, h2⟩ := may_in h
 have hc := ty_cano hty (may_inv 4 d (may_set h)).1
 rw [allT_eq h1 h2]
 exact all_mem 4 5 d 16 hc (may_set h) (by omega)
theorem mem_ch {d : D} (h : d ∈ allT 15) : d ∈ Ch 0 \/ d ∈ Ch 1 \/ d ∈ Ch 2 \/ d ∈ Ch 3 \/ d ∈ Ch 4 \/ d ∈ Ch 5 := by
 have hl : (allT 15).length <= 120 := by
  have := all_15
  simp only [allChk, Bool.and_eq_true, decide_eq_true_eq] at this
  exact this.2
 have step : ∀ k, d ∈ (allT 15).drop (20 * k) -> d ∈ Ch k \/ d ∈ (allT 15).drop (20 * (k + 1)) := by
  intro k hk
  rw [<- List.take_append_drop 20 ((allT 15).drop (20 * k))] at hk
  rcases List.mem_append.1 hk with h | h
  ·exact .inl h
  ·rw [List.drop_drop] at h
   exact .inr (by rw [show 20 * (k + 1) = 20 * k + 20 by omega]; exact h)
 rcases step 0 (by simpa using h) with h | h
 ·exact .inl h
 rcases step 1 h with h | h
 ·exact .inr (.inl h)
 rcases step 2 h with h | h
 ·exact .inr (.inr (.inl h))
 rcases step 3 h with h | h
 ·exact .inr (.inr (.inr (.inl h)))
 rcases step 4 h with h | h
 ·exact .inr (.inr (.inr (.inr (.inl h))))
 rcases step 5 h with h | h
 ·exact .inr (.inr (.inr (.inr (.inr h))))
 ·rw [List.drop_of_length_le (by omega)] at h
  cases h
theorem it_15 : ItS 15 := fun l => List.map_inj_left.2 fun d hd => by
 rcases mem_ch hd with h | h | h | h | h | h
 ·exact List.map_inj_left.1 (it15_0 l) d h
 ·exact List.map_inj_left.1 (it15_1 l) d h
 ·exact List.map_inj_left.1 (it15_2 l) d h
 ·exact List.map_inj_left.1 (it15_3 l) d h
 ·exact List.map_inj_left.1 (it15_4 l) d h
 ·exact List.map_inj_left.1 (it15_5 l) d h
theorem it_all {x : Int} (a : 1 <= x) (b : x <= 15) : ItS x := fifteen (P := ItS) it_1 it_2 it_3 it_4 it_5 it_6 it_7 it_8 it_9 it_10 it_11 it_12 it_13 it_14 it_15 a b
theorem nx_all {x : Int} (a : 1 <= x) (b : x <= 15) : NxS x := fifteen (P := NxS) nx_1 nx_2 nx_3 nx_4 nx_5 nx_6 nx_7 nx_8 nx_9 nx_10 nx_11 nx_12 nx_13 nx_14 nx_15 a b
theorem u32 : ∃ a b c, Tryd.prog.underlying 32 = some (.func a b c) := by
 have h : (match Tryd.prog.underlying 32 with | some (.func _ _ _) => true | _ => false) = true := by kernel_rfl
 split at h
 ·rename_i a b c hh
  exact ⟨a, b, c, hh⟩
 ·cases h
theorem w32 : Tryd.prog.cellsOf 32 = 1 := by kernel_rfl
theorem iter_ok : ∀ n f d ys, itN n f d = some ys -> IterOK Tryd.prog f 24 24 d ys := by
 intro n
 induction n with
 | zero =>
  intro f d ys h
  unfold itN at h
  simp at h
 | succ n ih =>
  intro f d ys h
  unfold itN at h
  cases hc : (f == 44 && decide (szT 130 d < n + 1) && mayT d) with
  | false => rw [hc] at h; cases h
  | true =>
   rw [hc, cond_true] at h
   cases h
   simp only [Bool.and_eq_true, beq_iff_eq, decide_eq_true_eq] at hc
   obtain ⟨⟨rfl, hlt⟩, hmay⟩ := hc
   obtain ⟨a, b⟩ := may_in hmay
   refine ⟨⟨Tryd.f44, _, k44.1, rfl, k44.2.2⟩, fun J l w O K okA U B htb hlt2 hok hbox hB hZ hU hJ hY => ?_⟩
   have hty : ∃ m, Ty Tryd.prog m 24 d := by
    obtain ⟨cs, _, m, hr⟩ := hbox
    exact ⟨m, hr.ty⟩
   obtain ⟨m, hty⟩ := hty
   have hmem := may_mem hty hmay
   refine (evIt_sound hm envN_ok (it := itN (szT 130 d)) (fun f d' ys' h' => ih f d' ys' ?_) (hh := fun _ => none) (fuel := 4) (bo := 4) (yt := 32) k44.1 k44.2.2 rfl u32 w32 (fun l => (List.map_inj_left.1 (it_all a b l)) d hmem)).call J l w O K okA U B htb hlt2 hok hbox hB hZ hU hJ hY
   unfold itN at h' ⊢
   cases hc : (f == 44 && decide (szT 130 d' < szT 130 d) && mayT d') with
   | false => rw [hc] at h'; cases h'
   | true =>
    rw [hc] at h'
    simp only [Bool.and_eq_true, decide_eq_true_eq] at hc
    have : (f == 44 && decide (szT 130 d' < n) && mayT d') = true := by
     simp only [Bool.and_eq_true, decide_eq_true_eq]
     exact ⟨⟨hc.1.1, by omega⟩, hc.2⟩
    rw [this]
    exact h'
def e16 : FuncId × TypeId × (List AV -> Bool) × (List AV -> Option D) := (16, 22, yes, ent [24] (f1 fun x => some (.slice (nextT x) [])))
theorem c16 : ∀ args d, e16.2.2.2 args = some d -> CallOK Tryd.prog 16 args (mkRes Tryd.prog 22 d) :=
 ent1 k16 fun x d h ⟨_, hx⟩ => by
  cases h
  rw [n24, m22]
  unfold nextT
  cases hmay : mayT x with
  | false =>
   refine evFnY_sound hm envN_ok (it := fun _ _ => none) (fun _ _ _ h => (by cases h)) k16.1 k16.2.2 ((nx_no x).trans ?_) (.inl rfl)
   rw [hmay]
   rfl
  | true =>
   obtain ⟨a, b⟩ := may_in hmay
   exact evFnY_sound hm envN_ok (iter_ok 100) k16.1 k16.2.2 (List.map_inj_left.1 (nx_all a b) x (may_mem hx hmay)) (.inl rfl)
def U3 : Tab := e16 :: e45 :: e27 :: S8
end X
end
end Go.Proofs.YtdacippnonhahaaDoor
