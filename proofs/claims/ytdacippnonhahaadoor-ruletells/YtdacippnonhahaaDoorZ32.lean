/- Trees of functions, and lemmas. Nothing here is trusted. -/
import Derived.Test.YtdacippnonhahaaDoorZ31
import Derived.Test.YtdacippnonhahaaDoorZ30
import Derived.Test.YtdacippnonhahaaDoorZ29
namespace Go.Proofs.YtdacippnonhahaaDoor
section
namespace X
open Go.Ev
set_option linter.unusedVariables false
set_option linter.unusedSimpArgs false
set_option maxRecDepth 100000

theorem k18 : FnOK Tryd.prog 18 Tryd.f18 := ⟨Tryd.func18, rfl, by kernel_rfl⟩
theorem map48 : MapTy Tryd.prog 49 9 48 4 := by
 have z : ∀ w, (zeroValue 48).run Tryd.prog w = .ok (.agg #[]) w := fun w => by kernel_rfl
 exact ⟨by kernel_rfl, by kernel_rfl, by kernel_rfl, by kernel_rfl, z, by kernel_rfl, by kernel_rfl⟩
def cHd : Code -> Code | .seq a _ => a | c => c
def cTl : Code -> Code | .seq _ b => b | c => c
def cOps : Code -> Array Oper | .region _ ops _ => ops | _ => #[]
def cId : Code -> Nat | .region id _ _ => id | _ => 0
noncomputable def B18 : Code := Tryd.f18.body.getD .skip
theorem b18 : Tryd.f18.body = some (.seq (cHd B18) (.seq (cHd (cTl B18)) (.seq (cHd (cTl (cTl B18))) (.seq (.region (cId (cHd (cTl (cTl (cTl B18))))) (cOps (cHd (cTl (cTl (cTl B18))))) false) (cTl (cTl (cTl (cTl B18)))))))) := by kernel_rfl
def env18 : Env := envS envN [(15, 100)]
noncomputable def y18 (c : Code) (s : St) : Option St := evCodeY Tryd.prog env18 (noY 24 24 (itN 100)) (fun _ => none) 20 c true St (s, ()) nrm
noncomputable def p18 (x : D) : St := (y18 (cHd B18) (begin_ Tryd.f18 [dat 24 x])).getD ⟨[], fun _ => none⟩
noncomputable def q18 (x : D) : St := (y18 (cHd (cTl B18)) (p18 x)).getD ⟨[], fun _ => none⟩
noncomputable def r18 (x : D) : St := (y18 (cHd (cTl (cTl B18))) (q18 x)).getD ⟨[], fun _ => none⟩
theorem of_is {α : Type} {o : Option α} {d : α} (h : o.isSome = true) : o = some (o.getD d) := by
 cases o with
 | none => cases h
 | some x => rfl
theorem p18_3 : (y18 (cHd B18) (begin_ Tryd.f18 [dat 24 (firstD 3)])).isSome = true := by kernel_rfl
theorem q18_3 : (y18 (cHd (cTl B18)) (p18 (firstD 3))).isSome = true := by kernel_rfl
theorem r18_3 : (y18 (cHd (cTl (cTl B18))) (q18 (firstD 3))).isSome = true := by kernel_rfl
noncomputable def O18 : Array Oper := cOps (cHd (cTl (cTl (cTl B18))))
noncomputable def o18 : Oper := O18.getD 0 { dst := none, op := .move (.tmp 0), type := 0, pos := "", after := #[], guard := none }
theorem o18_0 : O18[0]? = some o18 := by kernel_rfl
theorem o18_op : o18.op = .makeMap 49 none := by kernel_rfl
theorem a18 : asked Tryd.prog O18 o18 (prep env18 O18.toList (r18 (firstD 3))) = some true := by kernel_rfl
theorem v18 : ∀ b, (evSet Tryd.prog env18 (mapEnv Tryd.prog 49 9 48 4 24 24 (itN 100)) (fun _ => none) 20 Tryd.f18 O18 o18.dst 49 (cTl (cTl (cTl (cTl B18)))) b (r18 (firstD 3))).map (fun q => (q.1, q.2.2)) = some (dat 22 (.slice (closeT (firstD 3)) []), List.replicate 42 b) := fun b => by kernel_rfl
theorem w18 : ∀ b, (evSet Tryd.prog env18 (mapEnv Tryd.prog 49 9 48 4 24 24 (itN 100)) (fun _ => none) 20 Tryd.f18 O18 o18.dst 49 (cTl (cTl (cTl (cTl B18)))) b (r18 (firstD 3))).map (fun q => q.2.1.length) = some 12 := fun b => by kernel_rfl
theorem x18 (b : Nat) : ∃ q, evSet Tryd.prog env18 (mapEnv Tryd.prog 49 9 48 4 24 24 (itN 100)) (fun _ => none) 20 Tryd.f18 O18 o18.dst 49 (cTl (cTl (cTl (cTl B18)))) b (r18 (firstD 3)) = some q /\ q.1 = dat 22 (.slice (closeT (firstD 3)) []) /\ (∀ b' ∈ q.2.2, b' = b) /\ q.2.1.length < 100000 := by
 obtain ⟨q, hq, he⟩ := Option.map_eq_some_iff.1 (v18 b)
 have hl := w18 b
 rw [hq] at hl
 have hl : q.2.1.length = 12 := Option.some.inj hl
 have h2 : q.2.2 = List.replicate 42 b := (Prod.mk.inj he).2
 exact ⟨q, hq, (Prod.mk.inj he).1, fun b' hb => by rw [h2] at hb; exact List.eq_of_mem_replicate hb, by omega⟩
theorem c18_3 : CallOK Tryd.prog 18 [dat 24 (firstD 3)] (dat 22 (.slice (closeT (firstD 3)) [])) :=
 set_sound hm (envOK_S envN_ok _) map48 (by kernel_rfl) (iter_ok 100) k18.1 k18.2.2 b18 rfl (of_is p18_3) (of_is q18_3) (of_is r18_3) o18_0 o18_op a18 x18 (.inl rfl)
end X
end
section
namespace X
open Go.Ev
set_option linter.unusedVariables false
set_option linter.unusedSimpArgs false
set_option maxRecDepth 100000

def ds18 : List Nat := 0 :: (List.range 47).map (· + 6)
def h18 : Hints := fun i => if i = 6 \/ i = 9 then some (ds18, [1, 2, 3, 4, 15], []) else none
noncomputable def mE : YEnv MX := mapEnv Tryd.prog 49 9 48 4 24 24 (itN 100)
def cB : Code -> Code | .block _ b => b | .loop b => b | .cond _ b _ => b | c => c
def cR (c : Code) : Code := match c with | .rangeFunc _ _ x _ => x | c => c
def cR2 (c : Code) : Code := match c with | .rangeFunc _ _ _ x => x | c => c
noncomputable def D18 : Code := cTl (cTl (cTl (cTl B18)))
noncomputable def L18 : Code := cB (cB (cTl (cHd D18)))
noncomputable def B1 : Code := cB (cHd (cTl L18))
noncomputable def RG : Code := cB (cTl B1)
noncomputable def asgE : St × MX -> (Exit -> St × MX -> Option (RoundR MX)) -> Option (RoundR MX) := evCodeY Tryd.prog env18 mE h18 130 (cR RG) false (RoundR MX)
noncomputable def bdyE : St × MX -> (Exit -> St × MX -> Option (RoundR MX)) -> Option (RoundR MX) := evCodeY Tryd.prog env18 mE h18 130 (cR2 RG) false (RoundR MX)
/-- At the loop's head, and between the rounds in it. -/
def S18 (x : D) (seen : List D) (i : Int) (b : Nat) : St :=
 ⟨dead :: bxp 1 24 :: bxp 2 22 :: bxp 3 22 :: bxp 4 49 :: dat 3 (.lit (.int .i64 i)) :: List.replicate 47 dead,
  lookB [(1, some ⟨24, x, 0, none⟩), (2, some ⟨22, .slice [] [], 1, none⟩), (3, some ⟨22, .nil, 0, some (bxp 15 22)⟩), (4, some ⟨49, .held (.map (some b)), 0, none⟩), (15, some ⟨22, .slice seen [], 2, none⟩)]⟩
def ents18 (x : D) (seen : List D) (b k : Nat) : List (Option Ent) :=
 [some ⟨24, x, 0, none⟩, some ⟨22, .slice [] [], 4, none⟩, some ⟨22, .nil, 0, some (bxp 1000004 22)⟩, some ⟨49, .held (.map (some b)), 0, none⟩, some ⟨22, .slice seen [], k, none⟩]
theorem rnd (x y : D) (seen : List D) (i : Int) (b : Nat) (texts : List (List UInt8)) (bs : List Nat) :
  roundC mE asgE bdyE 32 (preL h18 (cR RG)) (S18 x seen i b, (texts, bs)) y = Option.map (fun r => (preL h18 (cR RG) r.1, r.2)) (Option.map (fun r => ((S18 x seen i b).after [1, 2, 3, 4, 15] r.1, r.2)) (bif !(texts.contains (textT y)) then (bif decide (seen.length + 1 <= 2147483648) then (bif (decide (0 <= (seen.length : Int)) && decide ((seen.length : Int) < ((seen ++ [leafD 0]).length : Int))) then some (ents18 x ((seen ++ [leafD 0]).set (Int.toNat (seen.length : Int)) y) b 2, (textT y :: texts, b :: b :: bs)) else none) else none) else some (ents18 x seen b 3, (texts, b :: bs)))) := by kernel_rfl
theorem aft3 (x : D) (seen : List D) (i : Int) (b : Nat) : preL h18 (cR RG) ((S18 x seen i b).after [1, 2, 3, 4, 15] (ents18 x seen b 3)) = S18 x seen i b := by kernel_rfl
theorem aft2 (x : D) (seen seen' : List D) (i : Int) (b : Nat) : preL h18 (cR RG) ((S18 x seen i b).after [1, 2, 3, 4, 15] (ents18 x seen' b 2)) = S18 x seen' i b := by kernel_rfl
end X
end
section
namespace X
open Go.Ev
set_option linter.unusedVariables false
set_option linter.unusedSimpArgs false
set_option maxRecDepth 100000

theorem set_end (l : List D) (z y : D) : (l ++ [z]).set l.length y = l ++ [y] := by simp
theorem rnd_old {x y : D} {seen : List D} {i : Int} {b : Nat} {texts : List (List UInt8)} {bs : List Nat} (h : texts.contains (textT y) = true) :
  roundC mE asgE bdyE 32 (preL h18 (cR RG)) (S18 x seen i b, (texts, bs)) y = some (S18 x seen i b, (texts, b :: bs)) := by
 rw [rnd, h, Bool.not_true, cond_false, Option.map_some, Option.map_some, aft3]
theorem rnd_new {x y : D} {seen : List D} {i : Int} {b : Nat} {texts : List (List UInt8)} {bs : List Nat} (h : texts.contains (textT y) = false) (hl : seen.length < 2147483648) :
  roundC mE asgE bdyE 32 (preL h18 (cR RG)) (S18 x seen i b, (texts, bs)) y = some (S18 x (seen ++ [y]) i b, (textT y :: texts, b :: b :: bs)) := by
 have h1 : decide (seen.length + 1 <= 2147483648) = true := by simp; omega
 have h2 : (decide (0 <= (seen.length : Int)) && decide ((seen.length : Int) < ((seen ++ [leafD 0]).length : Int))) = true := by
  rw [List.length_append]
  simp
  omega
 rw [rnd, h, Bool.not_false, cond_true, h1, cond_true, h2, cond_true, Option.map_some, Option.map_some, aft2, Int.toNat_natCast, set_end]
theorem fold18 {x : D} {i : Int} {b : Nat} : ∀ (ys seen : List D) (texts : List (List UInt8)) (bs : List Nat), seen.length + ys.length < 2147483648 -> (∀ b' ∈ bs, b' = b) ->
  ∃ bs', foldY (roundC mE asgE bdyE 32 (preL h18 (cR RG))) ys (S18 x seen i b, (texts, bs)) = some (S18 x (comeK seen texts ys).1 i b, ((comeK seen texts ys).2, bs')) /\ ∀ b' ∈ bs', b' = b
 | [], seen, texts, bs, _, hb => ⟨bs, rfl, hb⟩
 | y :: ys, seen, texts, bs, hl, hb => by
  simp only [List.length_cons] at hl
  unfold foldY
  cases h : texts.contains (textT y) with
  | true =>
   rw [rnd_old h, Option.bind_some]
   have hc : comeK seen texts (y :: ys) = comeK seen texts ys := by
    show (bif texts.contains (textT y) then _ else _) = _
    rw [h]; rfl
   rw [hc]
   refine fold18 ys seen texts _ (by omega) (fun b' hb' => ?_)
   rcases List.mem_cons.1 hb' with rfl | h2
   ·rfl
   ·exact hb b' h2
  | false =>
   rw [rnd_new h (by omega), Option.bind_some]
   have hc : comeK seen texts (y :: ys) = comeK (seen ++ [y]) (textT y :: texts) ys := by
    show (bif texts.contains (textT y) then _ else _) = _
    rw [h]; rfl
   rw [hc]
   refine fold18 ys _ _ _ (by rw [List.length_append]; simp; omega) (fun b' hb' => ?_)
   rcases List.mem_cons.1 hb' with rfl | h2
   ·rfl
   ·rcases List.mem_cons.1 h2 with rfl | h3
    ·rfl
    ·exact hb b' h3
theorem come_len : ∀ (ys seen : List D) (texts : List (List UInt8)), (comeK seen texts ys).1.length <= seen.length + ys.length
 | [], _, _ => by simp [comeK]
 | y :: ys, seen, texts => by
  unfold comeK
  cases texts.contains (textT y) with
  | true => have := come_len ys seen texts; simp only [cond_true, List.length_cons]; omega
  | false => have := come_len ys (seen ++ [y]) (textT y :: texts); simp only [cond_false, List.length_cons, List.length_append, List.length_nil] at this ⊢; omega
def X18 (x : D) (seen : List D) (b : Nat) : List (Nat × Option Ent) := [(1, some ⟨24, x, 0, none⟩), (2, some ⟨22, .slice [] [], 1, none⟩), (3, some ⟨22, .nil, 0, some (bxp 15 22)⟩), (4, some ⟨49, .held (.map (some b)), 0, none⟩), (15, some ⟨22, .slice seen [], 2, none⟩)]
/-- Behind the loop's test. -/
def H18 (x : D) (seen : List D) (i : Int) (b : Nat) (t : Bool) : St :=
 ⟨dead :: bxp 1 24 :: bxp 2 22 :: bxp 3 22 :: bxp 4 49 :: dat 3 (.lit (.int .i64 i)) :: (List.replicate 15 dead ++ dat 3 (.lit (.int .i64 i)) :: bxp 15 22 :: dat 3 (.lit (.int .i64 (seen.length : Int))) :: dat 4 (.lit (.bool t)) :: List.replicate 28 dead), lookB (X18 x seen b)⟩
theorem head18 {ρ : Type} (x : D) (seen : List D) (i : Int) (b : Nat) (m : MX) (K : Exit -> St × MX -> Option ρ) : evCodeY Tryd.prog env18 mE h18 130 (cHd L18) true ρ (S18 x seen i b, m) K = bif decide (i < (seen.length : Int)) then K .normal (H18 x seen i b true, m) else K (.exit 0) (H18 x seen i b false, m) := by kernel_rfl
end X
end
section
namespace X
open Go.Ev
set_option linter.unusedVariables false
set_option linter.unusedSimpArgs false
set_option maxRecDepth 100000
set_option maxHeartbeats 2000000

noncomputable def o31 : Oper := (cOps (cHd B1)).getD 4 { dst := none, op := .move (.tmp 0), type := 0, pos := "", after := #[], guard := none }
def H8 (x : D) (seen : List D) (i : Int) (b : Nat) (d : D) : St :=
 ⟨dead :: bxp 1 24 :: bxp 2 22 :: bxp 3 22 :: bxp 4 49 :: dat 3 (.lit (.int .i64 i)) :: (List.replicate 15 dead ++ dat 3 (.lit (.int .i64 i)) :: bxp 15 22 :: dat 3 (.lit (.int .i64 (seen.length : Int))) :: dat 4 (.lit (.bool true)) :: dead :: dead :: bxp 15 22 :: dat 3 (.lit (.int .i64 i)) :: elp 15 24 i :: dat 24 d :: List.replicate 22 dead), lookB (X18 x seen b)⟩
noncomputable def T18 (x : D) (seen : List D) (i : Int) (b : Nat) (d : D) : St := (evOp Tryd.prog env18 o31 (H8 x seen i b d)).getD ⟨[], fun _ => none⟩
theorem r8 {ρ : Type} (x : D) (seen : List D) (i : Int) (b : Nat) (m : MX) (K : Exit -> St × MX -> Option ρ) : evCodeY Tryd.prog env18 mE h18 130 (cHd B1) true ρ (H18 x seen i b true, m) K = bif (decide (0 <= i) && decide (i < (seen.length : Int))) then K .normal (T18 x seen i b (seen.getD i.toNat .nil), m) else none := by kernel_rfl
theorem it18 (x : D) (seen : List D) (i : Int) (b : Nat) (d : D) : itOf mE (T18 x seen i b d) 31 = (itN 100 44 d).map (fun ys => (100031, ys)) := by kernel_rfl
theorem kl18 (x : D) (seen : List D) (i : Int) (b : Nat) (d : D) : preL h18 (cR RG) ((T18 x seen i b d).kill 100031) = S18 x seen i b := by kernel_rfl
theorem evRange {ρ σ : Type} {P : Program} {env : Env} {Y : YEnv σ} {hh : Hints} {fuel g p c : Nat} {ys : List D} {x y : Code} {s : St × σ} {K : Exit -> St × σ -> Option ρ} (h : itOf Y s.1 g = some (c, ys)) :
  evCodeY P env Y hh fuel (.rangeFunc (.tmp g) #[p] x y) true ρ s K = (foldY (roundC Y (evCodeY P env Y hh fuel x false (RoundR σ)) (evCodeY P env Y hh fuel y false (RoundR σ)) p (preL hh x)) ys (preL hh x (s.1.kill c), s.2)).bind (K .normal) := by
 simp only [evCodeY, h, if_true]
theorem RG_eq : RG = .rangeFunc (.tmp 31) #[32] (cR RG) (cR2 RG) := by kernel_rfl
theorem rg18 {ρ : Type} {s : St × MX} {K : Exit -> St × MX -> Option ρ} {c : Nat} {ys : List D} (h : itOf mE s.1 31 = some (c, ys)) : evCodeY Tryd.prog env18 mE h18 130 RG true ρ s K = (foldY (roundC mE asgE bdyE 32 (preL h18 (cR RG))) ys (preL h18 (cR RG) (s.1.kill c), s.2)).bind (K .normal) := by
 have := evRange (P := Tryd.prog) (env := env18) (hh := h18) (fuel := 130) (p := 32) (x := cR RG) (y := cR2 RG) (K := K) h
 rw [<- RG_eq] at this
 exact this
theorem bodyL {ρ : Type} (s : St × MX) (K : Exit -> St × MX -> Option ρ) : evCodeY Tryd.prog env18 mE h18 130 L18 true ρ s K = evCodeY Tryd.prog env18 mE h18 130 (cHd L18) true ρ s (seqY (fun s => evCodeY Tryd.prog env18 mE h18 130 (cTl L18) true ρ s K) K) := by kernel_rfl
theorem bodyT {ρ : Type} (s : St × MX) (K : Exit -> St × MX -> Option ρ) : evCodeY Tryd.prog env18 mE h18 130 (cTl L18) true ρ s K = evCodeY Tryd.prog env18 mE h18 130 (cHd B1) true ρ s (seqY (fun s => evCodeY Tryd.prog env18 mE h18 130 RG true ρ s (blockY 2 (blockY 1 (seqY (fun s => evCodeY Tryd.prog env18 mE h18 130 (cTl (cTl L18)) true ρ s K) K)))) (blockY 1 (seqY (fun s => evCodeY Tryd.prog env18 mE h18 130 (cTl (cTl L18)) true ρ s K) K))) := by kernel_rfl
noncomputable def U18 (x : D) (seen : List D) (i : Int) (b : Nat) : St := ((evCodeY Tryd.prog env18 mE h18 130 (cTl (cTl L18)) true (St × MX) (S18 x seen i b, ([], [])) (fun _ s => some s)).getD (⟨[], fun _ => none⟩, ([], []))).1
theorem r7 {ρ : Type} (x : D) (seen : List D) (i : Int) (b : Nat) (m : MX) (K : Exit -> St × MX -> Option ρ) : evCodeY Tryd.prog env18 mE h18 130 (cTl (cTl L18)) true ρ (S18 x seen i b, m) K = K .normal (U18 x seen i b, m) := by kernel_rfl
theorem u18 (x : D) (seen : List D) (i : Int) (b : Nat) : preL h18 L18 (U18 x seen i b) = S18 x seen (IntKind.wrap .i64 (i + 1)) b := by kernel_rfl
theorem may_sz {d : D} (h : mayT d = true) : decide (szT 130 d < 100) = true := by
 have h1 := (may_inv 4 d (may_set h)).2
 have h2 : szT 130 d + 1 <= 2 ^ (4 + 1) := by first | exact h1 | (have := h1; omega)
 simp only [decide_eq_true_eq]
 omega
end X
end
section
namespace X
open Go.Ev
set_option linter.unusedVariables false
set_option linter.unusedSimpArgs false

theorem loop_succ {ρ σ : Type} {pre : St -> St} {body : St × σ -> (Exit -> St × σ -> Option ρ) -> Option ρ} {n : Nat} {s : St × σ} {K : Exit -> St × σ -> Option ρ} : loopY pre body (n + 1) s K = body s (seqY (fun s => loopY pre body n (pre s.1, s.2) K) K) := rfl
theorem seqY_n {ρ σ : Type} {next : St × σ -> Option ρ} {K : Exit -> St × σ -> Option ρ} {s : St × σ} : seqY next K .normal s = next s := rfl
theorem blockY_n {ρ σ : Type} {i : Nat} {K : Exit -> St × σ -> Option ρ} {s : St × σ} : blockY i K .normal s = K .normal s := rfl
theorem rg18' {ρ : Type} {T : St} {m : MX} {K : Exit -> St × MX -> Option ρ} {c : Nat} {ys : List D} (h : itOf mE T 31 = some (c, ys)) : evCodeY Tryd.prog env18 mE h18 130 RG true ρ (T, m) K = (foldY (roundC mE asgE bdyE 32 (preL h18 (cR RG))) ys (preL h18 (cR RG) (T.kill c), m)).bind (K .normal) := rg18 (s := (T, m)) h
/-- A round of the loop: what is next of the tree that it stands at comes. -/
theorem round18 {ρ : Type} {x : D} {seen : List D} {i b : Nat} {texts : List (List UInt8)} {bs : List Nat} {n : Nat} {K : Exit -> St × MX -> Option ρ} (hi : i < seen.length) (hmay : mayT seen[i] = true) (hl : seen.length + (nextK 4 seen[i]).length < 2147483648) (hb : ∀ b' ∈ bs, b' = b) :
  ∃ bs', loopY (preL h18 L18) (evCodeY Tryd.prog env18 mE h18 130 L18 true ρ) (n + 1) (S18 x seen (i : Int) b, (texts, bs)) K =
   loopY (preL h18 L18) (evCodeY Tryd.prog env18 mE h18 130 L18 true ρ) n (S18 x (comeK seen texts (nextK 4 seen[i])).1 ((i + 1 : Nat) : Int) b, ((comeK seen texts (nextK 4 seen[i])).2, bs')) K /\ ∀ b' ∈ bs', b' = b := by
 obtain ⟨bs', hf, hb'⟩ := fold18 (x := x) (i := (i : Int)) (b := b) (nextK 4 seen[i]) seen texts bs hl hb
 refine ⟨bs', ?_, hb'⟩
 have h1 : decide ((i : Int) < (seen.length : Int)) = true := by simpa using hi
 have hit : itN 100 44 seen[i] = some (nextK 4 seen[i]) := by
  unfold itN
  rw [may_sz hmay, hmay]
  rfl
 have hw : IntKind.wrap .i64 ((i : Int) + 1) = ((i + 1 : Nat) : Int) := by
  rw [wrap_in (by rw [inR_iff]; omega)]
  omega
 rw [loop_succ, bodyL, head18, h1, cond_true, seqY_n]
 rw [bodyT]
 rw [r8]
 rw [idx_ok hi, cond_true, Int.toNat_natCast, getD_lt hi, seqY_n]
 rw [rg18' (by rw [it18, hit, Option.map_some]), kl18, hf, Option.bind_some, blockY_n, blockY_n, seqY_n]
 rw [r7, seqY_n]
 try dsimp only
 rw [u18, hw]
end X
end
section
namespace X
open Go.Ev
set_option linter.unusedVariables false
set_option linter.unusedSimpArgs false

theorem seqY_e {ρ σ : Type} {next : St × σ -> Option ρ} {K : Exit -> St × σ -> Option ρ} {i : Nat} {s : St × σ} : seqY next K (.exit i) s = K (.exit i) s := rfl
theorem come_mem {G : D -> Prop} : ∀ (ys seen : List D) (texts : List (List UInt8)), (∀ d ∈ seen, G d) -> (∀ d ∈ ys, G d) -> ∀ d ∈ (comeK seen texts ys).1, G d
 | [], _, _, h, _ => h
 | y :: ys, seen, texts, h, h2 => by
  unfold comeK
  cases texts.contains (textT y) with
  | true => exact come_mem ys seen texts h (fun d hd => h2 d (List.mem_cons_of_mem _ hd))
  | false =>
   refine come_mem ys _ _ (fun d hd => ?_) (fun d hd => h2 d (List.mem_cons_of_mem _ hd))
   rcases List.mem_append.1 hd with h3 | h3
   ·exact h d h3
   ·rw [List.mem_singleton.1 h3]; exact h2 y List.mem_cons_self
theorem come_ge : ∀ (ys seen : List D) (texts : List (List UInt8)), seen.length <= (comeK seen texts ys).1.length
 | [], _, _ => Nat.le_refl _
 | y :: ys, seen, texts => by
  unfold comeK
  cases texts.contains (textT y) with
  | true => exact come_ge ys seen texts
  | false => have := come_ge ys (seen ++ [y]) (textT y :: texts); simp only [cond_false, List.length_append, List.length_cons, List.length_nil] at this ⊢; omega
theorem come_tl : ∀ (ys seen : List D) (texts : List (List UInt8)), (comeK seen texts ys).2.length <= texts.length + ys.length
 | [], _, _ => Nat.le_refl _
 | y :: ys, seen, texts => by
  unfold comeK
  cases texts.contains (textT y) with
  | true => have := come_tl ys seen texts; simp only [cond_true, List.length_cons]; omega
  | false => have := come_tl ys (seen ++ [y]) (textT y :: texts); simp only [cond_false, List.length_cons] at this ⊢; omega
/-- The loop: it goes on till nothing new comes. -/
theorem loop18 {ρ : Type} {x : D} {b : Nat} {K : Exit -> St × MX -> Option ρ} {G : D -> Prop} (hG : ∀ d, G d -> mayT d = true /\ ∀ n ∈ nextK 4 d, G n) : ∀ (n i : Nat) (seen : List D) (texts : List (List UInt8)) (bs : List Nat), (∀ d ∈ seen, G d) -> i <= seen.length -> seen.length + 40 * n < 2147483648 -> (closeK n i seen texts).length < i + n -> (∀ b' ∈ bs, b' = b) ->
  ∃ texts' bs', loopY (preL h18 L18) (evCodeY Tryd.prog env18 mE h18 130 L18 true ρ) n (S18 x seen (i : Int) b, (texts, bs)) K = K (.exit 0) (H18 x (closeK n i seen texts) ((closeK n i seen texts).length : Int) b false, (texts', bs')) /\ (∀ b' ∈ bs', b' = b) /\ texts'.length <= texts.length + 40 * n
 | 0, i, seen, texts, bs, _, hi, _, hc, _ => by
  have : closeK 0 i seen texts = seen := rfl
  rw [this] at hc
  omega
 | n + 1, i, seen, texts, bs, hs, hi, hl, hc, hb => by
  by_cases hlt : i < seen.length
  ·obtain ⟨hmay, hn⟩ := hG _ (hs _ (List.getElem_mem hlt))
   have hj : (nextK 4 seen[i]).length <= 30 := by
    rw [nextK_len]
    have := jn_le 4 seen[i]
    omega
   have hcl := come_len (nextK 4 seen[i]) seen texts
   obtain ⟨bs', h1, h2⟩ := round18 (ρ := ρ) (x := x) (n := n) (K := K) hlt hmay (by omega) hb
   have hck : closeK (n + 1) i seen texts = closeK n (i + 1) (comeK seen texts (nextK 4 seen[i])).1 (comeK seen texts (nextK 4 seen[i])).2 := by
    show (match seen[i]? with | some d => _ | none => _) = _
    rw [List.getElem?_eq_getElem hlt]
   rw [hck] at hc ⊢
   have hge : seen.length <= (comeK seen texts (nextK 4 seen[i])).1.length := come_ge _ _ _
   have htl := come_tl (nextK 4 seen[i]) seen texts
   obtain ⟨t', b2, h3, h4, h5⟩ := loop18 hG n (i + 1) (comeK seen texts (nextK 4 seen[i])).1 (comeK seen texts (nextK 4 seen[i])).2 bs' (come_mem _ _ _ hs hn) (by omega) (by omega) (by omega) h2
   exact ⟨t', b2, h1.trans h3, h4, by omega⟩
  ·have he : i = seen.length := by omega
   have hck : closeK (n + 1) i seen texts = seen := by
    show (match seen[i]? with | some d => _ | none => _) = _
    rw [List.getElem?_eq_none (by omega)]
   have hd : decide ((i : Int) < (seen.length : Int)) = false := by simpa using hlt
   rw [hck, <- he]
   exact ⟨texts, bs, by rw [loop_succ, bodyL, head18, hd, cond_false, seqY_e, seqY_e], hb, by omega⟩
end X
end
section
namespace X
open Go.Ev
set_option linter.unusedVariables false
set_option linter.unusedSimpArgs false
set_option maxRecDepth 100000

noncomputable def y1 (env : Env) (c : Code) (s : St) : Option St := evCodeY Tryd.prog env (noY 24 24 (itN 100)) h18 130 c true St (s, ()) nrm
/-- The same functions, asked without their premises: for the shape of states alone. -/
def envF : Env := envS (envR (U2.map fun e => (e.1, e.2.1, yes, e.2.2.2)) [] [] [] [g33]) [(15, 100)]
noncomputable def p1 (x : D) : St := (y1 env18 (cHd B18) (begin_ Tryd.f18 [dat 24 x])).getD ⟨[], fun _ => none⟩
noncomputable def q1x (x : D) : St := ⟨dat 24 x :: bxp 1 24 :: bxp 2 22 :: dead :: dead :: dead :: dead :: dead :: dead :: dead :: dat 24 x :: dat 4 (.lit (.bool (mayT x))) :: dat 4 (.lit (.bool false)) :: List.replicate 40 dead, (p1 x).bx⟩
noncomputable def r1 (x : D) : St := (y1 envF (cHd (cTl (cTl B18))) (q1x x)).getD ⟨[], fun _ => none⟩
theorem p1_is (x : D) : (y1 env18 (cHd B18) (begin_ Tryd.f18 [dat 24 x])).isSome = true := by kernel_rfl
theorem q1_eq (x : D) : y1 env18 (cHd (cTl B18)) (p1 x) = bif !(mayT x) then none else some (q1x x) := by kernel_rfl
theorem r1_eq (x : D) : y1 env18 (cHd (cTl (cTl B18))) (q1x x) = bif mayT x then some (r1 x) else none := by kernel_rfl
theorem a1 (x : D) : asked Tryd.prog O18 o18 (prep env18 O18.toList (r1 x)) = some true := by kernel_rfl

noncomputable def endK : St × MX -> Option (AV × MX) := fun s => evCodeY Tryd.prog env18 mE h18 130 (cTl D18) true (AV × MX) s (finY Tryd.prog Tryd.f18)
theorem ahead18 (x : D) (b : Nat) : evSet Tryd.prog env18 mE h18 130 Tryd.f18 O18 o18.dst 49 D18 b (r1 x) =
  loopY (preL h18 L18) (evCodeY Tryd.prog env18 mE h18 130 L18 true (AV × MX)) 130 (S18 x [copyT x] ((0 : Nat) : Int) b, ([textT x], [b])) (blockY 0 (seqY endK (finY Tryd.prog Tryd.f18))) := by kernel_rfl
theorem end18 (x : D) (seen : List D) (i : Int) (b : Nat) (m : MX) : endK (H18 x seen i b false, m) = some (dat 22 (.slice seen []), m) := by kernel_rfl

theorem blk0 {ρ σ : Type} {K : Exit -> St × σ -> Option ρ} {s : St × σ} : blockY 0 K (.exit 0) s = K .normal s := rfl
theorem nx_no18 (x : D) : evFnY Tryd.prog envN (noY 24 24 (fun _ _ => none)) (fun _ => none) 4 Tryd.f18 [dat 24 x] = Option.map (fun q : AV × Unit => q.1) (bif !(mayT x) then some (dat 22 (.slice [] []), ()) else bif mayT x then none else none) := by kernel_rfl
theorem nx_not {x : D} (h : mayT x = false) : evFnY Tryd.prog envN (noY 24 24 (fun _ _ => none)) (fun _ => none) 4 Tryd.f18 [dat 24 x] = some (dat 22 (.slice [] [])) := by
 rw [nx_no18, h]
 rfl
theorem c18g {x : D} (hx : ∃ n, Ty Tryd.prog n 24 x) : CallOK Tryd.prog 18 [dat 24 x] (dat 22 (.slice (closeT x) [])) := by
 unfold closeT
 cases hmay : mayT x with
 | false => exact evFnY_sound hm envN_ok (it := fun _ _ => none) (fun _ _ _ h => (by cases h)) k18.1 k18.2.2 (nx_not hmay) (.inl rfl)
 | true =>
  rw [cond_true]
  obtain ⟨h1, h2⟩ := may_in hmay
  obtain ⟨n, hty⟩ := hx
  have hmem := may_mem hty hmay
  have hcp := copy_same h1 h2 hmem
  obtain ⟨q1, q2, q3⟩ := close_all h1 h2 hmem
  have hlen := allT_len h1 h2
  rw [hcp]
  refine set_sound hm (envOK_S envN_ok _) map48 (by kernel_rfl) (iter_ok 100) k18.1 k18.2.2 b18 rfl (of_is (d := ⟨[], fun _ => none⟩) (p1_is x)) ((q1_eq x).trans (by rw [hmay]; rfl)) ((r1_eq x).trans (by rw [hmay]; rfl)) o18_0 o18_op (a1 x) (fun b => ?_) (.inl rfl)
  obtain ⟨t', bs', e1, e2, e3⟩ := loop18 (ρ := AV × MX) (x := x) (b := b) (K := blockY 0 (seqY endK (finY Tryd.prog Tryd.f18))) (G := fun d => d ∈ allT (setT x)) (fun d hd => ⟨(allT_one h1 h2 hd).1, next_mem h1 h2 hd⟩) 130 0 [x] [textT x] [b] (fun d hd => by rw [List.mem_singleton.1 hd]; exact hmem) (Nat.zero_le _) (by simp) (by omega) (fun b' hb => List.mem_singleton.1 hb)
  have hs := ahead18 x b
  rw [hcp, e1, blk0, seqY_n, end18] at hs
  refine ⟨_, hs, rfl, e2, ?_⟩
  have : t'.length <= [textT x].length + 40 * 130 := e3
  simp only [List.length_cons, List.length_nil] at this
  show t'.length < 100000
  omega
def e18g : FuncId × TypeId × (List AV -> Bool) × (List AV -> Option D) := (18, 22, yes, ent [24] (f1 fun x => some (.slice (closeT x) [])))
theorem c18e : ∀ args d, e18g.2.2.2 args = some d -> CallOK Tryd.prog 18 args (mkRes Tryd.prog 22 d) :=
 ent1 k18 fun x d h hx => by
  cases h
  rw [n24, m22]
  exact c18g hx
end X
end
section
namespace X
open Go.Ev
set_option linter.unusedVariables false
def e25 (K : Nat) : FuncId × TypeId × (List AV -> Bool) × (List AV -> Option D) := (25, 3, preD (q1 fun x => setK K x != 0), ent [24] (f1 fun x => some (.lit (.int .i64 ((jn K x : Nat) : Int)))))
def J1 (K : Nat) : Tab := e25 K :: []
end X
end
section
namespace X
open Go.Ev
set_option linter.unusedVariables false
/- roadbook/roadbooklaw08.joins -/
def t25_h : Hints := fun _ =>  none
theorem t25 (K : Nat) (N : Nat) (x0 : D) : evFn Tryd.prog (envH (J1 K) []) t25_h N Tryd.f25 [dat 24 x0] =
 bif (((elemsD (fieldD x0 1)).length : Int) != 2) then
  some (dat 3 (.lit (.int .i64 0)))
 else bif (decide (0 <= (0 : Int)) && decide ((0 : Int) < ((elemsD (fieldD x0 1)).length : Int))) then
   bif (((elemsD (fieldD ((elemsD (fieldD x0 1)).getD 0 .nil) 1)).length : Int) == 2) then
    bif (decide (0 <= (0 : Int)) && decide ((0 : Int) < ((elemsD (fieldD x0 1)).length : Int))) then
     bif (setK K ((elemsD (fieldD x0 1)).getD 0 .nil) != 0) then
      bif (decide (0 <= (1 : Int)) && decide ((1 : Int) < ((elemsD (fieldD x0 1)).length : Int))) then
       bif (setK K ((elemsD (fieldD x0 1)).getD 1 .nil) != 0) then
        some (dat 3 (.lit (.int .i64 (IntKind.wrap .i64 ((IntKind.wrap .i64 (2 + ((jn K ((elemsD (fieldD x0 1)).getD 0 .nil) : Nat) : Int))) + ((jn K ((elemsD (fieldD x0 1)).getD 1 .nil) : Nat) : Int))))))
       else none
      else none
     else none
    else none
   else bif (decide (0 <= (0 : Int)) && decide ((0 : Int) < ((elemsD (fieldD x0 1)).length : Int))) then
     bif (setK K ((elemsD (fieldD x0 1)).getD 0 .nil) != 0) then
      bif (decide (0 <= (1 : Int)) && decide ((1 : Int) < ((elemsD (fieldD x0 1)).length : Int))) then
       bif (setK K ((elemsD (fieldD x0 1)).getD 1 .nil) != 0) then
        some (dat 3 (.lit (.int .i64 (IntKind.wrap .i64 ((IntKind.wrap .i64 (1 + ((jn K ((elemsD (fieldD x0 1)).getD 0 .nil) : Nat) : Int))) + ((jn K ((elemsD (fieldD x0 1)).getD 1 .nil) : Nat) : Int))))))
       else none
      else none
     else none
    else none
  else none := by kernel_rfl

end X
end
section
namespace X
open Go.Ev
set_option linter.unusedVariables false
set_option linter.unusedSimpArgs false
set_option maxRecDepth 100000

theorem k25 : FnOK Tryd.prog 25 Tryd.f25 := ⟨Tryd.func25, rfl, by kernel_rfl⟩
theorem k8 : FnOK Tryd.prog 8 Tryd.f8 := ⟨Tryd.func8, rfl, by kernel_rfl⟩
theorem c25 (K : Nat) (hK : K <= 8) (henv : EnvOK Tryd.prog (envH (J1 K) [])) : ∀ args d, (e25 (K + 1)).2.2.1 args = true -> (e25 (K + 1)).2.2.2 args = some d -> CallOK Tryd.prog 25 args (mkRes Tryd.prog 3 d) :=
 ent1p k25 fun x d hq h ⟨_, hx⟩ => by
  cases h
  rw [n24]
  have hq : (setK (K + 1) x != 0) = true := hq
  have hq : setK (K + 1) x ≠ 0 := by simpa using hq
  refine fn_ok hm henv k25 ((t25 K 0 x).trans ?_)
  rw [m3]
  simp only [show ∀ y : D, elemsD (fieldD y 1) = tkids y from fun _ => rfl]
  show _ = some (dat 3 (.lit (.int .i64 ((jn (K + 1) x : Nat) : Int))))
  rcases set_cases K x with h0 | ⟨h1, _, _⟩ | ⟨a, b, hk, _, ha, hb, _, _⟩
  ·exact absurd h0 hq
  ·unfold jn
   rw [h1]
   rfl
  ·have ea : (setK K a != 0) = true := by simpa using ha
   have eb : (setK K b != 0) = true := by simpa using hb
   have la := jn_le K a
   have lb := jn_le K b
   have hp : 2 ^ (K + 1) <= 2 ^ 9 := Nat.pow_le_pow_right (by omega) (by omega)
   have hp : 2 ^ (K + 1) <= 512 := hp
   have w1 : IntKind.wrap .i64 (1 + ((jn K a : Nat) : Int)) = 1 + ((jn K a : Nat) : Int) := wrap_in (by rw [inR_iff]; omega)
   have w2 : IntKind.wrap .i64 (2 + ((jn K a : Nat) : Int)) = 2 + ((jn K a : Nat) : Int) := wrap_in (by rw [inR_iff]; omega)
   have w3 : IntKind.wrap .i64 (1 + ((jn K a : Nat) : Int) + ((jn K b : Nat) : Int)) = ((1 + jn K a + jn K b : Nat) : Int) := by rw [wrap_in (by rw [inR_iff]; omega)]; omega
   have w4 : IntKind.wrap .i64 (2 + ((jn K a : Nat) : Int) + ((jn K b : Nat) : Int)) = ((2 + jn K a + jn K b : Nat) : Int) := by rw [wrap_in (by rw [inR_iff]; omega)]; omega
   have g0 : ([a, b] : List D).getD 0 .nil = a := rfl
   have g1 : ([a, b] : List D).getD 1 .nil = b := rfl
   have hj : jn (K + 1) x = (match tkids a with | [_, _] => 2 | _ => 1) + jn K a + jn K b := by
    show (match tkids x with | [a, b] => (match tkids a with | [_, _] => 2 | _ => 1) + jn K a + jn K b | _ => 0) = _
    rw [hk]
   simp only [hk, g0, g1, ea, eb, cond_true, w1, w2, w3, w4]
   rw [hj]
   have hc : (((tkids a).length : Int) == 2) = (match tkids a with | [_, _] => true | _ => false) := by
    match tkids a with
    | [] => rfl
    | [_] => rfl
    | [_, _] => rfl
    | _ :: _ :: _ :: l =>
     simp
     omega
   rw [hc]
   split
   ·rfl
   ·rfl
theorem envJ : ∀ K : Nat, K <= 8 -> EnvOK Tryd.prog (envH (J1 K) [])
 | 0, _ => envOK_cons' env0 (ent1p k25 fun x d hq h _ => by
   exfalso
   have hq : (setK 0 x != 0) = true := hq
   cases hq)
 | K + 1, h => envOK_cons' env0 (c25 K (by omega) (envJ K (by omega)))
def SJ : Tab := e18g :: e16 :: e26 :: S8
theorem envSJ : EnvOK Tryd.prog (envH SJ []) := envOK_cons (envOK_cons (envOK_cons envS8 c26) c16) c18e
theorem t8 : evFn Tryd.prog (envH SJ []) (fun _ => none) 1 Tryd.f8 [] = some (dat 4 (.lit (.bool true))) := by kernel_rfl
def e8 : FuncId × TypeId × (List AV -> Bool) × (List AV -> Option D) := (8, 4, yes, ent [] (f0 (some (.lit (.bool true)))))
theorem c8 : ∀ args d, e8.2.2.2 args = some d -> CallOK Tryd.prog 8 args (mkRes Tryd.prog 4 d) := by
 intro args d h
 match args, h with
 | [], h =>
  cases h
  exact fn_ok hm envSJ k8 (t8.trans (by rw [m4]; rfl))
 | _ :: _, h => cases h
def SL : Tab := e25 4 :: e9 101 :: e8 :: SJ
theorem envSL : EnvOK Tryd.prog (envH SL []) := envOK_cons' (envOK_cons' (envOK_cons envSJ c8) (c9 100 (envS9 100))) (c25 3 (by omega) (envJ 3 (by omega)))
end X
end
section
namespace X
open Go.Ev
set_option linter.unusedVariables false
set_option linter.unusedSimpArgs false
set_option maxRecDepth 100000

def isFn (n : Nat) (d : D) : Bool := match d with | .held (.func (.func k) a b) => k == n && a.size == 0 && b.size == 0 | _ => false
theorem isFn_eq {n : Nat} {d : D} (h : isFn n d = true) : d = .held (.func (.func n) #[] #[]) := by
 unfold isFn at h
 split at h
 ·rename_i k a b
  simp only [Bool.and_eq_true, beq_iff_eq] at h
  obtain ⟨⟨rfl, ha⟩, hb⟩ := h
  rw [Array.eq_empty_of_size_eq_zero ha, Array.eq_empty_of_size_eq_zero hb]
 ·cases h
theorem n40 (x : D) : normD Tryd.prog 40 x = x := by kernel_rfl
def e28 : FuncId × TypeId × (List AV -> Bool) × (List AV -> Option D) := (28, 27, yes, ent [40, 24] (f2 fun x y => bif isFn 29 x then some (ruleX turnX y) else bif isFn 32 x then some (ruleX moveX y) else none))
theorem c28 : ∀ args d, e28.2.2.2 args = some d -> CallOK Tryd.prog 28 args (mkRes Tryd.prog 27 d) :=
 ent2 k28 fun x y d h ⟨_, hx⟩ hy => by
  rw [n40, n24]
  cases h1 : isFn 29 x with
  | true =>
   rw [h1] at h
   cases h
   rw [isFn_eq h1]
   exact c28a y hy
  | false =>
   rw [h1] at h
   cases h2 : isFn 32 x with
   | true =>
    rw [h2] at h
    cases h
    rw [isFn_eq h2]
    exact c28b y hy
   | false => rw [h2] at h; cases h
def T28 : Tab := e28 :: []
theorem envT28 : EnvOK Tryd.prog (envH T28 []) := envOK_cons env0 c28
def ruleT (t : D -> Option D) (x : D) : D := fieldD (ruleX t x) 0
def ruleIs (t : D -> Option D) (x : D) : Bool := boolD (fieldD (ruleX t x) 1)
theorem t10 (x : D) : evFn Tryd.prog (envH T28 []) (fun _ => none) 1 Tryd.f10 [dat 24 x] = some (tupA [24, 4] (.agg [ruleT turnX x, .lit (.bool (ruleIs turnX x))])) := by kernel_rfl
theorem t12 (x : D) : evFn Tryd.prog (envH T28 []) (fun _ => none) 1 Tryd.f12 [dat 24 x] = some (tupA [24, 4] (.agg [ruleT moveX x, .lit (.bool (ruleIs moveX x))])) := by kernel_rfl
def e10 : FuncId × TypeId × (List AV -> Bool) × (List AV -> Option D) := (10, 27, yes, ent [24] (f1 fun x => some (.agg [ruleT turnX x, .lit (.bool (ruleIs turnX x))])))
theorem c10 : ∀ args d, e10.2.2.2 args = some d -> CallOK Tryd.prog 10 args (mkRes Tryd.prog 27 d) :=
 ent1 k10 fun x d h ⟨_, hx⟩ => by
  cases h
  rw [n24]
  exact fn_ok hm envT28 k10 ((t10 x).trans (by rw [m27]))
def e12 : FuncId × TypeId × (List AV -> Bool) × (List AV -> Option D) := (12, 27, yes, ent [24] (f1 fun x => some (.agg [ruleT moveX x, .lit (.bool (ruleIs moveX x))])))
theorem c12 : ∀ args d, e12.2.2.2 args = some d -> CallOK Tryd.prog 12 args (mkRes Tryd.prog 27 d) :=
 ent1 k12 fun x d h ⟨_, hx⟩ => by
  cases h
  rw [n24]
  exact fn_ok hm envT28 k12 ((t12 x).trans (by rw [m27]))
def SB : Tab := e12 :: e10 :: SL
theorem envSB : EnvOK Tryd.prog (envH SB []) := envOK_cons (envOK_cons envSL c10) c12
end X
end
end Go.Proofs.YtdacippnonhahaaDoor
