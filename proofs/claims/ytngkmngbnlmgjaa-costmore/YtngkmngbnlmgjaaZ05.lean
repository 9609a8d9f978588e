/- Trees of functions, and lemmas. Nothing here is trusted. -/
import Derived.Test.YtngkmngbnlmgjaaZ04
import Derived.Laws.IdiomStrings
import Derived.Laws.BytesArg
namespace Go.Ev
open Go.RowKit
set_option linter.unusedVariables false
set_option linter.unusedSimpArgs false
section
variable {P : Program} {w w' : World} {ok ok' : Nat -> Prop} {β : Nat -> Nat × Nat}
variable {F : Fr P} {st : St} {a : Act} {env : Env} {o : Oper} {av : AV} {Q : Exit -> Act -> World -> Prop}

theorem retA_rep {bx : Nat -> Option Ent} {t : TypeId} {v : AV} {x : Value} (h : RepAV P w ok β bx v x) : RepAV P w ok β bx (retA P t v) x := by
 unfold retA
 split
 ·rename_i hc
  rw [Bool.and_eq_true, beq_iff_eq] at hc
  split
  ·rename_i k k' hu hu'
   split
   ·rename_i hk
    obtain ⟨z, e1, e2, e3⟩ := (h.d1 hc.1).int hu
    rw [e1, e2]
    rw [hk.1] at hu'
    exact repAV_dat (repV_int hu' hk.2 e3)
   ·exact h
  ·exact h
 ·exact h
theorem good_move (R : RelX P F st ok β a w) {x : Operand} (hop : o.op = .move x \/ o.op = .assign x) (h : some (retA P o.type (opd0 P st o x)) = some av) : o.wp P a w (Good P ok β st o av a w) Q := by
 cases h
 refine good_value (v := a.eval x) ?_ (retA_rep (opd_rep R _ x))
 unfold execOp
 rcases hop with hop | hop <;> simp [hop]

theorem good_pick (R : RelX P F st ok β a w) {c x y : Operand} (hop : o.op = .pick c x y) {b : Bool} (hb : boolOf P (opd0 P st o c) = some b)
  (h : (if b then opd0 P st o x else opd0 P st o y) = av) : o.wp P a w (Good P ok β st o av a w) Q := by
 subst h
 obtain ⟨t1, u1, d1⟩ := boolOf_spec hb
 obtain ⟨b', e1, e2⟩ := ((opd_rep R o.type c).d1 t1).bool u1
 have hbb : b' = b := by
  have : DataW.lit (Lit.bool b') = (DataW.lit (Lit.bool b) : D) := by rw [<- e1, <- d1]; rfl
  simpa using this
 subst hbb
 refine good_value (v := if b' then a.eval x else a.eval y) ?_ ?_
 ·unfold execOp
  simp only [hop, e2, asBool]
  cases b' <;> simp
 ·cases b'
  ·exact opd_rep R _ y
  ·exact opd_rep R _ x

theorem run_equalIn_fn (d : Nat) (t : TypeId) (f : FuncId) {x y : Array TypeId} {c : Bool} (hu : P.underlying t = some (.func x y c)) : (Op.equalIn (d + 1) t (.func (.func f) #[] #[]) .nilFunc).run P w = .ok false w := by
 unfold Op.equalIn
 simp [run_underlying hu]
theorem run_equalIn_yield (d : Nat) (t : TypeId) (l : Nat) {x y : Array TypeId} {c : Bool} (hu : P.underlying t = some (.func x y c)) : (Op.equalIn (d + 1) t (.func (.yield l) #[] #[]) .nilFunc).run P w = .ok false w := by
 unfold Op.equalIn
 simp [run_underlying hu]
theorem run_equalIn_nil (d : Nat) (t : TypeId) {x y : Array TypeId} {c : Bool} (hu : P.underlying t = some (.func x y c)) : (Op.equalIn (d + 1) t .nilFunc .nilFunc).run P w = .ok true w := by
 unfold Op.equalIn
 simp [run_underlying hu]

theorem wf_shr {k : IntKind} {x : Int} (h : (Lit.int k x).wf = true) (n : Nat) : (Lit.int k (x.fdiv (2 ^ n))).wf = true := by
 have h0 : k.min <= 0 := by cases k <;> decide
 have h1 : 0 <= k.max := by cases k <;> decide
 simp only [Lit.wf, Bool.and_eq_true, decide_eq_true_eq] at h ⊢
 obtain ⟨a, b⟩ := h
 have hp : (1 : Int) <= 2 ^ n := by
  have : (0 : Int) < 2 ^ n := Int.pow_pos (by omega)
  omega
 rw [Int.fdiv_eq_ediv_of_nonneg _ (by omega)]
 by_cases hx : 0 <= x
 ·have h3 : 0 <= x / 2 ^ n := Int.ediv_nonneg hx (by omega)
  have h4 : x / 2 ^ n <= x := Int.ediv_le_self _ hx
  omega
 ·have h3 : x / 2 ^ n < 0 := Int.ediv_neg_of_neg_of_pos (by omega) (by omega)
  have h4 : x <= x / 2 ^ n := by
   rw [Int.le_ediv_iff_mul_le (by omega)]
   have := Int.mul_le_mul_of_nonpos_left (a := x) (by omega : x <= 0) hp
   omega
  omega

theorem isStrA_spec {x : AV} (h : isStrA P x = true) : x.tag = 1 /\ P.underlying x.ty = some .string := by
 unfold isStrA at h
 rw [Bool.and_eq_true, beq_iff_eq] at h
 refine ⟨h.1, ?_⟩
 have h2 := h.2
 split at h2
 ·assumption
 ·cases h2
theorem strA_spec {t : TypeId} {s : List UInt8} {y : AV} (h : strA P t s = some y) (hl : s.length <= maxLen) (bx : Nat -> Option Ent) : RepAV P w ok β bx y (.string ⟨s.toArray⟩) := by
 unfold strA at h
 split at h
 ·rename_i hu
  split at h
  ·rename_i h1
   cases h
   refine repAV_dat ⟨⟨1, by simp [Value.cells, h1], by simp [Value.cells, Value.oneCell'], ?_⟩, by simp [isAggB, hu], fun _ => rfl⟩
   rw [hu]
   exact ⟨by simp [Value.cells], hl⟩
  ·cases h
 ·cases h
theorem RepV.strLen {t : TypeId} {v : Value} {d : D} {s : List UInt8} (h : RepV P w ok t v d) (hu : P.underlying t = some .string) (hd : d = .lit (.string s)) : s.length <= maxLen := by
 obtain ⟨⟨n, hn⟩, _, h2⟩ := h
 obtain ⟨z, h1, hc, hl⟩ := hn.string hu
 rw [hd] at h1
 cases h1
 exact hl
theorem ba_loop (s : ByteArray) : ∀ (k i : Nat) (r : List UInt8), s.size - i = k -> ByteArray.toList.loop s i r = r.reverse ++ s.data.toList.drop i := by
 intro k
 induction k with
 | zero =>
  intro i r h
  unfold ByteArray.toList.loop
  have : ¬ i < s.size := by omega
  rw [if_neg this, List.drop_of_length_le (by simp only [Array.length_toList]; show s.size <= i; omega)]
  simp
 | succ k ih =>
  intro i r h
  unfold ByteArray.toList.loop
  have hi : i < s.size := by omega
  rw [if_pos hi, ih (i + 1) _ (by omega)]
  have hi' : i < s.data.toList.length := by simp only [Array.length_toList]; exact hi
  rw [List.drop_eq_getElem_cons hi']
  have : s.get! i = s.data.toList[i] := by
   have : s.get! i = s.data[i]! := rfl
   rw [this, getElem!_pos s.data i hi]
   simp
  simp [this]
theorem toList_ba (m : List UInt8) : (⟨m.toArray⟩ : ByteArray).toList = m := by
 unfold ByteArray.toList
 rw [ba_loop _ _ 0 [] rfl]
 simp
theorem ba_append (m n : List UInt8) : (⟨m.toArray⟩ : ByteArray) ++ (⟨n.toArray⟩ : ByteArray) = ⟨(m ++ n).toArray⟩ := by
 apply ByteArray.ext
 rw [ByteArray.data_append]
 simp
theorem ba_extract (m : List UInt8) (l h : Nat) : (⟨m.toArray⟩ : ByteArray).extract l h = ⟨((m.drop l).take (h - l)).toArray⟩ := by
 apply ByteArray.ext
 rw [ByteArray.data_extract]
 simp [List.extract_eq_take_drop]
theorem ba_get (m : List UInt8) (i : Nat) (h : i < m.length) : (⟨m.toArray⟩ : ByteArray)[i]? = some (m.getD i 0) := by
 have hs : i < (⟨m.toArray⟩ : ByteArray).size := h
 rw [getElem?_pos (⟨m.toArray⟩ : ByteArray) i hs]
 congr 1
 have : (⟨m.toArray⟩ : ByteArray)[i]'hs = m.toArray[i]'(by simpa using h) := rfl
 rw [this]
 simp [List.getD, h]

theorem good_bin (R : RelX P F st ok β a w) {op : BinOp} {t yt : TypeId} {x y : Operand} (hop : o.op = .binOp op t x y yt) (hc : chkOp P env st o = true)
  (h : evBin P o op t (opd P st t x) (opd P st yt y) = some av) : o.wp P a w (Good P ok β st o av a w) Q := by
 have rx := opd_rep R t x
 have ry := opd_rep R yt y
 unfold evBin at h
 split at h
 ·rename_i k k' hk hk'
  split at h
  ·rename_i hkk
   subst hkk
   obtain ⟨t1, u1⟩ := kindOf_spec hk
   obtain ⟨t2, u2⟩ := kindOf_spec hk'
   obtain ⟨m, d1, v1, w1⟩ := (rx.d1 t1).int u1
   obtain ⟨n, d2, v2, w2⟩ := (ry.d1 t2).int u2
   rw [d1, d2] at h
   simp only [intD] at h
   have hz : (op = .quo \/ op = .rem) -> ¬ n = 0 := by
    intro hq
    rcases hq with rfl | rfl <;> · simp only [chkOp, hop, d2, intD] at hc; simpa using hc
   cases op <;> simp only [binInt] at h <;> try (cases h; done)
   case add => exact good_value (run_bin hop v1 v2 (run_eqGuard_int ..) (by simp [binOp, Op.intArith])) (intA_spec h (wf_wrap _ _) _)
   case sub => exact good_value (run_bin hop v1 v2 (run_eqGuard_int ..) (by simp [binOp, Op.intArith])) (intA_spec h (wf_wrap _ _) _)
   case mul => exact good_value (run_bin hop v1 v2 (run_eqGuard_int ..) (by simp [binOp, Op.intArith])) (intA_spec h (wf_wrap _ _) _)
   case quo => exact good_value (run_bin hop v1 v2 (run_eqGuard_int ..) (by simp [binOp, Op.intDiv, hz])) (intA_spec h (wf_wrap _ _) _)
   case rem => exact good_value (run_bin hop v1 v2 (run_eqGuard_int ..) (by simp [binOp, Op.intDiv, hz])) (intA_spec h (wf_tmod w1) _)
   case shr =>
    have hn : ¬ n < 0 := by simp only [chkOp, hop, d2, intD] at hc; simpa using hc
    exact good_value (run_bin hop v1 v2 (run_eqGuard_int ..) (by simp [binOp, Op.shift, hn])) (intA_spec h (wf_shr w1 _) _)
   case shl =>
    have hn : ¬ n < 0 := by simp only [chkOp, hop, d2, intD] at hc; simpa using hc
    exact good_value (run_bin hop v1 v2 (run_eqGuard_int ..) (by simp [binOp, Op.shift, hn, shlI])) (intA_spec h (wf_wrap _ _) _)
   case and => exact good_value (run_bin hop v1 v2 (run_eqGuard_int ..) (by simp [binOp, Op.intBits, andI])) (intA_spec h (wf_wrap _ _) _)
   case or => exact good_value (run_bin hop v1 v2 (run_eqGuard_int ..) (by simp [binOp, Op.intBits, orI])) (intA_spec h (wf_wrap _ _) _)
   case xor => exact good_value (run_bin hop v1 v2 (run_eqGuard_int ..) (by simp [binOp, Op.intBits, xorI])) (intA_spec h (wf_wrap _ _) _)
   case andNot => exact good_value (run_bin hop v1 v2 (run_eqGuard_int ..) (by simp [binOp, Op.intBits, andNotI])) (intA_spec h (wf_wrap _ _) _)
   case eql => exact good_value (run_bin hop v1 v2 (run_eqGuard_int ..) (by simp [binOp, Op.intCmp])) (boolA_spec h _)
   case neq => exact good_value (run_bin hop v1 v2 (run_eqGuard_int ..) (by simp [binOp, Op.intCmp])) (boolA_spec h _)
   case lss => exact good_value (run_bin hop v1 v2 (run_eqGuard_int ..) (by simp [binOp, Op.intCmp])) (boolA_spec h _)
   case leq => exact good_value (run_bin hop v1 v2 (run_eqGuard_int ..) (by simp [binOp, Op.intCmp])) (boolA_spec h _)
   case gtr => exact good_value (run_bin hop v1 v2 (run_eqGuard_int ..) (by simp [binOp, Op.intCmp])) (boolA_spec h _)
   case geq => exact good_value (run_bin hop v1 v2 (run_eqGuard_int ..) (by simp [binOp, Op.intCmp])) (boolA_spec h _)
  ·split at h
   ·rename_i hsh
    obtain ⟨t1, u1⟩ := kindOf_spec hk
    obtain ⟨t2, u2⟩ := kindOf_spec hk'
    obtain ⟨m, d1, v1, w1⟩ := (rx.d1 t1).int u1
    obtain ⟨n, d2, v2, w2⟩ := (ry.d1 t2).int u2
    rw [d1, d2] at h
    simp only [intD] at h
    cases op <;> simp only [isShift] at hsh <;> try (cases hsh; done)
    case shl =>
     simp only [binInt] at h
     have hn : ¬ n < 0 := by simp only [chkOp, hop, d2, intD] at hc; simpa using hc
     exact good_value (run_bin hop v1 v2 (by simp [eqGuard]) (by simp [binOp, Op.shift, hn, shlI])) (intA_spec h (wf_wrap _ _) _)
    case shr =>
     simp only [binInt] at h
     have hn : ¬ n < 0 := by simp only [chkOp, hop, d2, intD] at hc; simpa using hc
     exact good_value (run_bin hop v1 v2 (by simp [eqGuard]) (by simp [binOp, Op.shift, hn])) (intA_spec h (wf_shr w1 _) _)
   ·cases h
 ·split at h
  ·rename_i hb
   rw [Bool.and_eq_true] at hb
   obtain ⟨t1, u1⟩ := isBoolA_spec hb.1
   obtain ⟨t2, u2⟩ := isBoolA_spec hb.2
   obtain ⟨m, d1, v1⟩ := (rx.d1 t1).bool u1
   obtain ⟨n, d2, v2⟩ := (ry.d1 t2).bool u2
   rw [d1, d2] at h
   simp only [boolD] at h
   have heq : P.underlying t = some .bool -> (Op.equal t (.bool m) (.bool n)).run P w = .ok (m == n) w := fun hu => by
    simp only [Op.equal, Op.maxDepth]; exact run_equalIn_bool' w 9999 t m n hu
   split at h
   ·rename_i hu
    exact good_value (run_bin hop v1 v2 (run_eqGuard_bool ..) (by simp [binOp, heq hu])) (boolA_spec h _)
   ·rename_i hu
    exact good_value (run_bin hop v1 v2 (run_eqGuard_bool ..) (by simp [binOp, heq hu])) (boolA_spec h _)
   ·cases h
  ·split at h
   ·rename_i hs
    simp only [Bool.and_eq_true, beq_iff_eq, Bool.not_eq_true'] at hs
    obtain ⟨⟨⟨⟨⟨⟨t1, t2⟩, e1⟩, e2⟩, hagg⟩, hq⟩, hgt⟩ := hs
    have r1 := rx.d1 t1
    have r2 := ry.d1 t2
    rw [e1] at r1
    rw [e2] at r2
    obtain ⟨xs, v1⟩ := r1.2.1 hagg
    obtain ⟨ys, v2⟩ := r2.2.1 hagg
    have he := run_equalIn (P := P) (w := w) (ok := ok) deep 10000 t _ _ _ _ (by decide) hq r1 r2
    rw [v1, v2] at he
    split at h
    ·refine good_value (run_bin hop v1 v2 (run_eqGuard_agg w _ _ _ _ _ _ hgt) ?_) (boolA_spec h _)
     rw [run_eql_struct, he]; rfl
    ·refine good_value (run_bin hop v1 v2 (run_eqGuard_agg w _ _ _ _ _ _ hgt) ?_) (boolA_spec h _)
     rw [run_neq_struct, he]; rfl
    ·cases h
   ·split at h
    ·rename_i hs
     simp only [Bool.and_eq_true, beq_iff_eq] at hs
     obtain ⟨⟨⟨⟨⟨t1, t2⟩, e1⟩, e2⟩, hfu⟩, hni⟩ := hs
     unfold isFuncT at hfu
     split at hfu
     rotate_left
     ·cases hfu
     rename_i hu
     have r1 := rx.d1 t1
     have r2 := ry.d1 t2
     rw [e1] at r1
     rw [e2] at r2
     have v2 : a.eval y = .nilFunc := by
      rcases r2.func hu with ⟨g3, g4 | ⟨f, g4⟩ | ⟨f, g4⟩⟩ | ⟨f, r, t0, x, g3, _⟩
      ·exact g4
      ·rw [g3, g4] at hni; simp [isNilF] at hni
      ·rw [g3, g4] at hni; simp [isNilF] at hni
      ·rw [g3] at hni; simp [isNilF, bndD] at hni
     have hnb : ∀ (f : FuncId) (r : Value), (Op.equal t (.func (.func f) #[r] #[]) .nilFunc).run P w = .ok false w := fun f r => by
      simp only [Op.equal, Op.maxDepth]; unfold Op.equalIn; simp [run_underlying hu]
     have hne : ∀ f : FuncId, (Op.equal t (.func (.func f) #[] #[]) .nilFunc).run P w = .ok false w := fun f => by
      simp only [Op.equal, Op.maxDepth]; exact run_equalIn_fn 9999 t f hu
     have hny : ∀ l : Nat, (Op.equal t (.func (.yield l) #[] #[]) .nilFunc).run P w = .ok false w := fun l => by
      simp only [Op.equal, Op.maxDepth]; exact run_equalIn_yield 9999 t l hu
     have hnn : (Op.equal t .nilFunc .nilFunc).run P w = .ok true w := by
      simp only [Op.equal, Op.maxDepth]; exact run_equalIn_nil 9999 t hu
     rcases r1.func hu with ⟨g1, v1 | ⟨f, v1⟩ | ⟨f, v1⟩⟩ | ⟨f, r, t0, x, g1, v1, _⟩
     ·rw [v1] at g1
      rw [g1] at h
      split at h
      ·exact good_value (run_bin hop v1 v2 (by simp [eqGuard]) (by simp [binOp, hnn, isNilF])) (boolA_spec h _)
      ·exact good_value (run_bin hop v1 v2 (by simp [eqGuard]) (by simp [binOp, hnn, isNilF])) (boolA_spec h _)
      ·cases h
     ·rw [v1] at g1
      rw [g1] at h
      split at h
      ·exact good_value (run_bin hop v1 v2 (by simp [eqGuard]) (by simp [binOp, hne, isNilF])) (boolA_spec h _)
      ·exact good_value (run_bin hop v1 v2 (by simp [eqGuard]) (by simp [binOp, hne, isNilF])) (boolA_spec h _)
      ·cases h
     ·rw [v1] at g1
      rw [g1] at h
      split at h
      ·exact good_value (run_bin hop v1 v2 (by simp [eqGuard]) (by simp [binOp, hny, isNilF])) (boolA_spec h _)
      ·exact good_value (run_bin hop v1 v2 (by simp [eqGuard]) (by simp [binOp, hny, isNilF])) (boolA_spec h _)
      ·cases h
     ·rw [g1] at h
      split at h
      ·exact good_value (run_bin hop v1 v2 (by simp [eqGuard]) (by simp [binOp, hnb, isNilF, bndD])) (boolA_spec h _)
      ·exact good_value (run_bin hop v1 v2 (by simp [eqGuard]) (by simp [binOp, hnb, isNilF, bndD])) (boolA_spec h _)
      ·cases h
    ·split at h
     ·rename_i hs
      rw [Bool.and_eq_true, Bool.and_eq_true, beq_iff_eq] at hs
      obtain ⟨t1, u1⟩ := isStrA_spec hs.1.1
      obtain ⟨t2, u2⟩ := isStrA_spec hs.1.2
      have ut : P.underlying t = some .string := by rw [<- hs.2]; exact u1
      obtain ⟨m, d1, v1⟩ := (rx.d1 t1).string u1
      obtain ⟨n, d2, v2⟩ := (ry.d1 t2).string u2
      have l1 := (rx.d1 t1).strLen u1 d1
      have l2 := (ry.d1 t2).strLen u2 d2
      rw [d1, d2] at h
      simp only [strD] at h
      have hg : ∀ op, (eqGuard op t x y (.string ⟨m.toArray⟩) (.string ⟨n.toArray⟩)).run P w = .ok () w := fun op => by
       unfold eqGuard; cases op <;> simp
      have e1 : (⟨m.toArray⟩ : ByteArray).toList = m := toList_ba m
      have e2 : (⟨n.toArray⟩ : ByteArray).toList = n := toList_ba n
      cases op <;> simp only [binStr] at h <;> try (cases h; done)
      case add =>
       have hlen : m.length + n.length <= 4294967296 := by
        simp only [chkOp, hop, d1, d2, addLen, ut, lenD, decide_eq_true_eq] at hc
        exact hc
       have hsm : m.length + n.length <= maxLen := by unfold maxLen; omega
       have hsz : ¬ ((((⟨m.toArray⟩ : ByteArray).size + (⟨n.toArray⟩ : ByteArray).size : Nat) : Int) > IntKind.i64.max) := by
        have h3 : (⟨m.toArray⟩ : ByteArray).size = m.length := by simp [ByteArray.size]
        have h4 : (⟨n.toArray⟩ : ByteArray).size = n.length := by simp [ByteArray.size]
        rw [h3, h4]
        have : IntKind.i64.max = 9223372036854775807 := by decide
        rw [this]
        unfold maxLen at hsm
        omega
       refine good_value (v := .string ⟨(m ++ n).toArray⟩) (run_bin hop v1 v2 (hg _) ?_) (strA_spec h (by simpa using hsm) _)
       simp only [binOp, Op.stringOp]
       rw [if_neg hsz]
       rw [Sem.run_pure, ba_append m n]
      case eql => exact good_value (run_bin hop v1 v2 (hg _) (by simp only [binOp, Op.stringOp, e1, e2, Sem.run_pure])) (boolA_spec h _)
      case neq => exact good_value (run_bin hop v1 v2 (hg _) (by simp only [binOp, Op.stringOp, e1, e2, Sem.run_pure])) (boolA_spec h _)
     ·cases h

theorem good_not (R : RelX P F st ok β a w) {t : TypeId} {x : Operand} (hop : o.op = .unOp .not t x)
  (h : (if isBoolA P (opd0 P st o x) then boolA P (opd0 P st o x).ty (!boolD (opd0 P st o x).d) else none) = some av) : o.wp P a w (Good P ok β st o av a w) Q := by
 split at h
 ·rename_i hb
  obtain ⟨t1, u1⟩ := isBoolA_spec hb
  obtain ⟨m, d1, v1⟩ := ((opd_rep R o.type x).d1 t1).bool u1
  rw [show (opd0 P st o x).d = .lit (.bool m) from d1] at h
  refine good_value (v := .bool (!m)) ?_ (boolA_spec h _)
  unfold execOp
  simp [hop, v1, Op.unary]
 ·cases h

theorem good_neg (R : RelX P F st ok β a w) {t : TypeId} {x : Operand} (hop : o.op = .unOp .neg t x)
  (h : (match kindOf P (opd0 P st o x) with | some k => intA P (opd0 P st o x).ty k (k.wrap (0 - intD (opd0 P st o x).d)) | none => none) = some av) : o.wp P a w (Good P ok β st o av a w) Q := by
 split at h
 ·rename_i k hk
  obtain ⟨t1, u1⟩ := kindOf_spec hk
  obtain ⟨m, d1, v1, _⟩ := ((opd_rep R o.type x).d1 t1).int u1
  rw [show (opd0 P st o x).d = .lit (.int k m) from d1] at h
  refine good_value (v := .int k (k.wrap (0 - m))) ?_ (intA_spec h (wf_wrap _ _) _)
  unfold execOp
  simp [hop, v1, Op.unary, Op.intArith]
 ·cases h

theorem good_field (R : RelX P F st ok β a w) {t : TypeId} {x : Operand} {k : Nat} (hop : o.op = .field t x k) {f : Field} (hf : fieldOf P t k = some f)
  (h : (if (opd P st t x).tag == 1 && (opd P st t x).ty == t then some (dat f.type (normD P f.type (fieldD (opd P st t x).d k))) else none) = some av) : o.wp P a w (Good P ok β st o av a w) Q := by
 split at h
 ·rename_i hc
  rw [Bool.and_eq_true, beq_iff_eq, beq_iff_eq] at hc
  cases h
  have r := (opd_rep R t x).d1 hc.1
  rw [hc.2] at r
  obtain ⟨fs, hu, hl, hk⟩ := fieldOf_spec hf
  obtain ⟨xs, hv⟩ := r.2.1 (by simp [isAggB, hu])
  obtain ⟨⟨n, hr⟩, _⟩ := r
  rw [hv] at hr
  obtain ⟨m, hm⟩ := hr.field hf
  obtain ⟨v, hp, hrv⟩ := run_part hm
  have hp' : (part f.type xs f.offset).run P w = .ok v w := hp
  refine good_value (v := v) ?_ (repAV_dat hrv.norm)
  unfold execOp
  simp [hop, Instr.field, run_underlying hu, hk, hv, asAgg, hp']
 ·cases h

theorem good_extract (R : RelX P F st ok β a w) {x : Operand} {k : Nat} (hop : o.op = .extract x k) {t : TypeId} (ht : (opd0 P st o x).tys[k]? = some t)
  (h : (if (opd0 P st o x).tag == 6 then some (dat t (normD P t (fieldD (opd0 P st o x).d k))) else none) = some av) : o.wp P a w (Good P ok β st o av a w) Q := by
 split at h
 ·rename_i hc
  rw [beq_iff_eq] at hc
  cases h
  obtain ⟨vs, hv, hsz, hall⟩ := (opd_rep R o.type x).d6 hc
  have hr := hall k t ht
  have hlt : k < vs.size := by
   rw [hsz]
   exact (List.getElem?_eq_some_iff.1 ht).1
  refine good_value (v := vs.getD k undef) ?_ (repAV_dat hr.norm)
  unfold execOp
  simp [hop, hv, Instr.extract, hlt]
 ·cases h

theorem good_len (R : RelX P F st ok β a w) {x : Operand} {t e : TypeId} {c : Call} (hop : o.op = .call c) (hcb : c.callee = .builtin .len) (hca : c.args.toList = [x]) (hct : c.argTypes.toList = [t]) (hu : P.underlying t = some (.slice e))
  (h : (if (opd P st t x).tag == 1 && (opd P st t x).ty == t then intA P (intTy P o P.rt.int) .i64 ((elemsD (opd P st t x).d).length : Int) else none) = some av) : o.wp P a w (Good P ok β st o av a w) Q := by
 split at h
 ·rename_i hc
  rw [Bool.and_eq_true, beq_iff_eq, beq_iff_eq] at hc
  have r := (opd_rep R t x).d1 hc.1
  rw [hc.2] at r
  obtain ⟨m, es, b, cap, hd, hv, h1, h2, _⟩ := r.slice hu
  rw [hd] at h
  refine good_value (v := .int .i64 es.length) ?_ (intA_spec h ?_ _)
  ·unfold execOp
   have e1 : c.args = #[x] := by apply Array.ext'; rw [hca]
   have e2 : c.argTypes = #[t] := by apply Array.ext'; rw [hct]
   simp [hop, hcb, e1, e2, resolve, invoke, builtin, Builtin.len_, run_underlying hu, hv, goInt]
  ·have : (es.length : Int) <= 9223372036854775807 := by unfold maxLen at h2; omega
   simp [Lit.wf, IntKind.min, IntKind.max, IntKind.signed, IntKind.bits, elemsD]
   omega
 ·cases h

theorem good_max (R : RelX P F st ok β a w) {x y : Operand} {t t' : TypeId} {c : Call} (hop : o.op = .call c) (hcb : c.callee = .builtin .max) (hca : c.args.toList = [x, y]) (hct : c.argTypes.toList = [t, t']) {k k' : IntKind}
  (hk : kindOf P (opd P st t x) = some k) (hk' : kindOf P (opd P st t' y) = some k')
  (h : (if k' = k then intA P (intTy P o t) k (maxI (intD (opd P st t x).d) (intD (opd P st t' y).d)) else none) = some av) : o.wp P a w (Good P ok β st o av a w) Q := by
 split at h
 ·rename_i hkk
  subst hkk
  have rx := opd_rep R t x
  have ry := opd_rep R t' y
  obtain ⟨t1, u1⟩ := kindOf_spec hk
  obtain ⟨t2, u2⟩ := kindOf_spec hk'
  obtain ⟨m, d1, v1, w1⟩ := (rx.d1 t1).int u1
  obtain ⟨n, d2, v2, w2⟩ := (ry.d1 t2).int u2
  rw [d1, d2] at h
  simp only [intD] at h
  refine good_value (v := .int k' (maxI m n)) ?_ (intA_spec h ?_ _)
  ·unfold execOp
   have e1 : c.args = #[x, y] := by apply Array.ext'; rw [hca]
   have e2 : c.argTypes = #[t, t'] := by apply Array.ext'; rw [hct]
   simp [hop, hcb, e1, e2, resolve, invoke, builtin, Builtin.max_, Builtin.max2, v1, v2, maxI]
  ·unfold maxI
   split
   ·exact w2
   ·exact w1
 ·cases h

theorem good_min (R : RelX P F st ok β a w) {x y : Operand} {t t' : TypeId} {c : Call} (hop : o.op = .call c) (hcb : c.callee = .builtin .min) (hca : c.args.toList = [x, y]) (hct : c.argTypes.toList = [t, t']) {k k' : IntKind}
  (hk : kindOf P (opd P st t x) = some k) (hk' : kindOf P (opd P st t' y) = some k')
  (h : (if k' = k then intA P (intTy P o t) k (minI (intD (opd P st t x).d) (intD (opd P st t' y).d)) else none) = some av) : o.wp P a w (Good P ok β st o av a w) Q := by
 split at h
 ·rename_i hkk
  subst hkk
  have rx := opd_rep R t x
  have ry := opd_rep R t' y
  obtain ⟨t1, u1⟩ := kindOf_spec hk
  obtain ⟨t2, u2⟩ := kindOf_spec hk'
  obtain ⟨m, d1, v1, w1⟩ := (rx.d1 t1).int u1
  obtain ⟨n, d2, v2, w2⟩ := (ry.d1 t2).int u2
  rw [d1, d2] at h
  simp only [intD] at h
  refine good_value (v := .int k' (minI m n)) ?_ (intA_spec h ?_ _)
  ·unfold execOp
   have e1 : c.args = #[x, y] := by apply Array.ext'; rw [hca]
   have e2 : c.argTypes = #[t, t'] := by apply Array.ext'; rw [hct]
   simp [hop, hcb, e1, e2, resolve, invoke, builtin, Builtin.min_, Builtin.min2, v1, v2, minI]
  ·unfold minI
   split
   ·exact w2
   ·exact w1
 ·cases h

theorem good_fieldAddr (R : RelX P F st ok β a w) {t : TypeId} {x : Operand} {k : Nat} (hop : o.op = .fieldAddr t x k) {f : Field} (hf : fieldOf P t k = some f)
  {st' : St} (h : (if (opd0 P st o x).tag == 2 && (opd0 P st o x).ix == 0 && (opd0 P st o x).tys.isEmpty && (opd0 P st o x).ty == t && isBoxB st (opd0 P st o x).id then some (st.put o.dst (fdp (opd0 P st o x).id k f.offset f.type))
   else if (opd0 P st o x).tag == 3 && (opd0 P st o x).ty == t then some (st.put o.dst (refp f.type (fieldD (opd0 P st o x).d k)))
   else if (opd0 P st o x).tag == 2 && (opd0 P st o x).ix == 0 && (opd0 P st o x).ty == t && !(opd0 P st o x).tys.isEmpty && isRowB st (opd0 P st o x).id then some (st.put o.dst (elf (opd0 P st o x).id (intD (opd0 P st o x).d) k f.offset f.type))
   else none) = some st') : ∃ av, st' = st.put o.dst av /\ o.wp P a w (Good P ok β st o av a w) Q /\ LiveB st.bx av := by
 have r := opd_rep R o.type x
 obtain ⟨fs, hu, hl, hk⟩ := fieldOf_spec hf
 have hpos := (layOK_spec hl hk hk).2.1
 have hinfo : ∃ i, P.info? f.type = some i := by
  unfold Program.cellsOf at hpos
  cases hi : P.info? f.type with
  | none => rw [hi] at hpos; simp at hpos
  | some i => exact ⟨i, rfl⟩
 obtain ⟨i, hi⟩ := hinfo
 have hne : ¬ P.cellsOf f.type = 0 := by omega
 have hplace : ∀ y : Addr, (fieldPlace y f).run P w = .ok (y.add f.offset) w := fun y => by
  simp [fieldPlace, run_sizeOf w hi, hne]
 split at h
 ·rename_i hc
  simp only [Bool.and_eq_true, beq_iff_eq, List.isEmpty_iff] at hc
  obtain ⟨⟨⟨hc, hte⟩, htyx⟩, hlive⟩ := hc
  cases h
  obtain ⟨e, he, he0⟩ : ∃ e, st.bx (opd0 P st o x).id = some e /\ e.row = 0 := by
   unfold isBoxB at hlive
   split at hlive
   ·rename_i e he; exact ⟨e, he, by simpa using hlive⟩
   ·cases hlive
  refine ⟨_, rfl, ?_, fun j hj => by
   rw [refs_2 rfl] at hj
   obtain rfl : j = (opd0 P st o x).id := by simpa [fdp] using hj
   rw [he]; rfl⟩
  obtain ⟨hv, h0, _⟩ := r.d2 hc.1 e he he0
  obtain ⟨hoff, hty⟩ := h0 hte hc.2
  have hv' : a.eval x = .pointer (some ⟨(β (opd0 P st o x).id).1, 0, none⟩) := by rw [hv]; rw [show (opd P st o.type x).off = 0 from hoff]; rfl
  refine good_value (v := .pointer (some ⟨(β (opd0 P st o x).id).1, f.offset, none⟩)) ?_ ⟨by simp [fdp], fun _ e' he' _ => ?_, fun _ e' he' h0' => ?_, by simp [fdp], by simp [fdp], by simp [fdp], by simp [fdp], by simp [fdp], by simp [fdp], by simp [fdp], by simp [fdp]⟩
  ·unfold execOp
   have : (⟨(β (opd0 P st o x).id).1, 0, none⟩ : Addr).add f.offset = ⟨(β (opd0 P st o x).id).1, f.offset, none⟩ := by unfold Addr.add; split <;> simp_all
   simp [hop, Instr.fieldAt, run_underlying hu, hk, hv', Instr.sureAddr, hplace, this]
  ·simp only [fdp] at he' ⊢
   rw [he] at he'
   cases he'
   refine ⟨by trivial, by simp, fun j hj => ?_, by simp⟩
   have : j = k := by omega
   subst this
   exact ⟨f, by rw [show e.ty = (opd P st o.type x).ty from hty, show (opd P st o.type x).ty = t from htyx]; exact hf, rfl, rfl⟩
  ·have he2 : st.bx (opd0 P st o x).id = some e' := he'
   rw [he] at he2
   cases he2
   exact absurd he0 h0'
 ·split at h
  ·rename_i hc
   rw [Bool.and_eq_true, beq_iff_eq, beq_iff_eq] at hc
   cases h
   refine ⟨_, rfl, ?_, live_of_refs rfl⟩
   obtain ⟨y, cs, n, hv, hoy, hrow, hrep⟩ := r.ref hc.1 (fun k hk2 => by
    rw [show (opd P st o.type x).ty = t from hc.2] at hk2
    rw [hk2] at hu
    cases hu)
   rw [show (opd P st o.type x).ty = t from hc.2] at hrep
   obtain ⟨m, hm⟩ := hrep.field hf
   have hfit := (layOK_spec hl hk hk).1
   refine good_value (v := .pointer (some (y.add f.offset))) ?_ (repAV_refp (cs := (cs.drop f.offset).take (P.cellsOf f.type)) (by rw [Addr.add_block]; exact hoy) ?_ hm)
   ·unfold execOp
    simp [hop, Instr.fieldAt, run_underlying hu, hk, hv, Instr.sureAddr, hplace]
   ·intro j v hj
    rw [List.getElem?_take] at hj
    split at hj
    ·rw [List.getElem?_drop] at hj
     have := hrow _ _ hj
     have e : (y.add f.offset).add j = y.add (f.offset + j) := by
      unfold Addr.add
      by_cases h1 : f.offset = 0 <;> by_cases h2 : j = 0 <;> simp [h1, h2, Nat.add_assoc]
     rw [e]
     exact this
    ·cases hj
  ·split at h
   ·rename_i hc
    simp only [Bool.and_eq_true, beq_iff_eq, Bool.not_eq_true', List.isEmpty_eq_false_iff] at hc
    obtain ⟨⟨⟨⟨h2, h0⟩, hty⟩, htys⟩, hrb⟩ := hc
    cases h
    obtain ⟨e, he, he0⟩ : ∃ e, st.bx (opd0 P st o x).id = some e /\ e.row ≠ 0 := by
     unfold isRowB at hrb
     split at hrb
     ·rename_i e he; exact ⟨e, he, by simpa using hrb⟩
     ·cases hrb
    refine ⟨_, rfl, ?_, fun j hj => by
     rw [refs_2 rfl] at hj
     obtain rfl : j = (opd0 P st o x).id := by simpa [elf] using hj
     rw [he]; rfl⟩
    obtain ⟨el, q, r1, r2, r3, r4, r5, _⟩ := (r.d5 h2 e he he0).2.1 htys
    obtain ⟨hoff, hel⟩ := r5 h0
    have hel' : el = t := by rw [<- hel]; exact hty
    subst hel'
    have hoff' : (opd P st o.type x).off = 0 := hoff
    rw [hoff', Nat.add_zero] at r4
    refine good_value (v := .pointer (some ⟨(β (opd0 P st o x).id).1, q * P.cellsOf el + f.offset, none⟩)) ?_ ⟨by simp [elf], fun _ e' he' h0' => ?_, fun _ e' he' h0' => ?_, by simp [elf], by simp [elf], by simp [elf], by simp [elf], by simp [elf], by simp [elf], by simp [elf], by simp [elf]⟩
    ·unfold execOp
     have hadd : (⟨(β (opd P st o.type x).id).1, q * P.cellsOf el, none⟩ : Addr).add f.offset = ⟨(β (opd P st o.type x).id).1, q * P.cellsOf el + f.offset, none⟩ := by unfold Addr.add; split <;> simp_all
     simp [hop, Instr.fieldAt, run_underlying hu, hk, r4, Instr.sureAddr, hplace, hadd]
     rfl
    ·simp only [elf] at he'
     rw [he] at he'
     cases he'
     exact absurd h0' he0
    ·simp only [elf] at he'
     rw [he] at he'
     cases he'
     refine ⟨by simp [elf], fun _ => ⟨el, q, r1, r2, by simp only [elf, intD]; exact r3, rfl, by simp [elf], fun j hj => ?_⟩, by simp [elf]⟩
     have : j = k := by simp only [elf] at hj; omega
     subst this
     exact ⟨f, hf, rfl, rfl⟩
   ·cases h

theorem add_add (y : Addr) (m n : Nat) : (y.add m).add n = y.add (m + n) := by
 unfold Addr.add
 by_cases h1 : m = 0 <;> by_cases h2 : n = 0 <;> simp [h1, h2, Nat.add_assoc]

theorem rowX_none {x : Operand} {t t' : TypeId} (h : (opd P st t' x).tag = 1) : rowX st x t = none := by
 unfold rowX
 split
 ·rename_i s
  have h' : (st.get s).tag = 1 := h
  unfold rowOf
  rw [h']
  rfl
 ·rfl

theorem rowX_tag {x : Operand} {t t' : TypeId} (h : (opd P st t' x).tag ≠ 2) : rowX st x t = none := by
 unfold rowX
 split
 ·rename_i s
  have h1 : (st.get s).tag ≠ 2 := h
  have h' : ((st.get s).tag == 2) = false := by simpa using h1
  unfold rowOf
  rw [h']
  rfl
 ·rfl
theorem tabOf_spec {x : Operand} {nm : String} {k : IntKind} {zs : List Int} (h : tabOf P x = some (nm, k, zs)) : ∃ g, x = .global g /\ (nm, k, zs) ∈ knownTabs /\ P.globalNamed nm = some g := by
 unfold tabOf at h
 split at h
 ·rename_i g
  refine ⟨g, rfl, List.mem_of_find?_eq_some h, ?_⟩
  have := List.find?_some h
  simpa using this
 ·cases h
theorem good_tab (R : RelX P F st ok β a w) {t e : TypeId} {x i : Operand} {m : Nat} (hop : o.op = .indexAddr t x i) (hu : P.underlying t = some (.array m e)) (hc : chkOp P env st o = true)
  (h : tabEl P m e x (opd P st P.rt.int i) = some av) : o.wp P a w (Good P ok β st o av a w) Q := by
 unfold tabEl at h
 split at h
 ·rename_i nm k zs k' hx hu2
  split at h
  ·rename_i hcc
   obtain ⟨hkk, h1, hlen, hwf, hk⟩ := hcc
   subst hkk
   cases h
   obtain ⟨g, rfl, hmem, hg⟩ := tabOf_spec hx
   obtain ⟨ki, hk⟩ := Option.isSome_iff_exists.1 hk
   obtain ⟨t2, u2⟩ := kindOf_spec hk
   obtain ⟨z, d2, v2, _⟩ := ((opd_rep R P.rt.int i).d1 t2).int u2
   have hrx : rowX st (.global g) t = none := rfl
   simp only [chkOp, hop, hrx, Bool.and_eq_true, decide_eq_true_eq, idxLen, hu, d2, intD] at hc
   obtain ⟨hz, hlt⟩ := hc
   have hie : ∃ ie, P.info? e = some ie := by
    unfold Program.cellsOf at h1
    cases hie : P.info? e with
    | none => rw [hie] at h1; simp at h1
    | some ie => exact ⟨ie, rfl⟩
   obtain ⟨ie, hie⟩ := hie
   have hzl : z.toNat < zs.length := by omega
   have hget : zs[z.toNat]? = some (zs.getD z.toNat 0) := by rw [List.getD_eq_getElem?_getD, List.getElem?_eq_getElem hzl]; rfl
   rw [d2]
   simp only [intD]
   refine good_value (v := .pointer (some ⟨g, z.toNat, none⟩)) ?_ (repAV_tab ⟨nm, k', zs, g, z.toNat, _, hmem, hg, hget, rfl, rfl, hu2, h1, ?_⟩)
   ·unfold execOp
    have hadd : (⟨g, 0, none⟩ : Addr).add z.toNat = ⟨g, z.toNat, none⟩ := by unfold Addr.add; split <;> simp_all
    have hev : a.eval (.global g) = .pointer (some ⟨g, 0, none⟩) := rfl
    simp [hop, Instr.indexAt, v2, asIntOf, run_underlying hu, hev, Instr.sureAddr, hz, hlt, run_sizeOf w hie, h1, hadd]
   ·rw [List.all_eq_true] at hwf
    exact hwf _ (List.mem_of_getElem? hget)
  ·cases h
 ·cases h
theorem good_indexRef (R : RelX P F st ok β a w) {t e : TypeId} {x i : Operand} {m : Nat} (hop : o.op = .indexAddr t x i) (hu : P.underlying t = some (.array m e)) (hc : chkOp P env st o = true)
  (h : (if (opd0 P st o x).tag == 3 && (opd0 P st o x).ty == t && (kindOf P (opd P st P.rt.int i)).isSome && decide (0 < P.cellsOf e) then
    some (refp e (fieldD (opd0 P st o x).d (intD (opd P st P.rt.int i).d).toNat)) else tabEl P m e x (opd P st P.rt.int i)) = some av) : o.wp P a w (Good P ok β st o av a w) Q := by
 split at h
 ·rename_i hcond
  simp only [Bool.and_eq_true, beq_iff_eq, decide_eq_true_eq] at hcond
  obtain ⟨⟨⟨t1, e1⟩, hk⟩, hp⟩ := hcond
  cases h
  have r := opd_rep R o.type x
  obtain ⟨y, cs, n, hv, hoy, hrow, hrep⟩ := r.ref t1 (fun k hk2 => by
   rw [show (opd P st o.type x).ty = t from e1, hu] at hk2
   cases hk2)
  rw [show (opd P st o.type x).ty = t from e1] at hrep
  obtain ⟨n', ps, rfl, hd, hps, hel⟩ := hrep.array hu
  have hd : (opd0 P st o x).d = .agg ps := hd
  obtain ⟨k, hk⟩ := Option.isSome_iff_exists.1 hk
  obtain ⟨t2, u2⟩ := kindOf_spec hk
  obtain ⟨z, d2, v2, _⟩ := ((opd_rep R P.rt.int i).d1 t2).int u2
  simp only [chkOp, hop, rowX_tag (t := t) (show (opd P st o.type x).tag ≠ 2 by rw [show (opd P st o.type x).tag = 3 from t1]; decide), Bool.and_eq_true, decide_eq_true_eq, idxLen, hu, d2, intD] at hc
  obtain ⟨hz, hlt⟩ := hc
  have hie : ∃ ie, P.info? e = some ie := by
   unfold Program.cellsOf at hp
   cases hie : P.info? e with
   | none => rw [hie] at hp; simp at hp
   | some ie => exact ⟨ie, rfl⟩
  obtain ⟨ie, hie⟩ := hie
  rw [d2, hd]
  have hm := hel z.toNat (by omega)
  refine good_value (v := .pointer (some (y.add (z.toNat * P.cellsOf e)))) ?_ (repAV_refp (cs := (cs.drop (z.toNat * P.cellsOf e)).take (P.cellsOf e)) (by rw [Addr.add_block]; exact hoy) ?_ hm)
  ·unfold execOp
   simp [hop, Instr.indexAt, v2, asIntOf, run_underlying hu, hv, Instr.sureAddr, hz, hlt, run_sizeOf w hie]
  ·intro j v hj
   rw [List.getElem?_take] at hj
   split at hj
   ·rw [List.getElem?_drop] at hj
    have := hrow _ _ hj
    have e : (y.add (z.toNat * P.cellsOf e)).add j = y.add (z.toNat * P.cellsOf e + j) := by
     unfold Addr.add
     by_cases h1 : z.toNat * P.cellsOf e = 0 <;> by_cases h2 : j = 0 <;> simp [h1, h2, Nat.add_assoc]
    rw [e]
    exact this
   ·cases hj
 ·exact good_tab R hop hu hc h

theorem good_indexAddr (R : RelX P F st ok β a w) {t e : TypeId} {x i : Operand} (hop : o.op = .indexAddr t x i) (hu : P.underlying t = some (.slice e)) (hc : chkOp P env st o = true)
  (h : (if (opd0 P st o x).tag == 1 && (opd0 P st o x).ty == t && (kindOf P (opd P st P.rt.int i)).isSome && decide (0 < P.cellsOf e) then
    some (refp e ((elemsD (opd0 P st o x).d).getD (intD (opd P st P.rt.int i).d).toNat .nil)) else none) = some av) : o.wp P a w (Good P ok β st o av a w) Q := by
 split at h
 ·rename_i hcc
  simp only [Bool.and_eq_true, beq_iff_eq, decide_eq_true_eq] at hcc
  obtain ⟨⟨⟨t1, e1⟩, hk⟩, hpos⟩ := hcc
  cases h
  have rx := (opd_rep R o.type x).d1 t1
  rw [show (opd P st o.type x).ty = t from e1] at rx
  obtain ⟨m, es, b, cap, hd, hv, h1, h2, h3, hel⟩ := rx.slice hu
  obtain ⟨k, hk⟩ := Option.isSome_iff_exists.1 hk
  obtain ⟨t2, u2⟩ := kindOf_spec hk
  obtain ⟨z, d2, v2, _⟩ := ((opd_rep R P.rt.int i).d1 t2).int u2
  simp only [chkOp, hop, rowX_none (t := t) t1, Bool.and_eq_true, decide_eq_true_eq] at hc
  rw [hd, d2] at hc
  simp only [idxLen, hu, intD, elemsD] at hc
  obtain ⟨hz, hlt⟩ := hc
  have hltn : z.toNat < es.length := by omega
  rw [show (opd0 P st o x).d = .slice es [] from hd, d2]
  simp only [intD, elemsD]
  cases b with
  | none => have := h3 rfl; omega
  | some y =>
   obtain ⟨hoy, c, hrow, hrep⟩ := hel y rfl z.toNat (es[z.toNat]) (by simp [hltn])
   have hg : es.getD z.toNat .nil = es[z.toNat] := by simp [List.getD, hltn]
   rw [hg]
   have hinfo : ∃ ii, P.info? e = some ii := by
    unfold Program.cellsOf at hpos
    cases hi : P.info? e with
    | none => rw [hi] at hpos; simp at hpos
    | some i => exact ⟨i, rfl⟩
   obtain ⟨ii, hi⟩ := hinfo
   refine good_value (v := .pointer (some (y.add (z.toNat * P.cellsOf e)))) ?_ (repAV_refp (by rw [Addr.add_block]; exact hoy) hrow hrep)
   unfold execOp
   simp [hop, Instr.indexAt, v2, asIntOf, run_underlying hu, hv, hz, hlt, run_sizeOf w hi]
 ·cases h

theorem asInt_opt (R : RelX P F st ok β a w) {x : Operand} (h : (kindOf P (opd P st P.rt.int x)).isSome = true) : ∃ k z, (opd P st P.rt.int x).d = .lit (.int k z) /\ a.eval x = .int k z := by
 obtain ⟨k, hk⟩ := Option.isSome_iff_exists.1 h
 obtain ⟨t2, u2⟩ := kindOf_spec hk
 obtain ⟨z, d2, v2, _⟩ := ((opd_rep R P.rt.int x).d1 t2).int u2
 exact ⟨k, z, d2, v2⟩

theorem run_sliceBound {k : IntKind} {n y : Nat} {code : BoundsCode} (h : n <= y) : (Instr.sliceBound (.int k (n : Int)) y code).run P w = .ok n w := by
 have : (0 : Int) <= n /\ (n : Int) <= (y : Int) := by omega
 unfold Instr.sliceBound
 simp only [asIntOf, Sem.run_bind, Sem.run_pure, Result.andThen_ok, this, and_self, if_true, Int.toNat_natCast]

theorem good_slice (R : RelX P F st ok β a w) {t e : TypeId} {x : Operand} {lo hi : Option Operand} (hop : o.op = .slice t x lo hi none) (hu : P.underlying t = some (.slice e)) (hc : chkOp P env st o = true)
  (h1 : (opd0 P st o x).tag = 1) (h2 : (opd0 P st o x).ty = t) (hl : intOpt P st lo = true) (hh : intOpt P st hi = true) (hpos : 0 < P.cellsOf e) :
  o.wp P a w (Good P ok β st o (dat t (.slice (((elemsD (opd0 P st o x).d).drop (loOf P st lo).toNat).take (hiOf P st x o.type hi - loOf P st lo).toNat) [])) a w) Q := by
 have rx := (opd_rep R o.type x).d1 h1
 rw [show (opd P st o.type x).ty = t from h2] at rx
 have hcell := rx.1
 obtain ⟨m, es, b, cap, hd, hv, g1, g2, g3, hel⟩ := rx.slice hu
 simp only [chkOp, hop, rowX_none (t := t) h1, Bool.and_eq_true, decide_eq_true_eq] at hc
 obtain ⟨⟨c1, c2⟩, c3⟩ := hc
 have e0 : avLen P (opd P st o.type x) = es.length := by
  unfold avLen
  rw [show (opd P st o.type x).ty = t from h2, hu, show (opd P st o.type x).d = _ from hd]
  rfl
 rw [e0] at c3
 have hie : ∃ i, P.info? e = some i := by
  unfold Program.cellsOf at hpos
  cases hi : P.info? e with
  | none => rw [hi] at hpos; simp at hpos
  | some i => exact ⟨i, rfl⟩
 obtain ⟨ie, hie⟩ := hie
 obtain ⟨L, hL⟩ : ∃ L : Nat, loOf P st lo = (L : Int) := ⟨(loOf P st lo).toNat, by omega⟩
 obtain ⟨H, hH⟩ : ∃ H : Nat, hiOf P st x o.type hi = (H : Int) := ⟨(hiOf P st x o.type hi).toNat, by omega⟩
 rw [hL, hH] at c2
 rw [hH] at c3
 have hLH : L <= H := by omega
 have hHe : H <= es.length := by omega
 have hrun : (Instr.sliceAt t (a.eval x) (lo.map a.eval) (hi.map a.eval) none).run P w = .ok (.slice (if cap = L then b else b.map (·.add (L * P.cellsOf e))) (H - L) (cap - L)) w := by
  have hbounds : (Instr.sliceBounds true es.length cap (lo.map a.eval) (hi.map a.eval) none).run P w = .ok (L, H, cap) w := by
   unfold Instr.sliceBounds
   cases lo with
   | none =>
    have hL0 : L = 0 := by simp only [loOf] at hL; omega
    subst hL0
    cases hi with
    | none =>
     have : H = es.length := by simp only [hiOf, e0] at hH; omega
     subst this
     simp
    | some y =>
     obtain ⟨k, z, d2, v2⟩ := asInt_opt R hh
     have hz : z = (H : Int) := by simp only [hiOf, d2, intD] at hH; exact hH
     subst hz
     have : H <= cap := by omega
     simp [v2, run_sliceBound this]
   | some u =>
    obtain ⟨k1, z1, d1, v1⟩ := asInt_opt R hl
    have hz1 : z1 = (L : Int) := by simp only [loOf, d1, intD] at hL; exact hL
    subst hz1
    cases hi with
    | none =>
     have : H = es.length := by simp only [hiOf, e0] at hH; omega
     subst this
     simp [v1, run_sliceBound hLH]
    | some y =>
     obtain ⟨k, z, d2, v2⟩ := asInt_opt R hh
     have hz : z = (H : Int) := by simp only [hiOf, d2, intD] at hH; exact hH
     subst hz
     have q1 : H <= cap := by omega
     simp [v1, v2, run_sliceBound q1, run_sliceBound hLH]
  unfold Instr.sliceAt
  simp only [Sem.run_bind, run_underlying hu, Result.andThen_ok]
  unfold Instr.slice
  simp only [Sem.run_bind, run_underlying hu, Result.andThen_ok, hv, hbounds, run_sizeOf w hie, Sem.run_pure]
 have hr : RepV P w ok t (.slice (if cap = L then b else b.map (·.add (L * P.cellsOf e))) (H - L) (cap - L)) (.slice ((es.drop L).take (H - L)) []) := by
  have hlen : ((es.drop L).take (H - L)).length = H - L := by simp; omega
  have hct : P.cellsOf t = 1 := by
   obtain ⟨n, hn⟩ := hcell
   have := hn.len
   rw [hv] at this
   simpa [Value.cells] using this.symm
  refine ⟨⟨m + 1, by simp [Value.cells, hct], by simp [Value.cells, Value.oneCell'], ?_⟩, by simp [isAggB, hu], fun _ => rfl⟩
  rw [hu]
  refine ⟨rfl, _, cap - L, by rw [hlen]; rfl, by rw [hlen]; omega, by omega, ?_, ?_⟩
  ·intro hb
   split at hb
   ·omega
   ·have : b = none := by simpa using hb
    have := g3 this
    omega
  ·intro y hy i z hz
   rw [List.getElem?_take] at hz
   split at hz
   ·rename_i hlt
    rw [List.getElem?_drop] at hz
    split at hy
    ·rename_i hcl
     have := (List.getElem?_eq_some_iff.1 hz).1
     omega
    ·obtain ⟨y0, hy0, rfl⟩ := Option.map_eq_some_iff.1 hy
     obtain ⟨hok, c, hc1, hc2⟩ := hel y0 hy0 (L + i) z hz
     refine ⟨by rw [Addr.add_block]; exact hok, c, ?_, hc2⟩
     rw [add_add, <- Nat.add_mul]
     exact hc1
   ·cases hz
 refine good_value (v := .slice (if cap = L then b else b.map (·.add (L * P.cellsOf e))) (H - L) (cap - L)) ?_ (repAV_dat ?_)
 ·unfold execOp
  simp only [hop, Option.map_none, Sem.run_bind, hrun, Result.andThen_ok, Sem.run_pure]
 ·rw [show (opd0 P st o x).d = .slice es [] from hd, hL, hH]
  have e1 : ((H : Int) - (L : Int)).toNat = H - L := by omega
  have e2 : ((L : Int)).toNat = L := by omega
  rw [e1, e2]
  exact hr

theorem good_sliceStr (R : RelX P F st ok β a w) {t : TypeId} {x : Operand} {lo hi : Option Operand} (hop : o.op = .slice t x lo hi none) (hu : P.underlying t = some .string) (hc : chkOp P env st o = true)
  (h1 : (opd0 P st o x).tag = 1) (h2 : (opd0 P st o x).ty = t) (hl : intOpt P st lo = true) (hh : intOpt P st hi = true) (hct : P.cellsOf t = 1) :
  o.wp P a w (Good P ok β st o (dat t (.lit (.string (((strD (opd0 P st o x).d).drop (loOf P st lo).toNat).take (hiOf P st x o.type hi - loOf P st lo).toNat)))) a w) Q := by
 have rx := (opd_rep R o.type x).d1 h1
 rw [show (opd P st o.type x).ty = t from h2] at rx
 obtain ⟨es, hd, hv⟩ := rx.string hu
 have hlen := rx.strLen hu hd
 simp only [chkOp, hop, rowX_none (t := t) h1, Bool.and_eq_true, decide_eq_true_eq] at hc
 obtain ⟨⟨c1, c2⟩, c3⟩ := hc
 have e0 : avLen P (opd P st o.type x) = es.length := by
  unfold avLen
  rw [show (opd P st o.type x).ty = t from h2, hu, show (opd P st o.type x).d = _ from hd]
  rfl
 rw [e0] at c3
 obtain ⟨L, hL⟩ : ∃ L : Nat, loOf P st lo = (L : Int) := ⟨(loOf P st lo).toNat, by omega⟩
 obtain ⟨H, hH⟩ : ∃ H : Nat, hiOf P st x o.type hi = (H : Int) := ⟨(hiOf P st x o.type hi).toNat, by omega⟩
 rw [hL, hH] at c2
 rw [hH] at c3
 have hLH : L <= H := by omega
 have hHe : H <= es.length := by omega
 have hrun : (Instr.sliceAt t (a.eval x) (lo.map a.eval) (hi.map a.eval) none).run P w = .ok (.string ⟨((es.drop L).take (H - L)).toArray⟩) w := by
  have hsz : (⟨es.toArray⟩ : ByteArray).size = es.length := by simp [ByteArray.size]
  have hbounds : (Instr.sliceBounds false es.length es.length (lo.map a.eval) (hi.map a.eval) none).run P w = .ok (L, H, es.length) w := by
   unfold Instr.sliceBounds
   cases lo with
   | none =>
    have hL0 : L = 0 := by simp only [loOf] at hL; omega
    subst hL0
    cases hi with
    | none =>
     have : H = es.length := by simp only [hiOf, e0] at hH; omega
     subst this
     simp
    | some y =>
     obtain ⟨k, z, d2, v2⟩ := asInt_opt R hh
     have hz : z = (H : Int) := by simp only [hiOf, d2, intD] at hH; exact hH
     subst hz
     simp [v2, run_sliceBound hHe]
   | some u =>
    obtain ⟨k1, z1, d1, v1⟩ := asInt_opt R hl
    have hz1 : z1 = (L : Int) := by simp only [loOf, d1, intD] at hL; exact hL
    subst hz1
    cases hi with
    | none =>
     have : H = es.length := by simp only [hiOf, e0] at hH; omega
     subst this
     simp [v1, run_sliceBound hLH]
    | some y =>
     obtain ⟨k, z, d2, v2⟩ := asInt_opt R hh
     have hz : z = (H : Int) := by simp only [hiOf, d2, intD] at hH; exact hH
     subst hz
     simp [v1, v2, run_sliceBound hHe, run_sliceBound hLH]
  unfold Instr.sliceAt
  simp only [Sem.run_bind, run_underlying hu, Result.andThen_ok]
  unfold Instr.slice
  simp only [Sem.run_bind, run_underlying hu, Result.andThen_ok, hv, hsz, hbounds, Sem.run_pure, Option.isSome_none, Bool.false_eq_true, if_false, ba_extract]
 refine good_value (v := .string ⟨((es.drop L).take (H - L)).toArray⟩) ?_ (repAV_dat ?_)
 ·unfold execOp
  simp only [hop, Option.map_none, Sem.run_bind, hrun, Result.andThen_ok, Sem.run_pure]
 ·rw [show (opd0 P st o x).d = .lit (.string es) from hd, hL, hH]
  have e1 : ((H : Int) - (L : Int)).toNat = H - L := by omega
  have e2 : ((L : Int)).toNat = L := by omega
  rw [e1, e2]
  refine ⟨⟨1, by simp [Value.cells, hct], by simp [Value.cells, Value.oneCell'], ?_⟩, by simp [isAggB, hu], fun _ => rfl⟩
  rw [hu]
  refine ⟨by simp [Value.cells, strD], ?_⟩
  simp only [strD, List.length_take, List.length_drop]
  omega

theorem good_lenStr (R : RelX P F st ok β a w) {x : Operand} {t : TypeId} {c : Call} (hop : o.op = .call c) (hcb : c.callee = .builtin .len) (hca : c.args.toList = [x]) (hct : c.argTypes.toList = [t]) (hu : P.underlying t = some .string)
  (h : (if (opd P st t x).tag == 1 && (opd P st t x).ty == t then intA P (intTy P o P.rt.int) .i64 ((strD (opd P st t x).d).length : Int) else none) = some av) : o.wp P a w (Good P ok β st o av a w) Q := by
 split at h
 ·rename_i hc
  rw [Bool.and_eq_true, beq_iff_eq, beq_iff_eq] at hc
  have r := (opd_rep R t x).d1 hc.1
  rw [hc.2] at r
  obtain ⟨es, hd, hv⟩ := r.string hu
  have hl := r.strLen hu hd
  rw [hd] at h
  refine good_value (v := .int .i64 es.length) ?_ (intA_spec h ?_ _)
  ·unfold execOp
   have e1 : c.args = #[x] := by apply Array.ext'; rw [hca]
   have e2 : c.argTypes = #[t] := by apply Array.ext'; rw [hct]
   have hsz : (⟨es.toArray⟩ : ByteArray).size = es.length := by simp [ByteArray.size]
   simp [hop, hcb, e1, e2, resolve, invoke, builtin, Builtin.len_, run_underlying hu, hv, goInt, hsz]
  ·have : (es.length : Int) <= 9223372036854775807 := by unfold maxLen at hl; omega
   simp [Lit.wf, IntKind.min, IntKind.max, IntKind.signed, IntKind.bits, strD]
   omega
 ·cases h

theorem good_indexStr (R : RelX P F st ok β a w) {t : TypeId} {x i : Operand} (hop : o.op = .index t x i) (hu : P.underlying t = some .string) (hc : chkOp P env st o = true)
  (h1 : (opd P st t x).tag = 1) (h2 : (opd P st t x).ty = t) (hk : (kindOf P (opd P st P.rt.int i)).isSome = true)
  (h : intA P o.type .u8 (((strD (opd P st t x).d).getD (intD (opd P st P.rt.int i).d).toNat 0).toNat : Int) = some av) : o.wp P a w (Good P ok β st o av a w) Q := by
 have rx := (opd_rep R t x).d1 h1
 rw [h2] at rx
 obtain ⟨es, hd, hv⟩ := rx.string hu
 obtain ⟨k, z, d2, v2⟩ := asInt_opt R hk
 simp only [chkOp, hop, Bool.and_eq_true, decide_eq_true_eq, d2, intD, idxStr, hu, hd, lenD] at hc
 obtain ⟨hz, hlt⟩ := hc
 have hltn : z.toNat < es.length := by omega
 rw [hd, d2] at h
 simp only [strD, intD] at h
 refine good_value (v := .int .u8 ((es.getD z.toNat 0).toNat : Int)) ?_ (intA_spec h ?_ _)
 ·unfold execOp
  simp [hop, Instr.index, v2, asIntOf, run_underlying hu, hv, hz, ba_get es z.toNat hltn]
 ·generalize es.getD z.toNat 0 = b
  have := UInt8.toNat_lt b
  simp only [Lit.wf, IntKind.min, IntKind.max, IntKind.signed, IntKind.bits]
  simp
  omega

theorem good_convert (R : RelX P F st ok β a w) {s t : TypeId} {x : Operand} (hop : o.op = .convert s t x) {k k' : IntKind} (hk : kindOf P (opd0 P st o x) = some k') (hs : ∃ u, P.underlying s = some u) (hu : P.underlying t = some (.int k))
  (h : intA P t k (k.wrap (intD (opd0 P st o x).d)) = some av) : o.wp P a w (Good P ok β st o av a w) Q := by
 obtain ⟨t2, u2⟩ := kindOf_spec hk
 obtain ⟨z, d2, v2, _⟩ := ((opd_rep R o.type x).d1 t2).int u2
 obtain ⟨u, hs⟩ := hs
 rw [show (opd0 P st o x).d = .lit (.int k' z) from d2] at h
 simp only [intD] at h
 refine good_value (v := .int k (k.wrap z)) ?_ (intA_spec h (wf_wrap _ _) _)
 unfold execOp
 simp only [hop, convert, v2, Sem.run_bind, run_underlying hs, run_underlying hu, Result.andThen_ok]
 cases u <;> simp [Conv.intToInt]

theorem isByteT_spec {e : TypeId} (h : isByteT P e = true) : P.underlying e = some (.int .u8) /\ P.cellsOf e = 1 := by
 unfold isByteT at h
 split at h
 ·rename_i hu; exact ⟨hu, by simpa using h⟩
 ·cases h
theorem good_convBytes (R : RelX P F st ok β a w) {s t e : TypeId} {x : Operand} (hop : o.op = .convert s t x) (hs : P.underlying s = some (.slice e)) (ht : P.underlying t = some .string) (h1 : (opd0 P st o x).tag = 1) (h2 : (opd0 P st o x).ty = s) (hb : isByteT P e = true)
  (h : strA P t (bytesL (elemsD (opd0 P st o x).d)) = some av) : o.wp P a w (Good P ok β st o av a w) Q := by
 obtain ⟨he, hc1⟩ := isByteT_spec hb
 have rx := (opd_rep R o.type x).d1 h1
 rw [show (opd P st o.type x).ty = s from h2] at rx
 obtain ⟨m, es, b, cap, hd, hv, g1, g2, g3, hel⟩ := rx.slice hs
 rw [show (opd0 P st o x).d = .slice es [] from hd] at h
 have hlen : (bytesL es).length = es.length := by simp [bytesL]
 have hrun : (convert s t (a.eval x)).run P w = .ok (.string ⟨(bytesL es).toArray⟩) w := by
  rw [hv]
  cases b with
  | none =>
   have : es = [] := List.length_eq_zero_iff.1 (by have := g3 rfl; omega)
   subst this
   exact run_convert_bytes_nil w s e hs he _ _ t ht
  | some y =>
   have := run_convert_bytes_back (P := P) w s t e y cap (bytesL es) hs he ht (fun j hj => by
    have hj' : j < es.length := by rw [<- hlen]; exact hj
    obtain ⟨_, c, hrow, hr⟩ := hel y rfl j es[j] (List.getElem?_eq_getElem hj')
    obtain ⟨z, hz, rfl, hw⟩ := hr.int he
    have hcell := hrow 0 _ rfl
    rw [hc1, Nat.mul_one] at hcell
    have hadd : (y.add j).add 0 = y.add j := by unfold Addr.add; simp
    rw [hadd] at hcell
    rw [hcell]
    have hb0 : (bytesL es)[j] = UInt8.ofNat (intD es[j]).toNat := by simp [bytesL]
    have hb : (bytesL es)[j] = UInt8.ofNat z.toNat := by
     rw [hb0, hz]
     rfl
    rw [hb]
    simp [Lit.wf, IntKind.min, IntKind.max, IntKind.signed, IntKind.bits] at hw
    congr 2
    have hn : z.toNat < 256 := by omega
    rw [UInt8.toNat_ofNat']
    have : z.toNat % 2 ^ 8 = z.toNat := Nat.mod_eq_of_lt (by simpa using hn)
    rw [this]
    omega)
   rw [hlen] at this
   exact this
 refine good_value (v := .string ⟨(bytesL es).toArray⟩) ?_ (strA_spec h (by rw [show elemsD (.slice es [] : D) = es from rfl, hlen]; omega) _)
 unfold execOp
 simp only [hop, Sem.run_bind, hrun, Result.andThen_ok, Sem.run_pure]

theorem run_equalIn_slnil (d : Nat) {t e : TypeId} (hu : P.underlying t = some (.slice e)) (b : Option Addr) (n c : Nat) : (Op.equalIn (d + 1) t (.slice b n c) (.slice none 0 0)).run P w = .ok b.isNone w := by
 simp only [Op.equalIn, Sem.run_bind, run_underlying hu, Result.andThen_ok]
 cases b <;> rfl

theorem good_nil (R : RelX P F st ok β a w) {op : BinOp} {t yt : TypeId} {x y : Operand} (hop : o.op = .binOp op t x y yt) (hy : isNilC y = true)
  (h : evNil P o op t (opd P st t x) = some av) : o.wp P a w (Good P ok β st o av a w) Q := by
 have rx := opd_rep R t x
 have hye : a.eval y = .slice none 0 0 := by
  unfold isNilC at hy
  split at hy
  ·rfl
  ·cases hy
 unfold evNil at h
 split at h
 ·rename_i e hu
  split at h
  ·rename_i hc
   simp only [Bool.and_eq_true, Bool.or_eq_true, beq_iff_eq] at hc
   obtain ⟨⟨t1, ty1⟩, hix⟩ := hc
   obtain ⟨n2, n3⟩ := rx.dN t1
   have hg : ∀ v1, (eqGuard op t x y v1 (.slice none 0 0)).run P w = .ok () w \/ True := fun _ => .inr trivial
   have hval : ∃ b1 n c, a.eval x = .slice b1 n c /\ ((opd P st t x).ix == 2) = b1.isNone := by
    rcases hix with hx | hx
    ·exact ⟨none, 0, 0, n2 hx, by rw [hx]; rfl⟩
    ·obtain ⟨y, n, c, hv⟩ := n3 hx
     exact ⟨some y, n, c, hv, by rw [hx]; rfl⟩
   obtain ⟨b1, n, c, hv, hb⟩ := hval
   have heq : (Op.equal t (.slice b1 n c) (.slice none 0 0)).run P w = .ok (b1.isNone) w := by
    simp only [Op.equal, Op.maxDepth]
    exact run_equalIn_slnil 9999 hu b1 n c
   have hgd : (eqGuard op t x y (.slice b1 n c) (.slice none 0 0)).run P w = .ok () w := by
    cases op <;> simp [eqGuard]
   cases op <;> simp only at h <;> try (cases h; done)
   ·rw [hb] at h
    exact good_value (run_bin hop hv hye hgd (by simp [binOp, heq])) (boolA_spec h _)
   ·rw [hb] at h
    exact good_value (run_bin hop hv hye hgd (by simp [binOp, heq])) (boolA_spec h _)
  ·cases h
 ·cases h

/-! ### Literals -/
theorem fold_splice (off : Nat) : ∀ (l : List Value) (j : Nat) (cells : Array Value), off + j + l.length <= cells.size ->
  ((l.zipIdx j).foldl (fun cs p => cs.setIfInBounds (off + p.2) p.1) cells).toList = splice cells.toList (off + j) l
 | [], j, cells, _ => by simp [splice]
 | v :: l, j, cells, h => by
  simp only [List.zipIdx_cons, List.foldl_cons]
  rw [fold_splice off l (j + 1) _ (by simp at h ⊢; omega)]
  have e := list_seg_step cells.toList (off + j) v l (by simp at h ⊢; omega)
  simp only [splice, Array.toList_setIfInBounds, List.length_cons]
  rw [show off + (j + 1) = off + j + 1 from by omega, e]

theorem fill_step {place : Nat -> Option (Nat × Nat)} {cells : Array Value} {i off size : Nat} {v : Value} {rest : List (Nat × Value)} (hp : place i = some (off, size)) (hs : v.cells.size = size) (hfit : off + size <= cells.size) :
  Instr.fill place cells ((i, v) :: rest) = Instr.fill place (splice cells.toList off v.cells.toList).toArray rest := by
 have h1 : (v.cells.zipIdx.foldl (fun cs (c, j) => cs.setIfInBounds (off + j) c) cells) = (splice cells.toList off v.cells.toList).toArray := by
  apply Array.ext'
  rw [<- Array.foldl_toList, Array.toList_zipIdx]
  have := fold_splice off v.cells.toList 0 cells (by simp [hs]; omega)
  simpa using this
 simp only [Instr.fill, hp]
 rw [if_neg (by simp [hs]; omega)]
 exact congrArg (fun c => Instr.fill place c rest) h1

/-- A struct's parts, written one behind the other. -/
theorem fill_struct {t : TypeId} {fs : Array Field} (hu : P.underlying t = some (.struct fs)) (hl : layOK P fs (P.cellsOf t) = true) {places : List (Nat × Nat)}
  (hpl : ∀ (k : Nat) (f : Field), fs[k]? = some f -> places[k]? = some (f.offset, P.cellsOf f.type)) (R : RelX P F st ok β a w) :
  ∀ (parts : List (Nat × Operand)) (cells : Array Value) (d d' : D) (n : Nat), Rep P w ok n t cells.toList d -> partsOf P st (fun k => (fs[k]?).map (·.type)) parts d = some d' ->
   ∃ cells' m, Instr.fill (fun x => places[x]?) cells (parts.map fun p => (p.1, a.eval p.2)) = some cells' /\ Rep P w ok m t cells'.toList d'
 | [], cells, d, d', n, hr, h => by
  simp only [partsOf, Option.some.injEq] at h
  subst h
  exact ⟨cells, n, rfl, hr⟩
 | (k, x) :: rest, cells, d, d', n, hr, h => by
  unfold partsOf at h
  cases hk : fs[k]? with
  | none => rw [hk] at h; simp at h
  | some f =>
   rw [hk] at h
   simp only [Option.map_some] at h
   split at h
   ·rename_i hc
    rw [Bool.and_eq_true, beq_iff_eq, beq_iff_eq] at hc
    have rx := (opd_rep R f.type x).d1 hc.1
    rw [hc.2] at rx
    obtain ⟨⟨m, hm⟩, _⟩ := rx
    obtain ⟨n', hn'⟩ := hr.set hu hl hk hm
    have hfit := (layOK_spec hl hk hk).1
    have hlen := hr.len
    have hml := hm.len
    have hstep := fill_step (place := fun x => places[x]?) (cells := cells) (i := k) (off := f.offset) (size := P.cellsOf f.type) (v := a.eval x) (rest := rest.map fun p => (p.1, a.eval p.2))
     (hpl k f hk) (by simpa using hml) (by simp at hlen; omega)
    simp only [List.map_cons]
    rw [hstep]
    exact fill_struct hu hl hpl R rest _ _ _ n' (by simpa using hn') h
   ·cases h

/-- Fields that no part writes stay as they were. -/
theorem fill_keeps {t : TypeId} {fs : Array Field} (hu : P.underlying t = some (.struct fs)) (hl : layOK P fs (P.cellsOf t) = true) {places : List (Nat × Nat)}
  (hpl : ∀ (k : Nat) (f : Field), fs[k]? = some f -> places[k]? = some (f.offset, P.cellsOf f.type)) (R : RelX P F st ok β a w) {q : Nat} {g : Field} (hq : fs[q]? = some g) :
  ∀ (parts : List (Nat × Operand)) (cells cells' : Array Value) (d d' : D) (n : Nat), Rep P w ok n t cells.toList d -> partsOf P st (fun k => (fs[k]?).map (·.type)) parts d = some d' ->
   Instr.fill (fun x => places[x]?) cells (parts.map fun p => (p.1, a.eval p.2)) = some cells' -> (parts.any fun p => p.1 == q) = false ->
   (cells'.toList.drop g.offset).take (P.cellsOf g.type) = (cells.toList.drop g.offset).take (P.cellsOf g.type)
 | [], cells, cells', d, d', n, hr, h, hf, hn => by
  simp only [List.map_nil, Instr.fill, Option.some.injEq] at hf
  rw [hf]
 | (k, x) :: rest, cells, cells', d, d', n, hr, h, hf, hn => by
  unfold partsOf at h
  cases hk : fs[k]? with
  | none => rw [hk] at h; simp at h
  | some f =>
   rw [hk] at h
   simp only [Option.map_some] at h
   split at h
   ·rename_i hc
    rw [Bool.and_eq_true, beq_iff_eq, beq_iff_eq] at hc
    have rx := (opd_rep R f.type x).d1 hc.1
    rw [hc.2] at rx
    obtain ⟨⟨m, hm⟩, _⟩ := rx
    obtain ⟨n', hn'⟩ := hr.set hu hl hk hm
    have hfit := (layOK_spec hl hk hk).1
    have hlen := hr.len
    have hml := hm.len
    have hstep := fill_step (place := fun x => places[x]?) (cells := cells) (i := k) (off := f.offset) (size := P.cellsOf f.type) (v := a.eval x) (rest := rest.map fun p => (p.1, a.eval p.2))
     (hpl k f hk) (by simpa using hml) (by simp at hlen; omega)
    simp only [List.map_cons] at hf
    rw [hstep] at hf
    rw [List.any_cons, Bool.or_eq_false_iff] at hn
    have hkq : k ≠ q := by simpa using hn.1
    have ih := fill_keeps hu hl hpl R hq rest _ cells' _ d' n' (by simpa using hn') h hf hn.2
    rw [ih]
    have hap := (layOK_spec hl hk hq).2.2
    have := splice_apart (cs := cells.toList) (part := (a.eval x).cells.toList) (off := f.offset) (o := g.offset) (m := P.cellsOf g.type) (by rw [hml]; simp at hlen ⊢; omega) (by rw [hml]; omega)
    simpa using this
   ·cases h

theorem zeroOf_spec {t : TypeId} {z : D} (h : zeroOf P t = some z) : ∃ i v n, P.info? t = some i /\ i.zero = some v /\ v.cells.size = P.cellsOf t /\ ∀ (w : World) (ok : Nat -> Prop), Rep P w ok n t v.cells.toList z := by
 unfold zeroOf at h
 split at h
 ·rename_i v hv
  split at h
  ·rename_i hc
   rw [Bool.and_eq_true, beq_iff_eq] at hc
   cases h
   cases hi : P.info? t with
   | none => rw [hi] at hv; simp at hv
   | some i =>
    rw [hi] at hv
    exact ⟨i, v, deep, rfl, by simpa using hv, hc.2, fun w ok => chkRep_sound hc.1⟩
  ·cases h
 ·cases h

theorem places_of {fs : Array Field} (hl : ∀ (k : Nat) (f : Field), fs[k]? = some f -> 0 < P.cellsOf f.type) :
  ∃ places : List (Nat × Nat), fs.toList.mapM (fun f => (P.info? f.type).map fun i => (f.offset, i.size)) = some places /\ ∀ (k : Nat) (f : Field), fs[k]? = some f -> places[k]? = some (f.offset, P.cellsOf f.type) := by
 have key : ∀ l : List Field, (∀ f ∈ l, 0 < P.cellsOf f.type) -> l.mapM (fun f => (P.info? f.type).map fun i => (f.offset, i.size)) = some (l.map fun f => (f.offset, P.cellsOf f.type)) := by
  intro l
  induction l with
  | nil => intro _; simp
  | cons f l ih =>
   intro h
   have hp := h f (by simp)
   unfold Program.cellsOf at hp
   cases hi : P.info? f.type with
   | none => rw [hi] at hp; simp at hp
   | some i =>
    have : P.cellsOf f.type = i.size := by simp [Program.cellsOf, hi]
    simp [List.mapM_cons, hi, ih (fun g hg => h g (by simp [hg])), this]
 refine ⟨_, key fs.toList (fun f hf => ?_), fun k f hk => ?_⟩
 ·obtain ⟨k, hk⟩ := List.getElem?_of_mem hf
  exact hl k f (by simpa using hk)
 ·simp [hk]

theorem good_build (R : RelX P F st ok β a w) {t : TypeId} {parts : Array (Nat × Operand)} (hop : o.op = .build t parts) {fs : Array Field} (hu : P.underlying t = some (.struct fs))
  (hl : layOK P fs (P.cellsOf t) = true) {z : D} (hz : zeroOf P t = some z) (sn : Bool) (h : (partsOf P st (fun k => (fs[k]?).map (·.type)) parts.toList z).map (fun d => if sn then (⟨1, t, d, 0, 0, 0, nilsOf P t fs.size parts.toList⟩ : AV) else dat t d) = some av) : o.wp P a w (Good P ok β st o av a w) Q := by
 obtain ⟨d', hd', hav⟩ := Option.map_eq_some_iff.1 h
 obtain ⟨i, v, n, hi, hzv, hsz, hrep⟩ := zeroOf_spec hz
 obtain ⟨places, hpm, hpl⟩ := places_of (P := P) (fs := fs) (fun k f hk => (layOK_spec hl hk hk).2.1)
 obtain ⟨cells', m, hfill, hr⟩ := fill_struct hu hl hpl R parts.toList v.cells z d' n (hrep w ok) hd'
 have hrv : RepV P w ok t (.agg cells') d' := ⟨⟨m, hr⟩, fun _ => ⟨_, rfl⟩, fun h => by simp [isAggB, hu] at h⟩
 have hrep' : RepAV P w ok β st.bx av (.agg cells') := by
  rw [<- hav]
  split
  ·refine ⟨fun _ => hrv, by simp, by simp, by simp, by simp, by simp, by simp, by simp, fun _ => ⟨by simp, by simp⟩, by simp, fun _ => ?_⟩
   intro k hk f hf
   unfold nilsOf at hk
   rw [List.mem_filter, Bool.and_eq_true] at hk
   obtain ⟨_, hk1, hk2⟩ := hk
   have hf : fieldOf P t k = some f := hf
   obtain ⟨fs', hus, hl', hkf⟩ := fieldOf_spec hf
   rw [hu] at hus
   cases hus
   unfold chkNil at hk1
   rw [hi, hf] at hk1
   simp only [Option.bind_some, hzv, Bool.and_eq_true, beq_iff_eq] at hk1
   have hkeep := fill_keeps hu hl hpl R hkf parts.toList v.cells cells' z d' n (hrep w ok) hd' hfill (by simpa using hk2)
   rw [hk1.2] at hkeep
   refine ⟨?_, hk1.2⟩
   show (cells'.toList.drop f.offset).take 1 = _
   rw [hkeep]
   have h3 := hk1.1
   unfold isNilCell at h3
   split at h3
   ·rename_i heq
    exact heq
   ·cases h3
  ·exact repAV_dat hrv
 refine good_value (v := .agg cells') ?_ hrep'
 unfold execOp
 simp only [hop, Sem.run_bind]
 rw [run_build w t _ cells' ?_]
 ·rfl
 ·simp only [Program.built, hi, hu, hzv, hpm]
  have : (fun x : Nat => places.toArray[x]?) = (fun x : Nat => places[x]?) := by funext x; simp
  rw [this]
  rw [<- hfill]
  congr 1
  simp

/-- A row of elements, each written in its place. -/
def RowRep (P : Program) (w : World) (ok : Nat -> Prop) (e : TypeId) (cells : List Value) (len : Nat) (d : D) : Prop :=
 cells.length = len * P.cellsOf e /\ (partsD d).length = len /\ ∀ k, k < len -> ∃ n, Rep P w ok n e ((cells.drop (k * P.cellsOf e)).take (P.cellsOf e)) (fieldD d k)

theorem RowRep.set {e : TypeId} {cells part : List Value} {len k n : Nat} {d x : D} (h : RowRep P w ok e cells len d) (hk : k < len) (hx : Rep P w ok n e part x) :
  RowRep P w ok e (splice cells (k * P.cellsOf e) part) len (setD d k x) := by
 obtain ⟨h1, h2, h3⟩ := h
 have hpl := hx.len
 have hmul : (k + 1) * P.cellsOf e <= len * P.cellsOf e := Nat.mul_le_mul_right _ hk
 have hmul' : (k + 1) * P.cellsOf e = k * P.cellsOf e + P.cellsOf e := Nat.succ_mul _ _
 have hfit : k * P.cellsOf e + part.length <= cells.length := by omega
 refine ⟨by rw [splice_length hfit, h1], by simpa [setD, partsD] using h2, fun j hj => ?_⟩
 by_cases e1 : k = j
 ·subst e1
  refine ⟨n, ?_⟩
  have e2 := splice_same hfit
  rw [hpl] at e2
  rw [e2]
  have : fieldD (setD d k x) k = x := by
   show ((partsD d).set k x).getD k .nil = x
   rw [List.getD, List.getElem?_set_self (by rw [h2]; exact hk)]
   rfl
  rw [this]
  exact hx
 ·obtain ⟨m, hm⟩ := h3 j hj
  refine ⟨m, ?_⟩
  rw [splice_apart hfit (by
   rw [hpl]
   rcases Nat.lt_or_gt_of_ne e1 with hlt | hgt
   ·right
    have : (k + 1) * P.cellsOf e <= j * P.cellsOf e := Nat.mul_le_mul_right _ hlt
    omega
   ·left
    have : (j + 1) * P.cellsOf e <= k * P.cellsOf e := Nat.mul_le_mul_right _ hgt
    have := Nat.succ_mul j (P.cellsOf e)
    simp only [Nat.succ_eq_add_one] at this
    omega)]
  have : fieldD (setD d k x) j = fieldD d j := by simp [fieldD, setD, partsD, List.getD, List.getElem?_set_ne e1]
  rw [this]
  exact hm

theorem fill_row {e : TypeId} {len : Nat} (R : RelX P F st ok β a w) :
  ∀ (parts : List (Nat × Operand)) (cells : Array Value) (d d' : D), RowRep P w ok e cells.toList len d -> partsOf P st (fun k => if k < len then some e else none) parts d = some d' ->
   ∃ cells', Instr.fill (fun i => some (i * P.cellsOf e, P.cellsOf e)) cells (parts.map fun p => (p.1, a.eval p.2)) = some cells' /\ RowRep P w ok e cells'.toList len d'
 | [], cells, d, d', hr, h => by
  simp only [partsOf, Option.some.injEq] at h
  subst h
  exact ⟨cells, rfl, hr⟩
 | (k, x) :: rest, cells, d, d', hr, h => by
  unfold partsOf at h
  by_cases hk : k < len
  ·simp only [hk, if_true] at h
   split at h
   ·rename_i hc
    rw [Bool.and_eq_true, beq_iff_eq, beq_iff_eq] at hc
    have rx := (opd_rep R e x).d1 hc.1
    rw [hc.2] at rx
    obtain ⟨⟨m, hm⟩, _⟩ := rx
    have hn' := hr.set hk hm
    have hml := hm.len
    have hmul : (k + 1) * P.cellsOf e <= len * P.cellsOf e := Nat.mul_le_mul_right _ hk
    have hmul' : (k + 1) * P.cellsOf e = k * P.cellsOf e + P.cellsOf e := Nat.succ_mul _ _
    have hlen := hr.1
    have hstep := fill_step (place := fun i => some (i * P.cellsOf e, P.cellsOf e)) (cells := cells) (i := k) (off := k * P.cellsOf e) (size := P.cellsOf e) (v := a.eval x) (rest := rest.map fun p => (p.1, a.eval p.2))
     rfl (by simpa using hml) (by simp at hlen; omega)
    simp only [List.map_cons]
    rw [hstep]
    exact fill_row R rest _ _ _ (by simpa using hn') h
   ·cases h
  ·simp [hk] at h

theorem zero_row {e : TypeId} {z : Value} {d : D} {n len : Nat} (hs : z.cells.size = P.cellsOf e) (hp : 0 < P.cellsOf e) (hr : Rep P w ok n e z.cells.toList d) :
  RowRep P w ok e ((Array.range (len * P.cellsOf e)).map (z.cells[· % z.cells.size]!)).toList len (.agg (List.replicate len d)) := by
 refine ⟨by simp, by simp [partsD], fun k hk => ⟨n, ?_⟩⟩
 have hfd : fieldD (.agg (List.replicate len d)) k = d := by simp [fieldD, partsD, List.getD, hk]
 rw [hfd]
 have hseg : ((((Array.range (len * P.cellsOf e)).map (z.cells[· % z.cells.size]!)).toList.drop (k * P.cellsOf e)).take (P.cellsOf e)) = z.cells.toList := by
  apply List.ext_getElem?
  intro j
  have hmul : (k + 1) * P.cellsOf e <= len * P.cellsOf e := Nat.mul_le_mul_right _ hk
  have hmul' : (k + 1) * P.cellsOf e = k * P.cellsOf e + P.cellsOf e := Nat.succ_mul _ _
  by_cases hj : j < P.cellsOf e
  ·rw [List.getElem?_take_of_lt hj, List.getElem?_drop]
   have hlt : k * P.cellsOf e + j < len * P.cellsOf e := by omega
   have hmod : (k * P.cellsOf e + j) % P.cellsOf e = j := by rw [Nat.add_comm, Nat.add_mul_mod_self_right, Nat.mod_eq_of_lt hj]
   simp [hlt, hs, hmod, hj]
  ·rw [List.getElem?_take_eq_none (by omega), List.getElem?_eq_none (by simp [hs]; omega)]
 rw [hseg]
 exact hr

theorem good_buildSlice (R : RelX P F st ok β a w) {t e : TypeId} {len : Nat} {parts : Array (Nat × Operand)} (hop : o.op = .buildSlice t len parts) (hu : P.underlying t = some (.slice e)) (h1 : P.cellsOf t = 1)
  (hp : 0 < P.cellsOf e) (hsm : len * P.cellsOf e <= 4096) (hlen : len ≠ 0) {z : D} (hz : zeroOf P e = some z)
  (h : ((partsOf P st (fun k => if k < len then some e else none) parts.toList (.agg (List.replicate len z))).map fun d => ful t (.slice (partsD d) [])) = some av) : o.wp P a w (Good P ok β st o av a w) Q := by
 obtain ⟨d', hd', rfl⟩ := Option.map_eq_some_iff.1 h
 obtain ⟨i, v, n, hi, hzv, hsz, hrep⟩ := zeroOf_spec hz
 have hcs : P.cellsOf e = i.size := by simp [Program.cellsOf, hi]
 obtain ⟨cells', hfill, hr⟩ := fill_row R parts.toList _ _ d' (zero_row (len := len) hsz hp (hrep w ok)) hd'
 have hrun := run_buildSlice (P := P) w t e len (parts.map fun (i, x) => (i, a.eval x)) cells' i v hu hi hzv (by rw [<- hcs]; omega)
  (by rw [<- hcs]; exact Nat.pos_iff_ne_zero.1 (Nat.mul_pos (Nat.pos_of_ne_zero hlen) hp)) (by rw [<- hcs, <- hfill]; congr 1; simp)
 have hb : Below w.heap.size w (w.alloc (.cells cells' e)) := (Below.refl _ _).alloc (Nat.le_refl _) _
 have hsz' : (w.alloc (.cells cells' e)).heap.size = w.heap.size + 1 := by simp
 unfold Oper.wp
 have hx : (execOp a.eval o).run P w = .ok (.value (.slice (some ⟨w.heap.size, 0, none⟩) len len)) (w.alloc (.cells cells' e)) := by
  unfold execOp
  simp only [hop, Sem.run_bind, hrun, Result.andThen_ok, Sem.run_pure]
 rw [hx]
 refine ⟨_, fun b => ok b \/ b = w.heap.size, rfl, hb, fun b h => .inl h, fun b h => ?_, repAV_ful ⟨?_, by simp [isAggB, hu], fun _ => rfl⟩⟩
 ·rcases h with h | h
  ·exact .inl h
  ·right; rw [hsz']; omega
 ·obtain ⟨q1, q2, q3⟩ := hr
  have hmove : ∀ {n : Nat} {t : TypeId} {cs : List Value} {d : D}, Rep P w ok n t cs d -> Rep P (w.alloc (.cells cells' e)) (fun b => ok b \/ b = w.heap.size) n t cs d :=
   fun hh => hh.move (fun b hb' => hb.block b (R.okb b hb').1) (fun b hb' => .inl hb')
  -- one fuel for all elements
  have hfuel : ∀ m, m <= len -> ∃ N, ∀ k, k < m -> Rep P w ok N e ((cells'.toList.drop (k * P.cellsOf e)).take (P.cellsOf e)) (fieldD d' k) := by
   intro m
   induction m with
   | zero => intro _; exact ⟨0, fun k hk => by omega⟩
   | succ m ih =>
    intro hm
    obtain ⟨N, hN⟩ := ih (by omega)
    obtain ⟨M, hM⟩ := q3 m (by omega)
    refine ⟨max N M, fun k hk => ?_⟩
    by_cases hkm : k = m
    ·subst hkm; exact hM.le (by omega)
    ·exact (hN k (by omega)).le (by omega)
  obtain ⟨N, hN⟩ := hfuel len (Nat.le_refl _)
  refine ⟨N + 1, by simp [Value.cells, h1], by simp [Value.cells, Value.oneCell'], ?_⟩
  rw [hu]
  refine ⟨rfl, some ⟨w.heap.size, 0, none⟩, len, by simp [Value.cells, q2], by rw [q2]; exact Nat.le_refl _, ?_, by simp, fun y hy k y' hk => ?_⟩
  ·have : len * 1 <= len * P.cellsOf e := Nat.mul_le_mul_left _ hp
   unfold maxLen
   omega
  ·cases hy
   have hklt : k < len := by rw [<- q2]; exact (List.getElem?_eq_some_iff.1 hk).1
   have hfd : fieldD d' k = y' := by simp [fieldD, List.getD, hk]
   refine ⟨.inr rfl, (cells'.toList.drop (k * P.cellsOf e)).take (P.cellsOf e), fun j v hj => ?_, ?_⟩
   ·rw [List.getElem?_take] at hj
    split at hj
    ·rw [List.getElem?_drop] at hj
     have hadd : ((⟨w.heap.size, 0, none⟩ : Addr).add (k * P.cellsOf e)).add j = ⟨w.heap.size, k * P.cellsOf e + j, none⟩ := by
      rw [add_add]; unfold Addr.add; split <;> simp_all
     rw [hadd]
     simp only [World.cell?, alloc_new]
     simpa using hj
    ·cases hj
   ·rw [<- hfd]
    exact hmove (hN k hklt)

theorem one_fuel {e : TypeId} {cells : List Value} {d : D} {len : Nat} (h : ∀ k, k < len -> ∃ n, Rep P w ok n e ((cells.drop (k * P.cellsOf e)).take (P.cellsOf e)) (fieldD d k)) :
  ∃ N, ∀ k, k < len -> Rep P w ok N e ((cells.drop (k * P.cellsOf e)).take (P.cellsOf e)) (fieldD d k) := by
 have : ∀ m, m <= len -> ∃ N, ∀ k, k < m -> Rep P w ok N e ((cells.drop (k * P.cellsOf e)).take (P.cellsOf e)) (fieldD d k) := by
  intro m
  induction m with
  | zero => intro _; exact ⟨0, fun k hk => by omega⟩
  | succ m ih =>
   intro hm
   obtain ⟨N, hN⟩ := ih (by omega)
   obtain ⟨M, hM⟩ := h m (by omega)
   refine ⟨max N M, fun k hk => ?_⟩
   by_cases hkm : k = m
   ·subst hkm; exact hM.le (by omega)
   ·exact (hN k (by omega)).le (by omega)
 exact this len (Nat.le_refl _)

theorem good_buildArr (R : RelX P F st ok β a w) {t : TypeId} {parts : Array (Nat × Operand)} (hop : o.op = .build t parts) {m : Nat} {e : TypeId} (hu : P.underlying t = some (.array m e))
  (hp : 0 < P.cellsOf e) (hsz : P.cellsOf t = m * P.cellsOf e) {z : D} (hz : zeroOf P t = some z) (h : (partsOf P st (fun k => if k < m then some e else none) parts.toList z).map (dat t) = some av) : o.wp P a w (Good P ok β st o av a w) Q := by
 obtain ⟨d', hd', rfl⟩ := Option.map_eq_some_iff.1 h
 obtain ⟨i, v, n, hi, hzv, hszv, hrep⟩ := zeroOf_spec hz
 have hr0 := hrep w ok
 have hone := hr0.one
 obtain ⟨n', ps, rfl, rfl, hps, hel⟩ := hr0.array hu
 have hlen0 := hr0.len
 have hrow : RowRep P w ok e v.cells.toList m (.agg ps) := ⟨by rw [hlen0, hsz], hps, fun k hk => ⟨n', hel k hk⟩⟩
 obtain ⟨cells', hfill, q1, q2, q3⟩ := fill_row R parts.toList v.cells _ d' hrow hd'
 obtain ⟨N, hN⟩ := one_fuel q3
 have hei : ∃ ie, P.info? e = some ie := by
  unfold Program.cellsOf at hp
  cases hie : P.info? e with
  | none => rw [hie] at hp; simp at hp
  | some ie => exact ⟨ie, rfl⟩
 obtain ⟨ie, hie⟩ := hei
 have hcs : P.cellsOf e = ie.size := by simp [Program.cellsOf, hie]
 have hd : d' = .agg (partsD d') := by
  have : ∀ (l : List (Nat × Operand)) (d d' : D), (∃ ps, d = .agg ps) -> partsOf P st (fun k => if k < m then some e else none) l d = some d' -> ∃ ps, d' = .agg ps := by
   intro l
   induction l with
   | nil => intro d d' hd h; simp only [partsOf, Option.some.injEq] at h; subst h; exact hd
   | cons p l ih =>
    intro d d' hd h
    obtain ⟨k, x⟩ := p
    unfold partsOf at h
    split at h
    ·split at h
     ·exact ih _ _ ⟨_, rfl⟩ h
     ·cases h
    ·cases h
  obtain ⟨ps', rfl⟩ := this _ _ _ ⟨ps, rfl⟩ hd'
  rfl
 refine good_value (v := .agg cells') ?_ (repAV_dat ⟨⟨N + 1, by simpa [Value.cells, hsz] using q1, ?_, ?_⟩, fun _ => ⟨_, rfl⟩, fun h => by simp [isAggB, hu] at h⟩)
 ·unfold execOp
  simp only [hop, Sem.run_bind]
  rw [run_build w t _ cells' ?_]
  ·rfl
  ·simp only [Program.built, hi, hu, hzv, hie]
   rw [<- hfill, hcs]
   congr 1
   simp
 ·intro x hx
  have hx' : x ∈ cells'.toList := by simpa [Value.cells] using hx
  obtain ⟨j, hj⟩ := List.getElem?_of_mem hx'
  have hjl : j < m * P.cellsOf e := by rw [<- q1]; exact (List.getElem?_eq_some_iff.1 hj).1
  have hk : j / P.cellsOf e < m := Nat.div_lt_of_lt_mul (by rw [Nat.mul_comm]; exact hjl)
  refine (hN _ hk).one x ?_
  have hmod : j % P.cellsOf e < P.cellsOf e := Nat.mod_lt _ hp
  refine List.mem_of_getElem? (i := j % P.cellsOf e) ?_
  rw [List.getElem?_take_of_lt hmod, List.getElem?_drop, Nat.mul_comm, Nat.div_add_mod]
  exact hj
 ·rw [hu, hd]
  refine ⟨q2, fun k hk => ?_⟩
  have := hN k hk
  simpa [Value.cells, fieldD] using this

theorem good_index (R : RelX P F st ok β a w) {t : TypeId} {x i : Operand} (hop : o.op = .index t x i) {m : Nat} {e : TypeId} (hu : P.underlying t = some (.array m e)) (hc : chkOp P env st o = true)
  (h1 : (opd P st t x).tag = 1) (h2 : (opd P st t x).ty = t) (hk : (kindOf P (opd P st P.rt.int i)).isSome = true) (hp : 0 < P.cellsOf e) :
  o.wp P a w (Good P ok β st o (dat e (normD P e (fieldD (opd P st t x).d (intD (opd P st P.rt.int i).d).toNat))) a w) Q := by
 have rx := (opd_rep R t x).d1 h1
 rw [h2] at rx
 obtain ⟨⟨n, hn⟩, hagg, _⟩ := rx
 obtain ⟨cs, hv⟩ := hagg (by simp [isAggB, hu])
 obtain ⟨n', ps, rfl, hd, hps, hel⟩ := hn.array hu
 obtain ⟨k, hk⟩ := Option.isSome_iff_exists.1 hk
 obtain ⟨t2, u2⟩ := kindOf_spec hk
 obtain ⟨z, d2, v2, _⟩ := ((opd_rep R P.rt.int i).d1 t2).int u2
 have harr : ∀ d, idxStr P t d = m := fun d => by simp [idxStr, hu]
 simp only [chkOp, hop, Bool.and_eq_true, decide_eq_true_eq, d2, intD, harr] at hc
 obtain ⟨hz, hlt⟩ := hc
 have hltn : z.toNat < m := by omega
 have hee := hel z.toNat hltn
 rw [hv] at hee
 obtain ⟨v, hrun, hr⟩ := run_part (xs := cs) (fo := z.toNat * P.cellsOf e) (by simpa [Value.cells] using hee)
 have hei : ∃ ie, P.info? e = some ie := by
  unfold Program.cellsOf at hp
  cases hie : P.info? e with
  | none => rw [hie] at hp; simp at hp
  | some ie => exact ⟨ie, rfl⟩
 obtain ⟨ie, hie⟩ := hei
 refine good_value (v := v) ?_ (repAV_dat ?_)
 ·unfold execOp
  simp [hop, Instr.index, v2, asIntOf, run_underlying hu, hv, hz, hlt, run_sizeOf w hie, hrun]
 ·rw [d2, hd]
  simp only [intD]
  exact hr.norm

theorem capIds_spec (R : RelX P F st ok β a w) : ∀ (l : List Operand) (ids : List Nat), capIds P st l = some ids -> ids.length = l.length /\
  (∀ j ∈ ids, (st.bx j).isSome = true) /\ ∀ (k i : Nat) (e : Ent), ids[k]? = some i -> st.bx i = some e -> e.row = 0 -> (l.map a.eval)[k]? = some (Value.pointer (some ⟨(β i).1, 0, none⟩))
 | [], ids, h => by
  simp only [capIds, Option.some.injEq] at h
  subst h
  exact ⟨rfl, by simp, by simp⟩
 | x :: xs, ids, h => by
  simp only [capIds] at h
  split at h
  ·rename_i hc
   simp only [Bool.and_eq_true, beq_iff_eq, List.isEmpty_iff] at hc
   obtain ⟨ids', h', rfl⟩ := Option.map_eq_some_iff.1 h
   obtain ⟨g1, g2, g3⟩ := capIds_spec R xs ids' h'
   refine ⟨by simp [g1], fun j hj => ?_, fun k i e hk he h0 => ?_⟩
   ·rcases List.mem_cons.1 hj with rfl | hj
    ·exact opd_live R.nd 0 x _ (by rw [refs_2 hc.1.1]; simp)
    ·exact g2 j hj
   ·cases k with
    | zero =>
     simp only [List.getElem?_cons_zero, Option.some.injEq] at hk
     subst hk
     obtain ⟨e1, e2, _⟩ := (opd_rep R 0 x).d2 hc.1.1 e he h0
     simp only [List.map_cons, List.getElem?_cons_zero]
     rw [e1, (e2 hc.2 hc.1.2).1]
    | succ k =>
     simp only [List.getElem?_cons_succ] at hk
     simpa using g3 k i e hk he h0
  ·cases h

theorem good_makeBnd (R : RelX P F st ok β a w) {f : FuncId} {first caps : Array Operand} {x : Operand} (hop : o.op = .makeFunc (.func f) first caps) (hf : first.toList = [x]) (hcp : caps.size = 0) (hu : isFuncT P o.type = true) (h1 : P.cellsOf o.type = 1)
  (ht : (opd P st 0 x).tag = 1) : o.wp P a w (Good P ok β st o (dat o.type (bndD f (opd P st 0 x).ty (opd P st 0 x).d)) a w) Q := by
 have hf' : first = #[x] := by apply Array.ext'; simpa using hf
 have hc' : caps = #[] := Array.eq_empty_of_size_eq_zero hcp
 obtain ⟨⟨n, hn⟩, g2, g3⟩ := (opd_rep R 0 x).d1 ht
 unfold isFuncT at hu
 split at hu
 ·rename_i hu2
  refine good_value (v := .func (.func f) #[a.eval x] #[]) ?_ (repAV_dat ⟨⟨n + 1, by simp [Value.cells, h1], by simp [Value.cells, Value.oneCell'], ?_⟩, by simp [isAggB, hu2], fun _ => rfl⟩)
  ·unfold execOp
   simp [hop, Instr.makeFunc, hf', hc']
  ·rw [hu2]
   exact ⟨f, a.eval x, _, _, rfl, by simp [Value.cells], hn, g2, g3⟩
 ·cases hu

theorem good_makeFunc (R : RelX P F st ok β a w) {f : FuncId} {first caps : Array Operand} (hop : o.op = .makeFunc (.func f) first caps) (hf : first.size = 0) {ids : List Nat} (h : capIds P st caps.toList = some ids) :
  o.wp P a w (Good P ok β st o (clo o.type f ids) a w) Q := by
 obtain ⟨g1, g2, g3⟩ := capIds_spec R _ _ h
 have hf' : first = #[] := Array.eq_empty_of_size_eq_zero hf
 refine good_value (v := .func (.func f) #[] (caps.map a.eval)) ?_ ⟨by simp [clo], by simp [clo], by simp [clo], by simp [clo], fun _ => ⟨caps.map a.eval, rfl, by simp [clo, g1], fun k i e hk he h0 => ?_⟩, by simp [clo], by simp [clo], by simp [clo], by simp [clo], by simp [clo], by simp [clo]⟩
 ·unfold execOp
  simp [hop, Instr.makeFunc, hf']
 ·have := g3 k i e hk he h0
  simpa using this

theorem appOf_none {c : Call} {f : FuncId} (h : calleeOf P st c.callee = some f) : appOf c = none := by
 unfold appOf
 split
 ·rename_i hb _ _; rw [hb] at h; cases h
 ·rfl

theorem appNil_none {c : Call} {f : FuncId} (h : calleeOf P st c.callee = some f) : appNil c = none := by
 unfold appNil
 split
 ·rename_i hb _ _; rw [hb] at h; cases h
 ·rfl

theorem argsOf_rep (R : RelX P F st ok β a w) : ∀ (xs : List Operand) (ts : List TypeId) (as : List AV), argsOf P st xs ts = some as -> ArgsRep P w ok as (xs.map a.eval) := by
  intro xs
  induction xs with
  | nil =>
   intro ts as h
   cases ts with
   | nil => simp only [argsOf, Option.some.injEq] at h; subst h; exact trivial
   | cons t ts => simp [argsOf] at h
  | cons x xs ih =>
   intro ts as h
   cases ts with
   | nil => simp [argsOf] at h
   | cons t ts =>
    simp only [argsOf] at h
    split at h
    ·rename_i ht
     obtain ⟨as', ha', rfl⟩ := Option.map_eq_some_iff.1 h
     have ht' : (opd P st t x).tag = 1 := by simpa using ht
     exact ⟨⟨ht', (opd_rep R t x).d1 ht'⟩, ih ts as' ha'⟩
    ·cases h

theorem argsRep_append {xs ys : List AV} {us vs : List Value} (h : ArgsRep P w ok xs us) (h' : ArgsRep P w ok ys vs) : ArgsRep P w ok (xs ++ ys) (us ++ vs) := by
 induction xs generalizing us with
 | nil => cases us with
  | nil => exact h'
  | cons u us => exact h.elim
 | cons x xs ih => cases us with
  | nil => exact h.elim
  | cons u us => exact ⟨h.1, ih h.2⟩

theorem good_call (R : RelX P F st ok β a w) (henv : EnvOK P env) {c : Call} (hop : o.op = .call c) {f : FuncId} {as : List AV}
  (hf : calleeOf P st c.callee = some f) (has : argsOf P st c.args.toList c.argTypes.toList = some as) (hc : chkOp P env st o = true) (hnh : heapF P env st c = none) (hro : roSlot st c = none) (hfr : freshF env c = none) (hbf : bornF env c = none) (h : (match env.p f with
    | some (t, _, F) => if t == o.type then (F (bndOf P st c.callee ++ as)).map (mkRes P t) else none
    | none => none) = some av) : o.wp P a w (Good P ok β st o av a w) Q := by
 have hk : CallOK P f (bndOf P st c.callee ++ as) av := by
  split at h
  ·rename_i t pre F he
   split at h
   ·obtain ⟨d, hd, rfl⟩ := Option.map_eq_some_iff.1 h
    refine henv.1 f t pre F (bndOf P st c.callee ++ as) d he ?_ hd
    simpa only [chkOp, hop, appNil_none hf, appOf_none hf, hnh, hro, hfr, hbf, hf, has, he] using hc
   ·cases h
  ·cases h
 obtain ⟨fn, cd, hfn, hbody, hname⟩ := hk.fn
 have hval : ∃ (g : Operand) (bs : List Value), c.callee = .value g /\ a.eval g = .func (.func f) bs.toArray #[] /\ ArgsRep P w ok (bndOf P st c.callee) bs := by
  unfold calleeOf at hf
  split at hf
  ·rename_i g hc
   cases hf
   exact ⟨.func f, [], hc, rfl, by rw [hc]; exact trivial⟩
  ·rename_i i hc
   split at hf
   ·rename_i ht
    rw [Bool.and_eq_true, beq_iff_eq] at ht
    obtain ⟨ht, hu⟩ := ht
    unfold isFuncT at hu
    split at hu
    ·rename_i hu2
     have hbo : bndOf P st c.callee = bndA (st.get i).d := by
      rw [hc]
      have hft : isFuncT P (st.get i).ty = true := by unfold isFuncT; rw [hu2]
      simp only [bndOf, ht, hft, beq_self_eq_true, Bool.and_self, if_true]
     rcases ((R.slot i).d1 ht).func hu2 with ⟨e1, e2 | ⟨f', e2⟩ | ⟨f', e2⟩⟩ | ⟨f', r, t0, x, e1, e2, e3⟩
     ·rw [e1, e2] at hf; simp [fnB] at hf
     rotate_left
     ·rw [e1, e2] at hf; simp [fnB] at hf
     rotate_left
     ·rw [e1, e2] at hf
      simp only [fnB, Option.some.injEq] at hf
      subst hf
      exact ⟨.tmp i, [], hc, e2, by rw [hbo, e1]; exact trivial⟩
     ·rw [e1] at hf
      simp only [fnB, bndD, Option.some.injEq] at hf
      subst hf
      refine ⟨.tmp i, [r], hc, e2, ?_⟩
      rw [hbo, e1]
      exact ⟨⟨rfl, e3⟩, trivial⟩
    ·cases hu
   ·cases hf
  ·cases hf
 obtain ⟨g, bs, hg, hev, hbs⟩ := hval
 have hall : ArgsRep P w ok (bndOf P st c.callee ++ as) (bs ++ c.args.toList.map a.eval) := argsRep_append hbs (argsOf_rep R _ _ _ has)
 have hx : (execOp a.eval o).run P w = .ok (.enter f (bs ++ c.args.toList.map a.eval).toArray) w := by
  unfold execOp
  simp only [hop, resolve, hg, hev, Deferred.ofValue, Sem.run_bind, Sem.run_pure, Result.andThen_ok, invoke]
  have e : (bs.toArray ++ c.args.map a.eval ++ #[] : Array Value) = (bs ++ c.args.toList.map a.eval).toArray := by
   apply Array.ext'; simp
  rw [e]
  have h1 : fn.name ≠ "runtime.NumGoroutine" := by simpa using hname
  simp [callFunc, hfn, h1, hbody]
 unfold Oper.wp
 rw [hx]
 refine (hk.call w ok (bs ++ c.args.toList.map a.eval) R.tabs0 (fun b hb => (R.okb b hb).1) hall).mono ?_
 rintro e w' ⟨v, ok', rfl, hb, hok, hr⟩
 refine ⟨v, fun b => ok b \/ ok' b, rfl, hb, fun b h => .inl h, fun b h => ?_, ?_⟩
 ·rcases h with h | h
  ·exact .inl h
  ·obtain ⟨h1, h2⟩ := hok b h
   rcases h2 with h2 | h2
   ·exact .inl h2
   ·exact .inr ⟨h2, h1⟩
 ·have hr' := hr.move (w' := w') (ok' := fun b => ok b \/ ok' b) (fun _ _ => rfl) (fun b h => .inr h)
  rcases hk.tag with ht | ht
  ·exact ⟨hr'.d1, fun h2 => (by omega), fun h2 => (by omega), fun h2 => (by omega), fun h2 => (by omega), fun h2 => (by omega), fun h2 => (by omega), hr'.dF, hr'.dN, fun h2 => (by omega), hr'.dZ⟩
  ·exact ⟨fun h2 => (by omega), fun h2 => (by omega), fun h2 => (by omega), fun h2 => (by omega), fun h2 => (by omega), hr'.d6, fun h2 => (by omega), fun h2 => (by omega), fun h2 => (by omega), fun h2 => (by omega), fun h2 => (by omega)⟩

end
end Go.Ev
