/- Trees of functions, and lemmas. Nothing here is trusted. -/
import Derived.Test.YtpceahbengfjeaaGreatDoorZ21
import Derived.Test.YtpceahbengfjeaaGreatDoorZ16
namespace Go.Ev
set_option linter.unusedVariables false
set_option linter.unusedSimpArgs false
section
section
variable {P : Program}
theorem pO {n : Nat} {t e : TypeId} {x : D} (h : Ty P n t x) (hu : P.underlying t = some (.slice e)) : ∃ m es, x = .slice es [] /\ es.length <= maxLen /\ ∀ y ∈ es, Ty P m e y := by
 cases n with
 | zero => exact h.elim
 | succ n =>
  unfold Ty at h
  rw [hu] at h
  split at h <;> try (exact h.elim)
  all_goals try (simp_all; done)
  rename_i e es sp heq
  cases heq
  obtain ⟨rfl, hl, hp⟩ := h
  exact ⟨n, es, rfl, hl, hp⟩
theorem yl {n : Nat} {t : TypeId} {f : Field} {x : D} (h : Ty P n t x) (hu : P.underlying t = some (.struct #[f])) : ∃ m a, x = .agg [a] /\ Ty P m f.type a := by
 cases n with
 | zero => exact h.elim
 | succ n =>
  unfold Ty at h
  rw [hu] at h
  split at h <;> try (exact h.elim)
  all_goals try (simp_all; done)
  rename_i fs ps heq
  cases heq
  obtain ⟨hl, hp⟩ := h
  have h0 := hp 0 f rfl
  match ps, hl, h0 with
  | [a], _, h0 => exact ⟨n, a, rfl, h0⟩
theorem yF {n : Nat} {t : TypeId} {f g : Field} {x : D} (h : Ty P n t x) (hu : P.underlying t = some (.struct #[f, g])) : ∃ m a b, x = .agg [a, b] /\ Ty P m f.type a /\ Ty P m g.type b := by
 cases n with
 | zero => exact h.elim
 | succ n =>
  unfold Ty at h
  rw [hu] at h
  split at h <;> try (exact h.elim)
  all_goals try (simp_all; done)
  rename_i fs ps heq
  cases heq
  obtain ⟨hl, hp⟩ := h
  have h0 := hp 0 f rfl
  have h1 := hp 1 g rfl
  match ps, hl, h0, h1 with
  | [a, b], _, h0, h1 => exact ⟨n, a, b, rfl, h0, h1⟩
def f4 (F : D -> D -> D -> D -> Option D) : List D -> Option D | [x, y, z, u] => F x y z u | _ => none
theorem ahb {f : FuncId} {fn : Func} {t t1 t2 t3 t4 : TypeId} {F : D -> D -> D -> D -> Option D} (hf : FnOK P f fn) (h : ∀ x y z u d, F x y z u = some d -> (∃ n, Ty P n t1 x) -> (∃ n, Ty P n t2 y) -> (∃ n, Ty P n t3 z) -> (∃ n, Ty P n t4 u) ->
   CallOK P f [dat t1 (bC P t1 x), dat t2 (bC P t2 y), dat t3 (bC P t3 z), dat t4 (bC P t4 u)] (aj P t d)) :
  ∀ args d, ent [t1, t2, t3, t4] (f4 F) args = some d -> CallOK P f args (aj P t d) :=
 Bj fun ds d hl hd => match ds, hl, hd with
  | [x, y, z, u], _, hd => CallOK.typed hf.ex (uz t d) fun hty => (h x y z u d hd (hty (dat t1 x) (by simp)) (hty (dat t2 y) (by simp)) (hty (dat t3 z) (by simp)) (hty (dat t4 u) (by simp))).norm
end
def BV (l : List D) : Bool := l.isEmpty
theorem J9 {l : List D} (h : BV l = true) : l = [] := List.isEmpty_iff.1 h
theorem Wv (a b : Int) : decide (a < b) = !decide (b <= a) := by by_cases h : b <= a <;> simp [h] <;> omega
theorem PQ (a b : Int) : decide (a > b) = !decide (a <= b) := by by_cases h : a <= b <;> simp [h] <;> omega
theorem PY (a b : Int) : decide (a >= b) = decide (b <= a) := rfl
theorem dT {p : Prop} [Decidable p] (h : p) : decide p = true := decide_eq_true h
theorem dF {p : Prop} [Decidable p] (h : ¬ p) : decide p = false := decide_eq_false h
def bF (n e : Int) : Bool := decide (0 <= n) && decide (n < e)
theorem dw {n e : Int} : bF n e = true ↔ 0 <= n /\ n < e := by unfold bF; rw [Bool.and_eq_true, decide_eq_true_eq, decide_eq_true_eq]
theorem mF {n e : Int} : bF n e = false ↔ ¬ (0 <= n /\ n < e) := by rw [<- dw, Bool.not_eq_true]
def xV (t : D) : Int := intD (af t 0)
def VX (t : D) : Int := intD (af t 1)
def Pi (c r : Int) : D := .agg [fM c, fM r]
def gp (t : D) : Bool := decide (1 <= xV t) && decide (xV t <= 4) && decide (1 <= VX t) && decide (VX t <= 1000000)
theorem pU {t : D} : gp t = true ↔ 1 <= xV t /\ xV t <= 4 /\ 1 <= VX t /\ VX t <= 1000000 := by
 unfold gp
 simp only [Bool.and_eq_true, decide_eq_true_eq, and_assoc]
def lX (t : D) : D := bif gp t then t else Pi 0 0
theorem DD (t : D) : ((intD (af (lX t) 0) == 0) && ((intD (af (lX t) 1) == 0) && true)) = !mayDef t := by
 unfold lX
 cases h : gp t with
 | false => rfl
 | true =>
  have := (pU.1 h).1
  have e : (intD (af t 0) == 0) = false := by
   rw [beq_eq_false_iff_ne]
   unfold xV at this
   omega
  rw [cond_true, e]
  rfl
theorem DL {ρ : Type} (t : D) (A B : ρ) :
  (bif ((decide ((intD (af t 0)) < 1)) == false) then
   bif ((decide ((intD (af t 0)) > 4)) == false) then
    bif ((decide ((intD (af t 1)) < 1)) == false) then
     bif decide ((intD (af t 1)) > 1000000) then A else B
    else A
   else A
  else A) = bif !mayDef t then A else B := by
 unfold gp xV VX
 rw [Wv, PQ, Wv, PQ]
 generalize decide (1 <= intD (af t 0)) = a
 generalize decide (intD (af t 0) <= 4) = b
 generalize decide (1 <= intD (af t 1)) = c
 generalize decide (intD (af t 1) <= 1000000) = d
 cases a <;> cases b <;> cases c <;> cases d <;> rfl
def lH (ts : List D) : D := .agg [.slice ts []]
def tabs (c : D) : List D := ae (af c 0)
theorem iw (ts : List D) : ae (af (lH ts) 0) = ts := rfl
def kY (c : D) : Bool := decide (1 <= (tabs c).length) && decide ((tabs c).length <= 4) && (tabs c).all gp
theorem FD {c : D} : kY c = true ↔ 1 <= (tabs c).length /\ (tabs c).length <= 4 /\ ∀ t ∈ tabs c, gp t = true := by
 unfold kY
 simp only [Bool.and_eq_true, decide_eq_true_eq, List.all_eq_true, and_assoc]
def lZ : D := lH [Pi 2 100, Pi 1 10]
def iZ : D := lH [.slice [.slice [vv 0 1, vv 0 2] [], .slice [vv 0 3, vv 0 4] []] [], .slice [.slice [vv 0 4] []] []]
def aba (r : D) : Bool := decide (((ae r).length : Int) <= 20)
def YE (t : D) : Bool := decide (((ae t).length : Int) <= 20) && (ae t).all aba
def YU (d : D) : Bool := decide (((tabs d).length : Int) <= 10) && (tabs d).all YE
def Ci (occ col : Int) : Int := bif bF occ 4 && bF col 4 then occ * 4 + col else -1
theorem EM {a b : Int} (h1 : 0 <= a /\ a < 4) (h2 : 0 <= b /\ b < 4) : Ci a b = a * 4 + b := by
 unfold Ci
 rw [dw.2 h1, dw.2 h2]
 rfl
theorem zN {a b : Int} (h : ¬ ((0 <= a /\ a < 4) /\ (0 <= b /\ b < 4))) : Ci a b = -1 := by
 unfold Ci
 have : (bF a 4 && bF b 4) = false := by
  rw [<- Bool.not_eq_true, Bool.and_eq_true, dw, dw]
  exact h
 rw [this]
 rfl
def dB (id : Int) : Int := bif bF id 16 then id.tdiv 4 else 0
def splitB (id : Int) : Int := bif bF id 16 then id.tmod 4 else 0
theorem vI {z : Int} (h : 0 <= z /\ z < 16) : dB z = z / 4 /\ splitB z = z % 4 := by
 unfold dB splitB
 rw [dw.2 h, cond_true, cond_true, Int.tdiv_eq_ediv_of_nonneg h.1, Int.tmod_eq_emod_of_nonneg h.1]
 exact ⟨rfl, rfl⟩
theorem BG {z : Int} (h : ¬ (0 <= z /\ z < 16)) : dB z = 0 /\ splitB z = 0 := by
 unfold dB splitB
 rw [mF.2 h]
 exact ⟨rfl, rfl⟩
def RS (b : D) : D := aX (aQ b) (aK b)
def qI (occ : Int) (i : Nat) : D := fM (Ci occ (i : Int))
def ik (n : Nat) (occ : Int) : List D := (List.range n).map (qI occ)
def jY (t : D) (rows : List D) (occ : Int) : D := aX (ik (xV t).toNat occ) rows
def fitsRow (t r : D) : Bool := ((ae r).length == (xV t).toNat) && (ae r).all je
def uQ (t rows : D) : Bool := decide (((ae rows).length : Int) <= 8) && (ae rows).all (fitsRow t)
def xw (c d : D) : Bool := kY c && (((tabs d).length == (tabs c).length) && !(List.range' 0 (tabs c).length).any fun i => !fitsTab ((tabs c).getD i .nil) ((tabs d).getD i .nil))
theorem NP {c d : D} : xw c d = true ↔ kY c = true /\ (tabs d).length = (tabs c).length /\ ∀ i, i < (tabs c).length -> uQ ((tabs c).getD i .nil) ((tabs d).getD i .nil) = true := by
 unfold xw
 rw [Bool.and_eq_true, Bool.and_eq_true, beq_iff_eq, Bool.not_eq_true', <- Bool.not_eq_true, List.any_eq_true]
 refine and_congr Iff.rfl (and_congr Iff.rfl ⟨fun h i hi => ?_, fun h ⟨i, hi, hh⟩ => ?_⟩)
 ·cases hf : uQ ((tabs c).getD i .nil) ((tabs d).getD i .nil) with
  | true => rfl
  | false => exact absurd ⟨i, by simpa using hi, by rw [hf]; rfl⟩ h
 ·rw [h i (by simpa using hi)] at hh
  cases hh
def Il (c d : D) (table occ : Int) : Bool := xw c d && (bF table ((tabs c).length : Int) && bF occ 4)
def Jc (c d : D) (table occ : Int) : D := bif Il c d table occ then jY ((tabs c).getD table.toNat .nil) (ae ((tabs d).getD table.toNat .nil)) occ else aX [] []
theorem Ai (n : Nat) (occ : Int) : (ik n occ).length = n := by unfold ik; simp
theorem TW {n : Nat} {occ : Int} (hn : n <= 4) (h : 0 <= occ /\ occ < 4) : dm (ik n occ) = true := by
 have hn' : n = 0 \/ n = 1 \/ n = 2 \/ n = 3 \/ n = 4 := by omega
 have ho : occ = 0 \/ occ = 1 \/ occ = 2 \/ occ = 3 := by omega
 rcases hn' with rfl | rfl | rfl | rfl | rfl <;> rcases ho with rfl | rfl | rfl | rfl <;> decide
theorem Np {t : D} {rows : List D} {occ : Int} (ht : gp t = true) (hr : rows.length <= 8) (h : 0 <= occ /\ occ < 4) : bn (jY t rows occ) = rows.all (fitsRow t) := by
 obtain ⟨h1, h2, _, _⟩ := pU.1 ht
 unfold bn
 have e1 : dm (aQ (jY t rows occ)) = true := TW (by omega) h
 have e2 : decide ((aK (jY t rows occ)).length <= 5000) = true := dT (show rows.length <= 5000 by omega)
 rw [e1, e2, Bool.true_and, Bool.true_and]
 unfold iQ
 show rows.all (fun r => ((ae r).length == (ik (xV t).toNat occ).length) && (ae r).all je) = _
 rw [Ai]
 rfl
theorem Uz {t : D} {rows : List D} {occ : Int} (ht : gp t = true) (hr : uQ t (.slice rows []) = true) : iX (jY t rows occ) = true := by
 obtain ⟨h1, h2, _, _⟩ := pU.1 ht
 unfold uQ at hr
 rw [Bool.and_eq_true, decide_eq_true_eq, List.all_eq_true] at hr
 obtain ⟨a, b⟩ := hr
 have a : (rows.length : Int) <= 8 := a
 simp only [iX, Bool.and_eq_true, decide_eq_true_eq, List.all_eq_true]
 refine ⟨⟨?_, ?_⟩, fun r hm => ?_⟩
 ·show rows.length <= _
  omega
 ·show (ik _ _).length <= _
  rw [Ai]
  omega
 ·have := b r hm
  unfold fitsRow at this
  rw [Bool.and_eq_true, beq_iff_eq] at this
  omega
end
def Yj (x : D) : Int := intD (af x 0)
def fG (x : D) : List D := ae (af x 1)
def ahF (l : List D) : D := .agg [.lit (.int .i64 0), .slice l []]
def aaN (n : Int) : Bool := decide (n >= 0) && decide (n < 4)
def QS : Nat -> D -> Int
 | 0, _ => 0
 | k + 1, t => bif (((fG t).length : Int) == 0) && aaN (Yj t) then UU .i64 1 (Yj t) else
  bif (((fG t).length : Int) != 2) || (Yj t != 0) then 0 else
  bif (QS k ((fG t).getD 0 .nil) == 0) || (QS k ((fG t).getD 1 .nil) == 0) || (Zb .i64 (QS k ((fG t).getD 0 .nil)) (QS k ((fG t).getD 1 .nil)) != 0) then 0
  else orI .i64 (QS k ((fG t).getD 0 .nil)) (QS k ((fG t).getD 1 .nil))
def XU (t : D) : Int := QS 4 t
def ahz (t : D) : Bool := XU t != 0
def okT : Nat -> D -> Bool
 | 0, _ => false
 | k + 1, t => (fG t).all (okT k)
def szT : Nat -> D -> Nat
 | 0, _ => 1
 | k + 1, t => 1 + ((fG t).map (szT k)).sum
def smK (k : Nat) (t : D) : Bool := okT k t && decide (szT k t <= 100000)
def smT (t : D) : Bool := smK 130 t
def goS (g : D -> Int -> Int) (most : Int) : List D -> Int -> Int
 | [], n => n
 | x :: xs, n => bif decide (n <= most) then goS g most xs (n + g x (most - n)) else n
def szK : Nat -> D -> Int -> Int
 | 0, _, _ => 1
 | k + 1, t, most => goS (szK k) most (fG t) 1
theorem Ph (k : Nat) (t : D) (m : Int) : szK (k + 1) t m = goS (szK k) m (fG t) 1 := rfl
theorem jC {i n : Nat} (hn : n <= maxLen) (h : i < n) : IntKind.wrap .i64 ((i : Int) + 1) = ((i + 1 : Nat) : Int) := by
 rw [wrap_in]
 ·rfl
 ·rw [bH]; unfold maxLen at hn; omega
theorem og {i n : Nat} (h : i < n) : (decide (0 <= (i : Int)) && decide ((i : Int) < (n : Int))) = true := by
 simp only [Bool.and_eq_true, decide_eq_true_eq]; omega
theorem getD_lt {l : List D} {i : Nat} (h : i < l.length) : l.getD i .nil = l[i] := by simp [List.getD, h]
theorem NF (g : D -> Int -> Int) (most : Int) (x : D) (xs : List D) (n : Int) : goS g most (x :: xs) n = bif decide (n <= most) then goS g most xs (n + g x (most - n)) else n := rfl
theorem IZ {g : D -> Int -> Int} {most : Int} (hg : ∀ p m, 0 <= m -> 1 <= g p m /\ g p m <= m + 1) : ∀ (l : List D) (n : Int), 1 <= n -> n <= most + 1 -> 1 <= goS g most l n /\ goS g most l n <= most + 1
 | [], n, h1, h2 => ⟨h1, h2⟩
 | x :: xs, n, h1, h2 => by
  rw [NF]
  by_cases h : n <= most
  ·have d : decide (n <= most) = true := by simpa using h
   rw [d, cond_true]
   obtain ⟨a, b⟩ := hg x (most - n) (by omega)
   exact IZ hg xs _ (by omega) (by omega)
  ·have d : decide (n <= most) = false := by simpa using h
   rw [d, cond_false]
   exact ⟨h1, h2⟩
theorem JV : ∀ (k : Nat) (t : D) (m : Int), 0 <= m -> 1 <= szK k t m /\ szK k t m <= m + 1
 | 0, t, m, h => ⟨Int.le_refl _, by show (1 : Int) <= m + 1; omega⟩
 | k + 1, t, m, h => by rw [Ph]; exact IZ (fun p m' h' => JV k p m' h') (fG t) 1 (by omega) (by omega)
structure ZX (c d : D) (t a : Int) (T : D) (rows : List D) : Prop where
 bag : Jc c d t a = jY T rows a
 may : gp T = true
 occ : 0 <= a /\ a < 4
 fit : rows.all (fitsRow T) = true
 few : rows.length <= 8
 tab : 0 <= t /\ t < ((tabs d).length : Int)
 row : ae ((tabs d).getD t.toNat .nil) = rows
theorem told {c d : D} {t a : Int} (h : Il c d t a = true) : ZX c d t a ((tabs c).getD t.toNat .nil) (ae ((tabs d).getD t.toNat .nil)) := by
 have h' := h
 unfold Il at h'
 rw [Bool.and_eq_true, Bool.and_eq_true] at h'
 obtain ⟨h1, h2, h3⟩ := h'
 obtain ⟨f1, f2, f3⟩ := NP.1 h1
 have a1 := dw.1 h2
 have hi : t.toNat < (tabs c).length := by omega
 have hft := f3 _ hi
 unfold uQ at hft
 rw [Bool.and_eq_true, decide_eq_true_eq] at hft
 refine ⟨?_, ?_, dw.1 h3, hft.2, by omega, by omega, rfl⟩
 ·unfold Jc
  rw [h]
  rfl
 ·rw [dA hi]
  exact (FD.1 f1).2.2 _ (List.getElem_mem hi)
theorem WV {c d : D} {t a : Int} {T : D} {rows : List D} (h : ZX c d t a T rows) : bn (jY T rows a) = true := by
 rw [Np h.may h.few h.occ, h.fit]
end Go.Ev
