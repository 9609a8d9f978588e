/- Trees of functions, and lemmas. Nothing here is trusted. -/
import Derived.Test.YtngkmngbnlmgjaaZ15
import Derived.KernelRfl
namespace Go.Ev
def kk (x : D) : Int := intD (fieldD x 0)
def nn (x : D) : Int := intD (fieldD x 1)
def vv (k n : Int) : D := .agg [.lit (.int .i64 k), .lit (.int .i64 n)]
def mayB (x : D) : Bool := kk x == 0 || ((kk x == 1 || kk x == 2) && nn x == 0)
def readD (x : D) : D := bif mayB x then x else vv 2 0
def isErr (x : D) : Bool := kk (readD x) == 2
def isNul (x : D) : Bool := kk (readD x) == 1
def isNum (x : D) : Bool := kk x == 0
def isFal (x : D) : Bool := kk x == 0 && nn x == 0
def isTru (x : D) : Bool := kk x == 0 && nn x != 0
def truthI (b : Bool) : Int := bif b then 1 else 0
def lessB (x y : D) : Bool := decide (kk (readD x) < kk (readD y)) || (kk (readD x) == kk (readD y) && decide (nn (readD x) < nn (readD y)))
def ifNum (n : Int) (l : List D) : D := bif l.any isErr then vv 2 0 else bif l.any isNul then vv 1 0 else vv 0 n
def oddB (l : List D) : Bool := l.any isErr || l.any isNul
def oddD (l : List D) : D := bif l.any isErr then vv 2 0 else vv 1 0
def inR (n : Int) : Bool := decide (-9223372036854775808 <= n) && decide (n <= 9223372036854775807)
def addOK (a b : Int) : Bool := inR (a + b)
def subOK (a b : Int) : Bool := inR (a - b)
def mulOK (a b : Int) : Bool := inR (a * b)
def divOK (a b : Int) : Bool := !(b == 0) && inR (Int.tdiv a b)
def divV (a b : Int) : Int := bif divOK a b then Int.tdiv a b else 0
def reck (fits : Bool) (v : Int) (x y : D) : D := bif [x, y].any isErr then vv 2 0 else bif [x, y].any isNul then vv 1 0 else bif fits then vv 0 v else vv 2 0
def addD (x y : D) : D := reck (addOK (nn x) (nn y)) (nn x + nn y) x y
def subD (x y : D) : D := reck (subOK (nn x) (nn y)) (nn x - nn y) x y
def mulD (x y : D) : D := reck (mulOK (nn x) (nn y)) (nn x * nn y) x y
def divD (x y : D) : D := reck (divOK (nn x) (nn y)) (divV (nn x) (nn y)) x y
def eqV (x y : D) : D := ifNum (truthI (nn x == nn y)) [x, y]
def ltV (x y : D) : D := ifNum (truthI (decide (nn x < nn y))) [x, y]
def andD (l : List D) : D := bif l.any isFal then vv 0 0 else ifNum 1 l
def orD (l : List D) : D := bif l.any isTru then vv 0 1 else ifNum 0 l
def notD (x : D) : D := ifNum (truthI (isFal x)) [x]
def total (l : List D) : Int := (l.map nn).sum
def sumD (l : List D) : D := bif l.any isErr then vv 2 0 else bif !(l.any isNum) then vv 1 0 else bif inR (total l) then vv 0 (total l) else vv 2 0


/-! ### Plain arithmetic -/
theorem wrap64_eq (n : Int) : IntKind.wrap .i64 n = (n + 9223372036854775808) % 18446744073709551616 - 9223372036854775808 := by
 simp only [IntKind.wrap, IntKind.bits, IntKind.signed]
 have : (2 : Int) ^ 64 = 18446744073709551616 := by decide
 have h2 : (2 : Int) ^ (64 - 1) = 9223372036854775808 := by decide
 simp only [this, h2, Bool.true_and, decide_eq_true_eq]
 split <;> omega

theorem inR_iff {n : Int} : inR n = true ↔ -9223372036854775808 <= n /\ n <= 9223372036854775807 := by simp [inR]
theorem inR_not {n : Int} : inR n = false ↔ (n < -9223372036854775808 \/ 9223372036854775807 < n) := by
 have := @inR_iff n
 cases h : inR n <;> simp [h] at this ⊢ <;> omega

theorem wrap_in {n : Int} (h : inR n = true) : IntKind.wrap .i64 n = n := by rw [wrap64_eq]; rw [inR_iff] at h; omega
theorem wrap_inR (n : Int) : inR (IntKind.wrap .i64 n) = true := by rw [inR_iff, wrap64_eq]; omega

theorem wf_inR {n : Int} (h : (Lit.int .i64 n).wf = true) : inR n = true := by
 simp [Lit.wf, IntKind.min, IntKind.max, IntKind.signed, IntKind.bits] at h
 rw [inR_iff]; omega

theorem plus_fits {a b : Int} (ha : inR a = true) (hb : inR b = true) : (decide (IntKind.wrap .i64 (a + b) < a) == decide (b < 0)) = inR (a + b) := by
 rw [inR_iff] at ha hb
 rw [wrap64_eq]
 cases h : inR (a + b)
 ·rw [inR_not] at h
  rw [beq_eq_false_iff_ne, ne_eq, decide_eq_decide]
  omega
 ·rw [inR_iff] at h
  rw [beq_iff_eq, decide_eq_decide]
  omega

theorem minus_fits {a b : Int} (ha : inR a = true) (hb : inR b = true) : (decide (IntKind.wrap .i64 (a - b) > a) == decide (b < 0)) = inR (a - b) := by
 rw [inR_iff] at ha hb
 rw [wrap64_eq]
 cases h : inR (a - b)
 ·rw [inR_not] at h
  rw [beq_eq_false_iff_ne, ne_eq, decide_eq_decide]
  omega
 ·rw [inR_iff] at h
  rw [beq_iff_eq, decide_eq_decide]
  omega

/-- A quotient whose product is near: only the true one is. -/
theorem quot_fits {a b : Int} (ha : inR a = true) (_hb : inR b = true) (h0 : a ≠ 0) (h1 : a ≠ -1) :
  (IntKind.wrap .i64 (Int.tdiv (IntKind.wrap .i64 (a * b)) a) == b) = inR (a * b) := by
 rw [inR_iff] at ha
 have hw := wrap_inR (a * b)
 rw [inR_iff] at hw
 have hk : ∃ k : Int, a * b = IntKind.wrap .i64 (a * b) + k * 18446744073709551616 := by
  refine ⟨(a * b + 9223372036854775808) / 18446744073709551616, ?_⟩
  rw [wrap64_eq]
  omega
 obtain ⟨k, hk⟩ := hk
 generalize hn : IntKind.wrap .i64 (a * b) = n at *
 have hr := Int.mul_tdiv_add_tmod n a
 have hrm : (n.tmod a).natAbs < a.natAbs := by
  rw [Int.natAbs_tmod]
  exact Nat.mod_lt _ (by omega)
 have hqa : (n.tdiv a).natAbs <= n.natAbs := by rw [Int.natAbs_tdiv]; exact Nat.div_le_self _ _
 have hq : inR (n.tdiv a) = true := by
  rw [inR_iff]
  by_cases hq0 : n.tdiv a = 9223372036854775808
  ·exfalso
   rw [hq0] at hr
   have : n = -9223372036854775808 := by omega
   subst this
   have : a * 9223372036854775808 = -9223372036854775808 - (-9223372036854775808 : Int).tmod a := by omega
   have ha1 : a = -1 := by omega
   exact h1 ha1
  ·omega
 rw [wrap_in hq]
 cases h : inR (a * b)
 ·rw [inR_not] at h
  rw [beq_eq_false_iff_ne]
  intro he
  rw [he] at hr
  rw [hk] at hr
  have hk0 : k ≠ 0 := by
   intro hk0
   subst hk0
   omega
  omega
 ·have hin := h
  rw [inR_iff] at h
  have : n = a * b := by rw [<- hn]; exact wrap_in hin
  rw [beq_iff_eq, this]
  exact Int.mul_tdiv_cancel_left b h0

theorem tdiv_fits {a b : Int} (ha : inR a = true) (hb : b ≠ 0) : inR (Int.tdiv a b) = !(a == -9223372036854775808 && b == -1) := by
 rw [inR_iff] at ha
 have hqa : (a.tdiv b).natAbs = a.natAbs / b.natAbs := Int.natAbs_tdiv a b
 by_cases h1 : b = -1
 ·subst h1
  have : a.tdiv (-1) = -a := by rw [Int.tdiv_neg, Int.tdiv_one]
  rw [this]
  cases h : inR (-a)
  ·rw [inR_not] at h
   have : a = -9223372036854775808 := by omega
   subst this
   decide
  ·rw [inR_iff] at h
   have : a ≠ -9223372036854775808 := by omega
   simp [this]
 ·have hle : a.natAbs / b.natAbs <= a.natAbs := Nat.div_le_self _ _
  have : (b == -1) = false := by simpa using h1
  rw [this, Bool.and_false, Bool.not_false, inR_iff]
  by_cases h2 : b = 1
  ·subst h2; rw [Int.tdiv_one]; exact ha
  ·have hb2 : 2 <= b.natAbs := by omega
   have : a.natAbs / b.natAbs <= a.natAbs / 2 := Nat.div_le_div_left hb2 (by omega)
   omega
end Go.Ev
