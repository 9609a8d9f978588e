/- Trees of functions, and lemmas. Nothing here is trusted. -/
import Derived.Test.YtpceahbengfjeaaGreatDoorZ17
import Derived.Test.YtpceahbengfjeaaGreatDoorZ21
import Derived.Test.YtpceahbengfjeaaGreatDoorZ23
import Derived.Lib.Slices
import Derived.Test.YtpceahbengfjeaaGreatDoorZ22
namespace Go.Ev
set_option linter.unusedVariables false
def opI (e : D) : Int := intD (af e 0)
def rM (e : D) : Int := intD (af e 1)
def kids (e : D) : List D := ae (af e 3)
def vG (op n : Int) : Bool := bif op == 10 then n == 1 else bif op == 0 || op == 1 then n == 0 else bif op == 8 || op == 9 then decide (n <= 4) else n == 2
def mZ (f : D) (n : Int) : Bool := bif !eX (af f 0) then n == 1 else bif !eX (af f 1) then n == 2 else bif !eX (af f 2) then decide (n <= 4) else n == 0
def vS (e : D) : Bool :=
 decide (0 <= opI e) && decide (opI e < 11) && decide (0 <= rM e) && decide (rM e <= 15) && iI (af e 2) &&
 (rM e == 0 || opI e == 1) && ((kk (af e 2) == 0 && nn (af e 2) == 0) || opI e == 0) && vG (opI e) ((kids e).length : Int)
def atD (c : Int) (cols row : List D) : D :=
 bif decide (Lib.idxOf (cols.map intD) c < 0) then vv 2 0 else bif decide (Lib.idxOf (cols.map intD) c >= (row.length : Int)) then vv 2 0
 else bif iI (row.getD (Lib.idxOf (cols.map intD) c).toNat .nil) then row.getD (Lib.idxOf (cols.map intD) c).toNat .nil else vv 2 0
def opV (op : Int) (l : List D) : D :=
 bif op == 2 then WM (l.getD 0 .nil) (l.getD 1 .nil) else bif op == 3 then Xq (l.getD 0 .nil) (l.getD 1 .nil) else bif op == 4 then We (l.getD 0 .nil) (l.getD 1 .nil)
 else bif op == 5 then Xp (l.getD 0 .nil) (l.getD 1 .nil) else bif op == 6 then eqV (l.getD 0 .nil) (l.getD 1 .nil) else bif op == 7 then ltV (l.getD 0 .nil) (l.getD 1 .nil)
 else bif op == 8 then Zx l else bif op == 9 then orD l else Y4 (l.getD 0 .nil)
def goL (g : D -> Int -> Bool × Int) : List D -> Int -> Bool × Int
 | [], n => (true, n)
 | p :: l, n => bif (g p n).1 then goL g l (g p n).2 else (false, (g p n).2)
def rH (e : D) (deep n : Int) : Bool := bif decide (n + 1 <= 30) then bif decide (deep <= 6) then vS e else false else false
def dX : Nat -> D -> Int -> Int -> Bool × Int
 | 0, _, _, n => (false, n)
 | k + 1, e, deep, n => bif rH e deep n then goL (fun p m => dX k p (deep + 1) m) (kids e) (n + 1) else (false, n + 1)
def BB (e : D) : Bool := (dX 7 e 1 0).1
def okK : Nat -> D -> Bool
 | 0, _ => false
 | k + 1, e => vS e && (kids e).all (okK k)
def kR : Nat -> D -> List D
 | 0, _ => []
 | k + 1, e => (bif opI e == 1 then [fO (rM e)] else []) ++ (kids e).flatMap (kR k)
def mg (e : D) : List D := bif BB e then jc (lT (kR 7 e)) else []
def oD (cols row : List D) : Nat -> D -> D
 | 0, _ => vv 2 0
 | k + 1, e => bif opI e == 0 then af e 2 else bif opI e == 1 then atD (rM e) cols row else opV (opI e) ((kids e).map (oD cols row k))
def Rh (e : D) (cols row : List D) : D := bif BB e then oD cols row 7 e else vv 2 0
def BF (e : D) (cols row : List D) : Bool := sS (Rh e cols row)
def Hm (g : D -> Int -> Int) (most : Int) : List D -> Int -> Int
 | [], n => n
 | p :: l, n => bif decide (n <= most) then Hm g most l (n + g p (most - n)) else n
def Ai : Nat -> D -> Int -> Int
 | 0, _, _ => 1
 | k + 1, e, most => Hm (Ai k) most (kids e) 1
def hasK : Nat -> D -> Int -> Bool
 | 0, _, _ => false
 | k + 1, e, c => (opI e == 1 && rM e == c) || (kids e).any fun p => hasK k p c
theorem Tt {e : D} (h : vS e = true) : 0 <= opI e /\ opI e < 11 /\ 0 <= rM e /\ rM e <= 15 /\ iI (af e 2) = true /\ vG (opI e) ((kids e).length : Int) = true := by
 simp only [vS, Bool.and_eq_true, decide_eq_true_eq] at h
 obtain ⟨⟨⟨⟨⟨⟨⟨a, b⟩, c⟩, d⟩, e1⟩, _⟩, _⟩, f⟩ := h
 exact ⟨a, b, c, d, e1, f⟩
def jZ (row ps : List D) : List D := ps.map fun q => row.getD (intD q).toNat .nil
def pX (row ps : List D) : Bool := decide (ps.length <= 2147483648) && ps.all fun q => decide (0 <= intD q) && decide (intD q < (row.length : Int))
def gy (b : D) (cols : List D) : Bool := bn b && dm cols && gG (aQ b) cols
def uL (b : D) (cols : List D) : List D := cols.map fun c => fO (bC (aQ b) (intD c))
def gI (b : D) (cols : List D) : D := bif gy b cols then aX cols ((aK b).map fun r => .slice (jZ (ae r) (uL b cols)) []) else aX [] []
def nM (es cols row : List D) : Bool := es.all fun e => BF e cols row
def jX (es cols rows : List D) : List D := rows.filter fun r => nM es cols (ae r)
def oQ (b : D) (es : List D) : D := aX (aQ b) (jX es (aQ b) (aK b))
section
set_option linter.unusedSimpArgs false
def dQ (q : D) : List D := ae (af q 0)
def qP (q : D) : List D := ae (af q 1)
def qBy (q : D) : Int := intD (af q 2)
def kS (q : D) : List D := ae (af q 3)
def uM (q : D) : List D := ae (af q 4)
def yh (q : D) : Int := intD (af q 5)
def MB (s p : Int) : Bool := MG .i64 p s == 0
def LQ (o : Int) : Int := TW .i64 1 o
def aa3 (c : Int) : Int := LQ (dB c)
def WL (s : Int) : List D -> Int
 | [] => s
 | c :: l => WL (orI .i64 s (aa3 (intD c))) l
def ofE (e : D) : Int := WL 0 (mg e)
def ahf (a b s : Int) : Bool := MB (orI .i64 a b) s && !MB a s && !MB b s
def plc (f : D -> Bool) : List D -> Nat -> List D
 | [], _ => []
 | e :: es, i => (bif f e then [fO (i : Int)] else []) ++ plc f es (i + 1)
def afL (q : D) (s : Int) : List D := plc (fun e => MB s (ofE e)) (qP q) 0
def afl (q : D) (a b : Int) : List D := plc (fun e => ahf a b (ofE e)) (qP q) 0
def ZW : Nat -> Int -> Int
 | 0, s => s
 | n + 1, s => ZW n (Int.fdiv s (2 ^ min (1 : Int).toNat (IntKind.bits .i64)))
def ahJ (set occ : Int) : Bool := ZL .i64 (ZW occ.toNat set) 1 == 1
def Zo (c q : D) (o : Int) : Int := yE ((tabs c).getD (intD ((dQ q).getD o.toNat .nil)).toNat .nil)
def dn (c q : D) : Bool := decide (1 <= (dQ q).length) && decide ((dQ q).length <= 4) && (dQ q).all fun o => bz (intD o) ((tabs c).length : Int)
def jT (c q : D) (x : Int) : Bool := bz x 16 && (decide (dB x < ((dQ q).length : Int)) && decide (splitB x < Zo c q (dB x)))
def gm (c q : D) (l : List D) : Bool := l.all fun x => jT c q (intD x)
def Ff (c q e : D) : Bool := !(mg e).isEmpty && gm c q (mg e)
def l9 (c q : D) : Bool := decide ((qP q).length <= 6) && (qP q).all (Ff c q)
def P6 (l : List D) : Bool := (List.range' 0 l.length).any fun i => hasB (l.take i) (intD (l.getD i .nil))
def JO (c q : D) : Bool := (kS q).isEmpty && (decide (1 <= (uM q).length) && (decide ((uM q).length <= 8) && (gm c q (uM q) && (!P6 (uM q) && (yh q == -1 || hasB (uM q) (yh q))))))
def xf (c q : D) : Bool := jT c q (qBy q) && (decide ((kS q).length <= 4) && (gm c q (kS q) && ((uM q).isEmpty && (yh q == -1 || yh q == qBy q))))
def QP (c q : D) : Bool := bif qBy q == -1 then JO c q else xf c q
def HY (c q : D) : Bool := lL c && (dn c q && (l9 c q && QP c q))
def rY (c q : D) (set : Int) (o : Nat) : List D := bif MB set (LQ (o : Int)) then iy (Zo c q (o : Int)).toNat (o : Int) else []
def ahG (c q : D) (set : Int) : List D := bif HY c q then (List.range (dQ q).length).flatMap (rY c q set) else []
def agd (fewE : D -> Int -> Bool) (c q : D) : Bool := decide ((tabs c).length <= 10) && decide ((dQ q).length <= 20) && decide ((qP q).length <= 8) && decide ((kS q).length <= 20) && decide ((uM q).length <= 20) && (qP q).all fun e => fewE e 60
end
end Go.Ev
namespace Go.Ev
set_option linter.unusedVariables false
set_option linter.unusedSimpArgs false
theorem ah2 (f : D -> Bool) : ∀ (es : List D) (i : Nat), (plc f es i).length = es.countP f
 | [], i => rfl
 | e :: es, i => by
  unfold plc
  rw [List.length_append, ah2 f es (i + 1), List.countP_cons]
  cases f e <;> simp <;> omega
theorem ah1 {f : D -> Bool} {x : D} : ∀ {es : List D} {i : Nat}, x ∈ plc f es i ↔ ∃ k, k < es.length /\ x = fO ((i + k : Nat) : Int) /\ f (es.getD k .nil) = true
 | [], i => by simp [plc]
 | e :: es, i => by
  unfold plc
  rw [List.mem_append, ah1 (es := es) (i := i + 1)]
  constructor
  ·rintro (h | ⟨k, hk, hx, hf⟩)
   ·cases he : f e with
    | true => rw [he, cond_true, List.mem_singleton] at h; exact ⟨0, by simp, h, he⟩
    | false => rw [he, cond_false] at h; cases h
   ·refine ⟨k + 1, by simp; omega, ?_, by simpa using hf⟩
    rw [hx]
    congr 2
    omega
  ·rintro ⟨k, hk, hx, hf⟩
   cases k with
   | zero =>
    left
    have hf : f e = true := hf
    rw [hf, cond_true, List.mem_singleton]
    exact hx
   | succ k =>
    right
    refine ⟨k, by simpa using hk, ?_, by simpa using hf⟩
    rw [hx]
    congr 2
    omega
end Go.Ev
namespace Go.Ev
def acY (f t : Nat) : D -> Bool
 | .agg [.held (.func (.func g) _ _), .lit (.int _ u), _] => g == f && u == (t : Int)
 | _ => false
def abQ : D -> D
 | .agg [_, _, x] => x
 | _ => .nil
end Go.Ev
namespace Go.Ev
set_option linter.unusedVariables false
set_option linter.unusedSimpArgs false
def NJ (cs cols row : List D) : List D := cols.map fun c => row.getD (bC cs (intD c)).toNat .nil
theorem JD (b : D) (cols row : List D) : jZ row (uL b cols) = NJ (aQ b) cols row := by
 unfold jZ uL NJ
 rw [List.map_map]
 rfl
theorem yf {b : D} {cols : List D} (h : gy b cols = true) : gI b cols = aX cols ((aK b).map fun r => .slice (NJ (aQ b) cols (ae r)) []) := by
 unfold gI
 rw [h, cond_true]
 simp only [JD]
theorem TY (cs cols row : List D) : (NJ cs cols row).length = cols.length := by unfold NJ; simp
theorem Gv {l : List D} {c : D} (h : c ∈ l) : hasB l (intD c) = true := by
 unfold hasB
 rw [List.contains_eq_mem, decide_eq_true_eq]
 exact List.mem_map_of_mem h
theorem Tv {l : List D} {z : Int} (h : hasB l z = true) : ∃ c ∈ l, intD c = z := by
 unfold hasB at h
 rw [List.contains_eq_mem, decide_eq_true_eq, List.mem_map] at h
 exact h
theorem Qk {b : D} {cols : List D} : gy b cols = true ↔ bn b = true /\ dm cols = true /\ gG (aQ b) cols = true := by
 unfold gy
 rw [Bool.and_eq_true, Bool.and_eq_true, and_assoc]
theorem Fe {l : List D} (h : dm l = true) : (l.map intD).Nodup := by
 unfold dm at h
 rw [Bool.and_eq_true] at h
 exact xN h.2
theorem ahP {a b : D} (h : jM a b = true) : bn a = true /\ bn b = true /\ qj (aQ a) (aQ b) = false /\ (aK a).length * (aK b).length <= 5000 := by
 unfold jM at h
 rw [Bool.and_eq_true, Bool.and_eq_true, Bool.and_eq_true, Bool.not_eq_true', decide_eq_true_eq] at h
 exact ⟨h.1, h.2.1, h.2.2.1, h.2.2.2⟩
theorem Vy {a b : D} (h1 : bn a = true) (h2 : bn b = true) (h3 : qj (aQ a) (aQ b) = false) (h4 : (aK a).length * (aK b).length <= 5000) : jM a b = true := by
 unfold jM
 rw [h1, h2, h3, decide_eq_true h4]
 rfl
theorem Oz {a b : D} (h : jM a b = true) : jf a b = aX (aQ a ++ aQ b) (jH (aK a) (aK b)) := by
 unfold jf
 rw [h, cond_true]
theorem O6 {a b : List D} : qj a b = true ↔ ∃ c ∈ b, ∃ d ∈ a, intD d = intD c := by
 unfold qj
 rw [List.any_eq_true]
 constructor
 ·rintro ⟨c, hc, h⟩
  obtain ⟨d, hd, e⟩ := Tv h
  exact ⟨c, hc, d, hd, e⟩
 ·rintro ⟨c, hc, d, hd, e⟩
  exact ⟨c, hc, by rw [<- e]; exact Gv hd⟩
theorem ahO (a b : List D) : qj a b = qj b a := by
 rw [Bool.eq_iff_iff, O6, O6]
 constructor
 ·rintro ⟨c, hc, d, hd, e⟩; exact ⟨d, hd, c, hc, e.symm⟩
 ·rintro ⟨c, hc, d, hd, e⟩; exact ⟨d, hd, c, hc, e.symm⟩
theorem ahU (a b c : List D) : qj (a ++ b) c = (qj a c || qj b c) := by
 rw [Bool.eq_iff_iff, Bool.or_eq_true, O6, O6, O6]
 constructor
 ·rintro ⟨x, hx, d, hd, e⟩
  rcases List.mem_append.1 hd with hd | hd
  ·exact .inl ⟨x, hx, d, hd, e⟩
  ·exact .inr ⟨x, hx, d, hd, e⟩
 ·rintro (⟨x, hx, d, hd, e⟩ | ⟨x, hx, d, hd, e⟩)
  ·exact ⟨x, hx, d, List.mem_append_left _ hd, e⟩
  ·exact ⟨x, hx, d, List.mem_append_right _ hd, e⟩
theorem ahY (a b c : List D) : qj a (b ++ c) = (qj a b || qj a c) := by
 rw [ahO, ahU, ahO b a, ahO c a]
theorem BJ : ∀ {l : List Int}, l.Nodup -> rJ l = true
 | [], _ => rfl
 | x :: l, h => by
  rw [List.nodup_cons] at h
  simp only [rJ, Bool.and_eq_true, Bool.not_eq_true', List.contains_eq_mem, decide_eq_false_iff_not]
  exact ⟨h.1, BJ h.2⟩
theorem o5 {b : D} : bn b = true ↔ dm (aQ b) = true /\ (aK b).length <= 5000 /\ ∀ r ∈ aK b, (ae r).length = (aQ b).length /\ ∀ v ∈ ae r, iI v = true := by
 unfold bn iQ
 simp only [Bool.and_eq_true, decide_eq_true_eq, List.all_eq_true, beq_iff_eq, and_assoc]
theorem Xv {A B : List D} (hA : dm A = true) (hB : dm B = true) (hm : qj A B = false) : dm (A ++ B) = true := by
 have nA := Fe hA
 have nB := Fe hB
 unfold dm at hA hB ⊢
 rw [Bool.and_eq_true, List.all_eq_true] at hA hB ⊢
 refine ⟨fun z hz => ?_, ?_⟩
 ·rw [List.map_append] at hz
  rcases List.mem_append.1 hz with hz | hz
  ·exact hA.1 z hz
  ·exact hB.1 z hz
 ·refine BJ ?_
  rw [List.map_append, List.nodup_append]
  refine ⟨nA, nB, fun x hx y hy hxy => ?_⟩
  obtain ⟨c, hc, rfl⟩ := List.mem_map.1 hx
  obtain ⟨d, hd, hh⟩ := List.mem_map.1 hy
  rw [O6.2 ⟨d, hd, c, hc, by rw [hh, hxy]⟩] at hm
  cases hm
theorem Qs {a b : D} (h : jM a b = true) : aQ (jf a b) = aQ a ++ aQ b := by rw [Oz h]; rfl
theorem PY {a b : D} (h : jM a b = true) : aK (jf a b) = jH (aK a) (aK b) := by rw [Oz h]; rfl
theorem ah3 {xs ys : List D} {r : D} (h : r ∈ jH xs ys) : ∃ x ∈ xs, ∃ y ∈ ys, r = Fj x y := by
 unfold jH at h
 obtain ⟨x, hx, h⟩ := List.mem_flatMap.1 h
 obtain ⟨y, hy, rfl⟩ := List.mem_map.1 h
 exact ⟨x, hx, y, hy, rfl⟩
theorem ahT {a b : D} (h : jM a b = true) : bn (jf a b) = true := by
 obtain ⟨h1, h2, h3, h4⟩ := ahP h
 obtain ⟨a1, a2, a3⟩ := o5.1 h1
 obtain ⟨b1, b2, b3⟩ := o5.1 h2
 refine o5.2 ⟨by rw [Qs h]; exact Xv a1 b1 h3, by rw [PY h, S9]; exact h4, fun r hr => ?_⟩
 rw [PY h] at hr
 obtain ⟨x, hx, y, hy, rfl⟩ := ah3 hr
 obtain ⟨c1, c2⟩ := a3 x hx
 obtain ⟨d1, d2⟩ := b3 y hy
 have e : ae (Fj x y) = ae x ++ ae y := rfl
 rw [e, Qs h]
 refine ⟨by rw [List.length_append, List.length_append, c1, d1], fun v hv => ?_⟩
 rcases List.mem_append.1 hv with hv | hv
 ·exact c2 v hv
 ·exact d2 v hv
theorem thrice {a b c : D} (h : jM a b = true) (hp : (aK a).length * (aK b).length * (aK c).length <= 5000) (hq : jM b c = true) : jM (jf a b) c = jM a (jf b c) := by
 obtain ⟨h1, h2, h3, h4⟩ := ahP h
 obtain ⟨_, k2, k3, k4⟩ := ahP hq
 have hp2 : (aK a).length * ((aK b).length * (aK c).length) <= 5000 := by rw [<- Nat.mul_assoc]; exact hp
 unfold jM
 rw [ahT h, ahT hq, h1, k2, Qs h, Qs hq, PY h, PY hq, S9, S9, ahU, ahY, h3, k3, decide_eq_true hp, decide_eq_true hp2]
 cases qj (aQ a) (aQ c) <;> rfl
def b2 (b : Bool) : Nat := bif b then 1 else 0
theorem YQ {c q : D} (h : l9 c q = true) {e : D} (he : e ∈ qP q) : (mg e).isEmpty = false /\ gm c q (mg e) = true := by
 unfold l9 at h
 rw [Bool.and_eq_true, List.all_eq_true] at h
 have := h.2 e he
 unfold Ff at this
 rw [Bool.and_eq_true, Bool.not_eq_true'] at this
 exact this
def iR (c d q : D) : Bool := HY c q && xC c d
def adW (q t : D) : Bool := agM t && decide (W9 t < TW .i64 1 ((dQ q).length : Int))
def Dc (q : D) (o : Int) : Int := intD ((dQ q).getD o.toNat .nil)
def lX (c d q : D) (o : Int) : D := Jv c d (Dc q o) o
def FP (c d q : D) (o : Int) : Bool := decide (0 <= o) && decide (o < ((dQ q).length : Int)) && Ip c d (Dc q o) o
def atL (q : D) (ps : List D) : List D := ps.map fun i => (qP q).getD (intD i).toNat .nil
def acX (q : D) (ps : List D) : Bool := decide (ps.length <= 1000) && ps.all fun i => decide (0 <= intD i) && decide (intD i < ((qP q).length : Int))
def gp (q b : D) : D := bif qBy q != -1 then eF b (qBy q) (kS q) else gI b (uM q)
def gB (q b : D) : Bool := bif qBy q != -1 then dO b (qBy q) (kS q) else gy b (uM q)
def k0 (t : D) : D := (fP t).getD 0 .nil
def k1 (t : D) : D := (fP t).getD 1 .nil
def XA (c d q : D) : Nat -> D -> D
 | 0, _ => .nil
 | k + 1, t => bif ((fP t).length : Int) == 0 then oQ (lX c d q (VX t)) (atL q (afL q (W9 t)))
  else oQ (jf (XA c d q k (k0 t)) (XA c d q k (k1 t))) (atL q (afl q (W9 (k0 t)) (W9 (k1 t))))
def ahE (c d q t : D) : D := bif iR c d q && adW q t then XA c d q 4 t else aX [] []
def GU (c d q : D) : Nat -> D
 | 0 => lX c d q 0
 | n + 1 => jf (GU c d q n) (lX c d q ((n + 1 : Nat) : Int))
def jW (c d q : D) : D := GU c d q ((dQ q).length - 1)
def uo (c d q : D) : D := oQ (jW c d q) (qP q)
def xu (c d q : D) : D := bif iR c d q then gp q (uo c d q) else aX [] []
def Zd (b : Bool) : Int := bif b then 0 else 1
def ahK (f : D -> Int -> Bool) (c d q : D) : Bool := agd f c q && Zl d
def YZ (d q : D) : Bool := bif decide (((dQ q).length : Int) > 3) then (tabs d).all fun t => !decide (((ae t).length : Int) > 3) else (tabs d).all fun t => !decide (((ae t).length : Int) > 5)
def agx (d q : D) : Int := bif YZ d q then 0 else 1
def qf (ja : D -> D -> Bool) (c d q b : D) : Bool := iR c d q && (gB q (uo c d q) && (ja (gp q (uo c d q)) b && (yh q == -1 || sortedB b (yh q))))
def q4 (q : D -> D -> D -> D -> Bool) : List D -> Bool | [x, y, z, u] => q x y z u | _ => false
theorem ZZ {P : Program} {f : FuncId} {fn : Func} {t t1 t2 t3 t4 : TypeId} {q : D -> D -> D -> D -> Bool} {F : D -> D -> D -> D -> Option D} (hf : FnOK P f fn) (h : ∀ x y z u d, q x y z u = true -> F x y z u = some d -> (∃ n, Ty P n t1 x) -> (∃ n, Ty P n t2 y) -> (∃ n, Ty P n t3 z) -> (∃ n, Ty P n t4 u) ->
   CallOK P f [dat t1 (bD P t1 x), dat t2 (bD P t2 y), dat t3 (bD P t3 z), dat t4 (bD P t4 u)] (aj P t d)) :
  ∀ args d, jU (q4 q) args = true -> ent [t1, t2, t3, t4] (f4 F) args = some d -> CallOK P f args (aj P t d) :=
 Ew fun ds d hl hq hd => match ds, hl, hq, hd with
  | [x, y, z, u], _, hq, hd => CallOK.typed hf.ex (tY t d) fun hty => (h x y z u d hq hd (hty (dat t1 x) (by simp)) (hty (dat t2 y) (by simp)) (hty (dat t3 z) (by simp)) (hty (dat t4 u) (by simp))).norm
section
structure Asks (c d q : D) : Prop where
 may : HY c q = true
 fit : xC c d = true
 n1 : 1 <= (dQ q).length
 n4 : (dQ q).length <= 4
 of : ∀ o : Nat, o < (dQ q).length -> Ip c d (Dc q (o : Int)) (o : Int) = true
 p6 : (qP q).length <= 6
 ex : ∀ e ∈ qP q, (mg e).isEmpty = false /\ gm c q (mg e) = true
theorem zx {c d q : D} (h : iR c d q = true) : Asks c d q := by
 unfold iR at h
 rw [Bool.and_eq_true] at h
 obtain ⟨h1, h2⟩ := h
 have h1' := h1
 unfold HY at h1
 simp only [Bool.and_eq_true] at h1
 obtain ⟨a1, a2, a3, a4⟩ := h1
 have ho := a2
 unfold dn at ho
 simp only [Bool.and_eq_true, decide_eq_true_eq, List.all_eq_true] at ho
 have he := a3
 unfold l9 at he
 simp only [Bool.and_eq_true, decide_eq_true_eq] at he
 refine ⟨h1', h2, ho.1.1, ho.1.2, fun o hlt => ?_, he.1, fun e hm => YQ a3 hm⟩
 have hb := ho.2 _ (List.getElem_mem hlt)
 unfold Ip
 rw [h2, Bool.true_and]
 have e1 : Dc q (o : Int) = intD (dQ q)[o] := by unfold Dc; rw [Int.toNat_natCast, dA hlt]
 have h4 := ho.1.2
 rw [e1, hb, Bool.true_and]
 refine dw.2 ⟨Int.natCast_nonneg _, ?_⟩
 have h5 : o < 4 := Nat.lt_of_lt_of_le hlt h4
 exact_mod_cast h5
theorem XT {c d q : D} (h : Asks c d q) {o : Nat} (ho : o < (dQ q).length) : FP c d q (o : Int) = true := by
 unfold FP
 rw [h.of o ho, Bool.and_true]
 simp only [Bool.and_eq_true, decide_eq_true_eq]
 omega
def rws (b : D) : List (List D) := (aK b).map ae
def CO (c d q : D) (o : Nat) : List D := aQ (lX c d q (o : Int))
def RO (c d q : D) (o : Nat) : List (List D) := rws (lX c d q (o : Int))
def PC (c d q : D) (l : List Nat) : List D := l.flatMap (CO c d q)
def PR (c d q : D) : List Nat -> List (List D)
 | [] => [[]]
 | o :: l => (RO c d q o).flatMap fun x => (PR c d q l).map (x ++ ·)
theorem Oq {b : D} : bn b = true ↔ dm (aQ b) = true /\ (rws b).length <= 5000 /\ ∀ r ∈ rws b, r.length = (aQ b).length /\ ∀ v ∈ r, iI v = true := by
 rw [o5]
 unfold rws
 rw [List.length_map]
 refine and_congr Iff.rfl (and_congr Iff.rfl ⟨fun h r hr => ?_, fun h r hr => h _ (List.mem_map.2 ⟨r, hr, rfl⟩)⟩)
 obtain ⟨x, hx, rfl⟩ := List.mem_map.1 hr
 exact h x hx
structure One (c d q : D) (o : Nat) : Prop where
 may : bn (lX c d q (o : Int)) = true
 few : (RO c d q o).length <= 8
 row : ∀ r ∈ RO c d q o, r.length = (CO c d q o).length /\ ∀ v ∈ r, iI v = true
 col : ∀ z ∈ CO c d q o, dB (intD z) = (o : Int)
 seen : CO c d q o = iy (Zo c q (o : Int)).toNat (o : Int)
 cmay : dm (CO c d q o) = true
theorem PN {n : Nat} {o : Int} (hn : n <= 4) (h : 0 <= o /\ o < 4) {z : D} (hz : z ∈ iy n o) : dB (intD z) = o := by
 unfold iy at hz
 obtain ⟨i, hi, rfl⟩ := List.mem_map.1 hz
 have hi := List.mem_range.1 hi
 unfold qQ
 show dB (Cj o (i : Int)) = o
 rw [EP h ⟨by omega, by omega⟩]
 rw [(vK (z := o * 4 + (i : Int)) (by omega)).1]
 omega
theorem E9 {c d q : D} (h : Asks c d q) {o : Nat} (ho : o < (dQ q).length) : One c d q o := by
 have hof := h.of o ho
 have ht := told hof
 obtain ⟨d1, d2, _, _⟩ := qw.1 ht.may
 have hm := V5 ht
 have hbag : lX c d q (o : Int) = kz ((tabs c).getD (Dc q (o : Int)).toNat .nil) (ae ((tabs d).getD (Dc q (o : Int)).toNat .nil)) (o : Int) := ht.bag
 rw [<- hbag] at hm
 have hv := Oq.1 hm
 have hcols : CO c d q o = iy (yE ((tabs c).getD (Dc q (o : Int)).toNat .nil)).toNat (o : Int) := by
  unfold CO
  rw [hbag]
  rfl
 refine ⟨hm, ?_, hv.2.2, ?_, hcols, hv.1⟩
 ·unfold RO rws
  rw [List.length_map, hbag]
  exact ht.few
 ·intro z hz
  rw [hcols] at hz
  exact PN (by omega) ht.occ hz
variable {c d q : D}
theorem aaH (l m : List Nat) : PC c d q (l ++ m) = PC c d q l ++ PC c d q m := by unfold PC; rw [List.flatMap_append]
theorem TL (o : Nat) (l : List Nat) : PC c d q (o :: l) = CO c d q o ++ PC c d q l := by unfold PC; rw [List.flatMap_cons]
theorem AQ (o : Nat) (l : List Nat) : PR c d q (o :: l) = (RO c d q o).flatMap fun x => (PR c d q l).map (x ++ ·) := rfl
theorem Yd : ∀ (l m : List Nat), PR c d q (l ++ m) = (PR c d q l).flatMap fun x => (PR c d q m).map (x ++ ·)
 | [], m => by simp [PR]
 | o :: l, m => by
  rw [List.cons_append, AQ, AQ, Yd l m, List.flatMap_assoc]
  congr 1
  funext x
  rw [List.map_flatMap, List.flatMap_map]
  congr 1
  funext y
  rw [List.map_map]
  congr 1
  funext z
  simp
theorem PZ (o : Nat) : PR c d q [o] = RO c d q o := by
 rw [AQ]
 simp [PR]
def xQ (q : D) (l : List Nat) : Prop := ∀ o ∈ l, o < (dQ q).length
theorem OV (h : Asks c d q) {l : List Nat} (hl : xQ q l) {z : D} (hz : z ∈ PC c d q l) : ∃ o ∈ l, dB (intD z) = (o : Int) := by
 unfold PC at hz
 obtain ⟨o, ho, hz⟩ := List.mem_flatMap.1 hz
 exact ⟨o, ho, (E9 h (hl o ho)).col z hz⟩
theorem TA (h : Asks c d q) {l m : List Nat} (hl : xQ q l) (hm : xQ q m) (hd : ∀ o ∈ l, o ∉ m) : qj (PC c d q l) (PC c d q m) = false := by
 cases hmm : qj (PC c d q l) (PC c d q m) with
 | false => rfl
 | true =>
  obtain ⟨x, hx, y, hy, hxy⟩ := O6.1 hmm
  obtain ⟨o, ho, h1⟩ := OV h hm hx
  obtain ⟨p, hp, h2⟩ := OV h hl hy
  rw [hxy] at h2
  have : o = p := by omega
  subst this
  exact absurd ho (hd o hp)
theorem KN (h : Asks c d q) : ∀ {l : List Nat}, xQ q l -> l.Nodup -> dm (PC c d q l) = true
 | [], _, _ => rfl
 | o :: l, hl, hn => by
  rw [List.nodup_cons] at hn
  rw [TL]
  have ho := E9 h (hl o (by simp))
  have hl' : xQ q l := fun p hp => hl p (by simp [hp])
  refine Xv ho.cmay (KN h hl' hn.2) ?_
  have := TA h (l := [o]) (m := l) (fun p hp => by rw [List.mem_singleton] at hp; subst hp; exact hl p (by simp)) hl' (fun p hp => by rw [List.mem_singleton] at hp; subst hp; exact hn.1)
  have e : PC c d q [o] = CO c d q o := by unfold PC; simp
  rw [e] at this
  exact this
theorem Kv (h : Asks c d q) : ∀ {l : List Nat}, xQ q l -> ∀ r ∈ PR c d q l, r.length = (PC c d q l).length /\ ∀ v ∈ r, iI v = true
 | [], _, r, hr => by
  simp only [PR, List.mem_singleton] at hr
  subst hr
  exact ⟨rfl, fun v hv => by cases hv⟩
 | o :: l, hl, r, hr => by
  rw [AQ] at hr
  obtain ⟨x, hx, hr⟩ := List.mem_flatMap.1 hr
  obtain ⟨y, hy, rfl⟩ := List.mem_map.1 hr
  obtain ⟨a1, a2⟩ := (E9 h (hl o (by simp))).row x hx
  obtain ⟨b1, b2⟩ := Kv h (fun p hp => hl p (by simp [hp])) y hy
  rw [TL]
  refine ⟨by rw [List.length_append, List.length_append, a1, b1], fun v hv => ?_⟩
  rcases List.mem_append.1 hv with hv | hv
  ·exact a2 v hv
  ·exact b2 v hv
theorem Dy {α β : Type} (f : α -> List β) (k : Nat) : ∀ (l : List α), (∀ x ∈ l, (f x).length <= k) -> (l.flatMap f).length <= l.length * k
 | [], _ => by simp
 | x :: l, h => by
  have h1 := h x (by simp)
  have h2 := Dy f k l (fun y hy => h y (by simp [hy]))
  rw [List.flatMap_cons, List.length_append, List.length_cons, Nat.succ_mul]
  omega
theorem KX (h : Asks c d q) : ∀ {l : List Nat}, xQ q l -> (PR c d q l).length <= 8 ^ l.length
 | [], _ => by simp [PR]
 | o :: l, hl => by
  have h1 := KX h (l := l) (fun p hp => hl p (by simp [hp]))
  have h2 := (E9 h (hl o (by simp))).few
  rw [AQ, List.length_cons, Nat.pow_succ]
  refine Nat.le_trans (Dy _ (PR c d q l).length _ (fun x _ => by simp)) ?_
  have := Nat.mul_le_mul h2 h1
  rw [Nat.mul_comm (8 ^ l.length) 8]
  exact this
theorem XF {n : Nat} {l : List Nat} (hl : ∀ o ∈ l, o < n) (hn : l.Nodup) : l.length <= n := by
 have hm : (l.map fun o : Nat => (o : Int)).Nodup := List.Pairwise.map _ (fun a b hab hh => hab (by omega)) hn
 have := oN n (l.map fun o : Nat => (o : Int)) hm (fun z hz => by
  obtain ⟨o, ho, rfl⟩ := List.mem_map.1 hz
  have := hl o ho
  omega)
 simpa using this
theorem EK (h : Asks c d q) {l : List Nat} (hl : xQ q l) (hn : l.Nodup) : 8 ^ l.length <= 4096 := by
 have h1 := XF hl hn
 have h2 := h.n4
 have h3 := Nat.pow_le_pow_right (show 0 < 8 by decide) (show l.length <= 4 by omega)
 exact Nat.le_trans h3 (by decide)
def Vw (b : D) (C : List D) (R : List (List D)) : Prop := aQ b = C /\ rws b = R
theorem Qr {b : D} {C : List D} {R : List (List D)} (hv : Vw b C R) (h1 : dm C = true) (h2 : R.length <= 5000) (h3 : ∀ r ∈ R, r.length = C.length /\ ∀ v ∈ r, iI v = true) : bn b = true :=
 Oq.2 ⟨by rw [hv.1]; exact h1, by rw [hv.2]; exact h2, by rw [hv.1, hv.2]; exact h3⟩
theorem Ug {a b : D} (h : jM a b = true) : rws (jf a b) = (rws a).flatMap fun x => (rws b).map (x ++ ·) := by
 unfold rws
 rw [PY h]
 unfold jH
 rw [List.map_flatMap, List.flatMap_map]
 congr 1
 funext x
 rw [List.map_map, List.map_map]
 rfl
def OZ (es : List D) (C : List D) (R : List (List D)) : List (List D) := R.filter (nM es C)
theorem ZJ {b : D} {C : List D} {R : List (List D)} (h : Vw b C R) (es : List D) : Vw (oQ b es) C (OZ es C R) := by
 obtain ⟨h1, h2⟩ := h
 refine ⟨h1, ?_⟩
 unfold rws oQ OZ
 show ((jX es (aQ b) (aK b)).map ae) = _
 rw [<- h2, <- h1]
 unfold rws jX
 rw [List.filter_map]
 rfl
theorem VD {es C : List D} {R : List (List D)} {r : List D} (h : r ∈ OZ es C R) : r ∈ R := (List.mem_filter.1 h).1
theorem NP (h : Asks c d q) {l m : List Nat} (hl : xQ q (l ++ m)) (hn : (l ++ m).Nodup) {a b : D} {R S : List (List D)} (ha : Vw a (PC c d q l) R) (hb : Vw b (PC c d q m) S) (hR : ∀ r ∈ R, r ∈ PR c d q l) (hS : ∀ r ∈ S, r ∈ PR c d q m)
  (hRl : R.length <= (PR c d q l).length) (hSl : S.length <= (PR c d q m).length) :
  jM a b = true /\ Vw (jf a b) (PC c d q (l ++ m)) (R.flatMap fun x => S.map (x ++ ·)) := by
 have hn' := List.nodup_append.1 hn
 have hl1 : xQ q l := fun o ho => hl o (List.mem_append.2 (.inl ho))
 have hl2 : xQ q m := fun o ho => hl o (List.mem_append.2 (.inr ho))
 have hdis : ∀ o ∈ l, o ∉ m := fun o ho hm => hn'.2.2 o ho o hm rfl
 have f1 := KX h hl1
 have f2 := KX h hl2
 have f3 := EK h hl hn
 rw [List.length_append, Nat.pow_add] at f3
 have p1 : 8 ^ l.length <= 4096 := EK h hl1 hn'.1
 have p2 : 8 ^ m.length <= 4096 := EK h hl2 hn'.2.1
 have hx : jM a b = true := by
  refine Vy (Qr ha (KN h hl1 hn'.1) (by omega) fun r hr => Kv h hl1 r (hR r hr)) (Qr hb (KN h hl2 hn'.2.1) (by omega) fun r hr => Kv h hl2 r (hS r hr)) ?_ ?_
  ·rw [ha.1, hb.1]; exact TA h hl1 hl2 hdis
  ·have e1 : (aK a).length = R.length := by rw [<- ha.2]; simp [rws]
   have e2 : (aK b).length = S.length := by rw [<- hb.2]; simp [rws]
   rw [e1, e2]
   refine Nat.le_trans (Nat.mul_le_mul (Nat.le_trans hRl f1) (Nat.le_trans hSl f2)) (by omega)
 refine ⟨hx, ?_, ?_⟩
 ·rw [Qs hx, ha.1, hb.1, aaH]
 ·rw [Ug hx, ha.2, hb.2]
theorem yN {l : List D} {z : Int} : hasB l z = true ↔ ∃ x ∈ l, intD x = z := by
 refine ⟨Tv, ?_⟩
 rintro ⟨x, hx, rfl⟩
 exact Gv hx
theorem aa7 {l : List Nat} {z : Int} : hasB (PC c d q l) z = true ↔ ∃ o ∈ l, hasB (CO c d q o) z = true := by
 rw [yN]
 unfold PC
 constructor
 ·rintro ⟨x, hx, rfl⟩
  obtain ⟨o, ho, hx⟩ := List.mem_flatMap.1 hx
  exact ⟨o, ho, Gv hx⟩
 ·rintro ⟨o, ho, hz⟩
  obtain ⟨x, hx, rfl⟩ := yN.1 hz
  exact ⟨x, List.mem_flatMap.2 ⟨o, ho, hx⟩, rfl⟩
end
section
theorem agO {q : D} (hp : (qP q).length <= 6) (f : D -> Bool) : acX q (plc f (qP q) 0) = true := by
 unfold acX
 simp only [Bool.and_eq_true, decide_eq_true_eq, List.all_eq_true]
 refine ⟨?_, fun x hx => ?_⟩
 ·rw [ah2]
  exact Nat.le_trans (List.countP_le_length) (by omega)
 ·obtain ⟨k, hk, rfl, _⟩ := ah1.1 hx
  rw [show intD (fO ((0 + k : Nat) : Int)) = ((0 + k : Nat) : Int) from rfl]
  omega
variable {c d q : D}
theorem aaE (h : Asks c d q) {z : Int} (hz : jT c q z = true) : (dB z).toNat < (dQ q).length /\ hasB (CO c d q (dB z).toNat) z = true := by
 unfold jT at hz
 simp only [Bool.and_eq_true, decide_eq_true_eq] at hz
 obtain ⟨h1, h2, h3⟩ := hz
 have hb := dw.1 h1
 obtain ⟨s1, s2⟩ := vK (z := z) ⟨hb.1, hb.2⟩
 have hlt : (dB z).toNat < (dQ q).length := by omega
 refine ⟨hlt, ?_⟩
 have ho := E9 h hlt
 rw [ho.seen]
 have e : (((dB z).toNat : Nat) : Int) = dB z := by omega
 rw [e]
 refine yN.2 ⟨qQ (dB z) (splitB z).toNat, ?_, ?_⟩
 ·unfold iy
  refine List.mem_map.2 ⟨(splitB z).toNat, List.mem_range.2 (by omega), rfl⟩
 ·show Cj (dB z) (((splitB z).toNat : Nat) : Int) = z
  rw [EP (by omega) (by omega)]
  omega
theorem O3 (es C : List D) (R : List (List D)) : (OZ es C R).length <= R.length := List.length_filter_le _ _
theorem tH {n : Nat} (h : n <= (dQ q).length) : xQ q (List.range n) := fun o ho => by have := List.mem_range.1 ho; omega
theorem BR (h : Asks c d q) : ∀ m, m < (dQ q).length -> Vw (GU c d q m) (PC c d q (List.range (m + 1))) (PR c d q (List.range (m + 1)))
 | 0, _ => by
  rw [show List.range (0 + 1) = [0] from rfl, PZ, show PC c d q [0] = CO c d q 0 by unfold PC; simp]
  exact ⟨rfl, rfl⟩
 | m + 1, hm => by
  have ih := BR h m (by omega)
  have h1 : Vw (lX c d q ((m + 1 : Nat) : Int)) (PC c d q [m + 1]) (PR c d q [m + 1]) := by
   rw [PZ, show PC c d q [m + 1] = CO c d q (m + 1) by unfold PC; simp]
   exact ⟨rfl, rfl⟩
  have e : List.range (m + 1 + 1) = List.range (m + 1) ++ [m + 1] := List.range_succ
  have hn : (List.range (m + 1) ++ [m + 1]).Nodup := by rw [<- e]; exact List.nodup_range
  have ho : xQ q (List.range (m + 1) ++ [m + 1]) := by rw [<- e]; exact tH (by omega)
  have := (NP h ho hn ih h1 (fun r hr => hr) (fun r hr => hr) (Nat.le_refl _) (Nat.le_refl _)).2
  rw [<- Yd, <- e] at this
  exact this
theorem Qd (h : Asks c d q) {m : Nat} (hm : m + 1 < (dQ q).length) : jM (GU c d q m) (lX c d q ((m + 1 : Nat) : Int)) = true := by
 have ih := BR h m (by omega)
 have h1 : Vw (lX c d q ((m + 1 : Nat) : Int)) (PC c d q [m + 1]) (PR c d q [m + 1]) := by
  rw [PZ, show PC c d q [m + 1] = CO c d q (m + 1) by unfold PC; simp]
  exact ⟨rfl, rfl⟩
 have e : List.range (m + 1 + 1) = List.range (m + 1) ++ [m + 1] := List.range_succ
 have hn : (List.range (m + 1) ++ [m + 1]).Nodup := by rw [<- e]; exact List.nodup_range
 have ho : xQ q (List.range (m + 1) ++ [m + 1]) := by rw [<- e]; exact tH (by omega)
 exact (NP h ho hn ih h1 (fun r hr => hr) (fun r hr => hr) (Nat.le_refl _) (Nat.le_refl _)).1
theorem G8 (h : Asks c d q) : Vw (jW c d q) (PC c d q (List.range (dQ q).length)) (PR c d q (List.range (dQ q).length)) := by
 have := BR h ((dQ q).length - 1) (by have := h.n1; omega)
 have hn := h.n1
 rw [show (dQ q).length - 1 + 1 = (dQ q).length by omega] at this
 exact this
theorem Yn (h : Asks c d q) : Vw (uo c d q) (PC c d q (List.range (dQ q).length)) (OZ (qP q) (PC c d q (List.range (dQ q).length)) (PR c d q (List.range (dQ q).length))) :=
 ZJ (G8 h) _
theorem ZN (h : Asks c d q) {l : List Nat} (hl : xQ q l) (hn : l.Nodup) {b : D} {R : List (List D)} (hv : Vw b (PC c d q l) R) (hR : ∀ r ∈ R, r ∈ PR c d q l) (hRl : R.length <= (PR c d q l).length) : bn b = true := by
 have f1 := KX h hl
 have f2 := EK h hl hn
 exact Qr hv (KN h hl hn) (by omega) fun r hr => Kv h hl r (hR r hr)
theorem QU {b : D} (h : bn b = true) : iY b = true := by
 obtain ⟨h1, h2, h3⟩ := o5.1 h
 have h4 := pM h1
 unfold iY
 simp only [Bool.and_eq_true, decide_eq_true_eq, List.all_eq_true]
 exact ⟨⟨by omega, by omega⟩, fun r hr => by rw [(h3 r hr).1]; omega⟩
end
section
variable {c d q : D}
theorem Uw : ∀ {l : List D}, P6 l = false -> (l.map intD).Nodup := by
 intro l h
 unfold List.Nodup
 rw [List.pairwise_iff_getElem]
 intro i j hi hj hij e
 have hi : i < l.length := by simpa using hi
 have hj' : j < l.length := by simpa using hj
 unfold P6 at h
 rw [List.any_eq_false] at h
 refine h j (List.mem_range'_1.2 ⟨Nat.zero_le _, by omega⟩) ?_
 rw [yN]
 refine ⟨l[i], ?_, ?_⟩
 ·rw [List.mem_iff_getElem?]
  exact ⟨i, by rw [List.getElem?_take, if_pos hij, List.getElem?_eq_getElem hi]⟩
 ·rw [dA hj']
  simpa using e
theorem RD {l : List D} : gm c q l = true ↔ ∀ x ∈ l, jT c q (intD x) = true := by unfold gm; rw [List.all_eq_true]
theorem OX (h : Asks c d q) {l : List Nat} (hall : ∀ o, o < (dQ q).length -> o ∈ l) {z : Int} (hz : jT c q z = true) : hasB (PC c d q l) z = true := by
 obtain ⟨h1, h2⟩ := aaE h hz
 exact aa7.2 ⟨_, hall _ h1, h2⟩
theorem DC (h : Asks c d q) {l : List Nat} (hall : ∀ o, o < (dQ q).length -> o ∈ l) {s : List D} (hs : gm c q s = true) : gG (PC c d q l) s = true := by
 unfold gG
 rw [List.all_eq_true]
 intro z hz
 obtain ⟨x, hx, rfl⟩ := List.mem_map.1 hz
 exact OX h hall (RD.1 hs x hx)
theorem aaF (h : Asks c d q) : QP c q = true := by
 have := h.may
 unfold HY at this
 simp only [Bool.and_eq_true] at this
 exact this.2.2.2
theorem zL {l : List D} (h1 : gm c q l = true) (h2 : P6 l = false) : dm l = true := by
 unfold dm
 rw [Bool.and_eq_true]
 refine ⟨?_, BJ (Uw h2)⟩
 rw [List.all_eq_true]
 intro z hz
 obtain ⟨x, hx, rfl⟩ := List.mem_map.1 hz
 have := RD.1 h1 x hx
 unfold jT at this
 rw [Bool.and_eq_true] at this
 have hb := dw.1 this.1
 simp only [Bool.and_eq_true, decide_eq_true_eq]
 omega
theorem abg (h : Asks c d q) {l : List Nat} (hall : ∀ o, o < (dQ q).length -> o ∈ l) {b : D} (hC : aQ b = PC c d q l) (hb : bn b = true) : gB q b = true := by
 have he := aaF h
 unfold QP at he
 unfold gB
 cases hq : qBy q == -1 with
 | true =>
  rw [hq, cond_true] at he
  have hq' : (qBy q != -1) = false := by unfold bne; rw [hq]; rfl
  rw [hq', cond_false]
  unfold JO at he
  simp only [Bool.and_eq_true, Bool.not_eq_true'] at he
  unfold gy
  rw [hb, zL he.2.2.2.1 he.2.2.2.2.1, hC, DC h hall he.2.2.2.1]
  rfl
 | false =>
  rw [hq, cond_false] at he
  have hq' : (qBy q != -1) = true := by unfold bne; rw [hq]; rfl
  rw [hq', cond_true]
  unfold xf at he
  simp only [Bool.and_eq_true] at he
  unfold dO
  rw [hb, hC, OX h hall he.1, DC h hall he.2.2.1, he.2.1]
  rfl
theorem SY (h : Asks c d q) : bn (uo c d q) = true :=
 ZN h (tH (Nat.le_refl _)) List.nodup_range (Yn h) (fun r hr => VD hr) (O3 _ _ _)
theorem SC (h : Asks c d q) : gB q (uo c d q) = true :=
 abg h (l := List.range (dQ q).length) (fun o ho => List.mem_range.2 ho) (Yn h).1 (SY h)
theorem Ns (h : Asks c d q) : bn (jW c d q) = true :=
 ZN h (tH (Nat.le_refl _)) List.nodup_range (G8 h) (fun r hr => hr) (Nat.le_refl _)
end
theorem SQ (cols : List D) (p : Int) (sums : List D) : ∀ (k : Nat) (rows : List D), (uP cols p sums k rows).length <= rows.length
 | 0, rows => Nat.zero_le _
 | k + 1, [] => Nat.le_refl _
 | k + 1, r :: rows => by
  unfold uP
  have ih := SQ cols p sums k ((r :: rows).drop (eU (r :: rows) p))
  have h1 : 1 <= eU (r :: rows) p := by unfold eU; omega
  simp only [List.length_cons, List.length_drop] at ih ⊢
  omega
theorem RU (cols : List D) (p : Int) (sums : List D) : ∀ (k : Nat) (rows : List D), ∀ r ∈ uP cols p sums k rows, (ae r).length = 2 + sums.length
 | 0, rows => by intro r hr; cases hr
 | k + 1, [] => by intro r hr; cases hr
 | k + 1, x :: rows => by
  intro r hr
  unfold uP at hr
  rcases List.mem_cons.1 hr with rfl | hr
  ·show (nz _ p sums).length = _
   unfold nz
   simp
   omega
  ·exact RU cols p sums k _ r hr
theorem Ky {q b : D} : (aK (gp q b)).length <= (aK b).length := by
 unfold gp
 cases hq : (qBy q != -1) with
 | true =>
  rw [cond_true]
  unfold eF
  cases hg : dO b (qBy q) (kS q) with
  | true =>
   rw [cond_true]
   refine Nat.le_trans (SQ _ _ _ _ _) ?_
   unfold dH
   rw [eP]
   exact Nat.le_refl _
  | false => exact Nat.zero_le _
 | false =>
  rw [cond_false]
  unfold gI
  cases hg : gy b (uM q) with
  | true =>
   rw [cond_true]
   show ((aK b).map _).length <= _
   rw [List.length_map]
   exact Nat.le_refl _
  | false => exact Nat.zero_le _
theorem Ry {q b : D} : ∀ r ∈ aK (gp q b), (ae r).length <= 16 := by
 unfold gp
 cases hq : (qBy q != -1) with
 | true =>
  rw [cond_true]
  unfold eF
  cases hg : dO b (qBy q) (kS q) with
  | true =>
   rw [cond_true]
   intro r hr
   unfold dO at hg
   simp only [Bool.and_eq_true, decide_eq_true_eq] at hg
   rw [RU _ _ _ _ _ r hr]
   omega
  | false => intro r hr; cases hr
 | false =>
  rw [cond_false]
  unfold gI
  cases hg : gy b (uM q) with
  | true =>
   rw [cond_true]
   intro r hr
   obtain ⟨x, hx, rfl⟩ := List.mem_map.1 (show r ∈ (aK b).map _ from hr)
   show (jZ (ae x) (uL b (uM q))).length <= 16
   have h3 := pM (Qk.1 hg).2.1
   rw [JD, TY]
   omega
  | false => intro r hr; cases hr
theorem XD {c d q : D} : (aK (xu c d q)).length <= 5000 /\ ∀ r ∈ aK (xu c d q), (ae r).length <= 16 := by
 unfold xu
 cases h : iR c d q with
 | true =>
  rw [cond_true]
  refine ⟨Nat.le_trans Ky ?_, Ry⟩
  exact (o5.1 (SY (zx h))).2.1
 | false => exact ⟨Nat.zero_le _, fun r hr => by cases hr⟩
def Bc (p : Int) (r : D) : Prop := 0 <= p /\ p < ((ae r).length : Int) /\ iI ((ae r).getD p.toNat .nil) = true
theorem Ce {p : Int} {r : D} (h : Bc p r) : fC (ae r) p = .agg [fO (kk ((ae r).getD p.toNat .nil)), fO (nn ((ae r).getD p.toNat .nil))] := by
 unfold fC
 have e : (decide (p < 0) || decide (p >= ((ae r).length : Int))) = false := by
  have := h.1; have := h.2.1
  rw [Bool.or_eq_false_iff, decide_eq_false_iff_not, decide_eq_false_iff_not]
  omega
 rw [e, cond_false, h.2.2, cond_true]
theorem zH {p : Int} {r : D} (h : Bc p r) : keyAt p r = sH ((ae r).getD p.toNat .nil) := by
 unfold keyAt
 rw [Ce h]
 have hv : iI (vv (kk ((ae r).getD p.toNat .nil)) (nn ((ae r).getD p.toNat .nil))) = true := h.2.2
 generalize (ae r).getD p.toNat .nil = v at hv ⊢
 show (kk (gX (vv (kk v) (nn v))), nn (gX (vv (kk v) (nn v)))) = sH v
 unfold gX
 rw [hv]
 rfl
theorem Zj {p : Int} {r s : D} (h : Bc p r) (g : Bc p s) : nZ (fC (ae r) p) (fC (ae s) p) = decide (keyAt p r = keyAt p s) := by
 rw [Ce h, Ce g, zH h, zH g]
 generalize (ae r).getD p.toNat .nil = v
 generalize (ae s).getD p.toNat .nil = u
 show ((kk v == kk u) && ((nn v == nn u) && true)) = decide ((kk v, nn v) = (kk u, nn u))
 rw [Bool.and_true, Bool.eq_iff_iff]
 simp
theorem GI {p : Int} : ∀ (l : List D) (k : Key), l.Pairwise (fun x y => klt (keyAt p y) (keyAt p x) = false) -> (∀ x ∈ l, klt (keyAt p x) k = false) ->
  l.takeWhile (fun x => decide (keyAt p x = k)) = l.filter (fun x => decide (keyAt p x = k)) /\ l.drop (l.takeWhile (fun x => decide (keyAt p x = k))).length = l.filter (fun x => !decide (keyAt p x = k))
 | [], k, _, _ => ⟨rfl, rfl⟩
 | x :: l, k, hs, hk => by
  rw [List.pairwise_cons] at hs
  obtain ⟨i1, i2⟩ := GI l k hs.2 (fun y hy => hk y (List.mem_cons_of_mem _ hy))
  by_cases h : keyAt p x = k
  ·rw [List.takeWhile_cons, List.filter_cons, List.filter_cons]
   simp only [h, decide_true, if_true, Bool.not_true, Bool.false_eq_true, if_false, List.length_cons, List.drop_succ_cons]
   exact ⟨by rw [i1], i2⟩
  ·have hn : ∀ y ∈ l, ¬ keyAt p y = k := by
    intro y hy e
    have h1 := hs.1 y hy
    have h2 := hk x (List.mem_cons_self)
    rw [e] at h1
    refine h ?_
    rw [vZ] at h1 h2
    have : (keyAt p x).1 = k.1 /\ (keyAt p x).2 = k.2 := by omega
    exact Prod.ext this.1 this.2
   rw [List.takeWhile_cons, List.filter_cons, List.filter_cons]
   simp only [h, decide_false, Bool.false_eq_true, if_false, Bool.not_false, if_true, List.length_nil, List.drop_zero]
   refine ⟨(List.filter_eq_nil_iff.2 fun y hy => by simpa using hn y hy).symm, ?_⟩
   rw [List.filter_eq_self.2 fun y hy => by simpa using hn y hy]
theorem Ko {p : Int} {r : D} {l : List D} (hs : Srt (keyAt p) (r :: l)) (hg : ∀ x ∈ r :: l, Bc p x) :
  (r :: l).take (eU (r :: l) p) = (r :: l).filter (fun x => decide (keyAt p x = keyAt p r)) /\ (r :: l).drop (eU (r :: l) p) = (r :: l).filter (fun x => !decide (keyAt p x = keyAt p r)) := by
 have h1 : eU (r :: l) p = 1 + (l.takeWhile (fun x => decide (keyAt p x = keyAt p r))).length := by
  unfold eU
  congr 2
  show l.takeWhile (fun x => nZ (fC (ae x) p) (fC (ae r) p)) = _
  have : ∀ (m : List D), (∀ x ∈ m, Bc p x) -> m.takeWhile (fun x => nZ (fC (ae x) p) (fC (ae r) p)) = m.takeWhile (fun x => decide (keyAt p x = keyAt p r)) := by
   intro m
   induction m with
   | nil => intro _; rfl
   | cons y m ih =>
    intro hm
    rw [List.takeWhile_cons, List.takeWhile_cons, Zj (hm y (List.mem_cons_self)) (hg r (List.mem_cons_self)), ih (fun x hx => hm x (List.mem_cons_of_mem _ hx))]
  exact this l (fun x hx => hg x (List.mem_cons_of_mem _ hx))
 unfold Srt at hs
 obtain ⟨i1, i2⟩ := GI (r :: l) (keyAt p r) hs (fun x hx => by
  rcases List.mem_cons.1 hx with rfl | hx
  ·exact jv _
  ·exact (List.pairwise_cons.1 hs).1 x hx)
 have h2 : ((r :: l).takeWhile (fun x => decide (keyAt p x = keyAt p r))).length = eU (r :: l) p := by
  rw [List.takeWhile_cons]
  simp only [decide_true, if_true, List.length_cons]
  omega
 rw [h2] at i2
 refine ⟨?_, i2⟩
 rw [<- i1, <- h2]
 exact (List.prefix_iff_eq_take.1 (List.takeWhile_prefix _)).symm
theorem Qy {l m : List D} (h : l.Perm m) : total l = total m := by
 induction h with
 | nil => rfl
 | cons x _ ih => unfold total at ih ⊢; simp [ih]
 | swap x y l => unfold total; simp; omega
 | trans _ _ i1 i2 => exact i1.trans i2
theorem Nl {f : D -> Bool} {l m : List D} (h : l.Perm m) : l.any f = m.any f := by
 rw [Bool.eq_iff_iff, List.any_eq_true, List.any_eq_true]
 exact ⟨fun ⟨x, hx, h1⟩ => ⟨x, h.mem_iff.1 hx, h1⟩, fun ⟨x, hx, h1⟩ => ⟨x, h.mem_iff.2 hx, h1⟩⟩
theorem Xe {l m : List D} (h : l.Perm m) : yA l = yA m := by
 unfold yA
 rw [Nl h, Nl h, Qy h]
theorem OU {cols : List D} {p : Int} {sums : List D} : ∀ (k : Nat) (L M : List D), L.length <= k -> Srt (keyAt p) L -> Srt (keyAt p) M -> L.Perm M -> (∀ r ∈ L, Bc p r) ->
  (uP cols p sums k L).map qy = (uP cols p sums k M).map qy
 | 0, L, M, _, _, _, _, _ => rfl
 | k + 1, [], M, _, _, _, hp, _ => by
  rw [List.Perm.eq_nil hp.symm]
 | k + 1, r :: L, [], _, _, _, hp, _ => by
  exact absurd hp.symm (by simp)
 | k + 1, r :: L, s :: M, hl, h1, h2, hp, hg => by
  have hg' : ∀ x ∈ s :: M, Bc p x := fun x hx => hg x (hp.mem_iff.2 hx)
  have hk : keyAt p s = keyAt p r := by
   have a1 : klt (keyAt p s) (keyAt p r) = false := by
    rcases List.mem_cons.1 (hp.mem_iff.2 (List.mem_cons_self) : s ∈ r :: L) with rfl | hx
    ·exact jv _
    ·exact (List.pairwise_cons.1 (show (r :: L).Pairwise _ from h1)).1 s hx
   have a2 : klt (keyAt p r) (keyAt p s) = false := by
    rcases List.mem_cons.1 (hp.mem_iff.1 (List.mem_cons_self) : r ∈ s :: M) with rfl | hx
    ·exact jv _
    ·exact (List.pairwise_cons.1 (show (s :: M).Pairwise _ from h2)).1 r hx
   rw [vZ] at a1 a2
   have : (keyAt p s).1 = (keyAt p r).1 /\ (keyAt p s).2 = (keyAt p r).2 := by omega
   exact Prod.ext this.1 this.2
  obtain ⟨t1, d1⟩ := Ko h1 hg
  obtain ⟨t2, d2⟩ := Ko h2 hg'
  rw [hk] at t2 d2
  unfold uP
  rw [t1, d1, t2, d2, List.map_cons, List.map_cons]
  have hperm := hp.filter (fun x => decide (keyAt p x = keyAt p r))
  have hrest := hp.filter (fun x => !decide (keyAt p x = keyAt p r))
  congr 1
  ·have c1 : ((r :: L).filter (fun x => decide (keyAt p x = keyAt p r))).getD 0 .nil = r := by rw [List.filter_cons]; simp
   have c2 : ((s :: M).filter (fun x => decide (keyAt p x = keyAt p r))).getD 0 .nil = s := by rw [List.filter_cons]; simp [hk]
   show (nz (aX cols ((r :: L).filter _)) p sums).map sH = (nz (aX cols ((s :: M).filter _)) p sums).map sH
   unfold nz
   have b1 : ∀ rs, aK (aX cols rs) = rs := fun _ => rfl
   have b2 : ∀ rs, aQ (aX cols rs) = cols := fun _ => rfl
   rw [b1, b1, b2, b2, c1, c2, List.map_cons, List.map_cons, List.map_cons, List.map_cons, <- zH (hg r (List.mem_cons_self)), <- zH (hg' s (List.mem_cons_self)), hk, hperm.length_eq]
   congr 2
   congr 1
   refine List.map_congr_left fun c _ => ?_
   exact Xe (hperm.map _)
  ·refine OU k _ _ ?_ ?_ ?_ hrest (fun x hx => hg x (List.mem_filter.1 hx).1)
   ·have : ((r :: L).filter (fun x => !decide (keyAt p x = keyAt p r))).length <= L.length := by
     rw [List.filter_cons]
     simp only [decide_true, Bool.not_true, Bool.false_eq_true, if_false]
     exact List.length_filter_le _ _
    simp only [List.length_cons] at hl
    omega
   ·exact List.Pairwise.filter _ h1
   ·exact List.Pairwise.filter _ h2
theorem Np {b b' : D} (hC : aQ b = aQ b') (hp : (aK b).Perm (aK b')) : bn b = bn b' := by
 rw [Bool.eq_iff_iff, o5, o5, hC, hp.length_eq]
 constructor
 ·rintro ⟨h1, h2, h3⟩; exact ⟨h1, h2, fun r hr => h3 r (hp.mem_iff.2 hr)⟩
 ·rintro ⟨h1, h2, h3⟩; exact ⟨h1, h2, fun r hr => h3 r (hp.mem_iff.1 hr)⟩
theorem Ba {b b' : D} (hC : aQ b = aQ b') (hp : (aK b).Perm (aK b')) (c : Int) (s : List D) : dO b c s = dO b' c s := by
 unfold dO
 rw [Np hC hp, hC]
theorem vw {b b' : D} (hC : aQ b = aQ b') (hp : (aK b).Perm (aK b')) (s : List D) : gy b s = gy b' s := by
 unfold gy
 rw [Np hC hp, hC]
theorem PD {q b b' : D} (hC : aQ b = aQ b') (hp : (aK b).Perm (aK b')) : gB q b = gB q b' := by
 unfold gB
 rw [Ba hC hp, vw hC hp]
theorem QY {b b' : D} (hC : aQ b = aQ b') (hp : (aK b).Perm (aK b')) (c : Int) (s : List D) :
  aQ (eF b c s) = aQ (eF b' c s) /\ (aK (eF b c s)).map qy = (aK (eF b' c s)).map qy := by
 unfold eF
 rw [<- Ba hC hp]
 cases h : dO b c s with
 | false => exact ⟨rfl, rfl⟩
 | true =>
  rw [cond_true, cond_true]
  refine ⟨rfl, ?_⟩
  unfold dO at h
  simp only [Bool.and_eq_true] at h
  obtain ⟨m1, m2, m3⟩ := o5.1 h.1.1.1
  obtain ⟨p1, p2⟩ := Ha h.1.1.2
  have hg : ∀ r ∈ aK b, Bc (bC (aQ b) c) r := by
   intro r hr
   obtain ⟨l1, l2⟩ := m3 r hr
   have hlt : (bC (aQ b) c).toNat < (ae r).length := by omega
   refine ⟨p1, by omega, ?_⟩
   rw [dA hlt]
   exact l2 _ (List.getElem_mem hlt)
  show (uP (aQ b) _ s _ _).map qy = (uP (aQ b') _ s _ _).map qy
  rw [<- hC, <- hp.length_eq]
  have e1 : dH (bC (aQ b) c) (aK b) = sortK (keyAt (bC (aQ b) c)) (aK b) := rfl
  refine OU _ _ _ (by unfold dH; rw [eP]; exact Nat.le_refl _) (jJ _) (jJ _) ?_ (fun r hr => hg r (wL.1 hr))
  exact ((xJ (aK b)).trans hp).trans (xJ (aK b')).symm
theorem UI {b b' : D} (hC : aQ b = aQ b') (hp : (aK b).Perm (aK b')) (s : List D) :
  aQ (gI b s) = aQ (gI b' s) /\ (aK (gI b s)).Perm (aK (gI b' s)) := by
 cases h : gy b s with
 | false =>
  have h' := h
  rw [vw hC hp] at h'
  unfold gI
  rw [h, h']
  exact ⟨rfl, List.Perm.refl _⟩
 | true =>
  have h' := h
  rw [vw hC hp] at h'
  rw [yf h, yf h', <- hC]
  exact ⟨rfl, hp.map _⟩
theorem Yl {q b b' : D} (hC : aQ b = aQ b') (hp : (aK b).Perm (aK b')) :
  aQ (gp q b) = aQ (gp q b') /\ ((aK (gp q b)).map qy).Perm ((aK (gp q b')).map qy) := by
 unfold gp
 cases (qBy q != -1) with
 | true =>
  obtain ⟨h1, h2⟩ := QY hC hp (qBy q) (kS q)
  rw [cond_true, cond_true]
  exact ⟨h1, by rw [h2]⟩
 | false =>
  obtain ⟨h1, h2⟩ := UI hC hp (uM q)
  rw [cond_false, cond_false]
  exact ⟨h1, h2.map _⟩
theorem Ur (b : D) (c : Int) : aQ (iO b c) = aQ b := rfl
theorem UN (b : D) (c : Int) : (aK (iO b c)).Perm (aK b) := xJ _
theorem Wn {q b : D} (h : gB q b = false) : gp q b = aX [] [] := by
 unfold gB at h
 unfold gp
 cases hq : (qBy q != -1) with
 | true => rw [hq, cond_true] at h; rw [cond_true]; unfold eF; rw [h]; rfl
 | false => rw [hq, cond_false] at h; rw [cond_false]; unfold gI; rw [h]; rfl
theorem Vt {q b : D} (h : gB q b = true) (hq : qBy q = -1) : (aQ (gp q b)) = uM q /\ (aK (gp q b)).length = (aK b).length := by
 have e : (qBy q != -1) = false := by rw [hq]; rfl
 unfold gB at h
 unfold gp
 rw [e, cond_false] at h
 rw [e, cond_false, yf h]
 refine ⟨rfl, ?_⟩
 show ((aK b).map _).length = _
 rw [List.length_map]
theorem Ub {q b : D} (h : gB q b = true) (hq : (qBy q == -1) = false) : (aQ (gp q b)) = dE (qBy q) ((kS q).length : Int) /\ (kS q).length <= 4 := by
 have e : (qBy q != -1) = true := by unfold bne; rw [hq]; rfl
 unfold gB at h
 unfold gp
 rw [e, cond_true] at h
 rw [e, cond_true]
 have h' := h
 unfold dO at h'
 simp only [Bool.and_eq_true, decide_eq_true_eq] at h'
 unfold eF
 rw [h, cond_true]
 exact ⟨rfl, h'.2⟩
theorem H8 (c : Int) (n : Nat) : (dE c (n : Int)).length = 2 + n := by
 unfold dE
 rw [List.length_cons, List.length_map, List.length_range]
 omega
theorem Qo {b : D} {n : Int} (hn : n <= 100) (h : lq b n = true) : iY b = true := by
 unfold lq at h
 simp only [Bool.and_eq_true, decide_eq_true_eq, List.all_eq_true] at h
 unfold iY
 simp only [Bool.and_eq_true, decide_eq_true_eq, List.all_eq_true]
 exact ⟨⟨by omega, by omega⟩, fun r hr => by have := h.2 r hr; omega⟩
end Go.Ev
