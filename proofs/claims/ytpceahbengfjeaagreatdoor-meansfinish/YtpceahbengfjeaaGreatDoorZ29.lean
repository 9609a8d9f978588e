/- Trees of functions, and lemmas. Nothing here is trusted. -/
import Derived.Test.YtpceahbengfjeaaGreatDoorZ17
import Derived.Test.YtpceahbengfjeaaGreatDoorZ21
import Derived.Test.YtpceahbengfjeaaGreatDoorZ23
import Derived.Lib.Slices
import Derived.Test.YtpceahbengfjeaaGreatDoorZ22
namespace Go.Ev
set_option linter.unusedVariables false
def opI (e : D) : Int := intD (af e 0)
def rC (e : D) : Int := intD (af e 1)
def kids (e : D) : List D := ae (af e 3)
def vC (op n : Int) : Bool := bif op == 10 then n == 1 else bif op == 0 || op == 1 then n == 0 else bif op == 8 || op == 9 then decide (n <= 4) else n == 2
def mQ (f : D) (n : Int) : Bool := bif !isNilF (af f 0) then n == 1 else bif !isNilF (af f 1) then n == 2 else bif !isNilF (af f 2) then decide (n <= 4) else n == 0
def vU (e : D) : Bool :=
 decide (0 <= opI e) && decide (opI e < 11) && decide (0 <= rC e) && decide (rC e <= 15) && je (af e 2) &&
 (rC e == 0 || opI e == 1) && ((kk (af e 2) == 0 && nn (af e 2) == 0) || opI e == 0) && vC (opI e) ((kids e).length : Int)
def atD (c : Int) (cols row : List D) : D :=
 bif decide (Lib.idxOf (cols.map intD) c < 0) then vv 2 0 else bif decide (Lib.idxOf (cols.map intD) c >= (row.length : Int)) then vv 2 0
 else bif je (row.getD (Lib.idxOf (cols.map intD) c).toNat .nil) then row.getD (Lib.idxOf (cols.map intD) c).toNat .nil else vv 2 0
def opV (op : Int) (l : List D) : D :=
 bif op == 2 then V4 (l.getD 0 .nil) (l.getD 1 .nil) else bif op == 3 then WH (l.getD 0 .nil) (l.getD 1 .nil) else bif op == 4 then Wj (l.getD 0 .nil) (l.getD 1 .nil)
 else bif op == 5 then X5 (l.getD 0 .nil) (l.getD 1 .nil) else bif op == 6 then eqV (l.getD 0 .nil) (l.getD 1 .nil) else bif op == 7 then ltV (l.getD 0 .nil) (l.getD 1 .nil)
 else bif op == 8 then YW l else bif op == 9 then orD l else Zf (l.getD 0 .nil)
def goL (g : D -> Int -> Bool × Int) : List D -> Int -> Bool × Int
 | [], n => (true, n)
 | p :: l, n => bif (g p n).1 then goL g l (g p n).2 else (false, (g p n).2)
def rE (e : D) (deep n : Int) : Bool := bif decide (n + 1 <= 30) then bif decide (deep <= 6) then vU e else false else false
def dY : Nat -> D -> Int -> Int -> Bool × Int
 | 0, _, _, n => (false, n)
 | k + 1, e, deep, n => bif rE e deep n then goL (fun p m => dY k p (deep + 1) m) (kids e) (n + 1) else (false, n + 1)
def Cb (e : D) : Bool := (dY 7 e 1 0).1
def okK : Nat -> D -> Bool
 | 0, _ => false
 | k + 1, e => vU e && (kids e).all (okK k)
def kK : Nat -> D -> List D
 | 0, _ => []
 | k + 1, e => (bif opI e == 1 then [fM (rC e)] else []) ++ (kids e).flatMap (kK k)
def mg (e : D) : List D := bif Cb e then jb (l7 (kK 7 e)) else []
def oC (cols row : List D) : Nat -> D -> D
 | 0, _ => vv 2 0
 | k + 1, e => bif opI e == 0 then af e 2 else bif opI e == 1 then atD (rC e) cols row else opV (opI e) ((kids e).map (oC cols row k))
def SX (e : D) (cols row : List D) : D := bif Cb e then oC cols row 7 e else vv 2 0
def QU (e : D) (cols row : List D) : Bool := rW (SX e cols row)
def GY (g : D -> Int -> Int) (most : Int) : List D -> Int -> Int
 | [], n => n
 | p :: l, n => bif decide (n <= most) then GY g most l (n + g p (most - n)) else n
def zh : Nat -> D -> Int -> Int
 | 0, _, _ => 1
 | k + 1, e, most => GY (zh k) most (kids e) 1
def hasK : Nat -> D -> Int -> Bool
 | 0, _, _ => false
 | k + 1, e, c => (opI e == 1 && rC e == c) || (kids e).any fun p => hasK k p c
theorem SL {e : D} (h : vU e = true) : 0 <= opI e /\ opI e < 11 /\ 0 <= rC e /\ rC e <= 15 /\ je (af e 2) = true /\ vC (opI e) ((kids e).length : Int) = true := by
 simp only [vU, Bool.and_eq_true, decide_eq_true_eq] at h
 obtain ⟨⟨⟨⟨⟨⟨⟨a, b⟩, c⟩, d⟩, e1⟩, _⟩, _⟩, f⟩ := h
 exact ⟨a, b, c, d, e1, f⟩
def jZ (row ps : List D) : List D := ps.map fun q => row.getD (intD q).toNat .nil
def pR (row ps : List D) : Bool := decide (ps.length <= 2147483648) && ps.all fun q => decide (0 <= intD q) && decide (intD q < (row.length : Int))
def gm (b : D) (cols : List D) : Bool := bn b && dm cols && gy (aQ b) cols
def uC (b : D) (cols : List D) : List D := cols.map fun c => fM (bz (aQ b) (intD c))
def gz (b : D) (cols : List D) : D := bif gm b cols then aX cols ((aK b).map fun r => .slice (jZ (ae r) (uC b cols)) []) else aX [] []
def nU (es cols row : List D) : Bool := es.all fun e => QU e cols row
def jV (es cols rows : List D) : List D := rows.filter fun r => nU es cols (ae r)
def oV (b : D) (es : List D) : D := aX (aQ b) (jV es (aQ b) (aK b))
section
set_option linter.unusedSimpArgs false
def dQ (q : D) : List D := ae (af q 0)
def qP (q : D) : List D := ae (af q 1)
def qBy (q : D) : Int := intD (af q 2)
def kS (q : D) : List D := ae (af q 3)
def uD (q : D) : List D := ae (af q 4)
def xK (q : D) : Int := intD (af q 5)
def QX (s p : Int) : Bool := KQ .i64 p s == 0
def LU (o : Int) : Int := UU .i64 1 o
def aa3 (c : Int) : Int := LU (dB c)
def XF (s : Int) : List D -> Int
 | [] => s
 | c :: l => XF (orI .i64 s (aa3 (intD c))) l
def ofE (e : D) : Int := XF 0 (mg e)
def agE (a b s : Int) : Bool := QX (orI .i64 a b) s && !hasS a s && !hasS b s
def plc (f : D -> Bool) : List D -> Nat -> List D
 | [], _ => []
 | e :: es, i => (bif f e then [fM (i : Int)] else []) ++ plc f es (i + 1)
def agG (q : D) (s : Int) : List D := plc (fun e => QX s (ofE e)) (qP q) 0
def agX (q : D) (a b : Int) : List D := plc (fun e => agE a b (ofE e)) (qP q) 0
def aaq : Nat -> Int -> Int
 | 0, s => s
 | n + 1, s => aaq n (Int.fdiv s (2 ^ min (1 : Int).toNat (IntKind.bits .i64)))
def ahI (set occ : Int) : Bool := Zb .i64 (aaq occ.toNat set) 1 == 1
def Zq (c q : D) (o : Int) : Int := xV ((tabs c).getD (intD ((dQ q).getD o.toNat .nil)).toNat .nil)
def dn (c q : D) : Bool := decide (1 <= (dQ q).length) && decide ((dQ q).length <= 4) && (dQ q).all fun o => bF (intD o) ((tabs c).length : Int)
def lW (c q : D) (x : Int) : Bool := bF x 16 && (decide (dB x < ((dQ q).length : Int)) && decide (splitB x < Zq c q (dB x)))
def fU (c q : D) (l : List D) : Bool := l.all fun x => lW c q (intD x)
def OL (c q e : D) : Bool := !(mg e).isEmpty && fU c q (mg e)
def lL (c q : D) : Bool := decide ((qP q).length <= 6) && (qP q).all (OL c q)
def YC (l : List D) : Bool := (List.range' 0 l.length).any fun i => hasB (l.take i) (intD (l.getD i .nil))
def Jb (c q : D) : Bool := (kS q).isEmpty && (decide (1 <= (uD q).length) && (decide ((uD q).length <= 8) && (fU c q (uD q) && (!dupB (uD q) && (xK q == -1 || hasB (uD q) (xK q))))))
def wL (c q : D) : Bool := lW c q (qBy q) && (decide ((kS q).length <= 4) && (fU c q (kS q) && ((uD q).isEmpty && (xK q == -1 || xK q == qBy q))))
def Qc (c q : D) : Bool := bif qBy q == -1 then Jb c q else wL c q
def IG (c q : D) : Bool := kY c && (dn c q && (lL c q && Qc c q))
def sJ (c q : D) (set : Int) (o : Nat) : List D := bif QX set (LU (o : Int)) then ik (Zq c q (o : Int)).toNat (o : Int) else []
def ahE (c q : D) (set : Int) : List D := bif IG c q then (List.range (dQ q).length).flatMap (sJ c q set) else []
def afK (fewE : D -> Int -> Bool) (c q : D) : Bool := decide ((tabs c).length <= 10) && decide ((dQ q).length <= 20) && decide ((qP q).length <= 8) && decide ((kS q).length <= 20) && decide ((uD q).length <= 20) && (qP q).all fun e => fewE e 60
end
section
set_option linter.unusedSimpArgs false
theorem Jy : ∀ (s : Fin 16) (o : Fin 4), inS (15 - ((s.val : Nat) : Int)) o.val = !inS ((s.val : Nat) : Int) o.val := by decide
end Go.Ev
namespace Go.Ev
def ads (f t : Nat) : D -> Bool
 | .agg [.held (.func (.func g) _ _), .lit (.int _ u), _] => g == f && u == (t : Int)
 | _ => false
def aaK : D -> D
 | .agg [_, _, x] => x
 | _ => .nil
end
section
set_option linter.unusedSimpArgs false
def OB (cs cols row : List D) : List D := cols.map fun c => row.getD (bz cs (intD c)).toNat .nil
theorem IU (b : D) (cols row : List D) : jZ row (uC b cols) = OB (aQ b) cols row := by
 unfold jZ uC OB
 rw [List.map_map]
 rfl
theorem xR {b : D} {cols : List D} (h : gm b cols = true) : gz b cols = aX cols ((aK b).map fun r => .slice (OB (aQ b) cols (ae r)) []) := by
 unfold gz
 rw [h, cond_true]
 simp only [IU]
theorem UO (cs cols row : List D) : (OB cs cols row).length = cols.length := by unfold OB; simp
theorem Fb {l : List D} {c : D} (h : c ∈ l) : hasB l (intD c) = true := by
 unfold hasB
 rw [List.contains_eq_mem, decide_eq_true_eq]
 exact List.mem_map_of_mem h
theorem SK {l : List D} {z : Int} (h : hasB l z = true) : ∃ c ∈ l, intD c = z := by
 unfold hasB at h
 rw [List.contains_eq_mem, decide_eq_true_eq, List.mem_map] at h
 exact h
theorem QE {b : D} {cols : List D} : gm b cols = true ↔ bn b = true /\ dm cols = true /\ gy (aQ b) cols = true := by
 unfold gm
 rw [Bool.and_eq_true, Bool.and_eq_true, and_assoc]
theorem Fq {l : List D} (h : dm l = true) : (l.map intD).Nodup := by
 unfold dm at h
 rw [Bool.and_eq_true] at h
 exact xI h.2
end
section
set_option linter.unusedSimpArgs false
theorem X7 {a b : D} (h1 : bn a = true) (h2 : bn b = true) (h3 : sU (aQ a) (aQ b) = false) (h4 : (aK a).length * (aK b).length <= 5000) : jL a b = true := by
 unfold jL
 rw [h1, h2, h3, decide_eq_true h4]
 rfl
theorem NM {a b : D} (h : jL a b = true) : jq a b = aX (aQ a ++ aQ b) (jK (aK a) (aK b)) := by
 unfold jq
 rw [h, cond_true]
end
section
set_option linter.unusedSimpArgs false
theorem Oe {a b : List D} : sU a b = true ↔ ∃ c ∈ b, ∃ d ∈ a, intD d = intD c := by
 unfold sU
 rw [List.any_eq_true]
 constructor
 ·rintro ⟨c, hc, h⟩
  obtain ⟨d, hd, e⟩ := SK h
  exact ⟨c, hc, d, hd, e⟩
 ·rintro ⟨c, hc, d, hd, e⟩
  exact ⟨c, hc, by rw [<- e]; exact Fb hd⟩
end
section
set_option linter.unusedSimpArgs false
theorem Cj : ∀ {l : List Int}, l.Nodup -> rD l = true
 | [], _ => rfl
 | x :: l, h => by
  rw [List.nodup_cons] at h
  simp only [rD, Bool.and_eq_true, Bool.not_eq_true', List.contains_eq_mem, decide_eq_false_iff_not]
  exact ⟨h.1, Cj h.2⟩
theorem o8 {b : D} : bn b = true ↔ dm (aQ b) = true /\ (aK b).length <= 5000 /\ ∀ r ∈ aK b, (ae r).length = (aQ b).length /\ ∀ v ∈ ae r, je v = true := by
 unfold bn iQ
 simp only [Bool.and_eq_true, decide_eq_true_eq, List.all_eq_true, beq_iff_eq, and_assoc]
theorem WR {A B : List D} (hA : dm A = true) (hB : dm B = true) (hm : sU A B = false) : dm (A ++ B) = true := by
 have nA := Fq hA
 have nB := Fq hB
 unfold dm at hA hB ⊢
 rw [Bool.and_eq_true, List.all_eq_true] at hA hB ⊢
 refine ⟨fun z hz => ?_, ?_⟩
 ·rw [List.map_append] at hz
  rcases List.mem_append.1 hz with hz | hz
  ·exact hA.1 z hz
  ·exact hB.1 z hz
 ·refine Cj ?_
  rw [List.map_append, List.nodup_append]
  refine ⟨nA, nB, fun x hx y hy hxy => ?_⟩
  obtain ⟨c, hc, rfl⟩ := List.mem_map.1 hx
  obtain ⟨d, hd, hh⟩ := List.mem_map.1 hy
  rw [Oe.2 ⟨d, hd, c, hc, by rw [hh, hxy]⟩] at hm
  cases hm
theorem PW {a b : D} (h : jL a b = true) : aQ (jq a b) = aQ a ++ aQ b := by rw [NM h]; rfl
theorem PU {a b : D} (h : jL a b = true) : aK (jq a b) = jK (aK a) (aK b) := by rw [NM h]; rfl
end
section
set_option linter.unusedSimpArgs false
theorem Zr {c q : D} (h : lL c q = true) {e : D} (he : e ∈ qP q) : (mg e).isEmpty = false /\ fU c q (mg e) = true := by
 unfold lL at h
 rw [Bool.and_eq_true, List.all_eq_true] at h
 have := h.2 e he
 unfold OL at this
 rw [Bool.and_eq_true, Bool.not_eq_true'] at this
 exact this
end
section
set_option linter.unusedSimpArgs false
def iP (c d q : D) : Bool := IG c q && xw c d
def aef (q t : D) : Bool := ahz t && decide (XU t < UU .i64 1 ((dQ q).length : Int))
def DT (q : D) (o : Int) : Int := intD ((dQ q).getD o.toNat .nil)
def lT (c d q : D) (o : Int) : D := Jc c d (DT q o) o
def GZ (c d q : D) (o : Int) : Bool := decide (0 <= o) && decide (o < ((dQ q).length : Int)) && Il c d (DT q o) o
def atL (q : D) (ps : List D) : List D := ps.map fun i => (qP q).getD (intD i).toNat .nil
def aeX (q : D) (ps : List D) : Bool := decide (ps.length <= 1000) && ps.all fun i => decide (0 <= intD i) && decide (intD i < ((qP q).length : Int))
def fV (q b : D) : D := bif qBy q != -1 then eF b (qBy q) (kS q) else gz b (uD q)
def gV (q b : D) : Bool := bif qBy q != -1 then dO b (qBy q) (kS q) else gm b (uD q)
def k0 (t : D) : D := (fG t).getD 0 .nil
def k1 (t : D) : D := (fG t).getD 1 .nil
def Xi (c d q : D) : Nat -> D -> D
 | 0, _ => .nil
 | k + 1, t => bif ((fG t).length : Int) == 0 then oV (lT c d q (Yj t)) (atL q (agG q (XU t)))
  else oV (jq (Xi c d q k (k0 t)) (Xi c d q k (k1 t))) (atL q (agX q (XU (k0 t)) (XU (k1 t))))
def ahG (c d q t : D) : D := bif iP c d q && aef q t then Xi c d q 4 t else aX [] []
def EX (c d q : D) : Nat -> D
 | 0 => lT c d q 0
 | n + 1 => jq (EX c d q n) (lT c d q ((n + 1 : Nat) : Int))
def jX (c d q : D) : D := EX c d q ((dQ q).length - 1)
def uh (c d q : D) : D := oV (jX c d q) (qP q)
def xu (c d q : D) : D := bif iP c d q then fV q (uh c d q) else aX [] []
def Y4 (b : Bool) : Int := bif b then 0 else 1
def ahH (f : D -> Int -> Bool) (c d q : D) : Bool := afK f c q && YU d
def Yt (d q : D) : Bool := bif decide (((dQ q).length : Int) > 3) then (tabs d).all fun t => !decide (((ae t).length : Int) > 3) else (tabs d).all fun t => !decide (((ae t).length : Int) > 5)
def afA (d q : D) : Int := bif Yt d q then 0 else 1
def rq (ja : D -> D -> Bool) (c d q b : D) : Bool := iP c d q && (gV q (uh c d q) && (ja (fV q (uh c d q)) b && (xK q == -1 || sortedB b (xK q))))
def q4 (q : D -> D -> D -> D -> Bool) : List D -> Bool | [x, y, z, u] => q x y z u | _ => false
theorem Z9 {P : Program} {f : FuncId} {fn : Func} {t t1 t2 t3 t4 : TypeId} {q : D -> D -> D -> D -> Bool} {F : D -> D -> D -> D -> Option D} (hf : FnOK P f fn) (h : ∀ x y z u d, q x y z u = true -> F x y z u = some d -> (∃ n, Ty P n t1 x) -> (∃ n, Ty P n t2 y) -> (∃ n, Ty P n t3 z) -> (∃ n, Ty P n t4 u) ->
   CallOK P f [dat t1 (bC P t1 x), dat t2 (bC P t2 y), dat t3 (bC P t3 z), dat t4 (bC P t4 u)] (aj P t d)) :
  ∀ args d, jS (q4 q) args = true -> ent [t1, t2, t3, t4] (f4 F) args = some d -> CallOK P f args (aj P t d) :=
 EG fun ds d hl hq hd => match ds, hl, hq, hd with
  | [x, y, z, u], _, hq, hd => CallOK.typed hf.ex (uz t d) fun hty => (h x y z u d hq hd (hty (dat t1 x) (by simp)) (hty (dat t2 y) (by simp)) (hty (dat t3 z) (by simp)) (hty (dat t4 u) (by simp))).norm
end
section
set_option linter.unusedSimpArgs false
structure Asks (c d q : D) : Prop where
 may : IG c q = true
 fit : xw c d = true
 n1 : 1 <= (dQ q).length
 n4 : (dQ q).length <= 4
 of : ∀ o : Nat, o < (dQ q).length -> Il c d (DT q (o : Int)) (o : Int) = true
 p6 : (qP q).length <= 6
 ex : ∀ e ∈ qP q, (mg e).isEmpty = false /\ fU c q (mg e) = true
theorem zK {c d q : D} (h : iP c d q = true) : Asks c d q := by
 unfold iP at h
 rw [Bool.and_eq_true] at h
 obtain ⟨h1, h2⟩ := h
 have h1' := h1
 unfold IG at h1
 simp only [Bool.and_eq_true] at h1
 obtain ⟨a1, a2, a3, a4⟩ := h1
 have ho := a2
 unfold dn at ho
 simp only [Bool.and_eq_true, decide_eq_true_eq, List.all_eq_true] at ho
 have he := a3
 unfold lL at he
 simp only [Bool.and_eq_true, decide_eq_true_eq] at he
 refine ⟨h1', h2, ho.1.1, ho.1.2, fun o hlt => ?_, he.1, fun e hm => Zr a3 hm⟩
 have hb := ho.2 _ (List.getElem_mem hlt)
 unfold Il
 rw [h2, Bool.true_and]
 have e1 : DT q (o : Int) = intD (dQ q)[o] := by unfold DT; rw [Int.toNat_natCast, dA hlt]
 have h4 := ho.1.2
 rw [e1, hb, Bool.true_and]
 refine dw.2 ⟨Int.natCast_nonneg _, ?_⟩
 have h5 : o < 4 := Nat.lt_of_lt_of_le hlt h4
 exact_mod_cast h5
theorem XX {c d q : D} (h : Asks c d q) {o : Nat} (ho : o < (dQ q).length) : GZ c d q (o : Int) = true := by
 unfold GZ
 rw [h.of o ho, Bool.and_true]
 simp only [Bool.and_eq_true, decide_eq_true_eq]
 omega
def rws (b : D) : List (List D) := (aK b).map ae
def CO (c d q : D) (o : Nat) : List D := aQ (lT c d q (o : Int))
def RO (c d q : D) (o : Nat) : List (List D) := rws (lT c d q (o : Int))
def PC (c d q : D) (l : List Nat) : List D := l.flatMap (CO c d q)
def PR (c d q : D) : List Nat -> List (List D)
 | [] => [[]]
 | o :: l => (RO c d q o).flatMap fun x => (PR c d q l).map (x ++ ·)
theorem Px {b : D} : bn b = true ↔ dm (aQ b) = true /\ (rws b).length <= 5000 /\ ∀ r ∈ rws b, r.length = (aQ b).length /\ ∀ v ∈ r, je v = true := by
 rw [o8]
 unfold rws
 rw [List.length_map]
 refine and_congr Iff.rfl (and_congr Iff.rfl ⟨fun h r hr => ?_, fun h r hr => h _ (List.mem_map.2 ⟨r, hr, rfl⟩)⟩)
 obtain ⟨x, hx, rfl⟩ := List.mem_map.1 hr
 exact h x hx
structure One (c d q : D) (o : Nat) : Prop where
 may : bn (lT c d q (o : Int)) = true
 few : (RO c d q o).length <= 8
 row : ∀ r ∈ RO c d q o, r.length = (CO c d q o).length /\ ∀ v ∈ r, je v = true
 col : ∀ z ∈ CO c d q o, dB (intD z) = (o : Int)
 seen : CO c d q o = ik (Zq c q (o : Int)).toNat (o : Int)
 cmay : dm (CO c d q o) = true
theorem Ql {n : Nat} {o : Int} (hn : n <= 4) (h : 0 <= o /\ o < 4) {z : D} (hz : z ∈ ik n o) : dB (intD z) = o := by
 unfold ik at hz
 obtain ⟨i, hi, rfl⟩ := List.mem_map.1 hz
 have hi := List.mem_range.1 hi
 unfold qI
 show dB (Ci o (i : Int)) = o
 rw [EM h ⟨by omega, by omega⟩]
 rw [(vI (z := o * 4 + (i : Int)) (by omega)).1]
 omega
theorem Gx {c d q : D} (h : Asks c d q) {o : Nat} (ho : o < (dQ q).length) : One c d q o := by
 have hof := h.of o ho
 have ht := told hof
 obtain ⟨d1, d2, _, _⟩ := pU.1 ht.may
 have hm := WV ht
 have hbag : lT c d q (o : Int) = jY ((tabs c).getD (DT q (o : Int)).toNat .nil) (ae ((tabs d).getD (DT q (o : Int)).toNat .nil)) (o : Int) := ht.bag
 rw [<- hbag] at hm
 have hv := Px.1 hm
 have hcols : CO c d q o = ik (xV ((tabs c).getD (DT q (o : Int)).toNat .nil)).toNat (o : Int) := by
  unfold CO
  rw [hbag]
  rfl
 refine ⟨hm, ?_, hv.2.2, ?_, hcols, hv.1⟩
 ·unfold RO rws
  rw [List.length_map, hbag]
  exact ht.few
 ·intro z hz
  rw [hcols] at hz
  exact Ql (by omega) ht.occ hz
variable {c d q : D}
theorem acs (l m : List Nat) : PC c d q (l ++ m) = PC c d q l ++ PC c d q m := by unfold PC; rw [List.flatMap_append]
theorem Ru (o : Nat) (l : List Nat) : PC c d q (o :: l) = CO c d q o ++ PC c d q l := by unfold PC; rw [List.flatMap_cons]
theorem Aa (o : Nat) (l : List Nat) : PR c d q (o :: l) = (RO c d q o).flatMap fun x => (PR c d q l).map (x ++ ·) := rfl
theorem WO : ∀ (l m : List Nat), PR c d q (l ++ m) = (PR c d q l).flatMap fun x => (PR c d q m).map (x ++ ·)
 | [], m => by simp [PR]
 | o :: l, m => by
  rw [List.cons_append, Aa, Aa, WO l m, List.flatMap_assoc]
  congr 1
  funext x
  rw [List.map_flatMap, List.flatMap_map]
  congr 1
  funext y
  rw [List.map_map]
  congr 1
  funext z
  simp
theorem P9 (o : Nat) : PR c d q [o] = RO c d q o := by
 rw [Aa]
 simp [PR]
def x8 (q : D) (l : List Nat) : Prop := ∀ o ∈ l, o < (dQ q).length
theorem NY (h : Asks c d q) {l : List Nat} (hl : x8 q l) {z : D} (hz : z ∈ PC c d q l) : ∃ o ∈ l, dB (intD z) = (o : Int) := by
 unfold PC at hz
 obtain ⟨o, ho, hz⟩ := List.mem_flatMap.1 hz
 exact ⟨o, ho, (Gx h (hl o ho)).col z hz⟩
theorem Ri (h : Asks c d q) {l m : List Nat} (hl : x8 q l) (hm : x8 q m) (hd : ∀ o ∈ l, o ∉ m) : sU (PC c d q l) (PC c d q m) = false := by
 cases hmm : sU (PC c d q l) (PC c d q m) with
 | false => rfl
 | true =>
  obtain ⟨x, hx, y, hy, hxy⟩ := Oe.1 hmm
  obtain ⟨o, ho, h1⟩ := NY h hm hx
  obtain ⟨p, hp, h2⟩ := NY h hl hy
  rw [hxy] at h2
  have : o = p := by omega
  subst this
  exact absurd ho (hd o hp)
theorem KX (h : Asks c d q) : ∀ {l : List Nat}, x8 q l -> l.Nodup -> dm (PC c d q l) = true
 | [], _, _ => rfl
 | o :: l, hl, hn => by
  rw [List.nodup_cons] at hn
  rw [Ru]
  have ho := Gx h (hl o (by simp))
  have hl' : x8 q l := fun p hp => hl p (by simp [hp])
  refine WR ho.cmay (KX h hl' hn.2) ?_
  have := Ri h (l := [o]) (m := l) (fun p hp => by rw [List.mem_singleton] at hp; subst hp; exact hl p (by simp)) hl' (fun p hp => by rw [List.mem_singleton] at hp; subst hp; exact hn.1)
  have e : PC c d q [o] = CO c d q o := by unfold PC; simp
  rw [e] at this
  exact this
theorem LG (h : Asks c d q) : ∀ {l : List Nat}, x8 q l -> ∀ r ∈ PR c d q l, r.length = (PC c d q l).length /\ ∀ v ∈ r, je v = true
 | [], _, r, hr => by
  simp only [PR, List.mem_singleton] at hr
  subst hr
  exact ⟨rfl, fun v hv => by cases hv⟩
 | o :: l, hl, r, hr => by
  rw [Aa] at hr
  obtain ⟨x, hx, hr⟩ := List.mem_flatMap.1 hr
  obtain ⟨y, hy, rfl⟩ := List.mem_map.1 hr
  obtain ⟨a1, a2⟩ := (Gx h (hl o (by simp))).row x hx
  obtain ⟨b1, b2⟩ := LG h (fun p hp => hl p (by simp [hp])) y hy
  rw [Ru]
  refine ⟨by rw [List.length_append, List.length_append, a1, b1], fun v hv => ?_⟩
  rcases List.mem_append.1 hv with hv | hv
  ·exact a2 v hv
  ·exact b2 v hv
theorem DJ {α β : Type} (f : α -> List β) (k : Nat) : ∀ (l : List α), (∀ x ∈ l, (f x).length <= k) -> (l.flatMap f).length <= l.length * k
 | [], _ => by simp
 | x :: l, h => by
  have h1 := h x (by simp)
  have h2 := DJ f k l (fun y hy => h y (by simp [hy]))
  rw [List.flatMap_cons, List.length_append, List.length_cons, Nat.succ_mul]
  omega
theorem Kr (h : Asks c d q) : ∀ {l : List Nat}, x8 q l -> (PR c d q l).length <= 8 ^ l.length
 | [], _ => by simp [PR]
 | o :: l, hl => by
  have h1 := Kr h (l := l) (fun p hp => hl p (by simp [hp]))
  have h2 := (Gx h (hl o (by simp))).few
  rw [Aa, List.length_cons, Nat.pow_succ]
  refine Nat.le_trans (DJ _ (PR c d q l).length _ (fun x _ => by simp)) ?_
  have := Nat.mul_le_mul h2 h1
  rw [Nat.mul_comm (8 ^ l.length) 8]
  exact this
theorem Xr {n : Nat} {l : List Nat} (hl : ∀ o ∈ l, o < n) (hn : l.Nodup) : l.length <= n := by
 have hm : (l.map fun o : Nat => (o : Int)).Nodup := List.Pairwise.map _ (fun a b hab hh => hab (by omega)) hn
 have := oU n (l.map fun o : Nat => (o : Int)) hm (fun z hz => by
  obtain ⟨o, ho, rfl⟩ := List.mem_map.1 hz
  have := hl o ho
  omega)
 simpa using this
theorem Ez (h : Asks c d q) {l : List Nat} (hl : x8 q l) (hn : l.Nodup) : 8 ^ l.length <= 4096 := by
 have h1 := Xr hl hn
 have h2 := h.n4
 have h3 := Nat.pow_le_pow_right (show 0 < 8 by decide) (show l.length <= 4 by omega)
 exact Nat.le_trans h3 (by decide)
def Vw (b : D) (C : List D) (R : List (List D)) : Prop := aQ b = C /\ rws b = R
theorem PO {b : D} {C : List D} {R : List (List D)} (hv : Vw b C R) (h1 : dm C = true) (h2 : R.length <= 5000) (h3 : ∀ r ∈ R, r.length = C.length /\ ∀ v ∈ r, je v = true) : bn b = true :=
 Px.2 ⟨by rw [hv.1]; exact h1, by rw [hv.2]; exact h2, by rw [hv.1, hv.2]; exact h3⟩
theorem UC {a b : D} (h : jL a b = true) : rws (jq a b) = (rws a).flatMap fun x => (rws b).map (x ++ ·) := by
 unfold rws
 rw [PU h]
 unfold jK
 rw [List.map_flatMap, List.flatMap_map]
 congr 1
 funext x
 rw [List.map_map, List.map_map]
 rfl
def Na (es : List D) (C : List D) (R : List (List D)) : List (List D) := R.filter (nU es C)
theorem YN {b : D} {C : List D} {R : List (List D)} (h : Vw b C R) (es : List D) : Vw (oV b es) C (Na es C R) := by
 obtain ⟨h1, h2⟩ := h
 refine ⟨h1, ?_⟩
 unfold rws oV Na
 show ((jV es (aQ b) (aK b)).map ae) = _
 rw [<- h2, <- h1]
 unfold rws jV
 rw [List.filter_map]
 rfl
theorem WB {es C : List D} {R : List (List D)} {r : List D} (h : r ∈ Na es C R) : r ∈ R := (List.mem_filter.1 h).1
theorem Nw (h : Asks c d q) {l m : List Nat} (hl : x8 q (l ++ m)) (hn : (l ++ m).Nodup) {a b : D} {R S : List (List D)} (ha : Vw a (PC c d q l) R) (hb : Vw b (PC c d q m) S) (hR : ∀ r ∈ R, r ∈ PR c d q l) (hS : ∀ r ∈ S, r ∈ PR c d q m)
  (hRl : R.length <= (PR c d q l).length) (hSl : S.length <= (PR c d q m).length) :
  jL a b = true /\ Vw (jq a b) (PC c d q (l ++ m)) (R.flatMap fun x => S.map (x ++ ·)) := by
 have hn' := List.nodup_append.1 hn
 have hl1 : x8 q l := fun o ho => hl o (List.mem_append.2 (.inl ho))
 have hl2 : x8 q m := fun o ho => hl o (List.mem_append.2 (.inr ho))
 have hdis : ∀ o ∈ l, o ∉ m := fun o ho hm => hn'.2.2 o ho o hm rfl
 have f1 := Kr h hl1
 have f2 := Kr h hl2
 have f3 := Ez h hl hn
 rw [List.length_append, Nat.pow_add] at f3
 have p1 : 8 ^ l.length <= 4096 := Ez h hl1 hn'.1
 have p2 : 8 ^ m.length <= 4096 := Ez h hl2 hn'.2.1
 have hx : jL a b = true := by
  refine X7 (PO ha (KX h hl1 hn'.1) (by omega) fun r hr => LG h hl1 r (hR r hr)) (PO hb (KX h hl2 hn'.2.1) (by omega) fun r hr => LG h hl2 r (hS r hr)) ?_ ?_
  ·rw [ha.1, hb.1]; exact Ri h hl1 hl2 hdis
  ·have e1 : (aK a).length = R.length := by rw [<- ha.2]; simp [rws]
   have e2 : (aK b).length = S.length := by rw [<- hb.2]; simp [rws]
   rw [e1, e2]
   refine Nat.le_trans (Nat.mul_le_mul (Nat.le_trans hRl f1) (Nat.le_trans hSl f2)) (by omega)
 refine ⟨hx, ?_, ?_⟩
 ·rw [PW hx, ha.1, hb.1, acs]
 ·rw [UC hx, ha.2, hb.2]
theorem yT {l : List D} {z : Int} : hasB l z = true ↔ ∃ x ∈ l, intD x = z := by
 refine ⟨SK, ?_⟩
 rintro ⟨x, hx, rfl⟩
 exact Fb hx
theorem abx {l : List Nat} {z : Int} : hasB (PC c d q l) z = true ↔ ∃ o ∈ l, hasB (CO c d q o) z = true := by
 rw [yT]
 unfold PC
 constructor
 ·rintro ⟨x, hx, rfl⟩
  obtain ⟨o, ho, hx⟩ := List.mem_flatMap.1 hx
  exact ⟨o, ho, Fb hx⟩
 ·rintro ⟨o, ho, hz⟩
  obtain ⟨x, hx, rfl⟩ := yT.1 hz
  exact ⟨x, List.mem_flatMap.2 ⟨o, ho, hx⟩, rfl⟩
end
section
set_option linter.unusedSimpArgs false
theorem agn {q : D} (hp : (qP q).length <= 6) (f : D -> Bool) : aeX q (plc f (qP q) 0) = true := by
 unfold aeX
 simp only [Bool.and_eq_true, decide_eq_true_eq, List.all_eq_true]
 refine ⟨?_, fun x hx => ?_⟩
 ·rw [plc_len]
  exact Nat.le_trans (List.countP_le_length) (by omega)
 ·obtain ⟨k, hk, rfl, _⟩ := plc_mem.1 hx
  rw [show intD (fM ((0 + k : Nat) : Int)) = ((0 + k : Nat) : Int) from rfl]
  omega
variable {c d q : D}
theorem acL (h : Asks c d q) {z : Int} (hz : lW c q z = true) : (dB z).toNat < (dQ q).length /\ hasB (CO c d q (dB z).toNat) z = true := by
 unfold lW at hz
 simp only [Bool.and_eq_true, decide_eq_true_eq] at hz
 obtain ⟨h1, h2, h3⟩ := hz
 have hb := dw.1 h1
 obtain ⟨s1, s2⟩ := vI (z := z) ⟨hb.1, hb.2⟩
 have hlt : (dB z).toNat < (dQ q).length := by omega
 refine ⟨hlt, ?_⟩
 have ho := Gx h hlt
 rw [ho.seen]
 have e : (((dB z).toNat : Nat) : Int) = dB z := by omega
 rw [e]
 refine yT.2 ⟨qI (dB z) (splitB z).toNat, ?_, ?_⟩
 ·unfold ik
  refine List.mem_map.2 ⟨(splitB z).toNat, List.mem_range.2 (by omega), rfl⟩
 ·show Ci (dB z) (((splitB z).toNat : Nat) : Int) = z
  rw [EM (by omega) (by omega)]
  omega
theorem Ou (es C : List D) (R : List (List D)) : (Na es C R).length <= R.length := List.length_filter_le _ _
theorem uH {n : Nat} (h : n <= (dQ q).length) : x8 q (List.range n) := fun o ho => by have := List.mem_range.1 ho; omega
theorem CG (h : Asks c d q) : ∀ m, m < (dQ q).length -> Vw (EX c d q m) (PC c d q (List.range (m + 1))) (PR c d q (List.range (m + 1)))
 | 0, _ => by
  rw [show List.range (0 + 1) = [0] from rfl, P9, show PC c d q [0] = CO c d q 0 by unfold PC; simp]
  exact ⟨rfl, rfl⟩
 | m + 1, hm => by
  have ih := CG h m (by omega)
  have h1 : Vw (lT c d q ((m + 1 : Nat) : Int)) (PC c d q [m + 1]) (PR c d q [m + 1]) := by
   rw [P9, show PC c d q [m + 1] = CO c d q (m + 1) by unfold PC; simp]
   exact ⟨rfl, rfl⟩
  have e : List.range (m + 1 + 1) = List.range (m + 1) ++ [m + 1] := List.range_succ
  have hn : (List.range (m + 1) ++ [m + 1]).Nodup := by rw [<- e]; exact List.nodup_range
  have ho : x8 q (List.range (m + 1) ++ [m + 1]) := by rw [<- e]; exact uH (by omega)
  have := (Nw h ho hn ih h1 (fun r hr => hr) (fun r hr => hr) (Nat.le_refl _) (Nat.le_refl _)).2
  rw [<- WO, <- e] at this
  exact this
theorem QY (h : Asks c d q) {m : Nat} (hm : m + 1 < (dQ q).length) : jL (EX c d q m) (lT c d q ((m + 1 : Nat) : Int)) = true := by
 have ih := CG h m (by omega)
 have h1 : Vw (lT c d q ((m + 1 : Nat) : Int)) (PC c d q [m + 1]) (PR c d q [m + 1]) := by
  rw [P9, show PC c d q [m + 1] = CO c d q (m + 1) by unfold PC; simp]
  exact ⟨rfl, rfl⟩
 have e : List.range (m + 1 + 1) = List.range (m + 1) ++ [m + 1] := List.range_succ
 have hn : (List.range (m + 1) ++ [m + 1]).Nodup := by rw [<- e]; exact List.nodup_range
 have ho : x8 q (List.range (m + 1) ++ [m + 1]) := by rw [<- e]; exact uH (by omega)
 exact (Nw h ho hn ih h1 (fun r hr => hr) (fun r hr => hr) (Nat.le_refl _) (Nat.le_refl _)).1
theorem GG (h : Asks c d q) : Vw (jX c d q) (PC c d q (List.range (dQ q).length)) (PR c d q (List.range (dQ q).length)) := by
 have := CG h ((dQ q).length - 1) (by have := h.n1; omega)
 have hn := h.n1
 rw [show (dQ q).length - 1 + 1 = (dQ q).length by omega] at this
 exact this
theorem VD (h : Asks c d q) : Vw (uh c d q) (PC c d q (List.range (dQ q).length)) (Na (qP q) (PC c d q (List.range (dQ q).length)) (PR c d q (List.range (dQ q).length))) :=
 YN (GG h) _
theorem ZO (h : Asks c d q) {l : List Nat} (hl : x8 q l) (hn : l.Nodup) {b : D} {R : List (List D)} (hv : Vw b (PC c d q l) R) (hR : ∀ r ∈ R, r ∈ PR c d q l) (hRl : R.length <= (PR c d q l).length) : bn b = true := by
 have f1 := Kr h hl
 have f2 := Ez h hl hn
 exact PO hv (KX h hl hn) (by omega) fun r hr => LG h hl r (hR r hr)
theorem QG {b : D} (h : bn b = true) : iX b = true := by
 obtain ⟨h1, h2, h3⟩ := o8.1 h
 have h4 := qj h1
 unfold iX
 simp only [Bool.and_eq_true, decide_eq_true_eq, List.all_eq_true]
 exact ⟨⟨by omega, by omega⟩, fun r hr => by rw [(h3 r hr).1]; omega⟩
end
section
set_option linter.unusedSimpArgs false
variable {c d q : D}
theorem Ut : ∀ {l : List D}, YC l = false -> (l.map intD).Nodup := by
 intro l h
 unfold List.Nodup
 rw [List.pairwise_iff_getElem]
 intro i j hi hj hij e
 have hi : i < l.length := by simpa using hi
 have hj' : j < l.length := by simpa using hj
 unfold YC at h
 rw [List.any_eq_false] at h
 refine h j (List.mem_range'_1.2 ⟨Nat.zero_le _, by omega⟩) ?_
 rw [yT]
 refine ⟨l[i], ?_, ?_⟩
 ·rw [List.mem_iff_getElem?]
  exact ⟨i, by rw [List.getElem?_take, if_pos hij, List.getElem?_eq_getElem hi]⟩
 ·rw [dA hj']
  simpa using e
theorem RU {l : List D} : fU c q l = true ↔ ∀ x ∈ l, lW c q (intD x) = true := by unfold fU; rw [List.all_eq_true]
theorem Ny (h : Asks c d q) {l : List Nat} (hall : ∀ o, o < (dQ q).length -> o ∈ l) {z : Int} (hz : lW c q z = true) : hasB (PC c d q l) z = true := by
 obtain ⟨h1, h2⟩ := acL h hz
 exact abx.2 ⟨_, hall _ h1, h2⟩
theorem DR (h : Asks c d q) {l : List Nat} (hall : ∀ o, o < (dQ q).length -> o ∈ l) {s : List D} (hs : fU c q s = true) : gy (PC c d q l) s = true := by
 unfold gy
 rw [List.all_eq_true]
 intro z hz
 obtain ⟨x, hx, rfl⟩ := List.mem_map.1 hz
 exact Ny h hall (RU.1 hs x hx)
theorem aaY (h : Asks c d q) : Qc c q = true := by
 have := h.may
 unfold IG at this
 simp only [Bool.and_eq_true] at this
 exact this.2.2.2
theorem AY {l : List D} (h1 : fU c q l = true) (h2 : YC l = false) : dm l = true := by
 unfold dm
 rw [Bool.and_eq_true]
 refine ⟨?_, Cj (Ut h2)⟩
 rw [List.all_eq_true]
 intro z hz
 obtain ⟨x, hx, rfl⟩ := List.mem_map.1 hz
 have := RU.1 h1 x hx
 unfold lW at this
 rw [Bool.and_eq_true] at this
 have hb := dw.1 this.1
 simp only [Bool.and_eq_true, decide_eq_true_eq]
 omega
theorem abu (h : Asks c d q) {l : List Nat} (hall : ∀ o, o < (dQ q).length -> o ∈ l) {b : D} (hC : aQ b = PC c d q l) (hb : bn b = true) : gV q b = true := by
 have he := aaY h
 unfold Qc at he
 unfold gV
 cases hq : qBy q == -1 with
 | true =>
  rw [hq, cond_true] at he
  have hq' : (qBy q != -1) = false := by unfold bne; rw [hq]; rfl
  rw [hq', cond_false]
  unfold Jb at he
  simp only [Bool.and_eq_true, Bool.not_eq_true'] at he
  unfold gm
  rw [hb, AY he.2.2.2.1 he.2.2.2.2.1, hC, DR h hall he.2.2.2.1]
  rfl
 | false =>
  rw [hq, cond_false] at he
  have hq' : (qBy q != -1) = true := by unfold bne; rw [hq]; rfl
  rw [hq', cond_true]
  unfold wL at he
  simp only [Bool.and_eq_true] at he
  unfold dO
  rw [hb, hC, Ny h hall he.1, DR h hall he.2.2.1, he.2.1]
  rfl
theorem SH (h : Asks c d q) : bn (uh c d q) = true :=
 ZO h (uH (Nat.le_refl _)) List.nodup_range (VD h) (fun r hr => WB hr) (Ou _ _ _)
theorem RZ (h : Asks c d q) : gV q (uh c d q) = true :=
 abu h (l := List.range (dQ q).length) (fun o ho => List.mem_range.2 ho) (VD h).1 (SH h)
theorem Ol (h : Asks c d q) : bn (jX c d q) = true :=
 ZO h (uH (Nat.le_refl _)) List.nodup_range (GG h) (fun r hr => hr) (Nat.le_refl _)
end
section
set_option linter.unusedSimpArgs false
theorem SB (cols : List D) (p : Int) (sums : List D) : ∀ (k : Nat) (rows : List D), (uO cols p sums k rows).length <= rows.length
 | 0, rows => Nat.zero_le _
 | k + 1, [] => Nat.le_refl _
 | k + 1, r :: rows => by
  unfold uO
  have ih := SB cols p sums k ((r :: rows).drop (eU (r :: rows) p))
  have h1 : 1 <= eU (r :: rows) p := by unfold eU; omega
  simp only [List.length_cons, List.length_drop] at ih ⊢
  omega
theorem TA (cols : List D) (p : Int) (sums : List D) : ∀ (k : Nat) (rows : List D), ∀ r ∈ uO cols p sums k rows, (ae r).length = 2 + sums.length
 | 0, rows => by intro r hr; cases hr
 | k + 1, [] => by intro r hr; cases hr
 | k + 1, x :: rows => by
  intro r hr
  unfold uO at hr
  rcases List.mem_cons.1 hr with rfl | hr
  ·show (nz _ p sums).length = _
   unfold nz
   simp
   omega
  ·exact TA cols p sums k _ r hr
theorem Lu {q b : D} : (aK (fV q b)).length <= (aK b).length := by
 unfold fV
 cases hq : (qBy q != -1) with
 | true =>
  rw [cond_true]
  unfold eF
  cases hg : dO b (qBy q) (kS q) with
  | true =>
   rw [cond_true]
   refine Nat.le_trans (SB _ _ _ _ _) ?_
   unfold dI
   rw [eP]
   exact Nat.le_refl _
  | false => exact Nat.zero_le _
 | false =>
  rw [cond_false]
  unfold gz
  cases hg : gm b (uD q) with
  | true =>
   rw [cond_true]
   show ((aK b).map _).length <= _
   rw [List.length_map]
   exact Nat.le_refl _
  | false => exact Nat.zero_le _
theorem Tu {q b : D} : ∀ r ∈ aK (fV q b), (ae r).length <= 16 := by
 unfold fV
 cases hq : (qBy q != -1) with
 | true =>
  rw [cond_true]
  unfold eF
  cases hg : dO b (qBy q) (kS q) with
  | true =>
   rw [cond_true]
   intro r hr
   unfold dO at hg
   simp only [Bool.and_eq_true, decide_eq_true_eq] at hg
   rw [TA _ _ _ _ _ r hr]
   omega
  | false => intro r hr; cases hr
 | false =>
  rw [cond_false]
  unfold gz
  cases hg : gm b (uD q) with
  | true =>
   rw [cond_true]
   intro r hr
   obtain ⟨x, hx, rfl⟩ := List.mem_map.1 (show r ∈ (aK b).map _ from hr)
   show (jZ (ae x) (uC b (uD q))).length <= 16
   have h3 := qj (QE.1 hg).2.1
   rw [IU, UO]
   omega
  | false => intro r hr; cases hr
theorem WX {c d q : D} : (aK (xu c d q)).length <= 5000 /\ ∀ r ∈ aK (xu c d q), (ae r).length <= 16 := by
 unfold xu
 cases h : iP c d q with
 | true =>
  rw [cond_true]
  refine ⟨Nat.le_trans Lu ?_, Tu⟩
  exact (o8.1 (SH (zK h))).2.1
 | false => exact ⟨Nat.zero_le _, fun r hr => by cases hr⟩
end
section
set_option linter.unusedSimpArgs false
def AU (p : Int) (r : D) : Prop := 0 <= p /\ p < ((ae r).length : Int) /\ je ((ae r).getD p.toNat .nil) = true
theorem BC {p : Int} {r : D} (h : AU p r) : fA (ae r) p = .agg [fM (kk ((ae r).getD p.toNat .nil)), fM (nn ((ae r).getD p.toNat .nil))] := by
 unfold fA
 have e : (decide (p < 0) || decide (p >= ((ae r).length : Int))) = false := by
  have := h.1; have := h.2.1
  rw [Bool.or_eq_false_iff, decide_eq_false_iff_not, decide_eq_false_iff_not]
  omega
 rw [e, cond_false, h.2.2, cond_true]
theorem y5 {p : Int} {r : D} (h : AU p r) : keyAt p r = sH ((ae r).getD p.toNat .nil) := by
 unfold keyAt
 rw [BC h]
 have hv : je (vv (kk ((ae r).getD p.toNat .nil)) (nn ((ae r).getD p.toNat .nil))) = true := h.2.2
 generalize (ae r).getD p.toNat .nil = v at hv ⊢
 show (kk (gX (vv (kk v) (nn v))), nn (gX (vv (kk v) (nn v)))) = sH v
 unfold gX
 rw [hv]
 rfl
theorem ZH {p : Int} {r s : D} (h : AU p r) (g : AU p s) : oh (fA (ae r) p) (fA (ae s) p) = decide (keyAt p r = keyAt p s) := by
 rw [BC h, BC g, y5 h, y5 g]
 generalize (ae r).getD p.toNat .nil = v
 generalize (ae s).getD p.toNat .nil = u
 show ((kk v == kk u) && ((nn v == nn u) && true)) = decide ((kk v, nn v) = (kk u, nn u))
 rw [Bool.and_true, Bool.eq_iff_iff]
 simp
theorem Gn {p : Int} : ∀ (l : List D) (k : Key), l.Pairwise (fun x y => klt (keyAt p y) (keyAt p x) = false) -> (∀ x ∈ l, klt (keyAt p x) k = false) ->
  l.takeWhile (fun x => decide (keyAt p x = k)) = l.filter (fun x => decide (keyAt p x = k)) /\ l.drop (l.takeWhile (fun x => decide (keyAt p x = k))).length = l.filter (fun x => !decide (keyAt p x = k))
 | [], k, _, _ => ⟨rfl, rfl⟩
 | x :: l, k, hs, hk => by
  rw [List.pairwise_cons] at hs
  obtain ⟨i1, i2⟩ := Gn l k hs.2 (fun y hy => hk y (List.mem_cons_of_mem _ hy))
  by_cases h : keyAt p x = k
  ·rw [List.takeWhile_cons, List.filter_cons, List.filter_cons]
   simp only [h, decide_true, if_true, Bool.not_true, Bool.false_eq_true, if_false, List.length_cons, List.drop_succ_cons]
   exact ⟨by rw [i1], i2⟩
  ·have hn : ∀ y ∈ l, ¬ keyAt p y = k := by
    intro y hy e
    have h1 := hs.1 y hy
    have h2 := hk x (List.mem_cons_self)
    rw [e] at h1
    refine h ?_
    rw [vO] at h1 h2
    have : (keyAt p x).1 = k.1 /\ (keyAt p x).2 = k.2 := by omega
    exact Prod.ext this.1 this.2
   rw [List.takeWhile_cons, List.filter_cons, List.filter_cons]
   simp only [h, decide_false, Bool.false_eq_true, if_false, Bool.not_false, if_true, List.length_nil, List.drop_zero]
   refine ⟨(List.filter_eq_nil_iff.2 fun y hy => by simpa using hn y hy).symm, ?_⟩
   rw [List.filter_eq_self.2 fun y hy => by simpa using hn y hy]
theorem JG {p : Int} {r : D} {l : List D} (hs : Srt (keyAt p) (r :: l)) (hg : ∀ x ∈ r :: l, AU p x) :
  (r :: l).take (eU (r :: l) p) = (r :: l).filter (fun x => decide (keyAt p x = keyAt p r)) /\ (r :: l).drop (eU (r :: l) p) = (r :: l).filter (fun x => !decide (keyAt p x = keyAt p r)) := by
 have h1 : eU (r :: l) p = 1 + (l.takeWhile (fun x => decide (keyAt p x = keyAt p r))).length := by
  unfold eU
  congr 2
  show l.takeWhile (fun x => oh (fA (ae x) p) (fA (ae r) p)) = _
  have : ∀ (m : List D), (∀ x ∈ m, AU p x) -> m.takeWhile (fun x => oh (fA (ae x) p) (fA (ae r) p)) = m.takeWhile (fun x => decide (keyAt p x = keyAt p r)) := by
   intro m
   induction m with
   | nil => intro _; rfl
   | cons y m ih =>
    intro hm
    rw [List.takeWhile_cons, List.takeWhile_cons, ZH (hm y (List.mem_cons_self)) (hg r (List.mem_cons_self)), ih (fun x hx => hm x (List.mem_cons_of_mem _ hx))]
  exact this l (fun x hx => hg x (List.mem_cons_of_mem _ hx))
 unfold Srt at hs
 obtain ⟨i1, i2⟩ := Gn (r :: l) (keyAt p r) hs (fun x hx => by
  rcases List.mem_cons.1 hx with rfl | hx
  ·exact jA _
  ·exact (List.pairwise_cons.1 hs).1 x hx)
 have h2 : ((r :: l).takeWhile (fun x => decide (keyAt p x = keyAt p r))).length = eU (r :: l) p := by
  rw [List.takeWhile_cons]
  simp only [decide_true, if_true, List.length_cons]
  omega
 rw [h2] at i2
 refine ⟨?_, i2⟩
 rw [<- i1, <- h2]
 exact (List.prefix_iff_eq_take.1 (List.takeWhile_prefix _)).symm
theorem Qv {l m : List D} (h : l.Perm m) : total l = total m := by
 induction h with
 | nil => rfl
 | cons x _ ih => unfold total at ih ⊢; simp [ih]
 | swap x y l => unfold total; simp; omega
 | trans _ _ i1 i2 => exact i1.trans i2
theorem Oa {f : D -> Bool} {l m : List D} (h : l.Perm m) : l.any f = m.any f := by
 rw [Bool.eq_iff_iff, List.any_eq_true, List.any_eq_true]
 exact ⟨fun ⟨x, hx, h1⟩ => ⟨x, h.mem_iff.1 hx, h1⟩, fun ⟨x, hx, h1⟩ => ⟨x, h.mem_iff.2 hx, h1⟩⟩
theorem X6 {l m : List D} (h : l.Perm m) : xO l = xO m := by
 unfold xO
 rw [Oa h, Oa h, Qv h]
theorem Oh {cols : List D} {p : Int} {sums : List D} : ∀ (k : Nat) (L M : List D), L.length <= k -> Srt (keyAt p) L -> Srt (keyAt p) M -> L.Perm M -> (∀ r ∈ L, AU p r) ->
  (uO cols p sums k L).map qp = (uO cols p sums k M).map qp
 | 0, L, M, _, _, _, _, _ => rfl
 | k + 1, [], M, _, _, _, hp, _ => by
  rw [List.Perm.eq_nil hp.symm]
 | k + 1, r :: L, [], _, _, _, hp, _ => by
  exact absurd hp.symm (by simp)
 | k + 1, r :: L, s :: M, hl, h1, h2, hp, hg => by
  have hg' : ∀ x ∈ s :: M, AU p x := fun x hx => hg x (hp.mem_iff.2 hx)
  have hk : keyAt p s = keyAt p r := by
   have a1 : klt (keyAt p s) (keyAt p r) = false := by
    rcases List.mem_cons.1 (hp.mem_iff.2 (List.mem_cons_self) : s ∈ r :: L) with rfl | hx
    ·exact jA _
    ·exact (List.pairwise_cons.1 (show (r :: L).Pairwise _ from h1)).1 s hx
   have a2 : klt (keyAt p r) (keyAt p s) = false := by
    rcases List.mem_cons.1 (hp.mem_iff.1 (List.mem_cons_self) : r ∈ s :: M) with rfl | hx
    ·exact jA _
    ·exact (List.pairwise_cons.1 (show (s :: M).Pairwise _ from h2)).1 r hx
   rw [vO] at a1 a2
   have : (keyAt p s).1 = (keyAt p r).1 /\ (keyAt p s).2 = (keyAt p r).2 := by omega
   exact Prod.ext this.1 this.2
  obtain ⟨t1, d1⟩ := JG h1 hg
  obtain ⟨t2, d2⟩ := JG h2 hg'
  rw [hk] at t2 d2
  unfold uO
  rw [t1, d1, t2, d2, List.map_cons, List.map_cons]
  have hperm := hp.filter (fun x => decide (keyAt p x = keyAt p r))
  have hrest := hp.filter (fun x => !decide (keyAt p x = keyAt p r))
  congr 1
  ·have c1 : ((r :: L).filter (fun x => decide (keyAt p x = keyAt p r))).getD 0 .nil = r := by rw [List.filter_cons]; simp
   have c2 : ((s :: M).filter (fun x => decide (keyAt p x = keyAt p r))).getD 0 .nil = s := by rw [List.filter_cons]; simp [hk]
   show (nz (aX cols ((r :: L).filter _)) p sums).map sH = (nz (aX cols ((s :: M).filter _)) p sums).map sH
   unfold nz
   have b1 : ∀ rs, aK (aX cols rs) = rs := fun _ => rfl
   have b2 : ∀ rs, aQ (aX cols rs) = cols := fun _ => rfl
   rw [b1, b1, b2, b2, c1, c2, List.map_cons, List.map_cons, List.map_cons, List.map_cons, <- y5 (hg r (List.mem_cons_self)), <- y5 (hg' s (List.mem_cons_self)), hk, hperm.length_eq]
   congr 2
   congr 1
   refine List.map_congr_left fun c _ => ?_
   exact X6 (hperm.map _)
  ·refine Oh k _ _ ?_ ?_ ?_ hrest (fun x hx => hg x (List.mem_filter.1 hx).1)
   ·have : ((r :: L).filter (fun x => !decide (keyAt p x = keyAt p r))).length <= L.length := by
     rw [List.filter_cons]
     simp only [decide_true, Bool.not_true, Bool.false_eq_true, if_false]
     exact List.length_filter_le _ _
    simp only [List.length_cons] at hl
    omega
   ·exact List.Pairwise.filter _ h1
   ·exact List.Pairwise.filter _ h2
end
section
set_option linter.unusedSimpArgs false
theorem O6 {b b' : D} (hC : aQ b = aQ b') (hp : (aK b).Perm (aK b')) : bn b = bn b' := by
 rw [Bool.eq_iff_iff, o8, o8, hC, hp.length_eq]
 constructor
 ·rintro ⟨h1, h2, h3⟩; exact ⟨h1, h2, fun r hr => h3 r (hp.mem_iff.2 hr)⟩
 ·rintro ⟨h1, h2, h3⟩; exact ⟨h1, h2, fun r hr => h3 r (hp.mem_iff.1 hr)⟩
theorem zy {b b' : D} (hC : aQ b = aQ b') (hp : (aK b).Perm (aK b')) (c : Int) (s : List D) : dO b c s = dO b' c s := by
 unfold dO
 rw [O6 hC hp, hC]
theorem vY {b b' : D} (hC : aQ b = aQ b') (hp : (aK b).Perm (aK b')) (s : List D) : gm b s = gm b' s := by
 unfold gm
 rw [O6 hC hp, hC]
theorem Qq {q b b' : D} (hC : aQ b = aQ b') (hp : (aK b).Perm (aK b')) : gV q b = gV q b' := by
 unfold gV
 rw [zy hC hp, vY hC hp]
theorem Qa {b b' : D} (hC : aQ b = aQ b') (hp : (aK b).Perm (aK b')) (c : Int) (s : List D) :
  aQ (eF b c s) = aQ (eF b' c s) /\ (aK (eF b c s)).map qp = (aK (eF b' c s)).map qp := by
 unfold eF
 rw [<- zy hC hp]
 cases h : dO b c s with
 | false => exact ⟨rfl, rfl⟩
 | true =>
  rw [cond_true, cond_true]
  refine ⟨rfl, ?_⟩
  unfold dO at h
  simp only [Bool.and_eq_true] at h
  obtain ⟨m1, m2, m3⟩ := o8.1 h.1.1.1
  obtain ⟨p1, p2⟩ := Fz h.1.1.2
  have hg : ∀ r ∈ aK b, AU (bz (aQ b) c) r := by
   intro r hr
   obtain ⟨l1, l2⟩ := m3 r hr
   have hlt : (bz (aQ b) c).toNat < (ae r).length := by omega
   refine ⟨p1, by omega, ?_⟩
   rw [dA hlt]
   exact l2 _ (List.getElem_mem hlt)
  show (uO (aQ b) _ s _ _).map qp = (uO (aQ b') _ s _ _).map qp
  rw [<- hC, <- hp.length_eq]
  have e1 : dI (bz (aQ b) c) (aK b) = sortK (keyAt (bz (aQ b) c)) (aK b) := rfl
  refine Oh _ _ _ (by unfold dI; rw [eP]; exact Nat.le_refl _) (jG _) (jG _) ?_ (fun r hr => hg r (wV.1 hr))
  exact ((xZ (aK b)).trans hp).trans (xZ (aK b')).symm
theorem Vf {b b' : D} (hC : aQ b = aQ b') (hp : (aK b).Perm (aK b')) (s : List D) :
  aQ (gz b s) = aQ (gz b' s) /\ (aK (gz b s)).Perm (aK (gz b' s)) := by
 cases h : gm b s with
 | false =>
  have h' := h
  rw [vY hC hp] at h'
  unfold gz
  rw [h, h']
  exact ⟨rfl, List.Perm.refl _⟩
 | true =>
  have h' := h
  rw [vY hC hp] at h'
  rw [xR h, xR h', <- hC]
  exact ⟨rfl, hp.map _⟩
theorem VU {q b b' : D} (hC : aQ b = aQ b') (hp : (aK b).Perm (aK b')) :
  aQ (fV q b) = aQ (fV q b') /\ ((aK (fV q b)).map qp).Perm ((aK (fV q b')).map qp) := by
 unfold fV
 cases (qBy q != -1) with
 | true =>
  obtain ⟨h1, h2⟩ := Qa hC hp (qBy q) (kS q)
  rw [cond_true, cond_true]
  exact ⟨h1, by rw [h2]⟩
 | false =>
  obtain ⟨h1, h2⟩ := Vf hC hp (uD q)
  rw [cond_false, cond_false]
  exact ⟨h1, h2.map _⟩
theorem TP (b : D) (c : Int) : aQ (iM b c) = aQ b := rfl
theorem Uh (b : D) (c : Int) : (aK (iM b c)).Perm (aK b) := xZ _
theorem Xo {q b : D} (h : gV q b = false) : fV q b = aX [] [] := by
 unfold gV at h
 unfold fV
 cases hq : (qBy q != -1) with
 | true => rw [hq, cond_true] at h; rw [cond_true]; unfold eF; rw [h]; rfl
 | false => rw [hq, cond_false] at h; rw [cond_false]; unfold gz; rw [h]; rfl
theorem Yg {q b : D} (h : gV q b = true) (hq : qBy q = -1) : (aQ (fV q b)) = uD q /\ (aK (fV q b)).length = (aK b).length := by
 have e : (qBy q != -1) = false := by rw [hq]; rfl
 unfold gV at h
 unfold fV
 rw [e, cond_false] at h
 rw [e, cond_false, xR h]
 refine ⟨rfl, ?_⟩
 show ((aK b).map _).length = _
 rw [List.length_map]
theorem UT {q b : D} (h : gV q b = true) (hq : (qBy q == -1) = false) : (aQ (fV q b)) = dD (qBy q) ((kS q).length : Int) /\ (kS q).length <= 4 := by
 have e : (qBy q != -1) = true := by unfold bne; rw [hq]; rfl
 unfold gV at h
 unfold fV
 rw [e, cond_true] at h
 rw [e, cond_true]
 have h' := h
 unfold dO at h'
 simp only [Bool.and_eq_true, decide_eq_true_eq] at h'
 unfold eF
 rw [h, cond_true]
 exact ⟨rfl, h'.2⟩
theorem Iu (c : Int) (n : Nat) : (dD c (n : Int)).length = 2 + n := by
 unfold dD
 rw [List.length_cons, List.length_map, List.length_range]
 omega
theorem QW {b : D} {n : Int} (hn : n <= 100) (h : kZ b n = true) : iX b = true := by
 unfold kZ at h
 simp only [Bool.and_eq_true, decide_eq_true_eq, List.all_eq_true] at h
 unfold iX
 simp only [Bool.and_eq_true, decide_eq_true_eq, List.all_eq_true]
 exact ⟨⟨by omega, by omega⟩, fun r hr => by have := h.2 r hr; omega⟩
end
end Go.Ev
