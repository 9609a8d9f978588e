/- Trees of functions, and lemmas. Nothing here is trusted. -/
import Derived.Test.YtdacippnonhahaaDoorZ20
import Derived.Test.YtdacippnonhahaaDoorZ27
namespace Go.Ev
set_option linter.unusedVariables false
set_option linter.unusedSimpArgs false
section
def turnX (d : D) : Option D := match tkids d with | [a, b] => some (nodeD [b, a]) | _ => none
def moveX (d : D) : Option D := match tkids d with | [ab, c] => (match tkids ab with | [a, b] => some (nodeD [a, nodeD [b, c]]) | _ => none) | _ => none
def resX (o : Option D) : D := match o with | some t => .agg [t, .lit (.bool true)] | none => .agg [leafD 0, .lit (.bool false)]
def nextK : Nat -> D -> List D
 | 0, _ => []
 | k + 1, d => (turnX d).toList ++ (moveX d).toList ++ match tkids d with
  | [a, b] => (nextK k a).map (fun n => nodeD [n, b]) ++ (nextK k b).map (fun n => nodeD [a, n])
  | _ => []
def nextT (d : D) : List D := bif mayT d then nextK 4 d else []

theorem may_inv : ∀ (k : Nat) (t : D), setK k t ≠ 0 -> inv k t
 | 0, t, h => absurd rfl h
 | k + 1, t, h => by
  rcases set_cases k t with h0 | ⟨h1, h2, _⟩ | ⟨a, b, hk, h2, ha, hb, _, _⟩
  ·exact absurd h0 h
  ·refine ⟨by rw [okT_succ, h1]; rfl, ?_⟩
   rw [szT_succ, h1]
   show 1 + 0 + 1 <= 2 ^ (k + 1 + 1)
   have : 1 <= 2 ^ k := Nat.one_le_two_pow
   omega
  ·obtain ⟨a1, a2⟩ := may_inv k a ha
   obtain ⟨b1, b2⟩ := may_inv k b hb
   refine ⟨by rw [okT_succ, hk]; simp [a1, b1], ?_⟩
   rw [szT_succ, hk]
   have e1 : szT 129 a <= szT 130 a := szT_mono 129 a
   have e2 : szT 129 b <= szT 130 b := szT_mono 129 b
   simp only [List.map_cons, List.map_nil, List.sum_cons, List.sum_nil]
   have : 2 ^ (k + 1 + 1) = 2 ^ (k + 1) + 2 ^ (k + 1) := by omega
   omega
theorem may_set {t : D} (h : mayT t = true) : setK 4 t ≠ 0 := by
 unfold mayT setT at h
 simpa using h
theorem may_sm {t : D} (h : mayT t = true) : smT t = true := inv_small (may_inv 4 t (may_set h)) (by omega)
/-- A tree that may be is an occurrence, or has two trees that may be. -/
theorem may_parts {t : D} (h : mayT t = true) : (tkids t = []) \/ ∃ a b, tkids t = [a, b] /\ mayT a = true /\ mayT b = true := by
 rcases set_cases 3 t with h0 | ⟨h1, _, _⟩ | ⟨a, b, hk, _, ha, hb, _, _⟩
 ·exact absurd h0 (may_set h)
 ·exact .inl h1
 ·refine .inr ⟨a, b, hk, ?_, ?_⟩
  ·unfold mayT setT
   rw [setK_mono 3 a ha]
   simpa using ha
  ·unfold mayT setT
   rw [setK_mono 3 b hb]
   simpa using hb
theorem node_sm2 {a b : D} (ha : setK 6 a ≠ 0) (hb : setK 6 b ≠ 0) : smT (nodeD [a, b]) = true := inv_small (inv_node (may_inv 6 a ha) (may_inv 6 b hb)) (by omega)
theorem set6 {a : D} (h : mayT a = true) : setK 6 a ≠ 0 := by
 have h4 := may_set h
 have h5 : setK 5 a ≠ 0 := by rw [setK_mono 4 a h4]; exact h4
 rw [setK_mono 5 a h5]; exact h5
open Go.RowKit
theorem Rep.retype {P : Program} {w : World} {ok : Nat -> Prop} {t u : TypeId} (hu : P.underlying t = P.underlying u) (hc : P.cellsOf t = P.cellsOf u) : ∀ {n : Nat} {cs : List Value} {d : D}, Rep P w ok n t cs d -> Rep P w ok n u cs d
 | 0, _, _, h => h.elim
 | n + 1, cs, d, h => by
  unfold Rep at h ⊢
  rw [<- hu, <- hc]
  exact h
theorem RepV.retype {P : Program} {w : World} {ok : Nat -> Prop} {t u : TypeId} {v : Value} {d : D} (hu : P.underlying t = P.underlying u) (hc : P.cellsOf t = P.cellsOf u) (h : RepV P w ok t v d) : RepV P w ok u v d := by
 obtain ⟨⟨n, h1⟩, h2, h3⟩ := h
 have e : isAggB P u = isAggB P t := by unfold isAggB; rw [hu]
 exact ⟨⟨n, h1.retype hu hc⟩, by rw [e]; exact h2, by rw [e]; exact h3⟩
/-- Of a type that is the same underneath. -/
theorem CallOK.retype {P : Program} {f : FuncId} {t u : TypeId} {d : D} {r : AV} (hu : P.underlying t = P.underlying u) (hc : P.cellsOf t = P.cellsOf u) (h : CallOK P f [dat u d] r) : CallOK P f [dat t d] r := by
 refine ⟨h.fn, h.tag, fun w okA vs htb hok hargs => ?_⟩
 match vs, hargs with
 | [v], hargs => exact h.call w okA [v] htb hok ⟨⟨rfl, RepV.retype hu hc hargs.1.2⟩, trivial⟩
end
/-- How many Joins one has, and Joins whose first one is a Join. -/
def jn : Nat -> D -> Nat
 | 0, _ => 0
 | k + 1, d => match tkids d with
  | [a, b] => (match tkids a with | [_, _] => 2 | _ => 1) + jn k a + jn k b
  | _ => 0
theorem nextK_len : ∀ (k : Nat) (d : D), (nextK k d).length = jn k d
 | 0, _ => rfl
 | k + 1, d => by
  have ih := nextK_len k
  simp only [nextK, jn, turnX, moveX]
  generalize tkids d = l
  match l with
  | [] => rfl
  | [_] => rfl
  | _ :: _ :: _ :: _ => rfl
  | [a, b] =>
   simp only [List.length_append, List.length_map, ih]
   generalize tkids a = m
   match m with
   | [] => simp; omega
   | [_] => simp; omega
   | _ :: _ :: _ :: _ => simp; omega
   | [_, _] => simp; omega
theorem jn_le : ∀ (k : Nat) (d : D), jn k d + 2 <= 2 ^ (k + 1)
 | 0, _ => by simp [jn]
 | k + 1, d => by
  have hp : 2 ^ (k + 1 + 1) = 2 ^ (k + 1) + 2 ^ (k + 1) := by omega
  have h1 : 1 <= 2 ^ (k + 1) := Nat.one_le_two_pow
  unfold jn
  split
  ·rename_i a b h
   have ha := jn_le k a
   have hb := jn_le k b
   split <;> omega
  ·have h2 : 1 <= 2 ^ k := Nat.one_le_two_pow
   omega
section
set_option maxRecDepth 100000
/-- What comes, one behind the other. -/
def comeK (seen : List D) (texts : List (List UInt8)) : List D -> List D × List (List UInt8)
 | [] => (seen, texts)
 | n :: l => bif texts.contains (textT n) then comeK seen texts l else comeK (seen ++ [n]) (textT n :: texts) l
def closeK : Nat -> Nat -> List D -> List (List UInt8) -> List D
 | 0, _, seen, _ => seen
 | f + 1, i, seen, texts => match seen[i]? with
  | some d => closeK f (i + 1) (comeK seen texts (nextK 4 d)).1 (comeK seen texts (nextK 4 d)).2
  | none => seen
def copyT (x : D) : D := match tkids x with | [a, b] => nodeD [a, b] | _ => leafD (tocc x)
def closeT (x : D) : List D := bif mayT x then closeK 130 0 [copyT x] [textT x] else []

/-- A way of rules, as a number in base 8. -/
def walkT : Nat -> Nat -> D -> D
 | 0, _, d => d
 | f + 1, n, d => bif n <= 1 then d else walkT f (n / 8) ((nextK 4 d).getD (n % 8) d)
def ways (s : Int) : List (Nat × Nat) :=
 bif s == 15 then [(1, 1), (10, 10), (657, 657), (5201, 81), (10, 37969), (83, 4761), (81, 5201), (665, 665), (82, 5713), (650, 593), (9, 9), (81, 89), (584, 584), (5192, 5192), (332496, 5256), (2405584, 648), (4696, 303752), (37600, 38088), (37584, 41608), (300816, 5320), (41560, 45704), (300696, 4744), (4616, 72), (41480, 712), (9, 33288), (81, 360968), (74, 4176), (650, 45136), (5256, 332496), (41608, 37584), (332368, 332368), (2654800, 300552), (5192, 299528), (41608, 37456), (37384, 37384), (303624, 4688), (41544, 366088), (331848, 38408), (42064, 45776), (332880, 4816), (5257, 23102160), (41609, 2130640), (42049, 2888912), (332865, 267472), (5192, 18920656), (41480, 2438352), (42568, 2365200), (340488, 304912), (81, 21017808), (665, 2627344), (37569, 23102032), (37530, 2135248), (73, 17043976), (593, 2130512), (586, 2138632), (4746, 267344), (5323, 17147400), (4691, 2144264), (650, 2143440), (5322, 268048), (648, 2405584), (5320, 300816), (300552, 2654800), (300240, 300240), (584, 2363912), (4744, 295504), (4688, 303624), (37968, 37968), (42584, 2467336), (37528, 309256), (5200, 308432), (42576, 38672), (649, 21239304), (5321, 2663944), (5185, 2364936), (42561, 304648), (42056, 2654928), (336392, 333008), (332872, 295632), (2662920, 38096), (657, 2949840), (5201, 328400), (41546, 2949712), (331850, 2627080), (649, 2626056), (5201, 328272), (4673, 266760), (37953, 33360), (5193, 3151368), (41481, 267784), (5258, 393936), (41610, 33488), (72, 4616), (592, 592), (648, 41480), (5200, 5200), (73, 5128), (649, 46088), (41562, 46600), (300698, 5640), (587, 2729480), (4700, 342024), (4698, 370184), (37602, 47112), (5195, 402952), (37587, 42504), (577, 520), (5185, 6152), (8, 8), (80, 88), (5256, 5840), (41608, 720), (80, 341200), (664, 42768), (648, 46288), (5320, 5904), (656, 50384), (5200, 5328), (72, 80), (648, 784)]
 else bif (s == 7 || s == 11 || s == 13 || s == 14) then [(1, 1), (9, 9), (584, 584), (4616, 72), (9, 33288), (74, 4176), (72, 4616), (592, 592), (73, 5128), (577, 520), (8, 8), (72, 80)]
 else bif (s == 1 || s == 2 || s == 4 || s == 8) then [(1, 1)] else [(1, 1), (8, 8)]
def headT (s : Int) : D := (allT s).getD 0 .nil
def waysOK (c : D) : List D -> List (Nat × Nat) -> Bool
 | d :: l, w :: ws => sameD 30 (walkT 12 w.1 d) c && sameD 30 (walkT 12 w.2 c) d && waysOK c l ws
 | [], _ => true
 | _ :: _, [] => false
def stepOK (s : Int) : Bool := (allT s).all fun d => (nextK 4 d).all fun n => mayT n && (setT n == s)
def rulesOK (s : Int) : Bool := waysOK (headT s) (allT s) (ways s) && stepOK s
theorem rules_1 : rulesOK 1 = true := by kernel_rfl
theorem rules_2 : rulesOK 2 = true := by kernel_rfl
theorem rules_3 : rulesOK 3 = true := by kernel_rfl
theorem rules_4 : rulesOK 4 = true := by kernel_rfl
theorem rules_5 : rulesOK 5 = true := by kernel_rfl
theorem rules_6 : rulesOK 6 = true := by kernel_rfl
theorem rules_7 : rulesOK 7 = true := by kernel_rfl
theorem rules_8 : rulesOK 8 = true := by kernel_rfl
theorem rules_9 : rulesOK 9 = true := by kernel_rfl
theorem rules_10 : rulesOK 10 = true := by kernel_rfl
theorem rules_11 : rulesOK 11 = true := by kernel_rfl
theorem rules_12 : rulesOK 12 = true := by kernel_rfl
theorem rules_13 : rulesOK 13 = true := by kernel_rfl
theorem rules_14 : rulesOK 14 = true := by kernel_rfl
theorem rules_15 : rulesOK 15 = true := by kernel_rfl
theorem rules_ok {x : Int} (h1 : 1 <= x) (h2 : x <= 15) : rulesOK x = true := by
 have : x = 1 \/ x = 2 \/ x = 3 \/ x = 4 \/ x = 5 \/ x = 6 \/ x = 7 \/ x = 8 \/ x = 9 \/ x = 10 \/ x = 11 \/ x = 12 \/ x = 13 \/ x = 14 \/ x = 15 := by omega
 rcases this with rfl | rfl | rfl | rfl | rfl | rfl | rfl | rfl | rfl | rfl | rfl | rfl | rfl | rfl | rfl
 ·exact rules_1
 ·exact rules_2
 ·exact rules_3
 ·exact rules_4
 ·exact rules_5
 ·exact rules_6
 ·exact rules_7
 ·exact rules_8
 ·exact rules_9
 ·exact rules_10
 ·exact rules_11
 ·exact rules_12
 ·exact rules_13
 ·exact rules_14
 ·exact rules_15
theorem walk_in {C : D -> Prop} (hC : ∀ d, C d -> ∀ n ∈ nextK 4 d, C n) : ∀ (f n : Nat) (d : D), C d -> C (walkT f n d)
 | 0, _, _, h => h
 | f + 1, n, d, h => by
  unfold walkT
  cases decide (n <= 1) with
  | true => exact h
  | false =>
   rw [cond_false]
   refine walk_in hC f _ _ ?_
   by_cases hlt : n % 8 < (nextK 4 d).length
   ·rw [List.getD_eq_getElem?_getD, List.getElem?_eq_getElem hlt]
    exact hC d h _ (List.getElem_mem hlt)
   ·rw [List.getD_eq_getElem?_getD, List.getElem?_eq_none (by omega)]
    exact h
theorem ways_mem {c : D} : ∀ (l : List D) (ws : List (Nat × Nat)), waysOK c l ws = true -> ∀ d ∈ l, ∃ u v, walkT 12 u d = c /\ walkT 12 v c = d
 | [], _, _, d, hd => by cases hd
 | x :: l, [], h, d, hd => by cases h
 | x :: l, w :: ws, h, d, hd => by
  unfold waysOK at h
  simp only [Bool.and_eq_true] at h
  rcases List.mem_cons.1 hd with rfl | hd
  ·exact ⟨w.1, w.2, sameD_eq 30 _ _ h.1.1, sameD_eq 30 _ _ h.1.2⟩
  ·exact ways_mem l ws h.2 d hd
/-- Whatever has one tree of a set, and what is next of each that it has, has all trees of the set. -/
theorem all_come {s : Int} (h1 : 1 <= s) (h2 : s <= 15) {C : D -> Prop} (hC : ∀ d, C d -> ∀ n ∈ nextK 4 d, C n) {x : D} (hx : x ∈ allT s) (hCx : C x) : ∀ t ∈ allT s, C t := by
 have h := rules_ok h1 h2
 unfold rulesOK at h
 rw [Bool.and_eq_true] at h
 intro t ht
 obtain ⟨u, _, hu, _⟩ := ways_mem _ _ h.1 x hx
 obtain ⟨_, v, _, hv⟩ := ways_mem _ _ h.1 t ht
 have hc : C (headT s) := by rw [<- hu]; exact walk_in hC _ _ _ hCx
 rw [<- hv]
 exact walk_in hC _ _ _ hc

theorem cano_inv {k : Nat} {d : D} (h : cano (k + 1) d) : ∃ n ks, d = .agg [.lit (.int .i64 n), .slice ks []] /\ tkids d = ks /\ tocc d = n /\ ∀ y ∈ ks, cano k y := by
 obtain ⟨n, ks, rfl, h⟩ := h
 exact ⟨n, ks, rfl, rfl, rfl, h⟩
theorem next_cano : ∀ (k j : Nat) (d : D), cano j d -> ∀ n ∈ nextK k d, cano (j + 3) n
 | 0, _, _, _, n, hn => by cases hn
 | k + 1, 0, d, h, n, hn => h.elim
 | k + 1, j + 1, d, h, n, hn => by
  obtain ⟨o, ks, hd, hk, ho, hall⟩ := cano_inv h
  unfold nextK at hn
  rcases List.mem_append.1 hn with hn | hn
  ·rcases List.mem_append.1 hn with hn | hn
   ·unfold turnX at hn
    rw [hk] at hn
    split at hn
    ·rename_i a b
     simp only [Option.toList_some, List.mem_singleton] at hn
     subst hn
     exact cano_le (cano_node (hall b (by simp)) (hall a (by simp))) (by omega)
    ·cases hn
   ·unfold moveX at hn
    rw [hk] at hn
    split at hn
    ·rename_i ab c
     have hab := hall ab (by simp)
     have hc := hall c (by simp)
     cases j with
     | zero => exact hab.elim
     | succ j =>
      obtain ⟨o2, ks2, hd2, hk2, ho2, hall2⟩ := cano_inv hab
      rw [hk2] at hn
      split at hn
      ·rename_i a b
       simp only [Option.toList_some, List.mem_singleton] at hn
       subst hn
       have hb := cano_mono (hall2 b (by simp))
       exact cano_le (cano_node (cano_le (hall2 a (by simp)) (by omega)) (cano_node hb hc)) (by omega)
      ·cases hn
    ·cases hn
  ·rw [hk] at hn
   split at hn
   ·rename_i a b
    have ha := hall a (by simp)
    have hb := hall b (by simp)
    rcases List.mem_append.1 hn with hn | hn
    ·obtain ⟨m, hm, rfl⟩ := List.mem_map.1 hn
     exact cano_le (cano_node (next_cano k j a ha m hm) (cano_le hb (by omega))) (by omega)
    ·obtain ⟨m, hm, rfl⟩ := List.mem_map.1 hn
     exact cano_le (cano_node (cano_le ha (by omega)) (next_cano k j b hb m hm)) (by omega)
   ·cases hn
theorem allT_cano {s : Int} (h1 : 1 <= s) (h2 : s <= 15) {d : D} (h : d ∈ allT s) : cano 16 d := by
 rw [allT_eq h1 h2] at h
 exact all_cano 16 _ d h
theorem allT_one {s : Int} (h1 : 1 <= s) (h2 : s <= 15) {d : D} (h : d ∈ allT s) : mayT d = true /\ setT d = s /\ smT d = true /\ okT 5 d = true := by
 have hchk := all_ok h1 h2
 simp only [allChk, Bool.and_eq_true, List.all_eq_true] at hchk
 have hone := hchk.1.1.1.1.1 d h
 simp only [oneChk, Bool.and_eq_true, beq_iff_eq] at hone
 exact ⟨hone.1.1.1.1, hone.1.1.1.2, hone.1.1.2, hone.1.2⟩
theorem mem_allT {s : Int} (h1 : 1 <= s) (h2 : s <= 15) {d : D} {j : Nat} (hc : cano j d) (hm : mayT d = true) (hs : setT d = s) : d ∈ allT s := by
 rw [allT_eq h1 h2, <- hs]
 exact all_mem 4 j d 16 hc (may_set hm) (by omega)
/-- What is next of a tree of a set is one of the set. -/
theorem next_mem {s : Int} (h1 : 1 <= s) (h2 : s <= 15) {d : D} (h : d ∈ allT s) : ∀ n ∈ nextK 4 d, n ∈ allT s := by
 intro n hn
 have hr := rules_ok h1 h2
 unfold rulesOK stepOK at hr
 rw [Bool.and_eq_true] at hr
 have := List.all_eq_true.1 (List.all_eq_true.1 hr.2 d h) n hn
 rw [Bool.and_eq_true, beq_iff_eq] at this
 exact mem_allT h1 h2 (next_cano 4 16 d (allT_cano h1 h2 h) n hn) this.1 this.2
theorem allT_text {s : Int} (h1 : 1 <= s) (h2 : s <= 15) {a b : D} (ha : a ∈ allT s) (hb : b ∈ allT s) (h : textT a = textT b) : a = b :=
 textT_inj (allT_cano h1 h2 ha) (allT_cano h1 h2 hb) (allT_one h1 h2 ha).1 (allT_one h1 h2 hb).1 h
theorem allT_nodup {s : Int} (h1 : 1 <= s) (h2 : s <= 15) : (allT s).Nodup := by
 have hchk := all_ok h1 h2
 simp only [allChk, Bool.and_eq_true] at hchk
 have hp := hchk.1.1.1.1.2
 unfold pairChk at hp
 unfold List.Nodup
 rw [List.pairwise_iff_getElem]
 intro i j hi hj hij he
 have h3 := List.all_eq_true.1 (List.all_eq_true.1 hp j (List.mem_range.2 hj)) i (List.mem_range.2 hij)
 rw [List.getD_eq_getElem?_getD, List.getElem?_eq_getElem hj, List.getD_eq_getElem?_getD, List.getElem?_eq_getElem hi] at h3
 simp only [Option.getD_some, Bool.not_eq_true'] at h3
 rw [he] at h3
 have h5 := (allT_one h1 h2 (List.getElem_mem hj)).2.2.1
 have hok : okT 130 (allT s)[j] = true := by
  unfold smT smK at h5
  rw [Bool.and_eq_true] at h5
  exact h5.1
 rw [show eqT (allT s)[j] (allT s)[j] = true from eqK_refl 130 _ hok] at h3
 cases h3
theorem allT_len {s : Int} (h1 : 1 <= s) (h2 : s <= 15) : (allT s).length <= 120 := by
 have hchk := all_ok h1 h2
 simp only [allChk, Bool.and_eq_true, decide_eq_true_eq] at hchk
 exact hchk.2

theorem nodup_sub {α : Type} [DecidableEq α] : ∀ (l m : List α), l.Nodup -> (∀ x ∈ l, x ∈ m) -> l.length <= m.length
 | [], m, _, _ => Nat.zero_le _
 | a :: l, m, hn, hs => by
  have hn := List.nodup_cons.1 hn
  have ha := hs a List.mem_cons_self
  have := nodup_sub l (m.erase a) hn.2 (fun x hx => (List.mem_erase_of_ne (fun h => hn.1 (by rw [<- h]; exact hx))).2 (hs x (List.mem_cons_of_mem _ hx)))
  have hl := List.length_erase_of_mem ha
  have : 0 < m.length := List.length_pos_of_mem ha
  simp only [List.length_cons]
  omega

theorem come_pre : ∀ (ys seen : List D) (texts : List (List UInt8)), seen <+: (comeK seen texts ys).1
 | [], seen, _ => List.prefix_refl _
 | y :: ys, seen, texts => by
  unfold comeK
  cases texts.contains (textT y) with
  | true => exact come_pre ys seen texts
  | false => exact (List.prefix_append seen [y]).trans (come_pre ys _ _)
theorem pre_get {l m : List D} (h : l <+: m) {i : Nat} {d : D} (hd : l[i]? = some d) : m[i]? = some d := by
 obtain ⟨t, rfl⟩ := h
 rw [List.getElem?_append_left (List.getElem?_eq_some_iff.1 hd).1]
 exact hd
/-- The texts are those of what was seen, each once. -/
def Seen (seen : List D) (texts : List (List UInt8)) : Prop := (∀ u, u ∈ texts ↔ u ∈ seen.map textT) /\ (seen.map textT).Nodup
theorem come_seen : ∀ (ys seen : List D) (texts : List (List UInt8)), Seen seen texts -> Seen (comeK seen texts ys).1 (comeK seen texts ys).2 /\ ∀ y ∈ ys, textT y ∈ (comeK seen texts ys).2
 | [], seen, texts, h => ⟨h, fun y hy => by cases hy⟩
 | y :: ys, seen, texts, h => by
  unfold comeK
  cases hc : texts.contains (textT y) with
  | true =>
   rw [cond_true]
   obtain ⟨h1, h2⟩ := come_seen ys seen texts h
   refine ⟨h1, fun z hz => ?_⟩
   rcases List.mem_cons.1 hz with rfl | hz
   ·have hm : textT z ∈ seen.map textT := (h.1 _).1 (by simpa using hc)
    obtain ⟨d, hd, he⟩ := List.mem_map.1 hm
    exact (h1.1 _).2 (List.mem_map.2 ⟨d, (come_pre ys seen texts).subset hd, he⟩)
   ·exact h2 z hz
  | false =>
   rw [cond_false]
   have hno : textT y ∉ seen.map textT := fun hm => by
    have : textT y ∈ texts := (h.1 _).2 hm
    have : texts.contains (textT y) = true := by simpa using this
    rw [hc] at this
    cases this
   have hs : Seen (seen ++ [y]) (textT y :: texts) := by
    refine ⟨fun u => ?_, ?_⟩
    ·rw [List.mem_cons, h.1 u, List.map_append, List.mem_append]
     simp only [List.map_cons, List.map_nil, List.mem_singleton]
     exact ⟨fun h => h.symm, fun h => h.symm⟩
    ·rw [List.map_append, List.nodup_append]
     refine ⟨h.2, by simp, fun a ha b hb => ?_⟩
     simp only [List.map_cons, List.map_nil, List.mem_singleton] at hb
     subst hb
     exact fun he => hno (by rw [<- he]; exact ha)
   obtain ⟨h1, h2⟩ := come_seen ys _ _ hs
   refine ⟨h1, fun z hz => ?_⟩
   rcases List.mem_cons.1 hz with rfl | hz
   ·have hm : z ∈ seen ++ [z] := by simp
    exact (h1.1 _).2 (List.mem_map.2 ⟨z, (come_pre ys _ _).subset hm, rfl⟩)
   ·exact h2 z hz
theorem come_in {G : D -> Prop} : ∀ (ys seen : List D) (texts : List (List UInt8)), (∀ d ∈ seen, G d) -> (∀ d ∈ ys, G d) -> ∀ d ∈ (comeK seen texts ys).1, G d
 | [], _, _, h, _ => h
 | y :: ys, seen, texts, h, h2 => by
  unfold comeK
  cases texts.contains (textT y) with
  | true => exact come_in ys seen texts h (fun d hd => h2 d (List.mem_cons_of_mem _ hd))
  | false =>
   refine come_in ys _ _ (fun d hd => ?_) (fun d hd => h2 d (List.mem_cons_of_mem _ hd))
   rcases List.mem_append.1 hd with h3 | h3
   ·exact h d h3
   ·rw [List.mem_singleton.1 h3]; exact h2 y List.mem_cons_self
theorem closeK_succ (f i : Nat) (seen : List D) (texts : List (List UInt8)) : closeK (f + 1) i seen texts = match seen[i]? with
  | some d => closeK f (i + 1) (comeK seen texts (nextK 4 d)).1 (comeK seen texts (nextK 4 d)).2
  | none => seen := rfl
theorem close_inv {G : D -> Prop} (hG : ∀ d, G d -> ∀ n ∈ nextK 4 d, G n) : ∀ (f i : Nat) (seen : List D) (texts : List (List UInt8)), (∀ d ∈ seen, G d) -> Seen seen texts ->
  seen <+: closeK f i seen texts /\ (∀ d ∈ closeK f i seen texts, G d) /\ ((closeK f i seen texts).map textT).Nodup /\ ((closeK f i seen texts).length <= i + f -> ∀ j d, i <= j -> (closeK f i seen texts)[j]? = some d -> ∀ n ∈ nextK 4 d, textT n ∈ (closeK f i seen texts).map textT)
 | 0, i, seen, texts, hs, ht => by
  refine ⟨List.prefix_refl _, hs, ht.2, fun hl j d hj hd => ?_⟩
  have hl : seen.length <= i + 0 := hl
  have hd : seen[j]? = some d := hd
  rw [List.getElem?_eq_none (by omega)] at hd
  cases hd
 | f + 1, i, seen, texts, hs, ht => by
  rw [closeK_succ]
  cases hi : seen[i]? with
  | none =>
   refine ⟨List.prefix_refl _, hs, ht.2, fun hl j d hj hd => ?_⟩
   have := List.getElem?_eq_none_iff.1 hi
   have hd : seen[j]? = some d := hd
   rw [List.getElem?_eq_none (by omega)] at hd
   cases hd
  | some d0 =>
   dsimp only
   obtain ⟨hs2, hy⟩ := come_seen (nextK 4 d0) seen texts ht
   have hpre := come_pre (nextK 4 d0) seen texts
   have hd0 : d0 ∈ seen := List.mem_of_getElem? hi
   obtain ⟨q1, q2, q3, q4⟩ := close_inv hG f (i + 1) (comeK seen texts (nextK 4 d0)).1 (comeK seen texts (nextK 4 d0)).2 (come_in _ _ _ hs (hG d0 (hs d0 hd0))) hs2
   refine ⟨hpre.trans q1, q2, q3, fun hl j d hj hd n hn => ?_⟩
   by_cases hj2 : i + 1 <= j
   ·exact q4 (by have : _ <= i + (f + 1) := hl; omega) j d hj2 hd n hn
   ·have : j = i := by omega
    subst this
    have hd2 := pre_get (hpre.trans q1) hi
    have hd : (closeK f (j + 1) (comeK seen texts (nextK 4 d0)).1 (comeK seen texts (nextK 4 d0)).2)[j]? = some d := hd
    rw [hd2] at hd
    cases hd
    obtain ⟨m, hm, he⟩ := List.mem_map.1 ((hs2.1 _).1 (hy n hn))
    exact List.mem_map.2 ⟨m, q1.subset hm, he⟩
theorem copy_same {s : Int} (h1 : 1 <= s) (h2 : s <= 15) {x : D} (hx : x ∈ allT s) : copyT x = x := by
 obtain ⟨hm, _, _, _⟩ := allT_one h1 h2 hx
 have hs := may_set hm
 rcases may_shape (allT_cano h1 h2 hx) hs with ⟨n, rfl, _⟩ | ⟨a, b, _, rfl, _⟩ <;> rfl
/-- What comes of a tree by the rules: all trees of its set, each once, itself first. -/
theorem close_all {s : Int} (h1 : 1 <= s) (h2 : s <= 15) {x : D} (hx : x ∈ allT s) :
  (∀ t, t ∈ closeK 130 0 [x] [textT x] ↔ t ∈ allT s) /\ (closeK 130 0 [x] [textT x]).length = (allT s).length /\ (closeK 130 0 [x] [textT x])[0]? = some x := by
 obtain ⟨q1, q2, q3, q4⟩ := close_inv (G := fun d => d ∈ allT s) (fun d hd => next_mem h1 h2 hd) 130 0 [x] [textT x] (fun d hd => by rw [List.mem_singleton.1 hd]; exact hx) ⟨fun u => by simp, by simp⟩
 have hle : ((closeK 130 0 [x] [textT x]).map textT).length <= ((allT s).map textT).length := nodup_sub _ _ q3 (fun u hu => by
  obtain ⟨d, hd, rfl⟩ := List.mem_map.1 hu
  exact List.mem_map.2 ⟨d, q2 d hd, rfl⟩)
 rw [List.length_map, List.length_map] at hle
 have hl := allT_len h1 h2
 have hall : ∀ t ∈ allT s, t ∈ closeK 130 0 [x] [textT x] := by
  have := all_come h1 h2 (C := fun t => t ∈ closeK 130 0 [x] [textT x]) (fun d hd n hn => ?_) hx (q1.subset List.mem_cons_self)
  ·exact this
  ·obtain ⟨j, hj, hd⟩ := List.getElem_of_mem hd
   have hd? : (closeK 130 0 [x] [textT x])[j]? = some d := by rw [List.getElem?_eq_getElem hj, hd]
   have hd2 : d ∈ closeK 130 0 [x] [textT x] := List.mem_of_getElem? hd?
   obtain ⟨m, hm, he⟩ := List.mem_map.1 (q4 (by omega) j d (by omega) hd? n hn)
   rw [<- allT_text h1 h2 (q2 m hm) (next_mem h1 h2 (q2 d hd2) n hn) he]
   exact hm
 have hge : ((allT s).map textT).length <= ((closeK 130 0 [x] [textT x]).map textT).length := by
  refine nodup_sub _ _ ?_ (fun u hu => ?_)
  ·have hn := allT_nodup h1 h2
   unfold List.Nodup at hn ⊢
   rw [List.pairwise_map]
   refine hn.imp_of_mem (fun ha hb hne he => hne (allT_text h1 h2 ha hb he))
  ·obtain ⟨d, hd, rfl⟩ := List.mem_map.1 hu
   exact List.mem_map.2 ⟨d, hall d hd, rfl⟩
 rw [List.length_map, List.length_map] at hge
 exact ⟨fun t => ⟨q2 t, hall t⟩, by omega, pre_get q1 rfl⟩
end
theorem nextK_mono : ∀ (k : Nat) (t : D), setK k t ≠ 0 -> nextK (k + 1) t = nextK k t
 | 0, t, h => absurd rfl h
 | k + 1, t, h => by
  rcases set_cases k t with h0 | ⟨h1, _, _⟩ | ⟨a, b, hk, _, ha, hb, _, _⟩
  ·exact absurd h0 h
  ·simp only [nextK, h1]
  ·have e1 := nextK_mono k a ha
   have e2 := nextK_mono k b hb
   show (turnX t).toList ++ (moveX t).toList ++ (match tkids t with
    | [a, b] => (nextK (k + 1) a).map (fun n => nodeD [n, b]) ++ (nextK (k + 1) b).map (fun n => nodeD [a, n])
    | _ => []) = (turnX t).toList ++ (moveX t).toList ++ (match tkids t with
    | [a, b] => (nextK k a).map (fun n => nodeD [n, b]) ++ (nextK k b).map (fun n => nodeD [a, n])
    | _ => [])
   rw [hk]
   dsimp only
   rw [e1, e2]
/-- What is next of a tree that may be, of its parts. -/
theorem nextT_node {x a b : D} {k : Nat} (h : mayT x = true) (hk : tkids x = [a, b]) (hs : setK (k + 1) x ≠ 0) : mayT a = true /\ mayT b = true /\ setK k a ≠ 0 /\ setK k b ≠ 0 /\
  nextT x = (turnX x).toList ++ (moveX x).toList ++ ((nextT a).map (fun n => nodeD [n, b]) ++ (nextT b).map (fun n => nodeD [a, n])) := by
 have sub : ∀ j, setK (j + 1) x ≠ 0 -> setK j a ≠ 0 /\ setK j b ≠ 0 := by
  intro j hj
  rcases set_cases j x with h0 | ⟨h1, _, _⟩ | ⟨a', b', hk', _, ha, hb, _, _⟩
  ·exact absurd h0 hj
  ·rw [hk] at h1; cases h1
  ·rw [hk] at hk'
   simp only [List.cons.injEq, and_true] at hk'
   obtain ⟨rfl, rfl⟩ := hk'
   exact ⟨ha, hb⟩
 obtain ⟨ha3, hb3⟩ := sub 3 (may_set h)
 have ha : mayT a = true := by unfold mayT setT; rw [setK_mono 3 a ha3]; simpa using ha3
 have hb : mayT b = true := by unfold mayT setT; rw [setK_mono 3 b hb3]; simpa using hb3
 refine ⟨ha, hb, (sub k hs).1, (sub k hs).2, ?_⟩
 have ea : nextT a = nextK 3 a := by unfold nextT; rw [ha, cond_true, nextK_mono 3 a ha3]
 have eb : nextT b = nextK 3 b := by unfold nextT; rw [hb, cond_true, nextK_mono 3 b hb3]
 rw [ea, eb]
 unfold nextT
 rw [h, cond_true]
 show (turnX x).toList ++ (moveX x).toList ++ (match tkids x with
       | [a, b] => (nextK 3 a).map (fun n => nodeD [n, b]) ++ (nextK 3 b).map (fun n => nodeD [a, n])
       | _ => []) = _
 rw [hk]
theorem nextT_leaf {x : D} (hk : tkids x = []) : nextT x = [] := by
 unfold nextT
 cases mayT x with
 | false => rfl
 | true =>
  show (turnX x).toList ++ (moveX x).toList ++ (match tkids x with
    | [a, b] => (nextK 3 a).map (fun n => nodeD [n, b]) ++ (nextK 3 b).map (fun n => nodeD [a, n])
    | _ => []) = _
  unfold turnX moveX
  rw [hk]
  rfl
theorem nextT_len (x : D) : (nextT x).length <= 30 := by
 unfold nextT
 cases mayT x with
 | false => simp
 | true =>
  rw [cond_true, nextK_len]
  have := jn_le 4 x
  omega

/-- Is a tree one of some? -/
def hasL (l : List D) (t : D) : Bool := l.any fun y => eqT y t
def comeH (seen : List D) : List D -> List D
 | [] => seen
 | n :: l => bif hasL seen n then comeH seen l else comeH (seen ++ [n]) l
def closeH : Nat -> Nat -> List D -> List D
 | 0, _, seen => seen
 | f + 1, i, seen => match seen[i]? with
  | some d => closeH f (i + 1) (comeH seen (nextT d))
  | none => seen
theorem closeH_succ (f i : Nat) (seen : List D) : closeH (f + 1) i seen = match seen[i]? with
  | some d => closeH f (i + 1) (comeH seen (nextT d))
  | none => seen := rfl
/-- Trees of a set are the same just if their texts are. -/
theorem has_text {s : Int} (h1 : 1 <= s) (h2 : s <= 15) {seen : List D} {texts : List (List UInt8)} (hs : ∀ d ∈ seen, d ∈ allT s) (ht : Seen seen texts) {n : D} (hn : n ∈ allT s) : hasL seen n = texts.contains (textT n) := by
 have key : hasL seen n = true ↔ texts.contains (textT n) = true := by
  unfold hasL
  rw [List.any_eq_true]
  constructor
  ·rintro ⟨y, hy, he⟩
   have : y = n := eqK_eq (cano_le (allT_cano h1 h2 (hs y hy)) (by omega : 16 <= 130)) (allT_cano h1 h2 hn) he
   subst this
   have : textT y ∈ texts := (ht.1 _).2 (List.mem_map.2 ⟨y, hy, rfl⟩)
   simpa using this
  ·intro h
   have h : textT n ∈ texts := by simpa using h
   obtain ⟨y, hy, he⟩ := List.mem_map.1 ((ht.1 _).1 h)
   have : y = n := allT_text h1 h2 (hs y hy) hn he
   subst this
   have hok := (allT_one h1 h2 hn).2.2.1
   unfold smT smK at hok
   rw [Bool.and_eq_true] at hok
   exact ⟨y, hy, eqK_refl 130 y hok.1⟩
 cases ha : hasL seen n with
 | true => exact (key.1 ha).symm
 | false =>
  cases hb : texts.contains (textT n) with
  | false => rfl
  | true => rw [key.2 hb] at ha; cases ha
theorem comeH_eq {s : Int} (h1 : 1 <= s) (h2 : s <= 15) : ∀ (ys seen : List D) (texts : List (List UInt8)), (∀ d ∈ seen, d ∈ allT s) -> (∀ d ∈ ys, d ∈ allT s) -> Seen seen texts -> comeH seen ys = (comeK seen texts ys).1
 | [], _, _, _, _, _ => rfl
 | y :: ys, seen, texts, hs, hy, ht => by
  have hyy := hy y List.mem_cons_self
  have hst := (come_seen [y] seen texts ht).1
  unfold comeH comeK
  rw [has_text h1 h2 hs ht hyy]
  cases hc : texts.contains (textT y) with
  | true => exact comeH_eq h1 h2 ys seen texts hs (fun d hd => hy d (List.mem_cons_of_mem _ hd)) ht
  | false =>
   have e1 : (comeK seen texts [y]) = (seen ++ [y], textT y :: texts) := by
    show (bif texts.contains (textT y) then _ else _) = _
    rw [hc]
    rfl
   rw [e1] at hst
   refine comeH_eq h1 h2 ys _ _ (fun d hd => ?_) (fun d hd => hy d (List.mem_cons_of_mem _ hd)) hst
   rcases List.mem_append.1 hd with h | h
   ·exact hs d h
   ·rw [List.mem_singleton.1 h]; exact hyy
theorem closeH_eq {s : Int} (h1 : 1 <= s) (h2 : s <= 15) : ∀ (f i : Nat) (seen : List D) (texts : List (List UInt8)), (∀ d ∈ seen, d ∈ allT s) -> Seen seen texts -> closeH f i seen = closeK f i seen texts
 | 0, _, _, _, _, _ => rfl
 | f + 1, i, seen, texts, hs, ht => by
  rw [closeH_succ, closeK_succ]
  cases hi : seen[i]? with
  | none => rfl
  | some d =>
   dsimp only
   have hd := hs d (List.mem_of_getElem? hi)
   have hn : nextT d = nextK 4 d := by unfold nextT; rw [(allT_one h1 h2 hd).1]; rfl
   rw [hn, comeH_eq h1 h2 _ seen texts hs (next_mem h1 h2 hd) ht]
   exact closeH_eq h1 h2 f (i + 1) _ _ (come_in _ _ _ hs (next_mem h1 h2 hd)) (come_seen _ _ _ ht).1
theorem comeH_len : ∀ (ys seen : List D), (comeH seen ys).length <= seen.length + ys.length
 | [], _ => by simp [comeH]
 | y :: ys, seen => by
  unfold comeH
  cases hasL seen y with
  | true => have := comeH_len ys seen; simp only [cond_true, List.length_cons]; omega
  | false => have := comeH_len ys (seen ++ [y]); simp only [cond_false, List.length_cons, List.length_append, List.length_nil] at this ⊢; omega
theorem comeH_ge : ∀ (ys seen : List D), seen.length <= (comeH seen ys).length
 | [], _ => Nat.le_refl _
 | y :: ys, seen => by
  unfold comeH
  cases hasL seen y with
  | true => exact comeH_ge ys seen
  | false => have := comeH_ge ys (seen ++ [y]); simp only [cond_false, List.length_append, List.length_cons, List.length_nil] at this ⊢; omega
theorem comeH_in {G : D -> Prop} : ∀ (ys seen : List D), (∀ d ∈ seen, G d) -> (∀ d ∈ ys, G d) -> ∀ d ∈ comeH seen ys, G d
 | [], _, h, _ => h
 | y :: ys, seen, h, h2 => by
  unfold comeH
  cases hasL seen y with
  | true => exact comeH_in ys seen h (fun d hd => h2 d (List.mem_cons_of_mem _ hd))
  | false =>
   refine comeH_in ys _ (fun d hd => ?_) (fun d hd => h2 d (List.mem_cons_of_mem _ hd))
   rcases List.mem_append.1 hd with h3 | h3
   ·exact h d h3
   ·rw [List.mem_singleton.1 h3]; exact h2 y List.mem_cons_self
/-- What the document's own Close comes to. -/
theorem close_own {s : Int} (h1 : 1 <= s) (h2 : s <= 15) {x : D} (hx : x ∈ allT s) : closeH 130 0 [x] = closeT x := by
 unfold closeT
 rw [(allT_one h1 h2 hx).1, cond_true, copy_same h1 h2 hx]
 exact closeH_eq h1 h2 130 0 [x] [textT x] (fun d hd => by rw [List.mem_singleton.1 hd]; exact hx) ⟨fun u => by simp, by simp⟩
end Go.Ev
