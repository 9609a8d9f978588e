/- Trees of functions, and lemmas. Nothing here is trusted. -/
import Derived.Test.YtpceahbengfjeaaGreatDoorZ31
import Derived.Test.YtpceahbengfjeaaGreatDoorZ16
import Derived.Test.YtpceahbengfjeaaGreatDoorZ09
namespace Go.Proofs.YtpceahbengfjeaaGreatDoor
section
namespace X
open Go.Ev
set_option linter.unusedVariables false
set_option linter.unusedSimpArgs false
abbrev xM := FuncId × TypeId × (List AV -> List Ent -> Bool) × (List AV -> List Ent -> Option (AV × List (Option Ent)))
def acT : List AV := [dat 61 .nil, dat 3 .nil, bxp OID 3]
def aca : List Ent := [⟨3, .nil, 0, none⟩]
def ac1 : List D -> List D -> Bool := fun _ es => decide (0 <= intD (es.getD 0 .nil)) && decide (intD (es.getD 0 .nil) <= 1000)
def af5 : List D -> List D -> uw
 | [e, dp, _], [n] => some (dat 4 (.lit (.bool (rE e (intD dp) (intD n)))), [some ⟨3, fM (intD n + 1), 0, none⟩])
 | _, _ => none
def acP : xM := (189, 4, fC acT aca ac1, iW acT aca af5)
theorem aeE : FnOK Tryz.prog 189 Tryz.f189 := ⟨Tryz.func189, rfl, by kernel_rfl⟩
theorem agw : ∀ args hh r h', acP.2.2.1 args hh = true -> acP.2.2.2 args hh = some (r, h') -> HCallOK Tryz.prog 189 args hh r h' :=
 fP rfl rfl fun ds es r h' hq hg => by
  match ds, es, hq, hg with
  | [e, dp, y], [n], hq, hg =>
   cases hg
   refine HCallOK.typed aeE.ex fun ht he => ?_
   obtain ⟨_, t1⟩ := ht (dat 3 dp) (by simp [eY, acT, dat, bxp]) rfl
   obtain ⟨_, t2⟩ := he ⟨3, n, 0, none⟩ (by simp [kU, aca]) rfl rfl
   obtain ⟨z, rfl, hz⟩ := iC t1
   obtain ⟨q, rfl, hq2⟩ := iC t2
   have hq' : 0 <= q /\ q <= 1000 := by simpa [ac1, intD] using hq
   have hw : IntKind.wrap .i64 (q + 1) = q + 1 := wrap_in (by rw [bH]; omega)
   refine ig hm NJ aeE ((af2 1 e z q).trans ?_)
   rw [hw]
   show _ = some (dat 4 (.lit (.bool (bif decide (q + 1 <= 30) then bif decide (z <= 6) then vU e else false else false))), [some (⟨3, .lit (.int .i64 (q + 1)), 0, none⟩ : Ent)])
   generalize decide (q + 1 <= 30) = b1
   generalize decide (z <= 6) = b2
   cases b1 <;> cases b2 <;> rfl
  | [], _, _, hg => cases hg
  | [_], _, _, hg => cases hg
  | [_, _], _, _, hg => cases hg
  | _ :: _ :: _ :: _ :: _, _, _, hg => cases hg
  | [_, _, _], [], _, hg => cases hg
  | [_, _, _], _ :: _ :: _, _, hg => cases hg
def a164 : List AV := [dat 61 .nil, dat 3 .nil, bxp OID 28]
def abP : List Ent := [⟨28, .nil, 0, some (bxp (OID + 1) 28)⟩, ⟨28, .nil, 4, none⟩]
def aeg : List D -> List D -> Bool := fun _ es => decide ((ae (es.getD 1 .nil)).length <= 1000)
def afM : List D -> List D -> uw
 | [e, dp, _], [_, l] => some (dat 4 (.lit (.bool true)), [some ⟨28, .nil, 0, some (bxp (OID + 1) 28)⟩, some ⟨28, .slice (ae l ++ (bif opI e == 1 then [fM (rC e)] else [])) [], 1, none⟩])
 | _, _ => none
def aaF : xM := (164, 4, fC a164 abP aeg, iW a164 abP afM)
theorem Y5 : FnOK Tryz.prog 164 Tryz.f164 := ⟨Tryz.func164, rfl, by kernel_rfl⟩
theorem BH {P : Program} {f : FuncId} {args : List AV} {h : List Ent} {r : AV} {h' : List (Option Ent)} (hfn : ∃ fn c, P.funcs[f]? = some fn /\ fn.body = some c /\ (fn.name == "runtime.NumGoroutine") = false) {e : Ent} (he : e ∈ h) (h0 : e.row ≠ 0)
  (H : (∃ es, e.d = .slice es []) -> HCallOK P f args h r h') : HCallOK P f args h r h' := by
 refine ⟨hfn, fun w okA β vs htb hok hH hargs => ?_⟩
 refine (H ?_).call w okA β vs htb hok hH hargs
 obtain ⟨k, hk⟩ := List.getElem?_of_mem he
 have hb : bQ h (OID + k) = some e := by
  unfold bQ
  rw [if_neg (by omega), Nat.add_sub_cancel_left]
  exact hk
 obtain ⟨_, _, _, _, h4, _⟩ := hH.row _ e hb h0
 exact h4
theorem c164 : ∀ args hh r h', aaF.2.2.1 args hh = true -> aaF.2.2.2 args hh = some (r, h') -> HCallOK Tryz.prog 164 args hh r h' :=
 fP rfl rfl fun ds es r h' hq hg => by
  match ds, es, hq, hg with
  | [e, dp, y], [u, l], hq, hg =>
   cases hg
   refine HCallOK.typed Y5.ex fun ht he => ?_
   refine BH Y5.ex (e := ⟨28, l, 4, none⟩) (by simp [kU, abP]) (by simp) ?_
   rintro ⟨es, hes⟩
   have hes : l = .slice es [] := hes
   subst hes
   obtain ⟨_, t1⟩ := ht (dat 3 dp) (by simp [eY, a164, dat, bxp]) rfl
   obtain ⟨z, rfl, hz⟩ := iC t1
   have hq' : es.length <= 1000 := by simpa [aeg, ae] using hq
   cases hop : (intD (af e 0) == 1) with
   | true =>
    have hop' : (opI e == 1) = true := hop
    refine ig hm NJ Y5 ((t164 1 e z es).trans ?_)
    have hd : decide ((es).length + 1 <= 2147483648) = true := by simp; omega
    rw [hop, hd, hop']
    rfl
   | false =>
    have hop' : (opI e == 1) = false := hop
    have H := (ig hm NJ Y5 (args := [dat 61 e, dat 3 (.lit (.int .i64 z)), bxp OID 28]) (h := [⟨28, .nil, 0, some (bxp (OID + 1) 28)⟩, ⟨28, .slice es [], 4, none⟩]) (r := dat 4 (.lit (.bool true)))
     (h' := [some ⟨28, .nil, 0, some (bxp (OID + 1) 28)⟩, some ⟨28, .slice es [], 4, none⟩]) ((t164 1 e z es).trans (by rw [hop]; rfl))).loose
    have he2 : ae (.slice es [] : D) ++ (bif opI e == 1 then [fM (rC e)] else []) = es := by rw [hop']; simp [ae]
    rw [he2]
    exact H
  | [], _, _, hg => cases hg
  | [_], _, _, hg => cases hg
  | [_, _], _, _, hg => cases hg
  | _ :: _ :: _ :: _ :: _, _, _, hg => cases hg
  | [_, _, _], [], _, hg => cases hg
  | [_, _, _], [_], _, hg => cases hg
  | [_, _, _], _ :: _ :: _ :: _, _, hg => cases hg
def qc (K : Nat) (deep n : Int) : Bool := decide (1 <= K) && decide (7 < deep + (K : Int)) && decide (1 <= deep) && decide (deep <= 7) && decide (0 <= n) && decide (n <= 30)
def jH (K : Nat) (e : D) (deep : Int) (es : List D) : Bool := okK K e && decide (0 <= deep) && decide (deep + (K : Int) <= 1000) && decide (es.length + (kK K e).length <= 100)
def uZ : List AV := [dat 61 .nil, dat 3 .nil, bxp OID 147, bxp (OID + 1) 147]
def DV : List Ent := [⟨147, .nil, 0, some (clo 147 189 [OID + 2])⟩, ⟨147, .nil, 0, some (clo 147 191 [OID, OID + 1])⟩, ⟨3, .nil, 0, none⟩]
def Dl : List Ent := [⟨147, .nil, 0, some (clo 147 164 [OID + 2])⟩, ⟨147, .nil, 0, some (clo 147 191 [OID, OID + 1])⟩, ⟨28, .nil, 0, some (bxp (OID + 3) 28)⟩, ⟨28, .nil, 4, none⟩]
def Ov (K : Nat) : List D -> List D -> Bool := fun ds es => qc K (intD (ds.getD 1 .nil)) (intD (es.getD 2 .nil))
def MV (K : Nat) : List D -> List D -> Bool := fun ds es => jH K (ds.getD 0 .nil) (intD (ds.getD 1 .nil)) (ae (es.getD 3 .nil))
def Yq (K : Nat) : List D -> List D -> uw
 | [e, dp, _, _], [_, _, n] => some (dat 4 (.lit (.bool (dY K e (intD dp) (intD n)).1)), [some ⟨147, .nil, 0, some (clo 147 189 [OID + 2])⟩, some ⟨147, .nil, 0, some (clo 147 191 [OID, OID + 1])⟩, some ⟨3, .lit (.int .i64 (dY K e (intD dp) (intD n)).2), 0, none⟩])
 | _, _ => none
def O0 (K : Nat) : List D -> List D -> uw
 | [e, dp, _, _], [_, _, _, l] => some (dat 4 (.lit (.bool true)), [some ⟨147, .nil, 0, some (clo 147 164 [OID + 2])⟩, some ⟨147, .nil, 0, some (clo 147 191 [OID, OID + 1])⟩, some ⟨28, .nil, 0, some (bxp (OID + 3) 28)⟩, some ⟨28, .slice (ae l ++ kK K e) [], 1, none⟩])
 | _, _ => none
def ahg (K : Nat) : xM := (191, 4, fun args h => bif h.length == 3 then fC uZ DV (Ov K) args h else fC uZ Dl (MV K) args h, fun args h => bif h.length == 3 then iW uZ DV (Yq K) args h else iW uZ Dl (O0 K) args h)
def H1 : ul := [acP, aaF]
def H2 (K : Nat) : ul := ahg K :: H1
theorem aas : EnvOK Tryz.prog (bT U2 H1) := bI (bI NJ c164) agw
end X
end
section
namespace X
open Go.Ev
set_option linter.unusedVariables false
/- roadbook/expr.through$1 -/
def Ag : ay := fun i => if i = 4 then some ([0, 2, 4, 5, 6, 7, 8, 9, 10, 11, 12, 13, 14, 18, 19, 20, 21, 22, 23, 24, 25, 26, 27], [1000000, 1000001, 1000002], []) else none
def uo (P : Program) (fn : Func) (K : Nat) (N n : Nat) (x0 : D) (x1 : Int) (q : Int) (v17 : Int) (b1000002 : Int) : Option (AV × List (Option Ent)) := aN (preL Ag (sub [1, 1, 0, 1, 0, 0] (ag fn))) (az P (bT U2 (H2 K)) Ag N (sub [1, 1, 0, 1, 0, 0] (ag fn))) n ⟨[dead, dat 3 (.lit (.int .i64 x1)), dead, bxp 1000001 147, dead, dead, dead, dead, dead, dead, dead, dead, dead, dead, dead, dat 29 (af x0 3), dat 3 (.lit (.int .i64 ((ae (af x0 3)).length : Int))), dat 3 (.lit (.int .i64 v17)), dead, dead, dead, dead, dead, dead, dead, dead, dead, dead], bf [(1000000, some ⟨147, .nil, 0, some (clo 147 189 [1000002])⟩), (1000001, some ⟨147, .nil, 0, some (clo 147 191 [1000000, 1000001])⟩), (1000002, some ⟨3, .lit (.int .i64 b1000002), 0, none⟩)]⟩ (aG 0 (cZ P (bT U2 (H2 K)) Ag N (sub [1, 1, 1] (ag fn)) (qx P fn 3) ))
theorem Ej (K : Nat) (N n : Nat) (x0 : D) (x1 : Int) (q : Int) (v17 : Int) (b1000002 : Int) : uo Tryz.prog Tryz.f191 K N (n + 1) x0 x1 q v17 b1000002 =
 bif decide (v17 < ((ae (af x0 3)).length : Int)) then
  bif (decide (0 <= v17) && decide (v17 < ((ae (af x0 3)).length : Int))) then
   bif qc K (IntKind.wrap .i64 (x1 + 1)) b1000002 then
    bif (!((dY K ((ae (af x0 3)).getD (v17).toNat .nil) (IntKind.wrap .i64 (x1 + 1)) b1000002).1)) then
     some (dat 4 (.lit (.bool false)), [some ⟨147, .nil, 0, some (clo 147 189 [1000002])⟩, some ⟨147, .nil, 0, some (clo 147 191 [1000000, 1000001])⟩, some ⟨3, .lit (.int .i64 ((dY K ((ae (af x0 3)).getD (v17).toNat .nil) (IntKind.wrap .i64 (x1 + 1)) b1000002).2)), 0, none⟩])
    else uo Tryz.prog Tryz.f191 K N n x0 x1 q (IntKind.wrap .i64 (v17 + 1)) ((dY K ((ae (af x0 3)).getD (v17).toNat .nil) (IntKind.wrap .i64 (x1 + 1)) b1000002).2)
   else none
  else none
 else some (dat 4 (.lit (.bool true)), [some ⟨147, .nil, 0, some (clo 147 189 [1000002])⟩, some ⟨147, .nil, 0, some (clo 147 191 [1000000, 1000001])⟩, some ⟨3, .lit (.int .i64 b1000002), 0, none⟩]) := by kernel_rfl
theorem aaZ (K : Nat) (N : Nat) (x0 : D) (x1 : Int) (q : Int) : jO Tryz.prog (bT U2 (H2 K)) Ag N Tryz.f191 [dat 61 x0, dat 3 (.lit (.int .i64 x1)), bxp 1000000 147, bxp 1000001 147] [⟨147, .nil, 0, some (clo 147 189 [1000002])⟩, ⟨147, .nil, 0, some (clo 147 191 [1000000, 1000001])⟩, ⟨3, .lit (.int .i64 q), 0, none⟩] =
 bif (decide (0 <= q) && decide (q <= 1000)) then
  bif (!(rE x0 x1 q)) then
   some (dat 4 (.lit (.bool false)), [some ⟨147, .nil, 0, some (clo 147 189 [1000002])⟩, some ⟨147, .nil, 0, some (clo 147 191 [1000000, 1000001])⟩, some ⟨3, .lit (.int .i64 (q + 1)), 0, none⟩])
  else uo Tryz.prog Tryz.f191 K N N x0 x1 q 0 (q + 1)
 else none := by kernel_rfl
/- roadbook/expr.through$1 -/
def zZ : ay := fun i => if i = 4 then some ([0, 2, 4, 5, 6, 7, 8, 9, 10, 11, 12, 13, 14, 18, 19, 20, 21, 22, 23, 24, 25, 26, 27], [1000000, 1000001, 1000002, 1000003], []) else none
def tX (P : Program) (fn : Func) (K : Nat) (N n : Nat) (x0 : D) (x1 : Int) (es : List D) (v17 : Int) (b1000003 : List D) : Option (AV × List (Option Ent)) := aN (preL zZ (sub [1, 1, 0, 1, 0, 0] (ag fn))) (az P (bT U2 (H2 K)) zZ N (sub [1, 1, 0, 1, 0, 0] (ag fn))) n ⟨[dead, dat 3 (.lit (.int .i64 x1)), dead, bxp 1000001 147, dead, dead, dead, dead, dead, dead, dead, dead, dead, dead, dead, dat 29 (af x0 3), dat 3 (.lit (.int .i64 ((ae (af x0 3)).length : Int))), dat 3 (.lit (.int .i64 v17)), dead, dead, dead, dead, dead, dead, dead, dead, dead, dead], bf [(1000000, some ⟨147, .nil, 0, some (clo 147 164 [1000002])⟩), (1000001, some ⟨147, .nil, 0, some (clo 147 191 [1000000, 1000001])⟩), (1000002, some ⟨28, .nil, 0, some (bxp 1000003 28)⟩), (1000003, some ⟨28, .slice b1000003 [], 1, none⟩)]⟩ (aG 0 (cZ P (bT U2 (H2 K)) zZ N (sub [1, 1, 1] (ag fn)) (qx P fn 4) ))
theorem Ec (K : Nat) (N n : Nat) (x0 : D) (x1 : Int) (es : List D) (v17 : Int) (b1000003 : List D) : tX Tryz.prog Tryz.f191 K N (n + 1) x0 x1 es v17 b1000003 =
 bif decide (v17 < ((ae (af x0 3)).length : Int)) then
  bif (decide (0 <= v17) && decide (v17 < ((ae (af x0 3)).length : Int))) then
   bif jH K ((ae (af x0 3)).getD (v17).toNat .nil) (IntKind.wrap .i64 (x1 + 1)) b1000003 then
    tX Tryz.prog Tryz.f191 K N n x0 x1 es (IntKind.wrap .i64 (v17 + 1)) (b1000003 ++ kK K ((ae (af x0 3)).getD (v17).toNat .nil))
   else none
  else none
 else some (dat 4 (.lit (.bool true)), [some ⟨147, .nil, 0, some (clo 147 164 [1000002])⟩, some ⟨147, .nil, 0, some (clo 147 191 [1000000, 1000001])⟩, some ⟨28, .nil, 0, some (bxp 1000003 28)⟩, some ⟨28, .slice b1000003 [], 1, none⟩]) := by kernel_rfl
theorem abX (K : Nat) (N : Nat) (x0 : D) (x1 : Int) (es : List D) : jO Tryz.prog (bT U2 (H2 K)) zZ N Tryz.f191 [dat 61 x0, dat 3 (.lit (.int .i64 x1)), bxp 1000000 147, bxp 1000001 147] [⟨147, .nil, 0, some (clo 147 164 [1000002])⟩, ⟨147, .nil, 0, some (clo 147 191 [1000000, 1000001])⟩, ⟨28, .nil, 0, some (bxp 1000003 28)⟩, ⟨28, .slice es [], 4, none⟩] =
 bif decide (es.length <= 1000) then
  tX Tryz.prog Tryz.f191 K N N x0 x1 es 0 (es ++ (bif opI x0 == 1 then [fM (rC x0)] else []))
 else none := by kernel_rfl
end X
end
section
namespace X
open Go.Ev
set_option linter.unusedVariables false
set_option linter.unusedSimpArgs false
theorem y7 (g : D -> Int -> Bool × Int) (p : D) (l : List D) (n : Int) : goL g (p :: l) n = bif (g p n).1 then goL g l (g p n).2 else (false, (g p n).2) := rfl
theorem qH (k : Nat) (e : D) (deep n : Int) : dY (k + 1) e deep n = bif rE e deep n then goL (fun p m => dY k p (deep + 1) m) (kids e) (n + 1) else (false, n + 1) := rfl
theorem uF (k : Nat) (e : D) : kK (k + 1) e = (bif opI e == 1 then [fM (rC e)] else []) ++ (kids e).flatMap (kK k) := rfl
theorem wE (k : Nat) (e : D) : okK (k + 1) e = (vU e && (kids e).all (okK k)) := rfl
theorem Jh {g : D -> Int -> Bool × Int} (hg : ∀ p m, 0 <= m -> m <= 30 -> (g p m).1 = true -> 0 <= (g p m).2 /\ (g p m).2 <= 30) : ∀ (l : List D) (m : Int), 0 <= m -> m <= 30 -> (goL g l m).1 = true -> 0 <= (goL g l m).2 /\ (goL g l m).2 <= 30
 | [], m, h0, h1, _ => ⟨h0, h1⟩
 | p :: l, m, h0, h1, h => by
  rw [y7] at h ⊢
  cases hp : (g p m).1 with
  | false => rw [hp] at h; cases h
  | true =>
   rw [hp, cond_true] at h
   rw [cond_true]
   obtain ⟨b0, b1⟩ := hg p m h0 h1 hp
   exact Jh hg l _ b0 b1 h
theorem Gf {e : D} {deep n : Int} (h : rE e deep n = true) : n + 1 <= 30 /\ deep <= 6 /\ vU e = true := by
 unfold rE at h
 by_cases h1 : n + 1 <= 30
 ·have d1 : decide (n + 1 <= 30) = true := by simpa using h1
  rw [d1, cond_true] at h
  by_cases h2 : deep <= 6
  ·have d2 : decide (deep <= 6) = true := by simpa using h2
   rw [d2, cond_true] at h
   exact ⟨h1, h2, h⟩
  ·have d2 : decide (deep <= 6) = false := by simpa using h2
   rw [d2] at h
   cases h
 ·have d1 : decide (n + 1 <= 30) = false := by simpa using h1
  rw [d1] at h
  cases h
theorem tK : ∀ (K : Nat) (e : D) (deep n : Int), 0 <= n -> n <= 30 -> (dY K e deep n).1 = true -> 0 <= (dY K e deep n).2 /\ (dY K e deep n).2 <= 30
 | 0, e, deep, n, h0, h1, h => by cases h
 | K + 1, e, deep, n, h0, h1, h => by
  rw [qH] at h ⊢
  cases hs : rE e deep n with
  | false => rw [hs] at h; cases h
  | true =>
   rw [hs, cond_true] at h
   rw [cond_true]
   exact Jh (fun p m => tK K p (deep + 1) m) _ _ (by omega) (Gf hs).1 h
theorem OJ {K N : Nat} {x0 : D} {x1 q : Int} (hl : (kids x0).length <= maxLen) (hx : 1 <= x1) (hx6 : x1 <= 6) (hK : 7 < x1 + 1 + (K : Int)) : ∀ (n i : Nat) (b : Int), i <= (kids x0).length -> (kids x0).length - i < n -> 0 <= b -> b <= 30 ->
  uo Tryz.prog Tryz.f191 K N n x0 x1 q (i : Int) b = some (dat 4 (.lit (.bool (goL (fun p m => dY K p (x1 + 1) m) ((kids x0).drop i) b).1)),
   [some ⟨147, .nil, 0, some (clo 147 189 [1000002])⟩, some ⟨147, .nil, 0, some (clo 147 191 [1000000, 1000001])⟩, some ⟨3, .lit (.int .i64 (goL (fun p m => dY K p (x1 + 1) m) ((kids x0).drop i) b).2), 0, none⟩])
 | 0, i, b, _, h, _, _ => by omega
 | n + 1, i, b, hi, h, h0, h30 => by
  rw [Ej, show ae (af x0 3) = kids x0 from rfl]
  have hw : IntKind.wrap .i64 (x1 + 1) = x1 + 1 := wrap_in (by rw [bH]; omega)
  have hpre : qc K (x1 + 1) b = true := by simp only [qc, Bool.and_eq_true, decide_eq_true_eq]; omega
  rw [hw, hpre]
  by_cases hlt : i < (kids x0).length
  ·have h1 : decide ((i : Int) < ((kids x0).length : Int)) = true := by simpa using hlt
   rw [og hlt, h1, cond_true, cond_true, cond_true, Int.toNat_natCast, getD_lt hlt, List.drop_eq_getElem_cons hlt, y7]
   cases hb : (dY K (kids x0)[i] (x1 + 1) b).1 with
   | false =>
    rw [Bool.not_false, cond_true, cond_false]
   | true =>
    obtain ⟨b0, b1⟩ := tK K _ _ _ h0 h30 hb
    rw [Bool.not_true, cond_false, cond_true, jC hl hlt]
    exact OJ hl hx hx6 hK n (i + 1) _ (by omega) (by omega) b0 b1
  ·have h1 : decide ((i : Int) < ((kids x0).length : Int)) = false := by simpa using hlt
   have h2 : (kids x0).drop i = [] := List.drop_of_length_le (by omega)
   rw [h1, h2, cond_false]
   rfl
theorem sO {K N : Nat} {x0 : D} {x1 : Int} {es : List D} (hl : (kids x0).length <= maxLen) (hx : 0 <= x1) (hx6 : x1 + 1 + (K : Int) <= 1000) (hok : ∀ p ∈ kids x0, okK K p = true) : ∀ (n i : Nat) (l : List D), i <= (kids x0).length -> (kids x0).length - i < n ->
  l.length + (((kids x0).drop i).flatMap (kK K)).length <= 100 ->
  tX Tryz.prog Tryz.f191 K N n x0 x1 es (i : Int) l = some (dat 4 (.lit (.bool true)),
   [some ⟨147, .nil, 0, some (clo 147 164 [1000002])⟩, some ⟨147, .nil, 0, some (clo 147 191 [1000000, 1000001])⟩, some ⟨28, .nil, 0, some (bxp 1000003 28)⟩, some ⟨28, .slice (l ++ ((kids x0).drop i).flatMap (kK K)) [], 1, none⟩])
 | 0, i, l, _, h, _ => by omega
 | n + 1, i, l, hi, h, hlen => by
  rw [Ec, show ae (af x0 3) = kids x0 from rfl]
  have hw : IntKind.wrap .i64 (x1 + 1) = x1 + 1 := wrap_in (by rw [bH]; omega)
  rw [hw]
  by_cases hlt : i < (kids x0).length
  ·have h1 : decide ((i : Int) < ((kids x0).length : Int)) = true := by simpa using hlt
   rw [List.drop_eq_getElem_cons hlt, List.flatMap_cons, List.length_append] at hlen
   have hpre : jH K (kids x0)[i] (x1 + 1) l = true := by
    simp only [jH, Bool.and_eq_true, decide_eq_true_eq]
    exact ⟨⟨⟨hok _ (List.getElem_mem hlt), by omega⟩, by omega⟩, by omega⟩
   rw [og hlt, h1, cond_true, cond_true, Int.toNat_natCast, getD_lt hlt, hpre, cond_true, jC hl hlt, List.drop_eq_getElem_cons hlt, List.flatMap_cons, <- List.append_assoc]
   exact sO hl hx hx6 hok n (i + 1) _ (by omega) (by omega) (by rw [List.length_append]; omega)
  ·have h1 : decide ((i : Int) < ((kids x0).length : Int)) = false := by simpa using hlt
   have h2 : (kids x0).drop i = [] := List.drop_of_length_le (by omega)
   rw [h1, h2, cond_false]
   simp
theorem X9 : FnOK Tryz.prog 191 Tryz.f191 := ⟨Tryz.func191, rfl, by kernel_rfl⟩
theorem adQ (K : Nat) (henv : EnvOK Tryz.prog (bT U2 (H2 K))) : ∀ args hh r h', fC uZ DV (Ov (K + 1)) args hh = true -> iW uZ DV (Yq (K + 1)) args hh = some (r, h') -> HCallOK Tryz.prog 191 args hh r h' :=
 fP rfl rfl fun ds es r h' hq hg => by
  match ds, es, hq, hg with
  | [e, dp, y1, y2], [u1, u2, n], hq, hg =>
   cases hg
   refine HCallOK.typed X9.ex fun ht he => ?_
   obtain ⟨_, t0⟩ := ht (dat 61 e) (by simp [eY, uZ, dat, bxp]) rfl
   obtain ⟨_, t1⟩ := ht (dat 3 dp) (by simp [eY, uZ, dat, bxp]) rfl
   obtain ⟨_, t2⟩ := he ⟨3, n, 0, none⟩ (by simp [kU, DV]) rfl rfl
   obtain ⟨z, rfl, hz⟩ := iC t1
   obtain ⟨q, rfl, hq2⟩ := iC t2
   have hpre : qc (K + 1) z q = true := hq
   simp only [qc, Bool.and_eq_true, decide_eq_true_eq] at hpre
   obtain ⟨⟨⟨⟨⟨p1, p2⟩, p3⟩, p4⟩, p5⟩, p6⟩ := hpre
   have t0 : Ty Tryz.prog _ 61 e := t0
   obtain ⟨hl, _⟩ := AX t0
   refine ig hm henv X9 ((aaZ K ((kids e).length + 1) e z q).trans ?_)
   have hd : (decide (0 <= q) && decide (q <= 1000)) = true := by simp only [Bool.and_eq_true, decide_eq_true_eq]; omega
   rw [hd, cond_true]
   show _ = some (dat 4 (.lit (.bool (dY (K + 1) e z q).1)), [some (⟨147, .nil, 0, some (clo 147 189 [1000002])⟩ : Ent), some ⟨147, .nil, 0, some (clo 147 191 [1000000, 1000001])⟩, some ⟨3, .lit (.int .i64 (dY (K + 1) e z q).2), 0, none⟩])
   rw [qH]
   cases hs : rE e z q with
   | false => rfl
   | true =>
    obtain ⟨s1, s2, _⟩ := Gf hs
    rw [Bool.not_true, cond_false, cond_true]
    have := OJ (K := K) (N := (kids e).length + 1) (q := q) hl p3 s2 (by omega) ((kids e).length + 1) 0 (q + 1) (Nat.zero_le _) (by omega) (by omega) s1
    simpa using this
  | [], _, _, hg => cases hg
  | [_], _, _, hg => cases hg
  | [_, _], _, _, hg => cases hg
  | [_, _, _], _, _, hg => cases hg
  | _ :: _ :: _ :: _ :: _ :: _, _, _, hg => cases hg
  | [_, _, _, _], [], _, hg => cases hg
  | [_, _, _, _], [_], _, hg => cases hg
  | [_, _, _, _], [_, _], _, hg => cases hg
  | [_, _, _, _], _ :: _ :: _ :: _ :: _, _, hg => cases hg
theorem TV {K : Nat} {ds es : List D} {r : AV} {h' : List (Option Ent)} (hg : O0 K ds es = some (r, h')) : ∃ e dp y1 y2 u1 u2 u3 l, ds = [e, dp, y1, y2] /\ es = [u1, u2, u3, l] /\ r = dat 4 (.lit (.bool true)) /\
  h' = [some ⟨147, .nil, 0, some (clo 147 164 [OID + 2])⟩, some ⟨147, .nil, 0, some (clo 147 191 [OID, OID + 1])⟩, some ⟨28, .nil, 0, some (bxp (OID + 3) 28)⟩, some ⟨28, .slice (ae l ++ kK K e) [], 1, none⟩] := by
 unfold O0 at hg
 split at hg
 ·injection hg with hg
  injection hg with h1 h2
  exact ⟨_, _, _, _, _, _, _, _, rfl, rfl, h1.symm, h2.symm⟩
 ·cases hg
theorem ad9 (K : Nat) (henv : EnvOK Tryz.prog (bT U2 (H2 K))) : ∀ args hh r h', fC uZ Dl (MV (K + 1)) args hh = true -> iW uZ Dl (O0 (K + 1)) args hh = some (r, h') -> HCallOK Tryz.prog 191 args hh r h' :=
 fP rfl rfl fun ds es r h' hq hg => by
  obtain ⟨e, dp, y1, y2, u1, u2, u3, l, rfl, rfl, rfl, rfl⟩ := TV hg
  refine HCallOK.typed X9.ex fun ht he => ?_
  refine BH X9.ex (e := ⟨28, l, 4, none⟩) (by simp [kU, Dl]) (by simp) ?_
  rintro ⟨es, hes⟩
  have hes : l = .slice es [] := hes
  subst hes
  obtain ⟨_, t0⟩ := ht (dat 61 e) (by simp [eY, uZ, dat, bxp]) rfl
  obtain ⟨_, t1⟩ := ht (dat 3 dp) (by simp [eY, uZ, dat, bxp]) rfl
  obtain ⟨z, rfl, hz⟩ := iC t1
  have hpre : jH (K + 1) e z es = true := hq
  simp only [jH, Bool.and_eq_true, decide_eq_true_eq, wE, List.all_eq_true] at hpre
  obtain ⟨⟨⟨⟨p0, p1⟩, p2⟩, p3⟩, p4⟩ := hpre
  have t0 : Ty Tryz.prog _ 61 e := t0
  obtain ⟨hl, _⟩ := AX t0
  refine ig hm henv X9 ((abX K ((kids e).length + 1) e z es).trans ?_)
  rw [uF] at p4
  simp only [List.length_append] at p4
  have hd : decide (es.length <= 1000) = true := by simp only [decide_eq_true_eq]; omega
  rw [hd, cond_true]
  show _ = some (dat 4 (.lit (.bool true)), [some (⟨147, .nil, 0, some (clo 147 164 [1000002])⟩ : Ent), some ⟨147, .nil, 0, some (clo 147 191 [1000000, 1000001])⟩, some ⟨28, .nil, 0, some (bxp 1000003 28)⟩, some ⟨28, .slice (es ++ kK (K + 1) e) [], 1, none⟩])
  rw [uF, <- List.append_assoc]
  have := sO (K := K) (N := (kids e).length + 1) (es := es) hl p2 (by omega) p1 ((kids e).length + 1) 0 (es ++ (bif opI e == 1 then [fM (rC e)] else [])) (Nat.zero_le _) (by omega) (by simp only [List.length_append, List.drop_zero]; omega)
  simpa using this
theorem Nz : ∀ K : Nat, EnvOK Tryz.prog (bT U2 (H2 K))
 | 0 => bI aas (fun args hh r h' hp _ => by
   exfalso
   revert hp
   cases (hh.length == 3) with
   | true =>
    intro hp
    have hp : fC uZ DV (Ov 0) args hh = true := hp
    unfold fC at hp
    rw [Bool.and_eq_true] at hp
    have := hp.2
    simp [Ov, qc] at this
   | false =>
    intro hp
    have hp : fC uZ Dl (MV 0) args hh = true := hp
    unfold fC at hp
    rw [Bool.and_eq_true] at hp
    have := hp.2
    simp [MV, jH, okK] at this)
 | K + 1 => bI aas (fun args hh r h' hp hd => by
   have hp : (bif hh.length == 3 then fC uZ DV (Ov (K + 1)) args hh else fC uZ Dl (MV (K + 1)) args hh) = true := hp
   have hd : (bif hh.length == 3 then iW uZ DV (Yq (K + 1)) args hh else iW uZ Dl (O0 (K + 1)) args hh) = some (r, h') := hd
   cases hlen : (hh.length == 3) with
   | true =>
    rw [hlen, cond_true] at hp hd
    exact adQ K (Nz K) args hh r h' hp hd
   | false =>
    rw [hlen, cond_false] at hp hd
    exact ad9 K (Nz K) args hh r h' hp hd)
end X
end
section
namespace X
open Go.Ev
set_option linter.unusedVariables false
/- roadbook/expr.through -/
def V9 : ay := fun _ =>  none
theorem acl (N : Nat) (x0 : D) (q : Int) : jO Tryz.prog (bT U2 (H2 7)) V9 N Tryz.f163 [dat 61 x0, clo 147 189 [1000000]] [⟨3, .lit (.int .i64 q), 0, none⟩] =
 bif qc 7 1 q then
  some (dat 4 (.lit (.bool ((dY 7 x0 1 q).1))), [some ⟨3, .lit (.int .i64 ((dY 7 x0 1 q).2)), 0, none⟩])
 else none := by kernel_rfl
/- roadbook/expr.through -/
def Yd : ay := fun _ =>  none
theorem abC (N : Nat) (x0 : D) (es : List D) : jO Tryz.prog (bT U2 (H2 7)) Yd N Tryz.f163 [dat 61 x0, clo 147 164 [1000000]] [⟨28, .nil, 0, some (bxp 1000001 28)⟩, ⟨28, .slice es [], 4, none⟩] =
 bif jH 7 x0 1 es then
  some (dat 4 (.lit (.bool true)), [some ⟨28, .nil, 0, some (bxp 1000001 28)⟩, some ⟨28, .slice (es ++ kK 7 x0) [], 1, none⟩])
 else none := by kernel_rfl
end X
end
section
namespace X
open Go.Ev
set_option linter.unusedVariables false
set_option linter.unusedSimpArgs false
def Jr : List AV := [dat 61 .nil, clo 147 189 [OID]]
def J5 : List AV := [dat 61 .nil, clo 147 164 [OID]]
def FM : List Ent := [⟨3, .nil, 0, none⟩]
def Gg : List Ent := [⟨28, .nil, 0, some (bxp (OID + 1) 28)⟩, ⟨28, .nil, 4, none⟩]
def WZ : List D -> List D -> Bool := fun ds es => qc 7 1 (intD (es.getD 0 .nil))
def Yb : List D -> List D -> Bool := fun ds es => jH 7 (ds.getD 0 .nil) 1 (ae (es.getD 1 .nil))
def Oq : List D -> List D -> uw
 | [e, _], [n] => some (dat 4 (.lit (.bool (dY 7 e 1 (intD n)).1)), [some ⟨3, .lit (.int .i64 (dY 7 e 1 (intD n)).2), 0, none⟩])
 | _, _ => none
def NZ : List D -> List D -> uw
 | [e, _], [_, l] => some (dat 4 (.lit (.bool true)), [some ⟨28, .nil, 0, some (bxp (OID + 1) 28)⟩, some ⟨28, .slice (ae l ++ kK 7 e) [], 1, none⟩])
 | _, _ => none
def af1 : xM := (163, 4, fun args h => bif h.length == 1 then fC Jr FM WZ args h else fC J5 Gg Yb args h, fun args h => bif h.length == 1 then iW Jr FM Oq args h else iW J5 Gg NZ args h)
def H3 : ul := af1 :: H2 7
theorem Zo : FnOK Tryz.prog 163 Tryz.f163 := ⟨Tryz.func163, rfl, by kernel_rfl⟩
theorem UL {ds es : List D} {r : AV} {h' : List (Option Ent)} (hg : Oq ds es = some (r, h')) : ∃ e y n, ds = [e, y] /\ es = [n] /\ r = dat 4 (.lit (.bool (dY 7 e 1 (intD n)).1)) /\
  h' = [some ⟨3, .lit (.int .i64 (dY 7 e 1 (intD n)).2), 0, none⟩] := by
 unfold Oq at hg
 split at hg
 ·injection hg with hg
  injection hg with h1 h2
  exact ⟨_, _, _, rfl, rfl, h1.symm, h2.symm⟩
 ·cases hg
theorem Uf {ds es : List D} {r : AV} {h' : List (Option Ent)} (hg : NZ ds es = some (r, h')) : ∃ e y u l, ds = [e, y] /\ es = [u, l] /\ r = dat 4 (.lit (.bool true)) /\
  h' = [some ⟨28, .nil, 0, some (bxp (OID + 1) 28)⟩, some ⟨28, .slice (ae l ++ kK 7 e) [], 1, none⟩] := by
 unfold NZ at hg
 split at hg
 ·injection hg with hg
  injection hg with h1 h2
  exact ⟨_, _, _, _, rfl, rfl, h1.symm, h2.symm⟩
 ·cases hg
theorem aeZ : ∀ args hh r h', fC Jr FM WZ args hh = true -> iW Jr FM Oq args hh = some (r, h') -> HCallOK Tryz.prog 163 args hh r h' :=
 fP rfl rfl fun ds es r h' hq hg => by
  obtain ⟨e, y, n, rfl, rfl, rfl, rfl⟩ := UL hg
  refine HCallOK.typed Zo.ex fun ht he => ?_
  obtain ⟨_, t2⟩ := he ⟨3, n, 0, none⟩ (by simp [kU, FM]) rfl rfl
  obtain ⟨q, rfl, hq2⟩ := iC t2
  have hpre : qc 7 1 q = true := hq
  refine ig hm (Nz 7) Zo ((acl 1 e q).trans ?_)
  rw [hpre]
  rfl
theorem aea : ∀ args hh r h', fC J5 Gg Yb args hh = true -> iW J5 Gg NZ args hh = some (r, h') -> HCallOK Tryz.prog 163 args hh r h' :=
 fP rfl rfl fun ds es r h' hq hg => by
  obtain ⟨e, y, u, l, rfl, rfl, rfl, rfl⟩ := Uf hg
  refine BH Zo.ex (e := ⟨28, l, 4, none⟩) (by simp [kU, Gg]) (by simp) ?_
  rintro ⟨es, hes⟩
  have hes : l = .slice es [] := hes
  subst hes
  have hpre : jH 7 e 1 es = true := hq
  refine ig hm (Nz 7) Zo ((abC 1 e es).trans ?_)
  rw [hpre]
  rfl
theorem aab : EnvOK Tryz.prog (bT U2 H3) := bI (Nz 7) (fun args hh r h' hp hd => by have hp : (bif hh.length == 1 then fC Jr FM WZ args hh else fC J5 Gg Yb args hh) = true := hp have hd : (bif hh.length == 1 then iW Jr FM Oq args hh else iW J5 Gg NZ args hh) = some (r, h') := hd cases hlen : (hh.length == 1) with | true => rw [hlen, cond_true] at hp hd exact aeZ args hh r h' hp hd | false => rw [hlen, cond_false] at hp hd exact aea args hh r h' hp hd)
def aeb : List AV := [bxp OID 28]
def Ua (args : List AV) (h : List Ent) : Bool := allA aeb args && (match h with | [e] => e.ty == 28 && e.c.isNone && (e.row == 3 || e.row == 4) | _ => false)
def aaO : xM := (165, 0, fun args h => Ua args h && decide ((ae (h.getD 0 ⟨0, .nil, 0, none⟩).d).length <= 1000000), fun args h => match h with | [e] => some (aL [] (.agg []), [some ⟨28, .slice (l7 (ae e.d)) [], e.row, none⟩]) | _ => none)
def aaX : xM := (166, 28, fun args h => Ua args h, fun args h => match h with | [e] => some (bxp OID 28, [some ⟨28, .slice (jb (ae e.d)) [], if e.row == 3 then 2 else 1, none⟩]) | _ => none)
theorem afy : FnOK Tryz.prog 165 Tryz.f165 := ⟨Tryz.func165, rfl, by kernel_rfl⟩
theorem afk : FnOK Tryz.prog 166 Tryz.f166 := ⟨Tryz.func166, rfl, by kernel_rfl⟩
theorem cells27 : Tryz.prog.cellsOf 28 = 1 := by kernel_rfl
theorem cells3 : Tryz.prog.cellsOf 3 = 1 := by kernel_rfl
theorem Nk {args : List AV} {h : List Ent} (hq : Ua args h = true) : args = [bxp OID 28] /\ ∃ e : Ent, h = [e] /\ e.ty = 28 /\ e.c = none /\ (e.row = 3 \/ e.row = 4) := by
 unfold Ua at hq
 rw [Bool.and_eq_true] at hq
 refine ⟨?_, ?_⟩
 ·have ha := EC hq.1 (fun t ht _ => by
   rcases List.mem_singleton.1 ht with rfl
   rfl)
  have hl : args.length = 1 := by
   have h1 := hq.1
   match args, h1 with
   | [], h1 => cases h1
   | [_], _ => rfl
   | _ :: _ :: _, h1 => simp [allA, aeb] at h1
  match args, hl with
  | [x], _ => exact ha
 ·match h, hq.2 with
  | [e], h2 =>
   simp only [Bool.and_eq_true, beq_iff_eq, Bool.or_eq_true, Option.isNone_iff_eq_none] at h2
   exact ⟨e, rfl, h2.1.1, h2.1.2, h2.2⟩
theorem agK : ∀ args hh r h', aaO.2.2.1 args hh = true -> aaO.2.2.2 args hh = some (r, h') -> HCallOK Tryz.prog 165 args hh r h' := by
 intro args hh r h' hp hd
 have hp : (Ua args hh && decide ((ae (hh.getD 0 ⟨0, .nil, 0, none⟩).d).length <= 1000000)) = true := hp
 rw [Bool.and_eq_true] at hp
 obtain ⟨rfl, e, rfl, h1, h2, h3⟩ := Nk hp.1
 have hlen : (ae e.d).length <= 1000000 := by
  have := hp.2
  simpa using this
 have hd : some (aL [] (.agg []), [some (⟨28, .slice (l7 (ae e.d)) [], e.row, none⟩ : Ent)]) = some (r, h') := hd
 rw [Option.some.injEq, Prod.mk.injEq] at hd
 rw [<- hd.1, <- hd.2]
 exact YZ afy.ex (fun blk off cap zs w a b c => Tryz.slices_Sort_int blk off cap zs w a b c) (fun p cap w => Tryz.slices_Sort_int_none p cap w) u27 cells27 u3 cells3 h1 h2 h3 hlen
theorem aho : ∀ args hh r h', aaX.2.2.1 args hh = true -> aaX.2.2.2 args hh = some (r, h') -> HCallOK Tryz.prog 166 args hh r h' := by
 intro args hh r h' hp hd
 have hp : Ua args hh = true := hp
 obtain ⟨rfl, e, rfl, h1, h2, h3⟩ := Nk hp
 have hd : some (bxp OID 28, [some (⟨28, .slice (jb (ae e.d)) [], if e.row == 3 then 2 else 1, none⟩ : Ent)]) = some (r, h') := hd
 rw [Option.some.injEq, Prod.mk.injEq] at hd
 rw [<- hd.1, <- hd.2]
 exact Qn afk.ex (fun blk off cap zs w a b c => Tryz.slices_Compact_int blk off cap zs w a b c) (fun p cap w => Tryz.slices_Compact_int_empty p cap w) u27 cells27 u3 cells3 h1 h2 h3
def H4 : ul := aaX :: aaO :: H3
theorem Nv : EnvOK Tryz.prog (bT U2 H4) := bI (bI aab agK) aho
def e162 : FuncId × TypeId × (List AV -> Bool) × (List AV -> Option D) := (162, 4, yes, ent [61] (f1 fun x => some (.lit (.bool (Cb x)))))
def U3 : Tab := e162 :: U2
end X
end
section
namespace X
open Go.Ev
set_option linter.unusedVariables false
/- roadbook/expr.May -/
def abI : ay := fun _ =>  none
theorem t162 (N : Nat) (x0 : D) : aU Tryz.prog (bT U2 H3) abI N Tryz.f162 [dat 61 x0] =
 bif qc 7 1 0 then
  some (dat 4 (.lit (.bool ((dY 7 x0 1 0).1))))
 else none := by kernel_rfl
/- roadbook/expr.Cols -/
def acj : ay := fun _ =>  none
theorem afw (N : Nat) (x0 : D) : aU Tryz.prog (bT U3 H4) acj N Tryz.f129 [dat 61 x0] =
 bif (!(Cb x0)) then
  some (dat 28 (.slice [] []))
 else bif jH 7 x0 1 [] then
   bif decide (([] ++ kK 7 x0).length <= 1000000) then
    some (dat 28 (.slice (jb (l7 ([] ++ kK 7 x0))) []))
   else none
  else none := by kernel_rfl
end X
end
section
namespace X
open Go.Ev
set_option linter.unusedVariables false
set_option linter.unusedSimpArgs false
theorem aei : FnOK Tryz.prog 162 Tryz.f162 := ⟨Tryz.func162, rfl, by kernel_rfl⟩
theorem c162 : ∀ args d, e162.2.2.2 args = some d -> CallOK Tryz.prog 162 args (aj Tryz.prog 4 d) :=
 mG aei fun x d h _ => by
  cases h
  rw [n26]
  refine aI hm aab aei ((t162 1 x).trans ?_)
  rw [m4]
  rfl
theorem ac2 : EnvOK Tryz.prog (bT U3 []) := ah NJ c162
theorem Yx : EnvOK Tryz.prog (bT U3 H4) := ah Nv c162
theorem JK {g : D -> Int -> Bool × Int} {c : D -> List D} (hg : ∀ p m, (g p m).1 = true -> m + ((c p).length : Int) <= (g p m).2) : ∀ (l : List D) (m : Int), (goL g l m).1 = true -> m + ((l.flatMap c).length : Int) <= (goL g l m).2
 | [], m, _ => by simp [goL]
 | p :: l, m, h => by
  rw [y7] at h ⊢
  cases hp : (g p m).1 with
  | false => rw [hp] at h; cases h
  | true =>
   rw [hp, cond_true] at h
   rw [cond_true, List.flatMap_cons, List.length_append]
   have h1 := hg p m hp
   have h2 := JK hg l _ h
   omega
theorem SI {g : D -> Int -> Bool × Int} : ∀ (l : List D) (m : Int), (goL g l m).1 = true -> ∀ p ∈ l, ∃ k, (g p k).1 = true
 | [], m, _ => by simp
 | p :: l, m, h => by
  rw [y7] at h
  cases hp : (g p m).1 with
  | false => rw [hp] at h; cases h
  | true =>
   rw [hp, cond_true] at h
   intro q hq
   rcases List.mem_cons.1 hq with rfl | hq
   ·exact ⟨m, hp⟩
   ·exact SI l _ h q hq
theorem I4 : ∀ (K : Nat) (e : D) (deep n : Int), (dY K e deep n).1 = true -> okK K e = true
 | 0, e, deep, n, h => by cases h
 | K + 1, e, deep, n, h => by
  rw [qH] at h
  cases hs : rE e deep n with
  | false => rw [hs] at h; cases h
  | true =>
   rw [hs, cond_true] at h
   rw [wE, (Gf hs).2.2, Bool.true_and, List.all_eq_true]
   intro p hp
   obtain ⟨k, hk⟩ := SI _ _ h p hp
   exact I4 K p _ k hk
theorem yQ : ∀ (K : Nat) (e : D) (deep n : Int), (dY K e deep n).1 = true -> n + ((kK K e).length : Int) <= (dY K e deep n).2
 | 0, e, deep, n, h => by cases h
 | K + 1, e, deep, n, h => by
  rw [qH] at h ⊢
  cases hs : rE e deep n with
  | false => rw [hs] at h; cases h
  | true =>
   rw [hs, cond_true] at h
   rw [cond_true, uF, List.length_append]
   have h1 := JK (c := kK K) (fun p m => yQ K p (deep + 1) m) _ _ h
   have h2 : (bif opI e == 1 then [fM (rC e)] else []).length <= 1 := by cases (opI e == 1) <;> simp
   omega
theorem LD {e : D} (h : Cb e = true) : okK 7 e = true := I4 7 e 1 0 h
theorem JD {e : D} (h : Cb e = true) : (kK 7 e).length <= 30 := by
 have h1 := yQ 7 e 1 0 h
 have h2 := tK 7 e 1 0 (by omega) (by omega) h
 omega
theorem W9 {e : D} (h : Cb e = true) : jH 7 e 1 [] = true := by
 simp only [jH, Bool.and_eq_true, decide_eq_true_eq]
 have := JD h
 exact ⟨⟨⟨LD h, by omega⟩, by omega⟩, by simp; omega⟩
def e129 : FuncId × TypeId × (List AV -> Bool) × (List AV -> Option D) := (129, 28, yes, ent [61] (f1 fun x => some (.slice (mg x) [])))
theorem aeP : FnOK Tryz.prog 129 Tryz.f129 := ⟨Tryz.func129, rfl, by kernel_rfl⟩
theorem c129 : ∀ args d, e129.2.2.2 args = some d -> CallOK Tryz.prog 129 args (aj Tryz.prog 28 d) :=
 mG aeP fun x d h _ => by
  cases h
  rw [n26]
  refine aI hm Yx aeP ((afw 1 x).trans ?_)
  rw [m27]
  unfold mg
  cases hmay : Cb x with
  | false => rfl
  | true =>
   have hl := JD hmay
   have hd : decide (([] ++ kK 7 x).length <= 1000000) = true := by simp; omega
   rw [W9 hmay, hd]
   rfl
def U4 : Tab := e129 :: U3
theorem Xd : EnvOK Tryz.prog (bT U4 []) := ah ac2 c129
def Vm : List AV := [dat 61 .nil, bxp OID 28, bxp (OID + 1) 67, bxp (OID + 2) 177]
def Yk : List Ent := [⟨28, .nil, 0, none⟩, ⟨67, .nil, 0, none⟩, ⟨177, .nil, 0, some (clo 177 185 [OID, OID + 1, OID + 2])⟩]
def Y0 (K : Nat) : List D -> List D -> Bool := fun ds es => okK K (ds.getD 0 .nil)
def Zl (K : Nat) : List D -> List D -> uw
 | [e, _, _, _], [c, r, _] => some (dat 59 (oC (ae c) (ae r) K e), [some ⟨28, c, 0, none⟩, some ⟨67, r, 0, none⟩, some ⟨177, .nil, 0, some (clo 177 185 [OID, OID + 1, OID + 2])⟩])
 | _, _ => none
def agP (K : Nat) : xM := (185, 59, fC Vm Yk (Y0 K), iW Vm Yk (Zl K))
def H5 (K : Nat) : ul := [agP K]
theorem XQ {K : Nat} {ds es : List D} {r : AV} {h' : List (Option Ent)} (hg : Zl K ds es = some (r, h')) : ∃ e y1 y2 y3 c v u, ds = [e, y1, y2, y3] /\ es = [c, v, u] /\ r = dat 59 (oC (ae c) (ae v) K e) /\
  h' = [some ⟨28, c, 0, none⟩, some ⟨67, v, 0, none⟩, some ⟨177, .nil, 0, some (clo 177 185 [OID, OID + 1, OID + 2])⟩] := by
 unfold Zl at hg
 split at hg
 ·injection hg with hg
  injection hg with h1 h2
  exact ⟨_, _, _, _, _, _, _, rfl, rfl, h1.symm, h2.symm⟩
 ·cases hg
end X
end
section
namespace X
open Go.Ev
set_option linter.unusedVariables false
/- roadbook/expr.Eval$1 -/
def KT : ay := fun i => if i = 8 then some ([0, 1, 2, 7, 8, 9, 10, 11, 12, 13, 14, 15, 16, 17, 18, 19, 20, 21, 22, 23, 24, 25, 26, 30, 31, 32, 33, 34, 35, 36, 37, 38, 39, 40, 41, 42, 43, 44, 45], [4, 5, 25, 1000000, 1000001, 1000002], []) else none
def zi (P : Program) (fn : Func) (K : Nat) (N n : Nat) (x0 : D) (cols : D) (row : D) (v29 : Int) (b25 : List D) : Option (AV × List (Option Ent)) := aN (preL KT (sub [1, 1, 1, 0, 1, 0, 0] (ag fn))) (az P (bT U4 (H5 K)) KT N (sub [1, 1, 1, 0, 1, 0, 0] (ag fn))) n ⟨[dead, dead, dead, bxp 1000002 177, bxp 4 61, bxp 5 59, bxp 25 67, dead, dead, dead, dead, dead, dead, dead, dead, dead, dead, dead, dead, dead, dead, dead, dead, dead, dead, dead, dead, dat 29 (af x0 3), dat 3 (.lit (.int .i64 ((ae (af x0 3)).length : Int))), dat 3 (.lit (.int .i64 v29)), dead, dead, dead, dead, dead, dead, dead, dead, dead, dead, dead, dead, dead, dead, dead, dead], bf [(4, some ⟨61, x0, 0, none⟩), (5, some ⟨59, .agg [.lit (.int .i64 0), .lit (.int .i64 0)], 0, none⟩), (25, some ⟨67, .slice b25 [], 2, none⟩), (1000000, some ⟨28, cols, 0, none⟩), (1000001, some ⟨67, row, 0, none⟩), (1000002, some ⟨177, .nil, 0, some (clo 177 185 [1000000, 1000001, 1000002])⟩)]⟩ (aG 1 (cZ P (bT U4 (H5 K)) KT N (sub [1, 1, 1, 1] (ag fn)) (qx P fn 3) ))
theorem IE (K : Nat) (N n : Nat) (x0 : D) (cols : D) (row : D) (v29 : Int) (b25 : List D) : zi Tryz.prog Tryz.f185 K N (n + 1) x0 cols row v29 b25 =
 bif decide (v29 < ((ae (af x0 3)).length : Int)) then
  bif (decide (0 <= v29) && decide (v29 < ((ae (af x0 3)).length : Int))) then
   bif okK K ((ae (af x0 3)).getD (v29).toNat .nil) then
    bif (decide (0 <= v29) && decide (v29 < (b25.length : Int))) then
     zi Tryz.prog Tryz.f185 K N n x0 cols row (IntKind.wrap .i64 (v29 + 1)) (b25.set (v29).toNat (oC (ae cols) (ae row) K ((ae (af x0 3)).getD (v29).toNat .nil)))
    else none
   else none
  else none
 else bif (decide (0 <= (intD (af x0 0))) && decide ((intD (af x0 0)) < 11)) then
   bif yc (nJ (intD (af x0 0))) (.slice b25 []) then
    some (dat 59 (Hq (nJ (intD (af x0 0))) (.slice b25 [])), [some ⟨28, cols, 0, none⟩, some ⟨67, row, 0, none⟩, some ⟨177, .nil, 0, some (clo 177 185 [1000000, 1000001, 1000002])⟩])
   else none
  else none := by kernel_rfl
theorem afQ (K : Nat) (N : Nat) (x0 : D) (cols : D) (row : D) : jO Tryz.prog (bT U4 (H5 K)) KT N Tryz.f185 [dat 61 x0, bxp 1000000 28, bxp 1000001 67, bxp 1000002 177] [⟨28, cols, 0, none⟩, ⟨67, row, 0, none⟩, ⟨177, .nil, 0, some (clo 177 185 [1000000, 1000001, 1000002])⟩] =
 bif ((intD (af x0 0)) == 0) then
  some (dat 59 (af x0 2), [some ⟨28, cols, 0, none⟩, some ⟨67, row, 0, none⟩, some ⟨177, .nil, 0, some (clo 177 185 [1000000, 1000001, 1000002])⟩])
 else bif ((intD (af x0 0)) == 1) then
   some (dat 59 (atD (intD (af x0 1)) (ae cols) (ae row)), [some ⟨28, cols, 0, none⟩, some ⟨67, row, 0, none⟩, some ⟨177, .nil, 0, some (clo 177 185 [1000000, 1000001, 1000002])⟩])
  else bif (decide (0 <= ((ae (af x0 3)).length : Int)) && decide (((ae (af x0 3)).length : Int) <= 2147483648)) then
    zi Tryz.prog Tryz.f185 K N N x0 cols row 0 (List.replicate (((ae (af x0 3)).length : Int)).toNat (.agg [.lit (.int .i64 0), .lit (.int .i64 0)] : D))
   else none := by kernel_rfl
end X
end
section
namespace X
open Go.Ev
set_option linter.unusedVariables false
set_option linter.unusedSimpArgs false
theorem Lc {α β : Type} (F : α -> β) {ks : List α} {tl : List β} {i : Nat} (h : i < ks.length) (ht : tl.length = ks.length - i) :
  ((ks.take i).map F ++ tl).set i (F ks[i]) = (ks.take (i + 1)).map F ++ tl.drop 1 := by
 cases tl with
 | nil => simp at ht; omega
 | cons b tl =>
  rw [List.set_append_right _ _ (by simp; omega)]
  have : i - ((ks.take i).map F).length = 0 := by simp; omega
  rw [this, List.take_succ_eq_append_getElem h, List.map_append]
  simp
theorem IV {K N : Nat} {x0 cols row : D} (hl : (kids x0).length <= maxLen) (h2 : 2 <= opI x0) (h11 : opI x0 < 11) (htk : vC (opI x0) ((kids x0).length : Int) = true) (hok : ∀ p ∈ kids x0, okK K p = true) : ∀ (n i : Nat) (tl : List D), i <= (kids x0).length -> (kids x0).length - i < n -> tl.length = (kids x0).length - i ->
  zi Tryz.prog Tryz.f185 K N n x0 cols row (i : Int) (((kids x0).take i).map (oC (ae cols) (ae row) K) ++ tl) = some (dat 59 (opV (opI x0) ((kids x0).map (oC (ae cols) (ae row) K))),
   [some ⟨28, cols, 0, none⟩, some ⟨67, row, 0, none⟩, some ⟨177, .nil, 0, some (clo 177 185 [1000000, 1000001, 1000002])⟩])
 | 0, i, tl, _, h, _ => by omega
 | n + 1, i, tl, hi, h, htl => by
  rw [IE, show ae (af x0 3) = kids x0 from rfl, show intD (af x0 0) = opI x0 from rfl]
  by_cases hlt : i < (kids x0).length
  ·have h1 : decide ((i : Int) < ((kids x0).length : Int)) = true := by simpa using hlt
   have hlen : (((kids x0).take i).map (oC (ae cols) (ae row) K) ++ tl).length = (kids x0).length := by simp; omega
   rw [hlen, og hlt, h1, cond_true, cond_true, Int.toNat_natCast, getD_lt hlt, hok _ (List.getElem_mem hlt), cond_true, cond_true, jC hl hlt, Lc _ hlt htl]
   exact IV hl h2 h11 htk hok n (i + 1) (tl.drop 1) (by omega) (by omega) (by simp; omega)
  ·have h1 : decide ((i : Int) < ((kids x0).length : Int)) = false := by simpa using hlt
   have hi2 : i = (kids x0).length := by omega
   have htl0 : tl = [] := List.length_eq_zero_iff.1 (by omega)
   have d1 : (decide (0 <= opI x0) && decide (opI x0 < 11)) = true := by simp only [Bool.and_eq_true, decide_eq_true_eq]; omega
   subst htl0
   rw [h1, cond_false, hi2, List.take_length, List.append_nil, d1, cond_true]
   obtain ⟨o1, o2⟩ := Ze h2 h11
   have hcome : yc (nJ (opI x0)) (.slice ((kids x0).map (oC (ae cols) (ae row) K)) []) = true := by
    unfold yc
    rw [o2, Ht (by omega) h11]
    show (true && vC (opI x0) (((kids x0).map (oC (ae cols) (ae row) K)).length : Int)) = true
    rw [List.length_map, htk]
    rfl
   have hcd : Hq (nJ (opI x0)) (.slice ((kids x0).map (oC (ae cols) (ae row) K)) []) = opV (opI x0) ((kids x0).map (oC (ae cols) (ae row) K)) := by
    unfold Hq
    rw [o1]
    rfl
   rw [hcome, cond_true, hcd]
theorem Ue {op n : Int} (h : vC op n = true) : n <= 4 := by
 unfold vC at h
 cases h1 : (op == 10) with
 | true => rw [h1, cond_true, beq_iff_eq] at h; omega
 | false =>
  cases h2 : (op == 0 || op == 1) with
  | true => rw [h1, h2, cond_false, cond_true, beq_iff_eq] at h; omega
  | false =>
   cases h3 : (op == 8 || op == 9) with
   | true => rw [h1, h2, h3, cond_false, cond_false, cond_true, decide_eq_true_eq] at h; omega
   | false => rw [h1, h2, h3, cond_false, cond_false, cond_false, beq_iff_eq] at h; omega
theorem QN (cols row : List D) (k : Nat) (e : D) : oC cols row (k + 1) e = bif opI e == 0 then af e 2 else bif opI e == 1 then atD (rC e) cols row else opV (opI e) ((kids e).map (oC cols row k)) := rfl
theorem adq : FnOK Tryz.prog 185 Tryz.f185 := ⟨Tryz.func185, rfl, by kernel_rfl⟩
theorem ahf (K : Nat) (henv : EnvOK Tryz.prog (bT U4 (H5 K))) : ∀ args hh r h', fC Vm Yk (Y0 (K + 1)) args hh = true -> iW Vm Yk (Zl (K + 1)) args hh = some (r, h') -> HCallOK Tryz.prog 185 args hh r h' :=
 fP rfl rfl fun ds es r h' hq hg => by
  obtain ⟨e, y1, y2, y3, c, v, u, rfl, rfl, rfl, rfl⟩ := XQ hg
  refine HCallOK.typed adq.ex fun ht he => ?_
  obtain ⟨_, t0⟩ := ht (dat 61 e) (by simp [eY, Vm, dat, bxp]) rfl
  have t0 : Ty Tryz.prog _ 61 e := t0
  obtain ⟨hl, _⟩ := AX t0
  have hpre : okK (K + 1) e = true := hq
  simp only [wE, Bool.and_eq_true, List.all_eq_true] at hpre
  obtain ⟨hfit, hall⟩ := hpre
  obtain ⟨f0, f1, _, _, _, f2⟩ := SL hfit
  refine ig hm henv adq ((afQ K ((kids e).length + 1) e c v).trans ?_)
  show _ = some (dat 59 (oC (ae c) (ae v) (K + 1) e), [some (⟨28, c, 0, none⟩ : Ent), some ⟨67, v, 0, none⟩, some ⟨177, .nil, 0, some (clo 177 185 [1000000, 1000001, 1000002])⟩])
  rw [QN, show ae (af e 3) = kids e from rfl, show intD (af e 0) = opI e from rfl, show intD (af e 1) = rC e from rfl]
  cases h0 : (opI e == 0) with
  | true => rfl
  | false =>
   rw [cond_false, cond_false]
   cases h1 : (opI e == 1) with
   | true => rfl
   | false =>
    rw [cond_false, cond_false]
    have h0' : opI e ≠ 0 := by simpa using h0
    have h1' : opI e ≠ 1 := by simpa using h1
    have hd : (decide (0 <= ((kids e).length : Int)) && decide (((kids e).length : Int) <= 2147483648)) = true := by
     simp only [Bool.and_eq_true, decide_eq_true_eq]
     have := Ue f2
     omega
    rw [hd, cond_true, Int.toNat_natCast]
    have := IV (K := K) (N := (kids e).length + 1) (cols := c) (row := v) hl (by omega) f1 f2 hall ((kids e).length + 1) 0 (List.replicate (kids e).length (.agg [.lit (.int .i64 0), .lit (.int .i64 0)])) (Nat.zero_le _) (by omega) (by simp)
    simpa using this
theorem Nc : ∀ K : Nat, EnvOK Tryz.prog (bT U4 (H5 K))
 | 0 => bI Xd (fun args hh r h' hp _ => by
   exfalso
   have hp : fC Vm Yk (Y0 0) args hh = true := hp
   unfold fC at hp
   rw [Bool.and_eq_true] at hp
   have := hp.2
   simp [Y0, okK] at this)
 | K + 1 => bI Xd (fun args hh r h' hp hd => ahf K (Nc K) args hh r h' hp hd)
def e161 : FuncId × TypeId × (List AV -> Bool) × (List AV -> Option D) := (161, 59, yes, ent [61, 28, 67] (f3 fun x y z => some (SX x (ae y) (ae z))))
def U5 : Tab := e161 :: U4
end X
end
section
namespace X
open Go.Ev
set_option linter.unusedVariables false
/- roadbook/expr.Eval -/
def abT : ay := fun _ =>  none
theorem agB (N : Nat) (x0 : D) (x1 : D) (x2 : D) : aU Tryz.prog (bT U4 (H5 7)) abT N Tryz.f161 [dat 61 x0, dat 28 x1, dat 67 x2] =
 bif (!(Cb x0)) then
  some (dat 59 (.agg [.lit (.int .i64 2), .lit (.int .i64 0)]))
 else bif okK 7 x0 then
   some (dat 59 (oC (ae x1) (ae x2) 7 x0))
  else none := by kernel_rfl
/- roadbook/expr.Keeps -/
def ack : ay := fun _ =>  none
theorem ahd (N : Nat) (x0 : D) (x1 : D) (x2 : D) : aU Tryz.prog (bT U5 []) ack N Tryz.f126 [dat 61 x0, dat 28 x1, dat 67 x2] =
 some (dat 4 (.lit (.bool (rW (SX x0 (ae x1) (ae x2)))))) := by kernel_rfl
end X
end
section
namespace X
open Go.Ev
set_option linter.unusedVariables false
set_option linter.unusedSimpArgs false
theorem adV : FnOK Tryz.prog 161 Tryz.f161 := ⟨Tryz.func161, rfl, by kernel_rfl⟩
theorem agO : ∀ args d, e161.2.2.2 args = some d -> CallOK Tryz.prog 161 args (aj Tryz.prog 59 d) :=
 Pq adV fun x y z d h _ _ _ => by
  cases h
  rw [n26, n27, n28]
  refine aI hm (Nc 7) adV ((agB 1 x y z).trans ?_)
  rw [m23]
  unfold SX
  cases hmay : Cb x with
  | false => rfl
  | true =>
   rw [LD hmay]
   rfl
theorem ZV : EnvOK Tryz.prog (bT U5 []) := ah Xd agO
def e126 : FuncId × TypeId × (List AV -> Bool) × (List AV -> Option D) := (126, 4, yes, ent [61, 28, 67] (f3 fun x y z => some (.lit (.bool (QU x (ae y) (ae z))))))
theorem aes : FnOK Tryz.prog 126 Tryz.f126 := ⟨Tryz.func126, rfl, by kernel_rfl⟩
theorem c126 : ∀ args d, e126.2.2.2 args = some d -> CallOK Tryz.prog 126 args (aj Tryz.prog 4 d) :=
 Pq aes fun x y z d h _ _ _ => by
  cases h
  rw [n26, n27, n28]
  refine aI hm ZV aes ((ahd 1 x y z).trans ?_)
  rw [m4]
  rfl
def U6 : Tab := e126 :: U5
theorem Xg : EnvOK Tryz.prog (bT U6 []) := ah ZV c126
def e168 (K : Nat) : FuncId × TypeId × (List AV -> Bool) × (List AV -> Option D) := (168, 3, fun xs => decide (0 <= intD (xs.getD 1 dead).d) && decide (intD (xs.getD 1 dead).d < (K : Int)) && decide (K <= 1001), ent [61, 3] (f2 fun x y => some (.lit (.int .i64 (zh K x (intD y))))))
def aew (K : Nat) : FuncId × TypeId × (List AV -> Bool) × (List AV -> Option D) := (174, 4, fun xs => okK K (xs.getD 0 dead).d, ent [61, 3] (f2 fun x y => some (.lit (.bool (hasK K x (intD y))))))
def U7 (K : Nat) : Tab := U6
end X
end
section
namespace X
open Go.Ev
set_option linter.unusedVariables false
/- roadbook/roadbookref02.size -/
def Ld : ay := fun i => if i = 3 then some ([0, 3, 4, 7, 8, 9, 10, 11, 12, 13, 14, 15, 16, 17, 18, 19, 20, 21, 22, 23, 24, 25, 26, 27, 28, 29, 30], [2], []) else none
def Ar (P : Program) (fn : Func) (K : Nat) (N n : Nat) (x0 : D) (x1 : Int) (v5 : Int) (v6 : Int) : Option AV := aN (preL Ld (sub [1, 1, 0, 1, 0, 0] (ag fn))) (az P (bT (U7 K) []) Ld N (sub [1, 1, 0, 1, 0, 0] (ag fn))) n ⟨[dead, dat 3 (.lit (.int .i64 x1)), bxp 2 61, dead, dead, dat 3 (.lit (.int .i64 v5)), dat 3 (.lit (.int .i64 v6)), dead, dead, dead, dead, dead, dead, dead, dead, dead, dead, dead, dead, dead, dead, dead, dead, dead, dead, dead, dead, dead, dead, dead, dead], bf [(2, some ⟨61, x0, 0, none⟩)]⟩ (aG 0 (cZ P (bT (U7 K) []) Ld N (sub [1, 1, 1] (ag fn)) (dJ P fn) ))
theorem Ia (K : Nat) (N n : Nat) (x0 : D) (x1 : Int) (v5 : Int) (v6 : Int) : Ar Tryz.prog Tryz.f168 K N (n + 1) x0 x1 v5 v6 =
 bif ((decide (v6 < ((ae (af x0 3)).length : Int))) == true) then
  bif decide (v5 <= x1) then
   bif (decide (0 <= v6) && decide (v6 < ((ae (af x0 3)).length : Int))) then
    bif (decide (0 <= (IntKind.wrap .i64 (x1 - v5))) && decide ((IntKind.wrap .i64 (x1 - v5)) < (K : Int)) && decide (K <= 1001)) then
     Ar Tryz.prog Tryz.f168 K N n x0 x1 (IntKind.wrap .i64 (v5 + (zh K ((ae (af x0 3)).getD (v6).toNat .nil) (IntKind.wrap .i64 (x1 - v5))))) (IntKind.wrap .i64 (v6 + 1))
    else none
   else none
  else some (dat 3 (.lit (.int .i64 v5)))
 else some (dat 3 (.lit (.int .i64 v5))) := by kernel_rfl
theorem t168 (K : Nat) (N : Nat) (x0 : D) (x1 : Int) : aU Tryz.prog (bT (U7 K) []) Ld N Tryz.f168 [dat 61 x0, dat 3 (.lit (.int .i64 x1))] =
 Ar Tryz.prog Tryz.f168 K N N x0 x1 1 0 := by kernel_rfl
/- roadbook/roadbookref02.Has -/
def MC : ay := fun i => if i = 4 then some ([0, 3, 4, 6, 7, 8, 9, 10, 11, 12, 13, 14, 15, 16, 17, 18, 19, 20, 21, 22, 23, 24, 25, 26, 27, 28, 29, 30], [2], []) else none
def sV (P : Program) (fn : Func) (K : Nat) (N n : Nat) (x0 : D) (x1 : Int) (v5 : Int) : Option AV := aN (preL MC (sub [1, 1, 0, 1, 0, 0] (ag fn))) (az P (bT (U7 K) []) MC N (sub [1, 1, 0, 1, 0, 0] (ag fn))) n ⟨[dead, dat 3 (.lit (.int .i64 x1)), bxp 2 61, dead, dead, dat 3 (.lit (.int .i64 v5)), dead, dead, dead, dead, dead, dead, dead, dead, dead, dead, dead, dead, dead, dead, dead, dead, dead, dead, dead, dead, dead, dead, dead, dead, dead], bf [(2, some ⟨61, x0, 0, none⟩)]⟩ (aG 0 (cZ P (bT (U7 K) []) MC N (sub [1, 1, 1] (ag fn)) (dJ P fn) ))
theorem II (K : Nat) (N n : Nat) (x0 : D) (x1 : Int) (v5 : Int) : sV Tryz.prog Tryz.f174 K N (n + 1) x0 x1 v5 =
 bif decide (v5 < ((ae (af x0 3)).length : Int)) then
  bif (decide (0 <= v5) && decide (v5 < ((ae (af x0 3)).length : Int))) then
   bif okK K ((ae (af x0 3)).getD (v5).toNat .nil) then
    bif hasK K ((ae (af x0 3)).getD (v5).toNat .nil) x1 then
     some (dat 4 (.lit (.bool true)))
    else sV Tryz.prog Tryz.f174 K N n x0 x1 (IntKind.wrap .i64 (v5 + 1))
   else none
  else none
 else some (dat 4 (.lit (.bool false))) := by kernel_rfl
theorem af8 (K : Nat) (N : Nat) (x0 : D) (x1 : Int) : aU Tryz.prog (bT (U7 K) []) MC N Tryz.f174 [dat 61 x0, dat 3 (.lit (.int .i64 x1))] =
 bif (((intD (af x0 0)) == 1) == true) then
  bif ((intD (af x0 1)) == x1) then
   some (dat 4 (.lit (.bool true)))
  else sV Tryz.prog Tryz.f174 K N N x0 x1 0
 else sV Tryz.prog Tryz.f174 K N N x0 x1 0 := by kernel_rfl
end X
end
end Go.Proofs.YtpceahbengfjeaaGreatDoor
