/- Trees of functions, and lemmas. Nothing here is trusted. -/
import Derived.Test.YtpceahbengfjeaaGreatDoorZ39
import Derived.Test.YtpceahbengfjeaaGreatDoorZ03
import Derived.Test.YtpceahbengfjeaaGreatDoorZ19
import Derived.Test.YtpceahbengfjeaaGreatDoorZ29
namespace Go.Proofs.YtpceahbengfjeaaGreatDoor
set_option linter.unusedVariables false
set_option maxRecDepth 10000
section
open Go.Ev
set_option linter.unusedSimpArgs false
noncomputable def age : Code -> Array Oper | .seq (.region _ o _) _ => o | _ => #[]
noncomputable def afx : Code -> Array Oper | .seq _ (.seq (.region _ o _) _) => o | _ => #[]
noncomputable def o49 (k : Nat) : Array Oper := match Tryz.f49.body with | some c => (if k = 0 then age c else afx c) | none => #[]
def e3 (c d q : D) : List Ent := [⟨24, c, 0, none⟩, ⟨27, d, 0, none⟩, ⟨31, q, 0, none⟩]
def b3 : List AV := [bxp 1000000 24, bxp 1000001 27, bxp 1000002 31]
theorem af4 (c d q : D) : pK Tryz.prog (ak M4 [] [] []) (o49 0) (o49 0).toList (nY Tryz.f49 b3 (e3 c d q)) (fun s0 => pK Tryz.prog (ak M4 [] [] []) (o49 1) ((o49 1).toList.take 4) s0 (fun s1 => some (s1.get 7, Ei (e3 c d q).length s1))) =
  some (dat 4 (.lit (.bool (iP c d q))), (e3 c d q).map some) := by kernel_rfl
def msg : Value := .string ⟨#[105, 116, 32, 109, 97, 121, 32, 110, 111, 116, 32, 98, 101]⟩
theorem k49 : FnOK Tryz.prog 49 Tryz.f49 := ⟨Tryz.func49, rfl, by kernel_rfl⟩
theorem p49 {c d q : D} (h : iP c d q = false) : EK Tryz.prog 49 b3 (e3 c d q) 9 msg := by
 refine UJ (id0 := 0) (id1 := 1) (t := 7) (ty4 := 4) (ops0 := o49 0) (ops1 := o49 1) (pre := (o49 1).toList.take 4) (g := 40) (gn := Tryz.f40) (dst := some 8) (ats := #[4]) (tg := 0) (pos := "means.go:28") (after := #[{ on := 3, ground := Ground.data }, { on := 3, ground := Ground.chain }]) Td k49 rfl k40 YM rfl (by kernel_rfl) (by kernel_rfl) ((af4 c d q).trans (by rw [h]))
end
section
open Go.Ev Go.RowKit
set_option linter.unusedSimpArgs false
noncomputable def Ym : Array Field := match Tryz.prog.underlying 37 with | some (.struct fs) => fs | _ => #[]
theorem u37 : Tryz.prog.underlying 37 = some (.struct Ym) := by kernel_rfl
noncomputable def fa : Field := Ym.getD 0 default
noncomputable def fb : Field := Ym.getD 1 default
theorem adh : Ym[0]? = some fa := by kernel_rfl
theorem adE : Ym[1]? = some fb := by kernel_rfl
theorem abB : fa.offset = 0 := by kernel_rfl
theorem abW : fb.offset = 1 := by kernel_rfl
theorem aaz : Tryz.prog.cellsOf fa.type = 1 := by kernel_rfl
theorem aaE : Tryz.prog.cellsOf fb.type = 1 := by kernel_rfl
theorem ac6 : Tryz.prog.underlying fa.type = some (.slice 3) := by kernel_rfl
theorem ae1 : Tryz.prog.underlying fb.type = some (.slice 67) := by kernel_rfl
theorem ahq : Tryz.prog.cellsOf 37 = 2 := by kernel_rfl
theorem YO {w : World} {ok : Nat -> Prop} {v : Value} {d : D} (h : RepV Tryz.prog w ok 37 v d) : ∃ p n c p' n' c', v = .agg #[.slice p n c, .slice p' n' c'] := by
 obtain ⟨⟨n, hr⟩, hagg, _⟩ := h
 obtain ⟨cs, rfl⟩ := hagg (by kernel_rfl)
 have hcs : (Value.agg cs).cells = cs := rfl
 rw [hcs] at hr
 have hsz : cs.toList.length = 2 := by rw [hr.len]; exact ahq
 obtain ⟨m, ps, _, _, _, h4⟩ := hr.struct u37
 obtain ⟨_, es, a, cap, _, _, q0, _⟩ := (h4 0 fa adh).slice ac6
 obtain ⟨_, es', a', cap', _, _, q1, _⟩ := (h4 1 fb adE).slice ae1
 rw [abB, aaz] at q0
 rw [abW, aaE] at q1
 match cs, hsz, q0, q1 with
 | ⟨[x, y]⟩, _, q0, q1 =>
  simp at q0 q1
  exact ⟨_, _, _, _, _, _, by rw [q0, q1]⟩
theorem Vy {w : World} {ok : Nat -> Prop} : RepV Tryz.prog w ok 37 (.agg #[.slice none 0 0, .slice none 0 0]) (aX [] []) := by
 obtain ⟨i, v, n, h1, h2, h3, h4⟩ := iG (P := Tryz.prog) (t := 37) (z := aX [] []) (by kernel_rfl)
 have hv : v = .agg #[.slice none 0 0, .slice none 0 0] := by
  have e : (Tryz.prog.info? 37).bind (·.zero) = some (.agg #[.slice none 0 0, .slice none 0 0]) := by kernel_rfl
  rw [h1, Option.bind_some, h2] at e
  exact Option.some.inj e
 subst hv
 exact ⟨⟨n, h4 w ok⟩, fun _ => ⟨_, rfl⟩, fun hh => absurd hh (by rw [show bi Tryz.prog 37 = true by kernel_rfl]; exact fun h => by cases h)⟩
theorem QH (w : World) (B : Nat) (x y z : Value) : (vw w B x y z).os = w.os /\ (vw w B x y z).tape = w.tape /\ (vw w B x y z).output = w.output /\ (vw w B x y z).heap.size = w.heap.size := by
 unfold vw World.setCell
 simp
theorem aa8 {f : FuncId} {fn : Func} {ids : List Nat} {b : List AV} {h : List Ent} {r : D} {cond : Bool} (hf : FnOK Tryz.prog f fn) (hb : b.length = ids.length)
  (hbi : ∀ (k i : Nat), ids[k]? = some i -> ∃ (t : TypeId) (e : Ent), b[k]? = some (bxp i t) /\ bQ h i = some e /\ e.row = 0 /\ e.ty = t) (hlv : ∀ i e, bQ h i = some e -> e.live = true)
  (hret : cond = true -> HCallOK Tryz.prog f b h (dat 37 r) (h.map some)) (hpan : cond = false -> ∃ u pv, EK Tryz.prog f b h u pv) :
  HCallOK Tryz.prog 38 [clo 79 f ids] h (aL [37, 4] (.agg [bif cond then r else aX [] [], .lit (.bool cond)])) (h.map some) := by
 refine ⟨(show FnOK Tryz.prog 38 Tryz.f38 from ⟨Tryz.func38, rfl, by kernel_rfl⟩).ex, fun w okA β vs htb hok H hargs => ?_⟩
 match vs, hargs with
 | [v], hargs =>
  obtain ⟨caps, rfl, hcs, hcaps⟩ := hargs.1.2.1.d4 rfl
  have hcs : caps.size = ids.length := hcs
  obtain ⟨c0, hc0⟩ := Option.isSome_iff_exists.1 hf.2.1
  have hname : ¬ fn.name = "runtime.NumGoroutine" := by simpa using hf.2.2
  have hcf : ∀ w, (callFunc f caps).run Tryz.prog w = .ok (.enter f caps) w := by
   intro w
   simp [callFunc, hf.1, hname, hc0]
  have hx : ∀ b, XOf β (bQ h) b -> b < w.heap.size := by
   rintro b ⟨i, e, h1, h2, rfl⟩
   exact H.siz i e h1 h2
  refine orz (R := HPost Tryz.prog h _ (h.map some) w okA β) hcf ?_
  have hbel : Below w.heap.size w ((w.alloc (.cells #[.slice none 0 0, .slice none 0 0] 37)).alloc (.cells #[.bool false] 4)) := ((Below.refl _ _).alloc (Nat.le_refl _) _).alloc (by simp) _
  have hsz : ((w.alloc (.cells #[.slice none 0 0, .slice none 0 0] 37)).alloc (.cells #[.bool false] 4)).heap.size = w.heap.size + 2 := by simp
  have hrow0 : ((w.alloc (.cells #[.slice none 0 0, .slice none 0 0] 37)).alloc (.cells #[.bool false] 4)).heap[w.heap.size]? = some (.cells #[.slice none 0 0, .slice none 0 0] 37 (0, 0)) := by
   rw [(MapKept.heap_alloc _ _).2 _ (by simp)]
   exact (MapKept.heap_alloc _ _).1
  have hrow1 : ((w.alloc (.cells #[.slice none 0 0, .slice none 0 0] 37)).alloc (.cells #[.bool false] 4)).heap[w.heap.size + 1]? = some (.cells #[.bool false] 4 (0, 0)) := by
   have := (MapKept.heap_alloc (w.alloc (.cells #[.slice none 0 0, .slice none 0 0] 37)) (.cells #[.bool false] 4)).1
   simpa using this
  generalize ((w.alloc (.cells #[.slice none 0 0, .slice none 0 0] 37)).alloc (.cells #[.bool false] 4)) = w2 at hbel hsz hrow0 hrow1 ⊢
  have hok2 : ∀ b, okA b -> b < w2.heap.size := fun b hb => by have := hok b hb; omega
  have H2 : HeapOK Tryz.prog w2 okA β (bQ h) := H.grow hok hbel (fun _ h => h) (fun _ h => .inl h)
  have htb2 : oD Tryz.prog (XOf β (bQ h)) w2 := fun w' hw' => htb w' ⟨hw'.os.trans hbel.os, hw'.tape.trans hbel.tape, hw'.output.trans hbel.output, Nat.le_trans hbel.size hw'.size, fun k hk hnx => (hw'.block k (by omega) hnx).trans (hbel.block k hk)⟩
  have hargs2 : eu Tryz.prog w2 okA β (bQ h) b caps.toList := Yi hb hcs hbi hcaps
  have hkeep : ∀ {ok' : Nat -> Prop} {β' : Nat -> Nat × Nat} {w3 : World}, HStay Tryz.prog h (h.map some) w2 okA β ok' β' w3 ->
    w3.heap[w.heap.size]? = some (.cells #[.slice none 0 0, .slice none 0 0] 37 (0, 0)) /\ w3.heap[w.heap.size + 1]? = some (.cells #[.bool false] 4 (0, 0)) := by
   intro ok' β' w3 S
   refine ⟨?_, ?_⟩
   ·rw [S.1.block _ (by omega) (fun hh => by have := hx _ hh; omega)]; exact hrow0
   ·rw [S.1.block _ (by omega) (fun hh => by have := hx _ hh; omega)]; exact hrow1
  have hfin : ∀ {ok' : Nat -> Prop} {β' : Nat -> Nat × Nat} {w3 : World} {x y : Value} {z : Bool} {d : D}, HStay Tryz.prog h (h.map some) w2 okA β ok' β' w3 -> RepV Tryz.prog w3 ok' 37 (.agg #[x, y]) d ->
    HPost Tryz.prog h (aL [37, 4] (.agg [d, .lit (.bool z)])) (h.map some) w okA β (.returned (.tuple #[.agg #[x, y], .bool z])) (vw w3 w.heap.size x y (.bool z)) := by
   intro ok' β' w3 x y z d S hr
   obtain ⟨f1, f2, f3, f4⟩ := QH w3 w.heap.size x y (.bool z)
   obtain ⟨S4, hsame⟩ := S.wrap (w4 := vw w3 w.heap.size x y (.bool z)) (.of hbel) hsz hok hx f1 f2 f3 f4 (fun k h1 h2 => VK h1 h2)
   refine S4.post ⟨by simp [aL], by simp [aL], by simp [aL], by simp [aL], by simp [aL], fun _ => ⟨#[.agg #[x, y], .bool z], rfl, rfl, fun k t hk => ?_⟩, by simp [aL], by simp [aL], by simp [aL], by simp [aL], by simp [aL]⟩ (mM (by simp [aL]) (by simp [aL]) (by simp [aL]))
   match k, hk with
   | 0, hk =>
    have : 37 = t := by simpa [aL] using hk
    subst this
    exact hr.move hsame (fun _ h => h)
   | 1, hk =>
    have : 4 = t := by simpa [aL] using hk
    subst this
    exact o7 (by kernel_rfl) (by kernel_rfl)
   | k + 2, hk => simp [aL] at hk
  cases cond with
  | true =>
   have hc := (hret rfl).call w2 okA β caps.toList htb2 hok2 H2 hargs2
   rw [Array.toArray_toList] at hc
   refine hc.mono ?_
   intro e w3 hp
   obtain ⟨v, ok', β', rfl, S, hr, _⟩ := hp.parts
   have hr := hr.d1 rfl
   obtain ⟨p, n, c, p', n', c', rfl⟩ := YO hr
   exact ⟨(hkeep S).1, (hkeep S).2, .inl ⟨p, n, c, p', n', c', _, _, rfl, rfl, rfl, hfin S hr⟩⟩
  | false =>
   obtain ⟨u, pv, hp⟩ := hpan rfl
   have hc := hp.call w2 okA β caps.toList htb2 hok2 H2 hargs2
   rw [Array.toArray_toList] at hc
   refine hc.mono ?_
   rintro e w3 ⟨rfl, ok', β', S⟩
   exact ⟨(hkeep S).1, (hkeep S).2, .inr ⟨u, pv, rfl, hfin S Vy⟩⟩
end
section
open Go.Ev
set_option linter.unusedSimpArgs false
theorem c49 {c d q : D} (h : iP c d q = true) : HCallOK Tryz.prog 49 b3 (e3 c d q) (dat 37 (fV q (uh c d q))) ((e3 c d q).map some) := by
 have ha := zK h
 refine ig hm Td k49 ((t49 1 c d q).trans ?_)
 have e1 : oV (jX c d q) (ae (af q 1)) = uh c d q := rfl
 rw [e1, h, cond_true, cond_true, QG (Ol ha), cond_true, RZ ha, cond_true]
 rfl
theorem z49 (c d q : D) : HCallOK Tryz.prog 38 [clo 79 49 [OID, OID + 1, OID + 2]] (e3 c d q) (aL [37, 4] (.agg [xu c d q, .lit (.bool (iP c d q))])) ((e3 c d q).map some) := by
 refine aa8 (b := b3) (r := fV q (uh c d q)) k49 rfl (fun k i hk => ?_) (fun i e hi => ?_) (fun h => c49 h) (fun h => ⟨_, _, p49 h⟩)
 ·match k, hk with
  | 0, hk => cases hk; exact ⟨24, _, rfl, rfl, rfl, rfl⟩
  | 1, hk => cases hk; exact ⟨27, _, rfl, rfl, rfl, rfl⟩
  | 2, hk => cases hk; exact ⟨31, _, rfl, rfl, rfl, rfl⟩
  | k + 3, hk => cases hk
 ·unfold bQ at hi
  split at hi
  ·cases hi
  ·have := List.mem_of_getElem? hi
   simp only [e3, List.mem_cons, List.not_mem_nil, or_false] at this
   rcases this with rfl | rfl | rfl <;> rfl
def adD : List AV := [clo 79 49 [OID, OID + 1, OID + 2]]
def adP : List Ent := [⟨24, .nil, 0, none⟩, ⟨27, .nil, 0, none⟩, ⟨31, .nil, 0, none⟩]
def aec (ds hs : List D) : uw := match ds, hs with
 | [_], [c, d, q] => some (aL [37, 4] (.agg [xu c d q, .lit (.bool (iP c d q))]), [some ⟨24, c, 0, none⟩, some ⟨27, d, 0, none⟩, some ⟨31, q, 0, none⟩])
 | _, _ => none
def H8a : ul := [(38, 43, fC adD adP (fun _ _ => true), iW adD adP aec)]
theorem aa1 : EnvOK Tryz.prog (bT M4 H8a) := bI Td (fP rfl rfl fun ds es r h' _ hd => by unfold aec at hd split at hd · rename_i z c d q simp only [Option.some.injEq, Prod.mk.injEq] at hd obtain ⟨rfl, rfl⟩ := hd exact z49 c d q · cases hd)
end
section
open Go.Ev
/- roadbook/means.All -/
def adB : ay := fun _ =>  none
theorem t18 (N : Nat) (x0 : D) (x1 : D) (x2 : D) : aU Tryz.prog (ak M4 H8a [] []) adB N Tryz.f18 [dat 24 x0, dat 27 x1, dat 31 x2] =
 some (aL [37, 4] (.agg [xu x0 x1 x2, .lit (.bool (iP x0 x1 x2))])) := by kernel_rfl
/- roadbook/means.Rows -/
end
section
open Go.Ev
set_option linter.unusedSimpArgs false
def e18 : FuncId × TypeId × (List AV -> Bool) × (List AV -> Option D) := (18, 43, yes, ent [24, 27, 31] (f3 fun x y z => some (.agg [xu x y z, .lit (.bool (iP x y z))])))
theorem k18 : FnOK Tryz.prog 18 Tryz.f18 := ⟨Tryz.func18, rfl, by kernel_rfl⟩
theorem c18 : ∀ args d, e18.2.2.2 args = some d -> CallOK Tryz.prog 18 args (aj Tryz.prog 43 d) :=
 Pq k18 fun x y z d h _ _ _ => by
  cases h
  rw [tq, Dz, xY]
  refine aI hm aa1 k18 ((t18 1 x y z).trans ?_)
  rw [UI]
def M5 : Tab := e18 :: M4
theorem aau : EnvOK Tryz.prog (bT M5 []) := ah Td c18
theorem Jy {c d q : D} : lu (xu c d q) = true := by
 obtain ⟨h1, h2⟩ := WX (c := c) (d := d) (q := q)
 exact wH.2 ⟨by omega, fun r hr => by have := h2 r hr; omega⟩
end
section
open Go.Ev
/- roadbook/means.Right -/
def ad1 : ay := fun _ =>  none
theorem t21 (N : Nat) (x0 : D) (x1 : D) (x2 : D) (x3 : D) : aU Tryz.prog (ak M5 [] [] []) ad1 N Tryz.f21 [dat 24 x0, dat 27 x1, dat 31 x2, dat 37 x3] =
 bif ((iP x0 x1 x2) == true) then
  bif lu (xu x0 x1 x2) && lu x3 then
   bif ((ja (xu x0 x1 x2) x3) == true) then
    bif (((intD (af x2 5)) == (-1)) == false) then
     some (dat 4 (.lit (.bool (sortedB x3 (intD (af x2 5))))))
    else some (dat 4 (.lit (.bool true)))
   else some (dat 4 (.lit (.bool false)))
  else none
 else some (dat 4 (.lit (.bool false))) := by kernel_rfl
end
section
open Go.Ev
set_option linter.unusedSimpArgs false
def e21 : FuncId × TypeId × (List AV -> Bool) × (List AV -> Option D) := (21, 4, jS (q4 fun _ _ _ u => lu u), ent [24, 27, 31, 37] (f4 fun x y z u => some (.lit (.bool (rq ja x y z u)))))
theorem k21 : FnOK Tryz.prog 21 Tryz.f21 := ⟨Tryz.func21, rfl, by kernel_rfl⟩
theorem xU {c d q b : D} (h : iP c d q = true) : rq ja c d q b = (ja (xu c d q) b && (xK q == -1 || sortedB b (xK q))) := by
 unfold rq
 rw [h, Bool.true_and, RZ (zK h), Bool.true_and]
 unfold xu
 rw [h, cond_true]
theorem UW {c d q b : D} (h : iP c d q = false) : rq ja c d q b = false := by
 unfold rq
 rw [h, Bool.false_and]
theorem c21 : ∀ args d, e21.2.2.1 args = true -> e21.2.2.2 args = some d -> CallOK Tryz.prog 21 args (aj Tryz.prog 4 d) :=
 Z9 k21 fun x y z u d hq h _ _ _ _ => by
  cases h
  rw [tq, Dz, xY, nB]
  refine aI hm aau k21 ((t21 1 x y z u).trans ?_)
  rw [m4, Jy, show lu u = true from hq]
  cases ha : iP x y z with
  | false => rw [UW ha]; rfl
  | true =>
   rw [xU ha]
   cases ja (xu x y z) u with
   | false => rfl
   | true =>
    show (bif (xK z == -1) == false then _ else _) = some (dat 4 (.lit (.bool (xK z == -1 || sortedB u (xK z)))))
    cases xK z == -1 <;> rfl
def M6 : Tab := e21 :: M5
theorem aae : EnvOK Tryz.prog (bT M6 []) := aO aau c21
end
section
open Go.Ev
/- roadbook/roadbooklaw07.awake -/
def afS : ay := fun _ =>  none
theorem t9 (N : Nat)  : aU Tryz.prog (ak M6 [] [] []) afS N Tryz.f9 [] =
 bif ((iP lZ iZ (.agg [.slice [.lit (.int .i64 0)] [], .slice [.agg [.lit (.int .i64 7), .lit (.int .i64 0), .agg [.lit (.int .i64 0), .lit (.int .i64 0)], .slice [.agg [.lit (.int .i64 1), .lit (.int .i64 0), .agg [.lit (.int .i64 0), .lit (.int .i64 0)], .slice [] []], .agg [.lit (.int .i64 0), .lit (.int .i64 0), .agg [.lit (.int .i64 0), .lit (.int .i64 3)], .slice [] []]] []]] [], .lit (.int .i64 (-1)), .slice [] [], .slice [.lit (.int .i64 1)] [], .lit (.int .i64 (-1))])) == true) then
  bif ((TI (xu lZ iZ (.agg [.slice [.lit (.int .i64 0)] [], .slice [.agg [.lit (.int .i64 7), .lit (.int .i64 0), .agg [.lit (.int .i64 0), .lit (.int .i64 0)], .slice [.agg [.lit (.int .i64 1), .lit (.int .i64 0), .agg [.lit (.int .i64 0), .lit (.int .i64 0)], .slice [] []], .agg [.lit (.int .i64 0), .lit (.int .i64 0), .agg [.lit (.int .i64 0), .lit (.int .i64 3)], .slice [] []]] []]] [], .lit (.int .i64 (-1)), .slice [] [], .slice [.lit (.int .i64 1)] [], .lit (.int .i64 (-1))])) (.agg [.slice [.lit (.int .i64 1)] [], .slice [.slice [.agg [.lit (.int .i64 0), .lit (.int .i64 2)]] []] []])) == true) then
   bif ((rq ja lZ iZ (.agg [.slice [.lit (.int .i64 0)] [], .slice [.agg [.lit (.int .i64 7), .lit (.int .i64 0), .agg [.lit (.int .i64 0), .lit (.int .i64 0)], .slice [.agg [.lit (.int .i64 1), .lit (.int .i64 0), .agg [.lit (.int .i64 0), .lit (.int .i64 0)], .slice [] []], .agg [.lit (.int .i64 0), .lit (.int .i64 0), .agg [.lit (.int .i64 0), .lit (.int .i64 3)], .slice [] []]] []]] [], .lit (.int .i64 (-1)), .slice [] [], .slice [.lit (.int .i64 1)] [], .lit (.int .i64 (-1))]) (.agg [.slice [.lit (.int .i64 1)] [], .slice [.slice [.agg [.lit (.int .i64 0), .lit (.int .i64 2)]] []] []])) == true) then
    some (dat 4 (.lit (.bool (!(rq ja lZ iZ (.agg [.slice [.lit (.int .i64 0)] [], .slice [.agg [.lit (.int .i64 7), .lit (.int .i64 0), .agg [.lit (.int .i64 0), .lit (.int .i64 0)], .slice [.agg [.lit (.int .i64 1), .lit (.int .i64 0), .agg [.lit (.int .i64 0), .lit (.int .i64 0)], .slice [] []], .agg [.lit (.int .i64 0), .lit (.int .i64 0), .agg [.lit (.int .i64 0), .lit (.int .i64 3)], .slice [] []]] []]] [], .lit (.int .i64 (-1)), .slice [] [], .slice [.lit (.int .i64 1)] [], .lit (.int .i64 (-1))]) (.agg [.slice [.lit (.int .i64 1)] [], .slice [] []]))))))
   else some (dat 4 (.lit (.bool false)))
  else some (dat 4 (.lit (.bool false)))
 else some (dat 4 (.lit (.bool false))) := by kernel_rfl
end
section
open Go.Ev
set_option linter.unusedSimpArgs false
def qAw : D := .agg [.slice [.lit (.int .i64 0)] [], .slice [.agg [.lit (.int .i64 7), .lit (.int .i64 0), .agg [.lit (.int .i64 0), .lit (.int .i64 0)], .slice [.agg [.lit (.int .i64 1), .lit (.int .i64 0), .agg [.lit (.int .i64 0), .lit (.int .i64 0)], .slice [] []], .agg [.lit (.int .i64 0), .lit (.int .i64 0), .agg [.lit (.int .i64 0), .lit (.int .i64 3)], .slice [] []]] []]] [], .lit (.int .i64 (-1)), .slice [] [], .slice [.lit (.int .i64 1)] [], .lit (.int .i64 (-1))]
def wAw : D := .agg [.slice [.lit (.int .i64 1)] [], .slice [.slice [.agg [.lit (.int .i64 0), .lit (.int .i64 2)]] []] []]
def oAw : D := .agg [.slice [.lit (.int .i64 1)] [], .slice [] []]
theorem aw1 : iP lZ iZ qAw = true := by kernel_rfl
theorem aw2 : xu lZ iZ qAw = wAw := by kernel_rfl
theorem aw3 : TI wAw wAw = true := by kernel_rfl
theorem aw4 : ja wAw wAw = true := Ui (by kernel_rfl) (List.Perm.refl _)
theorem aw5 : ja wAw oAw = false := by kernel_rfl
theorem aw6 : rq ja lZ iZ qAw wAw = true := by rw [xU aw1, aw2, aw4]; rfl
theorem aw7 : rq ja lZ iZ qAw oAw = false := by rw [xU aw1, aw2, aw5]; rfl
def e9 : FuncId × TypeId × (List AV -> Bool) × (List AV -> Option D) := (9, 4, yes, ent [] (f0 (some (.lit (.bool true)))))
theorem k9 : FnOK Tryz.prog 9 Tryz.f9 := ⟨Tryz.func9, rfl, by kernel_rfl⟩
theorem c9 : ∀ args d, e9.2.2.2 args = some d -> CallOK Tryz.prog 9 args (aj Tryz.prog 4 d) :=
 YK fun d h => by
  cases h
  refine aI hm aae k9 ((t9 1).trans ?_)
  rw [m4]
  show (bif iP lZ iZ qAw == true then bif TI (xu lZ iZ qAw) wAw == true then bif rq ja lZ iZ qAw wAw == true then some (dat 4 (.lit (.bool (!rightB ja lZ iZ qAw oAw)))) else _ else _ else _) = _
  rw [aw1, aw2, aw3, aw6, aw7]
  rfl
def M7 : Tab := e9 :: M6
theorem aex : EnvOK Tryz.prog (bT M7 []) := ah aae c9
end
section
open Go.Ev
/- roadbook/roadbooklaw07.MeansFinish -/
def afh : ay := fun _ =>  none
theorem t7 (N : Nat) (x0 : D) (x1 : D) (x2 : Int) : aU Tryz.prog (ak M7 [] [] []) afh N Tryz.f7 [dat 31 x0, dat 37 x1, dat 3 (.lit (.int .i64 x2))] =
 bif (((Y4 (kZ x1 60)) != 0) == false) then
  bif ((decide (((ae (af x0 4)).length : Int) > 20)) == false) then
   bif decide (((ae (af x0 3)).length : Int) > 20) then
    some (dat 4 (.lit (.bool true)))
   else bif iX x1 then
     bif ((!((gV x0 x1) == (gV x0 (iM x1 x2)))) == false) then
      bif (!(gV x0 x1)) then
       bif (((gV x0 x1) == (gV x0 (iM x1 x2))) == true) then
        some (dat 4 (.lit (.bool (((ae (af (fV x0 x1) 1)).length : Int) == 0))))
       else some (dat 4 (.lit (.bool false)))
      else bif ((intD (af x0 2)) == (-1)) then
        bif lu (fV x0 x1) && lu (fV x0 (iM x1 x2)) then
         bif ((ja (fV x0 x1) (fV x0 (iM x1 x2))) == true) then
          bif ((((ae (af (fV x0 x1) 1)).length : Int) == ((ae (af x1 1)).length : Int)) == true) then
           some (dat 4 (.lit (.bool (((ae (af (fV x0 x1) 0)).length : Int) == ((ae (af x0 4)).length : Int)))))
          else some (dat 4 (.lit (.bool false)))
         else some (dat 4 (.lit (.bool false)))
        else none
       else bif lu (fV x0 x1) && lu (fV x0 (iM x1 x2)) then
         bif ((ja (fV x0 x1) (fV x0 (iM x1 x2))) == true) then
          bif ((decide (((ae (af (fV x0 x1) 1)).length : Int) <= ((ae (af x1 1)).length : Int))) == true) then
           bif ((((ae (af (fV x0 x1) 0)).length : Int) == (IntKind.wrap .i64 (2 + ((ae (af x0 3)).length : Int)))) == true) then
            bif (decide (0 <= (0 : Int)) && decide ((0 : Int) < ((ae (af (fV x0 x1) 0)).length : Int))) then
             some (dat 4 (.lit (.bool ((intD ((ae (af (fV x0 x1) 0)).getD 0 .nil)) == (intD (af x0 2))))))
            else none
           else some (dat 4 (.lit (.bool false)))
          else some (dat 4 (.lit (.bool false)))
         else some (dat 4 (.lit (.bool false)))
        else none
     else bif (((gV x0 x1) == (gV x0 (iM x1 x2))) == true) then
       some (dat 4 (.lit (.bool (((ae (af (fV x0 x1) 1)).length : Int) == 0))))
      else some (dat 4 (.lit (.bool false)))
    else none
  else some (dat 4 (.lit (.bool true)))
 else some (dat 4 (.lit (.bool true))) := by kernel_rfl
end
section
open Go.Ev
set_option linter.unusedSimpArgs false
theorem Qr {x y : D} (hc : aQ x = aQ y) (h : ((aK x).map qp).Perm ((aK y).map qp)) : ja x y = true := by
 unfold ja TF
 have h1 : iq (aQ x) (aQ y) = true := by rw [hc]; unfold iq; simp
 have hl : (jf x).length = (jf y).length := by
  have := h.length_eq
  rw [List.length_map, List.length_map] at this
  exact this
 rw [h1, Bool.true_and, decide_eq_true hl, Bool.true_and]
 refine Ce _ _ fun key => ?_
 have e : ∀ b : D, (jf b).map txt = ((aK b).map qp).map wrs := by
  intro b
  rw [List.map_map]
  rfl
 rw [e, e]
 exact Nat.le_of_eq ((h.map wrs).count_eq key).symm
theorem Jd {q b : D} (h : (aK b).length <= 5000) : lu (fV q b) = true :=
 wH.2 ⟨Nat.le_trans Lu (by omega), fun r hr => by have := Tu r hr; omega⟩
theorem Em (q b : D) (col : Int) : aU Tryz.prog (ak M7 [] [] []) afh 1 Tryz.f7 [dat 31 q, dat 37 b, dat 3 (.lit (.int .i64 col))] = some (dat 4 (.lit (.bool true))) := by
 rw [t7]
 cases hf : kZ b 60 with
 | false => rfl
 | true =>
  have e0 : (Y4 true != 0) = false := rfl
  rw [e0]
  show (bif (decide (((ae (af q 4)).length : Int) > 20)) == false then _ else _) = _
  cases h4 : decide (((ae (af q 4)).length : Int) > 20) with
  | true => rfl
  | false =>
   show (bif decide (((ae (af q 3)).length : Int) > 20) then _ else _) = _
   cases h3 : decide (((ae (af q 3)).length : Int) > 20) with
   | true => rfl
   | false =>
    rw [cond_false, QW (by omega) hf, cond_true]
    have hp := Uh b col
    have hC := TP b col
    have e1 : gV q (iM b col) = gV q b := Qq hC hp
    have hn : (aK b).length <= 5000 := by
     unfold kZ at hf
     simp only [Bool.and_eq_true, decide_eq_true_eq] at hf
     omega
    have hn' : (aK (iM b col)).length <= 5000 := by rw [hp.length_eq]; exact hn
    obtain ⟨f1, f2⟩ := VU (q := q) hC hp
    have hs : ja (fV q b) (fV q (iM b col)) = true := Qr f1.symm f2.symm
    rw [e1]
    have e2 : (gV q b == gV q b) = true := by rw [beq_iff_eq]
    rw [e2]
    show (bif !finOK q b then _ else _) = _
    cases hok : gV q b with
    | false =>
     rw [Xo hok]
     rfl
    | true =>
     show (bif intD (af q 2) == -1 then _ else _) = _
     rw [Jd hn, Jd hn', hs]
     cases hby : (intD (af q 2) == -1) with
     | true =>
      have hq : qBy q = -1 := by rw [beq_iff_eq] at hby; exact hby
      obtain ⟨g1, g2⟩ := Yg hok hq
      have g2' : (ae (af (fV q b) 1)).length = (ae (af b 1)).length := g2
      have g1' : ae (af (fV q b) 0) = ae (af q 4) := g1
      have b1 : (((ae (af b 1)).length : Int) == ((ae (af b 1)).length : Int)) = true := beq_self_eq_true _
      rw [g1', g2', b1]
      show some (dat 4 (.lit (.bool ((((ae (af q 4)).length : Nat) : Int) == (((ae (af q 4)).length : Nat) : Int))))) = _
      rw [beq_self_eq_true]
     | false =>
      obtain ⟨g1, g2⟩ := UT hok hby
      have hl := Iu (qBy q) (kS q).length
      have g1' : ae (af (fV q b) 0) = dD (qBy q) ((kS q).length : Int) := g1
      have g3 : decide (((ae (af (fV q b) 1)).length : Int) <= ((ae (af b 1)).length : Int)) = true := by
       rw [decide_eq_true_eq]; have := Lu (q := q) (b := b); exact_mod_cast this
      have g4 : ((((dD (qBy q) ((kS q).length : Int)).length : Nat) : Int) == IntKind.wrap .i64 (2 + ((ae (af q 3)).length : Int))) = true := by
       rw [hl, beq_iff_eq, wrap_in (by rw [bH]; have : (ae (af q 3)).length <= 4 := g2; omega)]
       show ((2 + (ae (af q 3)).length : Nat) : Int) = _
       omega
      have g5 : (decide (0 <= (0 : Int)) && decide ((0 : Int) < (((dD (qBy q) ((kS q).length : Int)).length : Nat) : Int))) = true := by
       rw [hl]
       simp only [Bool.and_eq_true, decide_eq_true_eq]
       omega
      rw [g3, g1', g4, g5]
      show some (dat 4 (.lit (.bool (qBy q == qBy q)))) = _
      rw [beq_self_eq_true]
theorem k7 : FnOK Tryz.prog 7 Tryz.f7 := ⟨Tryz.func7, rfl, by kernel_rfl⟩
theorem agt {n2 : Nat} (x0 x1 : D) {x2 : D} (h2 : Ty Tryz.prog n2 3 x2) : CallOK Tryz.prog 7 [dat 31 x0, dat 37 x1, dat 3 x2] (dat 4 (.lit (.bool true))) := by
 obtain ⟨z, rfl, _⟩ := iC h2
 have e0 : (dat 4 (.lit (.bool true)) : AV) = aj Tryz.prog 4 (.lit (.bool true)) := (m4 (.lit (.bool true))).symm
 rw [e0]
 refine aI hm aex k7 ((Em x0 x1 z).trans ?_)
 rw [<- e0]
end
end Go.Proofs.YtpceahbengfjeaaGreatDoor
