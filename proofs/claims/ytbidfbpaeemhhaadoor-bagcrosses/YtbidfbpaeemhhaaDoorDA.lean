/- strconv.AppendInt at base 10, as the shelf has it, at this program. Nothing here is trusted. -/
import Derived.Shelf.Strconv.AppendIntPublic10
import Derived.Shelf.Lay
import Derived.Ground.NamesProg
import Derived.Test.YtbidfbpaeemhhaaDoorProg
import Derived.Lib.AppendIntMem
import Derived.Lib.ItoaLen
import Derived.Lib.Slices
import Derived.Lib.Hide
import Derived.Laws.IdiomStrings
import Derived.OwnWalk
import Derived.WalkKit
import Derived.BigCall
import Derived.Laws.BytesArg
import Derived.Maps.Own
import Derived.Maps.OwnOps
import Derived.Maps.Views
import Derived.Test.YtbidfbpaeemhhaaDoorEv12
import Derived.Test.YtbidfbpaeemhhaaDoorV1
namespace Go.Proofs
open Go.Shelf
shelf_lay LaysM.n176 Nm 176 at Tryd as Tryd.laysAILaysM176
theorem Tryd.appendInt_laid (B n : Nat) (i : Int) (h0 : -9223372036854775808 ≤ i) (h1 : i ≤ 9223372036854775807) (sv : Value) (xs : List Value) (w : World) (hown : w.ownsRow B 5 1 sv n xs) (hBw : B ≤ w.heap.size) (hlim : n + 21 ≤ 140737488355328)
    (htab : Lib.TabBelow Tryd.prog B w "internal/strconv.uint64pow10" .u64 Lib.pow10Tab) :
    Calls Tryd.prog 46 #[sv, .int .i64 i, .int .i64 10] w fun e w' => ∃ v', e = .returned v' ∧ w'.ownsRow B 5 1 v' (n + (Lib.itoa i).length) (xs ++ Lib.byteCells (Lib.itoa i)) ∧ RowKit.Below B w w' ∧ Lib.OthersKept 5 none w w' := Any.strconv_AppendInt_10 Tryd.laysAILaysM176 B n i h0 h1 sv xs w hown hBw hlim htab
end Go.Proofs

namespace Go.Proofs.YtbidfbpaeemhhaaDoor
open Go.Shelf Go.RowKit
set_option linter.unusedVariables false

theorem infoByte : (Tryd.prog.info? 5).map (fun i => (i.zero, i.size, i.bytes)) = some (some (.int .u8 0), 1, 1) := by kernel_rfl
/-- A value as it is written. -/
def wr1 (p : Int × Int) : List UInt8 := Lib.itoa p.1 ++ 32 :: (Lib.itoa p.2 ++ [44])
def wrs (l : List (Int × Int)) : List UInt8 := l.flatMap wr1
def inI (z : Int) : Prop := -9223372036854775808 ≤ z ∧ z ≤ 9223372036854775807
theorem wr1_len {p : Int × Int} (h1 : inI p.1) (h2 : inI p.2) : (wr1 p).length ≤ 44 := by
  have la := Lib.itoa_length_le p.1 h1.1 h1.2
  have lb := Lib.itoa_length_le p.2 h2.1 h2.2
  simp [wr1]; omega
theorem wrs_len : ∀ {l : List (Int × Int)}, (∀ p ∈ l, inI p.1 ∧ inI p.2) → (wrs l).length ≤ 44 * l.length
  | [], _ => by simp [wrs]
  | p :: l, h => by
    have h1 := wr1_len (h p (by simp)).1 (h p (by simp)).2
    have h2 := wrs_len (l := l) (fun q hq => h q (by simp [hq]))
    simp only [wrs, List.flatMap_cons, List.length_append, List.length_cons] at h2 ⊢
    omega
theorem wrs_snoc (l : List (Int × Int)) (p : Int × Int) : wrs (l ++ [p]) = wrs l ++ wr1 p := by simp [wrs]
theorem take_snoc (l : List (Int × Int)) (k : Nat) (h : k < l.length) : l.take (k + 1) = l.take k ++ [l.getD k (0, 0)] := by
  rw [List.take_add_one]
  simp [List.getElem?_eq_getElem h, List.getD]

theorem row_type {w : World} {base : Nat} {e : TypeId} {size : Nat} {v : Value} {n : Nat} {xs : List Value} (h : w.ownsRow base e size v n xs) : ∀ g, v.ownBlock = some g → ∃ c fz, w.heap[g]? = some (.cells c e fz) := by
  intro g hg
  rcases h.2 with ⟨rfl, _⟩ | ⟨g', cap, cur, rfl, _, hh, _⟩
  · cases hg
  · cases hg
    exact ⟨cur, (0, 0), hh⟩

theorem conv_own {P : Program} {w : World} {base src dst e : Nat} {v : Value} {l : List UInt8} (hs : P.underlying src = some (.slice e)) (he : P.underlying e = some (.int .u8)) (hd : P.underlying dst = some .string) (h : w.ownsRow base e 1 v l.length (Lib.byteCells l)) :
    (convert src dst v).run P w = .ok (.string ⟨l.toArray⟩) w := by
  rcases h.2 with ⟨rfl, h0⟩ | ⟨g, cap, cur, rfl, _⟩
  · have : l = [] := List.eq_nil_of_length_eq_zero h0
    subst this
    exact run_convert_bytes_nil w src e hs he 0 0 dst hd
  · exact run_convert_bytes_back (P := P) w src dst e ⟨g, 0, none⟩ cap l hs he hd (fun j hj => h.cells (g := g) rfl j _ (by simp [Lib.byteCells, hj]))

set_option maxHeartbeats 6400000 in
set_option maxRecDepth 100000 in
theorem written_any (a : Option Addr) (len cap : Nat) (vs : List (Int × Int)) (w : World) (hlen : vs.length = len) (hsm : len ≤ 1000000) (hin : ∀ p ∈ vs, inI p.1 ∧ inI p.2)
    (hA : 0 < len → ∃ b off, a = some ⟨b, off, none⟩ ∧ b < w.heap.size ∧ (∀ j, j < len → w.cell? ⟨b, off + j * 2, none⟩ = some (.int .i64 (vs.getD j (0, 0)).1)) ∧ (∀ j, j < len → w.cell? ⟨b, off + j * 2 + 1, none⟩ = some (.int .i64 (vs.getD j (0, 0)).2)))
    (hT : Lib.TabBelow Tryd.prog w.heap.size w "internal/strconv.uint64pow10" .u64 Lib.pow10Tab) :
    Calls Tryd.prog 28 #[.slice a len cap] w fun e w' => e = .returned (.string ⟨(wrs vs).toArray⟩) ∧ Below w.heap.size w w' := by
  obtain ⟨i0, hi, hz0, hz1, hz2⟩ := info_parts infoByte
  go_enter Tryd.func28, Tryd.ntmps28
  go_wp2
  go_loopw [3, 8] (fun t i wr => ∃ k : Nat, k ≤ len ∧ i = .int .i64 k ∧ wr.ownsRow w.heap.size 5 1 t (wrs (vs.take k)).length (Lib.byteCells (wrs (vs.take k))) ∧ Below w.heap.size w wr)
    (fun t i _ => len - (intOf i).toNat)
  case atStart => exact ⟨0, Nat.zero_le _, rfl, by simpa [wrs, Lib.byteCells] using World.ownsRow_nil w w.heap.size 5 1, Below.refl _ _⟩
  case round =>
    obtain ⟨k, hk, rfl, hown, hnx⟩ := hrel
    by_cases hlt : k < len
    · obtain ⟨b, off, rfl, hb, hc0, hc1⟩ := hA (by omega)
      obtain ⟨p, q, hpq⟩ : ∃ p q, vs.getD k (0, 0) = (p, q) := ⟨_, _, rfl⟩
      have hx0 : k < len → wr.cell? ⟨b, off + k * 2, none⟩ = some (.int .i64 p) := fun h => (hnx.cell (by exact hb)).trans ((hc0 k h).trans (by rw [hpq]))
      have hx1 : k < len → wr.cell? ⟨b, off + k * 2 + 1, none⟩ = some (.int .i64 q) := fun h => (hnx.cell (by exact hb)).trans ((hc1 k h).trans (by rw [hpq]))
      have hpi : k < len → inI p ∧ inI q := fun h => by
        have := hin (vs.getD k (0, 0)) (by rw [List.getD_eq_getElem?_getD, List.getElem?_eq_getElem (by omega)]; exact List.getElem_mem _)
        rw [hpq] at this
        exact this
      have HPQ := Lib.hid hpq
      clear hpq
      go_wp2_with (go_at_call 46; refine Hid.out ?_)
      refine Lib.hid ?_
      obtain ⟨pi, qi⟩ := hpi hlt
      have hL0 := wrs_len (l := vs.take k) (fun z hz => hin z (List.mem_of_mem_take hz))
      rw [List.length_take, Nat.min_eq_left (by omega)] at hL0
      have la := Lib.itoa_length_le p pi.1 pi.2
      have lb := Lib.itoa_length_le q qi.1 qi.2
      have hs0 := hnx.size
      obtain ⟨A, hA⟩ : ∃ A, A = wrs (vs.take k) := ⟨_, rfl⟩
      rw [← hA] at hown hL0
      have HA := Lib.hid hA
      clear hA
      have hnx0 : Below w.heap.size w (wr.alloc (.cells #[.int .i64 p, .int .i64 q] 39)) := hnx.alloc (by omega) _
      have hbox0 : (wr.alloc (.cells #[.int .i64 p, .int .i64 q] 39)).heap[wr.heap.size]? = some (.cells #[.int .i64 p, .int .i64 q] 39 (0, 0)) := heap_alloc_new wr _
      refine (Tryd.appendInt_laid w.heap.size _ p pi.1 pi.2 u3 _ _ (hown.alloc _) (by simp; omega) (by omega) (hT.on hnx0)).mono ?_
      rintro e w1 ⟨v1, rfl, hown1, hnx1, hok1⟩
      have hbox1 := hok1 _ _ hbox0 (by simp) (by intro c fz h; simp at h)
      have hnx1' := hnx0.trans hnx1
      have hs1 := hnx1'.size
      go_wp2_with (at_builtin; refine wpList_append_own _ rfl _ _ 72 rfl w.heap.size 5 i0 (.int .u8 0) 1 1 Tryd.underlying72 hi hz0 hz1 hz2 rfl (by decide) _ _ _ rfl (hown1.alloc _) ⟨w1.heap.size, 0, none⟩ 1 1 [Value.int .u8 32] rfl rfl (by intro j u' hj; match j, hj with | 0, hj => simp at hj; subst hj; simp [Addr.add]) (by intro u' hu'; simp at hu'; subst hu'; rfl) (by unfold maxLen; omega) (by omega) (by simp; omega) ?_)
      intro v2 w2 hown2 hgrow2 _
      have hok2 : Lib.OthersKept 5 none (wr.alloc (.cells #[.int .i64 p, .int .i64 q] 39)) w2 := (hok1.alloc _).grown hgrow2 (row_type (hown1.alloc _))
      have hbox2 := hok2 _ _ hbox0 (by simp) (by intro c fz h; simp at h)
      have hnx2 : Below w.heap.size w w2 := (hnx1'.alloc (by omega) _).grown hgrow2 (by simp; omega) (fun k hk => (hown1.lt k hk).1)
      have hs2 := hnx2.size
      have hq2 : w2.cell? ⟨wr.heap.size, 1, none⟩ = some (.int .i64 q) := by simp [World.cell?, hbox2]
      go_wp2_with (go_at_call 46; refine Hid.out ?_)
      refine Lib.hid ?_
      refine (Tryd.appendInt_laid w.heap.size _ q qi.1 qi.2 v2 _ w2 hown2 (by omega) (by omega) (hT.on hnx2)).mono ?_
      rintro e w3 ⟨v3, rfl, hown3, hnx3, -⟩
      have hnx3' := hnx2.trans hnx3
      have hs3 := hnx3'.size
      go_wp2_with (at_builtin; refine wpList_append_own _ rfl _ _ 72 rfl w.heap.size 5 i0 (.int .u8 0) 1 1 Tryd.underlying72 hi hz0 hz1 hz2 rfl (by decide) _ _ _ rfl (hown3.alloc _) ⟨w3.heap.size, 0, none⟩ 1 1 [Value.int .u8 44] rfl rfl (by intro j u' hj; match j, hj with | 0, hj => simp at hj; subst hj; simp [Addr.add]) (by intro u' hu'; simp at hu'; subst hu'; rfl) (by unfold maxLen; omega) (by omega) (by simp; omega) ?_)
      intro v4 w4 hown4 hgrow4 _
      have hnx4 : Below w.heap.size w w4 := (hnx3'.alloc (by omega) _).grown hgrow4 (by simp; omega) (fun k hk => (hown3.lt k hk).1)
      go_wp2
      go_roundw
      case rel =>
        have hA := HA.out
        have hpq := HPQ.out
        subst hA
        refine ⟨k + 1, by omega, by go_num, ?_, hnx4⟩
        rw [take_snoc vs k (by omega), wrs_snoc, hpq]
        have hn : (wrs (vs.take k) ++ wr1 (p, q)).length = (wrs (vs.take k)).length + (Lib.itoa p).length + 1 + (Lib.itoa q).length + 1 := by simp [wr1]; omega
        rw [hn]
        simpa [wr1, Lib.byteCells] using hown4
      case measure => simp [intOf]; omega
    · have hkl : k = len := by omega
      have hall : vs.take k = vs := List.take_of_length_le (by omega)
      rw [hall] at hown
      go_wp2
      rw [conv_own Tryd.underlying72 Tryd.underlying5 Tryd.underlying9 hown]
      go_wp2
      go_ret
      exact ⟨rfl, hnx⟩
end Go.Proofs.YtbidfbpaeemhhaaDoor

namespace Go.Proofs.YtbidfbpaeemhhaaDoor
open Go.Shelf Go.RowKit Go.Maps
set_option linter.unusedVariables false

theorem keyed9 : Keyed Tryd.prog 9 := string_keyed Tryd.underlying9
theorem zero3 (w : World) : (zeroValue 3).run Tryd.prog w = .ok (.int .i64 0) w := by kernel_rfl
theorem key9 {l : List UInt8} (h : l.length ≤ 1000000000) : keyOf Tryd.prog 9 (.string ⟨l.toArray⟩) = some (.string l) := by
  rw [keyOf_string Tryd.underlying9]
  unfold mapKey
  rw [Tryd.underlying9]
  show (if (ByteArray.mk l.toArray).size ≤ maxLen then some (Lit.string l.toArray.toList) else none) = _
  rw [if_pos (by show l.toArray.size ≤ maxLen; simp [maxLen]; omega)]
/-- A map of the call's own: how often each text is there. -/
def MapIs (w : World) (b n : Nat) (f : List UInt8 → Nat) : Prop :=
  ∃ D : DataW Unit, w.ownsMap Tryd.prog 9 (plainElem Tryd.prog 3) b n D ∧ IsMap D ∧ ∀ key, D.atKey (.string key) (.lit (.int .i64 0)) = .lit (.int .i64 (f key))
theorem put_at {D : DataW Unit} {f : List UInt8 → Nat} (hm : IsMap D) (h : ∀ key, D.atKey (.string key) (.lit (.int .i64 0)) = .lit (.int .i64 (f key))) (k : List UInt8) (c : Nat) (key : List UInt8) :
    (D.put (.string k) (.lit (.int .i64 c))).atKey (.string key) (.lit (.int .i64 0)) = .lit (.int .i64 ((if key = k then c else f key : Nat) : Int)) := by
  by_cases hk : key = k
  · subst hk
    rw [atKey_put_same hm (show WideAt.IsKeyLit (.string key) from trivial), if_pos rfl]
  · rw [atKey_put_other (by intro h; cases h; exact hk rfl), h, if_neg hk]
theorem own_below {H : Type} {P : Program} {k : TypeId} {R : Value → Option (DataW H × List MemPlace)} {w w' : World} {b n B : Nat} {D : DataW H} (h : w.ownsMap P k R b n D) (hb : Below B w w') (hlt : b < B) : w'.ownsMap P k R b n D := by
  obtain ⟨es, clock, hbk, F, hs, hD⟩ := h
  exact ⟨es, clock, (hb.block b hlt).trans hbk, F, hs, hD⟩
theorem take_snoc' (l : List (List UInt8)) (k : Nat) (h : k < l.length) : l.take (k + 1) = l.take k ++ [l.getD k []] := by
  rw [List.take_add_one]
  simp [List.getElem?_eq_getElem h, List.getD]
theorem wrap_small {n : Nat} (h : n ≤ 2000000) : wrap64 ((n : Int) + 1) = ((n + 1 : Nat) : Int) := by
  unfold wrap64
  omega
/-- What is known of a slice of rows: where each is read, its text is told. -/
def RowsW (w : World) (b off : Nat) (ws : List (List UInt8)) : Prop :=
  ∀ j, j < ws.length → ∃ rv, w.cell? ⟨b, off + j, none⟩ = some rv ∧ ∀ w', Below w.heap.size w w' → Calls Tryd.prog 28 #[rv] w' fun e w'' => e = .returned (.string ⟨(ws.getD j []).toArray⟩) ∧ Below w'.heap.size w' w''

def RowsAt (w : World) (a : Option Addr) (ws : List (List UInt8)) : Prop := 0 < ws.length → ∃ b off, a = some ⟨b, off, none⟩ ∧ b < w.heap.size ∧ RowsW w b off ws

theorem run_makeMap_hint {P : Program} {t kt et : TypeId} (ht : P.underlying t = some (.map kt et)) (n : Int) (w : World) : (Instr.makeMap t (some (.int .i64 n))).run P w = .ok (.map (some w.heap.size)) (w.alloc (.map #[] 0)) := by
  simp [Instr.makeMap, run_underlying ht, asInt, asIntOf]

set_option maxHeartbeats 6400000 in
set_option maxRecDepth 100000 in
theorem counts_any (a : Option Addr) (len cap : Nat) (ws : List (List UInt8)) (w : World) (hlen : ws.length = len) (hsm : len ≤ 1000000) (hsz : ∀ l ∈ ws, l.length ≤ 1000000000) (hA : RowsAt w a ws) :
    Calls Tryd.prog 27 #[.slice a len cap] w fun e w' => e = .returned (.map (some w.heap.size)) ∧ MapIs w' w.heap.size len (fun key => ws.count key) ∧ Below w.heap.size w w' ∧ w.heap.size < w'.heap.size := by
  have hmm := fun n w => run_makeMap_hint (P := Tryd.prog) Tryd.underlying56 n w
  go_enter Tryd.func27, Tryd.ntmps27
  go_wp2
  go_loopw [11] (fun i wr => ∃ k : Nat, k ≤ len ∧ i = .int .i64 k ∧ MapIs wr w.heap.size k (fun key => (ws.take k).count key) ∧ Below w.heap.size w wr ∧ w.heap.size < wr.heap.size)
    (fun i _ => len - (intOf i).toNat)
  case atStart => exact ⟨0, Nat.zero_le _, rfl, ⟨.map [], World.ownsMap_made _ _ _ _, isMap_empty, fun key => rfl⟩, (Below.refl _ _).alloc (Nat.le_refl _) _, by simp⟩
  case round =>
    obtain ⟨k, hk, rfl, ⟨D, hown, hm, hat0⟩, hnx, hsz1⟩ := hrel
    obtain ⟨s, hs⟩ : ∃ s, ws.getD k [] = s := ⟨_, rfl⟩
    have hsl : k < len → s.length ≤ 1000000000 := fun h => by
      refine hsz s ?_
      rw [← hs, List.getD_eq_getElem?_getD, List.getElem?_eq_getElem (by omega)]
      exact List.getElem_mem _
    by_cases hlt : k < len
    · obtain ⟨b, off, rfl, hb, hrow⟩ := hA (by omega)
      obtain ⟨rv, hc, hcall⟩ := hrow k (by omega)
      rw [hs] at hcall
      have HS := Lib.hid hs
      clear hs
      have hcx : wr.cell? ⟨b, off + k, none⟩ = some rv := (hnx.cell (by exact hb)).trans hc
      go_wp2_with (go_at_call 28; refine Hid.out ?_)
      refine Lib.hid ?_
      refine (hcall wr hnx).mono ?_
      rintro e w1 ⟨rfl, hb1⟩
      have hown1 := own_below hown hb1 hsz1
      have hkey := key9 (hsl hlt)
      have hnx1 := hnx.trans (hb1.mono hnx.size)
      have hsz2 := hb1.size
      go_wp2_with (first
        | (at_lookup; refine wpList_lookup_own_int _ rfl _ _ 56 rfl 9 3 .i64 keyed9 Tryd.underlying56 Tryd.underlying3 (zero3 _) w.heap.size k _ rfl hown1 _ _ rfl hkey ?_; intro c hat hwc)
        | (at_mapUpdate; refine wpList_mapUpdate_own _ rfl _ _ _ 56 rfl 9 3 keyed9 Tryd.underlying56 _ w.heap.size k _ rfl hown1 (by unfold maxLen; omega) _ _ _ rfl rfl hkey _ [] (plainElem_int Tryd.underlying3 (wrap64_wf _)) ?_; intro w2 hown2 hgrow2)
        | go_in)
      go_roundw
      case rel =>
        have hs := HS.out
        have hcn : c = (((ws.take k).count s : Nat) : Int) := by
          have h1 := hat0 s
          rw [hat] at h1
          injection h1 with h1
          injection h1
        have hle : (ws.take k).count s ≤ 1000000 := Nat.le_trans List.count_le_length (by rw [List.length_take]; omega)
        rw [hcn, wrap_small (by omega)] at hown2
        refine ⟨k + 1, by omega, by go_num, ⟨_, hown2, hm.put _ _, fun key => ?_⟩, hnx1.grown hgrow2 hnx1.size (fun j hj => by cases hj; exact Nat.le_refl _), by have := hgrow2.size; omega⟩
        rw [put_at hm hat0, take_snoc' ws k (by omega), hs]
        show DataW.lit (Lit.int .i64 _) = DataW.lit (Lit.int .i64 ((List.count key (ws.take k ++ [s]) : Nat) : Int))
        rw [List.count_append, List.count_singleton]
        by_cases hks : key = s
        · subst hks; simp
        · simp [hks, Ne.symm hks]
      case measure => simp [intOf]; omega
    · have : k = len := by omega
      subst this
      go_wp2
      go_ret
      rw [List.take_of_length_le (by omega)] at hat0
      exact ⟨rfl, ⟨D, hown, hm, hat0⟩, hnx, hsz1⟩
end Go.Proofs.YtbidfbpaeemhhaaDoor

namespace Go.Proofs.YtbidfbpaeemhhaaDoor
open Go.Shelf Go.RowKit Go.Maps
set_option linter.unusedVariables false

/-- Each is taken once more. -/
def subB (f : List UInt8 → Nat) : List (List UInt8) → Bool
  | [] => true
  | k :: l => if f k = 0 then false else subB (fun x => if x = k then f k - 1 else f x) l
theorem wrap_less {n : Nat} (h : n ≤ 2000000) (h0 : n ≠ 0) : wrap64 ((n : Int) - 1) = ((n - 1 : Nat) : Int) := by
  unfold wrap64
  omega

theorem wf_nat (z : Int) (h0 : 0 ≤ z) (h1 : z ≤ 2000000) : (Lit.int .i64 z).wf = true := by
  have h := wrap64_wf z
  have e : wrap64 z = z := by unfold wrap64; omega
  rwa [e] at h
theorem at_eq {D : DataW Unit} {f : List UInt8 → Nat} (h : ∀ key, D.atKey (.string key) (.lit (.int .i64 0)) = .lit (.int .i64 (f key))) {s : List UInt8} {c : Int} (hat : D.atKey (.string s) (.lit (.int .i64 0)) = .lit (.int .i64 c)) : c = ((f s : Nat) : Int) := by
  have h1 := h s
  rw [hat] at h1
  injection h1 with h1
  injection h1

set_option maxHeartbeats 6400000 in
set_option maxRecDepth 100000 in
theorem same_any (aC aE aA aB : Option Addr) (lC cC lE cE lA cA lB cB : Nat) (eq : Bool) (was wbs : List (List UInt8)) (w : World) (hlA : was.length = lA) (hlB : wbs.length = lB) (hsA : lA ≤ 1000000) (hsB : lB ≤ 1000000)
    (hszB : ∀ l ∈ wbs, l.length ≤ 1000000000) (hA : RowsAt w aB wbs)
    (hEq : ∀ w', Below w.heap.size w w' → Calls Tryd.prog 26 #[.slice aC lC cC, .slice aE lE cE] w' fun e w'' => e = .returned (.bool eq) ∧ Below w'.heap.size w' w'')
    (hCnt : ∀ w', Below w.heap.size w w' → Calls Tryd.prog 27 #[.slice aA lA cA] w' fun e w'' => e = .returned (.map (some w'.heap.size)) ∧ MapIs w'' w'.heap.size lA (fun key => was.count key) ∧ Below w'.heap.size w' w'' ∧ w'.heap.size < w''.heap.size) :
    Calls Tryd.prog 10 #[.agg #[.slice aC lC cC, .slice aA lA cA], .agg #[.slice aE lE cE, .slice aB lB cB]] w fun e w' => e = .returned (.bool (eq && (decide (lA = lB) && subB (fun key => was.count key) wbs))) ∧ Below w.heap.size w w' := by
  obtain ⟨W0, hW0⟩ : ∃ W0, W0 = (w.alloc (.cells #[.slice aC lC cC, .slice aA lA cA] 25)).alloc (.cells #[.slice aE lE cE, .slice aB lB cB] 25) := ⟨_, rfl⟩
  obtain ⟨R, hR⟩ : ∃ R, (eq && (decide (lA = lB) && subB (fun key => was.count key) wbs)) = R := ⟨_, rfl⟩
  rw [hR]
  have HR := Lib.hid hR
  clear hR
  go_enter Tryd.func10, Tryd.ntmps10
  go_wp2_with (go_at_call 26; refine Hid.out ?_)
  refine Lib.hid ?_
  rw [← hW0]
  have hB0 : Below w.heap.size w W0 := by rw [hW0]; exact ((Below.refl _ w).alloc (Nat.le_refl _) _).alloc (by simp) _
  have hz0 : W0.heap.size = w.heap.size + 2 := by rw [hW0]; simp
  have c21 : W0.cell? ⟨w.heap.size, 1, none⟩ = some (.slice aA lA cA) := by rw [hW0]; go_simp
  have c31 : W0.cell? ⟨w.heap.size + 1, 1, none⟩ = some (.slice aB lB cB) := by rw [hW0]; go_simp
  clear hW0
  refine (hEq W0 hB0).mono ?_
  rintro e w1 ⟨rfl, hb1⟩
  have hB1 : Below w.heap.size w w1 := hB0.trans (hb1.mono (by omega))
  have hz1 := hb1.size
  have d21 : w1.cell? ⟨w.heap.size, 1, none⟩ = some (.slice aA lA cA) := (hb1.cell (p := ⟨w.heap.size, 1, none⟩) (by show w.heap.size < _; omega)).trans c21
  have d31 : w1.cell? ⟨w.heap.size + 1, 1, none⟩ = some (.slice aB lB cB) := (hb1.cell (p := ⟨w.heap.size + 1, 1, none⟩) (by show w.heap.size + 1 < _; omega)).trans c31
  cases eq with
  | false =>
    go_wp2
    go_ret
    have hR := HR.out
    subst hR
    exact ⟨rfl, hB1⟩
  | true =>
    by_cases hll : lA = lB
    · subst hll
      go_wp2_with (go_at_call 27; refine Hid.out ?_)
      refine Lib.hid ?_
      refine (hCnt w1 hB1).mono ?_
      rintro e w2 ⟨rfl, ⟨D0, hown0, hm0, hat0⟩, hb2, hz2⟩
      have hB2 : Below w.heap.size w w2 := hB1.trans (hb2.mono hB1.size)
      have e31 : w2.cell? ⟨w.heap.size + 1, 1, none⟩ = some (.slice aB lA cB) := (hb2.cell (p := ⟨w.heap.size + 1, 1, none⟩) (by show w.heap.size + 1 < _; omega)).trans d31
      go_wp2
      go_loopw [30] (fun i wr => ∃ (k n : Nat) (f : List UInt8 → Nat) (D : DataW Unit), k ≤ lA ∧ i = .int .i64 k ∧ n ≤ lA + k ∧ wr.ownsMap Tryd.prog 9 (plainElem Tryd.prog 3) w1.heap.size n D ∧ IsMap D ∧ (∀ key, D.atKey (.string key) (.lit (.int .i64 0)) = .lit (.int .i64 (f key))) ∧
          (∀ key, f key ≤ 1000000) ∧ subB (fun key => was.count key) wbs = subB f (wbs.drop k) ∧ Below w.heap.size w wr ∧ w1.heap.size < wr.heap.size)
        (fun i _ => lA - (intOf i).toNat)
      case atStart => exact ⟨0, lA, _, D0, Nat.zero_le _, rfl, by omega, hown0, hm0, hat0, fun key => Nat.le_trans List.count_le_length (by omega), by simp, hB2, hz2⟩
      case round =>
        obtain ⟨k, n, f, D, hk, rfl, hn, hown, hm, hat0, hfle, hsub, hnx, hszz⟩ := hrel
        by_cases hlt : k < lA
        · obtain ⟨b, off, rfl, hb, hrow⟩ := hA (by omega)
          obtain ⟨rv, hc, hcall⟩ := hrow k (by omega)
          obtain ⟨s, hs⟩ : ∃ s, wbs.getD k [] = s := ⟨_, rfl⟩
          rw [hs] at hcall
          have hsl : s.length ≤ 1000000000 := by
            refine hszB s ?_
            rw [← hs, List.getD_eq_getElem?_getD, List.getElem?_eq_getElem (by omega)]
            exact List.getElem_mem _
          have hdr : wbs.drop k = s :: wbs.drop (k + 1) := by
            rw [List.drop_eq_getElem_cons (by omega : k < wbs.length), ← hs, List.getD_eq_getElem?_getD, List.getElem?_eq_getElem (by omega)]
            rfl
          rw [hdr] at hsub
          clear hs hdr
          have hcx : wr.cell? ⟨b, off + k, none⟩ = some rv := (hnx.cell (by exact hb)).trans hc
          go_wp2_with (go_at_call 28; refine Hid.out ?_)
          refine Lib.hid ?_
          refine (hcall wr hnx).mono ?_
          rintro e w3 ⟨rfl, hb3⟩
          have hown3 := own_below hown hb3 hszz
          have hkey := key9 hsl
          have hnx3 := hnx.trans (hb3.mono hnx.size)
          have hz3 := hb3.size
          by_cases hf : f s = 0
          · have hf' : ((f s : Nat) : Int) = 0 := by omega
            have hsub' : subB (fun key => was.count key) wbs = false := by
              rw [hsub]
              show (if f s = 0 then false else _) = false
              rw [if_pos hf]
            have HSUB := Lib.hid hsub'
            clear hsub'
            have HSU := Lib.hid hsub
            clear hsub
            go_wp2_with (first
              | (at_lookup; refine wpList_lookup_own_int _ rfl _ _ 56 rfl 9 3 .i64 keyed9 Tryd.underlying56 Tryd.underlying3 (zero3 _) w1.heap.size n _ rfl hown3 _ _ rfl hkey ?_; intro c hat hwc; have hc0 := at_eq hat0 hat; rw [hf'] at hc0; subst hc0)
              | go_in)
            go_ret
            refine ⟨?_, hnx3⟩
            have hR := HR.out
            rw [HSUB.out, Bool.and_false, Bool.and_false] at hR
            subst hR
            rfl
          · have hf' : ¬ ((f s : Nat) : Int) = 0 := by omega
            have hfs := hfle s
            have HSU := Lib.hid hsub
            clear hsub
            go_wp2_with (first
              | (at_lookup; refine wpList_lookup_own_int _ rfl _ _ 56 rfl 9 3 .i64 keyed9 Tryd.underlying56 Tryd.underlying3 (zero3 _) w1.heap.size n _ rfl hown3 _ _ rfl hkey ?_; intro c hat hwc; have hc0 := at_eq hat0 hat; subst hc0)
              | (at_mapUpdate; refine wpList_mapUpdate_own _ rfl _ _ _ 56 rfl 9 3 keyed9 Tryd.underlying56 _ w1.heap.size n _ rfl hown3 (by unfold maxLen; omega) _ _ _ rfl rfl hkey _ [] (plainElem_int Tryd.underlying3 (wf_nat _ (by omega) (by omega))) ?_; intro w4 hown4 hgrow4)
              | go_in)
            go_roundw
            case rel =>
              have hsub := HSU.out
              have hfn : ((f s : Nat) : Int) - 1 = ((f s - 1 : Nat) : Int) := by omega
              rw [hfn] at hown4
              refine ⟨k + 1, n + 1, fun x => if x = s then f s - 1 else f x, _, by omega, by go_num, by omega, hown4, hm.put _ _, put_at hm hat0 s _, fun key => ?_, ?_, hnx3.grown hgrow4 hnx3.size (fun j hj => by cases hj; exact hB1.size), by have := hgrow4.size; omega⟩
              · show (if key = s then f s - 1 else f key) ≤ 1000000
                have := hfle key
                split <;> omega
              · rw [hsub]
                show (if f s = 0 then false else _) = _
                rw [if_neg hf]
            case measure => simp [intOf]; omega
        · have hkk : k = lA := by omega
          subst hkk
          have hsub' : subB (fun key => was.count key) wbs = true := by
            rw [hsub, List.drop_of_length_le (by omega)]
            rfl
          have HSUB := Lib.hid hsub'
          clear hsub'
          have HSU := Lib.hid hsub
          clear hsub
          go_wp2
          go_ret
          refine ⟨?_, hnx⟩
          have hR' : R = true := by rw [← HR.out, HSUB.out]; simp
          rw [hR']
          rfl
    · have hll' : ¬ (lA : Int) = (lB : Int) := by omega
      go_wp2
      go_ret
      refine ⟨?_, hB1⟩
      have hR := HR.out
      rw [decide_eq_false hll] at hR
      subst hR
      rfl
end Go.Proofs.YtbidfbpaeemhhaaDoor

namespace Go.Proofs.YtbidfbpaeemhhaaDoor
open Go.Shelf Go.RowKit Go.Maps Go.Ev
set_option linter.unusedVariables false

def pr (v : D) : Int × Int := (intD (fieldD v 0), intD (fieldD v 1))
def txt (r : D) : List UInt8 := wrs ((elemsD r).map pr)
theorem cells39 : Tryd.prog.cellsOf 39 = 2 := by kernel_rfl
theorem cells34 : Tryd.prog.cellsOf 34 = 1 := by kernel_rfl
theorem cells23 : Tryd.prog.cellsOf 23 = 1 := by kernel_rfl
theorem cells22 : Tryd.prog.cellsOf 22 = 1 := by kernel_rfl
theorem cells25 : Tryd.prog.cellsOf 25 = 2 := by kernel_rfl
theorem cells3 : Tryd.prog.cellsOf 3 = 1 := by kernel_rfl
theorem wf_in {z : Int} (h : (Lit.int .i64 z).wf = true) : inI z := by
  exact inR_iff.1 (wf_inR h)
theorem two {c : List Value} (h : c.length = 2) : ∃ a b, c = [a, b] := by
  match c, h with
  | [a, b], _ => exact ⟨a, b, rfl⟩
theorem two' {c : List D} (h : c.length = 2) : ∃ a b, c = [a, b] := by
  match c, h with
  | [a, b], _ => exact ⟨a, b, rfl⟩
theorem rep39 {w : World} {ok : Nat → Prop} {n : Nat} {c : List Value} {y : D} (h : Rep Tryd.prog w ok n 39 c y) : c = [.int .i64 (pr y).1, .int .i64 (pr y).2] ∧ inI (pr y).1 ∧ inI (pr y).2 := by
  have hl := h.len
  rw [cells39] at hl
  obtain ⟨c0, c1, rfl⟩ := two hl
  obtain ⟨m, ps, _, rfl, hps, hf⟩ := h.struct Tryd.underlying39
  obtain ⟨p0, p1, rfl⟩ := two' (show ps.length = 2 from hps)
  have f0 : Rep Tryd.prog w ok m 3 (([c0, c1].drop 0).take (Tryd.prog.cellsOf 3)) p0 := hf 0 _ rfl
  have f1 : Rep Tryd.prog w ok m 3 (([c0, c1].drop 1).take (Tryd.prog.cellsOf 3)) p1 := hf 1 _ rfl
  rw [cells3] at f0 f1
  obtain ⟨z0, e0, h0, g0⟩ := f0.int Tryd.underlying3
  obtain ⟨z1, e1, h1, g1⟩ := f1.int Tryd.underlying3
  subst e0 e1
  have h0 : [c0] = [.int .i64 z0] := h0
  have h1 : [c1] = [.int .i64 z1] := h1
  cases h0
  cases h1
  exact ⟨rfl, wf_in g0, wf_in g1⟩
theorem add_at (b off j : Nat) : (⟨b, off, none⟩ : Addr).add j = ⟨b, off + j, none⟩ := by
  unfold Addr.add
  split
  · rename_i h; subst h; rfl
  · rfl
theorem spot_of {w : World} {x : Addr} {v : Value} (h : w.cell? x = some v) : x = ⟨x.block, x.off, none⟩ := by
  cases x with
  | mk b o s =>
    cases s with
    | none => rfl
    | some s =>
      unfold World.cell? at h
      split at h <;> simp at h
/-- A row, as it is written. -/
theorem rep34 {w : World} {ok : Nat → Prop} {n : Nat} {c : List Value} {y : D} (h : Rep Tryd.prog w ok n 34 c y) : ∃ a cap, c = [.slice a (elemsD y).length cap] ∧ (∀ v ∈ elemsD y, inI (pr v).1 ∧ inI (pr v).2) ∧
    (0 < (elemsD y).length → ∃ b off, a = some ⟨b, off, none⟩ ∧ ok b ∧ (∀ j, j < (elemsD y).length → w.cell? ⟨b, off + j * 2, none⟩ = some (.int .i64 (((elemsD y).map pr).getD j (0, 0)).1)) ∧ (∀ j, j < (elemsD y).length → w.cell? ⟨b, off + j * 2 + 1, none⟩ = some (.int .i64 (((elemsD y).map pr).getD j (0, 0)).2))) := by
  obtain ⟨m, es, a, cap, _, rfl, rfl, h1, _, h2, h3⟩ := h.slice Tryd.underlying34
  rw [cells39] at h3
  refine ⟨a, cap, rfl, fun v hv => ?_, fun hpos => ?_⟩
  · obtain ⟨i, hi⟩ := List.getElem?_of_mem (show v ∈ es from hv)
    cases a with
    | none =>
      have := h2 rfl
      have hlt : i < es.length := (List.getElem?_eq_some_iff.1 hi).1
      omega
    | some x =>
      obtain ⟨_, c, _, hr⟩ := h3 x rfl i v hi
      exact (rep39 hr).2
  · have hpos : 0 < es.length := hpos
    cases a with
    | none =>
      have := h2 rfl
      omega
    | some x =>
      have key : ∀ j, j < es.length → ok x.block ∧ w.cell? ((x.add (j * 2)).add 0) = some (.int .i64 (pr (es.getD j .nil)).1) ∧ w.cell? ((x.add (j * 2)).add 1) = some (.int .i64 (pr (es.getD j .nil)).2) := by
        intro j hj
        obtain ⟨hok, c, hrow, hr⟩ := h3 x rfl j (es.getD j .nil) (by rw [List.getD_eq_getElem?_getD, List.getElem?_eq_getElem hj]; rfl)
        obtain ⟨rfl, _⟩ := rep39 hr
        exact ⟨hok, hrow 0 _ rfl, hrow 1 _ rfl⟩
      have hx := spot_of (key 0 hpos).2.1
      have hx : x = ⟨x.block, x.off, none⟩ := hx
      have hmap : ∀ j, j < es.length → (es.map pr).getD j (0, 0) = pr (es.getD j .nil) := by
        intro j hj
        simp [List.getD, List.getElem?_eq_getElem hj]
      refine ⟨x.block, x.off, congrArg some hx, (key 0 hpos).1, fun j hj => ?_, fun j hj => ?_⟩
      · have hk := (key j hj).2.1
        rw [hx, add_at, add_at] at hk
        show _ = some (Value.int .i64 ((es.map pr).getD j (0, 0)).1)
        rw [hmap j hj]
        exact hk
      · have hk := (key j hj).2.2
        rw [hx, add_at, add_at] at hk
        show _ = some (Value.int .i64 ((es.map pr).getD j (0, 0)).2)
        rw [hmap j hj]
        exact hk
theorem tab_on {w w' : World} (h : TabOn Tryd.prog (fun _ => False) w) (hb : Below w.heap.size w w') : TabOn Tryd.prog (fun _ => False) w' := fun w'' h' =>
  h w'' ((BelowX.of hb).trans ⟨h'.os, h'.tape, h'.output, h'.size, fun k hk hx => h'.block k (Nat.lt_of_lt_of_le hk hb.size) hx⟩)
theorem tab_pow {w : World} (h : TabOn Tryd.prog (fun _ => False) w) : Lib.TabBelow Tryd.prog w.heap.size w "internal/strconv.uint64pow10" .u64 Lib.pow10Tab := fun w' hb =>
  h w' (BelowX.of hb) ("internal/strconv.uint64pow10", .u64, (List.range 20).map fun i => (10 : Int) ^ i) (List.mem_singleton.2 rfl) (by kernel_rfl)
/-- Rows, as they are written. -/
theorem rep23 {w : World} {ok : Nat → Prop} {n : Nat} {c : List Value} {y : D} (h : Rep Tryd.prog w ok n 23 c y) (hok : ∀ b, ok b → b < w.heap.size) (htb : TabOn Tryd.prog (fun _ => False) w) (hsm : ∀ r ∈ elemsD y, (elemsD r).length ≤ 1000000) :
    ∃ a cap, c = [.slice a (elemsD y).length cap] ∧ RowsAt w a ((elemsD y).map txt) ∧ ∀ l ∈ (elemsD y).map txt, l.length ≤ 1000000000 := by
  obtain ⟨m, es, a, cap, _, rfl, rfl, h1, _, h2, h3⟩ := h.slice Tryd.underlying23
  rw [cells34] at h3
  have hsm : ∀ r ∈ es, (elemsD r).length ≤ 1000000 := hsm
  have hin : ∀ r ∈ es, ∀ v ∈ elemsD r, inI (pr v).1 ∧ inI (pr v).2 := by
    intro r hr
    obtain ⟨i, hi⟩ := List.getElem?_of_mem hr
    cases a with
    | none =>
      have := h2 rfl
      have hlt : i < es.length := (List.getElem?_eq_some_iff.1 hi).1
      omega
    | some x =>
      obtain ⟨_, c, _, hr⟩ := h3 x rfl i r hi
      obtain ⟨_, _, _, hv, _⟩ := rep34 hr
      exact hv
  refine ⟨a, cap, rfl, fun hpos => ?_, fun l hl => ?_⟩
  · have hpos : 0 < es.length := by rw [List.length_map] at hpos; exact hpos
    cases a with
    | none =>
      have := h2 rfl
      omega
    | some x =>
      have key : ∀ j, j < es.length → ok x.block ∧ ∃ a' cap', w.cell? ((x.add (j * 1)).add 0) = some (.slice a' (elemsD (es.getD j .nil)).length cap') ∧
          ∀ w', Below w.heap.size w w' → Calls Tryd.prog 28 #[.slice a' (elemsD (es.getD j .nil)).length cap'] w' fun e w'' => e = .returned (.string ⟨(txt (es.getD j .nil)).toArray⟩) ∧ Below w'.heap.size w' w'' := by
        intro j hj
        have hmem : es.getD j .nil ∈ es := by rw [List.getD_eq_getElem?_getD, List.getElem?_eq_getElem hj]; exact List.getElem_mem hj
        obtain ⟨hok1, c, hrow, hr⟩ := h3 x rfl j (es.getD j .nil) (by rw [List.getD_eq_getElem?_getD, List.getElem?_eq_getElem hj]; rfl)
        obtain ⟨a', cap', rfl, hv, hc⟩ := rep34 hr
        refine ⟨hok1, a', cap', hrow 0 _ rfl, fun w' hb => ?_⟩
        refine written_any a' _ cap' ((elemsD (es.getD j .nil)).map pr) w' (by simp) (hsm _ hmem) ?_ (fun hpos => ?_) (tab_pow (tab_on htb hb))
        · intro p hp
          obtain ⟨v, hv', rfl⟩ := List.mem_map.1 hp
          exact hv v hv'
        · obtain ⟨b, off, rfl, hob, k0, k1⟩ := hc hpos
          have hlt := hok b hob
          refine ⟨b, off, rfl, Nat.lt_of_lt_of_le hlt hb.size, fun j hj => ?_, fun j hj => ?_⟩
          · exact (hb.cell (p := ⟨b, off + j * 2, none⟩) hlt).trans (k0 j hj)
          · exact (hb.cell (p := ⟨b, off + j * 2 + 1, none⟩) hlt).trans (k1 j hj)
      obtain ⟨_, _, _, k0, _⟩ := key 0 hpos
      have hx : x = ⟨x.block, x.off, none⟩ := spot_of k0
      refine ⟨x.block, x.off, congrArg some hx, hok _ (key 0 hpos).1, fun j hj => ?_⟩
      have hj : j < es.length := by rw [List.length_map] at hj; exact hj
      obtain ⟨_, a', cap', kc, kw⟩ := key j hj
      rw [hx, add_at, add_at, Nat.mul_one] at kc
      refine ⟨_, kc, fun w' hb => ?_⟩
      have hmap : (es.map txt).getD j [] = txt (es.getD j .nil) := by simp [List.getD, List.getElem?_eq_getElem hj]
      show Calls Tryd.prog 28 _ w' fun e w'' => e = .returned (.string ⟨((es.map txt).getD j []).toArray⟩) ∧ _
      rw [hmap]
      exact kw w' hb
  · obtain ⟨r, hr, rfl⟩ := List.mem_map.1 (show l ∈ es.map txt from hl)
    have h1 := wrs_len (l := (elemsD r).map pr) (fun p hp => by obtain ⟨v, hv', rfl⟩ := List.mem_map.1 hp; exact hin r hr v hv')
    have h2 := hsm r hr
    rw [List.length_map] at h1
    unfold txt
    omega
theorem rep25 {w : World} {ok : Nat → Prop} {v : Value} {x : D} (h : RepV Tryd.prog w ok 25 v x) : ∃ c0 c1 m, v = .agg #[c0, c1] ∧ Rep Tryd.prog w ok m 22 [c0] (fieldD x 0) ∧ Rep Tryd.prog w ok m 23 [c1] (fieldD x 1) := by
  obtain ⟨⟨n, hn⟩, ha, _⟩ := h
  obtain ⟨cs, rfl⟩ := ha (by kernel_rfl)
  have hn : Rep Tryd.prog w ok n 25 cs.toList x := hn
  have hl := hn.len
  rw [cells25] at hl
  obtain ⟨c0, c1, hcs⟩ := two hl
  obtain ⟨m, ps, _, rfl, hps, hf⟩ := hn.struct Tryd.underlying25
  obtain ⟨p0, p1, rfl⟩ := two' (show ps.length = 2 from hps)
  have f0 : Rep Tryd.prog w ok m 22 ((cs.toList.drop 0).take (Tryd.prog.cellsOf 22)) p0 := hf 0 _ rfl
  have f1 : Rep Tryd.prog w ok m 23 ((cs.toList.drop 1).take (Tryd.prog.cellsOf 23)) p1 := hf 1 _ rfl
  rw [cells22, hcs] at f0
  rw [cells23, hcs] at f1
  refine ⟨c0, c1, m, ?_, f0, f1⟩
  congr 1
  apply Array.ext'
  exact hcs
theorem agg22 : isAggB Tryd.prog 22 = false := by kernel_rfl
def bRowsD (x : D) : List D := elemsD (fieldD x 1)
/-- The same columns, and each text of a row as often. -/
def sameQ (q : Bool) (x y : D) : Bool := q && (decide ((bRowsD x).length = (bRowsD y).length) && subB (fun key => ((bRowsD x).map txt).count key) ((bRowsD y).map txt))
theorem same_ok {x y : D} {q : Bool} (hEq : CallOK Tryd.prog 26 [dat 22 (fieldD x 0), dat 22 (fieldD y 0)] (dat 4 (.lit (.bool q)))) (sx : (bRowsD x).length ≤ 1000000) (sy : (bRowsD y).length ≤ 1000000)
    (hx : ∀ r ∈ bRowsD x, (elemsD r).length ≤ 1000000) (hy : ∀ r ∈ bRowsD y, (elemsD r).length ≤ 1000000) : CallOK Tryd.prog 10 [dat 25 x, dat 25 y] (dat 4 (.lit (.bool (sameQ q x y)))) := by
  refine ⟨⟨Tryd.f10, _, Tryd.func10, rfl, by kernel_rfl⟩, .inl rfl, fun w okA vs htb hok hargs => ?_⟩
  match vs, hargs with
  | [vx, vy], hargs =>
    obtain ⟨⟨_, rx⟩, ⟨_, ry⟩, _⟩ := hargs
    obtain ⟨c0, c1, m, rfl, r0, r1⟩ := rep25 rx
    obtain ⟨d0, d1, m', rfl, s0, s1⟩ := rep25 ry
    obtain ⟨_, es0, aC, cC, _, _, hc0, _⟩ := r0.slice Tryd.underlying22
    obtain ⟨_, es1, aE, cE, _, _, hd0, _⟩ := s0.slice Tryd.underlying22
    cases hc0
    cases hd0
    obtain ⟨aA, cA, hc1, rowsA, szA⟩ := rep23 r1 hok htb hx
    obtain ⟨aB, cB, hd1, rowsB, szB⟩ := rep23 s1 hok htb hy
    cases hc1
    cases hd1
    have v0 : RepV Tryd.prog w okA 22 (.slice aC es0.length cC) (fieldD x 0) := ⟨⟨_, r0⟩, (fun h => absurd h (by rw [agg22]; decide)), (fun _ => rfl)⟩
    have v1 : RepV Tryd.prog w okA 22 (.slice aE es1.length cE) (fieldD y 0) := ⟨⟨_, s0⟩, (fun h => absurd h (by rw [agg22]; decide)), (fun _ => rfl)⟩
    refine (same_any aC aE aA aB es0.length cC es1.length cE (bRowsD x).length cA (bRowsD y).length cB q ((bRowsD x).map txt) ((bRowsD y).map txt) w (by simp) (by simp) sx sy szB rowsB (fun w' hb => ?_) (fun w' hb => ?_)).mono ?_
    · have hmv : ∀ b, okA b → w'.heap[b]? = w.heap[b]? := fun b h => hb.block b (hok b h)
      refine (hEq.call w' okA [.slice aC es0.length cC, .slice aE es1.length cE] (tab_on htb hb) (fun b h => Nat.lt_of_lt_of_le (hok b h) hb.size) ⟨⟨rfl, v0.move hmv (fun _ h => h)⟩, ⟨rfl, v1.move hmv (fun _ h => h)⟩, trivial⟩).mono ?_
      rintro e w'' ⟨v, ok', rfl, hbel, _, hr⟩
      obtain ⟨b, h1, h2⟩ := (hr.d1 rfl).bool Tryd.underlying4
      have h1 : ((.lit (.bool q)) : D) = .lit (.bool b) := h1
      cases h1
      subst h2
      exact ⟨rfl, hbel⟩
    · refine counts_any aA _ cA _ w' (by simp) sx szA (fun hpos => ?_)
      obtain ⟨b, off, ha, hlt, hrows⟩ := rowsA hpos
      refine ⟨b, off, ha, Nat.lt_of_lt_of_le hlt hb.size, fun j hj => ?_⟩
      obtain ⟨rv, hc, hcall⟩ := hrows j hj
      exact ⟨rv, (hb.cell (p := ⟨b, off + j, none⟩) hlt).trans hc, fun w'' hb' => hcall w'' (hb.trans (hb'.mono hb.size))⟩
    · rintro e w' ⟨rfl, hbel⟩
      exact ⟨_, fun _ => False, rfl, hbel, fun b h => h.elim, repAV_dat (repV_bool Tryd.underlying4 (by kernel_rfl))⟩
end Go.Proofs.YtbidfbpaeemhhaaDoor
