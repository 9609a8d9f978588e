/- MeansTrees: whichever tree of all occurrences is taken, what it tells, finished, is what the query tells. Proved for every world, every order, every argument that the statement takes; the tables of strconv and math/bits as the card ties them. -/
import Derived.Test.YtpceahbengfjeaaGreatDoorZ42
import Derived.Test.YtpceahbengfjeaaGreatDoorTie
import Derived.Test.YtpceahbengfjeaaGreatDoorCards
import Derived.WalkKit
import Derived.ProofKit
import Derived.OpenShut
import Derived.ShutString
import Derived.ChangeOld
import Derived.Below
import Derived.JoinedOf
import Derived.LaidLaws
import Derived.SevenTiedAt
import Derived.Stop.Joined
import Derived.Lib.AppendIntMem
namespace Go.Proofs.YtpceahbengfjeaaGreatDoor
open Go.Ev
open Go.ChangeShapes Go.WideShapes Go.ChangeAt Go.RowKit
set_option linter.unusedVariables false
namespace meansTreesLaw
theorem own:ownKnob Tryz.prog.godebug=none:=by kernel_rfl
theorem laidOut:laidOutB Tryz.prog=true:=by kernel_rfl
theorem types:zg Tryz.prog [3,22,24,25,27,28,29,31,32,34,35,37,59,61,67,111]=true:=by kernel_rfl
def valsOf (d:DataW Unit):Array Value:=match d with
 | .agg l=>(l.filterMap fun x=>match x with| .lit (.int k z)=>some (Value.int k z)|_=>none).toArray
 |_=> #[]
noncomputable def laidWorld (os:Os):World:=
 let w0:=World.holding Tryz.prog os ⟨#[],#[],[]⟩
 let put (h:Array Obj) (g:Nat) (cs:Array Value):Array Obj:=h.modify g fun
  | .cells _ t frozen=>.cells cs t frozen
  |o=>o
 {w0 with heap:=put (put (put w0.heap 0 (valsOf Rows.laid_internal_strconv_uint64pow10)) 1 (valsOf Rows.laid_math_bits_deBruijn32tab)) 2 (valsOf Rows.laid_math_bits_deBruijn64tab) }
theorem laid_met (os:Os) (args:Array Value):laidMetH Tryz.prog Rows.meansTreesRow.laid ((laidWorld os).forCall (fun _ _=>0) ⟨#[],args,[]⟩).memory:=
 show laidMet _ _ _ from laidMet_of_run' 8 (by kernel_rfl) (by kernel_rfl)
theorem abS {W:World} (h:laidMetH Tryz.prog Rows.meansTreesRow.laid W):oz Tryz.prog (fun _=>False) W:=by
 have h' : laidMet Tryz.prog [("math/bits.deBruijn32tab", Rows.laid_math_bits_deBruijn32tab), ("math/bits.deBruijn64tab", Lib.tabData .u8 FQ), ("internal/strconv.uint64pow10", Lib.tabData .u64 ((List.range 20).map fun i => (10 : Int) ^ i))] W := h
 obtain⟨ps,⟨_,_,_,_,_,_,_,_,_,_,⟨g1,t1,cs1,fuel1,p1,q1,hg1,ht1,hvar1,hd1,⟨g',t',cs,fuel,p,q,hg',ht',hvar,hd,_,_⟩,_⟩,_⟩,_⟩:=h'
 obtain rfl := Option.some.inj ((show Tryz.prog.globalNamed "internal/strconv.uint64pow10" = some 0 by kernel_rfl).symm.trans hg')
 obtain rfl:=Option.some.inj ((show(Tryz.prog.globals[0]?).map (·.type)=some 208 by kernel_rfl).symm.trans ht')
 obtain rfl := Option.some.inj ((show Tryz.prog.globalNamed "math/bits.deBruijn64tab" = some 2 by kernel_rfl).symm.trans hg1)
 obtain rfl:=Option.some.inj ((show(Tryz.prog.globals[2]?).map (·.type)=some 222 by kernel_rfl).symm.trans ht1)
 have hT : Lib.TabIs Tryz.prog W "internal/strconv.uint64pow10" .u64 ((List.range 20).map fun i => (10 : Int) ^ i) := by
  unfold Lib.TabIs
  rw[hvar,<-Lib.cells_of_tab Tryz.underlying208 Tryz.underlying173 (by kernel_rfl) (by kernel_rfl) hd]
 have hT1 : Lib.TabIs Tryz.prog W "math/bits.deBruijn64tab" .u8 FQ := by
  unfold Lib.TabIs
  rw[hvar1,<-Lib.cells_of_tab Tryz.underlying222 Tryz.underlying5 (by kernel_rfl) (by kernel_rfl) hd1]
 have hB:=Lib.tabBelow_of_tabIs hT
 have hB1:=Lib.tabBelow_of_tabIs hT1
 intro w' hw x hx hv
 rcases List.mem_cons.1 hx with hx|hx
 ·subst hx
  exact hB w' (hw.plain (fun _ h=>h))
 ·have hx:=List.mem_singleton.1 hx
  subst hx
  exact hB1 w' (hw.plain (fun _ h=>h))
set_option maxRecDepth 100000 in
theorem lifted (os:Os) (started:os.Started) (H:Type) (enc:TypeId×Value->H):
  ReturnsInHanded {} Tryz.checked os 4 .any (fun w args=>(Rows.meansTreesSpec.pre enc Tryz.prog Tryz.f4 Rows.meansTreesRow.domain false w args/\laidMetH Tryz.prog Rows.meansTreesRow.laid w)/\sizedMet enc Tryz.prog Tryz.f4 (OpenSpec.ofChange Rows.meansTreesSpec) false w args)
   (Rows.meansTreesSpec.post enc Tryz.prog Tryz.f4 false true false false):=by
 refine returnsInHanded_of_change_and (C:=Tryz.checked) (X:=fun w _=>laidMetH Tryz.prog Rows.meansTreesRow.laid w) (fun _ _ _ hh h=>h.of_heap hh) own started (by kernel_rfl) Tryz.func4
  (ChangeSpec.witness_at (enc:=enc) (C:=Tryz.checked) (os:=os) (X:=fun w _=>laidMetH Tryz.prog Rows.meansTreesRow.laid w) false (laidWorld os) #[.agg #[.slice none 0 0],.agg #[.slice none 0 0],.agg #[.slice none 0 0,.slice none 0 0,.int .i64 0,.slice none 0 0,.slice none 0 0,.int .i64 0],.agg #[.int .i64 0,.slice none 0 0]] 8 rfl (by kernel_rfl) (by kernel_rfl) (by kernel_rfl) (by kernel_rfl) (by kernel_rfl) (laid_met os _)) ?_
 intro W base args ds gs before hval0 hW _ _ hL _
 have hval: ∀ (j:Nat) t v,Tryz.f4.params[j]? =some t->args[j]? =some v->Value.okWide Tryz.prog W .any base t v:=hval0
 have hW':=hW
 obtain⟨p,q,hA0,hV,rfl,hfz,hnd⟩:=hW
 have hA:DataW.TrodAll enc Tryz.prog W 0 (fun _=>true) true Tryz.f4.params.toList args.toList ds p:=hA0
 rw[Tryz.params4]at hA hval
 obtain⟨v0,vs0,d0,ds0,p0,q0,hargs,rfl,rfl,h0,r0⟩:=trodAll_cons hA
 obtain⟨v1,vs1,d1,ds1,p1,q1,rfl,rfl,rfl,h1,r1⟩:=trodAll_cons r0
 obtain⟨v2,vs2,d2,ds2,p2,q2,rfl,rfl,rfl,h2,r2⟩:=trodAll_cons r1
 obtain⟨v3,vs3,d3,ds3,p3,q3,rfl,rfl,rfl,h3,r3⟩:=trodAll_cons r2
 obtain⟨rfl,rfl,rfl⟩:=trodAll_nil r3
 obtain rfl:args= #[v0,v1,v2,v3]:=by cases args;simp_all
 obtain⟨rfl,rfl⟩:=trodVars_none hV
 have lt0: ∀ x∈p0,x.block<W.heap.size:=by obtain⟨m,hm⟩:=h0;exact DataW.trod_lt m _ _ _ hm
 obtain⟨n0,x0,ty0,rep0⟩:=KI types (by decide) (hval 0 24 v0 rfl rfl) h0
 have lt1: ∀ x∈p1,x.block<W.heap.size:=by obtain⟨m,hm⟩:=h1;exact DataW.trod_lt m _ _ _ hm
 obtain⟨n1,x1,ty1,rep1⟩:=KI types (by decide) (hval 1 27 v1 rfl rfl) h1
 have lt2: ∀ x∈p2,x.block<W.heap.size:=by obtain⟨m,hm⟩:=h2;exact DataW.trod_lt m _ _ _ hm
 obtain⟨n2,x2,ty2,rep2⟩:=KI types (by decide) (hval 2 31 v2 rfl rfl) h2
 have lt3: ∀ x∈p3,x.block<W.heap.size:=by obtain⟨m,hm⟩:=h3;exact DataW.trod_lt m _ _ _ hm
 obtain⟨n3,x3,ty3,rep3⟩:=KI types (by decide) (hval 3 34 v3 rfl rfl) h3
 clear hA0 hval0
 refine(QE Tryz.underlying4 (abS hL) (law4 x0 x1 x2 x3) (w:=W) (vs:=[v0,v1,v2,v3]) ⟨⟨rfl,rep0⟩,⟨rfl,rep1⟩,⟨rfl,rep2⟩,⟨rfl,rep3⟩,trivial⟩).mono fun e W' ⟨he,bel⟩=>?_
 subst he
 exact⟨_,rfl,_,_,_,[],_,[],hW',trodAll_mk1 (shut_bool Tryz.underlying4 _),(trodAll_cons_mk (Below.trod laidOut (by kernel_rfl) (of_decide_eq_true (by kernel_rfl)) h0 bel lt0) (trodAll_cons_mk (Below.trod laidOut (by kernel_rfl) (of_decide_eq_true (by kernel_rfl)) h1 bel lt1) (trodAll_cons_mk (Below.trod laidOut (by kernel_rfl) (of_decide_eq_true (by kernel_rfl)) h2 bel lt2) (trodAll_cons_mk (Below.trod laidOut (by kernel_rfl) (of_decide_eq_true (by kernel_rfl)) h3 bel lt3) trodAll_mk0)))),rfl,bel.frame _,fun h=>by cases h⟩
theorem over:Rows.meansTreesRow.holds Tryz.pinned (OpenSpec.ofChange Rows.meansTreesSpec):=
 OpenClaim.holds_of_wide 4 Tryz.f4 rfl rfl rfl rfl rfl rfl rfl ⟨rfl,rfl,rfl,rfl,rfl⟩ rfl rfl rfl rfl rfl (by kernel_rfl) Tryz.func4 (by kernel_rfl)
  (of_decide_eq_true (by kernel_rfl)) (by unfold Func.isWrapper;first|(rw[if_pos (by decide+kernel)];kernel_rfl)|(rw[if_neg (by decide+kernel)];exact⟨rfl,rfl⟩))
  (fun os started H enc _=>lifted os started H enc)
end meansTreesLaw
theorem meansTreesProved:Rows.MeansTreesCardSaid:=
 Claim7.holds_tied_plain_at .later [] [.data, .data, .data] true (true, "c05800335b91b3586ea57f8c54a0309d4016ffca8c574f3fa6884ab85f441b3d") false
  meansTreesLaw.over (fun _ h=>by cases h) (by kernel_rfl) (fun _ h=>by cases h) meansTrees_row_tie rfl ⟨rfl,rfl⟩ (by kernel_rfl) rfl
  (fun f fn hf hfn=>by
   obtain rfl : f = 4 := Option.some.inj ((show Tryz.prog.funcNamed "roadbook/roadbooklaw07.MeansTrees" = some 4 by kernel_rfl).symm.trans hf) |>.symm
   obtain rfl:fn=Tryz.f4:=(Option.some.inj (Tryz.func4.symm.trans hfn)).symm
   exact⟨by kernel_rfl,fun j t ht=>by
    rw[Tryz.params4]at ht
    rcases j with _|_|_|_|j
    ·obtain rfl:t=24:=by simpa using ht.symm
     exact(show Tryz.prog.wantsStandIn 24=false by kernel_rfl)
    ·obtain rfl:t=27:=by simpa using ht.symm
     exact(show Tryz.prog.wantsStandIn 27=false by kernel_rfl)
    ·obtain rfl:t=31:=by simpa using ht.symm
     exact(show Tryz.prog.wantsStandIn 31=false by kernel_rfl)
    ·obtain rfl:t=34:=by simpa using ht.symm
     exact(show Tryz.prog.wantsStandIn 34=false by kernel_rfl)
    ·simp at ht⟩)
  (by kernel_rfl)
end Go.Proofs.YtpceahbengfjeaaGreatDoor
