/- Trees of functions, and lemmas. Nothing here is trusted. -/
import Derived.Test.YtpceahbengfjeaaGreatDoorProg
import Derived.WalkKit
import Derived.WalkLawsBesides
import Derived.Defers
import Derived.Recover
import Derived.BigCall
namespace Go.Proofs.YtpceahbengfjeaaGreatDoor
open Go.RowKit
set_option linter.unusedVariables false
set_option maxRecDepth 100000
theorem ZF (w:World):Calls Tryz.prog 40 #[.bool false] w fun e w'=>e=.panicked [{v:=.iface 9 (.string ⟨#[105,116,32,109,97,121,32,110,111,116,32,98,101]⟩),recovered:=false }]/\w'=w:=by
 go_enter Tryz.func40,Tryz.ntmps40
 go_wp2
 exact⟨rfl,rfl,rfl⟩
theorem catch_idle (p q:Addr) (w:World):
  CallsD Tryz.prog 88 #[.pointer (some p),.pointer (some q)] .returning w fun e u' w'=>e=.returned (.tuple #[])/\u'=.returning/\w'=w:=by
 refine callsD_of_wpS Tryz.func88 rfl fun c₀ cs hu=>?_
 apply wpS_seq
 apply wpS_region
 simp[wpOpsS,go_sem,recoverD,hu,Tryz.ntmps88,Exit.thenS]
 refine wpS_cond (t:=false) (by simp[Act.eval,Array.replicate]) ?_
 simp only[Bool.false_eq_true,if_false]
 refine wpS_of_wp (wp_skip ?_)
 cases c₀
 simp_all[bodyPostS,results,Tryz.results88]
theorem cell_of {w:World} {B o:Nat} {cs:Array Value} {t:TypeId} {x:Value} (h:w.heap[B]? =some (.cells cs t (0,0))) (hx:cs[o]? =some x):w.cell? ⟨B,o,none⟩=some x:=by
 unfold World.cell?
 simp only[h]
 exact hx
theorem o8 {w:World} {B o:Nat} {cs:Array Value} {t:TypeId} (h:w.heap[B]? =some (.cells cs t (0,0))):w.frozen? ⟨B,o,none⟩=false:=by
 unfold World.frozen?
 simp[h]
theorem x9 {w:World} {B o:Nat} {cs:Array Value} {t:TypeId} {x:Value} (h:w.heap[B]? =some (.cells cs t (0,0))):(w.setCell ⟨B,o,none⟩ x).heap[B]? =some (.cells (cs.setIfInBounds o x) t (0,0)):=by
 unfold World.setCell
 simp[Array.getElem?_modify,h]
theorem nH {w:World} {B k o:Nat} {x:Value} (h:k≠B):(w.setCell ⟨B,o,none⟩ x).heap[k]? =w.heap[k]? :=by
 unfold World.setCell
 simp only[Array.getElem?_modify]
 rw[if_neg (fun e=>h e.symm)]
def vP (w:World) (B:Nat) (x y z:Value):World:=((w.setCell ⟨B,0,none⟩ x).setCell ⟨B,1,none⟩ y).setCell ⟨B+1,0,none⟩ z
theorem I8 {w:World} {B:Nat} {x y z x' y' z':Value} (h0:w.heap[B]? =some (.cells #[x,y] 37 (0,0))) (h1:w.heap[B+1]? =some (.cells #[z] 4 (0,0))):
  (vP w B x' y' z').heap[B]? =some (.cells #[x',y'] 37 (0,0))/\(vP w B x' y' z').heap[B+1]? =some (.cells #[z'] 4 (0,0)):=by
 have h2:=x9 (o:=0) (x:=x') h0
 have h3:=x9 (o:=1) (x:=y') h2
 have h4:((w.setCell ⟨B,0,none⟩ x').setCell ⟨B,1,none⟩ y').heap[B+1]? =some (.cells #[z] 4 (0,0)):=by rw[nH (by omega),nH (by omega)];exact h1
 unfold vP
 exact⟨by rw[nH (by omega)];exact h3,x9 (o:=0) (x:=z') h4⟩
theorem VF {w:World} {B k:Nat} {x y z:Value} (h:k≠B) (h':k≠B+1):(vP w B x y z).heap[k]? =w.heap[k]? :=by
 unfold vP
 rw[nH h',nH h,nH h]
theorem catch_panicking (B:Nat) (x y z:Value) (u:TypeId) (pv:Value) (older:List PanicEntry) (w:World) (h0:w.heap[B]? =some (.cells #[x,y] 37 (0,0))) (h1:w.heap[B+1]? =some (.cells #[z] 4 (0,0))):
  CallsD Tryz.prog 88 #[.pointer (some ⟨B,0,none⟩),.pointer (some ⟨B+1,0,none⟩)] (.panicking ({v:=.iface u pv,recovered:=false } ::older)) w fun e u' w'=>
   e=.returned (.tuple #[])/\u'=.panicking ({v:=.iface u pv,recovered:=true } ::older)/\w'=vP w B (.slice none 0 0) (.slice none 0 0) (.bool false):=by
 have c0:=cell_of (o:=0) h0 rfl
 have f0:=o8 (o:=0) h0
 have h2:=x9 (o:=0) (x:=.slice none 0 0) h0
 have c1:=cell_of (o:=1) (x:=y) h2 rfl
 have f1:=o8 (o:=1) h2
 have h3:=x9 (o:=1) (x:=.slice none 0 0) h2
 have h4:((w.setCell ⟨B,0,none⟩ (.slice none 0 0)).setCell ⟨B,1,none⟩ (.slice none 0 0)).heap[B+1]? =some (.cells #[z] 4 (0,0)):=by rw[nH (by omega),nH (by omega)];exact h1
 have c2:=cell_of (o:=0) h4 rfl
 have f2:=o8 (o:=0) h4
 refine callsD_of_wpS Tryz.func88 rfl fun c₀ cs hu=>?_
 apply wpS_seq
 apply wpS_region
 simp[wpOpsS,go_sem,recoverD,hu,Tryz.ntmps88,Exit.thenS]
 refine wpS_cond (t:=true) (by simp[Act.eval,Array.replicate]) ?_
 simp only[if_true]
 apply wpS_region
 simp[wpOpsS,go_sem,c0,f0,c1,f1,c2,f2,bodyPostS,results,Tryz.results88,vP]
theorem orz {f:FuncId} {caps:Array Value} {w:World} {R:Ending->World->Prop} (hcf: ∀ w,(callFunc f caps).run Tryz.prog w=.ok (.enter f caps) w) (hf:Calls Tryz.prog f caps ((w.alloc (.cells #[.slice none 0 0,.slice none 0 0] 37)).alloc (.cells #[.bool false] 4)) fun e w3=>
   w3.heap[w.heap.size]? =some (.cells #[.slice none 0 0,.slice none 0 0] 37 (0,0))/\w3.heap[w.heap.size+1]? =some (.cells #[.bool false] 4 (0,0))/\
   ((∃ p n c p' n' c' x y,x=Value.slice p n c/\y=Value.slice p' n' c'/\e=.returned (.agg #[x,y])/\R (.returned (.tuple #[.agg #[x,y],.bool true])) (vP w3 w.heap.size x y (.bool true)))\/
    (∃ u pv,e=.panicked [{v:=.iface u pv,recovered:=false }]/\R (.returned (.tuple #[.agg #[.slice none 0 0,.slice none 0 0],.bool false])) (vP w3 w.heap.size (.slice none 0 0) (.slice none 0 0) (.bool false))))):
  Calls Tryz.prog 38 #[.func (.func f) #[] caps] w R:=by
 have hmf: ∀ (fn:Fn) (first cap:Array Value) (w:World),(Instr.makeFunc fn first cap).run Tryz.prog w=.ok (.func fn first cap) w:=fun _ _ _ _=>rfl
 go_enter_defers Tryz.func38,Tryz.ntmps38
 go_wp2
 refine hf.mono ?_
 rintro e w3 ⟨h0,h1,h⟩
 rcases h with⟨p,n,c,p',n',c',_,_,rfl,rfl,rfl,hR⟩|⟨u,pv,rfl,hR⟩
 ·have c0:=cell_of (o:=0) (x:=.slice none 0 0) h0 rfl
  have f0:=o8 (o:=0) h0
  have h2:=x9 (o:=0) (x:=.slice p n c) h0
  have c1:=cell_of (o:=1) (x:=.slice none 0 0) h2 rfl
  have f1:=o8 (o:=1) h2
  have h3:=x9 (o:=1) (x:=.slice p' n' c') h2
  have h4:((w3.setCell ⟨w.heap.size,0,none⟩ (.slice p n c)).setCell ⟨w.heap.size,1,none⟩ (.slice p' n' c')).heap[w.heap.size+1]? =some (.cells #[.bool false] 4 (0,0)):=by rw[nH (by omega),nH (by omega)];exact h1
  have c2:=cell_of (o:=0) (x:=.bool false) h4 rfl
  have f2:=o8 (o:=0) h4
  obtain⟨g0,g1⟩:=I8 (x':=.slice p n c) (y':=.slice p' n' c') (z':=.bool true) h0 h1
  have d0:=cell_of (o:=0) (x:=.slice p n c) g0 rfl
  have d1:=cell_of (o:=1) (x:=.slice p' n' c') g0 rfl
  have d2:=cell_of (o:=0) (x:=.bool true) g1 rfl
  go_wp2
  refine leaves_cons (f:=88) (args:= #[.pointer (some ⟨w.heap.size,0,none⟩),.pointer (some ⟨w.heap.size+1,0,none⟩)]) (by simp) (by simp[go_sem]) ?_
  refine(catch_idle _ _ _).mono ?_
  rintro e u' w4 ⟨rfl,rfl,rfl⟩
  change Leaves _ _ _ R [] _ (vP w3 w.heap.size (.slice p n c) (.slice p' n' c') (.bool true))
  simp[Leaves,settle,results,Tryz.results38,go_sem,d0,d1,d2]
  exact hR
 ·obtain⟨g0,g1⟩:=I8 (x':=.slice none 0 0) (y':=.slice none 0 0) (z':=.bool false) h0 h1
  have d0:=cell_of (o:=0) (x:=.slice none 0 0) g0 rfl
  have d1:=cell_of (o:=1) (x:=.slice none 0 0) g0 rfl
  have d2:=cell_of (o:=0) (x:=.bool false) g1 rfl
  refine leaves_cons (f:=88) (args:= #[.pointer (some ⟨w.heap.size,0,none⟩),.pointer (some ⟨w.heap.size+1,0,none⟩)]) (by simp) (by simp[go_sem]) ?_
  refine(catch_panicking w.heap.size _ _ _ u pv [] _ h0 h1).mono ?_
  rintro e u' w4 ⟨rfl,rfl,rfl⟩
  simp[Leaves,settle,results,Tryz.results38,go_sem,d0,d1,d2]
  exact hR
end Go.Proofs.YtpceahbengfjeaaGreatDoor
