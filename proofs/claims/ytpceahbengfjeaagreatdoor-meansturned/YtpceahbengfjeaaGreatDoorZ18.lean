/- Trees of functions, and lemmas. Nothing here is trusted. -/
import Derived.Test.YtpceahbengfjeaaGreatDoorZ16
import Derived.Shelf.Spec.SlicesGrow
namespace Go.Ev
open Go.RowKit Go.Shelf Go.Proofs Go.Lib
set_option linter.unusedVariables false
set_option linter.unusedSimpArgs false
section
variable {P:Program} {ρ:Ren}
theorem IX {w:World} {ok:Nat->Prop} {x y:AV} {vs:List Value} {n:Int} (hx:x.ix=2) (hu:P.underlying y.ty=some (.int .i64)) (hy:intD y.d=n) (h:zJ P w ok [x,y] vs):vs.toArray= #[.slice none 0 0,.int .i64 n]:=by
 match vs,h with
 | [v,u],⟨⟨h1,h2,h3⟩,⟨h4,h5,_⟩,_⟩=>
  obtain⟨z,e1,e2,_⟩:=h5.int hu
  rw[e1]at hy
  have hz:z=n:=hy
  subst hz
  rw[h3 hx,e2]
theorem TJ (L : Lays8.n4 P ρ) : ∃ fn c, P.funcs[ρ.f 4]? = some fn /\ fn.body = some c /\ (fn.name == "runtime.NumGoroutine") = false := by
 obtain⟨nm,h1,h2⟩:=L.f4
 exact⟨_,_,h2,rfl,h1⟩
theorem OM (L:Lays8.n4 P ρ) (hso:sliceOf P (ρ.t 22)=some (ρ.t 25)) {x y:AV} (hx:x.ix=2) (hu:P.underlying y.ty=some (.int .i64)) (h0:0<intD y.d) (h1:intD y.d<=2147483648):
  qR P (ρ.f 4) [x,y] (ρ.t 22) 2 (.slice [] []):=by
 refine⟨TJ L,fun w okA vs htb hok hargs=>?_⟩
 obtain⟨hu2,hc1,hpos,i,z,hi,hz,hsize,hzs,hbytes⟩:=bZ hso
 obtain⟨n,hn⟩: ∃ n:Nat,intD y.d=(n:Int):=⟨(intD y.d).toNat,by omega⟩
 rw[IX hx hu hn hargs]
 have hb:(0+n)*i.bytes<=140737488355328:=by
  have:(0+n)*i.bytes<=2147483648*65536:=Nat.mul_le_mul (by omega) hbytes
  omega
 refine(Any8.slices_Grow_grow L i z hi hz (by omega) none 0 0 n [] w (Nat.le_refl _) (by omega) hb (by omega) (by simp) (fun _=>rfl) (fun a ha=>by cases ha)).mono ?_
 rintro e w' ⟨rfl,rfl⟩
 have hl:(⟨ρ.t 22,.slice [] [],2,none⟩:Ent).live=true:=rfl
 have hsz:(w.drew.alloc (.cells (([]:List Value).toArray++Builtin.zeroCells z.cells (0+n - 0)++Builtin.zeroCells z.cells (grownCap w (0+n) 0 (ρ.t 25) - (0+n))) (ρ.t 25))).heap.size=w.heap.size+1:=by
  show(w.drew.heap.push _).size=_
  rw[Array.size_push]
  rfl
 have hge:=grownCap_ge w (0+n) 0 (ρ.t 25)
 refine⟨(w.heap.size,grownCap w (0+n) 0 (ρ.t 25)),okA,?_,?_,fun b hb=>⟨by rw[hsz];have:=hok b hb;omega,.inl hb⟩,?_,fun _=>⟨Nat.le_refl _,by rw[hsz];exact Nat.lt_succ_self _,fun hh=>Nat.lt_irrefl _ (hok _ hh)⟩⟩
 ·unfold hv
  rw[if_pos hl]
  rfl
 ·exact((Below.refl w.heap.size w).drew).alloc (Nat.le_refl _) _
 ·refine⟨ρ.t 25,hu2,hc1,hpos,⟨[],rfl⟩,fun _=>⟨_,1,kV w.drew _,Nat.zero_le _,grownCap_le_maxLen w _ _ _ (by unfold maxLen;omega),?_,fun k v hv=>by cases hv⟩⟩
  show(([]:List Value).toArray++Builtin.zeroCells z.cells (0+n - 0)++Builtin.zeroCells z.cells (grownCap w (0+n) 0 (ρ.t 25) - (0+n))).size=_
  rw[Array.size_append,Array.size_append,size_zeroCells,size_zeroCells,hzs]
  show 0+_+_=grownCap w (0+n) 0 (ρ.t 25)*P.cellsOf (ρ.t 25)
  rw[Nat.zero_add,<-Nat.add_mul]
  congr 1
  omega
theorem NV (L:Lays8.n4 P ρ) (hso:sliceOf P (ρ.t 22)=some (ρ.t 25)) {x y:AV} (hx:x.ix=2) (hu:P.underlying y.ty=some (.int .i64)) (h0:intD y.d=0):
  qR P (ρ.f 4) [x,y] (ρ.t 22) 1 (.slice [] []):=by
 refine⟨TJ L,fun w okA vs htb hok hargs=>?_⟩
 obtain⟨hu2,hc1,hpos,_⟩:=bZ hso
 rw[IX hx hu h0 hargs]
 refine(Any8.slices_Grow_room L none 0 0 0 w (Nat.le_refl _) (by omega) (by omega) (by omega)).mono ?_
 rintro e w' ⟨rfl,rfl⟩
 have hl:(⟨ρ.t 22,.slice [] [],1,none⟩:Ent).live=false:=rfl
 refine⟨(0,0),okA,?_,Below.refl _ _,fun b hb=>⟨hok b hb,.inl hb⟩,⟨ρ.t 25,hu2,hc1,hpos,⟨[],rfl⟩,fun hh=>by rw[hl]at hh;cases hh⟩,fun hh=>by rw[hl]at hh;cases hh⟩
 unfold hv
 rw[if_neg (by rw[hl];simp)]
end
end Go.Ev
