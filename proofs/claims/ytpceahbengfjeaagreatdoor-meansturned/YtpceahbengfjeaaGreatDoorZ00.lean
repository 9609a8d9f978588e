/- Trees of functions, and lemmas. Nothing here is trusted. -/
namespace Go.Ev
set_option linter.unusedVariables false
set_option linter.unusedSimpArgs false
abbrev Key:=Int×Int
def klt (a b:Key):Bool:=decide (a.1<b.1)||(a.1==b.1&&decide (a.2<b.2))
theorem EC {a b:Key} :klt a b=true↔a.1<b.1\/(a.1=b.1/\a.2<b.2):=by simp[klt]
theorem vZ {a b:Key} :klt a b=false↔b.1<a.1\/(b.1=a.1/\b.2<=a.2):=by
 rw[<-Bool.not_eq_true,EC];omega
theorem jv (a:Key):klt a a=false:=by rw[vZ];omega
theorem wK {a b:Key} (h:klt a b=true):klt b a=false:=by rw[EC]at h;rw[vZ];omega
theorem o6 {a b c:Key} (h:klt b a=false) (k:klt c b=false):klt c a=false:=by rw[vZ]at*;omega
theorem AP {a b c:Key} (h:klt a b=true) (k:klt c b=false):klt a c=true:=by rw[vZ]at k;rw[EC]at*;omega
theorem zS {a b c:Key} (h:klt b a=false) (k:klt b c=true):klt a c=true:=by rw[vZ]at h;rw[EC]at*;omega
theorem acd {a b:Key} (h:klt a b=false) (k:klt b a=false):a=b:=by
 rw[vZ]at*
 exact Prod.ext (by omega) (by omega)
theorem MC {a b:Key} (h:klt a b=true):a≠b:=by rintro rfl;rw[jv]at h;cases h
section
variable {α:Type} (key:α->Key)
def Srt (l:List α):Prop:=l.Pairwise fun x y=>klt (key y) (key x)=false
def SEq (l m:List α):Prop:= ∀ k,l.filter (fun x=>decide (key x=k))=m.filter (fun x=>decide (key x=k))
variable {key}
theorem SEq.refl (l:List α):SEq key l l:=fun _=>rfl
theorem SEq.symm {l m:List α} (h:SEq key l m):SEq key m l:=fun k=>(h k).symm
theorem SEq.trans {l m n:List α} (h:SEq key l m) (g:SEq key m n):SEq key l n:=fun k=>(h k).trans (g k)
theorem SEq.app {l m l' m':List α} (h:SEq key l l') (g:SEq key m m'):SEq key (l++m) (l'++m'):=fun k=>by
 rw[List.filter_append,List.filter_append,h k,g k]
theorem SEq.mem {l m:List α} (h:SEq key l m) {x:α} (hx:x∈l):x∈m:=by
 have:x∈l.filter (fun y=>decide (key y=key x)):=List.mem_filter.2 ⟨hx,by simp⟩
 rw[h (key x)]at this
 exact(List.mem_filter.1 this).1
theorem SEq.mem_iff {l m:List α} (h:SEq key l m) {x:α} :x∈l↔x∈m:=⟨h.mem,h.symm.mem⟩
theorem SEq.swap {l m:List α} (h: ∀ x∈l,∀ y∈m,key x≠key y):SEq key (l++m) (m++l):=fun k=>by
 rw[List.filter_append,List.filter_append]
 by_cases hl:l.filter (fun x=>decide (key x=k))=[]
 ·rw[hl];simp
 ·have hm:m.filter (fun x=>decide (key x=k))=[]:=by
   rw[List.filter_eq_nil_iff]
   intro y hy hk
   obtain⟨x,hx⟩:=List.exists_mem_of_ne_nil _ hl
   obtain⟨hx1,hx2⟩:=List.mem_filter.1 hx
   exact h x hx1 y hy (by simp at hx2 hk;rw[hx2,hk])
  rw[hm];simp
theorem lM {l m:List α} :Srt key (l++m)↔Srt key l/\Srt key m/\ ∀ x∈l,∀ y∈m,klt (key y) (key x)=false:=List.pairwise_append
theorem LX:Srt key ([]:List α):=List.Pairwise.nil
theorem ZH (x:α):Srt key [x]:=List.pairwise_singleton _ x
theorem OO: ∀ {l m:List α},Srt key l->Srt key m->SEq key l m->l=m
 | [],m,_,_,h=>by
  cases m with
  |nil=>rfl
  |cons y m=>exact absurd (h.symm.mem (x:=y) (by simp)) (by simp)
 |x::l,[],_,_,h=>absurd (h.mem (x:=x) (by simp)) (by simp)
 |x::l,y::m,hl,hm,h=>by
  have hx:x∈y::m:=h.mem (by simp)
  have hy:y∈x::l:=h.symm.mem (by simp)
  have h1:klt (key x) (key y)=false:=by
   rcases List.mem_cons.1 hx with rfl|hx
   ·exact jv _
   ·exact(List.pairwise_cons.1 hm).1 x hx
  have h2:klt (key y) (key x)=false:=by
   rcases List.mem_cons.1 hy with rfl|hy
   ·exact jv _
   ·exact(List.pairwise_cons.1 hl).1 y hy
  have hk:=acd h1 h2
  have hh:=h (key x)
  simp only[List.filter_cons,decide_true,if_true,hk.symm]at hh
  injection hh with h3 h4
  subst h3
  rw[OO (List.pairwise_cons.1 hl).2 (List.pairwise_cons.1 hm).2 (fun k=>?_)]
  have hh:=h k
  simp only[List.filter_cons]at hh
  split at hh
  ·injection hh
  ·exact hh
def Bh (key:α->Key) (x:α):List α->List α
 | []=>[x]
 |y::l=>if klt (key y) (key x)then y::Bh key x l else x::y::l
def sortK (key:α->Key):List α->List α
 | []=>[]
 |x::l=>Bh key x (sortK key l)
theorem FT (x:α): ∀ l:List α,SEq key (Bh key x l) (x::l)
 | []=>SEq.refl _
 |y::l=>by
  unfold Bh
  split
  ·rename_i h
   have h1:SEq key (y::Bh key x l) (y::x::l):=SEq.app (l:=[y]) (l':=[y]) (SEq.refl _) (FT x l)
   refine h1.trans ?_
   have:=SEq.app (SEq.swap (key:=key) (l:=[y]) (m:=[x]) (by simpa using MC h)) (SEq.refl l)
   simpa using this
  ·exact SEq.refl _
theorem mV: ∀ l:List α,SEq key (sortK key l) l
 | []=>SEq.refl _
 |x::l=>(FT x _).trans (SEq.app (l:=[x]) (l':=[x]) (SEq.refl _) (mV l))
theorem MV (x:α): ∀ {l:List α},Srt key l->Srt key (Bh key x l)
 | [],_=>ZH x
 |y::l,h=>by
  obtain⟨h1,h2⟩:=List.pairwise_cons.1 h
  unfold Bh
  split
  ·rename_i hlt
   refine List.pairwise_cons.2 ⟨fun z hz=>?_,MV x h2⟩
   rcases List.mem_cons.1 ((FT x l).mem hz)with rfl|hz
   ·exact wK hlt
   ·exact h1 z hz
  ·rename_i hlt
   have hlt:klt (key y) (key x)=false:=by simpa using hlt
   refine List.pairwise_cons.2 ⟨fun z hz=>?_,h⟩
   rcases List.mem_cons.1 hz with rfl|hz
   ·exact hlt
   ·exact o6 hlt (h1 z hz)
theorem jJ: ∀ l:List α,Srt key (sortK key l)
 | []=>LX
 |x::l=>MV x (jJ l)
theorem sJ {l m:List α} (h:Srt key m) (g:SEq key m l):m=sortK key l:=OO h (jJ l) (g.trans (mV l).symm)
theorem oI {l:List α} (h:Srt key l):sortK key l=l:=(sJ h (SEq.refl l)).symm
theorem eP (l:List α):(sortK key l).length=l.length:=by
 induction l with
 |nil=>rfl
 |cons x l ih=>
  have: ∀ m:List α,(Bh key x m).length=m.length+1:=by
   intro m
   induction m with
   |nil=>rfl
   |cons y m ih=>unfold Bh;split<;>simp[ih]
  simp[sortK,this,ih]
theorem wL {l:List α} {x:α} :x∈sortK key l↔x∈l:=(mV l).mem_iff
theorem JS {S1 S2:List α} {x:α} (h1:Srt key (S1++S2)) (h2: ∀ y∈S2,klt (key x) (key y)=true) (h3: ∀ y∈S1,klt (key x) (key y)=false):
  Srt key (S1++x::S2)/\SEq key (S1++x::S2) (S1++S2++[x]):=by
 obtain⟨a,b,c⟩:=lM.1 h1
 refine⟨lM.2 ⟨a,List.pairwise_cons.2 ⟨fun y hy=>wK (h2 y hy),b⟩,fun u hu v hv=>?_⟩,?_⟩
 ·rcases List.mem_cons.1 hv with rfl|hv
  ·exact h3 u hu
  ·exact c u hu v hv
 ·rw[List.append_assoc]
  exact SEq.app (SEq.refl S1) (SEq.swap (l:=[x]) (m:=S2) (fun u hu v hv=>by
   obtain rfl:u=x:=by simpa using hu
   exact MC (h2 v hv)))
theorem YW {S1 S2:List α} {x:α} (h1:Srt key (S1++S2)) (h2: ∀ y∈S1,klt (key y) (key x)=true) (h3: ∀ y∈S2,klt (key y) (key x)=false):
  Srt key (S1++x::S2)/\SEq key (S1++x::S2) (x::(S1++S2)):=by
 obtain⟨a,b,c⟩:=lM.1 h1
 refine⟨lM.2 ⟨a,List.pairwise_cons.2 ⟨h3,b⟩,fun u hu v hv=>?_⟩,?_⟩
 ·rcases List.mem_cons.1 hv with rfl|hv
  ·exact wK (h2 u hu)
  ·exact c u hu v hv
 ·have:=SEq.app (SEq.swap (key:=key) (l:=S1) (m:=[x]) (fun u hu v hv=>by
   obtain rfl:v=x:=by simpa using hv
   exact MC (h2 u hu))) (SEq.refl S2)
  simpa using this
theorem halves {X1 X2 Y1 Y2 Z1 Z2:List α} (hX:Srt key (X1++X2)) (hY:Srt key (Y1++Y2)) (h1: ∀ x∈X1,∀ y∈Y2,klt (key y) (key x)=false) (h2: ∀ y∈Y1,∀ x∈X2,klt (key y) (key x)=true)
  (z1:Srt key Z1) (e1:SEq key Z1 (X1++Y1)) (z2:Srt key Z2) (e2:SEq key Z2 (X2++Y2)):Srt key (Z1++Z2)/\SEq key (Z1++Z2) (X1++X2++(Y1++Y2)):=by
 obtain⟨a1,a2,a3⟩:=lM.1 hX
 obtain⟨b1,b2,b3⟩:=lM.1 hY
 refine⟨lM.2 ⟨z1,z2,fun u hu v hv=>?_⟩,?_⟩
 ·have hu:=e1.mem hu
  have hv:=e2.mem hv
  rw[List.mem_append]at hu hv
  rcases hu with hu|hu<;>rcases hv with hv|hv
  ·exact a3 u hu v hv
  ·exact h1 u hu v hv
  ·exact wK (h2 u hu v hv)
  ·exact b3 u hu v hv
 ·refine(SEq.app e1 e2).trans ?_
  have hs:=SEq.swap (key:=key) (l:=Y1) (m:=X2) (fun u hu v hv=>MC (h2 u hu v hv))
  have:=SEq.app (SEq.app (SEq.refl X1) hs) (SEq.refl Y2)
  simpa [List.append_assoc]using this
end
end Go.Ev
