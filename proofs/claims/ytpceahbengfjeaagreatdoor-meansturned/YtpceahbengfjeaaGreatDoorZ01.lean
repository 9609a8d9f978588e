/- Trees of functions, and lemmas. Nothing here is trusted. -/
import Derived.Orders
import Derived.LoopN
import Derived.Below
import GoSem.ClaimChange
namespace Go.Ev
open Go.RowKit
set_option linter.unusedVariables false
abbrev D:=DataW Value
def bF:D->List D
 | .agg ps=>ps
 |_=>[]
def af (d:D) (k:Nat):D:=(bF d).getD k .nil
def qB (d:D) (k:Nat) (x:D):D:=.agg ((bF d).set k x)
def intD:D->Int
 | .lit (.int _ n)=>n
 |_=>0
def gu:D->Bool
 | .lit (.bool b)=>b
 |_=>false
def strD:D->List UInt8
 | .lit (.string s)=>s
 |_=>[]
def ae:D->List D
 | .slice es _=>es
 |_=>[]
def lenD:D->Nat
 | .slice es _=>es.length
 | .lit (.string s)=>s.length
 |_=>0
def bD (P:Program) (t:TypeId) (d:D):D:=
 match P.underlying t with
 |some (.int k)=>.lit (.int k (intD d))
 |some .bool=>.lit (.bool (gu d))
 |_=>d
structure AV where
 tag:Nat
 ty:TypeId
 d:D
 id:Nat
 ix:Nat
 off:Nat
 tys:List TypeId
def dead:AV:=⟨0,0,.nil,0,0,0,[]⟩
def vW:AV:=⟨9,0,.nil,0,0,0,[]⟩
def dat (t:TypeId) (d:D):AV:=⟨1,t,d,0,0,0,[]⟩
def bxp (id:Nat) (t:TypeId):AV:=⟨2,t,.nil,id,0,0,[]⟩
def fdp (id:Nat) (k off:Nat) (t:TypeId):AV:=⟨2,t,.nil,id,k+1,off,[]⟩
def ful (t:TypeId) (d:D):AV:=⟨1,t,d,0,1,0,[]⟩
def elp (id:Nat) (el:TypeId) (n:Int):AV:=⟨2,el,.lit (.int .i64 n),id,0,0,[0]⟩
def elf (id:Nat) (n:Int) (k off:Nat) (t:TypeId):AV:=⟨2,t,.lit (.int .i64 n),id,k+1,off,[0]⟩
def arp (id:Nat) (el:TypeId) (n:Int) (off:Nat):AV:=⟨2,el,.lit (.int .i64 n),id,0,off,[1]⟩
def clo (t:TypeId) (f:FuncId) (ids:List Nat):AV:=⟨4,t,.nil,f,0,0,ids⟩
def uZ (t:TypeId) (d:D):AV:=⟨3,t,d,0,0,0,[]⟩
def itr (s:List UInt8) (pos:Nat):AV:=⟨8,0,.lit (.string s),0,pos,0,[]⟩
def prf (id:Nat) (t:TypeId) (n:Int):AV:=⟨2,t,.lit (.int .i64 n),id,1,0,[]⟩
def aL (ts:List TypeId) (d:D):AV:=⟨6,0,d,0,0,0,ts⟩
def OID:Nat:=1000000
def RID:Nat:=100000
structure Ent where
 ty:TypeId
 d:D
 row:Nat
 c:Option AV
def Ent.live (e:Ent):Bool:=(e.row !=1&&e.row !=4)||!(ae e.d).isEmpty
structure St where
 sl:List AV
 bx:Nat->Option Ent
def St.get (st:St) (i:Nat):AV:=st.sl.getD i dead
def St.put (st:St) (dst:Option Nat) (v:AV):St:=
 match dst with
 |some d=> {st with sl:=st.sl.set d v }
 |none=>st
def St.upd (st:St) (i:Nat) (e:Ent):St:= {st with bx:=fun j=>if j=i then some e else st.bx j }
def bu (P:Program) (t:TypeId):Bool:=
 match P.underlying t with
 |some (.struct _)|some (.array _ _)=>true
 |_=>false
def wo (P:Program):Nat->TypeId->List Value->D->Bool
 |0,_,_,_=>false
 |n+1,t,cs,d=>
  cs.length==P.cellsOf t&&cs.all (·.oneCell')&&
  match P.underlying t,d with
  |some .bool,.lit (.bool b)=>(match cs with| [.bool c]=>b==c|_=>false)
  |some (.int k),.lit (.int k' z)=>(match cs with| [.int k2 z2]=>k'==k&&k2==k&&z2==z&&(Lit.int k z).wf |_=>false)
  |some .string,.lit (.string s)=>(match cs with| [.string b]=>b.data.toList==s&&decide (s.length<=maxLen)|_=>false)
  |some (.slice _),.slice es sp=>(match cs,es,sp with| [.slice none 0 0],[],[]=>true|_,_,_=>false)
  | some (.struct fs),.agg ps=>ps.length==fs.size&&
    (List.range fs.size).all fun k=>match fs[k]? with
     |some f=>wo P n f.type ((cs.drop f.offset).take (P.cellsOf f.type)) (ps.getD k .nil)
     |none=>true
  |some (.func _ _ _),.held v=>(match cs,v with| [.nilFunc],.nilFunc=>true|_,_=>false)
  | some (.array m e),.agg ps=>ps.length==m&&
    (List.range m).all fun k=>wo P n e ((cs.drop (k*P.cellsOf e)).take (P.cellsOf e)) (ps.getD k .nil)
  |_,_=>false
def GH (P:Program):Nat->TypeId->D
 |0,_=>.nil
 |n+1,t=>
  match P.underlying t with
  |some .bool=>.lit (.bool false)
  |some (.int k)=>.lit (.int k 0)
  |some .string=>.lit (.string [])
  |some (.slice _)=>.slice [] []
  |some (.func _ _ _)=>.held .nilFunc
  |some (.struct fs)=>.agg (fs.toList.map fun f=>GH P n f.type)
  |some (.array m e)=>.agg (List.replicate m (GH P n e))
  |_=>.nil
def deep:Nat:=20
def zeroOf (P:Program) (t:TypeId):Option D:=
 match (P.info? t).bind (·.zero)with
 |some v=>if wo P deep t v.cells.toList (GH P deep t)&&(v.cells.size==P.cellsOf t)then some (GH P deep t)else none
 |none=>none
def qW (P:Program) (fs:Array Field) (size:Nat):Bool:=
 (List.range fs.size).all fun i=>match fs[i]? with
  |none=>true
  |some f=>decide (f.offset+P.cellsOf f.type<=size)&&decide (0<P.cellsOf f.type)&&
   (List.range fs.size).all fun j=>match fs[j]? with
    |none=>true
    |some g=>i==j||decide (f.offset+P.cellsOf f.type<=g.offset)||decide (g.offset+P.cellsOf g.type<=f.offset)
def Et (P:Program):Nat->TypeId->Bool
 |0,_=>false
 |n+1,t=>
  match P.underlying t with
  |some .bool |some (.int _)|some .string=>true
  | some (.struct fs) => !P.stoodInHeld t && qW P fs (P.cellsOf t) && fs.toList.all fun f => f.name != "_" && Et P n f.type
  |some (.array _ e)=>decide (0<P.cellsOf e)&&Et P n e
  |_=>false
def eqD (P:Program):Nat->TypeId->D->D->Bool
 |0,_,_,_=>false
 |n+1,t,x,y=>
  match P.underlying t with
  |some .bool=>gu x==gu y
  |some (.int _)=>intD x==intD y
  |some .string=>strD x==strD y
  |some (.struct fs)=>(List.range fs.size).all fun k=>match fs[k]? with
   |some f=>eqD P n f.type (af x k) (af y k)
   |none=>true
  |some (.array m e)=>(List.range m).all fun k=>eqD P n e (af x k) (af y k)
  |_=>false
def CU (P:Program) (t:TypeId) (v:Value):AV:=
 if P.cellsOf t≠1 then dead else
 match P.underlying t,v with
 |some .bool,.bool b=>dat t (.lit (.bool b))
 |some (.int k),.int k' n=>if k'=k/\(Lit.int k n).wf=true then dat t (.lit (.int k n))else dead
 |some .string,.string s=>if s.size<=maxLen then dat t (.lit (.string s.data.toList))else dead
 |some (.slice _),.slice none 0 0=>dat t (.slice [] [])
 |some (.func _ _ _),.nilFunc=>dat t (.held .nilFunc)
 |_,_=>dead
def opd (P:Program) (st:St) (t:TypeId):Operand->AV
 | .tmp i=>st.get i
 | .const v=>CU P t v
 | .func f=>match P.underlying t with
  |some (.func _ _ _)=>if P.cellsOf t=1 then dat t (.held (.func (.func f) #[] #[]))else dead
  |_=>dead
 | .global _=>dead
def uA:Operand->Bool
 | .const (.slice none 0 0)=>true
 |_=>false
def aJ (P:Program) (st:St) (o:Oper) (x:Operand):AV:=opd P st o.type x
def kindOf (P:Program) (x:AV):Option IntKind:=
 if x.tag=1 then(match P.underlying x.ty with|some (.int k)=>some k|_=>none)else none
def uH (P:Program) (x:AV):Bool:=
 x.tag==1&&(match P.underlying x.ty with|some .bool=>true|_=>false)
def LK (P:Program) (x:AV):Bool:=
 x.tag==1&&(match P.underlying x.ty with|some .string=>true|_=>false)
def kE (P:Program) (x:AV):Option Bool:=
 if uH P x then(match x.d with| .lit (.bool b)=>some b|_=>none)else none
def jQ (P:Program) (t:TypeId) (b:Bool):Option AV:=
 match P.underlying t with
 |some .bool=>if P.cellsOf t=1 then some (dat t (.lit (.bool b)))else none
 |_=>none
def mf (P:Program) (t:TypeId) (k:IntKind) (n:Int):Option AV:=
 match P.underlying t with
 |some (.int k')=>if k'=k/\P.cellsOf t=1 then some (dat t (.lit (.int k n)))else none
 |_=>none
def jR (P:Program) (o:Oper):TypeId:=
 match P.underlying o.type with
 |some .bool=>o.type
 |_=>P.rt.bool
def mi (P:Program) (o:Oper) (t:TypeId):TypeId:=
 match P.underlying o.type with
 |some (.int _)=>o.type
 |_=>t
def ZL (k:IntKind) (x y:Int):Int:=k.wrap ((BitVec.ofInt k.bits x&&& BitVec.ofInt k.bits y).toNat:Int)
def orI (k:IntKind) (x y:Int):Int:=k.wrap ((BitVec.ofInt k.bits x|||BitVec.ofInt k.bits y).toNat:Int)
def afj (k:IntKind) (x y:Int):Int:=k.wrap ((BitVec.ofInt k.bits x ^^^ BitVec.ofInt k.bits y).toNat:Int)
def MG (k:IntKind) (x y:Int):Int:=k.wrap ((BitVec.ofInt k.bits x&&& ~~~ (BitVec.ofInt k.bits y)).toNat:Int)
def TW (k:IntKind) (x y:Int):Int:=k.wrap (x*2 ^ min y.toNat k.bits)
def xW (P:Program) (o:Oper) (op:BinOp) (t:TypeId) (k:IntKind) (x y:Int):Option AV:=
 match op with
 | .add=>mf P (mi P o t) k (k.wrap (x+y))
 | .sub=>mf P (mi P o t) k (k.wrap (x - y))
 | .mul=>mf P (mi P o t) k (k.wrap (x*y))
 | .quo=>mf P (mi P o t) k (k.wrap (x.tdiv y))
 | .rem=>mf P (mi P o t) k (x.tmod y)
 | .shr=>mf P (mi P o t) k (x.fdiv (2 ^ min y.toNat k.bits))
 | .shl=>mf P (mi P o t) k (TW k x y)
 | .and=>mf P (mi P o t) k (ZL k x y)
 | .or=>mf P (mi P o t) k (orI k x y)
 | .xor=>mf P (mi P o t) k (afj k x y)
 | .andNot=>mf P (mi P o t) k (MG k x y)
 | .eql=>jQ P (jR P o) (x==y)
 | .neq=>jQ P (jR P o) (x !=y)
 | .lss=>jQ P (jR P o) (decide (x<y))
 | .leq=>jQ P (jR P o) (decide (x<=y))
 | .gtr=>jQ P (jR P o) (decide (x>y))
 | .geq=>jQ P (jR P o) (decide (x>=y))
def Qm (P:Program) (t:TypeId) (s:List UInt8):Option AV:=
 match P.underlying t with
 |some .string=>if P.cellsOf t=1 then some (dat t (.lit (.string s)))else none
 |_=>none
def QW (P:Program) (o:Oper) (op:BinOp) (t:TypeId) (x y:List UInt8):Option AV:=
 match op with
 | .add=>Qm P t (x++y)
 | .eql=>jQ P (jR P o) (x==y)
 | .neq=>jQ P (jR P o) (!(x==y))
 |_=>none
def eX:D->Bool
 | .held .nilFunc=>true
 |_=>false
def jG (P:Program) (t:TypeId):Bool:=match P.underlying t with|some (.func _ _ _)=>true|_=>false
def RG:BinOp->Bool
 | .shl=>true
 | .shr=>true
 |_=>false
def Ov (P:Program) (o:Oper) (op:BinOp) (t:TypeId) (x y:AV):Option AV:=
 match kindOf P x,kindOf P y with
 |some k,some k'=>if k'=k then xW P o op x.ty k (intD x.d) (intD y.d)else if RG op then xW P o op x.ty k (intD x.d) (intD y.d)else none
 |_,_=>
  if uH P x&&uH P y then
   match op,P.underlying t with
   | .eql,some .bool=>jQ P (jR P o) (gu x.d==gu y.d)
   | .neq,some .bool=>jQ P (jR P o) (!(gu x.d==gu y.d))
   |_,_=>none
  else if x.tag==1&&y.tag==1&&x.ty==t&&y.ty==t&&bu P t&&Et P deep t&&!P.eqGuardType P.depth t then
   match op with
   | .eql=>jQ P (jR P o) (eqD P deep t x.d y.d)
   | .neq=>jQ P (jR P o) (!(eqD P deep t x.d y.d))
   |_=>none
  else if x.tag==1&&y.tag==1&&x.ty==t&&y.ty==t&&jG P t&&eX y.d then
   match op with
   | .eql=>jQ P (jR P o) (eX x.d)
   | .neq=>jQ P (jR P o) (!eX x.d)
   |_=>none
  else if LK P x&&LK P y&&x.ty==t then QW P o op x.ty (strD x.d) (strD y.d)
  else none
def dP (P:Program) (t:TypeId) (k:Nat):Option Field:=
 match P.underlying t with
 |some (.struct fs)=>if qW P fs (P.cellsOf t)then fs[k]? else none
 |_=>none
def Cf:List Value->Bool
 | [.slice none 0 0]=>true
 |_=>false
def LU (P:Program) (t:TypeId) (k:Nat):Bool:=
 match (P.info? t).bind (·.zero),dP P t k with
 |some v,some f=>Cf ((v.cells.toList.drop f.offset).take 1)&&P.cellsOf f.type==1
 |_,_=>false
def PW (P:Program) (t:TypeId) (n:Nat) (parts:List (Nat×Operand)):List Nat:=(List.range n).filter fun k=>LU P t k&&!(parts.any fun p=>p.1==k)
structure Env where
 p:FuncId->Option (TypeId×(List AV->Bool)×(List AV->Option D))
 h:FuncId->Option (TypeId×(List AV->List Ent->Bool)×(List AV->List Ent->Option (AV×List (Option Ent))))
 hp:Bool
 r:FuncId->Option (TypeId×(List AV->List Ent->Bool)×(List AV->List Ent->Option D))
 f:FuncId->Option (TypeId×(List AV->Bool)×(List AV->Option (Nat×D)))
 sp:Nat->Option Nat
 sn:Bool
 g:FuncId->Option (TypeId×(List AV->Bool)×(List AV->Option (AV×List Ent))):=fun _=>none
def Env.plain (env:Env):Env:=⟨env.p,fun _=>none,false,env.r,fun _=>none,env.sp,false,fun _=>none⟩
def Env.part (env:Env):Env:=⟨env.p,fun _=>none,false,env.r,fun _=>none,env.sp,false,env.g⟩
def Env.half (env:Env):Env:=⟨env.p,env.h,false,env.r,fun _=>none,env.sp,false,fun _=>none⟩
def aj (P:Program) (t:TypeId) (d:D):AV:=
 match P.underlying t with
 |some (.tuple ts)=>aL ts.toList d
 |_=>dat t (bD P t d)
def fnD:D->Option FuncId
 | .held (.func (.func f) _ _)=>some f
 |_=>none
def yc (f:FuncId) (t:TypeId) (x:D):D:=.agg [.held (.func (.func f) #[] #[]),.lit (.int .u64 (t:Int)),x]
def fnB:D->Option FuncId
 | .held (.func (.func f) _ _)=>some f
 | .agg (.held (.func (.func f) _ _)::_)=>some f
 |_=>none
def aeg:D->List AV
 | .agg [_,.lit (.int _ t),x]=>[dat t.toNat x]
 |_=>[]
def fK (P:Program) (st:St):Callee->Option FuncId
 | .value (.func f)=>some f
 | .value (.tmp i)=>if(st.get i).tag==1&&jG P (st.get i).ty then fnB (st.get i).d else none
 |_=>none
def oC (P:Program) (st:St):Callee->List AV
 | .value (.tmp i)=>if(st.get i).tag==1&&jG P (st.get i).ty then aeg (st.get i).d else []
 |_=>[]
def dU (P:Program) (st:St):List Operand->List TypeId->Option (List AV)
 | [],[]=>some []
 |x::xs,t::ts=>if(opd P st t x).tag==1 then(dU P st xs ts).map (opd P st t x:: ·)else none
 |_,_=>none
def nilA (x:Operand) (v:AV):AV:=if uA x then {v with ix:=2 } else v
def Sv (P:Program) (st:St) (xs:List Operand) (ts:List TypeId):Option (List AV):=(dU P st xs ts).map fun as=>List.zipWith nilA xs as
def mM (st:St) (i:Nat):Bool:=match st.bx i with|some e=>e.row !=0|none=>false
def ed (st:St) (i:Nat):Bool:=match st.bx i with|some e=>e.row==0|none=>false
def jO (c:Call):Option (Nat×Operand×TypeId):=
 match c.callee,c.args.toList,c.argTypes.toList with
 | .builtin .append,[.tmp s,x],[t,t']=>if t==t' then some (s,x,t)else none
 |_,_,_=>none
def dW (c:Call):Option (Operand×TypeId):=
 match c.callee,c.args.toList,c.argTypes.toList with
 | .builtin .append,[.const (.slice none 0 0),x],[t,t']=>if t==t' then some (x,t)else none
 |_,_,_=>none
def Yp (P:Program) (el:TypeId):Bool:=
 (zeroOf P el).isSome&&decide (0<P.cellsOf el)&&(match P.info? el with|some i=>decide (i.bytes<=65536)|none=>false)
def sliceOf (P:Program) (t:TypeId):Option TypeId:=match P.underlying t with|some (.slice el)=>if P.cellsOf t==1&&Yp P el then some el else none|_=>none
def NG (v:AV):List Nat:=v.tys.filterMap fun x=>if x<2 then none else some (x - 2)
def refs (v:AV):List Nat:=if v.tag==2 then [v.id]else if v.tag==4 then v.tys else if v.tag==7 then NG v else []
def dz (v:AV):AV:=if v.tag==7 then {v with tys:=v.tys.map fun _=>1 } else if v.tag==8 then v else dead
def jV (e:Ent):List Nat:=match e.c with|some v=>refs v|none=>[]
def bg (l:List Nat) (v:AV):AV:=if(refs v).any l.contains then dz v else v
def Ent.mapC (g:AV->AV) (e:Ent):Ent:= {e with c:=e.c.map g }
def St.renew (st:St) (i:Nat) (e:Ent):St:= {sl:=st.sl.map (bg [i]),bx:=fun j=>if j=i then some e else(st.bx j).map (Ent.mapC (bg [i])) }
def nilRow (P:Program) (o:Oper) (st:St):Option St:=
 match o.dst,sliceOf P o.type with
 |some d,some _=>if(st.bx d).isNone&&decide (d<RID)then some ((st.upd d ⟨o.type,.slice [] [],1,none⟩).put (some d) (bxp d o.type))else none
 |_,_=>none
def rowOf (st:St) (s:Nat) (t:TypeId):Option Ent:=
 if(st.get s).tag==2&&(st.get s).ix==0&&(st.get s).tys.isEmpty then(match st.bx (st.get s).id with
  |some e=>if e.ty==t&&e.row !=0 then some e else none
  |none=>none)else none
def og (st:St) (x:Operand) (t:TypeId):Option Ent:=match x with| .tmp s=>rowOf st s t|_=>none
def lenOf (c:Call):Option (Nat×TypeId):=
 match c.callee,c.args.toList,c.argTypes.toList with
 | .builtin .len,[.tmp s],[t]=>some (s,t)
 |_,_,_=>none
def lenRow (st:St) (c:Call):Option Ent:=match lenOf c with|some (s,t)=>rowOf st s t|none=>none
def appRow (P:Program) (st:St) (dst:Option Nat) (s:Nat) (x:Operand) (t:TypeId):Option St:=
 match sliceOf P t,dst,rowOf st s t with
 |some _,some d,none=>
  if(st.get s).tag==1&&(st.get s).ix==1&&(st.get s).ty==t&&(opd P st t x).tag==1&&(opd P st t x).ty==t then
   (if(opd P st t x).ix==1 then(match ae (opd P st t x).d with
    | []=>none
    |_::_=>if(st.bx d).isNone&&decide (d<RID)then some ((st.upd d ⟨t,.slice (ae (st.get s).d++ae (opd P st t x).d) [],2,none⟩).put (some d) (bxp d t))else none)
   else some (st.put (some d) (dat t (.slice (ae (st.get s).d++ae (opd P st t x).d) []))))
  else none
 |some _,some d,some e=>
  if(opd P st t x).tag==1&&(opd P st t x).ty==t then
   some ((st.renew (st.get s).id ⟨t,.slice (ae e.d++ae (opd P st t x).d) [],if e.row==3 then 2 else if e.row==4 then 1 else e.row,none⟩).put (some d) (bxp (st.get s).id t))
  else none
 |_,_,_=>none
def St.kill (st:St) (i:Nat):St:=
 {sl:=st.sl.map (bg [i]),bx:=fun j=>if j=i then none else(st.bx j).map (Ent.mapC (bg [i])) }
def VV (env:Env) (dst:Option Nat):Bool:=match dst with|some d=>(match env.sp d with|some k=>k==101|none=>false)|none=>false
def aaw (env:Env) (dst:Option Nat):Bool:=match dst with|some d=>(match env.sp d with|some k=>k==102|none=>false)|none=>false
def Ag (st:St) (s:Nat) (t:TypeId):Option Ent:=
 if(st.get s).tag==2&&(st.get s).ix==1&&(st.get s).tys.isEmpty then(match st.bx (st.get s).id with
  |some e=>if e.ty==t&&e.row !=0 then some e else none
  |none=>none)else none
def QQ (P:Program) (st:St) (dst:Option Nat) (s:Nat) (x:Operand) (t:TypeId) (e:Ent):Option St:=
 match sliceOf P t,dst,ae (opd P st t x).d with
 |some _,some d,y::ys=>
  if(opd P st t x).tag==1&&(opd P st t x).ty==t then
   some ((st.renew (st.get s).id ⟨t,.slice ((ae e.d).take (intD (st.get s).d).toNat++y::ys) [],if e.row==3 then 2 else if e.row==4 then 1 else e.row,none⟩).put (some d) (bxp (st.get s).id t))
  else none
 |_,_,_=>none
def wP (P:Program) (st:St) (dst:Option Nat) (s:Nat) (x:Operand) (t:TypeId):Option St:=
 match sliceOf P t,dst,rowOf st s t with
 |some _,some d,some e=>
  if(opd P st t x).tag==1&&(opd P st t x).ty==t&&(st.get s).id==s then some ((st.kill (st.get s).id).put (some d) (dat t (.slice (ae e.d++ae (opd P st t x).d) [])))else none
 |some _,some d,none=>
  if(st.get s).tag==1&&(st.get s).ix==1&&(st.get s).ty==t&&(opd P st t x).tag==1&&(opd P st t x).ty==t then
   some (st.put (some d) (dat t (.slice (ae (st.get s).d++ae (opd P st t x).d) [])))else none
 |_,_,_=>none
def vR (P:Program) (st:St) (dst:Option Nat) (x:Operand) (t:TypeId):Option St:=
 match dst,sliceOf P t with
 | some d,some _=>if(opd P st t x).tag==1&&(opd P st t x).ty==t&&(st.bx d).isNone&&decide (d<RID)then
   some ((st.upd d ⟨t,.slice (ae (opd P st t x).d) [],1,none⟩).put (some d) (bxp d t))else none
 |_,_=>none
def xh (P:Program) (st:St):Callee->Option (FuncId×List Nat)
 | .value (.func f)=>some (f,[])
 | .value (.tmp i)=>if(st.get i).tag==4 then some ((st.get i).id,(st.get i).tys)else if(st.get i).tag==1&&jG P (st.get i).ty then(fnD (st.get i).d).map fun f=>(f,[])else none
 |_=>none
def lY (v:AV):Bool:=(v.tag==2&&v.ix==0&&v.tys.isEmpty)||v.tag==4
def vX (v:AV):AV:=if v.tag==1 then dat v.ty v.d else v
def yH (P:Program) (st:St):List Operand->List TypeId->Option (List AV)
 | [],[]=>some []
 |x::xs,t::ts=>if(opd P st t x).tag==1||lY (opd P st t x)then(yH P st xs ts).map (vX (opd P st t x):: ·)else none
 |_,_=>none
def xn (st:St) (i:Nat):AV:=bxp i (match st.bx i with|some e=>e.ty|none=>0)
def hargs (P:Program) (st:St) (c:Call):Option (List AV):=
 match xh P st c.callee,yH P st c.args.toList c.argTypes.toList with
 |some (_,caps),some as=>if caps.all (ed st)then some (as++caps.map (xn st))else none
 |_,_=>none
def fG (c:Call):Bool:=match c.callee with| .value (.tmp _)=>true|_=>false
def mr (P:Program) (env:Env) (st:St) (c:Call):Option (TypeId×(List AV->List Ent->Bool)×(List AV->List Ent->Option (AV×List (Option Ent)))):=
 if env.hp||fG c then(match xh P st c.callee with|some x=>env.h x.1|none=>none)else none
def pG:Nat->List Ent->List AV
 |_,[]=>[]
 |k,e::l=>bxp (OID+k) e.ty::pG (k+1) l
def gW (st:St) (c:Call):Option Nat:=
 match c.callee with
 | .value (.tmp i)=>if(st.get i).tag==4 then some i else none
 |_=>none
def mD (env:Env) (c:Call):Option (TypeId×(List AV->Bool)×(List AV->Option (Nat×D))):=
 match c.callee with
 | .value (.func f)=>env.f f
 |_=>none
def rG (acc:List Nat):List Nat->List Nat
 | []=>acc
 |i::l=>if acc.contains i then rG acc l else rG (acc++[i]) l
def reach (st:St):Nat->List Nat->Nat->List Nat
 |0,acc,_=>acc
 |n+1,acc,k=>match acc[k]? with
  |none=>acc
  |some i=>reach st n (rG acc (match st.bx i with|some e=>jV e|none=>[])) (k+1)
def nJ (st:St) (as:List AV):List Nat:=reach st 60 (rG [] (as.flatMap refs)) 0
def nodupB:List Nat->Bool
 | []=>true
 |i::l=>!l.contains i&&nodupB l
def ku (st:St) (as:List AV) (ids:List Nat):Bool:=
 nodupB ids&&(as.flatMap refs).all ids.contains&&ids.all fun i=>match st.bx i with|some e=>(jV e).all ids.contains|none=>false
def posOf:List Nat->Nat->Nat
 | [],_=>0
 |i::l,j=>if j=i then 0 else posOf l j+1
def fwd (ids:List Nat) (i:Nat):Nat:=OID+posOf ids i
def bwd (ids:List Nat) (k:Nat):Nat:=ids.getD (k - OID) 0
def dD (g:Nat->Nat) (v:AV):AV:=if v.tag==2 then {v with id:=g v.id } else if v.tag==4 then {v with tys:=v.tys.map g } else if v.tag==7 then {v with tys:=v.tys.map fun x=>if x<2 then x else g (x - 2)+2 } else v
def handed (r:Nat):Nat:=if r==2 then 3 else if r==1 then 4 else r
def taken (o:Option Ent) (r:Nat):Nat:=if r==3||r==4 then(match o with|some e=>e.row|none=>1)else r
def Ent.ren (g:Nat->Nat) (k:Nat->Nat) (e:Ent):Ent:=⟨e.ty,e.d,k e.row,e.c.map (dD g)⟩
def jb (st:St) (ids:List Nat) (i:Nat):Ent:=match st.bx i with|some e=>e.ren (fwd ids) handed|none=>⟨0,.nil,0,none⟩
def bQ (h:List Ent) (i:Nat):Option Ent:=if i<OID then none else h[i - OID]?
def cO (h:List (Option Ent)) (i:Nat):Option Ent:=if i<OID then none else(h[i - OID]?).join
def dS:List Nat->List (Option Ent)->List Nat
 |i::ids,some e::h=>if e.row==0||e.row==3||e.row==4 then dS ids h else i::dS ids h
 |i::ids,none::h=>i::dS ids h
 |_,_=>[]
def Dh:List Nat->List (Option Ent)->Nat->Option (Option Ent)
 |i::is,e::es,j=>if j=i then some e else Dh is es j
 |_,_,_=>none
def St.after (st:St) (ids:List Nat) (h:List (Option Ent)):St:=
 {sl:=st.sl.map (bg (dS ids h)),bx:=fun j=>match Dh ids h j with
  |some e=>e.map (Ent.ren (bwd ids) (taken (st.bx j)))
  |none=>(st.bx j).map (Ent.mapC (bg (dS ids h))) }
def oG (m:Nat) (l:List Nat):Bool:=l.all fun i=>decide (OID<=i)&&decide (i<OID+m)
def Xx (P:Program) (env:Env) (o:Oper) (st:St) (c:Call):Option St:=
 match mr P env st c,hargs P st c with
 |some (t,_,F),some as=>
  if t==o.type&&ku st as (nJ st as)then
   (match F (as.map (dD (fwd (nJ st as)))) ((nJ st as).map (jb st (nJ st as)))with
    |some (r,h)=>if h.length==(nJ st as).length then some ((st.after (nJ st as) h).put o.dst (dD (bwd (nJ st as)) r))else none
    |none=>none)
  else none
 |_,_=>none
def lN (st:St) (all:List Nat):List Nat->Option (List Ent)
 | []=>some []
 |i::l=>match st.bx i with
  |some e=>if e.row==0&&(jV e).all all.contains then(lN st all l).map (⟨e.ty,e.d,0,e.c.map (dD (fwd all))⟩:: ·)else none
  |none=>none
def vg (st:St) (ids:List Nat):Option (List Ent):=lN st ids ids
def xU (P:Program) (env:Env) (o:Oper) (st:St) (c:Call) (i:Nat):Option St:=
 if nodupB (st.get i).tys then
  (match env.r (st.get i).id,dU P st c.args.toList c.argTypes.toList,vg st (st.get i).tys with
   |some (t,_,F),some as,some es=>if t==o.type then(F (as.map vX++pG 0 es) es).map fun d=>st.put o.dst (aj P t d)else none
   |_,_,_=>none)
 else none
def BA (P:Program) (env:Env) (o:Oper) (st:St) (c:Call):Option St:=
 match mD env c,Sv P st c.args.toList c.argTypes.toList,o.dst with
 | some (t,_,F),some as,some d=>if t==o.type&&(sliceOf P t).isSome&&(st.bx d).isNone&&decide (d<RID)then
   (match F as with
    |some (k,x)=>if(k==1||k==2)&&(st.bx d).isNone then some ((st.upd d ⟨t,x,k,none⟩).put (some d) (bxp d t))else none
    |none=>none)else none
 |_,_,_=>none
def kT (env:Env) (c:Call):Option (TypeId×(List AV->Bool)×(List AV->Option (AV×List Ent))):=
 match c.callee with
 | .value (.func f)=>env.g f
 |_=>none
def bi (d m:Nat):List Nat:=(List.range m).map fun k=>d+(k+1)*RID
def kG (r:Nat):Nat:=if r==3 then 2 else if r==4 then 1 else r
def St.born (st:St) (d:Nat) (es:List Ent):St:=
 {sl:=st.sl,bx:=fun j=>match Dh (bi d es.length) (es.map some) j with
  |some (some e)=>some (e.ren (bwd (bi d es.length)) kG)
  |_=>st.bx j }
def sF (P:Program) (env:Env) (o:Oper) (st:St) (c:Call):Option St:=
 match kT env c,dU P st c.args.toList c.argTypes.toList,o.dst with
 | some (t,_,F),some as,some d=>if t==o.type&&decide (d<RID)then
   (match F as with
    |some (r,es)=>if((bi d es.length).all (fun i=>(st.bx i).isNone)&&decide (es.length<=7))&&(oG es.length (refs r)&&es.all fun e=>oG es.length (jV e))then some ((st.born d es).put (some d) (dD (bwd (bi d es.length)) r))else none
    |none=>none)else none
 |_,_,_=>none
def I4 (P:Program) (v:AV):Nat:=match P.underlying v.ty with|some .string=>lenD v.d|_=>(ae v.d).length
def Kz (P:Program) (t:TypeId) (d:D):Nat:=match P.underlying t with|some (.array m _)=>m|_=>lenD d
def VS (P:Program) (t:TypeId) (x y:D):Bool:=match P.underlying t with|some .string=>decide (lenD x+lenD y<=4294967296)|_=>true
def KW (P:Program) (t:TypeId) (d:D):Nat:=match P.underlying t with|some (.array m _)=>m|_=>(ae d).length
def oL (P:Program) (st:St):Option Operand->Int
 |some x=>intD (opd P st P.rt.int x).d
 |none=>0
def iP (P:Program) (st:St) (x:Operand) (t:TypeId):Option Operand->Int
 |some y=>intD (opd P st P.rt.int y).d
 |none=>(I4 P (opd P st t x):Int)
def V6:Operand->Operand->Bool
 | .tmp i,.tmp j=>i==j
 | .const (.int k m),.const (.int k' n)=>k==k'&&m==n
 |_,_=>false
def aT (P:Program) (env:Env) (st:St) (o:Oper):Bool:=
 match o.op with
 | .binOp .quo _ _ y yt=>!(intD (opd P st yt y).d==0)
 | .binOp .rem _ _ y yt=>!(intD (opd P st yt y).d==0)
 | .binOp .shr _ _ y yt=>decide (0<=intD (opd P st yt y).d)
 | .binOp .shl _ _ y yt=>decide (0<=intD (opd P st yt y).d)
 | .indexAddr t x i=>(match og st x t with
  |some e=>decide (0<=intD (opd P st P.rt.int i).d)&&decide (intD (opd P st P.rt.int i).d<((ae e.d).length:Int))
  |none=>decide (0<=intD (opd P st P.rt.int i).d)&&decide (intD (opd P st P.rt.int i).d<(KW P t (opd P st o.type x).d:Int)))
 | .makeSlice _ x y=>(V6 x y||decide (intD (opd P st P.rt.int x).d<=intD (opd P st P.rt.int y).d))&&decide (0<=intD (opd P st P.rt.int x).d)&&decide (intD (opd P st P.rt.int y).d<=2147483648)
 | .slice t x lo hi _=>(match og st x t with
  |some e=>decide (0<=iP P st x o.type hi)&&decide (iP P st x o.type hi<((ae e.d).length:Int))
  |none=>decide (0<=oL P st lo)&&decide (oL P st lo<=iP P st x o.type hi)&&decide (iP P st x o.type hi<=(I4 P (opd P st o.type x):Int)))
 | .index t x i=>decide (0<=intD (opd P st P.rt.int i).d)&&decide (intD (opd P st P.rt.int i).d<(Kz P t (opd P st t x).d:Int))
 | .binOp .add t x y yt=>VS P t (opd P st t x).d (opd P st yt y).d
 | .call c=>(match dW c with
  |some (x,t)=>decide ((ae (opd P st t x).d).length<=2147483648)
  |none=>match jO c with
  |some (s,x,t)=>(match Ag st s t with
   |some e=>decide ((ae e.d).length+(ae (opd P st t x).d).length<=2147483648)
   |none=>match rowOf st s t with
   |some e=>decide ((ae e.d).length+(ae (opd P st t x).d).length<=2147483648)
   |none=>decide ((ae (st.get s).d).length+(ae (opd P st t x).d).length<=2147483648))
  |none=>(match mr P env st c with
   |some (_,pre,_)=>(match hargs P st c with
    |some as=>pre (as.map (dD (fwd (nJ st as)))) ((nJ st as).map (jb st (nJ st as)))
    |none=>true)
   |none=>(match gW st c with
   |some i=>(match env.r (st.get i).id,dU P st c.args.toList c.argTypes.toList,vg st (st.get i).tys with
    |some (_,pre,_),some as,some es=>pre (as.map vX++pG 0 es) es
    |_,_,_=>true)
   |none=>(match mD env c,Sv P st c.args.toList c.argTypes.toList with
   |some (_,pre,_),some as=>pre as
   |_,_=>(match kT env c,dU P st c.args.toList c.argTypes.toList with
   |some (_,pre,_),some as=>pre as
   |_,_=>(match fK P st c.callee,dU P st c.args.toList c.argTypes.toList with
   |some f,some as=>(match env.p f with
    |some (_,pre,_)=>pre (oC P st c.callee++as)
    |none=>true)
   |_,_=>true))))))
 |_=>true
def partsOf (P:Program) (st:St) (tyAt:Nat->Option TypeId):List (Nat×Operand)->D->Option D
 | [],d=>some d
 |(k,x)::rest,d=>
  match tyAt k with
  |some t=>if(opd P st t x).tag==1&&(opd P st t x).ty==t then partsOf P st tyAt rest (qB d k (opd P st t x).d)else none
  |none=>none
def xg (P:Program) (st:St) (o:Oper):Builtin->List Operand->List TypeId->Option AV
 | .len,[x],[t]=>(match P.underlying t with
  |some (.slice _)=>if(opd P st t x).tag==1&&(opd P st t x).ty==t then mf P (mi P o P.rt.int) .i64 ((ae (opd P st t x).d).length:Int)else none
  |some .string=>if(opd P st t x).tag==1&&(opd P st t x).ty==t then mf P (mi P o P.rt.int) .i64 ((strD (opd P st t x).d).length:Int)else none
  |_=>none)
 |_,_,_=>none
def Tc (P:Program) (o:Oper) (op:BinOp) (t:TypeId) (x:AV):Option AV:=
 match P.underlying t with
 |some (.slice _)=>
  if x.tag==1&&x.ty==t&&(x.ix==2||x.ix==3)then
   (match op with
    | .eql=>jQ P (jR P o) (x.ix==2)
    | .neq=>jQ P (jR P o) (!(x.ix==2))
    |_=>none)
  else none
 |_=>none
def gJ (P:Program) (st:St):Option Operand->Bool
 |some x=>(kindOf P (opd P st P.rt.int x)).isSome
 |none=>true
def rE (l:List D):List UInt8:=l.map fun d=>UInt8.ofNat (intD d).toNat
def EE (P:Program) (e:TypeId):Bool:=match P.underlying e with|some (.int .u8)=>P.cellsOf e==1|_=>false
def nY (P:Program) (st:St):List Operand->Option (List Nat)
 | []=>some []
 |x::xs=>if(opd P st 0 x).tag==2&&(opd P st 0 x).ix==0&&(opd P st 0 x).tys.isEmpty then(nY P st xs).map ((opd P st 0 x).id:: ·)else none
def retA (P:Program) (t:TypeId) (v:AV):AV:=
 if v.tag==1&&v.ty !=t then(match P.underlying v.ty,P.underlying t with
  |some (.int k),some (.int k')=>if k'=k/\P.cellsOf t=1 then dat t v.d else v
  |_,_=>v)else v
def eQ (P:Program) (env:Env) (o:Oper) (st:St):Option AV:=
 match o.op with
 | .move x=>some (retA P o.type (aJ P st o x))
 | .assign x=>some (retA P o.type (aJ P st o x))
 | .pick c a b=>(match kE P (aJ P st o c)with|some t=>some (if t then aJ P st o a else aJ P st o b)|none=>none)
 | .binOp op t x y yt=>if uA y then Tc P o op t (opd P st t x)else Ov P o op t (opd P st t x) (opd P st yt y)
 | .convert s t x=>(match kindOf P (aJ P st o x),P.underlying t with
  |some _,some (.int k)=>if(P.underlying s).isSome then mf P t k (k.wrap (intD (aJ P st o x).d))else none
  |none,some .string=>(match P.underlying s with
   |some (.slice e)=>if(aJ P st o x).tag==1&&(aJ P st o x).ty==s&&EE P e then Qm P t (rE (ae (aJ P st o x).d))else none
   |_=>none)
  |_,_=>none)
 | .slice t x lo hi mx=>(match P.underlying t with
  |some (.slice e)=>
   if mx.isNone&&(aJ P st o x).tag==1&&(aJ P st o x).ty==t&&gJ P st lo&&gJ P st hi&&decide (0<P.cellsOf e)then
    some (dat t (.slice (((ae (aJ P st o x).d).drop (oL P st lo).toNat).take (iP P st x o.type hi - oL P st lo).toNat) []))else none
  |some .string=>
   if mx.isNone&&(aJ P st o x).tag==1&&(aJ P st o x).ty==t&&gJ P st lo&&gJ P st hi&&P.cellsOf t==1 then
    some (dat t (.lit (.string (((strD (aJ P st o x).d).drop (oL P st lo).toNat).take (iP P st x o.type hi - oL P st lo).toNat))))else none
  |_=>none)
 | .unOp .not _ x=>(if uH P (aJ P st o x)then jQ P (aJ P st o x).ty (!gu (aJ P st o x).d)else none)
 | .unOp .neg _ x=>(match kindOf P (aJ P st o x)with|some k=>mf P (aJ P st o x).ty k (k.wrap (0 - intD (aJ P st o x).d))|none=>none)
 | .field t x k=>(match dP P t k with
  |some f=>if(opd P st t x).tag==1&&(opd P st t x).ty==t then some (dat f.type (bD P f.type (af (opd P st t x).d k)))else none
  |none=>none)
 | .indexAddr t x i=>(match P.underlying t with
  |some (.slice e)=>
   if(aJ P st o x).tag==1&&(aJ P st o x).ty==t&&(kindOf P (opd P st P.rt.int i)).isSome&&decide (0<P.cellsOf e)then
    some (uZ e ((ae (aJ P st o x).d).getD (intD (opd P st P.rt.int i).d).toNat .nil))else none
  |some (.array _ e)=>
   if(aJ P st o x).tag==3&&(aJ P st o x).ty==t&&(kindOf P (opd P st P.rt.int i)).isSome&&decide (0<P.cellsOf e)then
    some (uZ e (af (aJ P st o x).d (intD (opd P st P.rt.int i).d).toNat))else none
  |_=>none)
 | .extract x k=>(match (aJ P st o x).tys[k]? with
  |some t=>if(aJ P st o x).tag==6 then some (dat t (bD P t (af (aJ P st o x).d k)))else none
  |none=>none)
 | .build t parts=>(match P.underlying t with
  |some (.struct fs)=>if qW P fs (P.cellsOf t)then(match zeroOf P t with
   |some z=>(partsOf P st (fun k=>(fs[k]?).map (·.type)) parts.toList z).map fun d=>if env.sn then⟨1,t,d,0,0,0,PW P t fs.size parts.toList⟩else dat t d
   |none=>none)else none
  |some (.array m e)=>if decide (0<P.cellsOf e)&&P.cellsOf t==m*P.cellsOf e then(match zeroOf P t with
   |some z=>(partsOf P st (fun k=>if k<m then some e else none) parts.toList z).map (dat t)
   |none=>none)else none
  |_=>none)
 | .index t x i=>(match P.underlying t with
  | some (.array m e)=>if(opd P st t x).tag==1&&(opd P st t x).ty==t&&(kindOf P (opd P st P.rt.int i)).isSome&&decide (0<P.cellsOf e)then
    some (dat e (bD P e (af (opd P st t x).d (intD (opd P st P.rt.int i).d).toNat)))else none
  | some .string=>if(opd P st t x).tag==1&&(opd P st t x).ty==t&&(kindOf P (opd P st P.rt.int i)).isSome then
    mf P o.type .u8 (((strD (opd P st t x).d).getD (intD (opd P st P.rt.int i).d).toNat 0).toNat:Int)else none
  |_=>none)
 | .makeFunc (.func f) first caps=>(match first.toList with
  | []=>if jG P o.type then(nY P st caps.toList).map (clo o.type f)else none
  | [x]=>if jG P o.type&&caps.size==0&&P.cellsOf o.type==1&&(opd P st 0 x).tag==1 then some (dat o.type (yc f (opd P st 0 x).ty (opd P st 0 x).d))else none
  |_=>none)
 | .buildSlice t len parts=>(match P.underlying t with
  |some (.slice e)=>
   if P.cellsOf t==1&&decide (0<P.cellsOf e)&&decide (len*P.cellsOf e<=4096)then
    (if len==0 then(if parts.size==0 then some (ful t (.slice [] []))else none)
    else match zeroOf P e with
     |some z=>(partsOf P st (fun k=>if k<len then some e else none) parts.toList (.agg (List.replicate len z))).map fun d=>ful t (.slice (bF d) [])
     |none=>none)else none
  |_=>none)
 | .call c=>(match c.callee with
  | .builtin b=>xg P st o b c.args.toList c.argTypes.toList
  |g=>(match fK P st g,dU P st c.args.toList c.argTypes.toList with
   |some f,some as=>(match env.p f with
    |some (t,_,F)=>if t==o.type then(F (oC P st g++as)).map (aj P t)else none
    |none=>none)
   |_,_=>none))
 |_=>none
def XH (e:Ent) (x:AV):D:=(ae e.d).getD (intD x.d).toNat .nil
def ldE (P:Program) (e:Ent) (t:TypeId) (x:AV):Option D:=
 match P.underlying e.ty with
 |some (.slice el)=>(match x.ix with
  |0=>if el==t then some (bD P t (XH e x))else none
  |k+1=>(match dP P el k with
   |some f=>if f.type==t then some (bD P t (af (XH e x) k))else none
   |none=>none))
 |_=>none
def YV (e:Ent) (x:AV) (d:D):Ent:=⟨e.ty,.slice ((ae e.d).set (intD x.d).toNat d) [],e.row,none⟩
def stE (P:Program) (e:Ent) (t:TypeId) (x:AV) (d:D):Option Ent:=
 match P.underlying e.ty with
 |some (.slice el)=>(match x.ix with
  |0=>if el==t then some (YV e x d)else none
  |k+1=>(match dP P el k with
   |some f=>if f.type==t then some (YV e x (qB (XH e x) k d))else none
   |none=>none))
 |_=>none
def ldA (P:Program) (st:St) (t:TypeId) (x:AV):Option D:=
 if x.tag=2 then(match st.bx x.id with
  |some e=>if x.ty==t&&e.row==0 then(if e.c.isSome then none else if x.tys.isEmpty then(match x.ix with
   |0=>if e.ty==t then some (bD P t e.d)else none
   |k+1=>(match dP P e.ty k with
    |some f=>if f.type==t then some (bD P t (af e.d k))else none
    |none=>none))else if x.ix==0 then some (bD P t (af e.d (intD x.d).toNat))else none)else if x.ty==t&&e.row !=0&&!x.tys.isEmpty then ldE P e t x else none
  |none=>none)
 else if x.tag=3 then(if x.ty==t then some (bD P t x.d)else none)
 else none
def xq (st:St) (t:TypeId) (x:AV):Option AV:=
 if x.tag==2&&x.ix==0&&x.tys.isEmpty then(match st.bx x.id with
  |some e=>if x.ty==t&&e.row==0 then(match e.c with|some v=>if v.tag==7||v.tag==8 then none else some v|none=>none)else none
  |none=>none)else none
def ldV (P:Program) (st:St) (t:TypeId) (x:AV):Option AV:=
 match xq st t x with
 |some v=>some v
 |none=>(ldA P st t x).map (dat t)
def one1 (P:Program) (t:TypeId):Bool:=P.cellsOf t==1&&(match P.underlying t with|some (.slice _)=>true|some (.func _ _ _)=>true|some (.pointer _)=>true|_=>false)
def stC (P:Program) (st:St) (t:TypeId) (x y:AV):Option St:=
 if x.tag==2&&x.ix==0&&x.tys.isEmpty then(match st.bx x.id with
  |some e=>if x.ty==t&&e.row==0&&e.ty==t&&one1 P t&&lY y then some (st.upd x.id ⟨t,.nil,0,some y⟩)else none
  |none=>none)else none
def stA (P:Program) (st:St) (t:TypeId) (x:AV) (d:D):Option St:=
 if x.tag=2 then(match st.bx x.id with
  |some e=>if x.ty==t&&e.row==0 then(if x.tys.isEmpty then(match x.ix with
   |0=>if e.ty==t then some (st.upd x.id ⟨e.ty,d,0,none⟩)else none
   |k+1=>if e.c.isSome then none else(match dP P e.ty k with
    |some f=>if f.type==t then some (st.upd x.id ⟨e.ty,qB e.d k d,0,none⟩)else none
    |none=>none))else if x.ix==0&&e.c.isNone then some (st.upd x.id ⟨e.ty,qB e.d (intD x.d).toNat d,0,none⟩)else none)else if x.ty==t&&e.row !=0&&!x.tys.isEmpty then(stE P e t x d).map (st.upd x.id)else none
  |none=>none)
 else none
def Ec (P:Program) (st:St) (t:TypeId) (x:AV):Option (Ent×AV×Nat):=
 if x.tag==2&&x.tys.isEmpty&&x.ty==t then(match st.bx x.id,x.ix with
  |some e,k+1=>if e.row==0 then(match e.c with
   |some v=>if v.tag==7 then(match dP P e.ty k with
    |some f=>if f.type==t then some (e,v,k)else none
    |none=>none)else none
   |none=>none)else none
  |_,_=>none)else none
def ldF (P:Program) (st:St) (o:Oper) (t:TypeId) (x:AV) (e:Ent) (v:AV) (k:Nat):Option St:=
 match v.tys[k]? with
 |some 0=>some (st.put o.dst (dat t (bD P t (af v.d k))))
 |some (j+2)=>(match st.bx j with
  |some r=>if r.row !=0&&r.ty==t then some ((st.upd x.id ⟨e.ty,e.d,0,some {v with tys:=v.tys.set k 1 }⟩).put o.dst (bxp j t))else none
  |none=>none)
 |_=>none
def stF (P:Program) (st:St) (t:TypeId) (x y:AV) (e:Ent) (v:AV) (k:Nat):Option St:=
 if y.tag==1&&y.ty==t then some (st.upd x.id ⟨e.ty,e.d,0,some {v with tys:=v.tys.set k 0,d:=qB v.d k y.d }⟩)
 else if y.tag==2&&y.ix==0&&y.tys.isEmpty then(match st.bx y.id with
  |some r=>if r.row !=0&&r.ty==t&&P.cellsOf t==1 then some (st.upd x.id ⟨e.ty,e.d,0,some {v with tys:=v.tys.set k (y.id+2) }⟩)else none
  |none=>none)else none
def abk (P:Program) (env:Env) (st:St) (t:TypeId) (x y:AV) (d:Nat):Option St:=
 if env.sn&&x.tag==2&&x.ix==0&&x.tys.isEmpty&&x.ty==t&&y.tag==1&&y.ty==t then(match env.sp d,st.bx d with
  |some k,some e=>if e.row==0&&e.ty==t&&y.tys.contains k then(match dP P t k with
   | some f=>if(sliceOf P f.type).isSome&&decide (d<RID)then
     some (((st.renew (d+(k+2)*RID) ⟨f.type,.slice [] [],1,none⟩)).upd d ⟨t,.nil,0,some ⟨7,t,y.d,0,0,0,(List.replicate (bF y.d).length 0).set k (d+(k+2)*RID+2)⟩⟩)else none
   |none=>none)else none
  |_,_=>none)else none
def stS (P:Program) (env:Env) (st:St) (t:TypeId) (x y:AV):Option St:=
 match x.id with
 |0=>none
 |n+1=>abk P env st t x y (n+1)
def alS (P:Program) (env:Env) (st:St) (t:TypeId) (d:Nat) (z:D):Option St:=
 match env.sp d with
 |some k=>(match dP P t k with
  | some f=>if(sliceOf P f.type).isSome&&(st.bx (d+(k+2)*RID)).isNone&&decide (k<6)&&LU P t k then
    some (((st.upd (d+(k+2)*RID) ⟨f.type,.slice [] [],1,none⟩).upd d ⟨t,.nil,0,some ⟨7,t,z,0,0,0,(List.replicate (bF z).length 0).set k (d+(k+2)*RID+2)⟩⟩).put (some d) (bxp d t))else none
  |none=>none)
 |none=>none
def mW (s:List UInt8) (pos:Nat):Nat×Nat:=Utf8.decode ⟨s.toArray⟩ pos
def ITY:Nat:=999999999
def Vh (st:St) (i:Nat):Option (List UInt8×Nat):=
 if(st.get i).tag==2&&(st.get i).ix==0&&(st.get i).tys.isEmpty then(match st.bx (st.get i).id with
  |some e=>(match e.c with
   |some v=>(match v.d with| .lit (.string s)=>if e.row==0&&v.tag==8&&e.ty==ITY then some (s,v.ix)else none|_=>none)
   |none=>none)
  |none=>none)else none
def F5 (st:St) (i:Nat) (s:List UInt8) (p:Nat):St:=st.upd (st.get i).id ⟨ITY,.nil,0,some (itr s p)⟩
def X5 (P:Program):Bool:=(match P.underlying P.rt.bool,P.underlying P.rt.int,P.underlying P.rt.rune with|some .bool,some (.int .i64),some (.int .i32)=>true|_,_,_=>false)&&
 P.cellsOf P.rt.bool==1&&P.cellsOf P.rt.int==1&&P.cellsOf P.rt.rune==1
def qC (P:Program) (s:List UInt8) (p:Nat):AV:=aL [P.rt.bool,P.rt.int,P.rt.rune] (.agg [.lit (.bool true),.lit (.int .i64 (p:Int)),.lit (.int .i32 ((mW s p).1:Int))])
def qV (P:Program):AV:=aL [P.rt.bool] (.agg [.lit (.bool false)])
def KD (P:Program) (st:St) (dst:Option Nat) (t:TypeId) (x:Operand):Option St:=
 match dst,P.underlying t with
 | some d,some .string=>if(opd P st t x).tag==1&&(opd P st t x).ty==t&&(st.bx d).isNone&&decide (d<RID)&&(P.underlying ITY).isNone then
   some ((st.upd d ⟨ITY,.nil,0,some (itr (strD (opd P st t x).d) 0)⟩).put (some d) (bxp d ITY))else none
 |_,_=>none
def PH (env:Env) (dst:Option Nat):Bool:=env.hp&&(match dst with|some d=>(match env.sp d with|some k=>k==100|none=>false)|none=>false)
def V7 (P:Program) (st:St) (o:Oper) (t:TypeId) (len:Nat) (parts:Array (Nat×Operand)):Option St:=
 match o.dst,sliceOf P t with
 | some d,some e=>if(st.bx d).isNone&&decide (d<RID)&&len !=0&&decide (len*P.cellsOf e<=4096)then(match zeroOf P e with
   |some z=>(partsOf P st (fun k=>if k<len then some e else none) parts.toList (.agg (List.replicate len z))).map fun dd=>(st.upd d ⟨t,.slice (bF dd) [],2,none⟩).put (some d) (bxp d t)
   |none=>none)else none
 |_,_=>none
def dh (P:Program) (env:Env) (o:Oper) (st:St):Option St:=
 match o.op with
 | .load t x=>(match (if env.hp then Ec P st t (aJ P st o x)else none)with
  |some (e,v,k)=>ldF P st o t (aJ P st o x) e v k
  |none=>(ldV P st t (aJ P st o x)).map fun v=>st.put o.dst v)
 | .store t x y=>if o.dst.isNone then(match (if env.hp then Ec P st t (aJ P st o x)else none)with
  |some (e,v,k)=>stF P st t (aJ P st o x) (opd P st t y) e v k
  |none=>match (if env.hp then stS P env st t (aJ P st o x) (opd P st t y)else none)with
  |some s=>some s
  |none=>if(opd P st t y).tag==1&&(opd P st t y).ty==t then stA P st t (aJ P st o x) (opd P st t y).d else stC P st t (aJ P st o x) (opd P st t y))else none
 | .fieldAddr t x k=>(match dP P t k with
  |some f=>
   if(aJ P st o x).tag==2&&(aJ P st o x).ix==0&&(aJ P st o x).tys.isEmpty&&(aJ P st o x).ty==t&&ed st (aJ P st o x).id then some (st.put o.dst (fdp (aJ P st o x).id k f.offset f.type))
   else if(aJ P st o x).tag==3&&(aJ P st o x).ty==t then some (st.put o.dst (uZ f.type (af (aJ P st o x).d k)))
   else if(aJ P st o x).tag==2&&(aJ P st o x).ix==0&&(aJ P st o x).ty==t&&!(aJ P st o x).tys.isEmpty&&mM st (aJ P st o x).id then some (st.put o.dst (elf (aJ P st o x).id (intD (aJ P st o x).d) k f.offset f.type))
   else none
  |none=>none)
 | .alloc t=>(match o.dst,zeroOf P t with
  | some d,some z=>if(st.bx d).isNone&&decide (d<RID)then(
    if env.hp&&(env.sp d).isSome then alS P env st t d z else if env.hp&&(sliceOf P t).isSome&&one1 P t then(if(st.bx (d+RID)).isNone then some (((st.upd (d+RID) ⟨t,.slice [] [],1,none⟩).upd d ⟨t,.nil,0,some (bxp (d+RID) t)⟩).put (some d) (bxp d t))else none)
    else some ((st.upd d ⟨t,z,0,none⟩).put (some d) (bxp d t)))else none
  |_,_=>none)
 | .box t x=>(match o.dst with
  |some d=>if(st.bx d).isNone&&decide (d<RID)then(if(opd P st t x).tag==1&&(opd P st t x).ty==t then some ((st.upd d ⟨t,(opd P st t x).d,0,none⟩).put (some d) (bxp d t))
   else if lY (opd P st t x)&&one1 P t then some ((st.upd d ⟨t,.nil,0,some (opd P st t x)⟩).put (some d) (bxp d t))else none)else none
  |none=>none)
 | .makeSlice t x y=>(match o.dst,sliceOf P t with
  |some d,some el=>(match zeroOf P el with
   | some z=>if(st.bx d).isNone&&decide (d<RID)&&(kindOf P (opd P st P.rt.int x)).isSome&&(kindOf P (opd P st P.rt.int y)).isSome then
     some ((st.upd d ⟨t,.slice (List.replicate (intD (opd P st P.rt.int x).d).toNat z) [],2,none⟩).put (some d) (bxp d t))else none
   |none=>none)
  |_,_=>none)
 | .assign x=>if uA x then nilRow P o st else(eQ P env o st).map fun v=>st.put o.dst v
 | .call c=>(match dW c with
  |some (x,t)=>vR P st o.dst x t
  |none=>match jO c with
  |some (s,x,t)=>if VV env o.dst then wP P st o.dst s x t else(match Ag st s t with
   |some e=>QQ P st o.dst s x t e
   |none=>appRow P st o.dst s x t)
  |none=>(match lenRow st c with
   |some e=>(mf P (mi P o P.rt.int) .i64 ((ae e.d).length:Int)).map fun v=>st.put o.dst v
   |none=>if(mr P env st c).isSome then Xx P env o st c else(match gW st c with
    |some i=>xU P env o st c i
    |none=>if(mD env c).isSome then BA P env o st c else if(kT env c).isSome then sF P env o st c else(eQ P env o st).map fun v=>st.put o.dst v)))
 | .indexAddr t x i=>(match og st x t with
  |some _=>(match sliceOf P t with
   |some el=>if(kindOf P (opd P st P.rt.int i)).isSome then some (st.put o.dst (elp (opd P st t x).id el (intD (opd P st P.rt.int i).d)))else none
   |none=>none)
  |none=>(match P.underlying t with
   |some (.array _ el)=>
    if(aJ P st o x).tag==2&&(aJ P st o x).ix==0&&(aJ P st o x).tys.isEmpty&&(aJ P st o x).ty==t&&ed st (aJ P st o x).id&&(kindOf P (opd P st P.rt.int i)).isSome&&decide (0<P.cellsOf el)then
     some (st.put o.dst (arp (aJ P st o x).id el (intD (opd P st P.rt.int i).d) ((intD (opd P st P.rt.int i).d).toNat*P.cellsOf el)))else(eQ P env o st).map fun v=>st.put o.dst v
   |_=>(eQ P env o st).map fun v=>st.put o.dst v))
 | .buildSlice t len parts=>if PH env o.dst then V7 P st o t len parts else(eQ P env o st).map fun v=>st.put o.dst v
 | .slice t x lo hi mx=>(match og st x t with
  |some _=>if aaw env o.dst&&lo.isNone&&mx.isNone&&gJ P st hi&&hi.isSome&&(sliceOf P t).isSome then some (st.put o.dst (prf (opd P st t x).id t (iP P st x o.type hi)))else none
  |none=>(eQ P env o st).map fun v=>st.put o.dst v)
 | .range t x=>KD P st o.dst t x
 | .next (.tmp i) true=>(match Vh st i with
  |some (s,p)=>if X5 P then(if decide (p<s.length)then some ((F5 st i s (p+(mW s p).2)).put o.dst (qC P s p))else some (st.put o.dst (qV P)))else none
  |none=>none)
 | .next _ _=>none
 |_=>(eQ P env o st).map fun v=>st.put o.dst v
def guardOf (P:Program) (ops:Array Oper) (st:St) (j:Nat) (want:Bool):Option Bool:=
 match (ops[j]?).bind (·.dst)with
 |some d=>if(st.get d).tag=9 then some false else(kE P (st.get d)).map fun b=>b==want
 |none=>none
def asked (P:Program) (ops:Array Oper) (o:Oper) (st:St):Option Bool:=
 match o.guard with
 |none=>some true
 |some (j,want)=>guardOf P ops st j want
def aP (P:Program) (env:Env) (ops:Array Oper) (o:Oper) (st:St):Option St:=
 match asked P ops o st with
 |some true=>if aT P env st o then dh P env o st else none
 |some false=>some (st.put o.dst vW)
 |none=>none
def di (P:Program) (env:Env) (ops:Array Oper):List Oper->St->Option St
 | [],st=>some st
 |o::rest,st=>(aP P env ops o st).bind (di P env ops rest)
def St.know (st:St) (i:Nat) (b:Bool):St:=st.put (some i) {st.get i with d:=.lit (.bool b) }
def TE {ρ:Type} (P:Program) (env:Env) (o:Oper) (st:St) (K:St->Option ρ):Option ρ:=
 match o.op with
 | .pick (.tmp c) a b=>(match kE P (st.get c)with
  |some t=>bif t then K ((st.know c true).put o.dst (aJ P (st.know c true) o a))else K ((st.know c false).put o.dst (aJ P (st.know c false) o b))
  |none=>none)
 | .binOp .quo _ _ _ _=>bif aT P env st o then(dh P env o st).bind K else none
 | .binOp .rem _ _ _ _=>bif aT P env st o then(dh P env o st).bind K else none
 | .binOp .shr _ _ _ _=>bif aT P env st o then(dh P env o st).bind K else none
 | .binOp .shl _ _ _ _=>bif aT P env st o then(dh P env o st).bind K else none
 | .binOp .add _ _ _ _=>bif aT P env st o then(dh P env o st).bind K else none
 | .next (.tmp i) true=>(match Vh st i with
  |some (s,p)=>if X5 P then(bif decide (p<s.length)then K ((F5 st i s (p+(mW s p).2)).put o.dst (qC P s p))else K (st.put o.dst (qV P)))else none
  |none=>none)
 | .slice _ _ _ _ _=>bif aT P env st o then(dh P env o st).bind K else none
 | .indexAddr _ _ _=>bif aT P env st o then(dh P env o st).bind K else none
 | .index _ _ _=>bif aT P env st o then(dh P env o st).bind K else none
 | .makeSlice _ _ _=>bif aT P env st o then(dh P env o st).bind K else none
 | .call _=>bif aT P env st o then(dh P env o st).bind K else none
 |_=>(dh P env o st).bind K
def pY {ρ:Type} (P:Program) (env:Env) (ops:Array Oper):List Oper->St->(St->Option ρ)->Option ρ
 | [],st,K=>K st
 |o::rest,st,K=>
  match o.guard with
  |none=>TE P env o st fun st'=>pY P env ops rest st' K
  |some (j,want)=>
   match (ops[j]?).bind (·.dst)with
   |some g=>if(st.get g).tag=9 then pY P env ops rest (st.put o.dst vW) K else(match kE P (st.get g)with
    |some b=>bif b==want then TE P env o (st.know g want) fun st'=>pY P env ops rest st' K
     else pY P env ops rest ((st.know g (!want)).put o.dst vW) K
    |none=>none)
   |none=>none
def aF:Op->Nat
 | .load _ _=>1
 | .fieldAddr _ _ _=>1
 | .alloc _=>2
 | .box _ _=>2
 | .makeSlice _ _ _=>2
 | .store _ _ _=>3
 | .assign x=>if uA x then 2 else 0
 | .call c=>if(dW c).isSome then 2 else if(jO c).isSome then 4 else if(lenOf c).isSome then 1 else if fG c then 1 else 0
 | .indexAddr _ _ _=>1
 | .slice _ _ _ _ _=>1
 | .next _ _=>4
 | .range _ _=>4
 |_=>0
def comm (ops:Array Oper) (x y:Oper):Bool:=
 x.apart ops y&&decide (aF x.op<=3)&&decide (aF y.op<=3)&&!(aF x.op==3&&decide (1<=aF y.op))&&!(aF y.op==3&&decide (1<=aF x.op))
def waits (ops:Array Oper):Nat->Nat->Nat->Bool
 |0,_,_=>false
 |n+1,j,i=>((ops[j]?).map fun o=>o.after.any fun e=>Region.binds .any e&&(e.on==i||waits ops n e.on i)).getD false
def TB (ops:Array Oper):Bool:=
 (List.range ops.size).all fun j=>match ops[j]? with
  |none=>true
  |some oj=>(oj.after.all fun e=>!Region.binds .any e||decide (e.on<j))&&
   (List.range j).all fun i=>match ops[i]? with
    |none=>true
    |some oi=>comm ops oi oj||waits ops 8 j i
def St.drop (st:St) (l:List Nat):St:=l.foldl (fun s i=>s.put (some i) dead) st
def fQ:List Oper->List Nat
 | []=>[]
 |o::ops=>if aF o.op==2 then(match o.dst with|some d=>(match o.op with| .alloc _=>d::(d+RID)::fQ ops|_=>d::fQ ops)|none=>fQ ops)else fQ ops
def Aw:Op->Bool
 | .alloc _=>true
 |_=>false
def y5 (ops:Array Oper) (i:Nat) (oi oj:Oper) (j:Nat):Bool:=
 oi.apart ops oj&&decide (aF oi.op<=1)&&(List.range i).all (fun k=>match ops[k]? with|some o=>aF o.op !=2|none=>true)&&
 (match oj.op with
  | .store _ (.tmp a) _=>(List.range ops.size).any fun k=>match ops[k]? with|some o=>Aw o.op&&o.dst==some a&&o.guard.isNone&&waits ops 8 j k|none=>false
  |_=>false)
def KY (ops:Array Oper):Bool:=
 (List.range ops.size).all fun j=>match ops[j]? with
  |none=>true
  |some oj=>(oj.after.all fun e=>!Region.binds .any e||decide (e.on<j))&&decide (aF oj.op<=3)&&
   (!Aw oj.op||(List.range ops.size).all fun k=>match ops[k]? with|some o=>k==j||o.dst !=oj.dst|none=>true)&&
   (decide (2<=aF oj.op)||(fQ ops.toList).all fun d=>oj.dst !=some d)&&
   (List.range j).all fun i=>match ops[i]? with
    |none=>true
    |some oi=>comm ops oi oj||waits ops 8 j i||y5 ops i oi oj j
def abM:Op->Bool
 | .fieldAddr _ _ _=>true
 | .load _ _=>true
 | .alloc _=>true
 |_=>false
def Cb (env:Env) (o:Oper):Bool:=match o.op with
 | .call c=>(dW c).isNone&&(jO c).isSome&&VV env o.dst
 |_=>false
def CW (env:Env) (ops:Array Oper) (x y:Oper):Bool:=x.apart ops y&&x.guard.isNone&&y.guard.isNone&&Cb env x&&abM y.op
def LM (env:Env) (ops:Array Oper):Bool:=
 (List.range ops.size).all fun j=>match ops[j]? with
  |none=>true
  |some oj=>(oj.after.all fun e=>!Region.binds .any e||decide (e.on<j))&&
   (List.range j).all fun i=>match ops[i]? with
    |none=>true
    |some oi=>comm ops oi oj||waits ops 8 j i||CW env ops oi oj
def nt (o:Oper):Bool:=match o.op with| .call c=>!fG c|_=>true
def Qh (ops:Array Oper) (j:Nat):Bool:=(List.range j).all fun k=>match ops[k]? with|some o=>nt o|none=>true
def KJ (ops:Array Oper):Bool:=
 (List.range ops.size).all fun j=>match ops[j]? with
  |none=>true
  |some oj=>(oj.after.all fun e=>!Region.binds .any e||decide (e.on<j))&&
   (List.range j).all fun i=>match ops[i]? with
    |none=>true
    |some oi=>waits ops 8 j i||(comm ops oi oj&&nt oi&&nt oj&&Qh ops j)
def bornB (env:Env) (o:Oper):Bool:=match o.op with| .call c=>(kT env c).isSome |_=>false
def Yz (o:Oper):Bool:=match o.dst with|some d=>decide (d<RID)|none=>true
def Ji (env:Env) (ops:Array Oper) (x y:Oper):Bool:=
 bif bornB env x then(x.apart ops y&&x.guard.isNone&&decide (aF y.op<=1)&&!bornB env y&&Yz y)
 else bif bornB env y then(x.apart ops y&&y.guard.isNone&&decide (aF x.op<=1)&&Yz x)else comm ops x y
def E8 (env:Env) (ops:Array Oper):Bool:=
 (List.range ops.size).all fun j=>match ops[j]? with
  |none=>true
  |some oj=>(!bornB env oj||oj.guard.isNone)&&(oj.after.all fun e=>!Region.binds .any e||decide (e.on<j))&&
   (List.range j).all fun i=>match ops[i]? with
    |none=>true
    |some oi=>Ji env ops oi oj||waits ops 8 j i
def PM (env:Env) (ops:Array Oper):List Nat:=
 (List.range ops.size).filter (fun j=>(List.range ops.size).any fun a=>((ops[a]?).map (Cb env)).getD false&&(a==j||waits ops 8 a j))++
 (List.range ops.size).filter (fun j=>!(List.range ops.size).any fun a=>((ops[a]?).map (Cb env)).getD false&&(a==j||waits ops 8 a j))
def wV (ops:Array Oper) (l:List Nat):List Oper:=l.filterMap (ops[·]?)
def Gs (env:Env) (ops:Array Oper):List Nat->List Nat->Bool
 |done,[]=>(List.range ops.size).all done.contains
 |done,k::rest=>(match ops[k]? with
  |none=>false
  |some ok=>!done.contains k&&(ok.after.all fun e=>!Region.binds .any e||done.contains e.on)&&
   rest.all fun j=>match ops[j]? with
    |none=>false
    |some oj=>comm ops ok oj||waits ops 8 j k||CW env ops ok oj)&&Gs env ops (k::done) rest
def kD (i:Nat) (e:Ent) (v:AV):AV:=if v.tag==2&&v.id==i then(if v.ix==0&&v.tys.isEmpty then dat e.ty e.d else dead)else if(refs v).contains i then dz v else v
def DI (i:Nat) (x:D):List Nat->List D->List D
 |t::ts,p::ps=>(if t==i+2 then x else p)::DI i x ts ps
 |_,ps=>ps
def jS (i:Nat) (e:Ent) (v:AV):AV:= {v with tys:=v.tys.map (fun x=>if x==i+2 then 0 else x),d:=.agg (DI i e.d v.tys (bF v.d)) }
def dI (i:Nat) (e f:Ent):Ent:=
 match f.c with
 |some v=>if v.tag==2&&v.id==i&&v.ix==0&&v.tys.isEmpty&&f.ty==e.ty then⟨f.ty,e.d,f.row,none⟩else if v.tag==7&&(refs v).contains i then(if(jS i e v).tys.all (· ==0)then⟨f.ty,(jS i e v).d,f.row,none⟩else⟨f.ty,f.d,f.row,some (jS i e v)⟩)else if(refs v).contains i then⟨f.ty,f.d,f.row,some (dz v)⟩else f
 |none=>f
def St.still (st:St) (i:Nat):St:=
 match st.bx i with
 |some e=>if e.row==0 then st else {sl:=st.sl.map (kD i e),bx:=fun j=>if j=i then none else(st.bx j).map (dI i e) }
 |none=>st
def St.rowAtSlot (st:St) (i:Nat):Option Nat:=
 if(st.get i).tag==2&&(st.get i).ix==0&&(st.get i).tys.isEmpty then(match st.bx (st.get i).id with
  |some e=>if e.row==0 then(match e.c with|some v=>if v.tag==2 then some v.id else none|none=>none)else some (st.get i).id
  |none=>none)else none
def St.stillSlot (st:St) (i:Nat):St:=match st.rowAtSlot i with|some j=>st.still j|none=>st
def tmpsOf (l:List Operand):List Nat:=l.filterMap fun x=>match x with| .tmp i=>some i|_=>none
def Wq (ops:List Oper) (a:Nat):Bool:=ops.any fun o=>o.dst==some a&&(match o.op with| .fieldAddr _ _ _=>true| .indexAddr _ _ _=>true|_=>false)
def Zy (env:Env) (ops:List Oper) (o:Oper) (S:List Nat):List Nat:=
 match o.op with
 | .load _ (.tmp i)=>(match o.dst with|some d=>if S.contains d then i::S else S|none=>S)
 | .load _ _=>S
 | .fieldAddr _ _ _=>S
 | .makeFunc _ first _=>tmpsOf first.toList++S
 | .store _ (.tmp a) (.tmp y)=>if Wq ops a then y::S else S
 | .store _ _ _=>S
 | .box _ _=>S
 | .move (.tmp i)=>(match o.dst with|some d=>if S.contains d then i::S else S|none=>S)
 | .assign (.tmp i)=>(match o.dst with|some d=>if S.contains d then i::S else S|none=>S)
 | .call c=>(match dW c with
  |some (x,_)=>tmpsOf [x]++S
  |none=>match jO c with
  |some (_,x,_)=>tmpsOf [x]++S
  |none=>if(lenOf c).isSome then S else match c.callee with
   | .value (.func f)=>if env.hp&&(env.h f).isSome then S else tmpsOf c.args.toList++S
   |_=>tmpsOf c.args.toList++S)
 | .indexAddr _ _ i=>tmpsOf [i]++S
 | .slice _ x lo hi mx=>if aaw env o.dst then S else tmpsOf (Op.slice 0 x lo hi mx).operands.toList++S
 |p=>tmpsOf p.operands.toList++S
def sinks (env:Env) (ops:List Oper):List Oper->List Nat
 | []=>[]
 |o::rest=>Zy env ops o (sinks env ops rest)
def St.still7 (st:St) (i:Nat):St:=
 if(st.get i).tag==2&&(st.get i).ix==0&&(st.get i).tys.isEmpty then(match st.bx (st.get i).id with
  |some e=>(match e.c with|some v=>if v.tag==7 then(NG v).foldl St.still st else st|none=>st)
  |none=>st)else st
def RV (ops:List Oper):List Nat:=ops.filterMap fun o=>match o.op with| .load _ (.tmp i)=>some i|_=>none
def prep (env:Env) (ops:List Oper) (st:St):St:=(fQ ops).foldl St.kill ((RV ops).foldl St.still7 ((sinks env ops ops).foldl St.stillSlot st))
def aZ (l:List (Nat×Option Ent)) (j:Nat):Option Ent:=match l.find? (fun p=>p.1==j)with|some p=>p.2|none=>none
def FID:Nat:=900000
def keepA (ids:List Nat) (v:AV):AV:=if(refs v).all ids.contains then(if v.tag==1&&!(v.ix==1&&ids.contains FID)then dat v.ty v.d else v)else dz v
def St.canon (ds ids:List Nat) (st:St):St:=
 {sl:=(st.drop ds).sl.map (keepA ids),bx:=aZ (ids.map fun i=>(i,(st.bx i).map (Ent.mapC (keepA ids)))) }
abbrev ay:=Nat->Option (List Nat×List Nat×List Nat)
def qM:Code->Nat
 | .region id _ _=>id
 | .seq a _=>qM a
 | .block _ b=>qM b
 | .loop b=>qM b
 |_=>0
def preL (h:ay) (b:Code) (st:St):St:=
 match h (qM b)with
 |some (ds,ids,ss)=>(ss.foldl St.stillSlot st).canon ds ids
 |none=>st
def Nb {ρ:Type} (next:St->Option ρ) (K:Exit->St->Option ρ) (e:Exit) (s:St):Option ρ:=
 match e with
 | .normal=>next s
 | .exit i=>K (.exit i) s
 | .ret=>K .ret s
 |_=>none
def aG {ρ:Type} (id:Nat) (K:Exit->St->Option ρ) (e:Exit) (s:St):Option ρ:=
 match e with
 | .normal=>K .normal s
 | .exit i=>if i=id then K .normal s else K (.exit i) s
 | .ret=>K .ret s
 |_=>none
def aN {ρ:Type} (pre:St->St) (body:St->(Exit->St->Option ρ)->Option ρ):Nat->St->(Exit->St->Option ρ)->Option ρ
 |0,_,_=>none
 |n+1,st,K=>body st (Nb (fun s=>aN pre body n (pre s) K) K)
def az {ρ:Type} (P:Program) (env:Env) (h:ay) (fuel:Nat):Code->St->(Exit->St->Option ρ)->Option ρ
 | .skip,st,K=>K .normal st
 | .region _ ops draw,st,K=>if draw then(if ops.any (bornB env)&&E8 env ops then pY P env.part ops ops.toList (prep env.part ops.toList st) (K .normal)else if(ops.any fun o=>!nt o)&&KJ ops then pY P env.half ops ops.toList (prep env.half ops.toList st) (K .normal)else if TB ops||KY ops||LM env.plain ops then pY P env.plain ops ops.toList (prep env.plain ops.toList st) (K .normal)
   else if Gs env.plain ops [] (PM env.plain ops)then pY P env.plain ops (wV ops (PM env.plain ops)) (prep env.plain ops.toList st) (K .normal)else none)
  else pY P env ops ops.toList (prep env ops.toList st) (K .normal)
 | .seq a b,st,K=>az P env h fuel a st (Nb (fun s=>az P env h fuel b s K) K)
 | .cond (.const (.bool b)) x y,st,K=>bif b then az P env h fuel x st K else az P env h fuel y st K
 | .cond (.tmp c) x y,st,K=>(match kE P (st.get c)with
  |some b=>bif b then az P env h fuel x (st.know c true) K else az P env h fuel y (st.know c false) K
  |none=>none)
 | .block id b,st,K=>az P env h fuel b st (aG id K)
 | .loop b,st,K=>aN (preL h b) (az P env h fuel b) fuel (preL h b st) K
 | .exit id,st,K=>K (.exit id) st
 | .label _,st,K=>K .normal st
 | .ret,st,K=>K .ret st
 |_,_,_=>none
def cZ {ρ:Type} (P:Program) (env:Env) (h:ay) (fuel:Nat) (b:Code) (K:Exit->St->Option ρ):Exit->St->Option ρ:=Nb (fun s=>az P env h fuel b s K) K
def sub:List Nat->Code->Code
 | [],c=>c
 |0::p,.seq a _=>sub p a
 |_::p,.seq _ b=>sub p b
 |0::p,.cond _ a _=>sub p a
 |_::p,.cond _ _ b=>sub p b
 |_::p,.block _ b=>sub p b
 |_::p,.loop b=>sub p b
 |_,c=>c
def CB (P:Program) (st:St):ResultVar->Option AV
 | .tmp t=>if(st.get t).tag==1 then some (dat (st.get t).ty (st.get t).d)else none
 | .cell a t=>(ldA P st t (st.get a)).map (dat t)
def tV (P:Program) (st:St):List ResultVar->Option (List AV)
 | []=>some []
 |r::rs=>match CB P st r,tV P st rs with
  |some x,some xs=>some (x::xs)
  |_,_=>none
def Uy (P:Program) (fn:Func) (st:St):Option AV:=
 match tV P st fn.results.toList with
 |some [x]=>some x
 |some (x::xs)=>some (aL ((x::xs).map (·.ty)) (.agg ((x::xs).map (·.d))))
 |some []=>some (aL [] (.agg []))
 |none=>none
def vU (fn:Func) (args:List AV):St:= {sl:=args++List.replicate (fn.ntmps - args.length) dead,bx:=fun _=>none }
def gY:List ResultVar->List Nat
 | []=>[]
 | .tmp t::rs=>t::gY rs
 | .cell t _::rs=>t::gY rs
def dJ (P:Program) (fn:Func) (e:Exit) (s:St):Option AV:=
 match e with
 | .normal=>Uy P fn ((gY fn.results.toList).foldl St.stillSlot s)
 | .ret=>Uy P fn ((gY fn.results.toList).foldl St.stillSlot s)
 |_=>none
def aU (P:Program) (env:Env) (h:ay) (fuel:Nat) (fn:Func) (args:List AV):Option AV:=
 match fn.body with
 |some c=>if args.all (fun v=>v.tag==1&&v.ix==0&&v.tys.isEmpty)then az P env h fuel c (vU fn args) (dJ P fn)else none
 |none=>none
def su (P:Program) (env:Env) (h:ay) (fuel:Nat) (fn:Func) (args:List AV):Option AV:=
 match fn.body with
 |some c=>az P env h fuel c (vU fn args) (dJ P fn)
 |none=>none
def ou (fn:Func) (args:List AV) (h:List Ent):St:= {sl:=args++List.replicate (fn.ntmps - args.length) dead,bx:=bQ h }
def Ef (m:Nat) (st:St):List (Option Ent):=(List.range m).map fun k=>st.bx (OID+k)
def qA (P:Program) (fn:Func) (m:Nat) (e:Exit) (s:St):Option (AV×List (Option Ent)):=
 match e with
 | .normal | .ret=>if(Ef m ((gY fn.results.toList).foldl St.stillSlot s)).all (fun e=>match e with|some e=>oG m (jV e)|none=>true)then
   (Uy P fn ((gY fn.results.toList).foldl St.stillSlot s)).map fun r=>(r,Ef m ((gY fn.results.toList).foldl St.stillSlot s))else none
 |_=>none
def adE (m:Nat) (v:AV):Bool:=(v.tag==1&&v.ix==0)||(lY v&&oG m (refs v))
def jP (P:Program) (env:Env) (hh:ay) (fuel:Nat) (fn:Func) (args:List AV) (h:List Ent):Option (AV×List (Option Ent)):=
 match fn.body with
 |some c=>if args.all (adE h.length)&&decide (fn.ntmps<RID)then az P env hh fuel c (ou fn args h) (qA P fn h.length)else none
 |none=>none
def alA (P:Program) (fn:Func) (e:Exit) (s:St):Option (AV×List Ent):=
 match e with
 | .normal | .ret=>(match fn.results.toList with
  | [.tmp t]=>if lY (s.get t)&&ku s [s.get t] (nJ s [s.get t])then some (dD (fwd (nJ s [s.get t])) (s.get t),(nJ s [s.get t]).map (jb s (nJ s [s.get t])))else none
  |_=>none)
 |_=>none
def akR (P:Program) (env:Env) (hh:ay) (fuel:Nat) (fn:Func) (args:List AV):Option (AV×List Ent):=
 match fn.body with
 |some c=>if args.all (fun v=>v.tag==1&&v.ix==0&&v.tys.isEmpty)then az P env hh fuel c (vU fn args) (alA P fn)else none
 |none=>none
def ag (fn:Func):Code:=fn.body.getD .skip
end Go.Ev
