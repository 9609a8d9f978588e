/- Trees of functions, and lemmas. Nothing here is trusted. -/
import Derived.Orders
import Derived.LoopN
import Derived.Below
import GoSem.ClaimChange
namespace Go.Ev
open Go.RowKit
set_option linter.unusedVariables false
abbrev D := DataW Value

/-! ### Total readings of data -/
def partsD : D -> List D
 | .agg ps => ps
 | _ => []
def fieldD (d : D) (k : Nat) : D := (partsD d).getD k .nil
def setD (d : D) (k : Nat) (x : D) : D := .agg ((partsD d).set k x)
def intD : D -> Int
 | .lit (.int _ n) => n
 | _ => 0
def boolD : D -> Bool
 | .lit (.bool b) => b
 | _ => false
def strD : D -> List UInt8
 | .lit (.string s) => s
 | _ => []
def elemsD : D -> List D
 | .slice es _ => es
 | _ => []
/-- How long a slice or a text is. -/
def lenD : D -> Nat
 | .slice es _ => es.length
 | .lit (.string s) => s.length
 | _ => 0

/-- The data of a scalar type, written out. -/
def normD (P : Program) (t : TypeId) (d : D) : D :=
 match P.underlying t with
 | some (.int k) => .lit (.int k (intD d))
 | some .bool => .lit (.bool (boolD d))
 | _ => d

/-! ### Abstract values: 0 nothing is known, 1 data, 2 the address of a box (or of its field 'ix - 1'), 3 the address of data that stays, 4 a function with captured boxes ('id' the function, 'tys' the boxes), 6 several results, 9 nothing was put there -/
structure AV where
 tag : Nat
 ty : TypeId
 d : D
 id : Nat
 ix : Nat
 off : Nat
 tys : List TypeId

def dead : AV := ⟨0, 0, .nil, 0, 0, 0, []⟩
def undA : AV := ⟨9, 0, .nil, 0, 0, 0, []⟩
def dat (t : TypeId) (d : D) : AV := ⟨1, t, d, 0, 0, 0, []⟩
def bxp (id : Nat) (t : TypeId) : AV := ⟨2, t, .nil, id, 0, 0, []⟩
def fdp (id : Nat) (k off : Nat) (t : TypeId) : AV := ⟨2, t, .nil, id, k + 1, off, []⟩
/-- A slice with no room behind its end. -/
def ful (t : TypeId) (d : D) : AV := ⟨1, t, d, 0, 1, 0, []⟩
/-- The address of a row's element, and of its field. -/
def elp (id : Nat) (el : TypeId) (n : Int) : AV := ⟨2, el, .lit (.int .i64 n), id, 0, 0, [0]⟩
def elf (id : Nat) (n : Int) (k off : Nat) (t : TypeId) : AV := ⟨2, t, .lit (.int .i64 n), id, k + 1, off, [0]⟩
/-- The address of an element of an array that stands in a box. -/
def arp (id : Nat) (el : TypeId) (n : Int) (off : Nat) : AV := ⟨2, el, .lit (.int .i64 n), id, 0, off, [1]⟩
def clo (t : TypeId) (f : FuncId) (ids : List Nat) : AV := ⟨4, t, .nil, f, 0, 0, ids⟩
def refp (t : TypeId) (d : D) : AV := ⟨3, t, d, 0, 0, 0, []⟩
/-- A text that is gone through, up to where. -/
def itr (s : List UInt8) (pos : Nat) : AV := ⟨8, 0, .lit (.string s), 0, pos, 0, []⟩
/-- A row up to its element n, as a slice. -/
def prf (id : Nat) (t : TypeId) (n : Int) : AV := ⟨2, t, .lit (.int .i64 n), id, 1, 0, []⟩
def tupA (ts : List TypeId) (d : D) : AV := ⟨6, 0, d, 0, 0, 0, ts⟩

/-- Where the boxes begin that a call was handed, and how far a row that begins with a variable is from it. -/
def OID : Nat := 1000000
def RID : Nat := 100000

/-- A box: a variable in memory ('row' 0), with data d, or, if c is there, with what c is: a row, or a function with captured boxes. Or a row: the array of a slice, that no other value leads to but what is known to ('row' 1: it began as nil; 2: it was made; 4, 3: such ones that the call was handed, and that are where they were, as long as they were). -/
structure Ent where
 ty : TypeId
 d : D
 row : Nat
 c : Option AV
/-- Has it a block? A row that began as nil has one as soon as something is in it. -/
def Ent.live (e : Ent) : Bool := (e.row != 1 && e.row != 4) || !(elemsD e.d).isEmpty

structure St where
 sl : List AV
 bx : Nat -> Option Ent

def St.get (st : St) (i : Nat) : AV := st.sl.getD i dead
def St.put (st : St) (dst : Option Nat) (v : AV) : St :=
 match dst with
 | some d => { st with sl := st.sl.set d v }
 | none => st
def St.upd (st : St) (i : Nat) (e : Ent) : St := { st with bx := fun j => if j = i then some e else st.bx j }

/-! ### Types -/
def isAggB (P : Program) (t : TypeId) : Bool :=
 match P.underlying t with
 | some (.struct _) | some (.array _ _) => true
 | _ => false

/-- Is the reading of these cells, which lead to no memory, this data? -/
def chkRep (P : Program) : Nat -> TypeId -> List Value -> D -> Bool
 | 0, _, _, _ => false
 | n + 1, t, cs, d =>
  cs.length == P.cellsOf t && cs.all (·.oneCell') &&
  match P.underlying t, d with
  | some .bool, .lit (.bool b) => (match cs with | [.bool c] => b == c | _ => false)
  | some (.int k), .lit (.int k' z) => (match cs with | [.int k2 z2] => k' == k && k2 == k && z2 == z && (Lit.int k z).wf | _ => false)
  | some .string, .lit (.string s) => (match cs with | [.string b] => b.data.toList == s && decide (s.length <= maxLen) | _ => false)
  | some (.slice _), .slice es sp => (match cs, es, sp with | [.slice none 0 0], [], [] => true | _, _, _ => false)
  | some (.struct fs), .agg ps => ps.length == fs.size &&
    (List.range fs.size).all fun k => match fs[k]? with
     | some f => chkRep P n f.type ((cs.drop f.offset).take (P.cellsOf f.type)) (ps.getD k .nil)
     | none => true
  | some (.func _ _ _), .held v => (match cs, v with | [.nilFunc], .nilFunc => true | _, _ => false)
  | some (.map _ _), .held v => (match cs, v with | [.map none], .map none => true | _, _ => false)
  | some (.array m e), .agg ps => ps.length == m &&
    (List.range m).all fun k => chkRep P n e ((cs.drop (k * P.cellsOf e)).take (P.cellsOf e)) (ps.getD k .nil)
  | _, _ => false

/-- The zero data of a type. -/
def zeroD (P : Program) : Nat -> TypeId -> D
 | 0, _ => .nil
 | n + 1, t =>
  match P.underlying t with
  | some .bool => .lit (.bool false)
  | some (.int k) => .lit (.int k 0)
  | some .string => .lit (.string [])
  | some (.slice _) => .slice [] []
  | some (.func _ _ _) => .held .nilFunc
  | some (.map _ _) => .held (.map none)
  | some (.struct fs) => .agg (fs.toList.map fun f => zeroD P n f.type)
  | some (.array m e) => .agg (List.replicate m (zeroD P n e))
  | _ => .nil

def deep : Nat := 20

/-- The zero value's data, if it is what the program's own table says. -/
def zeroOf (P : Program) (t : TypeId) : Option D :=
 match (P.info? t).bind (·.zero) with
 | some v => if chkRep P deep t v.cells.toList (zeroD P deep t) && (v.cells.size == P.cellsOf t) then some (zeroD P deep t) else none
 | none => none

/-- Fields lie apart. -/
def layOK (P : Program) (fs : Array Field) (size : Nat) : Bool :=
 (List.range fs.size).all fun i => match fs[i]? with
  | none => true
  | some f => decide (f.offset + P.cellsOf f.type <= size) && decide (0 < P.cellsOf f.type) &&
   (List.range fs.size).all fun j => match fs[j]? with
    | none => true
    | some g => i == j || decide (f.offset + P.cellsOf f.type <= g.offset) || decide (g.offset + P.cellsOf g.type <= f.offset)

/-- Types whose values are held against one another part by part: numbers, bools, texts, structs and arrays of these. -/
def eqOK (P : Program) : Nat -> TypeId -> Bool
 | 0, _ => false
 | n + 1, t =>
  match P.underlying t with
  | some .bool | some (.int _) | some .string => true
  | some (.struct fs) => !P.stoodInHeld t && layOK P fs (P.cellsOf t) && fs.toList.all fun f => f.name != "_" && eqOK P n f.type
  | some (.array _ e) => decide (0 < P.cellsOf e) && eqOK P n e
  | _ => false

def eqD (P : Program) : Nat -> TypeId -> D -> D -> Bool
 | 0, _, _, _ => false
 | n + 1, t, x, y =>
  match P.underlying t with
  | some .bool => boolD x == boolD y
  | some (.int _) => intD x == intD y
  | some .string => strD x == strD y
  | some (.struct fs) => (List.range fs.size).all fun k => match fs[k]? with
   | some f => eqD P n f.type (fieldD x k) (fieldD y k)
   | none => true
  | some (.array m e) => (List.range m).all fun k => eqD P n e (fieldD x k) (fieldD y k)
  | _ => false

/-- Package-level tables that calls read, and what they hold. -/
def deBruijn : List Int := [0, 1, 56, 2, 57, 49, 28, 3, 61, 58, 42, 50, 38, 29, 17, 4, 62, 47, 59, 36, 45, 43, 51, 22, 53, 39, 33, 30, 24, 18, 12, 5, 63, 55, 48, 27, 60, 41, 37, 16, 46, 35, 44, 21, 52, 32, 23, 11, 54, 26, 40, 15, 34, 20, 31, 10, 25, 14, 19, 9, 13, 8, 7, 6]
def knownTabs : List (String × IntKind × List Int) := [("internal/strconv.uint64pow10", .u64, (List.range 20).map fun i => (10 : Int) ^ i), ("math/bits.deBruijn64tab", .u8, deBruijn), ("roadbook/card.divisors", .i64, [10, 3])]
/-- The table that an operand names. -/
def tabOf (P : Program) : Operand -> Option (String × IntKind × List Int)
 | .global g => knownTabs.find? fun x => P.globalNamed x.1 == some g
 | _ => none
/-- The address of a table's element, which is known. -/
def tabA (t : TypeId) (k : IntKind) (z : Int) : AV := ⟨3, t, .lit (.int k z), 0, 1, 0, []⟩

/-! ### Operands -/
def constD (P : Program) (t : TypeId) (v : Value) : AV :=
 if P.cellsOf t ≠ 1 then (match v with
  | .agg cs => if isAggB P t && chkRep P deep t cs.toList (zeroD P deep t) then dat t (zeroD P deep t) else dead
  | _ => dead) else
 match P.underlying t, v with
 | some .bool, .bool b => dat t (.lit (.bool b))
 | some (.int k), .int k' n => if k' = k /\ (Lit.int k n).wf = true then dat t (.lit (.int k n)) else dead
 | some .string, .string s => if s.size <= maxLen then dat t (.lit (.string s.data.toList)) else dead
 | some (.slice _), .slice none 0 0 => dat t (.slice [] [])
 | some (.func _ _ _), .nilFunc => dat t (.held .nilFunc)
 | _, _ => dead

def opd (P : Program) (st : St) (t : TypeId) : Operand -> AV
 | .tmp i => st.get i
 | .const v => constD P t v
 | .func f => match P.underlying t with
  | some (.func _ _ _) => if P.cellsOf t = 1 then dat t (.held (.func (.func f) #[] #[])) else dead
  | _ => dead
 | .global _ => dead

def isNilC : Operand -> Bool
 | .const (.slice none 0 0) => true
 | _ => false

/-- Any type will do. -/
def opd0 (P : Program) (st : St) (o : Oper) (x : Operand) : AV := opd P st o.type x

/-! ### Operations -/
def kindOf (P : Program) (x : AV) : Option IntKind :=
 if x.tag = 1 then (match P.underlying x.ty with | some (.int k) => some k | _ => none) else none
def isBoolA (P : Program) (x : AV) : Bool :=
 x.tag == 1 && (match P.underlying x.ty with | some .bool => true | _ => false)
def isStrA (P : Program) (x : AV) : Bool :=
 x.tag == 1 && (match P.underlying x.ty with | some .string => true | _ => false)

/-- The bool in a slot, if it is written as one. -/
def boolOf (P : Program) (x : AV) : Option Bool :=
 if isBoolA P x then (match x.d with | .lit (.bool b) => some b | _ => none) else none

def boolA (P : Program) (t : TypeId) (b : Bool) : Option AV :=
 match P.underlying t with
 | some .bool => if P.cellsOf t = 1 then some (dat t (.lit (.bool b))) else none
 | _ => none
def intA (P : Program) (t : TypeId) (k : IntKind) (n : Int) : Option AV :=
 match P.underlying t with
 | some (.int k') => if k' = k /\ P.cellsOf t = 1 then some (dat t (.lit (.int k n))) else none
 | _ => none

/-- The type of what an operation tells of a comparison: the dump leaves it open (0) where only a test asks; then the program's own bool serves. -/
def boolTy (P : Program) (o : Oper) : TypeId :=
 match P.underlying o.type with
 | some .bool => o.type
 | _ => P.rt.bool
def intTy (P : Program) (o : Oper) (t : TypeId) : TypeId :=
 match P.underlying o.type with
 | some (.int _) => o.type
 | _ => t

/-- Bit by bit. -/
def andI (k : IntKind) (x y : Int) : Int := k.wrap ((BitVec.ofInt k.bits x &&& BitVec.ofInt k.bits y).toNat : Int)
def orI (k : IntKind) (x y : Int) : Int := k.wrap ((BitVec.ofInt k.bits x ||| BitVec.ofInt k.bits y).toNat : Int)
def xorI (k : IntKind) (x y : Int) : Int := k.wrap ((BitVec.ofInt k.bits x ^^^ BitVec.ofInt k.bits y).toNat : Int)
def andNotI (k : IntKind) (x y : Int) : Int := k.wrap ((BitVec.ofInt k.bits x &&& ~~~ (BitVec.ofInt k.bits y)).toNat : Int)
def shlI (k : IntKind) (x y : Int) : Int := k.wrap (x * 2 ^ min y.toNat k.bits)

def binInt (P : Program) (o : Oper) (op : BinOp) (t : TypeId) (k : IntKind) (x y : Int) : Option AV :=
 match op with
 | .add => intA P (intTy P o t) k (k.wrap (x + y))
 | .sub => intA P (intTy P o t) k (k.wrap (x - y))
 | .mul => intA P (intTy P o t) k (k.wrap (x * y))
 | .quo => intA P (intTy P o t) k (k.wrap (x.tdiv y))
 | .rem => intA P (intTy P o t) k (x.tmod y)
 | .shr => intA P (intTy P o t) k (x.fdiv (2 ^ min y.toNat k.bits))
 | .shl => intA P (intTy P o t) k (shlI k x y)
 | .and => intA P (intTy P o t) k (andI k x y)
 | .or => intA P (intTy P o t) k (orI k x y)
 | .xor => intA P (intTy P o t) k (xorI k x y)
 | .andNot => intA P (intTy P o t) k (andNotI k x y)
 | .eql => boolA P (boolTy P o) (x == y)
 | .neq => boolA P (boolTy P o) (x != y)
 | .lss => boolA P (boolTy P o) (decide (x < y))
 | .leq => boolA P (boolTy P o) (decide (x <= y))
 | .gtr => boolA P (boolTy P o) (decide (x > y))
 | .geq => boolA P (boolTy P o) (decide (x >= y))

/-- Texts. -/
def strA (P : Program) (t : TypeId) (s : List UInt8) : Option AV :=
 match P.underlying t with
 | some .string => if P.cellsOf t = 1 then some (dat t (.lit (.string s))) else none
 | _ => none
def binStr (P : Program) (o : Oper) (op : BinOp) (t : TypeId) (x y : List UInt8) : Option AV :=
 match op with
 | .add => strA P t (x ++ y)
 | .eql => boolA P (boolTy P o) (x == y)
 | .neq => boolA P (boolTy P o) (!(x == y))
 | _ => none

def isNilF : D -> Bool
 | .held .nilFunc => true
 | _ => false
def isFuncT (P : Program) (t : TypeId) : Bool := match P.underlying t with | some (.func _ _ _) => true | _ => false

def isShift : BinOp -> Bool
 | .shl => true
 | .shr => true
 | _ => false
def evBin (P : Program) (o : Oper) (op : BinOp) (t : TypeId) (x y : AV) : Option AV :=
 match kindOf P x, kindOf P y with
 | some k, some k' => if k' = k then binInt P o op x.ty k (intD x.d) (intD y.d) else if isShift op then binInt P o op x.ty k (intD x.d) (intD y.d) else none
 | _, _ =>
  if isBoolA P x && isBoolA P y then
   match op, P.underlying t with
   | .eql, some .bool => boolA P (boolTy P o) (boolD x.d == boolD y.d)
   | .neq, some .bool => boolA P (boolTy P o) (!(boolD x.d == boolD y.d))
   | _, _ => none
  else if x.tag == 1 && y.tag == 1 && x.ty == t && y.ty == t && isAggB P t && eqOK P deep t && !P.eqGuardType P.depth t then
   match op with
   | .eql => boolA P (boolTy P o) (eqD P deep t x.d y.d)
   | .neq => boolA P (boolTy P o) (!(eqD P deep t x.d y.d))
   | _ => none
  else if x.tag == 1 && y.tag == 1 && x.ty == t && y.ty == t && isFuncT P t && isNilF y.d then
   match op with
   | .eql => boolA P (boolTy P o) (isNilF x.d)
   | .neq => boolA P (boolTy P o) (!isNilF x.d)
   | _ => none
  else if isStrA P x && isStrA P y && x.ty == t then binStr P o op x.ty (strD x.d) (strD y.d)
  else none

def fieldOf (P : Program) (t : TypeId) (k : Nat) : Option Field :=
 match P.underlying t with
 | some (.struct fs) => if layOK P fs (P.cellsOf t) then fs[k]? else none
 | _ => none
/-- Is a field nil in the zero value? -/
def isNilCell : List Value -> Bool
 | [.slice none 0 0] => true
 | _ => false
def chkNil (P : Program) (t : TypeId) (k : Nat) : Bool :=
 match (P.info? t).bind (·.zero), fieldOf P t k with
 | some v, some f => isNilCell ((v.cells.toList.drop f.offset).take 1) && P.cellsOf f.type == 1
 | _, _ => false
/-- Fields of a literal that are nil: nothing is put there. -/
def nilsOf (P : Program) (t : TypeId) (n : Nat) (parts : List (Nat × Operand)) : List Nat := (List.range n).filter fun k => chkNil P t k && !(parts.any fun p => p.1 == k)

/-- Of those that only look at the boxes that they have captured, what they answer ('r'); of those that answer a row of their own, of what kind, and what is in it ('f'). What is known of functions: the type of what they answer, of which arguments, and the answer's data ('p'); of those that look at boxes and rows which they are handed, or write them: what they answer, and what these are then ('h': what is no longer there is none). -/
structure Env where
 p : FuncId -> Option (TypeId × (List AV -> Bool) × (List AV -> Option D))
 h : FuncId -> Option (TypeId × (List AV -> List Ent -> Bool) × (List AV -> List Ent -> Option (AV × List (Option Ent))))
 hp : Bool
 r : FuncId -> Option (TypeId × (List AV -> List Ent -> Bool) × (List AV -> List Ent -> Option D))
 f : FuncId -> Option (TypeId × (List AV -> Bool) × (List AV -> Option (Nat × D)))
 sp : Nat -> Option Nat
 sn : Bool
 g : FuncId -> Option (TypeId × (List AV -> Bool) × (List AV -> Option (AV × List Ent))) := fun _ => none
 lv : Bool := false
/-- Which struct variables are held field by field, with a row in which field ('sp'), and whether it is asked at all ('sn'). Where the order is open: nothing but what looks at data alone. -/
def Env.plain (env : Env) : Env := ⟨env.p, fun _ => none, false, env.r, fun _ => none, env.sp, false, fun _ => none, false⟩
/-- .. and what looks at a row that stands in a field. -/
def Env.lvl (env : Env) : Env := { env.plain with lv := true }

/-- .. or calls that answer closures of their own. -/
def Env.part (env : Env) : Env := ⟨env.p, fun _ => none, false, env.r, fun _ => none, env.sp, false, env.g, false⟩

/-- .. or calls of functions that stand in variables, which are handed boxes. -/
def Env.half (env : Env) : Env := ⟨env.p, env.h, false, env.r, fun _ => none, env.sp, false, fun _ => none, false⟩

/-- An answer, of one value or of several. -/
def mkRes (P : Program) (t : TypeId) (d : D) : AV :=
 match P.underlying t with
 | some (.tuple ts) => tupA ts.toList d
 | _ => dat t (normD P t d)

def fnD : D -> Option FuncId
 | .held (.func (.func f) _ _) => some f
 | _ => none
/-- A function with its first argument bound ahead: a method of a value. -/
def bndD (f : FuncId) (t : TypeId) (x : D) : D := .agg [.held (.func (.func f) #[] #[]), .lit (.int .u64 (t : Int)), x]
def fnB : D -> Option FuncId
 | .held (.func (.func f) _ _) => some f
 | .agg (.held (.func (.func f) _ _) :: _) => some f
 | _ => none
def bndA : D -> List AV
 | .agg [_, .lit (.int _ t), x] => [dat t.toNat x]
 | _ => []
def calleeOf (P : Program) (st : St) : Callee -> Option FuncId
 | .value (.func f) => some f
 | .value (.tmp i) => if (st.get i).tag == 1 && isFuncT P (st.get i).ty then fnB (st.get i).d else none
 | _ => none
def bndOf (P : Program) (st : St) : Callee -> List AV
 | .value (.tmp i) => if (st.get i).tag == 1 && isFuncT P (st.get i).ty then bndA (st.get i).d else []
 | _ => []

def argsOf (P : Program) (st : St) : List Operand -> List TypeId -> Option (List AV)
 | [], [] => some []
 | x :: xs, t :: ts => if (opd P st t x).tag == 1 then (argsOf P st xs ts).map (opd P st t x :: ·) else none
 | _, _ => none

/-- Arguments, with what is known of those that are nil by name. -/
def nilA (x : Operand) (v : AV) : AV := if isNilC x then { v with ix := 2 } else v
def argsN (P : Program) (st : St) (xs : List Operand) (ts : List TypeId) : Option (List AV) := (argsOf P st xs ts).map fun as => List.zipWith nilA xs as

def isRowB (st : St) (i : Nat) : Bool := match st.bx i with | some e => e.row != 0 | none => false
def isBoxB (st : St) (i : Nat) : Bool := match st.bx i with | some e => e.row == 0 | none => false

/-- 'append' of a variable and a slice. -/
def appOf (c : Call) : Option (Nat × Operand × TypeId) :=
 match c.callee, c.args.toList, c.argTypes.toList with
 | .builtin .append, [.tmp s, x], [t, t'] => if t == t' then some (s, x, t) else none
 | _, _, _ => none
/-- 'append' of nil and a slice. -/
def appNil (c : Call) : Option (Operand × TypeId) :=
 match c.callee, c.args.toList, c.argTypes.toList with
 | .builtin .append, [.const (.slice none 0 0), x], [t, t'] => if t == t' then some (x, t) else none
 | _, _, _ => none
/-- A type of elements that a row may have: its size is known, and is small. -/
def elemOK (P : Program) (el : TypeId) : Bool :=
 (zeroOf P el).isSome && decide (0 < P.cellsOf el) && (match P.info? el with | some i => decide (i.bytes <= 65536) | none => false)
def sliceOf (P : Program) (t : TypeId) : Option TypeId := match P.underlying t with | some (.slice el) => if P.cellsOf t == 1 && elemOK P el then some el else none | _ => none
/-- Which boxes and rows a value leads to. -/
def rids (v : AV) : List Nat := v.tys.filterMap fun x => if x < 2 then none else some (x - 2)
def refs (v : AV) : List Nat := if v.tag == 2 then [v.id] else if v.tag == 4 then v.tys else if v.tag == 7 then rids v else []
/-- Nothing is known any more: of a struct that is held field by field, of its fields. -/
def dz (v : AV) : AV := if v.tag == 7 then { v with tys := v.tys.map fun c => if c < 2 then c else 1 } else if v.tag == 8 then v else dead
def refsE (e : Ent) : List Nat := match e.c with | some v => refs v | none => []
def killL (l : List Nat) (v : AV) : AV := if (refs v).any l.contains then dz v else v
def Ent.mapC (g : AV -> AV) (e : Ent) : Ent := { e with c := e.c.map g }
/-- A row is as it stands now: nothing else leads to it. -/
def St.renew (st : St) (i : Nat) (e : Ent) : St := { sl := st.sl.map (killL [i]), bx := fun j => if j = i then some e else (st.bx j).map (Ent.mapC (killL [i])) }
/-- A slice variable that begins as nil. -/
def nilRow (P : Program) (o : Oper) (st : St) : Option St :=
 match o.dst, sliceOf P o.type with
 | some d, some _ => if (st.bx d).isNone && decide (d < RID) then some ((st.upd d ⟨o.type, .slice [] [], 1, none⟩).put (some d) (bxp d o.type)) else none
 | _, _ => none
/-- The row of a slice variable. -/
def rowOf (st : St) (s : Nat) (t : TypeId) : Option Ent :=
 if (st.get s).tag == 2 && (st.get s).ix == 0 && (st.get s).tys.isEmpty then (match st.bx (st.get s).id with
  | some e => if e.ty == t && e.row != 0 then some e else none
  | none => none) else none
def rowX (st : St) (x : Operand) (t : TypeId) : Option Ent := match x with | .tmp s => rowOf st s t | _ => none
def lenOf (c : Call) : Option (Nat × TypeId) :=
 match c.callee, c.args.toList, c.argTypes.toList with
 | .builtin .len, [.tmp s], [t] => some (s, t)
 | _, _, _ => none
def lenRow (st : St) (c : Call) : Option Ent := match lenOf c with | some (s, t) => rowOf st s t | none => none
def appRow (P : Program) (st : St) (dst : Option Nat) (s : Nat) (x : Operand) (t : TypeId) : Option St :=
 match sliceOf P t, dst, rowOf st s t with
 | some _, some d, none =>
  if (st.get s).tag == 1 && (st.get s).ix == 1 && (st.get s).ty == t && (opd P st t x).tag == 1 && (opd P st t x).ty == t then
   (if (opd P st t x).ix == 1 then (match elemsD (opd P st t x).d with
    | [] => none
    | _ :: _ => if (st.bx d).isNone && decide (d < RID) then some ((st.upd d ⟨t, .slice (elemsD (st.get s).d ++ elemsD (opd P st t x).d) [], 2, none⟩).put (some d) (bxp d t)) else none)
   else some (st.put (some d) (dat t (.slice (elemsD (st.get s).d ++ elemsD (opd P st t x).d) []))))
  else none
 | some _, some d, some e =>
  if (opd P st t x).tag == 1 && (opd P st t x).ty == t then
   some ((st.renew (st.get s).id ⟨t, .slice (elemsD e.d ++ elemsD (opd P st t x).d) [], if e.row == 3 then 2 else if e.row == 4 then 1 else e.row, none⟩).put (some d) (bxp (st.get s).id t))
  else none
 | _, _, _ => none

/-- Nothing leads to a box any more. -/
def St.kill (st : St) (i : Nat) : St :=
 { sl := st.sl.map (killL [i]), bx := fun j => if j = i then none else (st.bx j).map (Ent.mapC (killL [i])) }
/-- 'append' to a row, of which no more than data is asked ('sp' 101). -/
def datApp (env : Env) (dst : Option Nat) : Bool := match dst with | some d => (match env.sp d with | some k => k == 101 || k == 105 | none => false) | none => false
/-- A row up to an element ('sp' 102), and 'append' to that. -/
def preSl (env : Env) (dst : Option Nat) : Bool := match dst with | some d => (match env.sp d with | some k => k == 102 | none => false) | none => false
def preOf (st : St) (s : Nat) (t : TypeId) : Option Ent :=
 if (st.get s).tag == 2 && (st.get s).ix == 1 && (st.get s).tys.isEmpty then (match st.bx (st.get s).id with
  | some e => if e.ty == t && e.row != 0 then some e else none
  | none => none) else none
def appPre (P : Program) (st : St) (dst : Option Nat) (s : Nat) (x : Operand) (t : TypeId) (e : Ent) : Option St :=
 match sliceOf P t, dst, elemsD (opd P st t x).d with
 | some _, some d, y :: ys =>
  if (opd P st t x).tag == 1 && (opd P st t x).ty == t then
   some ((st.renew (st.get s).id ⟨t, .slice ((elemsD e.d).take (intD (st.get s).d).toNat ++ y :: ys) [], if e.row == 3 then 2 else if e.row == 4 then 1 else e.row, none⟩).put (some d) (bxp (st.get s).id t))
  else none
 | _, _, _ => none
def appData (P : Program) (st : St) (dst : Option Nat) (s : Nat) (x : Operand) (t : TypeId) : Option St :=
 match sliceOf P t, dst, rowOf st s t with
 | some _, some d, some e =>
  if (opd P st t x).tag == 1 && (opd P st t x).ty == t && (st.get s).id == s then some ((st.kill (st.get s).id).put (some d) (dat t (.slice (elemsD e.d ++ elemsD (opd P st t x).d) []))) else none
 | some _, some d, none =>
  if (st.get s).tag == 1 && (st.get s).ix == 1 && (st.get s).ty == t && (opd P st t x).tag == 1 && (opd P st t x).ty == t then
   some (st.put (some d) (dat t (.slice (elemsD (st.get s).d ++ elemsD (opd P st t x).d) []))) else none
 | _, _, _ => none

def appNew (P : Program) (st : St) (dst : Option Nat) (x : Operand) (t : TypeId) : Option St :=
 match dst, sliceOf P t with
 | some d, some _ => if (opd P st t x).tag == 1 && (opd P st t x).ty == t && (st.bx d).isNone && decide (d < RID) then
   some ((st.upd d ⟨t, .slice (elemsD (opd P st t x).d) [], 1, none⟩).put (some d) (bxp d t)) else none
 | _, _ => none

/-! ### Calls that are handed boxes and rows -/
def calleeH (P : Program) (st : St) : Callee -> Option (FuncId × List Nat)
 | .value (.func f) => some (f, [])
 | .value (.tmp i) => if (st.get i).tag == 4 then some ((st.get i).id, (st.get i).tys) else if (st.get i).tag == 1 && isFuncT P (st.get i).ty then (fnD (st.get i).d).map fun f => (f, []) else none
 | _ => none
/-- A value that may stand in a variable, and is no data. -/
def isCont (v : AV) : Bool := (v.tag == 2 && v.ix == 0 && v.tys.isEmpty) || v.tag == 4
def argA (v : AV) : AV := if v.tag == 1 then dat v.ty v.d else v
def argsH (P : Program) (st : St) : List Operand -> List TypeId -> Option (List AV)
 | [], [] => some []
 | x :: xs, t :: ts => if (opd P st t x).tag == 1 || isCont (opd P st t x) then (argsH P st xs ts).map (argA (opd P st t x) :: ·) else none
 | _, _ => none
def capA (st : St) (i : Nat) : AV := bxp i (match st.bx i with | some e => e.ty | none => 0)
def hargs (P : Program) (st : St) (c : Call) : Option (List AV) :=
 match calleeH P st c.callee, argsH P st c.args.toList c.argTypes.toList with
 | some (_, caps), some as => if caps.all (isBoxB st) then some (as ++ caps.map (capA st)) else none
 | _, _ => none
def tmpCallee (c : Call) : Bool := match c.callee with | .value (.tmp _) => true | _ => false
def heapF (P : Program) (env : Env) (st : St) (c : Call) : Option (TypeId × (List AV -> List Ent -> Bool) × (List AV -> List Ent -> Option (AV × List (Option Ent)))) :=
 if env.hp || tmpCallee c then (match calleeH P st c.callee with | some x => env.h x.1 | none => none) else none

/-- Functions that only look at the boxes that they have captured. -/
def roCaps : Nat -> List Ent -> List AV
 | _, [] => []
 | k, e :: l => bxp (OID + k) e.ty :: roCaps (k + 1) l
def roSlot (st : St) (c : Call) : Option Nat :=
 match c.callee with
 | .value (.tmp i) => if (st.get i).tag == 4 then some i else none
 | _ => none
def freshF (env : Env) (c : Call) : Option (TypeId × (List AV -> Bool) × (List AV -> Option (Nat × D))) :=
 match c.callee with
 | .value (.func f) => env.f f
 | _ => none

def addNew (acc : List Nat) : List Nat -> List Nat
 | [] => acc
 | i :: l => if acc.contains i then addNew acc l else addNew (acc ++ [i]) l
def reach (st : St) : Nat -> List Nat -> Nat -> List Nat
 | 0, acc, _ => acc
 | n + 1, acc, k => match acc[k]? with
  | none => acc
  | some i => reach st n (addNew acc (match st.bx i with | some e => refsE e | none => [])) (k + 1)
/-- All that arguments lead to. -/
def idsOf (st : St) (as : List AV) : List Nat := reach st 60 (addNew [] (as.flatMap refs)) 0
def nodupB : List Nat -> Bool
 | [] => true
 | i :: l => !l.contains i && nodupB l
def closedB (st : St) (as : List AV) (ids : List Nat) : Bool :=
 nodupB ids && (as.flatMap refs).all ids.contains && ids.all fun i => match st.bx i with | some e => (refsE e).all ids.contains | none => false

def posOf : List Nat -> Nat -> Nat
 | [], _ => 0
 | i :: l, j => if j = i then 0 else posOf l j + 1
def fwd (ids : List Nat) (i : Nat) : Nat := OID + posOf ids i
def bwd (ids : List Nat) (k : Nat) : Nat := ids.getD (k - OID) 0
def renA (g : Nat -> Nat) (v : AV) : AV := if v.tag == 2 then { v with id := g v.id } else if v.tag == 4 then { v with tys := v.tys.map g } else if v.tag == 7 then { v with tys := v.tys.map fun x => if x < 2 then x else g (x - 2) + 2 } else v
def handed (r : Nat) : Nat := if r == 2 then 3 else if r == 1 then 4 else r
def taken (o : Option Ent) (r : Nat) : Nat := if r == 3 || r == 4 then (match o with | some e => e.row | none => 1) else r
def Ent.ren (g : Nat -> Nat) (k : Nat -> Nat) (e : Ent) : Ent := ⟨e.ty, e.d, k e.row, e.c.map (renA g)⟩
def entOf (st : St) (ids : List Nat) (i : Nat) : Ent := match st.bx i with | some e => e.ren (fwd ids) handed | none => ⟨0, .nil, 0, none⟩
def bxOf (h : List Ent) (i : Nat) : Option Ent := if i < OID then none else h[i - OID]?
def bxOf' (h : List (Option Ent)) (i : Nat) : Option Ent := if i < OID then none else (h[i - OID]?).join

/-- What is gone, or another row, behind a call. -/
def goneOf : List Nat -> List (Option Ent) -> List Nat
 | i :: ids, some e :: h => if e.row == 0 || e.row == 3 || e.row == 4 then goneOf ids h else i :: goneOf ids h
 | i :: ids, none :: h => i :: goneOf ids h
 | _, _ => []
def lookI : List Nat -> List (Option Ent) -> Nat -> Option (Option Ent)
 | i :: is, e :: es, j => if j = i then some e else lookI is es j
 | _, _, _ => none
def St.after (st : St) (ids : List Nat) (h : List (Option Ent)) : St :=
 { sl := st.sl.map (killL (goneOf ids h)), bx := fun j => match lookI ids h j with
  | some e => e.map (Ent.ren (bwd ids) (taken (st.bx j)))
  | none => (st.bx j).map (Ent.mapC (killL (goneOf ids h))) }
/-- What comes back leads to what was handed over, alone. -/
def inOut (m : Nat) (l : List Nat) : Bool := l.all fun i => decide (OID <= i) && decide (i < OID + m)
def callH (P : Program) (env : Env) (o : Oper) (st : St) (c : Call) : Option St :=
 match heapF P env st c, hargs P st c with
 | some (t, _, F), some as =>
  if t == o.type && closedB st as (idsOf st as) then
   (match F (as.map (renA (fwd (idsOf st as)))) ((idsOf st as).map (entOf st (idsOf st as))) with
    | some (r, h) => if h.length == (idsOf st as).length then some ((st.after (idsOf st as) h).put o.dst (renA (bwd (idsOf st as)) r)) else none
    | none => none)
  else none
 | _, _ => none

/-- Functions that only look at the boxes that they have captured, and at what these lead to, which they have captured, too. -/
def roEnts0 (st : St) (all : List Nat) : List Nat -> Option (List Ent)
 | [] => some []
 | i :: l => match st.bx i with
  | some e => if e.row == 0 && (refsE e).all all.contains then (roEnts0 st all l).map (⟨e.ty, e.d, 0, e.c.map (renA (fwd all))⟩ :: ·) else none
  | none => none
def roEnts (st : St) (ids : List Nat) : Option (List Ent) := roEnts0 st ids ids
def roCall (P : Program) (env : Env) (o : Oper) (st : St) (c : Call) (i : Nat) : Option St :=
 if nodupB (st.get i).tys then
  (match env.r (st.get i).id, argsOf P st c.args.toList c.argTypes.toList, roEnts st (st.get i).tys with
   | some (t, _, F), some as, some es => if t == o.type then (F (as.map argA ++ roCaps 0 es) es).map fun d => st.put o.dst (mkRes P t d) else none
   | _, _, _ => none)
 else none
def freshCall (P : Program) (env : Env) (o : Oper) (st : St) (c : Call) : Option St :=
 match freshF env c, argsN P st c.args.toList c.argTypes.toList, o.dst with
 | some (t, _, F), some as, some d => if t == o.type && (sliceOf P t).isSome && (st.bx d).isNone && decide (d < RID) then
   (match F as with
    | some (k, x) => if (k == 1 || k == 2) && (st.bx d).isNone then some ((st.upd d ⟨t, x, k, none⟩).put (some d) (bxp d t)) else none
    | none => none) else none
 | _, _, _ => none

/-! ### Calls that answer a closure, with boxes of its own -/
def bornF (env : Env) (c : Call) : Option (TypeId × (List AV -> Bool) × (List AV -> Option (AV × List Ent))) :=
 match c.callee with
 | .value (.func f) => env.g f
 | _ => none
def bornIds (d m : Nat) : List Nat := (List.range m).map fun k => d + (k + 1) * RID
def unhand (r : Nat) : Nat := if r == 3 then 2 else if r == 4 then 1 else r
def St.born (st : St) (d : Nat) (es : List Ent) : St :=
 { sl := st.sl, bx := fun j => match lookI (bornIds d es.length) (es.map some) j with
  | some (some e) => some (e.ren (bwd (bornIds d es.length)) unhand)
  | _ => st.bx j }
def bornCall (P : Program) (env : Env) (o : Oper) (st : St) (c : Call) : Option St :=
 match bornF env c, argsOf P st c.args.toList c.argTypes.toList, o.dst with
 | some (t, _, F), some as, some d => if t == o.type && decide (d < RID) then
   (match F as with
    | some (r, es) => if ((bornIds d es.length).all (fun i => (st.bx i).isNone) && decide (es.length <= 7)) && (inOut es.length (refs r) && es.all fun e => inOut es.length (refsE e)) then some ((st.born d es).put (some d) (renA (bwd (bornIds d es.length)) r)) else none
    | none => none) else none
 | _, _, _ => none

/-- How long a slice or a text is, by its type. -/
def avLen (P : Program) (v : AV) : Nat := match P.underlying v.ty with | some .string => lenD v.d | _ => (elemsD v.d).length
def idxStr (P : Program) (t : TypeId) (d : D) : Nat := match P.underlying t with | some (.array m _) => m | _ => lenD d
/-- Two texts are put together: not too long. -/
def addLen (P : Program) (t : TypeId) (x y : D) : Bool := match P.underlying t with | some .string => decide (lenD x + lenD y <= 4294967296) | _ => true
def arrLen (P : Program) (t : TypeId) : Nat := match P.underlying t with | some (.array m _) => m | _ => 0
/-- How many an index may be of. -/
def idxLen (P : Program) (t : TypeId) (d : D) : Nat := match P.underlying t with | some (.array m _) => m | _ => (elemsD d).length
def loOf (P : Program) (st : St) : Option Operand -> Int
 | some x => intD (opd P st P.rt.int x).d
 | none => 0
def hiOf (P : Program) (st : St) (x : Operand) (t : TypeId) : Option Operand -> Int
 | some y => intD (opd P st P.rt.int y).d
 | none => (avLen P (opd P st t x) : Int)
def sameOp : Operand -> Operand -> Bool
 | .tmp i, .tmp j => i == j
 | .const (.int k m), .const (.int k' n) => k == k' && m == n
 | _, _ => false

/-- Has a row so long room? Where it is asked for ('sp' 104, 105), by its bytes. -/
def roomB (P : Program) (t : TypeId) (n : Nat) : Bool := match P.underlying t with | some (.slice el) => (match P.info? el with | some i => decide (0 < i.bytes) && decide (n * i.bytes <= 140737488355328) | none => false) | _ => false
def roomy (env : Env) (dst : Option Nat) : Bool := match dst with | some d => (match env.sp d with | some k => k == 104 || k == 105 | none => false) | none => false
def roomOK (P : Program) (env : Env) (dst : Option Nat) (t : TypeId) (n : Nat) : Bool := if roomy env dst then roomB P t n else decide (n <= 2147483648)
/-- What must hold for an operation not to panic, and for a call to be known. -/
def chkOp (P : Program) (env : Env) (st : St) (o : Oper) : Bool :=
 match o.op with
 | .binOp .quo _ _ y yt => !(intD (opd P st yt y).d == 0)
 | .binOp .rem _ _ y yt => !(intD (opd P st yt y).d == 0)
 | .binOp .shr _ _ y yt => decide (0 <= intD (opd P st yt y).d)
 | .binOp .shl _ _ y yt => decide (0 <= intD (opd P st yt y).d)
 | .indexAddr t x i => (match rowX st x t with
  | some e => decide (0 <= intD (opd P st P.rt.int i).d) && decide (intD (opd P st P.rt.int i).d < ((elemsD e.d).length : Int))
  | none => decide (0 <= intD (opd P st P.rt.int i).d) && decide (intD (opd P st P.rt.int i).d < (idxLen P t (opd P st o.type x).d : Int)))
 | .makeSlice _ x y => (sameOp x y || decide (intD (opd P st P.rt.int x).d <= intD (opd P st P.rt.int y).d)) && decide (0 <= intD (opd P st P.rt.int x).d) && decide (intD (opd P st P.rt.int y).d <= 2147483648)
 | .slice t x lo hi _ => (match rowX st x t with
  | some e => decide (0 <= hiOf P st x o.type hi) && decide (hiOf P st x o.type hi < ((elemsD e.d).length : Int))
  | none => decide (0 <= loOf P st lo) && decide (loOf P st lo <= hiOf P st x o.type hi) && decide (hiOf P st x o.type hi <= (avLen P (opd P st o.type x) : Int)))
 | .index t x i => decide (0 <= intD (opd P st P.rt.int i).d) && decide (intD (opd P st P.rt.int i).d < (idxStr P t (opd P st t x).d : Int))
 | .binOp .add t x y yt => addLen P t (opd P st t x).d (opd P st yt y).d
 | .call c => (match appNil c with
  | some (x, t) => roomOK P env o.dst t (elemsD (opd P st t x).d).length
  | none => match appOf c with
  | some (s, x, t) => (match preOf st s t with
   | some e => roomOK P env o.dst t ((elemsD e.d).length + (elemsD (opd P st t x).d).length)
   | none => match rowOf st s t with
   | some e => roomOK P env o.dst t ((elemsD e.d).length + (elemsD (opd P st t x).d).length)
   | none => !env.lv && roomOK P env o.dst t ((elemsD (st.get s).d).length + (elemsD (opd P st t x).d).length))
  | none => (match heapF P env st c with
   | some (_, pre, _) => (match hargs P st c with
    | some as => pre (as.map (renA (fwd (idsOf st as)))) ((idsOf st as).map (entOf st (idsOf st as)))
    | none => true)
   | none => (match roSlot st c with
   | some i => (match env.r (st.get i).id, argsOf P st c.args.toList c.argTypes.toList, roEnts st (st.get i).tys with
    | some (_, pre, _), some as, some es => pre (as.map argA ++ roCaps 0 es) es
    | _, _, _ => true)
   | none => (match freshF env c, argsN P st c.args.toList c.argTypes.toList with
   | some (_, pre, _), some as => pre as
   | _, _ => (match bornF env c, argsOf P st c.args.toList c.argTypes.toList with
   | some (_, pre, _), some as => pre as
   | _, _ => (match calleeOf P st c.callee, argsOf P st c.args.toList c.argTypes.toList with
   | some f, some as => (match env.p f with
    | some (_, pre, _) => pre (bndOf P st c.callee ++ as)
    | none => true)
   | _, _ => true))))))
 | _ => true

def tabEl (P : Program) (m : Nat) (e : TypeId) (x : Operand) (i : AV) : Option AV :=
 match tabOf P x, P.underlying e with
 | some (_, k, zs), some (.int k') => if k' = k /\ P.cellsOf e = 1 /\ zs.length = m /\ (zs.all fun z => (Lit.int k z).wf) = true /\ (kindOf P i).isSome = true then some (tabA e k (zs.getD (intD i.d).toNat 0)) else none
 | _, _ => none
/-- Parts of a literal, one behind the other. -/
def partsOf (P : Program) (st : St) (tyAt : Nat -> Option TypeId) : List (Nat × Operand) -> D -> Option D
 | [], d => some d
 | (k, x) :: rest, d =>
  match tyAt k with
  | some t => if (opd P st t x).tag == 1 && (opd P st t x).ty == t then partsOf P st tyAt rest (setD d k (opd P st t x).d) else none
  | none => none

/-- The greater one of two. -/
def maxI (x y : Int) : Int := if y > x then y else x
/-- The smaller one of two. -/
def minI (x y : Int) : Int := if y < x then y else x
def evBuiltin (P : Program) (st : St) (o : Oper) : Builtin -> List Operand -> List TypeId -> Option AV
 | .max, [x, y], [t, t'] => (match kindOf P (opd P st t x), kindOf P (opd P st t' y) with
  | some k, some k' => if k' = k then intA P (intTy P o t) k (maxI (intD (opd P st t x).d) (intD (opd P st t' y).d)) else none
  | _, _ => none)
 | .min, [x, y], [t, t'] => (match kindOf P (opd P st t x), kindOf P (opd P st t' y) with
  | some k, some k' => if k' = k then intA P (intTy P o t) k (minI (intD (opd P st t x).d) (intD (opd P st t' y).d)) else none
  | _, _ => none)
 | .len, [x], [t] => (match P.underlying t with
  | some (.slice _) => if (opd P st t x).tag == 1 && (opd P st t x).ty == t then intA P (intTy P o P.rt.int) .i64 ((elemsD (opd P st t x).d).length : Int) else none
  | some .string => if (opd P st t x).tag == 1 && (opd P st t x).ty == t then intA P (intTy P o P.rt.int) .i64 ((strD (opd P st t x).d).length : Int) else none
  | _ => none)
 | _, _, _ => none

/-- A slice held against nil, where it is known ('ix' 2: nil, 3: not). -/
def evNil (P : Program) (o : Oper) (op : BinOp) (t : TypeId) (x : AV) : Option AV :=
 match P.underlying t with
 | some (.slice _) =>
  if x.tag == 1 && x.ty == t && (x.ix == 2 || x.ix == 3) then
   (match op with
    | .eql => boolA P (boolTy P o) (x.ix == 2)
    | .neq => boolA P (boolTy P o) (!(x.ix == 2))
    | _ => none)
  else none
 | _ => none
def intOpt (P : Program) (st : St) : Option Operand -> Bool
 | some x => (kindOf P (opd P st P.rt.int x)).isSome
 | none => true

/-- Bytes as a text. -/
def bytesL (l : List D) : List UInt8 := l.map fun d => UInt8.ofNat (intD d).toNat
def isByteT (P : Program) (e : TypeId) : Bool := match P.underlying e with | some (.int .u8) => P.cellsOf e == 1 | _ => false

/-- Captured boxes. -/
def capIds (P : Program) (st : St) : List Operand -> Option (List Nat)
 | [] => some []
 | x :: xs => if (opd P st 0 x).tag == 2 && (opd P st 0 x).ix == 0 && (opd P st 0 x).tys.isEmpty then (capIds P st xs).map ((opd P st 0 x).id :: ·) else none

/-- A number by another type of its kind: a conversion that changes nothing is none. -/
def retA (P : Program) (t : TypeId) (v : AV) : AV :=
 if v.tag == 1 && v.ty != t then (match P.underlying v.ty, P.underlying t with
  | some (.int k), some (.int k') => if k' = k /\ P.cellsOf t = 1 then dat t v.d else v
  | _, _ => v) else v
/-- How many fields a struct has. -/
def nF (P : Program) (t : TypeId) : Nat := match P.underlying t with | some (.struct fs) => fs.size | _ => 0
/-- A struct is built with a row in a field, where it is asked for ('sp' 103): it is held field by field. -/
def rowMark (env : Env) (dst : Option Nat) : Bool := env.hp && (match dst with | some d => (match env.sp d with | some k => k == 103 | none => false) | none => false)
def rowBuild (P : Program) (st : St) (t : TypeId) (z : D) : List (Nat × Operand) -> Option AV
 | [(k, .tmp i)] => (match fieldOf P t k with
  | some f => (match rowOf st i f.type with
   | some _ => if P.cellsOf f.type == 1 then some ⟨7, t, z, 0, 1, 0, (List.replicate (nF P t) 0).set k ((st.get i).id + 2)⟩ else none
   | none => none)
  | none => none)
 | _ => none
/-- The value of an operation that looks at no box. -/
def evVal (P : Program) (env : Env) (o : Oper) (st : St) : Option AV :=
 match o.op with
 | .move x => some (retA P o.type (opd0 P st o x))
 | .assign x => some (retA P o.type (opd0 P st o x))
 | .pick c a b => (match boolOf P (opd0 P st o c) with | some t => some (if t then opd0 P st o a else opd0 P st o b) | none => none)
 | .binOp op t x y yt => if isNilC y then evNil P o op t (opd P st t x) else evBin P o op t (opd P st t x) (opd P st yt y)
 | .convert s t x => (match kindOf P (opd0 P st o x), P.underlying t with
  | some _, some (.int k) => if (P.underlying s).isSome then intA P t k (k.wrap (intD (opd0 P st o x).d)) else none
  | none, some .string => (match P.underlying s with
   | some (.slice e) => if (opd0 P st o x).tag == 1 && (opd0 P st o x).ty == s && isByteT P e then strA P t (bytesL (elemsD (opd0 P st o x).d)) else none
   | _ => none)
  | _, _ => none)
 | .slice t x lo hi mx => (match P.underlying t with
  | some (.slice e) =>
   if mx.isNone && (opd0 P st o x).tag == 1 && (opd0 P st o x).ty == t && intOpt P st lo && intOpt P st hi && decide (0 < P.cellsOf e) then
    some (dat t (.slice (((elemsD (opd0 P st o x).d).drop (loOf P st lo).toNat).take (hiOf P st x o.type hi - loOf P st lo).toNat) [])) else none
  | some .string =>
   if mx.isNone && (opd0 P st o x).tag == 1 && (opd0 P st o x).ty == t && intOpt P st lo && intOpt P st hi && P.cellsOf t == 1 then
    some (dat t (.lit (.string (((strD (opd0 P st o x).d).drop (loOf P st lo).toNat).take (hiOf P st x o.type hi - loOf P st lo).toNat)))) else none
  | _ => none)
 | .unOp .not _ x => (if isBoolA P (opd0 P st o x) then boolA P (opd0 P st o x).ty (!boolD (opd0 P st o x).d) else none)
 | .unOp .neg _ x => (match kindOf P (opd0 P st o x) with | some k => intA P (opd0 P st o x).ty k (k.wrap (0 - intD (opd0 P st o x).d)) | none => none)
 | .field t x k => (match fieldOf P t k with
  | some f => if (opd P st t x).tag == 1 && (opd P st t x).ty == t then some (dat f.type (normD P f.type (fieldD (opd P st t x).d k))) else none
  | none => none)
 | .indexAddr t x i => (match P.underlying t with
  | some (.slice e) =>
   if (opd0 P st o x).tag == 1 && (opd0 P st o x).ty == t && (kindOf P (opd P st P.rt.int i)).isSome && decide (0 < P.cellsOf e) then
    some (refp e ((elemsD (opd0 P st o x).d).getD (intD (opd P st P.rt.int i).d).toNat .nil)) else none
  | some (.array m e) =>
   if (opd0 P st o x).tag == 3 && (opd0 P st o x).ty == t && (kindOf P (opd P st P.rt.int i)).isSome && decide (0 < P.cellsOf e) then
    some (refp e (fieldD (opd0 P st o x).d (intD (opd P st P.rt.int i).d).toNat)) else tabEl P m e x (opd P st P.rt.int i)
  | _ => none)
 | .extract x k => (match (opd0 P st o x).tys[k]? with
  | some t => if (opd0 P st o x).tag == 6 then some (dat t (normD P t (fieldD (opd0 P st o x).d k))) else none
  | none => none)
 | .build t parts => (match P.underlying t with
  | some (.struct fs) => if layOK P fs (P.cellsOf t) then (match zeroOf P t with
   | some z => if rowMark env o.dst then rowBuild P st t z parts.toList else (partsOf P st (fun k => (fs[k]?).map (·.type)) parts.toList z).map fun d => if env.sn then ⟨1, t, d, 0, 0, 0, nilsOf P t fs.size parts.toList⟩ else dat t d
   | none => none) else none
  | some (.array m e) => if decide (0 < P.cellsOf e) && P.cellsOf t == m * P.cellsOf e then (match zeroOf P t with
   | some z => (partsOf P st (fun k => if k < m then some e else none) parts.toList z).map (dat t)
   | none => none) else none
  | _ => none)
 | .index t x i => (match P.underlying t with
  | some (.array m e) => if (opd P st t x).tag == 1 && (opd P st t x).ty == t && (kindOf P (opd P st P.rt.int i)).isSome && decide (0 < P.cellsOf e) then
    some (dat e (normD P e (fieldD (opd P st t x).d (intD (opd P st P.rt.int i).d).toNat))) else none
  | some .string => if (opd P st t x).tag == 1 && (opd P st t x).ty == t && (kindOf P (opd P st P.rt.int i)).isSome then
    intA P o.type .u8 (((strD (opd P st t x).d).getD (intD (opd P st P.rt.int i).d).toNat 0).toNat : Int) else none
  | _ => none)
 | .makeFunc (.func f) first caps => (match first.toList with
  | [] => if isFuncT P o.type then (capIds P st caps.toList).map (clo o.type f) else none
  | [x] => if isFuncT P o.type && caps.size == 0 && P.cellsOf o.type == 1 && (opd P st 0 x).tag == 1 then some (dat o.type (bndD f (opd P st 0 x).ty (opd P st 0 x).d)) else none
  | _ => none)
 | .buildSlice t len parts => (match P.underlying t with
  | some (.slice e) =>
   if P.cellsOf t == 1 && decide (0 < P.cellsOf e) && decide (len * P.cellsOf e <= 4096) then
    (if len == 0 then (if parts.size == 0 then some (ful t (.slice [] [])) else none)
    else match zeroOf P e with
     | some z => (partsOf P st (fun k => if k < len then some e else none) parts.toList (.agg (List.replicate len z))).map fun d => ful t (.slice (partsD d) [])
     | none => none) else none
  | _ => none)
 | .call c => (match c.callee with
  | .builtin b => evBuiltin P st o b c.args.toList c.argTypes.toList
  | g => (match calleeOf P st g, argsOf P st c.args.toList c.argTypes.toList with
   | some f, some as => (match env.p f with
    | some (t, _, F) => if t == o.type then (F (bndOf P st g ++ as)).map (mkRes P t) else none
    | none => none)
   | _, _ => none))
 | _ => none

def eltD (e : Ent) (x : AV) : D := (elemsD e.d).getD (intD x.d).toNat .nil
def ldE (P : Program) (e : Ent) (t : TypeId) (x : AV) : Option D :=
 match P.underlying e.ty with
 | some (.slice el) => (match x.ix with
  | 0 => if el == t then some (normD P t (eltD e x)) else none
  | k + 1 => (match fieldOf P el k with
   | some f => if f.type == t then some (normD P t (fieldD (eltD e x) k)) else none
   | none => none))
 | _ => none
def putE (e : Ent) (x : AV) (d : D) : Ent := ⟨e.ty, .slice ((elemsD e.d).set (intD x.d).toNat d) [], e.row, none⟩
def stE (P : Program) (e : Ent) (t : TypeId) (x : AV) (d : D) : Option Ent :=
 match P.underlying e.ty with
 | some (.slice el) => (match x.ix with
  | 0 => if el == t then some (putE e x d) else none
  | k + 1 => (match fieldOf P el k with
   | some f => if f.type == t then some (putE e x (setD (eltD e x) k d)) else none
   | none => none))
 | _ => none
/-- What is read at an address. -/
def ldA (P : Program) (st : St) (t : TypeId) (x : AV) : Option D :=
 if x.tag = 2 then (match st.bx x.id with
  | some e => if x.ty == t && e.row == 0 then (if e.c.isSome then none else if x.tys.isEmpty then (match x.ix with
   | 0 => if e.ty == t then some (normD P t e.d) else none
   | k + 1 => (match fieldOf P e.ty k with
    | some f => if f.type == t then some (normD P t (fieldD e.d k)) else none
    | none => none)) else if x.ix == 0 then some (normD P t (fieldD e.d (intD x.d).toNat)) else none) else if x.ty == t && e.row != 0 && !x.tys.isEmpty then ldE P e t x else none
  | none => none)
 else if x.tag = 3 then (if x.ty == t then some (normD P t x.d) else none)
 else none

/-- What a variable holds that is no data: a row, a function with captured boxes. -/
def boxC (st : St) (t : TypeId) (x : AV) : Option AV :=
 if x.tag == 2 && x.ix == 0 && x.tys.isEmpty then (match st.bx x.id with
  | some e => if x.ty == t && e.row == 0 then (match e.c with | some v => if v.tag == 7 || v.tag == 8 then none else some v | none => none) else none
  | none => none) else none
/-- A row that stands in a field, looked at where it stands. -/
def lvC (st : St) (t : TypeId) (x : AV) : Option AV :=
 match x.ix with
 | 0 => none
 | k + 1 => if x.tag == 2 && x.tys.isEmpty && x.ty == t then (match st.bx x.id with
  | some e => (match e.c with
   | some v => if e.row == 0 && v.tag == 7 && v.ix == 1 then (match v.tys[k]? with | some (j + 2) => some (bxp j t) | _ => none) else none
   | none => none)
  | none => none) else none
def boxL (lv : Bool) (st : St) (t : TypeId) (x : AV) : Option AV := match boxC st t x with | some v => some v | none => if lv then lvC st t x else none
def ldV (P : Program) (lv : Bool) (st : St) (t : TypeId) (x : AV) : Option AV :=
 match boxL lv st t x with
 | some v => some v
 | none => (ldA P st t x).map (dat t)
def one1 (P : Program) (t : TypeId) : Bool := P.cellsOf t == 1 && (match P.underlying t with | some (.slice _) => true | some (.func _ _ _) => true | some (.pointer _) => true | _ => false)
def stC (P : Program) (st : St) (t : TypeId) (x y : AV) : Option St :=
 if x.tag == 2 && x.ix == 0 && x.tys.isEmpty then (match st.bx x.id with
  | some e => if x.ty == t && e.row == 0 && e.ty == t && one1 P t && isCont y then some (st.upd x.id ⟨t, .nil, 0, some y⟩) else none
  | none => none) else none

/-- What is written at an address. -/
def stA (P : Program) (st : St) (t : TypeId) (x : AV) (d : D) : Option St :=
 if x.tag = 2 then (match st.bx x.id with
  | some e => if x.ty == t && e.row == 0 then (if x.tys.isEmpty then (match x.ix with
   | 0 => if e.ty == t then some (st.upd x.id ⟨e.ty, d, 0, none⟩) else none
   | k + 1 => if e.c.isSome then none else (match fieldOf P e.ty k with
    | some f => if f.type == t then some (st.upd x.id ⟨e.ty, setD e.d k d, 0, none⟩) else none
    | none => none)) else if x.ix == 0 && e.c.isNone then some (st.upd x.id ⟨e.ty, setD e.d (intD x.d).toNat d, 0, none⟩) else none) else if x.ty == t && e.row != 0 && !x.tys.isEmpty then (stE P e t x d).map (st.upd x.id) else none
  | none => none)
 else none

/-- The struct that an address leads into, if it is held field by field: its content, and which field. -/
def splAt (P : Program) (st : St) (t : TypeId) (x : AV) : Option (Ent × AV × Nat) :=
 if x.tag == 2 && x.tys.isEmpty && x.ty == t then (match st.bx x.id, x.ix with
  | some e, k + 1 => if e.row == 0 then (match e.c with
   | some v => if v.tag == 7 then (match fieldOf P e.ty k with
    | some f => if f.type == t then some (e, v, k) else none
    | none => none) else none
   | none => none) else none
  | _, _ => none) else none
/-- A field is read: a row is taken out of it. -/
def ldF (P : Program) (st : St) (o : Oper) (t : TypeId) (x : AV) (e : Ent) (v : AV) (k : Nat) : Option St :=
 match v.tys[k]? with
 | some 0 => some (st.put o.dst (dat t (normD P t (fieldD v.d k))))
 | some (j + 2) => (match st.bx j with
  | some r => if r.row != 0 && r.ty == t then (if v.ix == 1 then some (st.put o.dst (bxp j t)) else some ((st.upd x.id ⟨e.ty, e.d, 0, some { v with tys := v.tys.set k 1 }⟩).put o.dst (bxp j t))) else none
  | none => none)
 | _ => none
/-- A field is written: with data, or with a row. -/
def stF (P : Program) (st : St) (t : TypeId) (x y : AV) (e : Ent) (v : AV) (k : Nat) : Option St :=
 if y.tag == 1 && y.ty == t then some (st.upd x.id ⟨e.ty, e.d, 0, some { v with tys := v.tys.set k 0, d := setD v.d k y.d }⟩)
 else if y.tag == 2 && y.ix == 0 && y.tys.isEmpty then (match st.bx y.id with
  | some r => if r.row != 0 && r.ty == t && P.cellsOf t == 1 then some (st.upd x.id ⟨e.ty, e.d, 0, some { v with tys := v.tys.set k (y.id + 2) }⟩) else none
  | none => none) else none
/-- A field is written nil: it is a row from now on. -/
def stNd (P : Program) (env : Env) (st : St) (t : TypeId) (x y : AV) (d : Nat) : Option St :=
 if env.sn && x.tag == 2 && x.tys.isEmpty && x.ty == t && y.tag == 1 && y.ty == t && y.ix == 2 then (match env.sp d, st.bx d, x.ix with
  | some k, some e, k' + 1 => if k' == k && e.row == 0 && e.c.isNone then (match fieldOf P e.ty k with
   | some f => if f.type == t && (sliceOf P f.type).isSome && decide (d < RID) then
     some (((st.renew (d + (k + 2) * RID) ⟨f.type, .slice [] [], 1, none⟩)).upd d ⟨e.ty, .nil, 0, some ⟨7, e.ty, setD e.d k (.slice [] []), 0, 1, 0, (List.replicate (nF P e.ty) 0).set k (d + (k + 2) * RID + 2)⟩⟩) else none
   | none => none) else none
  | _, _, _ => none) else none
/-- A struct that is held field by field is written whole. -/
def stT (P : Program) (st : St) (t : TypeId) (x y : AV) : Option St :=
 if x.tag == 2 && x.ix == 0 && x.tys.isEmpty && x.ty == t && y.ty == t then (match st.bx x.id with
  | some e => if e.row == 0 && e.ty == t then some (st.upd x.id ⟨e.ty, .nil, 0, some y⟩) else none
  | none => none) else none
/-- All of a struct is written, and of a field it is known that it is nil. -/
def stSd (P : Program) (env : Env) (st : St) (t : TypeId) (x y : AV) (d : Nat) : Option St :=
 if env.sn && x.tag == 2 && x.ix == 0 && x.tys.isEmpty && x.ty == t && y.tag == 1 && y.ty == t then (match env.sp d, st.bx d with
  | some k, some e => if e.row == 0 && e.ty == t && y.tys.contains k then (match fieldOf P t k with
   | some f => if (sliceOf P f.type).isSome && decide (d < RID) then
     some (((st.renew (d + (k + 2) * RID) ⟨f.type, .slice [] [], 1, none⟩)).upd d ⟨t, .nil, 0, some ⟨7, t, y.d, 0, 0, 0, (List.replicate (partsD y.d).length 0).set k (d + (k + 2) * RID + 2)⟩⟩) else none
   | none => none) else none
  | _, _ => none) else if y.tag == 7 then stT P st t x y else stNd P env st t x y d
/-- The number of the variable is laid bare first: so the kernel counts with numbers. -/
def stS (P : Program) (env : Env) (st : St) (t : TypeId) (x y : AV) : Option St :=
 match x.id with
 | 0 => none
 | n + 1 => stSd P env st t x y (n + 1)
/-- A struct variable begins, with nothing in a field: a row. -/
def alS (P : Program) (env : Env) (st : St) (t : TypeId) (d : Nat) (z : D) : Option St :=
 match env.sp d with
 | some k => (match fieldOf P t k with
  | some f => if (sliceOf P f.type).isSome && (st.bx (d + (k + 2) * RID)).isNone && decide (k < 6) && chkNil P t k then
    some (((st.upd (d + (k + 2) * RID) ⟨f.type, .slice [] [], 1, none⟩).upd d ⟨t, .nil, 0, some ⟨7, t, z, 0, 0, 0, (List.replicate (partsD z).length 0).set k (d + (k + 2) * RID + 2)⟩⟩).put (some d) (bxp d t)) else none
  | none => none)
 | none => none

/-- A sign of a text, and how many bytes it takes. -/
def runeAt (s : List UInt8) (pos : Nat) : Nat × Nat := Utf8.decode ⟨s.toArray⟩ pos
/-- The type of what goes through a text: none. -/
def ITY : Nat := 999999999
/-- What goes through a text, by its box: the text, and where it is. -/
def itAt (st : St) (i : Nat) : Option (List UInt8 × Nat) :=
 if (st.get i).tag == 2 && (st.get i).ix == 0 && (st.get i).tys.isEmpty then (match st.bx (st.get i).id with
  | some e => (match e.c with
   | some v => (match v.d with | .lit (.string s) => if e.row == 0 && v.tag == 8 && e.ty == ITY then some (s, v.ix) else none | _ => none)
   | none => none)
  | none => none) else none
def stepIt (st : St) (i : Nat) (s : List UInt8) (p : Nat) : St := st.upd (st.get i).id ⟨ITY, .nil, 0, some (itr s p)⟩
def rtOK (P : Program) : Bool := (match P.underlying P.rt.bool, P.underlying P.rt.int, P.underlying P.rt.rune with | some .bool, some (.int .i64), some (.int .i32) => true | _, _, _ => false) &&
 P.cellsOf P.rt.bool == 1 && P.cellsOf P.rt.int == 1 && P.cellsOf P.rt.rune == 1
def nextA (P : Program) (s : List UInt8) (p : Nat) : AV := tupA [P.rt.bool, P.rt.int, P.rt.rune] (.agg [.lit (.bool true), .lit (.int .i64 (p : Int)), .lit (.int .i32 ((runeAt s p).1 : Int))])
def overA (P : Program) : AV := tupA [P.rt.bool] (.agg [.lit (.bool false)])
def rangeIt (P : Program) (st : St) (dst : Option Nat) (t : TypeId) (x : Operand) : Option St :=
 match dst, P.underlying t with
 | some d, some .string => if (opd P st t x).tag == 1 && (opd P st t x).ty == t && (st.bx d).isNone && decide (d < RID) && (P.underlying ITY).isNone then
   some ((st.upd d ⟨ITY, .nil, 0, some (itr (strD (opd P st t x).d) 0)⟩).put (some d) (bxp d ITY)) else none
 | _, _ => none

/-- A literal that is a row: where it is asked for ('sp' 100). -/
def litRow (env : Env) (dst : Option Nat) : Bool := env.hp && (match dst with | some d => (match env.sp d with | some k => k == 100 | none => false) | none => false)
def rowLit (P : Program) (st : St) (o : Oper) (t : TypeId) (len : Nat) (parts : Array (Nat × Operand)) : Option St :=
 match o.dst, sliceOf P t with
 | some d, some e => if (st.bx d).isNone && decide (d < RID) && len != 0 && decide (len * P.cellsOf e <= 4096) then (match zeroOf P e with
   | some z => (partsOf P st (fun k => if k < len then some e else none) parts.toList (.agg (List.replicate len z))).map fun dd => (st.upd d ⟨t, .slice (partsD dd) [], 2, none⟩).put (some d) (bxp d t)
   | none => none) else none
 | _, _ => none
/-- An operation, carried out. -/
def evOp (P : Program) (env : Env) (o : Oper) (st : St) : Option St :=
 match o.op with
 | .load t x => (match (if env.hp then splAt P st t (opd0 P st o x) else none) with
  | some (e, v, k) => ldF P st o t (opd0 P st o x) e v k
  | none => (ldV P env.lv st t (opd0 P st o x)).map fun v => st.put o.dst v)
 | .store t x y => if o.dst.isNone then (match (if env.hp || env.lv then splAt P st t (opd0 P st o x) else none) with
  | some (e, v, k) => stF P st t (opd0 P st o x) (opd P st t y) e v k
  | none => match (if env.hp then stS P env st t (opd0 P st o x) (nilA y (opd P st t y)) else none) with
  | some s => some s
  | none => if (opd P st t y).tag == 1 && (opd P st t y).ty == t then stA P st t (opd0 P st o x) (opd P st t y).d else stC P st t (opd0 P st o x) (opd P st t y)) else none
 | .fieldAddr t x k => (match fieldOf P t k with
  | some f =>
   if (opd0 P st o x).tag == 2 && (opd0 P st o x).ix == 0 && (opd0 P st o x).tys.isEmpty && (opd0 P st o x).ty == t && isBoxB st (opd0 P st o x).id then some (st.put o.dst (fdp (opd0 P st o x).id k f.offset f.type))
   else if (opd0 P st o x).tag == 3 && (opd0 P st o x).ty == t then some (st.put o.dst (refp f.type (fieldD (opd0 P st o x).d k)))
   else if (opd0 P st o x).tag == 2 && (opd0 P st o x).ix == 0 && (opd0 P st o x).ty == t && !(opd0 P st o x).tys.isEmpty && isRowB st (opd0 P st o x).id then some (st.put o.dst (elf (opd0 P st o x).id (intD (opd0 P st o x).d) k f.offset f.type))
   else none
  | none => none)
 | .alloc t => (match o.dst, zeroOf P t with
  | some d, some z => if (st.bx d).isNone && decide (d < RID) then (
    if env.hp && (env.sp d).isSome then alS P env st t d z else if env.hp && (sliceOf P t).isSome && one1 P t then (if (st.bx (d + RID)).isNone then some (((st.upd (d + RID) ⟨t, .slice [] [], 1, none⟩).upd d ⟨t, .nil, 0, some (bxp (d + RID) t)⟩).put (some d) (bxp d t)) else none)
    else some ((st.upd d ⟨t, z, 0, none⟩).put (some d) (bxp d t))) else none
  | _, _ => none)
 | .box t x => (match o.dst with
  | some d => if (st.bx d).isNone && decide (d < RID) then (if (opd P st t x).tag == 1 && (opd P st t x).ty == t then some ((st.upd d ⟨t, (opd P st t x).d, 0, none⟩).put (some d) (bxp d t))
   else if isCont (opd P st t x) && one1 P t then some ((st.upd d ⟨t, .nil, 0, some (opd P st t x)⟩).put (some d) (bxp d t)) else none) else none
  | none => none)
 | .makeSlice t x y => (match o.dst, sliceOf P t with
  | some d, some el => (match zeroOf P el with
   | some z => if (st.bx d).isNone && decide (d < RID) && (kindOf P (opd P st P.rt.int x)).isSome && (kindOf P (opd P st P.rt.int y)).isSome then
     some ((st.upd d ⟨t, .slice (List.replicate (intD (opd P st P.rt.int x).d).toNat z) [], 2, none⟩).put (some d) (bxp d t)) else none
   | none => none)
  | _, _ => none)
 | .assign x => if isNilC x then nilRow P o st else (evVal P env o st).map fun v => st.put o.dst v
 | .call c => (match appNil c with
  | some (x, t) => appNew P st o.dst x t
  | none => match appOf c with
  | some (s, x, t) => if datApp env o.dst then appData P st o.dst s x t else (match preOf st s t with
   | some e => appPre P st o.dst s x t e
   | none => appRow P st o.dst s x t)
  | none => (match lenRow st c with
   | some e => (intA P (intTy P o P.rt.int) .i64 ((elemsD e.d).length : Int)).map fun v => st.put o.dst v
   | none => if (heapF P env st c).isSome then callH P env o st c else (match roSlot st c with
    | some i => roCall P env o st c i
    | none => if (freshF env c).isSome then freshCall P env o st c else if (bornF env c).isSome then bornCall P env o st c else (evVal P env o st).map fun v => st.put o.dst v)))
 | .indexAddr t x i => (match rowX st x t with
  | some _ => (match sliceOf P t with
   | some el => if (kindOf P (opd P st P.rt.int i)).isSome then some (st.put o.dst (elp (opd P st t x).id el (intD (opd P st P.rt.int i).d))) else none
   | none => none)
  | none => (match P.underlying t with
   | some (.array _ el) =>
    if (opd0 P st o x).tag == 2 && (opd0 P st o x).ix == 0 && (opd0 P st o x).tys.isEmpty && (opd0 P st o x).ty == t && isBoxB st (opd0 P st o x).id && (kindOf P (opd P st P.rt.int i)).isSome && decide (0 < P.cellsOf el) then
     some (st.put o.dst (arp (opd0 P st o x).id el (intD (opd P st P.rt.int i).d) ((intD (opd P st P.rt.int i).d).toNat * P.cellsOf el))) else (evVal P env o st).map fun v => st.put o.dst v
   | _ => (evVal P env o st).map fun v => st.put o.dst v))
 | .buildSlice t len parts => if litRow env o.dst then rowLit P st o t len parts else (evVal P env o st).map fun v => st.put o.dst v
 | .slice t x lo hi mx => (match rowX st x t with
  | some _ => if preSl env o.dst && lo.isNone && mx.isNone && intOpt P st hi && hi.isSome && (sliceOf P t).isSome then some (st.put o.dst (prf (opd P st t x).id t (hiOf P st x o.type hi))) else none
  | none => (evVal P env o st).map fun v => st.put o.dst v)
 | .range t x => rangeIt P st o.dst t x
 | .next (.tmp i) true => (match itAt st i with
  | some (s, p) => if rtOK P then (if decide (p < s.length) then some ((stepIt st i s (p + (runeAt s p).2)).put o.dst (nextA P s p)) else some (st.put o.dst (overA P))) else none
  | none => none)
 | .next _ _ => none
 | _ => (evVal P env o st).map fun v => st.put o.dst v

/-- Does what guards an operation say this? -/
def guardOf (P : Program) (ops : Array Oper) (st : St) (j : Nat) (want : Bool) : Option Bool :=
 match (ops[j]?).bind (·.dst) with
 | some d => if (st.get d).tag = 9 then some false else (boolOf P (st.get d)).map fun b => b == want
 | none => none

/-- Is an operation of a region carried out? -/
def asked (P : Program) (ops : Array Oper) (o : Oper) (st : St) : Option Bool :=
 match o.guard with
 | none => some true
 | some (j, want) => guardOf P ops st j want

/-- An operation of a region, its guard asked first. -/
def opStep (P : Program) (env : Env) (ops : Array Oper) (o : Oper) (st : St) : Option St :=
 match asked P ops o st with
 | some true => if chkOp P env st o then evOp P env o st else none
 | some false => some (st.put o.dst undA)
 | none => none

def runOps (P : Program) (env : Env) (ops : Array Oper) : List Oper -> St -> Option St
 | [], st => some st
 | o :: rest, st => (opStep P env ops o st).bind (runOps P env ops rest)

/-! ### The same, going on with what follows: a bool that is asked is written out -/
def St.know (st : St) (i : Nat) (b : Bool) : St := st.put (some i) { st.get i with d := .lit (.bool b) }

def evOne {ρ : Type} (P : Program) (env : Env) (o : Oper) (st : St) (K : St -> Option ρ) : Option ρ :=
 match o.op with
 | .pick (.tmp c) a b => (match boolOf P (st.get c) with
  | some t => bif t then K ((st.know c true).put o.dst (opd0 P (st.know c true) o a)) else K ((st.know c false).put o.dst (opd0 P (st.know c false) o b))
  | none => none)
 | .binOp .quo _ _ _ _ => bif chkOp P env st o then (evOp P env o st).bind K else none
 | .binOp .rem _ _ _ _ => bif chkOp P env st o then (evOp P env o st).bind K else none
 | .binOp .shr _ _ _ _ => bif chkOp P env st o then (evOp P env o st).bind K else none
 | .binOp .shl _ _ _ _ => bif chkOp P env st o then (evOp P env o st).bind K else none
 | .binOp .add _ _ _ _ => bif chkOp P env st o then (evOp P env o st).bind K else none
 | .next (.tmp i) true => (match itAt st i with
  | some (s, p) => if rtOK P then (bif decide (p < s.length) then K ((stepIt st i s (p + (runeAt s p).2)).put o.dst (nextA P s p)) else K (st.put o.dst (overA P))) else none
  | none => none)
 | .slice _ _ _ _ _ => bif chkOp P env st o then (evOp P env o st).bind K else none
 | .indexAddr _ _ _ => bif chkOp P env st o then (evOp P env o st).bind K else none
 | .index _ _ _ => bif chkOp P env st o then (evOp P env o st).bind K else none
 | .makeSlice _ _ _ => bif chkOp P env st o then (evOp P env o st).bind K else none
 | .call _ => bif chkOp P env st o then (evOp P env o st).bind K else none
 | _ => (evOp P env o st).bind K

def evOps {ρ : Type} (P : Program) (env : Env) (ops : Array Oper) : List Oper -> St -> (St -> Option ρ) -> Option ρ
 | [], st, K => K st
 | o :: rest, st, K =>
  match o.guard with
  | none => evOne P env o st fun st' => evOps P env ops rest st' K
  | some (j, want) =>
   match (ops[j]?).bind (·.dst) with
   | some g => if (st.get g).tag = 9 then evOps P env ops rest (st.put o.dst undA) K else (match boolOf P (st.get g) with
    | some b => bif b == want then evOne P env o (st.know g want) fun st' => evOps P env ops rest st' K
     else evOps P env ops rest ((st.know g (!want)).put o.dst undA) K
    | none => none)
   | none => none

/-! ### Orders -/
def memCls : Op -> Nat
 | .load _ _ => 1
 | .fieldAddr _ _ _ => 1
 | .alloc _ => 2
 | .box _ _ => 2
 | .makeSlice _ _ _ => 2
 | .store _ _ _ => 3
 | .assign x => if isNilC x then 2 else 0
 | .call c => if (appNil c).isSome then 2 else if (appOf c).isSome then 4 else if (lenOf c).isSome then 1 else if tmpCallee c then 1 else 0
 | .indexAddr _ _ _ => 1
 | .slice _ _ _ _ _ => 1
 | .next _ _ => 4
 | .range _ _ => 4
 | _ => 0

/-- May two operations be carried out either way round? -/
def comm (ops : Array Oper) (x y : Oper) : Bool :=
 x.apart ops y && decide (memCls x.op <= 3) && decide (memCls y.op <= 3) && !(memCls x.op == 3 && decide (1 <= memCls y.op)) && !(memCls y.op == 3 && decide (1 <= memCls x.op))

/-- Does operation j wait, by way of others, for operation i? -/
def waits (ops : Array Oper) : Nat -> Nat -> Nat -> Bool
 | 0, _, _ => false
 | n + 1, j, i => ((ops[j]?).map fun o => o.after.any fun e => Region.binds .any e && (e.on == i || waits ops n e.on i)).getD false

def lexOK (ops : Array Oper) : Bool :=
 (List.range ops.size).all fun j => match ops[j]? with
  | none => true
  | some oj => (oj.after.all fun e => !Region.binds .any e || decide (e.on < j)) &&
   (List.range j).all fun i => match ops[i]? with
    | none => true
    | some oi => comm ops oi oj || waits ops 8 j i

/-- Is a region one in which a row that stands in a field is looked at ('sp' 106)? -/
def lvAsk (env : Env) (ops : Array Oper) : Bool := ops.any fun o => match o.dst with | some d => (match env.sp d with | some k => k == 106 | none => false) | none => false
/-! ### Code -/
def St.drop (st : St) (l : List Nat) : St := l.foldl (fun s i => s.put (some i) dead) st

def newIds : List Oper -> List Nat
 | [] => []
 | o :: ops => if memCls o.op == 2 then (match o.dst with | some d => (match o.op with | .alloc _ => d :: (d + RID) :: newIds ops | _ => d :: newIds ops) | none => newIds ops) else newIds ops

def isAlloc : Op -> Bool
 | .alloc _ => true
 | _ => false
/-- A store into a box that the region itself makes, later than what looks at memory. -/
def freshTo (ops : Array Oper) (i : Nat) (oi oj : Oper) (j : Nat) : Bool :=
 oi.apart ops oj && decide (memCls oi.op <= 1) && (List.range i).all (fun k => match ops[k]? with | some o => memCls o.op != 2 | none => true) &&
 (match oj.op with
  | .store _ (.tmp a) _ => (List.range ops.size).any fun k => match ops[k]? with | some o => isAlloc o.op && o.dst == some a && o.guard.isNone && waits ops 8 j k | none => false
  | _ => false)
def lexOK2 (ops : Array Oper) : Bool :=
 (List.range ops.size).all fun j => match ops[j]? with
  | none => true
  | some oj => (oj.after.all fun e => !Region.binds .any e || decide (e.on < j)) && decide (memCls oj.op <= 3) &&
   (!isAlloc oj.op || (List.range ops.size).all fun k => match ops[k]? with | some o => k == j || o.dst != oj.dst | none => true) &&
   (decide (2 <= memCls oj.op) || (newIds ops.toList).all fun d => oj.dst != some d) &&
   (List.range j).all fun i => match ops[i]? with
    | none => true
    | some oi => comm ops oi oj || waits ops 8 j i || freshTo ops i oi oj j

/-- An append of which only data is asked, and the address of a field: either way round. -/
def isFA : Op -> Bool
 | .fieldAddr _ _ _ => true
 | .load _ _ => true
 | .alloc _ => true
 | _ => false
def isAppD (env : Env) (o : Oper) : Bool := match o.op with
 | .call c => (appNil c).isNone && (appOf c).isSome && datApp env o.dst
 | _ => false
def appFld (env : Env) (ops : Array Oper) (x y : Oper) : Bool := x.apart ops y && x.guard.isNone && y.guard.isNone && isAppD env x && isFA y.op
/-- An append to a row, and the address of a field: either way round, where rows are looked at in fields. -/
def isAppR (env : Env) (o : Oper) : Bool := match o.op with
 | .call c => (appNil c).isNone && (appOf c).isSome && !datApp env o.dst
 | _ => false
def isFA0 : Op -> Bool
 | .fieldAddr _ _ _ => true
 | _ => false
def appFA (env : Env) (ops : Array Oper) (x y : Oper) : Bool := env.lv && x.apart ops y && x.guard.isNone && y.guard.isNone && isAppR env x && isFA0 y.op
def lexOKL (env : Env) (ops : Array Oper) : Bool :=
 (List.range ops.size).all fun j => match ops[j]? with
  | none => true
  | some oj => (oj.after.all fun e => !Region.binds .any e || decide (e.on < j)) &&
   (List.range j).all fun i => match ops[i]? with
    | none => true
    | some oi => comm ops oi oj || waits ops 8 j i || appFA env ops oi oj
def lexOK3 (env : Env) (ops : Array Oper) : Bool :=
 (List.range ops.size).all fun j => match ops[j]? with
  | none => true
  | some oj => (oj.after.all fun e => !Region.binds .any e || decide (e.on < j)) &&
   (List.range j).all fun i => match ops[i]? with
    | none => true
    | some oi => comm ops oi oj || waits ops 8 j i || appFld env ops oi oj

/-- One that is handed boxes, ahead of which all others are done but those that wait for it, one behind the other. -/
def nt (o : Oper) : Bool := match o.op with | .call c => !tmpCallee c | _ => true
def ntTo (ops : Array Oper) (j : Nat) : Bool := (List.range j).all fun k => match ops[k]? with | some o => nt o | none => true
def lexOK5 (ops : Array Oper) : Bool :=
 (List.range ops.size).all fun j => match ops[j]? with
  | none => true
  | some oj => (oj.after.all fun e => !Region.binds .any e || decide (e.on < j)) &&
   (List.range j).all fun i => match ops[i]? with
    | none => true
    | some oi => waits ops 8 j i || (comm ops oi oj && nt oi && nt oj && ntTo ops j)

/-- One that answers a closure of its own, and what looks at memory alone, or at nothing: either way round. -/
def bornB (env : Env) (o : Oper) : Bool := match o.op with | .call c => (bornF env c).isSome | _ => false
def lowD (o : Oper) : Bool := match o.dst with | some d => decide (d < RID) | none => true
def pair6 (env : Env) (ops : Array Oper) (x y : Oper) : Bool :=
 bif bornB env x then (x.apart ops y && x.guard.isNone && decide (memCls y.op <= 1) && !bornB env y && lowD y)
 else bif bornB env y then (x.apart ops y && y.guard.isNone && decide (memCls x.op <= 1) && lowD x) else comm ops x y
def lexOK6 (env : Env) (ops : Array Oper) : Bool :=
 (List.range ops.size).all fun j => match ops[j]? with
  | none => true
  | some oj => (!bornB env oj || oj.guard.isNone) && (oj.after.all fun e => !Region.binds .any e || decide (e.on < j)) &&
   (List.range j).all fun i => match ops[i]? with
    | none => true
    | some oi => pair6 env ops oi oj || waits ops 8 j i
/-- Another order than the text's: what an append waits for goes first. -/
def appOrd (env : Env) (ops : Array Oper) : List Nat :=
 (List.range ops.size).filter (fun j => (List.range ops.size).any fun a => ((ops[a]?).map (isAppD env)).getD false && (a == j || waits ops 8 a j)) ++
 (List.range ops.size).filter (fun j => !(List.range ops.size).any fun a => ((ops[a]?).map (isAppD env)).getD false && (a == j || waits ops 8 a j))
def pickOps (ops : Array Oper) (l : List Nat) : List Oper := l.filterMap (ops[·]?)
def lexPr (env : Env) (ops : Array Oper) : List Nat -> List Nat -> Bool
 | done, [] => (List.range ops.size).all done.contains
 | done, k :: rest => (match ops[k]? with
  | none => false
  | some ok => !done.contains k && (ok.after.all fun e => !Region.binds .any e || done.contains e.on) &&
   rest.all fun j => match ops[j]? with
    | none => false
    | some oj => comm ops ok oj || waits ops 8 j k || appFld env ops ok oj) && lexPr env ops (k :: done) rest

/-- A row that is handed on is data from then on. -/
def stillA (i : Nat) (e : Ent) (v : AV) : AV := if v.tag == 2 && v.id == i then (if v.ix == 0 && v.tys.isEmpty then dat e.ty e.d else dead) else if (refs v).contains i then dz v else v
/-- A field's row is data. -/
def fillK (i : Nat) (x : D) : List Nat -> List D -> List D
 | t :: ts, p :: ps => (if t == i + 2 then x else p) :: fillK i x ts ps
 | _, ps => ps
def stillV (i : Nat) (e : Ent) (v : AV) : AV := { v with tys := v.tys.map (fun x => if x == i + 2 then 0 else x), d := .agg (fillK i e.d v.tys (partsD v.d)) }
def stillE (i : Nat) (e f : Ent) : Ent :=
 match f.c with
 | some v => if v.tag == 2 && v.id == i && v.ix == 0 && v.tys.isEmpty && f.ty == e.ty then ⟨f.ty, e.d, f.row, none⟩ else if v.tag == 7 && (refs v).contains i then (if (stillV i e v).tys.all (· == 0) then ⟨f.ty, (stillV i e v).d, f.row, none⟩ else ⟨f.ty, f.d, f.row, some (stillV i e v)⟩) else if (refs v).contains i then ⟨f.ty, f.d, f.row, some (dz v)⟩ else f
 | none => f
def St.still (st : St) (i : Nat) : St :=
 match st.bx i with
 | some e => if e.row == 0 then st else { sl := st.sl.map (stillA i e), bx := fun j => if j = i then none else (st.bx j).map (stillE i e) }
 | none => st
/-- The row that a slot leads to, itself or by a variable. -/
def St.rowAtSlot (st : St) (i : Nat) : Option Nat :=
 if (st.get i).tag == 2 && (st.get i).ix == 0 && (st.get i).tys.isEmpty then (match st.bx (st.get i).id with
  | some e => if e.row == 0 then (match e.c with | some v => if v.tag == 2 then some v.id else none | none => none) else some (st.get i).id
  | none => none) else none
def St.stillSlot (st : St) (i : Nat) : St := match st.rowAtSlot i with | some j => st.still j | none => st

/-- Slots of which a region hands on what is in them. -/
def tmpsOf (l : List Operand) : List Nat := l.filterMap fun x => match x with | .tmp i => some i | _ => none
def partAddr (ops : List Oper) (a : Nat) : Bool := ops.any fun o => o.dst == some a && (match o.op with | .fieldAddr _ _ _ => true | .indexAddr _ _ _ => true | _ => false)
def sinksOf (env : Env) (ops : List Oper) (o : Oper) (S : List Nat) : List Nat :=
 match o.op with
 | .load _ (.tmp i) => (match o.dst with | some d => if S.contains d then i :: S else S | none => S)
 | .load _ _ => S
 | .fieldAddr _ _ _ => S
 | .makeFunc _ first _ => tmpsOf first.toList ++ S
 | .store _ (.tmp a) (.tmp y) => if partAddr ops a then y :: S else S
 | .store _ _ _ => S
 | .box _ _ => S
 | .move (.tmp i) => (match o.dst with | some d => if S.contains d then i :: S else S | none => S)
 | .assign (.tmp i) => (match o.dst with | some d => if S.contains d then i :: S else S | none => S)
 | .call c => (match appNil c with
  | some (x, _) => tmpsOf [x] ++ S
  | none => match appOf c with
  | some (_, x, _) => tmpsOf [x] ++ S
  | none => if (lenOf c).isSome then S else match c.callee with
   | .value (.func f) => if env.hp && (env.h f).isSome then S else tmpsOf c.args.toList ++ S
   | _ => tmpsOf c.args.toList ++ S)
 | .indexAddr _ _ i => tmpsOf [i] ++ S
 | .slice _ x lo hi mx => if preSl env o.dst then S else tmpsOf (Op.slice 0 x lo hi mx).operands.toList ++ S
 | p => tmpsOf p.operands.toList ++ S
def sinks (env : Env) (ops : List Oper) : List Oper -> List Nat
 | [] => []
 | o :: rest => sinksOf env ops o (sinks env ops rest)

/-- A struct that is held field by field is read as a whole: it is data from then on. -/
def St.still7 (st : St) (i : Nat) : St :=
 if (st.get i).tag == 2 && (st.get i).ix == 0 && (st.get i).tys.isEmpty then (match st.bx (st.get i).id with
  | some e => (match e.c with | some v => if v.tag == 7 then (rids v).foldl St.still st else st | none => st)
  | none => st) else st
def loadsOf (ops : List Oper) : List Nat := ops.filterMap fun o => match o.op with | .load _ (.tmp i) => some i | _ => none
def prep (env : Env) (ops : List Oper) (st : St) : St := (newIds ops).foldl St.kill ((loadsOf ops).foldl St.still7 ((sinks env ops ops).foldl St.stillSlot st))

/-- A state written anew: slots that are forgotten, boxes that are kept. -/
def lookB (l : List (Nat × Option Ent)) (j : Nat) : Option Ent := match l.find? (fun p => p.1 == j) with | some p => p.2 | none => none
/-- In a loop's hints: it stays known which slices have no room. -/
def FID : Nat := 900000
def keepA (ids : List Nat) (v : AV) : AV := if (refs v).all ids.contains then (if v.tag == 1 && !(v.ix == 1 && ids.contains FID) then dat v.ty v.d else v) else dz v
def St.canon (ds ids : List Nat) (st : St) : St :=
 { sl := (st.drop ds).sl.map (keepA ids), bx := lookB (ids.map fun i => (i, (st.bx i).map (Ent.mapC (keepA ids)))) }

/-- For a loop, by its first region: what is forgotten ahead of each round, what is kept. -/
abbrev Hints := Nat -> Option (List Nat × List Nat × List Nat)

def firstRegion : Code -> Nat
 | .region id _ _ => id
 | .seq a _ => firstRegion a
 | .block _ b => firstRegion b
 | .loop b => firstRegion b
 | _ => 0

def preL (h : Hints) (b : Code) (st : St) : St :=
 match h (firstRegion b) with
 | some (ds, ids, ss) => (ss.foldl St.stillSlot st).canon ds ids
 | none => st

def seqK {ρ : Type} (next : St -> Option ρ) (K : Exit -> St -> Option ρ) (e : Exit) (s : St) : Option ρ :=
 match e with
 | .normal => next s
 | .exit i => K (.exit i) s
 | .ret => K .ret s
 | _ => none

def blockK {ρ : Type} (id : Nat) (K : Exit -> St -> Option ρ) (e : Exit) (s : St) : Option ρ :=
 match e with
 | .normal => K .normal s
 | .exit i => if i = id then K .normal s else K (.exit i) s
 | .ret => K .ret s
 | _ => none

def evLoop {ρ : Type} (pre : St -> St) (body : St -> (Exit -> St -> Option ρ) -> Option ρ) : Nat -> St -> (Exit -> St -> Option ρ) -> Option ρ
 | 0, _, _ => none
 | n + 1, st, K => body st (seqK (fun s => evLoop pre body n (pre s) K) K)

def evCode {ρ : Type} (P : Program) (env : Env) (h : Hints) (fuel : Nat) : Code -> St -> (Exit -> St -> Option ρ) -> Option ρ
 | .skip, st, K => K .normal st
 | .region _ ops draw, st, K => if draw then (if lvAsk env ops && lexOKL env.lvl ops then evOps P env.lvl ops ops.toList (prep env.plain ops.toList st) (K .normal) else if ops.any (bornB env) && lexOK6 env ops then evOps P env.part ops ops.toList (prep env.part ops.toList st) (K .normal) else if (ops.any fun o => !nt o) && lexOK5 ops then evOps P env.half ops ops.toList (prep env.half ops.toList st) (K .normal) else if lexOK ops || lexOK2 ops || lexOK3 env.plain ops then evOps P env.plain ops ops.toList (prep env.plain ops.toList st) (K .normal)
   else if lexPr env.plain ops [] (appOrd env.plain ops) then evOps P env.plain ops (pickOps ops (appOrd env.plain ops)) (prep env.plain ops.toList st) (K .normal) else none)
  else evOps P env ops ops.toList (prep env ops.toList st) (K .normal)
 | .seq a b, st, K => evCode P env h fuel a st (seqK (fun s => evCode P env h fuel b s K) K)
 | .cond (.const (.bool b)) x y, st, K => bif b then evCode P env h fuel x st K else evCode P env h fuel y st K
 | .cond (.tmp c) x y, st, K => (match boolOf P (st.get c) with
  | some b => bif b then evCode P env h fuel x (st.know c true) K else evCode P env h fuel y (st.know c false) K
  | none => none)
 | .block id b, st, K => evCode P env h fuel b st (blockK id K)
 | .loop b, st, K => evLoop (preL h b) (evCode P env h fuel b) fuel (preL h b st) K
 | .exit id, st, K => K (.exit id) st
 | .label _, st, K => K .normal st
 | .ret, st, K => K .ret st
 | _, _, _ => none

/-- What follows behind the first of two. -/
def seqC {ρ : Type} (P : Program) (env : Env) (h : Hints) (fuel : Nat) (b : Code) (K : Exit -> St -> Option ρ) : Exit -> St -> Option ρ := seqK (fun s => evCode P env h fuel b s K) K

/-- A piece of code: 0 the first of two, 1 the second; of a test likewise. -/
def sub : List Nat -> Code -> Code
 | [], c => c
 | 0 :: p, .seq a _ => sub p a
 | _ :: p, .seq _ b => sub p b
 | 0 :: p, .cond _ a _ => sub p a
 | _ :: p, .cond _ _ b => sub p b
 | _ :: p, .block _ b => sub p b
 | _ :: p, .loop b => sub p b
 | _, c => c

/-! ### Functions -/
def resOne (P : Program) (st : St) : ResultVar -> Option AV
 | .tmp t => if (st.get t).tag == 1 then some (dat (st.get t).ty (st.get t).d) else none
 | .cell a t => (ldA P st t (st.get a)).map (dat t)

def resAll (P : Program) (st : St) : List ResultVar -> Option (List AV)
 | [] => some []
 | r :: rs => match resOne P st r, resAll P st rs with
  | some x, some xs => some (x :: xs)
  | _, _ => none

def resA (P : Program) (fn : Func) (st : St) : Option AV :=
 match resAll P st fn.results.toList with
 | some [x] => some x
 | some (x :: xs) => some (tupA ((x :: xs).map (·.ty)) (.agg ((x :: xs).map (·.d))))
 | some [] => some (tupA [] (.agg []))
 | none => none

def begin_ (fn : Func) (args : List AV) : St := { sl := args ++ List.replicate (fn.ntmps - args.length) dead, bx := fun _ => none }

def resTmps : List ResultVar -> List Nat
 | [] => []
 | .tmp t :: rs => t :: resTmps rs
 | .cell t _ :: rs => t :: resTmps rs
def finK (P : Program) (fn : Func) (e : Exit) (s : St) : Option AV :=
 match e with
 | .normal => resA P fn ((resTmps fn.results.toList).foldl St.stillSlot s)
 | .ret => resA P fn ((resTmps fn.results.toList).foldl St.stillSlot s)
 | _ => none

def evFn (P : Program) (env : Env) (h : Hints) (fuel : Nat) (fn : Func) (args : List AV) : Option AV :=
 match fn.body with
 | some c => if args.all (fun v => v.tag == 1 && v.ix == 0 && v.tys.isEmpty) then evCode P env h fuel c (begin_ fn args) (finK P fn) else none
 | none => none

/-- The same, with what is known of the arguments beside their data. -/
def evFnM (P : Program) (env : Env) (h : Hints) (fuel : Nat) (fn : Func) (args : List AV) : Option AV :=
 match fn.body with
 | some c => evCode P env h fuel c (begin_ fn args) (finK P fn)
 | none => none

/-- A function that is handed boxes and rows. -/
def beginH (fn : Func) (args : List AV) (h : List Ent) : St := { sl := args ++ List.replicate (fn.ntmps - args.length) dead, bx := bxOf h }
def outH (m : Nat) (st : St) : List (Option Ent) := (List.range m).map fun k => st.bx (OID + k)
def finH (P : Program) (fn : Func) (m : Nat) (e : Exit) (s : St) : Option (AV × List (Option Ent)) :=
 match e with
 | .normal | .ret => if (outH m ((resTmps fn.results.toList).foldl St.stillSlot s)).all (fun e => match e with | some e => inOut m (refsE e) | none => true) then
   (resA P fn ((resTmps fn.results.toList).foldl St.stillSlot s)).map fun r => (r, outH m ((resTmps fn.results.toList).foldl St.stillSlot s)) else none
 | _ => none
def argOK (m : Nat) (v : AV) : Bool := (v.tag == 1 && v.ix == 0) || (isCont v && inOut m (refs v))
def evFnH (P : Program) (env : Env) (hh : Hints) (fuel : Nat) (fn : Func) (args : List AV) (h : List Ent) : Option (AV × List (Option Ent)) :=
 match fn.body with
 | some c => if args.all (argOK h.length) && decide (fn.ntmps < RID) then evCode P env hh fuel c (beginH fn args h) (finH P fn h.length) else none
 | none => none

/-- A function that answers a closure, or what leads to a box: with all that it leads to. -/
def finG (P : Program) (fn : Func) (e : Exit) (s : St) : Option (AV × List Ent) :=
 match e with
 | .normal | .ret => (match fn.results.toList with
  | [.tmp t] => if isCont (s.get t) && closedB s [s.get t] (idsOf s [s.get t]) then some (renA (fwd (idsOf s [s.get t])) (s.get t), (idsOf s [s.get t]).map (entOf s (idsOf s [s.get t]))) else none
  | _ => none)
 | _ => none
def evFnG (P : Program) (env : Env) (hh : Hints) (fuel : Nat) (fn : Func) (args : List AV) : Option (AV × List Ent) :=
 match fn.body with
 | some c => if args.all (fun v => v.tag == 1 && v.ix == 0 && v.tys.isEmpty) then evCode P env hh fuel c (begin_ fn args) (finG P fn) else none
 | none => none

def bodyOf (fn : Func) : Code := fn.body.getD .skip
end Go.Ev
