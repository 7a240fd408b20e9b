import PyProof.Rows.All
import Wide.All
import OpenK.AllK
import Wide.FinOn
import HandS.ForMost
import KE.SortData
import HandS.ExcInit
import HandS.ExcField
import HandS.ExcIs
import KE.KExcInit
import HandS.Exc
import HandS.CallSlots
import HandS.FStr
import HandS.Deep
import HandS.TupAny
import HandS.TupMul
import HandS.Style
import HandS.Conv
import KE.DataCmp
import KE.DataMinMax
import PyProof.TupleOfStr
import PyProof.ListStr
import HandS.TupSets
import HandS.SetFor
import HandS.Flow
import HandS.IsInst
import HandS.Rev
import KE.GoesEnum
import KE.GoesEnumKw
import HandS.Comp
import HandS.TryOnly
import HandS.Small
import KE.KExcIs
import KE.KRevSl
import HandS.Set
import KE.KFmtOwn
import PyProof.EqKinds
import PyProof.InstEq
import HandS.ExcValue
import PySem.Challenge.RW_barredcrossings_k01_bonds_patterns_wishe
section
set_option linter.all false
set_option autoImplicit false
/-! UrA: a small language for the defs of a program and its law, run as a plain function. -/
namespace Ur
open PySem

abbrev D := PyData
abbrev Key := L2.Key

/-! ## values: what nobody changes any more (dat), and what one owner may change -/
inductive O where
  | dat (d : D)
  | lst (xs : List O)
  | dK (kvs : List (Key × O))
  | dT (kvs : List (D × O))

def kD : Key → D
  | .inl i => .int i
  | .inr x => .str x
def dKey : D → Option Key
  | .int i => some (.inl i)
  | .str x => some (.inr x)
  | _ => none
mutual
/-- ints, texts, and tuples of such -/
def memOk : D → Bool
  | .int _ => true
  | .str _ => true
  | .tuple xs => memAll xs
  | _ => false
def memAll : List D → Bool
  | [] => true
  | x :: r => memOk x && memAll r
end
/-- a tuple that may be a key -/
def tKey : D → Bool
  | .tuple xs => memAll xs && decide ((PyData.tuple xs).depth ≤ 8)
  | _ => false
mutual
/-- the same, never to be changed again -/
def O.fz : O → D
  | .dat d => d
  | .lst xs => .list (fzs xs)
  | .dK kvs => .dict (fzK kvs)
  | .dT kvs => .dict (fzT kvs)
def fzs : List O → List D
  | [] => []
  | x :: r => x.fz :: fzs r
def fzK : List (Key × O) → List (D × D)
  | [] => []
  | (k, x) :: r => (kD k, x.fz) :: fzK r
def fzT : List (D × O) → List (D × D)
  | [] => []
  | (k, x) :: r => (k, x.fz) :: fzT r
end

/-- a set, by its members; an exception, by its class (where it lies) and its fields -/
def setD (ds : List D) : D := .dict [(.none, .list ds)]
def excD (c : Nat) (fs : List (D × D)) : D := .dict ((.bool true, .int c) :: fs)
/-- what an exception's field may be -/
def atomB : D → Bool
  | .int i => decide (i.natAbs.log2 < 1900)
  | .str x => decide (x.length ≤ 1000)
  | _ => false
def getSet : D → Option (List D)
  | .dict [(.none, .list ds)] => some ds
  | _ => none

abbrev Stt := List (Option O)
inductive Rs (α : Type) where
  | ok (a : α)
  | ex (x : D)
abbrev Mo (α : Type) := Option (Rs α × Stt)
def bd {α β : Type} (m : Mo α) (f : α → Stt → Mo β) : Mo β :=
  match m with
  | some (.ok a, s) => f a s
  | some (.ex x, s) => some (.ex x, s)
  | none => none
def rt {α : Type} (a : α) (s : Stt) : Mo α := some (.ok a, s)
@[simp] theorem bd_ok {α β : Type} (a : α) (s : Stt) (f : α → Stt → Mo β) : bd (some (.ok a, s)) f = f a s := rfl
@[simp] theorem bd_ex {α β : Type} (x : D) (s : Stt) (f : α → Stt → Mo β) : bd (some (.ex x, s)) f = some (.ex x, s) := rfl
@[simp] theorem bd_none {α β : Type} (f : α → Stt → Mo β) : bd none f = none := rfl
def lf (o : Option O) (s : Stt) : Mo O := match o with
  | some o => some (.ok o, s)
  | none => none
def lfd (o : Option D) (s : Stt) : Mo O := match o with
  | some d => some (.ok (.dat d), s)
  | none => none
@[simp] theorem lf_some (o : O) (s : Stt) : lf (some o) s = some (.ok o, s) := rfl
@[simp] theorem lfd_some (d : D) (s : Stt) : lfd (some d) s = some (.ok (.dat d), s) := rfl
@[simp] theorem lf_none (s : Stt) : lf none s = none := rfl
@[simp] theorem lfd_none (s : Stt) : lfd none s = none := rfl

/-! ## operations -/
inductive Bop where | add | sub | mul | fdiv | mod | pow | shl | band | bor
  deriving DecidableEq
inductive Cop where | eq | ne | lt | le | gt | ge | is_ | isnot | in_ | notin
  deriving DecidableEq
inductive Bf where | len | int | abs | min | max | sum | any | all | sorted | set | list | tuple | dict | bool
  deriving DecidableEq
inductive Ty where | list | tuple | int | bool | str | dict | valueError | lookupError | keyError | indexError | own (c : Nat)
  deriving DecidableEq

/-- no size of a sequence is above this -/
def top : Nat := 16777216
def mulOk (i j : Int) : Bool := (decide (-(2 ^ 64) < i) && decide (i < 2 ^ 64)) || (decide (-(2 ^ 64) < j) && decide (j < 2 ^ 64))
def binD : Bop → D → D → Option O
  | .add, .int i, .int j => some (.dat (.int (i + j)))
  | .add, .str x, .str y => if x.length + y.length ≤ top then some (.dat (.str (x ++ y))) else none
  | .add, .list xs, .list ys => if xs.length + ys.length ≤ top then some (.lst ((xs ++ ys).map .dat)) else none
  | .add, .tuple xs, .tuple ys => if xs.length + ys.length ≤ top then some (.dat (.tuple (xs ++ ys))) else none
  | .sub, .int i, .int j => some (.dat (.int (i - j)))
  | .mul, .int i, .int j => if mulOk i j then some (.dat (.int (i * j))) else none
  | .fdiv, .int i, .int j => if 0 < j ∧ j < 1073741824 then some (.dat (.int (i / j))) else none
  | .mod, .int i, .int j => if 0 < j then some (.dat (.int (i % j))) else none
  | .pow, .int i, .int j => if 0 ≤ j ∧ j ≤ 1000000 ∧ i.natAbs < 2 ^ 64 then some (.dat (.int (i ^ j.toNat))) else none
  | .shl, .int i, .int j => if 0 ≤ j ∧ j ≤ 1000000 ∧ i.natAbs < 2 ^ 64 then some (.dat (.int (i * 2 ^ j.toNat))) else none
  | .band, .int i, .int j => some (.dat (.int (Builtin.bitAnd i j)))
  | .bor, .int i, .int j => some (.dat (.int (Builtin.bitOr i j)))
  | .mul, .list xs, .int i => if decide (0 ≤ i) && decide (i ≤ 1000) && decide (xs.length ≤ 1000) then some (.lst ((List.replicate i.toNat xs).flatten.map .dat)) else none
  | .mul, .tuple xs, .int i => if decide (2 ≤ i) && decide (i ≤ 1000) && decide (xs.length ≤ 1000) && !xs.isEmpty then some (.dat (.tuple (List.replicate i.toNat xs).flatten)) else none
  | _, _, _ => none

def noneD : D → Bool
  | .none => true
  | _ => false
mutual
/-- a datum that == may look at: no dict within -/
def plainD : D → Bool
  | .list xs => plainAll xs
  | .tuple xs => plainAll xs
  | .dict _ => false
  | _ => true
def plainAll : List D → Bool
  | [] => true
  | x :: r => plainD x && plainAll r
end
def cmpOk (x : D) : Bool := plainD x && decide (x.depth ≤ 64)
def eqD (x y : D) : Option Bool := if cmpOk x && cmpOk y then some (PyData.eqv x y) else none
def ltD (x y : D) : Option Bool :=
  if PySem.W.alike x y && !noneD x && decide (x.depth ≤ 64) && plainD x && plainD y then some (PySem.W.dataLt x y) else none
/-- a datum that may be a key of a dict or a member of a set -/
def isKey (d : D) : Bool := (dKey d).isSome || tKey d
def lookD (k : D) : List (D × D) → Option D
  | [] => none
  | (a, b) :: r => if PyData.eqv a k then some b else lookD k r
/-- is this a key that the dict's kind of keys may be asked for? -/
def fitK (x : D) : List (D × D) → Bool
  | [] => (dKey x).isSome
  | (k, _) :: _ => if (dKey k).isSome then (dKey x).isSome else tKey x && tKey k
def inD (x y : D) : Option Bool :=
  match y with
  | .list ds => if cmpOk x && cmpOk y then some (ds.any fun z => PyData.eqv z x) else none
  | .tuple ds => if cmpOk x && cmpOk y then some (ds.any fun z => PyData.eqv z x) else none
  | .str z => match x with
    | .str c => if c.length = 1 then some (decide (c.cps.toList.headD 0 ∈ z.cps.toList)) else none
    | _ => none
  | .dict ((.none, .list ds) :: _) => if memOk x then some (ds.any fun z => PyData.eqv z x) else none
  | .dict kvs => if fitK x kvs then some (lookD x kvs).isSome else none
  | _ => none
def cmpD : Cop → D → D → Option Bool
  | .eq, x, y => eqD x y
  | .ne, x, y => (eqD x y).map (!·)
  | .lt, x, y => ltD x y
  | .gt, x, y => if noneD x then none else ltD y x
  | .le, x, y => if noneD x then none else (ltD y x).map (!·)
  | .ge, x, y => (ltD x y).map (!·)
  | .is_, x, .none => some (noneD x)
  | .is_, .bool a, .bool b => some (a == b)
  | .isnot, .bool a, .bool b => some (a != b)
  | .isnot, x, .none => some (!noneD x)
  | .is_, _, _ => none
  | .isnot, _, _ => none
  | .in_, x, y => inD x y
  | .notin, x, y => (inD x y).map (!·)

def ixN (n : Nat) (i : Int) : Option Nat :=
  if 0 ≤ i then (if i < n then some i.toNat else none) else (if -(n : Int) ≤ i then some (i + n).toNat else none)
def sgn (c : Nat) : D := .str ⟨#[c]⟩
def atD : List D → Int → Option D := fun ds i => (ixN ds.length i).bind fun j => ds[j]?
def idxD : D → D → Option D
  | .list ds, .int i => atD ds i
  | .tuple ds, .int i => atD ds i
  | .str x, .int i => (ixN x.cps.toList.length i).bind fun j => (x.cps.toList[j]?).map sgn
  | .dict kvs, k => if fitK k kvs then lookD k kvs else none
  | _, _ => none
/-- the bounds of a slice -/
def clip (n : Nat) (d : Nat) : Option Int → Nat
  | none => d
  | some i => if 0 ≤ i then min i.toNat n else (i + n).toNat
def cutL {α : Type} (xs : List α) (l u : Option Int) : List α :=
  (xs.drop (clip xs.length 0 l)).take (clip xs.length xs.length u - clip xs.length 0 l)
def slcD (d : D) (l u : Option Int) : Option O :=
  match d with
  | .list ds => some (.lst ((cutL ds l u).map .dat))
  | .tuple ds => some (.dat (.tuple (cutL ds l u)))
  | _ => none
def optI : Option D → Option (Option Int)
  | none => some none
  | some (.int i) => some (some i)
  | _ => none

def truD : D → Option Bool
  | .none => some false
  | .bool b => some b
  | .int i => some (decide (i ≠ 0))
  | .str x => some (decide (x.length ≠ 0))
  | .list xs => some (!xs.isEmpty)
  | .tuple xs => some (!xs.isEmpty)
  | .dict _ => none

/-! ## sorting -/
def leD (x y : D) : Bool := !PySem.W.dataLt y x
def insD (x : D) : List D → List D
  | [] => [x]
  | y :: r => if leD x y then x :: y :: r else y :: insD x r
def isort : List D → List D
  | [] => []
  | x :: r => insD x (isort r)
def alikeTo (x : D) : List D → Bool
  | [] => true
  | y :: r => PySem.W.alike x y && alikeTo x r
def allAlike : List D → Bool
  | [] => true
  | x :: r => PySem.W.alike x x && alikeTo x r && allAlike r
def tupNE : D → Bool
  | .tuple (_ :: _) => true
  | _ => false
def tupAny : D → Bool
  | .tuple _ => true
  | _ => false
def sortable (ds : List D) : Bool := allAlike ds && (ds.all tupNE || ds.all fun d => !noneD d && !tupAny d) && ds.all fun d => decide (d.depth ≤ 64) && plainD d
def sortD (ds : List D) : Option (List D) := if sortable ds then some (isort ds) else none
def minD : List D → Option D
  | [] => none
  | x :: r => if sortable (x :: r) then some (r.foldl (fun m y => if PySem.W.dataLt y m then y else m) x) else none
def maxD : List D → Option D
  | [] => none
  | x :: r => if sortable (x :: r) then some (r.foldl (fun m y => if PySem.W.dataLt m y then y else m) x) else none

def anyMem (x : D) (ds : List D) : Bool := ds.any fun z => PyData.eqv z x
def dedup : List D → List D → List D
  | acc, [] => acc
  | acc, x :: r => dedup (if anyMem x acc then acc else acc ++ [x]) r
def mkSet (ds : List D) : Option D := if ds.all memOk && (ds.all tupAny || ds.all fun d => !tupAny d) && decide (ds.length < 64) && ds.all (fun d => decide (d.depth ≤ 8)) then some (setD (dedup [] ds)) else none

def signs (x : Str) : List D := x.cps.toList.map sgn
/-- what a for walks over a datum -/
def itD : D → Option (List D)
  | .list ds => some ds
  | .tuple ds => some ds
  | .str x => some (signs x)
  | .dict ((.none, _) :: _) => none
  | .dict ((.bool _, _) :: _) => none
  | .dict kvs => some (kvs.map (·.1))
  | _ => none
/-- a list, a tuple, a text -/
def itS : D → Option (List D)
  | .list ds => some ds
  | .tuple ds => some ds
  | .str x => some (signs x)
  | _ => none
def sumD : List D → Int → Option Int
  | [], a => some a
  | .int i :: r, a => sumD r (a + i)
  | _ :: _, _ => none
def tests : List D → Option (List Bool)
  | [] => some []
  | .bool b :: r => (tests r).map (b :: ·)
  | _ :: _ => none
def putK (k : Key) (v : O) : List (Key × O) → List (Key × O)
  | [] => [(k, v)]
  | (a, b) :: r => if a = k then (a, v) :: r else (a, b) :: putK k v r
def putT (k : D) (v : O) : List (D × O) → List (D × O)
  | [] => [(k, v)]
  | (a, b) :: r => if PyData.eqv a k then (a, v) :: r else (a, b) :: putT k v r
def findT (k : D) : List (D × O) → Option O
  | [] => none
  | (a, b) :: r => if PyData.eqv a k then some b else findT k r
def findK (k : Key) : List (Key × O) → Option O
  | [] => none
  | (a, b) :: r => if a = k then some b else findK k r
/-- d[k] = v -/
def putO (o : O) (k : D) (v : O) : Option O :=
  match o with
  | .dK kvs => match dKey k with
    | some q => if kvs.length < top then some (.dK (putK q v kvs)) else none
    | none => none
  | .dT kvs => if tKey k && decide (kvs.length < top) then some (.dT (putT k v kvs)) else none
  | .lst xs => match k with
    | .int i => match ixN xs.length i with
      | some j => some (.lst (xs.set j v))
      | none => none
    | _ => none
  | .dat _ => none
def pairsO : List D → O → Option O
  | [], o => some o
  | .tuple [k, v] :: r, o => match putO o k (.dat v) with
    | some o' => pairsO r o'
    | none => none
  | .list [k, v] :: r, o => match putO o k (.dat v) with
    | some o' => pairsO r o'
    | none => none
  | _ :: _, _ => none

def lenD : D → Option Nat
  | .list ds => some ds.length
  | .tuple ds => some ds.length
  | .str x => some x.length
  | .dict ((.none, .list ds) :: _) => some ds.length
  | .dict ((.bool _, _) :: _) => none
  | .dict kvs => some kvs.length
  | _ => none
def bfD : Bf → List D → Option O
  | .len, [d] => (lenD d).map fun (n : Nat) => .dat (.int (n : Int))
  | .int, [.int i] => some (.dat (.int i))
  | .int, [.bool b] => some (.dat (.int (if b then 1 else 0)))
  | .abs, [.int i] => some (.dat (.int (if i < 0 then -i else i)))
  | .min, [.int i, .int j] => some (.dat (.int (if j < i then j else i)))
  | .max, [.int i, .int j] => some (.dat (.int (if j > i then j else i)))
  | .min, [.list ds] => (minD ds).map .dat
  | .max, [.list ds] => (maxD ds).map .dat
  | .min, [.tuple ds] => (minD ds).map .dat
  | .max, [.tuple ds] => (maxD ds).map .dat
  | .sum, [.list ds] => (sumD ds 0).map fun i => .dat (.int i)
  | .any, [.list ds] => (tests ds).map fun bs => .dat (.bool (bs.any id))
  | .all, [.list ds] => (tests ds).map fun bs => .dat (.bool (bs.all id))
  | .sorted, [.list ds] => (sortD ds).map fun r => .lst (r.map .dat)
  | .sorted, [.dict [(.none, .list ds)]] => (sortD ds).map fun r => .lst (r.map .dat)
  | .set, [.list ds] => (mkSet ds).map .dat
  | .set, [.tuple ds] => (mkSet ds).map .dat
  | .list, [.list ds] => some (.lst (ds.map .dat))
  | .list, [.tuple ds] => some (.lst (ds.map .dat))
  | .list, [.str x] => some (.lst ((signs x).map .dat))
  | .tuple, [.list ds] => some (.dat (.tuple ds))
  | .tuple, [.tuple ds] => some (.dat (.tuple ds))
  | .tuple, [.str x] => some (.dat (.tuple (signs x)))
  | .dict, [.list ds] => pairsO ds (.dK [])
  | .bool, [d] => (truD d).map fun b => .dat (.bool b)
  | _, _ => none

/-- set(d): its members -/
def setOf (d : D) : Option D := match d with
  | .list ds => mkSet ds
  | .tuple ds => mkSet ds
  | _ => none
/-- those that are served so far -/
def bfHas : Bf → Bool
  | .set => false
  | .dict => false
  | .bool => false
  | _ => true

/-- the built-in class among an own error's bases -/
inductive Eb where | value | lookup
  deriving DecidableEq
structure Ec where
  name : Str
  base : Eb
  fields : List Str
  /-- where the class lies -/
  adr : Nat
structure Glo where
  name : Str
  val : D

/-- the class of an exception -/
def excOf : D → Option Nat
  | .dict ((.bool _, .int c) :: _) => some c.toNat
  | _ => none
def baseOf (ecs : List Ec) (c : Nat) : Option Eb := (ecs.find? fun e => decide (e.adr = c)).map (·.base)
def tyD (ecs : List Ec) (d : D) : Ty → Bool
  | .list => match d with | .list _ => true | _ => false
  | .tuple => match d with | .tuple _ => true | _ => false
  | .int => match d with | .int _ => true | .bool _ => true | _ => false
  | .bool => match d with | .bool _ => true | _ => false
  | .str => match d with | .str _ => true | _ => false
  | .dict => match d with | .dict ((.none, _) :: _) => false | .dict ((.bool _, _) :: _) => false | .dict _ => true | _ => false
  | .valueError => decide ((excOf d).bind (baseOf ecs) = some .value)
  | .lookupError => decide ((excOf d).bind (baseOf ecs) = some .lookup)
  | .keyError => false
  | .indexError => false
  | .own c => decide ((excOf d).isSome ∧ excOf d = (ecs[c]?).map (·.adr))
def noOwn : Ty → Bool
  | .own _ => false
  | _ => true
/-- isinstance: own classes are asked for alone, and of exceptions; exceptions are known ones -/
def isiD (ecs : List Ec) (d : D) (ts : List Ty) : Option Bool :=
  match excOf d with
  | some c => if (baseOf ecs c).isSome then some (ts.any (tyD ecs d)) else none
  | none => if ts.all noOwn then some (ts.any (tyD ecs d)) else none
def attrD (ecs : List Ec) (f : Str) (d : D) : Option D :=
  match (excOf d).bind fun c => ecs.find? fun e => decide (e.adr = c) with
  | some e => if f ∈ e.fields then (match d with
      | .dict (_ :: kvs) => lookD (.str f) kvs
      | _ => none)
    else none
  | none => none
/-- is it an error of the program? -/
def exK (ecs : List Ec) (x : D) : Bool := match excOf x with
  | some c => (baseOf ecs c).isSome
  | none => false
def allStr : D → Bool
  | .tuple ds => ds.all fun d => match d with | .str _ => true | _ => false
  | _ => false
/-- x in y, x not in y; an error is no text -/
def inX (ecs : List Ec) (neg : Bool) (x y : D) : Option Bool := if exK ecs x && allStr y then some neg else cmpD (if neg then .notin else .in_) x y
end Ur
end
section
set_option linter.all false
set_option autoImplicit false
/-! UrB: the language itself, and how it runs. -/
namespace Ur
open PySem

inductive Tg where
  | nm (i : Nat)
  | tup (is : List Nat)

inductive Ck where | lst | set | dct
  deriving DecidableEq
/-- a slot looked at while its owner keeps it -/
inductive Pk where | len | idx | in_ | notin | tru | fls | get1 | get2 | sorted | list
  deriving DecidableEq
inductive Mm where | append | extend | pop0 | popAt | push | hpop | insert | remove
  deriving DecidableEq
/-- methods that change nothing -/
inductive Me where | index | count | get | join | values | items | keys
  deriving DecidableEq

mutual
inductive E where
  | lit (d : D)
  | glob (g : Nat)
  | var (i : Nat)
  | tup (es : Es)
  | lst (es : Es)
  | dct (ks vs : Es)
  | bin (op : Bop) (a b : E)
  | neg (a : E)
  | nt (a : E)
  | cmp (op : Cop) (a b : E)
  | inx (neg : Bool) (a b : E)
  | and (a b : E)
  | or (a b : E)
  | ite (c a b : E)
  | idx (a i : E)
  | slc (a : E) (l u : Oe)
  | rvs (a : E)
  | call (x : Str) (f : Nat) (as : As)
  | callK (x : Str) (f : Nat) (ks : List Str) (es : Es)
  | bf (f : Bf) (es : Es)
  | sset (f : Bf) (a : E)
  | col (tup : Bool) (it : It)
  | isi (a : E) (ts : List Ty)
  | met (m : Me) (a : E) (es : Es)
  | attr (a : E) (f : Str)
  | pk (p : Pk) (i : Nat) (es : Es)
  | mut (m : Mm) (i : Nat) (path : Es) (fz : Bool) (es : Es)
  | comp (k : Ck) (vs : List Nat) (tg : Tg) (it : It) (ifs : Es) (gs : Gs)
  | mkx (x : Str) (c : Nat) (ks : List Str) (es : Es)
inductive Es where
  | nil
  | cons (e : E) (r : Es)
inductive Oe where
  | none
  | some (e : E)
inductive As where
  | nil
  | val (e : E) (r : As)
  | own (e : E) (r : As)
  | ref (i : Nat) (r : As)
inductive It where
  | any (e : E)
  | rng (es : Es)
  | enum (e : E)
  | zip (a b : E)
  | rev (e : E)
inductive Gs where
  | last (e : E)
  | last2 (k v : E)
  | cons (tg : Tg) (it : It) (ifs : Es) (r : Gs)
end

structure Eh where
  /-- the class: an own one, or ValueError, LookupError -/
  ty : Ty
  name : Option Nat

mutual
inductive S where
  | exp (e : E)
  | set (i : Nat) (fz : Nat) (e : E)
  | unp (is : List Nat) (e : E)
  | par (is : List Nat) (fz : List Nat) (es : Es)
  | sto (i : Nat) (path : Es) (fz : Bool) (k e : E)
  | aug (i : Nat) (op : Bop) (e : E)
  | augS (i : Nat) (path : Es) (k : E) (op : Bop) (e : E)
  | ife (c : E) (a b : Ss)
  | whl (c : E) (b : Ss)
  | for_ (tg : Tg) (it : It) (b : Ss)
  | ret (e : E)
  | retv (i : Nat)
  | retN
  | brk
  | cnt
  | pass
  | rai (x : Str) (c : Nat) (es : Es)
  | try_ (b : Ss) (h : Hs)
inductive Ss where
  | nil
  | cons (s : S) (r : Ss)
inductive Hs where
  | nil
  | cons (ty : Ty) (x : Str) (name : Option Nat) (b : Ss) (r : Hs)
end

structure Df where
  name : Str
  /-- how many parameters, and how many names in all -/
  np : Nat
  ns : Nat
  names : List Str
  /-- the parameters that the caller keeps and the def may change -/
  refs : List Nat
  /-- is what it hands back frozen? -/
  fz : Bool
  /-- the orders of names by which it is called -/
  kws : List (List Str)
  body : Ss

structure Prog where
  defs : List Df
  ecs : List Ec
  glos : List Glo

/-! ## running -/
def fzO (os : List O) : List O := (fzs os).map .dat
/-- 0: as it is, 1: never to be changed again, 2: what stands in it is not -/
def O.frz (o : O) : Nat → O
  | 0 => o
  | 1 => .dat o.fz
  | _ => match o with
    | .dat d => .dat d
    | .lst xs => .lst (fzO xs)
    | .dK kvs => .dK (kvs.map fun p => (p.1, .dat p.2.fz))
    | .dT kvs => .dT (kvs.map fun p => (p.1, .dat p.2.fz))
def get (st : Stt) (i : Nat) : Option O := (st[i]?).join
def getF (i : Nat) (st : Stt) : Mo O :=
  match get st i with
  | some o => some (.ok (.dat o.fz), st.set i (some (.dat o.fz)))
  | none => none
def put (st : Stt) (i : Nat) (o : O) : Stt := st.set i (some o)
def putsD : List Nat → List D → Stt → Stt
  | i :: is, d :: ds, st => putsD is ds (put st i (.dat d))
  | _, _, st => st
def Tg.slots : Tg → List Nat
  | .nm i => [i]
  | .tup is => is
def asg (tg : Tg) (d : D) (st : Stt) : Option Stt :=
  match tg with
  | .nm i => some (put st i (.dat d))
  | .tup is => match d with
    | .tuple ds => if ds.length = is.length then some (putsD is ds st) else none
    | .list ds => if ds.length = is.length then some (putsD is ds st) else none
    | _ => none
def wipe : List Nat → Stt → Stt
  | [], st => st
  | v :: vs, st => (wipe vs st).set v none
def isDat : Option O → Bool
  | none => true
  | some (.dat _) => true
  | _ => false
def restore : List Nat → Stt → Stt → Stt
  | [], _, st => st
  | v :: vs, old, st => (restore vs old st).set v (old[v]?).join
def rangeD (a b c : Int) : Option (List D) :=
  if c = 1 then (let n := (b - a).toNat; if n ≤ top ∧ -(2 ^ 62) ≤ a ∧ a < 2 ^ 62 ∧ -(2 ^ 62) ≤ b ∧ b < 2 ^ 62 then some ((List.range n).map fun (j : Nat) => .int (a + j)) else none)
  else if c = -1 then (let n := (a - b).toNat; if n ≤ top ∧ -(2 ^ 62) ≤ a ∧ a < 2 ^ 62 ∧ -(2 ^ 62) ≤ b ∧ b < 2 ^ 62 then some ((List.range n).map fun (j : Nat) => .int (a - j)) else none)
  else none
def rangeOf : List D → Option (List D)
  | [.int b] => rangeD 0 b 1
  | [.int a, .int b] => rangeD a b 1
  | [.int a, .int b, .int c] => rangeD a b c
  | _ => none
def enumFrom (k : Int) : List D → List D
  | [] => []
  | d :: r => .tuple [.int k, d] :: enumFrom (k + 1) r
def zipD : List D → List D → List D
  | x :: xs, y :: ys => .tuple [x, y] :: zipD xs ys
  | _, _ => []
def rvsD : D → Option O
  | .list ds => some (.lst (ds.reverse.map .dat))
  | .tuple ds => some (.dat (.tuple ds.reverse))
  | _ => none
def metD (m : Me) (a : D) (es : List D) : Option O :=
  match m, a, es with
  | .index, .list ds, [d] => if cmpOk d && cmpOk (.list ds) then (ds.findIdx? fun z => PyData.eqv z d).map fun (j : Nat) => .dat (.int (j : Int)) else none
  | .index, .tuple ds, [d] => if cmpOk d && cmpOk (.tuple ds) then (ds.findIdx? fun z => PyData.eqv z d).map fun (j : Nat) => .dat (.int (j : Int)) else none
  | .count, .list ds, [d] => if cmpOk d && cmpOk (.list ds) then some (.dat (.int (ds.filter fun z => PyData.eqv z d).length)) else none
  | .get, .dict kvs, [k] => if fitK k kvs then some (.dat ((lookD k kvs).getD .none)) else none
  | .get, .dict kvs, [k, d] => if fitK k kvs then some (.dat ((lookD k kvs).getD d)) else none
  | .values, .dict kvs, [] => some (.lst (kvs.map fun p => .dat p.2))
  | .items, .dict kvs, [] => some (.lst (kvs.map fun p => .dat (.tuple [p.1, p.2])))
  | .keys, .dict kvs, [] => some (.lst (kvs.map fun p => .dat p.1))
  | _, _, _ => none
/-- what stands at a key of an owned thing, if nobody else may own it -/
def datO : Option O → Option D
  | some (.dat d) => some d
  | _ => none
def childO (o : O) (k : D) : Option O :=
  match o with
  | .dat _ => none
  | .lst xs => match k with
    | .int i => (ixN xs.length i).bind fun j => xs[j]?
    | _ => none
  | .dK kvs => (dKey k).bind fun q => findK q kvs
  | .dT kvs => if tKey k then findT k kvs else none
def childP : List D → O → Option O
  | [], o => some o
  | k :: ks, o => (childO o k).bind (childP ks)
def isL : Option O → Bool
  | some (.lst _) => true
  | _ => false
def peekO (o : O) (k : D) : Option D :=
  match o with
  | .dat d => idxD d k
  | o => datO (childO o k)
def hasO (o : O) (k : D) : Option Bool :=
  match o with
  | .dat d => inD k d
  | .lst _ => inD k o.fz
  | .dK kvs => match dKey k with
    | some q => some (findK q kvs).isSome
    | none => if tKey k && kvs.isEmpty then some false else none
  | .dT kvs => if tKey k then some (findT k kvs).isSome else none
def lenO : O → Option Nat
  | .dat d => lenD d
  | .lst xs => some xs.length
  | .dK kvs => some kvs.length
  | .dT kvs => some kvs.length
def keysO : O → Option (List D)
  | .dat d => itD d
  | .lst xs => none
  | .dK kvs => some (kvs.map fun p => kD p.1)
  | .dT kvs => some (kvs.map fun p => p.1)
def pkO (p : Pk) (o : O) (es : List D) : Option D :=
  match p, es with
  | .len, [] => (lenO o).map fun (n : Nat) => .int (n : Int)
  | .idx, [k] => peekO o k
  | .in_, [k] => (hasO o k).map .bool
  | .notin, [k] => (hasO o k).map fun b => .bool !b
  | .tru, [] => (lenO o).map fun (n : Nat) => .bool (decide (n ≠ 0))
  | .fls, [] => (lenO o).map fun (n : Nat) => .bool (decide (n = 0))
  | .sorted, [] => ((keysO o).bind sortD).map .list
  | .list, [] => (keysO o).map .list
  | .get1, [k] => match hasO o k with
    | some true => peekO o k
    | some false => some .none
    | none => none
  | .get2, [k, d] => match hasO o k with
    | some true => peekO o k
    | some false => some d
    | none => none
  | _, _ => none

/-- heapq over a list kept as a heap: only the least item is told -/
def ltO (x y : O) : Option Bool :=
  match x, y with
  | .dat a, .dat b => ltD a b
  | _, _ => none
/-- the walk of an item up to its place (heapq._siftdown) -/
def siftDown (fuel : Nat) (xs : List O) (pos : Nat) (new : O) : Option (List O) :=
  match fuel with
  | 0 => none
  | fuel + 1 =>
    if pos = 0 then some (xs.set pos new)
    else
      let par := (pos - 1) / 2
      match xs[par]? with
      | none => none
      | some p => match ltO new p with
        | none => none
        | some true => siftDown fuel (xs.set pos p) par new
        | some false => some (xs.set pos new)
/-- the walk of a hole down to a leaf (heapq._siftup) -/
def siftUp (fuel : Nat) (xs : List O) (pos : Nat) (new : O) : Option (List O) :=
  match fuel with
  | 0 => none
  | fuel + 1 =>
    let child := 2 * pos + 1
    if child < xs.length then
      let right := child + 1
      match xs[child]? with
      | none => none
      | some c =>
        if right < xs.length then
          match xs[right]? with
          | none => none
          | some r => match ltO c r with
            | none => none
            | some true => siftUp fuel (xs.set pos c) child new
            | some false => siftUp fuel (xs.set pos r) right new
        else siftUp fuel (xs.set pos c) child new
    else siftDown (fuel + xs.length + 1) (xs.set pos new) pos new
def hpush (xs : List O) (o : O) : Option (List O) := if xs.length < top then siftDown (xs.length + 2) (xs ++ [o]) xs.length o else none
def hpop (xs : List O) : Option (O × List O) :=
  match xs.reverse with
  | [] => none
  | last :: _ =>
    match xs.dropLast with
    | [] => some (last, [])
    | first :: r => (siftUp (xs.length + 2) (first :: r) 0 last).map fun ys => (first, ys)

/-- a change of an owned thing: what it hands back, the thing behind it -/
def mutO (m : Mm) (o : O) (es : List O) : Option (O × O) :=
  match m, o, es with
  | .append, .lst xs, [v] => if xs.length < top then some (.dat .none, .lst (xs ++ [v])) else none
  | .extend, .lst xs, [.lst ys] => if xs.length + ys.length ≤ top then some (.dat .none, .lst (xs ++ ys)) else none
  | .extend, .lst xs, [.dat (.list ys)] => if xs.length + ys.length ≤ top then some (.dat .none, .lst (xs ++ ys.map .dat)) else none
  | .popAt, .lst xs, [.dat (.int i)] => match ixN xs.length i with
    | some j => match xs[j]? with
      | some v => some (v, .lst (xs.eraseIdx j))
      | none => none
    | none => none
  | .pop0, .lst xs, [] => match xs.getLast? with
    | some v => some (v, .lst xs.dropLast)
    | none => none
  | .push, .lst xs, [v] => (hpush xs v).map fun ys => (.dat .none, .lst ys)
  | .hpop, .lst xs, [] => (hpop xs).map fun p => (p.1, .lst p.2)
  | _, _, _ => none
/-- another thing at a key where one stands -/
def plugO (o : O) (k : D) (c : O) : O :=
  match o with
  | .dat d => .dat d
  | .lst xs => match k with
    | .int i => match ixN xs.length i with
      | some j => .lst (xs.set j c)
      | none => o
    | _ => o
  | .dK kvs => match dKey k with
    | some q => .dK (putK q c kvs)
    | none => o
  | .dT kvs => .dT (putT k c kvs)
/-- the change at the end of a path of keys -/
def atPath (f : O → Option (O × O)) : List D → O → Option (O × O)
  | [], o => f o
  | k :: ks, o => match childO o k with
    | some c => (match atPath f ks c with
      | some (r, c') => some (r, plugO o k c')
      | none => none)
    | none => none

/-- how own defs answer: the def, the arguments; the answer, and what the kept parameters are behind it -/
abbrev Cf := Nat → List O → Option (Rs O × List (Option O))

def fzR (m : Mo O) : Mo O := bd m fun o s => rt (.dat o.fz) s
def tst (m : Mo O) : Mo Bool := bd m fun o s => match truD o.fz with
  | some b => some (.ok b, s)
  | none => none
def zipO : List D → List O → Option O → Option O
  | [], [], o => o
  | k :: ks, v :: vs, some o => zipO ks vs (putO o k v)
  | _, _, _ => none

def collect : Ck → List O → Option O
  | .lst, os => some (.lst os)
  | .set, os => (mkSet (fzs os)).map .dat
  | .dct, os => os.foldl (fun acc o => match acc, o with
    | some d, .lst [k, v] => putO d k.fz v
    | _, _ => none) (some (.dK []))

mutual
/-- tuples for lists, at any depth -/
def asTup : D → D
  | .list xs => .tuple (asTups xs)
  | .tuple xs => .tuple (asTups xs)
  | d => d
def asTups : List D → List D
  | [] => []
  | x :: r => asTup x :: asTups r
end
def mkEx (ecs : List Ec) (c : Nat) (ks : List Str) (ds : List D) : Option D :=
  match ecs[c]? with
  | some e => if e.fields.length = ds.length ∧ ds.length ≤ 1 ∧ (ks = [] ∨ ks = e.fields) ∧ ds.all atomB = true ∧ baseOf ecs e.adr = some e.base then some (excD e.adr ((e.fields.map .str).zip ds)) else none
  | none => none

section
variable (P : Prog) (cf : Cf)
/-- the parameters that were lent go back into their slots -/
def back : List (Option Nat) → List (Option O) → Stt → Option Stt
  | [], [], s => some s
  | none :: r, _ :: os, s => back r os s
  | some i :: r, some o :: os, s => back r os (s.set i (some o))
  | _, _, _ => none
def callD (f : Nat) (os : List O) (lent : List (Option Nat)) (s : Stt) : Mo O :=
  match cf f os with
  | some (.ok o, outs) => (match back lent outs s with
    | some s' => some (.ok o, s')
    | none => none)
  | some (.ex x, outs) => (match back lent outs s with
    | some s' => some (.ex x, s')
    | none => none)
  | none => none
/-- the lent slots give out what they hold -/
def lend : List (O ⊕ Nat) → Stt → Option (List O × Stt)
  | [], s => some ([], s)
  | .inl o :: r, s => match lend r s with
    | some (os, s') => some (o :: os, s')
    | none => none
  | .inr i :: r, s => match get s i with
    | some o => (match lend r (s.set i none) with
      | some (os, s') => some (o :: os, s')
      | none => none)
    | none => none
def lentOf : O ⊕ Nat → Option Nat
  | .inl _ => none
  | .inr i => some i
/-- walking a list of items -/
def eachG (body : D → Stt → List O → Option (List O × Stt)) : List D → Stt → List O → Option (List O × Stt)
  | [], s, acc => some (acc, s)
  | d :: r, s, acc => match body d s acc with
    | some (acc', s') => eachG body r s' acc'
    | none => none
/-- the arguments, in the parameters' order -/
def ordL {α : Type} (names ks : List Str) (l : List α) : Option (List α) := names.mapM fun n => (ks.zip l).lookup n

mutual
def ev : E → Stt → Mo O
  | .lit d, s => rt (.dat d) s
  | .glob g, s => match P.glos[g]? with
    | some x => rt (.dat x.val) s
    | none => none
  | .var i, s => getF i s
  | .tup es, s => bd (evs es s) fun os s => rt (.dat (.tuple (fzs os))) s
  | .lst es, s => bd (evs es s) fun os s => rt (.lst os) s
  | .dct ks vs, s => bd (evs ks s) fun os s => bd (evs vs s) fun ws s => lf (zipO (fzs os) ws (some (.dK []))) s
  | .bin op a b, s => bd (ev a s) fun x s => bd (ev b s) fun y s => lf (binD op x.fz y.fz) s
  | .neg a, s => bd (ev a s) fun x s => match x.fz with
    | .int i => rt (.dat (.int (-i))) s
    | _ => none
  | .nt a, s => bd (ev a s) fun x s => lfd ((truD x.fz).map fun b => .bool !b) s
  | .cmp op a b, s => bd (ev a s) fun x s => bd (ev b s) fun y s => lfd ((cmpD op x.fz y.fz).map .bool) s
  | .inx neg a b, s => bd (ev a s) fun x s => bd (ev b s) fun y s => lfd ((inX P.ecs neg x.fz y.fz).map .bool) s
  | .and a b, s => bd (ev a s) fun x s => match truD x.fz with
    | some true => ev b s
    | some false => rt x s
    | none => none
  | .or a b, s => bd (ev a s) fun x s => match truD x.fz with
    | some true => rt x s
    | some false => ev b s
    | none => none
  | .ite c a b, s => bd (ev c s) fun x s => match truD x.fz with
    | some true => ev a s
    | some false => ev b s
    | none => none
  | .idx a i, s => bd (ev a s) fun x s => bd (ev i s) fun y s => lfd (idxD x.fz y.fz) s
  | .slc a l u, s => bd (ev a s) fun x s => bd (evo l s) fun y s => match optI y with
    | some l => bd (evo u s) fun z s => (match optI z with
      | some u => lf (slcD x.fz l u) s
      | none => none)
    | none => none
  | .rvs a, s => bd (ev a s) fun x s => lf (rvsD x.fz) s
  | .call _ f as, s => bd (eva as s) fun ps s => match lend ps s with
    | some (os, s') => callD cf f os (ps.map lentOf) s'
    | none => none
  | .callK _ f ks es, s => bd (evs es s) fun os s => match P.defs[f]? with
    | some d => if ks ∈ d.kws then (match ordL (d.names.take d.np) ks (fzs os) with
      | some ds => callD cf f (ds.map .dat) (ds.map fun _ => none) s
      | none => none)
      else none
    | none => none
  | .bf f es, s => bd (evs es s) fun os s => lf (bfD f (fzs os)) s
  | .sset f a, s => bd (ev a s) fun o s => lf ((setOf o.fz).bind fun d => bfD f [d]) s
  | .col t it, s => bd (evi it s) fun ds s => if t then rt (.dat (.tuple ds)) s else rt (.lst (ds.map .dat)) s
  | .isi a ts, s => bd (ev a s) fun x s => lfd ((isiD P.ecs x.fz ts).map .bool) s
  | .met m a es, s => bd (ev a s) fun x s => bd (evs es s) fun os s => lf (metD m x.fz (fzs os)) s
  | .attr a f, s => bd (ev a s) fun x s => lfd (attrD P.ecs f x.fz) s
  | .pk p i es, s => if (get s i).isSome then bd (evs es s) fun os s => (match get s i with
      | some o => lfd (pkO p o (fzs os)) s
      | none => none)
    else none
  | .mut m i path fz es, s => if (get s i).isSome then bd (evs path s) fun ks s => (match get s i with
      | none => none
      | some o => if isL (childP (fzs ks) o) then bd (evs es (s.set i none)) fun os s => (match atPath (fun o => mutO m o (if fz then fzO os else os)) (fzs ks) o with
          | some (r, o') => rt r (s.set i (some o'))
          | none => none)
        else none)
    else none
  | .comp k vs tg it ifs gs, s => bd (evi it s) fun ds s =>
    if vs.all fun v => isDat ((s[v]?).join) then
      match eachG (fun d s acc => match asg tg d (wipe vs s) with
        | none => none
        | some s1 => match evc ifs s1 with
          | some (.ok true, s2) => evg gs s2 acc
          | some (.ok false, s2) => some (acc, s2)
          | _ => none) ds s [] with
      | some (os, s') => lf (collect k os) (restore vs s s')
      | none => none
    else none
  | .mkx _ c ks es, s => bd (evs es s) fun os s => lfd (mkEx P.ecs c ks (fzs os)) s
def evs : Es → Stt → Mo (List O)
  | .nil, s => some (.ok [], s)
  | .cons e r, s => bd (ev e s) fun o s => bd (evs r s) fun os s => some (.ok (o :: os), s)
def evo : Oe → Stt → Mo (Option D)
  | .none, s => some (.ok none, s)
  | .some e, s => bd (ev e s) fun o s => some (.ok (some o.fz), s)
def eva : As → Stt → Mo (List (O ⊕ Nat))
  | .nil, s => some (.ok [], s)
  | .val e r, s => bd (ev e s) fun o s => bd (eva r s) fun os s => some (.ok (.inl (.dat o.fz) :: os), s)
  | .own e r, s => bd (ev e s) fun o s => bd (eva r s) fun os s => some (.ok (.inl o :: os), s)
  | .ref i r, s => match get s i with
    | some _ => bd (eva r s) fun os s => some (.ok (.inr i :: os), s)
    | none => none
def evi : It → Stt → Mo (List D)
  | .any e, s => bd (ev e s) fun o s => match itD o.fz with
    | some ds => some (.ok ds, s)
    | none => none
  | .rng es, s => bd (evs es s) fun os s => match rangeOf (fzs os) with
    | some ds => some (.ok ds, s)
    | none => none
  | .enum e, s => bd (ev e s) fun o s => match itS o.fz with
    | some ds => some (.ok (enumFrom 0 ds), s)
    | none => none
  | .zip a b, s => bd (ev a s) fun x s => bd (ev b s) fun y s => match itS x.fz, itS y.fz with
    | some xs, some ys => some (.ok (zipD xs ys), s)
    | _, _ => none
  | .rev e, s => bd (ev e s) fun o s => match o.fz with
    | .list ds => some (.ok ds.reverse, s)
    | .tuple ds => some (.ok ds.reverse, s)
    | _ => none
/-- the clauses of a comprehension -/
def evg : Gs → Stt → List O → Option (List O × Stt)
  | .last e, s, acc => match ev e s with
      | some (.ok o, s') => if acc.length < top then some (acc ++ [o], s') else none
      | _ => none
  | .last2 k v, s, acc => match bd (ev k s) fun k s => bd (ev v s) fun v s => rt (.lst [k, v]) s with
      | some (.ok o, s') => if acc.length < top then some (acc ++ [o], s') else none
      | _ => none
  | .cons tg it ifs r, s, acc => match evi it s with
    | some (.ok ds, s') => eachG (fun d s acc => match asg tg d (wipe tg.slots s) with
        | none => none
        | some s1 => match evc ifs s1 with
          | some (.ok true, s2) => evg r s2 acc
          | some (.ok false, s2) => some (acc, s2)
          | _ => none) ds s' acc
    | _ => none
/-- all tests of a clause -/
def evc : Es → Stt → Mo Bool
  | .nil, s => some (.ok true, s)
  | .cons e r, s => bd (tst (ev e s)) fun b s => if b then evc r s else some (.ok false, s)
end
end

inductive Fl where
  | nx
  | rt (o : O)
  | bk
  | ct
  | ex (x : D)
abbrev Mf := Option (Fl × Stt)
def bf {α : Type} (m : Mo α) (f : α → Stt → Mf) : Mf :=
  match m with
  | some (.ok a, s) => f a s
  | some (.ex x, s) => some (.ex x, s)
  | none => none
@[simp] theorem bf_ok {α : Type} (a : α) (s : Stt) (f : α → Stt → Mf) : bf (some (.ok a, s)) f = f a s := rfl
@[simp] theorem bf_ex {α : Type} (x : D) (s : Stt) (f : α → Stt → Mf) : bf (some (.ex x, s)) f = some (.ex x, s) := rfl
@[simp] theorem bf_none {α : Type} (f : α → Stt → Mf) : bf none f = none := rfl
def sq (m : Mf) (f : Stt → Mf) : Mf :=
  match m with
  | some (.nx, s) => f s
  | m => m
@[simp] theorem sq_nx (s : Stt) (f : Stt → Mf) : sq (some (.nx, s)) f = f s := rfl
/-- a turn of a loop -/
def turn (m : Mf) (again : Stt → Mf) : Mf :=
  match m with
  | some (.nx, s) => again s
  | some (.ct, s) => again s
  | some (.bk, s) => some (.nx, s)
  | m => m
def whileF (c : Stt → Mo Bool) (b : Stt → Mf) : Nat → Stt → Mf
  | 0, _ => none
  | n + 1, s => bf (c s) fun t s => if t then turn (b s) (whileF c b n) else some (.nx, s)
def forF (tg : Tg) (b : Stt → Mf) : List D → Stt → Mf
  | [], s => some (.nx, s)
  | d :: r, s => match asg tg d s with
    | some s => turn (b s) (forF tg b r)
    | none => none
/-- turns that a while may take -/
def many : Nat := 1000000
def putAll : List Nat → List Nat → List O → Stt → Option Stt
  | [], [], [], s => some s
  | i :: is, b :: bs, o :: os, s => putAll is bs os (put s i (o.frz b))
  | _, _, _, _ => none
/-- op= of whole numbers -/
def augI : Bop → Int → D → Option Int
  | .add, a, .int b => some (a + b)
  | .sub, a, .int b => some (a - b)
  | _, _, _ => none
section
variable (P : Prog) (cf : Cf)
mutual
def exS : S → Stt → Mf
  | .exp e, s => bf (ev P cf e s) fun _ s => some (.nx, s)
  | .set i b e, s => bf (ev P cf e s) fun o s => some (.nx, put s i (o.frz b))
  | .unp is e, s => bf (ev P cf e s) fun o s => match asg (.tup is) o.fz s with
    | some s => some (.nx, s)
    | none => none
  | .par is bs es, s => bf (evs P cf es s) fun os s => match putAll is bs os s with
    | some s => some (.nx, s)
    | none => none
  | .sto i path fz k e, s => bf (ev P cf e s) fun v s => if (get s i).isSome then bf (evs P cf path s) fun ks s => bf (ev P cf k s) fun q s => (match get s i with
      | some o => (match atPath (fun o => (putO o q.fz (if fz then .dat v.fz else v)).map fun o' => (.dat .none, o')) (fzs ks) o with
        | some (_, o') => some (.nx, put s i o')
        | none => none)
      | none => none)
    else none
  | .aug i op e, s => match get s i with
    | some (.dat (.int a)) => bf (ev P cf e s) fun y s => (match augI op a y.fz with
      | some z => some (.nx, put s i (.dat (.int z)))
      | none => none)
    | _ => none
  | .augS i path k op e, s => bf (evs P cf path s) fun ks s => bf (ev P cf k s) fun q s => match get s i with
    | none => none
    | some o => match atPath (fun o => (peekO o q.fz).map fun d => (.dat d, o)) (fzs ks) o with
      | none => none
      | some (old, _) => bf (ev P cf e (s.set i none)) fun v s => match binD op old.fz v.fz with
        | none => none
        | some w => match atPath (fun o => (putO o q.fz w).map fun o' => (.dat .none, o')) (fzs ks) o with
          | some (_, o') => some (.nx, put s i o')
          | none => none
  | .ife c a b, s => bf (tst (ev P cf c s)) fun t s => if t then exs a s else exs b s
  | .whl c b, s => whileF (fun s => tst (ev P cf c s)) (fun s => exs b s) many s
  | .for_ tg it b, s => bf (evi P cf it s) fun ds s => forF tg (fun s => exs b s) ds s
  | .ret e, s => bf (ev P cf e s) fun o s => some (.rt o, s)
  | .retv i, s => match get s i with
    | some o => some (.rt o, s.set i none)
    | none => none
  | .retN, s => some (.rt (.dat .none), s)
  | .brk, s => some (.bk, s)
  | .cnt, s => some (.ct, s)
  | .pass, s => some (.nx, s)
  | .rai _ c es, s => bf (evs P cf es s) fun os s => match mkEx P.ecs c [] (fzs os) with
    | some x => some (.ex x, s)
    | none => none
  | .try_ b h, s => match exs b s with
    | some (.ex x, s') => exh h x s'
    | m => m
def exs : Ss → Stt → Mf
  | .nil, s => some (.nx, s)
  | .cons a r, s => sq (exS a s) fun s => exs r s
def exh : Hs → D → Stt → Mf
  | .nil, x, s => some (.ex x, s)
  | .cons ty _ n b r, x, s => if tyD P.ecs x ty then
      (match exs b (match n with
        | none => s
        | some i => put s i (.dat x)) with
      | some (.ex _, _) => none
      | some (f, s') => some (f, match n with
        | none => s'
        | some i => s'.set i none)
      | none => none)
    else exh r x s
end
end

def outs (np : Nat) (refs : List Nat) (st : Stt) : List (Option O) := (List.range np).map fun j => if j ∈ refs then get st j else none
def start (d : Df) (os : List O) : Stt := os.map some ++ List.replicate (d.ns - d.np) none
def ends (d : Df) : Mf → Option (Rs O × List (Option O))
  | some (.nx, s) => some (.ok (.dat .none), outs d.np d.refs s)
  | some (.rt o, s) => some (.ok (if d.fz then .dat o.fz else o), outs d.np d.refs s)
  | some (.ex x, s) => some (.ex x, outs d.np d.refs s)
  | _ => none
def callF (P : Prog) : Nat → Cf
  | 0 => fun _ _ => none
  | n + 1 => fun f os => match P.defs[f]? with
    | some d => if os.length = d.np then ends d (exs P (callF P n) d.body (start d os)) else none
    | none => none
end Ur
end
section
set_option linter.all false
set_option autoImplicit false
/-! UrC: what of the heap belongs to whom. -/
namespace Ur
open PySem L2

def Stable : HO → Prop
  | .tup _ => True
  | .frz _ _ => True
  | .xd _ => True
  | _ => False

structure Asn where
  P : Hp → (Addr → Prop) → Prop
  loc : ∀ (H H' : Hp) q, P H q → (∀ a o, H a = some o → (q a ∨ Stable o) → H' a = some o) → P H' q
  al : ∀ H q a, P H q → q a → H a ≠ none

def Sat (H : Hp) : List Asn → (Addr → Prop) → Prop
  | [], p => ∀ a, ¬ p a
  | A :: l, p => ∃ q r, A.P H q ∧ Sat H l r ∧ (∀ a, q a → ¬ r a) ∧ ∀ a, p a ↔ (q a ∨ r a)

theorem Sat.perm {H : Hp} {l l' : List Asn} (h : l.Perm l') : ∀ {p}, Sat H l p → Sat H l' p := by
  induction h with
  | nil => exact fun h => h
  | cons x _ ih =>
    rintro p ⟨q, r, h1, h2, h3, h4⟩
    exact ⟨q, r, h1, ih h2, h3, h4⟩
  | swap x y l =>
    rintro p ⟨q, r, h1, ⟨q', r', k1, k2, k3, k4⟩, h3, h4⟩
    refine ⟨q', fun a => q a ∨ r' a, k1, ⟨q, r', h1, k2, fun a ha hr => h3 a ha ((k4 a).2 (.inr hr)), fun a => Iff.rfl⟩, ?_, fun a => ?_⟩
    · rintro a ha (hq | hr)
      · exact h3 a hq ((k4 a).2 (.inl ha))
      · exact k3 a ha hr
    · rw [h4 a, k4 a]
      constructor
      · rintro (z | z | z)
        · exact .inr (.inl z)
        · exact .inl z
        · exact .inr (.inr z)
      · rintro (z | z | z)
        · exact .inr (.inl z)
        · exact .inl z
        · exact .inr (.inr z)
  | trans _ _ ih1 ih2 => exact fun h => ih2 (ih1 h)
theorem Sat.loc {H H' : Hp} : ∀ {l : List Asn} {p}, Sat H l p → (∀ a o, H a = some o → (p a ∨ Stable o) → H' a = some o) → Sat H' l p
  | [], _, h, _ => h
  | A :: l, p, ⟨q, r, h1, h2, h3, h4⟩, k =>
    ⟨q, r, A.loc H H' q h1 fun a o e z => k a o e (z.imp (fun z => (h4 a).2 (.inl z)) id), Sat.loc h2 fun a o e z => k a o e (z.imp (fun z => (h4 a).2 (.inr z)) id), h3, h4⟩
theorem Sat.al {H : Hp} : ∀ {l : List Asn} {p}, Sat H l p → ∀ a, p a → H a ≠ none
  | [], _, h, a, z => absurd z (h a)
  | A :: l, p, ⟨q, r, h1, h2, h3, h4⟩, a, z => by
    rcases (h4 a).1 z with z | z
    · exact A.al H q a h1 z
    · exact h2.al a z
/-- what holds, wherever it stands -/
def Sa (H : Hp) (l : List Asn) : Prop := ∃ p, Sat H l p
theorem Sa.perm {H : Hp} {l l' : List Asn} (s : Sa H l) (h : l.Perm l') : Sa H l' := let ⟨p, s⟩ := s; ⟨p, s.perm h⟩
theorem Sa.tail {H : Hp} {A : Asn} {l : List Asn} (s : Sa H (A :: l)) : Sa H l := let ⟨_, _, r, _, h, _, _⟩ := s; ⟨r, h⟩
theorem Sa.head {H : Hp} {A : Asn} {l : List Asn} (s : Sa H (A :: l)) : ∃ q, A.P H q := let ⟨_, q, _, h, _⟩ := s; ⟨q, h⟩
theorem Sa.nil {H : Hp} : Sa H [] := ⟨fun _ => False, fun _ z => z⟩
/-- one that owns nothing comes or goes as it likes -/
theorem Sa.cons0 {H : Hp} {A : Asn} {l : List Asn} (s : Sa H l) (h : A.P H fun _ => False) : Sa H (A :: l) :=
  let ⟨p, s⟩ := s; ⟨p, fun _ => False, p, h, s, fun _ z => z.elim, fun _ => by simp⟩
theorem Sa.app {H : Hp} : ∀ {l m : List Asn} {p q}, Sat H l p → Sat H m q → (∀ a, p a → ¬ q a) → Sat H (l ++ m) fun a => p a ∨ q a
  | [], m, p, q, h, k, d => by
    have e : (fun a => p a ∨ q a) = q := by funext a; exact propext ⟨fun z => z.elim (fun z => absurd z (h a)) id, .inr⟩
    rw [e]; exact k
  | A :: l, m, p, q, ⟨q1, r1, h1, h2, h3, h4⟩, k, d => by
    refine ⟨q1, fun a => r1 a ∨ q a, h1, Sa.app h2 k fun a z => d a ((h4 a).2 (.inr z)), fun a z w => ?_, fun a => ?_⟩
    · rcases w with w | w
      · exact h3 a z w
      · exact d a ((h4 a).2 (.inl z)) w
    · show (p a ∨ q a) ↔ (q1 a ∨ (r1 a ∨ q a))
      rw [h4 a, or_assoc]
theorem Sat.split {H : Hp} : ∀ {l m : List Asn} {p}, Sat H (l ++ m) p → ∃ q r, Sat H l q ∧ Sat H m r ∧ (∀ a, q a → ¬ r a) ∧ ∀ a, p a ↔ (q a ∨ r a)
  | [], m, p, h => ⟨fun _ => False, p, fun _ z => z, h, fun _ z => z.elim, fun _ => by simp⟩
  | A :: l, m, p, ⟨q1, r1, h1, h2, h3, h4⟩ => by
    obtain ⟨q, r, k1, k2, k3, k4⟩ := Sat.split (l := l) h2
    refine ⟨fun a => q1 a ∨ q a, r, ⟨q1, q, h1, k1, fun a z w => h3 a z ((k4 a).2 (.inl w)), fun _ => Iff.rfl⟩, k2, fun a z w => ?_, fun a => ?_⟩
    · rcases z with z | z
      · exact h3 a z ((k4 a).2 (.inr w))
      · exact k3 a z w
    · rw [h4 a, k4 a, or_assoc]

/-! ## changes of the heap -/
theorem Sat.new {H : Hp} {l : List Asn} {p} {a : Addr} {o : HO} (s : Sat H l p) (h : H a = none) : Sat (upd H a o) l p :=
  s.loc fun b u e _ => by rw [upd_ne (ne_of_none e h)]; exact e
theorem Sa.new {H : Hp} {l : List Asn} {a : Addr} {o : HO} (s : Sa H l) (h : H a = none) : Sa (upd H a o) l := let ⟨p, s⟩ := s; ⟨p, s.new h⟩
/-- a plain thing that one owner may change -/
def pt (a : Addr) (o : HO) : Asn where
  P := fun H q => H a = some o ∧ ¬ Stable o ∧ ∀ b, q b ↔ b = a
  loc := fun H H' q h k => ⟨k a o h.1 (.inl ((h.2.2 a).2 rfl)), h.2⟩
  al := fun H q b h z => by rw [(h.2.2 b).1 z, h.1]; exact fun e => nomatch e
theorem Sat.pt_upd {H : Hp} {l : List Asn} {p} {a : Addr} {o : HO} {o' : HO} (s : Sat H (pt a o :: l) p) : ∃ r, Sat (upd H a o') l r ∧ ¬ r a ∧ ∀ b, r b → p b := by
  obtain ⟨q, r, ⟨h1, h1', h2⟩, h3, h4, h5⟩ := s
  refine ⟨r, h3.loc fun b u e z => ?_, h4 a ((h2 a).2 rfl), fun b z => (h5 b).2 (.inr z)⟩
  rw [upd_ne]
  · exact e
  · rintro rfl
    rcases z with z | z
    · exact h4 b ((h2 b).2 rfl) z
    · rw [h1] at e; cases e; exact h1' z
theorem Sa.write {H : Hp} {l : List Asn} {a : Addr} {o o' : HO} (s : Sa H (pt a o :: l)) (ns : ¬ Stable o') : Sa (upd H a o') (pt a o' :: l) := by
  obtain ⟨p, s⟩ := s
  obtain ⟨r, h1, h2, _⟩ := s.pt_upd (o' := o')
  exact ⟨fun b => b = a ∨ r b, fun b => b = a, r, ⟨upd_same, ns, fun _ => Iff.rfl⟩, h1, fun b e z => by rw [e] at z; exact h2 z, fun _ => Iff.rfl⟩
/-- it is let go -/
theorem Sa.drop {H : Hp} {l : List Asn} {a : Addr} {o o' : HO} (s : Sa H (pt a o :: l)) : Sa (upd H a o') l := by
  obtain ⟨p, s⟩ := s
  obtain ⟨r, h1, _⟩ := s.pt_upd (o' := o')
  exact ⟨r, h1⟩
theorem Sa.made {H : Hp} {l : List Asn} {a : Addr} {o : HO} (s : Sa H l) (h : H a = none) (ns : ¬ Stable o) : Sa (upd H a o) (pt a o :: l) := by
  obtain ⟨p, s⟩ := s
  refine ⟨fun b => b = a ∨ p b, fun b => b = a, p, ⟨upd_same, ns, fun _ => Iff.rfl⟩, s.new h, fun b e z => ?_, fun _ => Iff.rfl⟩
  rw [e] at z
  exact s.al a z h
theorem Sa.pt_get {H : Hp} {l : List Asn} {a : Addr} {o : HO} (s : Sa H (pt a o :: l)) : H a = some o := let ⟨_, h⟩ := s.head; h.1

/-! ## frozen data -/
def FzL (K : PySem.W.Frag) (H : Hp) (a : Addr) (xs : List V) : Prop := (∃ o, H a = some (.frz o (.lst xs))) ∨
  ∃ (its : List Value) (n : Nat), K.lookup a = some { cls := .type "list", data := .seq its.toArray n } ∧ its.length ≤ sizeLine ∧ Vals xs its
def keyOk : Key → Bool
  | .inl _ => true
  | .inr x => PyData.strOk x && decide (x.length ≤ top)
def keysOk {α : Type} (kvs : List (Key × α)) : Bool := (kvs.all fun p => keyOk p.1) && decide (kvs.map (·.1)).Nodup && decide (kvs.length ≤ top)
/-- an exception's object that nobody changes any more: its class, its dict -/
def exv (a : Addr) (cls : Value) (d : Option Addr) : HO := .ext fun h => ∃ (oe : Obj) (vs : Array Value), h.get? a = some oe ∧ Zc cls d oe ∧ oe.data = .fields vs
def XObj (H : Hp) (a C : Addr) (d : Option Addr) : Prop := ∃ o u, H a = some (.frz o u) ∧ (u = exo a C d ∨ u = exv a (.ref C) d)
/-- its fields -/
def XDict (H : Hp) (d : Addr) (fs : List (Str × V)) : Prop := H d = some (.xd fs) ∨ ∃ o, H d = some (.frz o (exd d fs))
inductive Atom : V → D → Prop
  | int (i : Int) (h : i.natAbs.log2 < 1900) : Atom (.int i) (.int i)
  | str (x : Str) (h : PyData.strOk x = true) (z : x.length ≤ 1000) : Atom (.str x) (.str x)
def XFields (H : Hp) (d : Option Addr) (fs : List (D × D)) : Prop :=
  (d = none ∧ fs = []) ∨ ∃ dd f v y, d = some dd ∧ XDict H dd [(f, v)] ∧ Atom v y ∧ fs = [(.str f, y)]
section
variable (K : PySem.W.Frag)
def FzT (H : Hp) (a : Addr) (xs : List V) : Prop := H a = some (.tup xs) ∨ SqT K (fun _ => none) a xs
mutual
inductive RD (H : Hp) : V → D → Prop
  | non : RD H .non .none
  | bl (b : Bool) : RD H (.bl b) (.bool b)
  | int (i : Int) : RD H (.int i) (.int i)
  | str (x : Str) (h : PyData.strOk x = true) (z : x.length ≤ top) : RD H (.str x) (.str x)
  | lst {a : Addr} {xs : List V} {ds : List D} (h : FzL K H a xs) (z : xs.length ≤ top) (r : RDs H xs ds) : RD H (.ref a) (.list ds)
  | tup {a : Addr} {xs : List V} {ds : List D} (h : FzT K H a xs) (z : xs.length ≤ top) (r : RDs H xs ds) : RD H (.ref a) (.tuple ds)
  | dct {a : Addr} {o : Obj} {kvs : List (Key × V)} {ds : List (D × D)} (h : H a = some (.frz o (.dK kvs))) (g : keysOk kvs = true) (r : RDk H kvs ds) : RD H (.ref a) (.dict ds)
  | exc {a C : Addr} {d : Option Addr} {fs : List (D × D)} (h : XObj H a C d) (g : XFields H d fs) : RD H (.ref a) (excD C fs)
inductive RDs (H : Hp) : List V → List D → Prop
  | nil : RDs H [] []
  | cons {v : V} {d : D} {vs : List V} {ds : List D} (h : RD H v d) (r : RDs H vs ds) : RDs H (v :: vs) (d :: ds)
inductive RDk (H : Hp) : List (Key × V) → List (D × D) → Prop
  | nil : RDk H [] []
  | cons {k : Key} {v : V} {d : D} {vs : List (Key × V)} {ds : List (D × D)} (h : RD H v d) (r : RDk H vs ds) : RDk H ((k, v) :: vs) ((kD k, d) :: ds)
end
end
section
variable {K : PySem.W.Frag} {H H' : Hp}
/-- nothing frozen is lost -/
def Kept (H H' : Hp) : Prop := ∀ a o, H a = some o → Stable o → H' a = some o
theorem FzL.kept (k : Kept H H') {a : Addr} {xs : List V} (h : FzL K H a xs) : FzL K H' a xs := by
  rcases h with ⟨o, h⟩ | h
  · exact .inl ⟨o, k _ _ h trivial⟩
  · exact .inr h
theorem FzT.kept (k : Kept H H') {a : Addr} {xs : List V} (h : FzT K H a xs) : FzT K H' a xs := by
  rcases h with h | h
  · exact .inl (k _ _ h trivial)
  · exact .inr h
theorem XObj.kept (k : Kept H H') {a C : Addr} {d : Option Addr} (h : XObj H a C d) : XObj H' a C d := by
  obtain ⟨o, u, h, g⟩ := h
  exact ⟨o, u, k _ _ h trivial, g⟩
theorem XDict.kept (k : Kept H H') {d : Addr} {fs : List (Str × V)} (h : XDict H d fs) : XDict H' d fs := by
  rcases h with h | ⟨o, h⟩
  · exact .inl (k _ _ h trivial)
  · exact .inr ⟨o, k _ _ h trivial⟩
theorem XFields.kept (k : Kept H H') {d : Option Addr} {fs : List (D × D)} (h : XFields H d fs) : XFields H' d fs := by
  rcases h with h | ⟨dd, f, v, y, h1, h2, h3⟩
  · exact .inl h
  · exact .inr ⟨dd, f, v, y, h1, h2.kept k, h3⟩
mutual
theorem RD.kept (k : Kept H H') : ∀ {v : V} {d : D}, RD K H v d → RD K H' v d
  | _, _, .non => .non
  | _, _, .bl b => .bl b
  | _, _, .int i => .int i
  | _, _, .str x h z => .str x h z
  | _, _, .lst h z r => .lst (h.kept k) z (RDs.kept k r)
  | _, _, .tup h z r => .tup (h.kept k) z (RDs.kept k r)
  | _, _, .dct h g r => .dct (k _ _ h trivial) g (RDk.kept k r)
  | _, _, .exc h g => .exc (h.kept k) (g.kept k)
theorem RDs.kept (k : Kept H H') : ∀ {vs : List V} {ds : List D}, RDs K H vs ds → RDs K H' vs ds
  | _, _, .nil => .nil
  | _, _, .cons h r => .cons (RD.kept k h) (RDs.kept k r)
theorem RDk.kept (k : Kept H H') : ∀ {vs : List (Key × V)} {ds : List (D × D)}, RDk K H vs ds → RDk K H' vs ds
  | _, _, .nil => .nil
  | _, _, .cons h r => .cons (RD.kept k h) (RDk.kept k r)
end
theorem FzL.sq {a : Addr} {xs : List V} (h : FzL K H a xs) : SqL K H a xs := by
  rcases h with ⟨o, h⟩ | ⟨its, n, h, z, r⟩
  · exact .inl (.inr ⟨o, h⟩)
  · exact .inr ⟨_, its.toArray, n, h, rfl, rfl, rfl, by rw [List.size_toArray]; exact z, r⟩
theorem FzT.sq {a : Addr} {xs : List V} (h : FzT K H a xs) : SqT K H a xs := by
  rcases h with h | h
  · exact .inl (.inl h)
  · rcases h with h | h
    · rcases h with h | ⟨_, h⟩ <;> cases h
    · exact .inr h
theorem RDs.length : ∀ {vs : List V} {ds : List D}, RDs K H vs ds → vs.length = ds.length
  | _, _, .nil => rfl
  | _, _, .cons _ r => by simp [RDs.length r]
theorem RDs.get : ∀ {vs : List V} {ds : List D} {i : Nat} {d : D}, RDs K H vs ds → ds[i]? = some d → ∃ v, vs[i]? = some v ∧ RD K H v d
  | _, _, _, _, .nil, e => by simp at e
  | _, _, 0, _, .cons h r, e => by simp at e; subst e; exact ⟨_, rfl, h⟩
  | _, _, i + 1, _, .cons h r, e => by
    obtain ⟨v, e1, h1⟩ := RDs.get (i := i) r (by simpa using e)
    exact ⟨v, by simpa using e1, h1⟩
theorem RDs.getV : ∀ {vs : List V} {ds : List D} {i : Nat} {v : V}, RDs K H vs ds → vs[i]? = some v → ∃ d, ds[i]? = some d ∧ RD K H v d
  | _, _, _, _, .nil, e => by simp at e
  | _, _, 0, _, .cons h r, e => by simp at e; subst e; exact ⟨_, rfl, h⟩
  | _, _, i + 1, _, .cons h r, e => by
    obtain ⟨v, e1, h1⟩ := RDs.getV (i := i) r (by simpa using e)
    exact ⟨v, by simpa using e1, h1⟩
theorem RDs.append : ∀ {vs ws : List V} {ds es : List D}, RDs K H vs ds → RDs K H ws es → RDs K H (vs ++ ws) (ds ++ es)
  | _, _, _, _, .nil, s => s
  | _, _, _, _, .cons h r, s => .cons h (RDs.append r s)
theorem RDs.take : ∀ {vs : List V} {ds : List D} (n : Nat), RDs K H vs ds → RDs K H (vs.take n) (ds.take n)
  | _, _, 0, _ => .nil
  | _, _, _ + 1, .nil => .nil
  | _, _, n + 1, .cons h r => .cons h (RDs.take n r)
theorem RDs.drop : ∀ {vs : List V} {ds : List D} (n : Nat), RDs K H vs ds → RDs K H (vs.drop n) (ds.drop n)
  | _, _, 0, r => r
  | _, _, _ + 1, .nil => .nil
  | _, _, n + 1, .cons _ r => RDs.drop n r
theorem RDs.reverse {vs : List V} {ds : List D} (r : RDs K H vs ds) : RDs K H vs.reverse ds.reverse := by
  induction r using RDs.rec (motive_1 := fun _ _ _ => True) (motive_3 := fun _ _ _ => True) with
  | nil => exact .nil
  | cons h r _ ih => rw [List.reverse_cons, List.reverse_cons]; exact ih.append (.cons h .nil)
  | _ => trivial
end

/-! ## owned things -/
section
variable (K : PySem.W.Frag)
mutual
inductive RO (H : Hp) : V → O → (Addr → Prop) → Prop
  | dat {v : V} {d : D} {q : Addr → Prop} (h : RD K H v d) (n : ∀ a, ¬ q a) : RO H v (.dat d) q
  | lst {a : Addr} {xs : List V} {os : List O} {q r : Addr → Prop} (h : H a = some (.lst xs)) (z : xs.length ≤ top) (s : ROs H xs os r) (n : ¬ r a) (e : ∀ b, q b ↔ (b = a ∨ r b)) : RO H (.ref a) (.lst os) q
  | dK {a : Addr} {kvs : List (Key × V)} {os : List (Key × O)} {q r : Addr → Prop} (h : H a = some (.dK kvs)) (g : keysOk kvs = true) (s : ROk H kvs os r) (n : ¬ r a) (e : ∀ b, q b ↔ (b = a ∨ r b)) : RO H (.ref a) (.dK os) q
inductive ROs (H : Hp) : List V → List O → (Addr → Prop) → Prop
  | nil {q : Addr → Prop} (n : ∀ a, ¬ q a) : ROs H [] [] q
  | cons {v : V} {o : O} {vs : List V} {os : List O} {p q r : Addr → Prop} (h : RO H v o q) (s : ROs H vs os r) (n : ∀ a, q a → ¬ r a) (e : ∀ a, p a ↔ (q a ∨ r a)) : ROs H (v :: vs) (o :: os) p
inductive ROk (H : Hp) : List (Key × V) → List (Key × O) → (Addr → Prop) → Prop
  | nil {q : Addr → Prop} (n : ∀ a, ¬ q a) : ROk H [] [] q
  | cons {k : Key} {v : V} {o : O} {vs : List (Key × V)} {os : List (Key × O)} {p q r : Addr → Prop} (h : RO H v o q) (s : ROk H vs os r) (n : ∀ a, q a → ¬ r a) (e : ∀ a, p a ↔ (q a ∨ r a)) : ROk H ((k, v) :: vs) ((k, o) :: os) p
end
end
section
variable {K : PySem.W.Frag} {H H' : Hp}
theorem Kept.of {q : Addr → Prop} (k : ∀ a o, H a = some o → (q a ∨ Stable o) → H' a = some o) : Kept H H' := fun a o e s => k a o e (.inr s)
mutual
theorem RO.loc : ∀ {v : V} {o : O} {q : Addr → Prop}, RO K H v o q → (∀ a u, H a = some u → (q a ∨ Stable u) → H' a = some u) → RO K H' v o q
  | _, _, _, .dat h n, k => .dat (h.kept (Kept.of k)) n
  | _, _, _, .lst (a := a) h z s n e, k => .lst (k a _ h (.inl ((e a).2 (.inl rfl)))) z (ROs.loc s fun b u f w => k b u f (w.imp (fun w => (e b).2 (.inr w)) id)) n e
  | _, _, _, .dK (a := a) h g s n e, k => .dK (k a _ h (.inl ((e a).2 (.inl rfl)))) g (ROk.loc s fun b u f w => k b u f (w.imp (fun w => (e b).2 (.inr w)) id)) n e
theorem ROs.loc : ∀ {v : List V} {o : List O} {q : Addr → Prop}, ROs K H v o q → (∀ a u, H a = some u → (q a ∨ Stable u) → H' a = some u) → ROs K H' v o q
  | _, _, _, .nil n, k => .nil n
  | _, _, _, .cons h s n e, k => .cons (RO.loc h fun b u f w => k b u f (w.imp (fun w => (e b).2 (.inl w)) id)) (ROs.loc s fun b u f w => k b u f (w.imp (fun w => (e b).2 (.inr w)) id)) n e
theorem ROk.loc : ∀ {v : List (Key × V)} {o : List (Key × O)} {q : Addr → Prop}, ROk K H v o q → (∀ a u, H a = some u → (q a ∨ Stable u) → H' a = some u) → ROk K H' v o q
  | _, _, _, .nil n, k => .nil n
  | _, _, _, .cons h s n e, k => .cons (RO.loc h fun b u f w => k b u f (w.imp (fun w => (e b).2 (.inl w)) id)) (ROk.loc s fun b u f w => k b u f (w.imp (fun w => (e b).2 (.inr w)) id)) n e
end
mutual
theorem RO.al : ∀ {v : V} {o : O} {q : Addr → Prop}, RO K H v o q → ∀ a, q a → H a ≠ none
  | _, _, _, .dat h n, a, z => absurd z (n a)
  | _, _, _, .lst h _ s n e, b, z => by
    rcases (e b).1 z with z | z
    · rw [z, h]; exact fun e => nomatch e
    · exact ROs.al s b z
  | _, _, _, .dK h g s n e, b, z => by
    rcases (e b).1 z with z | z
    · rw [z, h]; exact fun e => nomatch e
    · exact ROk.al s b z
theorem ROs.al : ∀ {v : List V} {o : List O} {q : Addr → Prop}, ROs K H v o q → ∀ a, q a → H a ≠ none
  | _, _, _, .nil n, a, z => absurd z (n a)
  | _, _, _, .cons h s n e, b, z => by
    rcases (e b).1 z with z | z
    · exact RO.al h b z
    · exact ROs.al s b z
theorem ROk.al : ∀ {v : List (Key × V)} {o : List (Key × O)} {q : Addr → Prop}, ROk K H v o q → ∀ a, q a → H a ≠ none
  | _, _, _, .nil n, a, z => absurd z (n a)
  | _, _, _, .cons h s n e, b, z => by
    rcases (e b).1 z with z | z
    · exact RO.al h b z
    · exact ROk.al s b z
end
variable (K) in
def own (v : V) (o : O) : Asn where
  P := fun H q => RO K H v o q
  loc := fun _ _ _ h k => h.loc k
  al := fun _ _ a h z => h.al a z
variable (K) in
def owns : List V → List O → List Asn
  | v :: vs, o :: os => own K v o :: owns vs os
  | _, _ => []
variable (K) in
def ownk : List (Key × V) → List (Key × O) → List Asn
  | (_, v) :: vs, (_, o) :: os => own K v o :: ownk vs os
  | _, _ => []
theorem ROs.sat : ∀ {vs : List V} {os : List O} {q : Addr → Prop}, ROs K H vs os q → Sat H (owns K vs os) q
  | _, _, _, .nil n => n
  | _, _, _, .cons h s n e => ⟨_, _, h, s.sat, n, e⟩
theorem ROs.of : ∀ {vs : List V} {os : List O} {q : Addr → Prop}, vs.length = os.length → Sat H (owns K vs os) q → ROs K H vs os q
  | [], [], _, _, h => .nil h
  | [], _ :: _, _, e, _ => by simp at e
  | _ :: _, [], _, e, _ => by simp at e
  | v :: vs, o :: os, _, e, ⟨_, _, h, s, n, f⟩ => .cons h (ROs.of (by simpa using e) s) n f
theorem ROs.length : ∀ {vs : List V} {os : List O} {q : Addr → Prop}, ROs K H vs os q → vs.length = os.length
  | _, _, _, .nil n => rfl
  | _, _, _, .cons h s n e => by simp [s.length]
theorem ROk.sat : ∀ {vs : List (Key × V)} {os : List (Key × O)} {q : Addr → Prop}, ROk K H vs os q → Sat H (ownk K vs os) q
  | _, _, _, .nil n => n
  | _, _, _, .cons h s n e => ⟨_, _, h, s.sat, n, e⟩
theorem ROk.of : ∀ {vs : List (Key × V)} {os : List (Key × O)} {q : Addr → Prop}, vs.map (·.1) = os.map (·.1) → Sat H (ownk K vs os) q → ROk K H vs os q
  | [], [], _, _, h => .nil h
  | [], _ :: _, _, e, _ => by simp at e
  | _ :: _, [], _, e, _ => by simp at e
  | (k, v) :: vs, (k', o) :: os, _, e, ⟨_, _, h, s, n, f⟩ => by
    simp only [List.map_cons, List.cons.injEq] at e
    obtain ⟨rfl, e⟩ := e
    exact .cons h (ROk.of e s) n f
theorem ROk.keys : ∀ {vs : List (Key × V)} {os : List (Key × O)} {q : Addr → Prop}, ROk K H vs os q → vs.map (·.1) = os.map (·.1)
  | _, _, _, .nil n => rfl
  | _, _, _, .cons h s n e => by simp [s.keys]
/-- an owned list: its own place, and what stands in it -/
theorem Sa.openL {v : V} {os : List O} {l : List Asn} (s : Sa H (own K v (.lst os) :: l)) : ∃ a xs, v = .ref a ∧ xs.length = os.length ∧ xs.length ≤ top ∧ Sa H (pt a (.lst xs) :: (owns K xs os ++ l)) := by
  obtain ⟨p, q, r, h, s, n, e⟩ := s
  cases h with
  | lst h z t m f =>
    rename_i a xs r'
    refine ⟨a, xs, rfl, t.length, z, p, fun b => b = a, fun b => r' b ∨ r b, ⟨h, fun z => z, fun _ => Iff.rfl⟩, Sa.app t.sat s fun b w => n b ((f b).2 (.inr w)), fun b w x => ?_, fun b => ?_⟩
    · rcases x with x | x
      · rw [w] at x; exact m x
      · exact n b ((f b).2 (.inl w)) x
    · rw [e b, f b, or_assoc]
theorem Sa.closeL {a : Addr} {xs : List V} {os : List O} {l : List Asn} (s : Sa H (pt a (.lst xs) :: (owns K xs os ++ l))) (z : xs.length ≤ top) (hl : xs.length = os.length) : Sa H (own K (.ref a) (.lst os) :: l) := by
  obtain ⟨p, q, r, ⟨h, ns, hq⟩, s, n, e⟩ := s
  obtain ⟨q2, r2, k1, k2, k3, k4⟩ := s.split
  refine ⟨p, fun b => b = a ∨ q2 b, r2, .lst h z (ROs.of hl k1) (fun w => n a ((hq a).2 rfl) ((k4 a).2 (.inl w))) (fun _ => Iff.rfl), k2, fun b w x => ?_, fun b => ?_⟩
  · rcases w with w | w
    · exact n b ((hq b).2 w) ((k4 b).2 (.inr x))
    · exact k3 b w x
  · rw [e b, hq b, k4 b, or_assoc]
theorem Sa.openK {v : V} {os : List (Key × O)} {l : List Asn} (s : Sa H (own K v (.dK os) :: l)) : ∃ a xs, v = .ref a ∧ xs.map (·.1) = os.map (·.1) ∧ keysOk xs = true ∧ Sa H (pt a (.dK xs) :: (ownk K xs os ++ l)) := by
  obtain ⟨p, q, r, h, s, n, e⟩ := s
  cases h with
  | dK h g t m f =>
    rename_i a xs r'
    refine ⟨a, xs, rfl, t.keys, g, p, fun b => b = a, fun b => r' b ∨ r b, ⟨h, fun z => z, fun _ => Iff.rfl⟩, Sa.app t.sat s fun b w => n b ((f b).2 (.inr w)), fun b w x => ?_, fun b => ?_⟩
    · rcases x with x | x
      · rw [w] at x; exact m x
      · exact n b ((f b).2 (.inl w)) x
    · rw [e b, f b, or_assoc]
theorem Sa.closeK {a : Addr} {xs : List (Key × V)} {os : List (Key × O)} {l : List Asn} (s : Sa H (pt a (.dK xs) :: (ownk K xs os ++ l))) (hl : xs.map (·.1) = os.map (·.1)) (g : keysOk xs = true) : Sa H (own K (.ref a) (.dK os) :: l) := by
  obtain ⟨p, q, r, ⟨h, ns, hq⟩, s, n, e⟩ := s
  obtain ⟨q2, r2, k1, k2, k3, k4⟩ := s.split
  refine ⟨p, fun b => b = a ∨ q2 b, r2, .dK h g (ROk.of hl k1) (fun w => n a ((hq a).2 rfl) ((k4 a).2 (.inl w))) (fun _ => Iff.rfl), k2, fun b w x => ?_, fun b => ?_⟩
  · rcases w with w | w
    · exact n b ((hq b).2 w) ((k4 b).2 (.inr x))
    · exact k3 b w x
  · rw [e b, hq b, k4 b, or_assoc]
/-- frozen data are anybody's -/
theorem Sa.dat {v : V} {d : D} {l : List Asn} (s : Sa H l) (h : RD K H v d) : Sa H (own K v (.dat d) :: l) := s.cons0 (.dat h fun _ z => z)
theorem Sa.rd {v : V} {d : D} {l : List Asn} (s : Sa H (own K v (.dat d) :: l)) : RD K H v d := by
  obtain ⟨q, h⟩ := s.head
  cases h with
  | dat h _ => exact h
theorem Sa.kept_new {a : Addr} {o : HO} (h : H a = none) : Kept H (upd H a o) := fun b u e _ => by rw [upd_ne (ne_of_none e h)]; exact e
theorem Sa.kept_pt {l : List Asn} {a : Addr} {o o' : HO} (s : Sa H (pt a o :: l)) : Kept H (upd H a o') := fun b u e st => by
  rw [upd_ne]
  · exact e
  · rintro rfl
    obtain ⟨_, h, ns, _⟩ := s.head
    rw [h] at e; cases e; exact ns st
end
end Ur
end
section
set_option linter.all false
set_option autoImplicit false
/-! UrD: freezing; the slots of a frame; what a piece of the language asks for. -/
namespace Ur
open PySem L2

/-- some owned things are frozen, then R -/
inductive Gh : Hp → (Hp → Prop) → Prop
  | now {H : Hp} {R : Hp → Prop} (h : R H) : Gh H R
  | lock {H : Hp} {R : Hp → Prop} {d : Addr} {u : HO} (h : H d = some u) (m : Mut (some u)) (k : ∀ od, Gh (upd H d (.frz od u)) R) : Gh H R
theorem Gh.bind {H : Hp} {R S : Hp → Prop} (g : Gh H R) (k : ∀ H', R H' → Gh H' S) : Gh H S := by
  induction g with
  | now h => exact k _ h
  | lock h m _ ih => exact .lock h m fun od => ih od k
theorem Gh.imp {H : Hp} {R S : Hp → Prop} (g : Gh H R) (k : ∀ H', R H' → S H') : Gh H S := g.bind fun H' h => .now (k H' h)
theorem Gh.run {X : Cx} {pins : List (Addr × Obj)} {σ : L2.St} {s : Shared} {H : Hp} {R : Hp → Prop} (g : Gh H R) (I : Inv X pins σ H s) : ∃ H', Inv X pins σ H' s ∧ R H' := by
  induction g with
  | now h => exact ⟨_, I, h⟩
  | lock h m _ ih =>
    obtain ⟨od, I'⟩ := I.lock h m
    exact ih od I'
theorem Kept.refl {H : Hp} : Kept H H := fun _ _ e _ => e
theorem Kept.trans {H H' H'' : Hp} (a : Kept H H') (b : Kept H' H'') : Kept H H'' := fun x o e s => b x o (a x o e s) s

theorem pe_gh {X : Cx} {e : Expr} {t : TE} (h : PE X e t) : PE X e (fun σ H Q => t σ H fun v H' => Gh H' (Q v)) :=
  ⟨fun pins s σ H Q I hw => thn (h.run pins s σ H _ I hw) fun u s1 ⟨v, H1, I1, r1, g⟩ => let ⟨H2, I2, q⟩ := g.run I1; ⟨v, H2, I2, r1, q⟩⟩
theorem pe_weak {X : Cx} {e : Expr} {t t' : TE} (h : PE X e t) (w : ∀ σ H Q, t' σ H Q → t σ H Q) : PE X e t' := ⟨fun pins s σ H Q I hw => h.run pins s σ H Q I (w σ H Q hw)⟩
theorem pe_to {X : Cx} {e : Expr} {t t' : TE} (h : PE X e t) (w : ∀ σ H Q, t' σ H Q → t σ H fun v H' => Gh H' (Q v)) : PE X e t' := pe_weak (pe_gh h) w
/-- a ghost step ahead -/
theorem pe_pre {X : Cx} {e : Expr} {t : TE} (h : PE X e t) : PE X e (fun σ H Q => Gh H fun H' => t σ H' Q) :=
  ⟨fun pins s σ H Q I hw => let ⟨H2, I2, q⟩ := hw.run I; h.run pins s σ H2 Q I2 q⟩
theorem pt_gh {X : Cx} {e : Expr} {t : TT} (h : PT X e t) : PT X e (fun σ H Q => t σ H fun v H' => Gh H' (Q v)) :=
  ⟨fun pins s σ H Q I hw => thn (h.run pins s σ H _ I hw) fun u s1 ⟨H1, I1, g⟩ => let ⟨H2, I2, q⟩ := g.run I1; ⟨H2, I2, q⟩⟩
theorem pt_weak {X : Cx} {e : Expr} {t t' : TT} (h : PT X e t) (w : ∀ σ H Q, t' σ H Q → t σ H Q) : PT X e t' := ⟨fun pins s σ H Q I hw => h.run pins s σ H Q I (w σ H Q hw)⟩
theorem pt_to {X : Cx} {e : Expr} {t t' : TT} (h : PT X e t) (w : ∀ σ H Q, t' σ H Q → t σ H fun v H' => Gh H' (Q v)) : PT X e t' := pt_weak (pt_gh h) w
theorem pa_gh {X : Cx} {e : List Expr} {t : TA} (h : PA X e t) : PA X e (fun σ H Q => t σ H fun v H' => Gh H' (Q v)) :=
  ⟨fun pos pins s σ H Q I hw => thn (h.run pos pins s σ H _ I hw) fun u s1 ⟨v, H1, I1, r1, g⟩ => let ⟨H2, I2, q⟩ := g.run I1; ⟨v, H2, I2, r1, q⟩⟩
theorem pa_weak {X : Cx} {e : List Expr} {t t' : TA} (h : PA X e t) (w : ∀ σ H Q, t' σ H Q → t σ H Q) : PA X e t' := ⟨fun pos pins s σ H Q I hw => h.run pos pins s σ H Q I (w σ H Q hw)⟩
theorem pa_to {X : Cx} {e : List Expr} {t t' : TA} (h : PA X e t) (w : ∀ σ H Q, t' σ H Q → t σ H fun v H' => Gh H' (Q v)) : PA X e t' := pa_weak (pa_gh h) w

/-! ## freezing what is owned -/
section
variable {K : PySem.W.Frag}
theorem Sa.mid {H : Hp} {A B : List Asn} {x : Asn} (s : Sa H (x :: (A ++ B))) : Sa H (A ++ x :: B) := s.perm List.perm_middle.symm
theorem Sa.fro {H : Hp} {A B : List Asn} {x : Asn} (s : Sa H (A ++ x :: B)) : Sa H (x :: (A ++ B)) := s.perm List.perm_middle
theorem Sa.swap {H : Hp} {B : List Asn} {x y : Asn} (s : Sa H (x :: y :: B)) : Sa H (y :: x :: B) := s.perm (List.Perm.swap y x B)
theorem Sa.comm {H : Hp} {A B C : List Asn} (s : Sa H (A ++ (B ++ C))) : Sa H (B ++ (A ++ C)) := s.perm (by
  rw [← List.append_assoc, ← List.append_assoc]; exact List.perm_append_comm.append_right C)
theorem Sa.locked {H : Hp} {l : List Asn} {a : Addr} {o : HO} (s : Sa H (pt a o :: l)) (m : Mut (some o)) {R : Hp → Prop} (k : ∀ od H', H' = upd H a (.frz od o) → Kept H H' → Sa H' l → Gh H' R) : Gh H R :=
  .lock s.pt_get m fun od => k od _ rfl s.kept_pt s.drop
mutual
theorem fz_gh : ∀ (o : O) {H : Hp} {v : V} {l : List Asn}, Sa H (own K v o :: l) → Gh H fun H' => Kept H H' ∧ RD K H' v o.fz ∧ Sa H' l
  | .dat d, H, v, l, s => .now ⟨.refl, s.rd, s.tail⟩
  | .lst os, H, v, l, s => by
    obtain ⟨a, xs, rfl, hl, z, s⟩ := s.openL
    refine (fzs_gh os hl (s.perm List.perm_middle.symm)).bind fun H1 ⟨k1, r1, s1⟩ => ?_
    refine s1.locked trivial fun od H2 e k2 s2 => .now ⟨k1.trans k2, ?_, s2⟩
    rw [O.fz]
    exact .lst (.inl ⟨od, by rw [e, upd_same]⟩) z (r1.kept k2)
  | .dK os, H, v, l, s => by
    obtain ⟨a, xs, rfl, hl, g, s⟩ := s.openK
    refine (fzK_gh os hl (s.perm List.perm_middle.symm)).bind fun H1 ⟨k1, r1, s1⟩ => ?_
    refine s1.locked trivial fun od H2 e k2 s2 => .now ⟨k1.trans k2, ?_, s2⟩
    rw [O.fz]
    exact .dct (by rw [e, upd_same]) g (r1.kept k2)
  | .dT os, H, v, l, s => by
    obtain ⟨q, h⟩ := s.head
    cases h
theorem fzs_gh : ∀ (os : List O) {H : Hp} {vs : List V} {l : List Asn}, vs.length = os.length → Sa H (owns K vs os ++ l) → Gh H fun H' => Kept H H' ∧ RDs K H' vs (fzs os) ∧ Sa H' l
  | [], H, [], l, _, s => .now ⟨.refl, .nil, s⟩
  | [], H, _ :: _, l, e, s => by simp at e
  | _ :: _, H, [], l, e, s => by simp at e
  | o :: os, H, v :: vs, l, e, s => by
    refine (fz_gh o (show Sa H (own K v o :: (owns K vs os ++ l)) from s)).bind fun H1 ⟨k1, r1, s1⟩ => ?_
    refine (fzs_gh os (by simpa using e) s1).imp fun H2 ⟨k2, r2, s2⟩ => ⟨k1.trans k2, ?_, s2⟩
    rw [fzs]
    exact .cons (r1.kept k2) r2
theorem fzK_gh : ∀ (os : List (Key × O)) {H : Hp} {vs : List (Key × V)} {l : List Asn}, vs.map (·.1) = os.map (·.1) → Sa H (ownk K vs os ++ l) → Gh H fun H' => Kept H H' ∧ RDk K H' vs (fzK os) ∧ Sa H' l
  | [], H, [], l, _, s => .now ⟨.refl, .nil, s⟩
  | [], H, _ :: _, l, e, s => by simp at e
  | _ :: _, H, [], l, e, s => by simp at e
  | (k, o) :: os, H, (k', v) :: vs, l, e, s => by
    simp only [List.map_cons, List.cons.injEq] at e
    obtain ⟨rfl, e⟩ := e
    refine (fz_gh o (show Sa H (own K v o :: (ownk K vs os ++ l)) from s)).bind fun H1 ⟨k1, r1, s1⟩ => ?_
    refine (fzK_gh os e s1).imp fun H2 ⟨k2, r2, s2⟩ => ⟨k1.trans k2, ?_, s2⟩
    rw [fzK]
    exact .cons (r1.kept k2) r2
end
end

/-! ## the slots -/
section
variable (K : PySem.W.Frag)
def slots : L2.St → Stt → List Asn
  | some v :: σ, some o :: st => own K v o :: slots σ st
  | _ :: σ, _ :: st => slots σ st
  | _, _ => []
end
structure SlotOk (σ : L2.St) (st : Stt) : Prop where
  len : σ.length = st.length
  has : ∀ (i : Nat) (o : O), st[i]? = some (some o) → ∃ v : V, σ[i]? = some (some v)
section
variable {K : PySem.W.Frag} {σ : L2.St} {st : Stt} {i : Nat} {o : O} {v : V}
theorem get_some (h : get st i = some o) : st[i]? = some (some o) := by
  unfold get at h
  cases e : st[i]? with
  | none => rw [e] at h; cases h
  | some x => rw [e] at h; exact congrArg some h
theorem SlotOk.tail {x : Option V} {y : Option O} (h : SlotOk (x :: σ) (y :: st)) : SlotOk σ st :=
  ⟨by simpa using h.len, fun i o e => by simpa using h.has (i + 1) o (by simpa using e)⟩
theorem slots_none {x : Option V} : slots K (x :: σ) (none :: st) = slots K σ st := by cases x <;> rfl
theorem slots_take : ∀ {σ : L2.St} {st : Stt} {i : Nat} {o : O}, SlotOk σ st → st[i]? = some (some o) → ∃ v, σ[i]? = some (some v) ∧ (slots K σ st).Perm (own K v o :: slots K σ (st.set i none))
  | [], st, i, o, h, e => by
    have h1 : st.length = 0 := by simpa using h.len.symm
    rw [List.length_eq_zero_iff.mp h1] at e; simp at e
  | _ :: _, [], i, o, h, e => by simp at e
  | x :: σ, y :: st, 0, o, h, e => by
    obtain ⟨v, hv⟩ := h.has 0 o e
    simp at e hv
    subst e; subst hv
    refine ⟨v, rfl, ?_⟩
    rw [List.set_cons_zero, slots_none]
    exact List.Perm.refl _
  | x :: σ, y :: st, i + 1, o, h, e => by
    obtain ⟨v, hv, p⟩ := slots_take (σ := σ) (st := st) (i := i) h.tail (by simpa using e)
    refine ⟨v, by simpa using hv, ?_⟩
    rw [List.set_cons_succ]
    cases x with
    | none => exact p
    | some x =>
      cases y with
      | none => exact p
      | some y => exact (p.cons _).trans (List.Perm.swap _ _ _)
theorem slots_fill : ∀ {σ : L2.St} {st : Stt} {i : Nat} {v : V} {o : O}, i < σ.length → σ.length = st.length → (own K v o :: slots K σ (st.set i none)).Perm (slots K (σ.set i (some v)) (st.set i (some o)))
  | [], _, i, v, o, h, _ => by simp at h
  | _ :: _, [], i, v, o, _, e => by simp at e
  | x :: σ, y :: st, 0, v, o, h, e => by
    rw [List.set_cons_zero, List.set_cons_zero, List.set_cons_zero, slots_none]
    exact List.Perm.refl _
  | x :: σ, y :: st, i + 1, v, o, h, e => by
    have p := slots_fill (σ := σ) (st := st) (i := i) (v := v) (o := o) (by simpa using h) (by simpa using e)
    rw [List.set_cons_succ, List.set_cons_succ, List.set_cons_succ]
    cases x with
    | none => exact p
    | some x =>
      cases y with
      | none => exact p
      | some y => exact (List.Perm.swap _ _ _).trans (p.cons _)
theorem set_same {α : Type} : ∀ {l : List α} {i : Nat} {x : α}, l[i]? = some x → l.set i x = l
  | [], _, _, h => by simp at h
  | y :: l, 0, x, h => by simp at h; subst h; rfl
  | y :: l, i + 1, x, h => by rw [List.set_cons_succ, set_same (by simpa using h)]
/-- a slot that is filled again with what its name holds -/
theorem slots_back (h : σ[i]? = some (some v)) (hl : σ.length = st.length) : (own K v o :: slots K σ (st.set i none)).Perm (slots K σ (st.set i (some o))) := by
  have hi : i < σ.length := (List.getElem?_eq_some_iff.mp h).1
  have p := slots_fill (K := K) (σ := σ) (st := st) (v := v) (o := o) hi hl
  rw [set_same h] at p
  exact p
theorem slots_emp : ∀ {σ : L2.St} {st : Stt} (i : Nat), σ.length = st.length → ∃ l, (slots K σ st).Perm (l ++ slots K σ (st.set i none)) ∧ (l = [] ∨ ∃ A, l = [A])
  | [], st, i, h => ⟨[], by rw [show st = [] from List.length_eq_zero_iff.mp (by simpa using h.symm)]; exact List.Perm.refl _, .inl rfl⟩
  | _ :: _, [], i, h => by simp at h
  | x :: σ, y :: st, 0, h => by
    rw [List.set_cons_zero, slots_none]
    cases x with
    | none => exact ⟨[], List.Perm.refl _, .inl rfl⟩
    | some x =>
      cases y with
      | none => exact ⟨[], List.Perm.refl _, .inl rfl⟩
      | some y => exact ⟨[own K x y], List.Perm.refl _, .inr ⟨_, rfl⟩⟩
  | x :: σ, y :: st, i + 1, h => by
    obtain ⟨l, p, c⟩ := slots_emp (σ := σ) (st := st) i (by simpa using h)
    rw [List.set_cons_succ]
    cases x with
    | none => exact ⟨l, p, c⟩
    | some x =>
      cases y with
      | none => exact ⟨l, p, c⟩
      | some y => exact ⟨l, (p.cons _).trans (List.perm_middle).symm, c⟩
theorem SlotOk.set_none (h : SlotOk σ st) : SlotOk σ (st.set i none) := ⟨by simpa using h.len, fun j o e => by
  by_cases hj : i = j
  · subst hj
    rw [List.getElem?_set] at e
    split at e <;> simp_all
  · rw [List.getElem?_set_ne hj] at e
    exact h.has j o e⟩
theorem SlotOk.set_some (h : SlotOk σ st) (hv : σ[i]? = some (some v)) : SlotOk σ (st.set i (some o)) := ⟨by simpa using h.len, fun j o e => by
  by_cases hj : i = j
  · subst hj; exact ⟨v, hv⟩
  · rw [List.getElem?_set_ne hj] at e
    exact h.has j o e⟩
theorem SlotOk.put (h : SlotOk σ st) (hi : i < σ.length) : SlotOk (σ.set i (some v)) (st.set i (some o)) := ⟨by simpa using h.len, fun j o e => by
  by_cases hj : i = j
  · subst hj; exact ⟨v, by simp [hi]⟩
  · rw [List.getElem?_set_ne hj] at e ⊢
    exact h.has j o e⟩
end

/-- the slots and what else is held -/
structure Sl (K : PySem.W.Frag) (H : Hp) (σ : L2.St) (st : Stt) (l : List Asn) : Prop where
  ok : SlotOk σ st
  sa : Sa H (slots K σ st ++ l)
section
variable {K : PySem.W.Frag} {H H' : Hp} {σ : L2.St} {st : Stt} {l : List Asn} {i : Nat} {o : O} {v : V} {A B : Asn}
theorem Sl.top (s : Sl K H σ st (A :: l)) : Sa H (A :: (slots K σ st ++ l)) := s.sa.fro
theorem Sl.of_top (ok : SlotOk σ st) (s : Sa H (A :: (slots K σ st ++ l))) : Sl K H σ st (A :: l) := ⟨ok, s.mid⟩
theorem Sl.tail (s : Sl K H σ st (A :: l)) : Sl K H σ st l := ⟨s.ok, s.top.tail⟩
theorem Sl.perm {m : List Asn} (s : Sl K H σ st l) (p : l.Perm m) : Sl K H σ st m := ⟨s.ok, s.sa.perm (p.append_left _)⟩
theorem Sl.swap (s : Sl K H σ st (A :: B :: l)) : Sl K H σ st (B :: A :: l) := s.perm (List.Perm.swap _ _ _)
theorem Sl.rd {d : D} (s : Sl K H σ st (own K v (.dat d) :: l)) : RD K H v d := s.top.rd
theorem Sl.dat {d : D} (s : Sl K H σ st l) (h : RD K H v d) : Sl K H σ st (own K v (.dat d) :: l) := .of_top s.ok (s.sa.dat h)
theorem Sl.new {a : Addr} {u : HO} (s : Sl K H σ st l) (h : H a = none) : Sl K (upd H a u) σ st l := ⟨s.ok, s.sa.new h⟩
/-- the value on top is frozen -/
theorem Sl.fz (s : Sl K H σ st (own K v o :: l)) : Gh H fun H' => Kept H H' ∧ RD K H' v o.fz ∧ Sl K H' σ st l := (fz_gh o s.top).imp fun H' ⟨a, b, c⟩ => ⟨a, b, s.ok, c⟩
theorem Sl.fzs {os : List O} {vs : List V} (s : Sl K H σ st (owns K vs os ++ l)) (e : vs.length = os.length) : Gh H fun H' => Kept H H' ∧ RDs K H' vs (Ur.fzs os) ∧ Sl K H' σ st l :=
  (fzs_gh os e (s.sa.comm)).imp fun H' ⟨a, b, c⟩ => ⟨a, b, s.ok, c⟩
/-- a slot's value is taken out -/
theorem Sl.take (s : Sl K H σ st l) (h : get st i = some o) : ∃ v, σ[i]? = some (some v) ∧ Sl K H σ (st.set i none) (own K v o :: l) := by
  obtain ⟨v, hv, p⟩ := slots_take (K := K) s.ok (get_some h)
  exact ⟨v, hv, .of_top s.ok.set_none (s.sa.perm (p.append_right l))⟩
/-- and put back -/
theorem Sl.back (s : Sl K H σ (st.set i none) (own K v o :: l)) (h : σ[i]? = some (some v)) : Sl K H σ (st.set i (some o)) l := by
  have hl : σ.length = st.length := by simpa using s.ok.len
  refine ⟨by simpa using s.ok.set_some (i := i) (o := o) h, s.top.perm ?_⟩
  exact (slots_back (K := K) (st := st) (o := o) h hl).append_right l
/-- a name is given another value -/
theorem Sl.put (s : Sl K H σ st (own K v o :: l)) (hi : i < σ.length) : Sl K H (σ.set i (some v)) (st.set i (some o)) l := by
  refine ⟨s.ok.put hi, ?_⟩
  obtain ⟨m, p, c⟩ := slots_emp (K := K) (σ := σ) (st := st) i s.ok.len
  have s1 : Sa H (own K v o :: ((m ++ slots K σ (st.set i none)) ++ l)) := s.top.perm ((p.append_right l).cons _)
  have s2 : Sa H (own K v o :: (slots K σ (st.set i none) ++ l)) := by
    rcases c with rfl | ⟨B, rfl⟩
    · exact s1
    · exact s1.swap.tail
  exact s2.perm ((slots_fill (K := K) (o := o) hi s.ok.len).append_right l)
/-- a name's value is forgotten -/
theorem Sl.forget (s : Sl K H σ st l) (i : Nat) : Sl K H σ (st.set i none) l := by
  refine ⟨s.ok.set_none, ?_⟩
  obtain ⟨m, p, c⟩ := slots_emp (K := K) (σ := σ) (st := st) i s.ok.len
  have s1 := s.sa.perm (p.append_right l)
  rcases c with rfl | ⟨B, rfl⟩
  · exact s1
  · exact s1.tail
end

/-! ## what is asked -/
section
variable (K : PySem.W.Frag) (XR : Hp → Value → Option Addr → D → Prop)
/-- behind a run: k where it ends well, the wish where it raises -/
def Aft {α : Type} (W : WX) (σ : L2.St) (l : List Asn) (k : α → Stt → Prop) : Mo α → Prop
  | some (.ok o, st) => k o st
  | some (.ex x, st) => ∀ cls d H, XR H cls d x → Sl K H σ st l → Gh H (W cls d σ)
  | none => False
theorem aft_bd {α β : Type} {W : WX} {σ : L2.St} {l : List Asn} {k : β → Stt → Prop} {k' : α → Stt → Prop} {m : Mo α} {f : α → Stt → Mo β} (h : Aft K XR W σ l k (bd m f)) (w : ∀ o st, Aft K XR W σ l k (f o st) → k' o st) :
    Aft K XR W σ l k' m := by
  unfold bd at h
  split at h
  · exact w _ _ h
  · exact h
  · exact h.elim
theorem aft_imp {α : Type} {W : WX} {σ : L2.St} {l : List Asn} {k k' : α → Stt → Prop} {m : Mo α} (h : Aft K XR W σ l k m) (w : ∀ o st, k o st → k' o st) : Aft K XR W σ l k' m := by
  unfold Aft at h ⊢
  split <;> first | exact w _ _ h | exact h
/-- with one more thing held -/
theorem aft_more {α : Type} {W : WX} {σ : L2.St} {l m' : List Asn} {k : α → Stt → Prop} {m : Mo α} (w : ∀ H st, Sl K H σ st m' → Sl K H σ st l) (h : Aft K XR W σ l k m) : Aft K XR W σ m' k m := by
  unfold Aft at h ⊢
  split
  · exact h
  · rename_i x st
    intro cls d H a b
    exact h cls d H a (w H st b)
  · exact h

variable (P : Prog) (cf : Cf)
def tE (W : WX) (e : E) : TE := fun σ H Q => ∃ st l, Sl K H σ st l ∧ Aft K XR W σ l (fun o st' => ∀ v H', Sl K H' σ st' (own K v o :: l) → Gh H' (Q v)) (ev P cf e st)
def tEs (W : WX) (es : Es) : TA := fun σ H Q => ∃ st l, Sl K H σ st l ∧ Aft K XR W σ l (fun os st' => ∀ vs H', vs.length = os.length → Sl K H' σ st' (owns K vs os ++ l) → Gh H' (Q vs)) (evs P cf es st)
def tT (W : WX) (e : E) : TT := fun σ H Q => ∃ st l, Sl K H σ st l ∧ Aft K XR W σ l (fun b st' => ∀ H', Sl K H' σ st' l → Gh H' (Q b)) (tst (ev P cf e st))
end
end Ur
end
section
set_option linter.all false
set_option autoImplicit false
set_option maxRecDepth 100000
set_option maxHeartbeats 2000000
/-! UrX1: the program's own classes of errors: one is made, its field is set. -/
namespace Ur
open PySem L2 PyProof.Rows Builtin.ObjectAttr Builtin

theorem Atom.rdA {K : PySem.W.Frag} {H : Hp} {v : V} {d : D} (h : Atom v d) : RD K H v d := by
  cases h with
  | int i _ => exact .int i
  | str x h z => exact .str x h (Nat.le_trans z (by decide))
def ebS : Eb → String
  | .value => "ValueError" | .lookup => "LookupError"
def ebN : Eb → String
  | .value => "ValueError.__new__" | .lookup => "LookupError.__new__"
def ebI : Eb → String
  | .value => "ValueError.__init__" | .lookup => "LookupError.__init__"
def ebM : Eb → List Value
  | .value => [.type "ValueError", .type "Exception", .type "BaseException", .type "object"]
  | .lookup => [.type "LookupError", .type "Exception", .type "BaseException", .type "object"]
theorem ebF : (b : Eb) → ExcBaseFacts (ebS b) (ebN b) (ebI b) (ebM b)
  | .value => PySem.F.excBase_ValueError
  | .lookup => PySem.F.excBase_LookupError
theorem ebT : (b : Eb) → StoreFacts (ebS b) (ebM b) "object.__setattr__" "object"
  | .value => PySem.F.store_ValueError
  | .lookup => PySem.F.store_LookupError

/-- what the written part says of such a class and of its __init__ -/
structure XcK (K : PySem.W.Frag) (b : Eb) (C fI : Addr) : Prop where
  lay : PySem.W.excInitIn K C (ebM b) (ebN b) = true
  ovr : PySem.W.excOver K C (ebM b) = true
  hdC : PySem.W.hasDictIn K C = true
  sa : PySem.W.findIn K (.ref C) "__setattr__" = some (some (.builtin "object.__setattr__"))
  ini : PySem.W.findIn K (.ref C) "__init__" = some (some (.ref fI))
  tyI : PySem.W.typeIn K (.ref fI) = some (.type "function")
  exC : PySem.W.subIn K (.ref C) (.type "BaseException") = some true
  tyC : PySem.W.typeIn K (.ref C) = some (.type "type")
  kpC : PySem.W.keepIn K (.ref C) = true

section
variable {X : Cx} {pins : List (Addr × Obj)} {σ : L2.St} {H : Hp} {s : Shared} {a C fI : Addr} {b : Eb} {f : Str} {y : V} {u : Value} {A : Around} {E : Value → Shared → Prop} {Q : Unit → Shared → Prop}
/-- the first field is set -/
theorem xst_new (T : XcK X.K b C fI) (I : Inv X pins σ H s) (e : H a = some (exo a C none)) (hno : PySem.W.takerIn X.K C f = some none) (ry : RelV y u)
    (h : ∀ dx s', H dx = none → dx ≠ a → Inv X pins σ (upd (upd H a (exo a C (some dx))) dx (exd dx [(f, y)])) s' → Q () s') : wpAny (model X.prog X.w) A (setAttr (.ref a) f u) Q E s := by
  obtain ⟨t1, ho⟩ := exo_at I.hok e
  obtain ⟨hp, gn, dr, tk, os⟩ := s
  obtain ⟨cd, hcd, hdd⟩ := PySem.W.any_some T.hdC
  have J : PySem.W.InstAt hp a { cls := .ref C, data := .fields #[.ref t1, .none, .none, .none, .bool false, .none] } C none := ⟨ho, rfl, rfl, trivial⟩
  refine PySem.W.set_plain I.kIn J T.sa (PySem.W.osa_openX (ebT b) I.kIn J T.ovr hno fun bb => ?_)
  have hcls : PySem.W.Looks (model X.prog X.w) hp (classData C) cd := PySem.W.looks_clsIn I.kIn hcd
  have hap : a ≠ hp.objs.size := Nat.ne_of_lt (Heap.lt_size ho)
  show wpAny _ _ (storeInOwnDict (.ref a) (.ref C) (.str f tk) f u bb) _ _ _
  obtain ⟨c1, c2, c3, c4, c5, c6, c7, c8, c9, c10, c11⟩ := cd
  dsimp only at hdd
  subst hdd
  unfold storeInOwnDict ownDictForStores
  repeat (first | with_reducible refine PySem.HandSPX.store_in_new ?_ ?_ | with_reducible refine wpAny_loadPart_at ho ?_ | with_reducible refine hcls.at ?_ | wp_step)
  · exact ⟨_, #[], _, (Heap.get?_update_ne _ _ _ _ hap.symm).trans (Heap.get?_push_at rfl rfl), rfl, fun _ z => absurd z (by simp), fun _ => rfl⟩
  · intro h1 t2 ns sb
    have dn : H hp.objs.size = none := I.hok.fresh (Nat.le_refl _)
    have old : ∀ c o, c ≠ a → hp.get? c = some o → h1.get? c = some o := fun c o n g =>
      (sb.2 c (Nat.ne_of_lt (Heap.lt_size g))).trans ((Heap.get?_update_ne _ _ _ _ n).trans (Heap.get?_push_of_some _ g))
    have ha : h1.get? a = some ({ cls := .ref C, dict := some hp.objs.size, data := .fields #[.ref t1, .none, .none, .none, .bool false, .none] } : Obj) :=
      (sb.2 a hap).trans (Heap.get?_update_self _ (Heap.get?_push_of_some _ ho) rfl)
    have nea : ∀ {c : Addr}, H c = none → c ≠ a := fun n z => by rw [z, e] at n; cases n
    have un : Un X.fs [] H (upd (upd H a (exo a C (some hp.objs.size))) hp.objs.size (exd hp.objs.size [(f, y)])) hp h1 := by
      refine ⟨fun c o g n _ _ => old c o (nea n) g, fun c o g n _ _ => ⟨o.slots, old c o (nea n) g⟩, fun c o g n _ => ?_, fun c o g _ => ?_, fun c xs z => ?_, fun c o v z => ?_, fun c ps z => ⟨#[], ?_⟩⟩
      · rw [upd_ne (Nat.ne_of_lt (Heap.lt_size g)), upd_ne (nea n)]; exact n
      · by_cases hc : c = a
        · subst hc; exact ⟨_, ha⟩
        · exact ⟨o, old c o hc g⟩
      · rw [upd_ne (ne_of_none z dn), upd_ne (at_ne e z exo_tup)]; exact z
      · rw [upd_ne (ne_of_none z dn), upd_ne (at_ne e z exo_frz)]; exact z
      · rw [upd_ne (ne_of_none z dn), upd_ne (at_ne e z exo_tbl), z]; simp
    refine h hp.objs.size _ dn hap.symm (I.un (t' := t2) un fun c o z => ?_)
    by_cases hd : c = hp.objs.size
    · subst hd
      rw [upd_same] at z
      cases z
      exact exd_ok ns (relO_put (fs := []) ry fun _ => trivial)
    rw [upd_ne hd] at z
    by_cases hc : c = a
    · subst hc
      rw [upd_same] at z
      cases z
      exact exo_ok ha
    rw [upd_ne hc] at z
    refine (I.hok c o z).stay (fun c2 v w g => old c2 v ?_ g) (fun c2 w => ?_) fun c2 xs w => ?_
    · rcases w with w | w
      · rw [w]; exact hc
      · exact at_ne e w exo_own
    · rw [upd_ne (ne_of_none w dn), upd_ne (at_ne e w exo_own)]; exact w
    · rw [upd_ne (ne_of_none w dn), upd_ne (at_ne e w exo_tup)]; exact w
/-- the built-in class's __init__ tells nothing of it -/
theorem xin_ok {us : List Value} {R : Value → Shared → Prop} (T : XcK X.K b C fI) (I : Inv X pins σ H s) (e : H a = some (exo a C none)) (hl : us.length ≤ sizeLine) (h : ∀ s', Inv X pins σ H s' → R .none s') :
    wpAny (model X.prog X.w) A (call (.builtin (ebI b)) (.ref a :: us)) R E s := by
  obtain ⟨nm, N, qn, bs, bm, hd, sn, sub, ab, col, dd, k0, k1, k2, k3, k5, hC, hT⟩ := PySem.W.excInit_of I.kIn T.lay
  obtain ⟨t1, ho⟩ := exo_at I.hok e
  obtain ⟨hp, gn, dr, tk, os⟩ := s
  refine wpAny_call (PySem.HandSPX.init_base (ebF b) hT hC ho hl fun h1 t2 old ha => h _ ?_)
  have J := I.write (t' := tk) (x := a) (e := a) (o := exo a C none) (by rw [e]; exact True.intro) (.inl rfl) old ⟨_, ha⟩ (exo_ok ha)
  have eu : upd H a (exo a C none) = H := by
    funext c
    by_cases hc : c = a
    · rw [hc, upd_same, e]
    · rw [upd_ne hc]
  rw [eu] at J
  exact J
end
theorem typ_L : typeOf (.type "LookupError") = pure (.type "type") := by kernel_rfl
/-- what the module must say of the built-in class -/
structure EbK (K : PySem.W.Frag) (mg : Str → Option Value) (b : Eb) : Prop where
  mg : mg (Str.ofString (ebS b)) = none
  vI : PySem.W.findCls K (.type (ebS b)) (.type "type") "__init__" = some (.val (.builtin (ebI b)))
/-- B.__init__(self, ..) -/
def tXi (K : PySem.W.Frag) (b : Eb) (ta : TA) : TE := fun σ H Q => ta σ H fun vs H1 => ∃ (a C fI : Addr) (ws : List V), vs = .ref a :: ws ∧ ws.length ≤ 1000 ∧ XcK K b C fI ∧ H1 a = some (exo a C none) ∧ Q .non H1
/-- self.f = e -/
def tXs (K : PySem.W.Frag) (f : Str) (to te : TE) : TS := fun D σ H => te σ H fun y H1 => to σ H1 fun x H2 => ∃ (b : Eb) (a C fI : Addr), x = .ref a ∧ XcK K b C fI ∧ PySem.W.takerIn K C f = some none ∧ H2 a = some (exo a C none) ∧
  ∀ dx, H2 dx = none → dx ≠ a → D.nx σ (upd (upd H2 a (exo a C (some dx))) dx (exd dx [(f, y)]))
section
variable {X : Cx} {o e : Expr} {es : List Expr} {to te : TE} {ta : TA} {f : Str} {b : Eb} {p p' p1 p2 pos : Pos}
theorem ebBoot (b : Eb) : bootBuiltins (Str.ofString (ebS b)) = some (.type (ebS b)) := by cases b <;> decide +kernel
theorem ebTyp (b : Eb) : typeOf (.type (ebS b)) = pure (.type "type") := by
  cases b
  · exact PySem.OEX.typ_VE
  · exact typ_L
theorem eval_meth {x m : Str} {es : List Expr} {env : Env} (hl : (p2.endLine == pos.line) = true) (hf : methodCallForm (es.length + 0) (backTo pos (starEach es env)) (backToKw pos (keywordEach [] env)) = true) :
    eval (.Call (.Attribute (.Name x p1) m p2) es [] pos) env = (do
      let ov ← eval (.Name x p1) env
      standAt p2.atName
      let (f, first) ← holding [ov] (getMethod ov m (do return (← importBound (.Name x p1) env).getD true))
      callWith pos f first (backTo pos (starEach es env)) (backToKw pos (keywordEach [] env))) := by
  rw [arm_eval_Call]
  have hpos : methodCallPos true (.Name x p1) env p2 pos = pure pos := by unfold methodCallPos; simp [hl]
  show (do
    let ov ← eval (.Name x p1) env
    standAt p2.atName
    methodCall (.Name x p1) m p2 pos env ov (es.length + 0) (backTo pos (starEach es env)) (backToKw pos (keywordEach [] env))) = _
  unfold methodCall
  rw [hf]
  unfold calleeOf
  simp only [hpos, if_true, pure_bind]
theorem pe_xi {x : Str} (hx : x = Str.ofString (ebS b)) (hg : Gl X x) (B : EbK X.K X.mg b) (ha : PA X (e :: es) ta) (hl : (p2.endLine == pos.line) = true) (hf : methodCallForm ((e :: es).length + 0) (backTo pos (starEach (e :: es) X.env)) (backToKw pos (keywordEach [] X.env)) = true)
    (he : starEach (e :: es) X.env = (false, eval e X.env) :: starEach es X.env := by rfl) (hpl : (backTo pos (starEach es X.env)).any (·.1) = false := by rfl) :
    PE X (.Call (.Attribute (.Name x p1) "__init__" p2) (e :: es) [] pos) (tXi X.K b ta) := by
  have hc := eval_meth (x := x) (m := "__init__") (p1 := p1) hl hf
  subst hx
  refine ⟨fun pins s σ H Q I h => ?_⟩
  refine PySem.W.methodCall_KW (ld_blt I hg B.mg (ebBoot b) ?_ (by cases b <;> decide) (by cases b <;> decide)) hc
  obtain ⟨m, fr⟩ := I.fr
  refine PySem.W.method_type fr I.ok.mod.kin (ebTyp b) (by cases b <;> decide +kernel) B.vI (by cases b <;> decide +kernel) ?_
  show wpAny _ _ (callWith pos (Value.builtin (ebI b)) [] (backTo pos (starEach (e :: es) X.env)) []) _ _ _
  refine PyProof.Rows.callWith_method1 (thn (ha.run pos pins _ σ H _ (I.tok _) h) fun us s1 ⟨vs, H1, I1, r1, a, C, fI, ws, ev, hl, T, ea, q⟩ => ?_) he hpl
  subst ev
  cases r1 with
  | @cons _ v0 _ vr ra rr =>
    obtain rfl : v0 = Value.ref a := ra
    have hlen : vr.length ≤ sizeLine := by
      rw [← Paired.length rr, sizeLine_eq]
      omega
    exact xin_ok T I1 ea hlen fun s' J => ⟨.non, H1, J, rfl, q⟩
theorem ps_xs (ho : PE X o to) (he : PE X e te) (hs : swapsWith e (some (.Attribute o f p')) pos.line X.env = pure false := by rfl) : PS X (.Assign [.Attribute o f p'] e pos) (tXs X.K f to te) := by
  refine ⟨fun pins s σ H D I h => ?_⟩
  refine plainObj_wpAny_Assign_Attribute (thn (he.run pins s σ H _ I h) fun v s1 ⟨y, H1, I1, r1, q1⟩ => thn (ho.run pins s1 σ H1 _ I1 q1) fun w s2 ⟨x, H2, I2, r2, b, a, C, fI, ex, T, hno, ea, q⟩ => ?_) hs
  subst ex
  obtain rfl : w = Value.ref a := r2
  exact xst_new T I2 ea hno r1 fun dx s' n ne J => ⟨σ, _, J, q dx n ne⟩
end
end Ur
end
section
set_option linter.all false
set_option autoImplicit false
set_option maxRecDepth 10000
/-! UrE1: what operators, comparisons and subscripts do with data. -/
namespace Ur
open PySem L2 PyProof.Rows

theorem top_eq : top = sizeLine := by rw [sizeLine_eq]; rfl
section
variable {K : PySem.W.Frag} {H : Hp} {l : List Asn}
theorem owns_dat {xs : List V} {ds : List D} (r : RDs K H xs ds) (s : Sa H l) : Sa H (owns K xs (ds.map .dat) ++ l) := by
  induction xs generalizing ds with
  | nil => cases r; exact s
  | cons x xs ih =>
    cases r with
    | cons h r => exact (ih r).dat h
theorem res_lst {p : Addr} {xs : List V} {ds : List D} (s : Sa H l) (r : RDs K H xs ds) (z : xs.length ≤ top) (hp : H p = none) : Sa (upd H p (.lst xs)) (own K (.ref p) (.lst (ds.map .dat)) :: l) := by
  have s1 := s.made (o := .lst xs) hp (fun z => z)
  have r1 : RDs K (upd H p (.lst xs)) xs ds := r.kept (Sa.kept_new hp)
  refine Sa.closeL ?_ z (by simpa using r.length)
  exact (owns_dat r1 s1).perm List.perm_middle
theorem res_tup {p : Addr} {xs : List V} {ds : List D} (s : Sa H l) (r : RDs K H xs ds) (z : xs.length ≤ top) (hp : H p = none) : Sa (upd H p (.tup xs)) (own K (.ref p) (.dat (.tuple ds)) :: l) :=
  (s.new hp).dat (.tup (.inl upd_same) z (r.kept (Sa.kept_new hp)))
end

section
variable {X : Cx} {pins : List (Addr × Obj)} {σ : L2.St} {H : Hp} {s : Shared}
theorem frzL (I : Inv X pins σ H s) {a : Addr} {xs : List V} (h : FzL X.K H a xs) : ∃ (its : List Value) (n : Nat), Vals xs its ∧ xs.length = its.length ∧ s.heap.get? a = some { cls := .type "list", data := .seq its.toArray n } := by
  rcases h with ⟨o, h⟩ | ⟨its, n, h, z, r⟩
  · obtain ⟨e, z, its, n, r, e2⟩ := I.hok a _ h
    exact ⟨its, n, r, r.length, e2⟩
  · exact ⟨its, n, r, r.length, I.kIn a _ h⟩
end
theorem strOk_app {x y : Str} (hx : PyData.strOk x = true) (hy : PyData.strOk y = true) : PyData.strOk (x ++ y) = true := by
  unfold PyData.strOk at *
  show (x.cps ++ y.cps).all _ = true
  rw [Array.all_append, hx, hy]; rfl

def pyB : Bop → Operator
  | .add => .Add | .sub => .Sub | .mul => .Mult | .fdiv => .FloorDiv | .mod => .Mod | .pow => .Pow | .shl => .LShift | .band => .BitAnd | .bor => .BitOr
/-- an operator on two data -/
def rB (K : PySem.W.Frag) (op : Bop) : R2 := fun x y H Q => ∃ dx dy o l, RD K H x dx ∧ RD K H y dy ∧ binD op dx dy = some o ∧ Sa H l ∧ ∀ v H', Sa H' (own K v o :: l) → Q v H'
theorem strL_length (x : Str) : x.length = x.cps.size := rfl
section
variable {X : Cx}
theorem op_catF : OpR X (binaryOp .Add) (fun x y H Q => ∃ a b xs zs, x = .ref a ∧ y = .ref b ∧ FzL X.K H a xs ∧ FzL X.K H b zs ∧ xs.length + zs.length ≤ sizeLine ∧ ∀ p, H p = none → Q (.ref p) (upd H p (.lst (xs ++ zs)))) := by
  intro pins s σ H x y v u Q I rx ry h
  obtain ⟨l, b, xs, zs, rfl, rfl, hH, hB, hz, q⟩ := h
  cases rx
  cases ry
  obtain ⟨its, n, r, hl, e⟩ := frzL I hH
  obtain ⟨its2, n2, r2, hl2, e2⟩ := frzL I hB
  refine PySem.P.add_list e e2 ?_ (by rw [List.size_toArray, List.size_toArray]; omega)
  rw [show its.toArray ++ its2.toArray = (its ++ its2).toArray by simp]
  exact ⟨.ref _, _, I.lnew (t' := s.toks) (r.append r2) (by rw [List.length_append]; omega), rfl, q _ I.fresh⟩
/-- a frozen list, so many times -/
theorem op_repF : OpR X (binaryOp .Mult) (fun x y H Q => ∃ a k xs, x = .ref a ∧ y = .int k ∧ FzL X.K H a xs ∧ -(2 ^ 63) ≤ k ∧ k < 2 ^ 63 ∧ xs.length * k.toNat ≤ sizeLine ∧ ∀ p, H p = none → Q (.ref p) (upd H p (.lst (List.replicate k.toNat xs).flatten))) := by
  intro pins s σ H x y v u Q I rx ry h
  obtain ⟨l, k, xs, rfl, rfl, hH, h1, h2, hz, q⟩ := h
  cases rx
  obtain ⟨t, rfl⟩ := ry
  obtain ⟨its, n, r, hl, e⟩ := frzL I hH
  have c1 : its.toArray.size * k.toNat ≤ sizeLine := by
    rw [List.size_toArray, ← hl]
    exact hz
  have c2 : ¬ its.toArray.size * k.toNat > (2 ^ 63 - 1) / 8 := by
    have b : (sizeLine : Nat) ≤ (2 ^ 63 - 1) / 8 := by decide
    omega
  have c3 : ¬ (!Builtin.List.listFitsIndex k) = true := by rw [fitsIndex_both h1 h2]; exact Bool.false_ne_true
  have c4 : ¬ Builtin.List.listTooLong (its.toArray.size * k.toNat) = true := by rw [notLongL c1]; exact Bool.false_ne_true
  have c5 : List.foldl (fun x1 x2 => x1 ++ x2) #[] (List.replicate (if its.toArray.isEmpty = true then 0 else k.toNat) its.toArray) = (List.replicate k.toNat its).flatten.toArray := by
    have f0 : ∀ m : Nat, List.foldl (fun x1 x2 => x1 ++ x2) #[] (List.replicate m its.toArray) = (List.replicate m its).flatten.toArray := fun m => by simpa using foldl_rep its m []
    rw [f0]
    cases its with
    | nil => simp
    | cons a r' => rw [if_neg (by simp)]
  have last : wpAny (model X.prog X.w) X.A (binaryOp .Mult (.ref l) (.int k t)) (EP X pins σ Q) X.xe s := by
    refine wpAny_binaryOp_repeat_ref (T := "list") (U := "int") (by decide) ⟨_, e, rfl⟩ (fun s' => typeIs_int s' k t) noFill_list_mul F.fills_int_mul F.slot_int_rmul repeat_list F.slot_int_index.lookup ?_
    refine call_meets F.slot_int_rmul (typeIs_int s k t) F.entry_int_rmul (F.args_int_rmul_2 _ _) (int___rmul___int_list k t l its.toArray n) ⟨e, rfl, ⟨_, e, rfl⟩, ?_⟩
    refine call_meets F.slot_list_mul ⟨_, e, rfl⟩ F.entry_list_mul (F.args_list_mul_2 _ _) (AutoListH.list___mul___list_int_3 l its.toArray n k t c3 c2 c4) ⟨e, ?_⟩
    rw [c5]
    have hv : Vals (List.replicate k.toNat xs).flatten (List.replicate k.toNat its).flatten := by
      generalize k.toNat = m
      induction m with
      | zero => exact .nil
      | succ m ih => rw [List.replicate_succ, List.replicate_succ, List.flatten_cons, List.flatten_cons]; exact r.append ih
    have hz2 : (List.replicate k.toNat xs).flatten.length ≤ sizeLine := by
      rw [List.length_flatten, List.map_replicate, List.sum_replicate_nat, Nat.mul_comm]
      exact hz
    exact ⟨.ref _, _, I.lnew (t' := s.toks) hv hz2, rfl, q _ I.fresh⟩
  exact last
theorem rep_rd {K : PySem.W.Frag} {H : Hp} {xs : List V} {ds : List D} (r : RDs K H xs ds) : ∀ m : Nat, RDs K H (List.replicate m xs).flatten (List.replicate m ds).flatten
  | 0 => .nil
  | m + 1 => by
    rw [List.replicate_succ, List.replicate_succ, List.flatten_cons, List.flatten_cons]
    exact r.append (rep_rd r m)
theorem rep_len {α : Type} (xs : List α) (m : Nat) : (List.replicate m xs).flatten.length = m * xs.length := by
  rw [List.length_flatten, List.map_replicate, List.sum_replicate_nat]
theorem opB {op : Bop} : OpR X (binaryOp (pyB op)) (rB X.K op) := by
  intro pins s σ H x y v u Q I rx ry h
  obtain ⟨dx, dy, o, l, hx, hy, hb, sa, k⟩ := h
  have tl := top_eq
  cases op with
  | add =>
    cases dx with
    | int i =>
      cases dy with
      | int j =>
        cases hx; cases hy
        simp only [binD, Option.some.injEq] at hb; subst hb
        exact op_add pins s σ H _ _ v u Q I rx ry ⟨i, j, rfl, rfl, k _ _ (sa.dat (.int _))⟩
      | _ => simp [binD] at hb
    | str a =>
      cases dy with
      | str b =>
        cases hx with
        | str _ hx =>
        cases hy with
        | str _ hy =>
        simp only [binD] at hb
        split at hb
        · rename_i hz
          simp only [Option.some.injEq] at hb; subst hb
          exact op_add_str pins s σ H _ _ v u Q I rx ry ⟨a, b, rfl, rfl, by omega, k _ _ (sa.dat (.str _ (strOk_app hx hy) (by show (a.cps ++ b.cps).size ≤ top; rw [Array.size_append]; exact hz)))⟩
        · cases hb
      | _ => simp [binD] at hb
    | list ds =>
      cases dy with
      | list es =>
        cases hx with
        | lst hx zx rx' =>
        cases hy with
        | lst hy zy ry' =>
        simp only [binD] at hb
        split at hb
        · rename_i hz
          simp only [Option.some.injEq] at hb; subst hb
          rename_i a xs b ys
          have l1 := rx'.length
          have l2 := ry'.length
          refine op_catF pins s σ H _ _ v u Q I rx ry ⟨_, _, _, _, rfl, rfl, hx, hy, by omega, fun p hp => k _ _ ?_⟩
          exact res_lst sa (rx'.append ry') (by rw [List.length_append]; omega) hp
        · cases hb
      | _ => simp [binD] at hb
    | tuple ds =>
      cases dy with
      | tuple es =>
        cases hx with
        | tup hx zx rx' =>
        cases hy with
        | tup hy zy ry' =>
        simp only [binD] at hb
        split at hb
        · rename_i hz
          simp only [Option.some.injEq] at hb; subst hb
          rename_i a xs b ys
          have l1 := rx'.length
          have l2 := ry'.length
          refine op_catA pins s σ H _ _ v u Q I rx ry ⟨_, _, _, _, rfl, rfl, hx.sq, hy.sq, by omega, fun e => ?_, fun e e2 => ?_, fun e e2 p hp => k _ _ ?_⟩
          · refine k _ _ (sa.dat ?_)
            have : ds = [] := by subst e; simpa using l1.symm
            subst this
            exact .tup hy zy ry'
          · refine k _ _ (sa.dat ?_)
            have : es = [] := by subst e2; simpa using l2.symm
            subst this
            rw [List.append_nil]
            exact .tup hx zx rx'
          · exact res_tup sa (rx'.append ry') (by rw [List.length_append]; omega) hp
        · cases hb
      | _ => simp [binD] at hb
    | _ => simp [binD] at hb
  | sub =>
    cases dx with
    | int i =>
      cases dy with
      | int j =>
        cases hx; cases hy
        simp only [binD, Option.some.injEq] at hb; subst hb
        exact op_sub pins s σ H _ _ v u Q I rx ry ⟨i, j, rfl, rfl, k _ _ (sa.dat (.int _))⟩
      | _ => simp [binD] at hb
    | _ => simp [binD] at hb
  | mul =>
    cases dx with
    | int i =>
      cases dy with
      | int j =>
        cases hx; cases hy
        simp only [binD] at hb
        split at hb
        · rename_i hz
          simp only [Option.some.injEq] at hb; subst hb
          refine op_mul pins s σ H _ _ v u Q I rx ry ⟨i, j, rfl, rfl, ?_, k _ _ (sa.dat (.int _))⟩
          simpa [mulOk, CMul] using hz
        · cases hb
      | _ => simp [binD] at hb
    | list ds =>
      cases dy with
      | int i =>
        cases hy
        cases hx with
        | lst hx zx rx' =>
        simp only [binD] at hb
        split at hb
        · rename_i hz
          simp only [Option.some.injEq] at hb; subst hb
          simp only [Bool.and_eq_true, decide_eq_true_eq] at hz
          obtain ⟨⟨z1, z2⟩, z3⟩ := hz
          rename_i a xs
          have l1 := rx'.length
          have l2 : xs.length * i.toNat ≤ 1000 * 1000 := Nat.mul_le_mul (by omega) (by omega)
          have l3 : sizeLine = 16777216 := sizeLine_eq
          refine op_repF pins s σ H _ _ v u Q I rx ry ⟨a, i, xs, rfl, rfl, hx, by omega, by omega, by omega, fun p hp => k _ _ ?_⟩
          exact res_lst sa (rep_rd rx' _) (by rw [rep_len, Nat.mul_comm]; omega) hp
        · cases hb
      | _ => simp [binD] at hb
    | tuple ds =>
      cases dy with
      | int i =>
        cases hy
        cases hx with
        | tup hx zx rx' =>
        simp only [binD] at hb
        split at hb
        · rename_i hz
          simp only [Option.some.injEq] at hb; subst hb
          simp only [Bool.and_eq_true, decide_eq_true_eq] at hz
          obtain ⟨⟨⟨z1, z2⟩, z3⟩, z4⟩ := hz
          rename_i a xs
          have l1 := rx'.length
          have l2 : xs.length * i.toNat ≤ 1000 * 1000 := Nat.mul_le_mul (by omega) (by omega)
          have l3 : sizeLine = 16777216 := sizeLine_eq
          refine op_repT pins s σ H _ _ v u Q I rx ry ⟨a, i, xs, rfl, rfl, hx.sq, ?_, z1, z2, by omega, fun p hp => k _ _ ?_⟩
          · rintro rfl
            have : ds = [] := by simpa using l1.symm
            subst this; simp at z4
          · exact res_tup sa (rep_rd rx' _) (by rw [rep_len, Nat.mul_comm]; omega) hp
        · cases hb
      | _ => simp [binD] at hb
    | _ => simp [binD] at hb
  | fdiv =>
    cases dx with
    | int i =>
      cases dy with
      | int j =>
        cases hx; cases hy
        simp only [binD] at hb
        split at hb
        · rename_i hz
          simp only [Option.some.injEq] at hb; subst hb
          exact op_fdiv pins s σ H _ _ v u Q I rx ry ⟨i, j, rfl, rfl, hz, k _ _ (sa.dat (.int _))⟩
        · cases hb
      | _ => simp [binD] at hb
    | _ => simp [binD] at hb
  | mod =>
    cases dx with
    | int i =>
      cases dy with
      | int j =>
        cases hx; cases hy
        simp only [binD] at hb
        split at hb
        · rename_i hz
          simp only [Option.some.injEq] at hb; subst hb
          exact op_mod pins s σ H _ _ v u Q I rx ry ⟨i, j, rfl, rfl, hz, k _ _ (sa.dat (.int _))⟩
        · cases hb
      | _ => simp [binD] at hb
    | _ => simp [binD] at hb
  | pow =>
    cases dx with
    | int i =>
      cases dy with
      | int j =>
        cases hx; cases hy
        simp only [binD] at hb
        split at hb
        · rename_i hz
          simp only [Option.some.injEq] at hb; subst hb
          exact op_pow pins s σ H _ _ v u Q I rx ry ⟨i, j, rfl, rfl, hz, k _ _ (sa.dat (.int _))⟩
        · cases hb
      | _ => simp [binD] at hb
    | _ => simp [binD] at hb
  | shl =>
    cases dx with
    | int i =>
      cases dy with
      | int j =>
        cases hx; cases hy
        simp only [binD] at hb
        split at hb
        · rename_i hz
          simp only [Option.some.injEq] at hb; subst hb
          exact op_shl pins s σ H _ _ v u Q I rx ry ⟨i, j, rfl, rfl, hz, k _ _ (sa.dat (.int _))⟩
        · cases hb
      | _ => simp [binD] at hb
    | _ => simp [binD] at hb
  | band =>
    cases dx with
    | int i =>
      cases dy with
      | int j =>
        cases hx; cases hy
        simp only [binD, Option.some.injEq] at hb; subst hb
        exact op_and pins s σ H _ _ v u Q I rx ry ⟨i, j, rfl, rfl, k _ _ (sa.dat (.int _))⟩
      | _ => simp [binD] at hb
    | _ => simp [binD] at hb
  | bor =>
    cases dx with
    | int i =>
      cases dy with
      | int j =>
        cases hx; cases hy
        simp only [binD, Option.some.injEq] at hb; subst hb
        exact op_or pins s σ H _ _ v u Q I rx ry ⟨i, j, rfl, rfl, k _ _ (sa.dat (.int _))⟩
      | _ => simp [binD] at hb
    | _ => simp [binD] at hb
end
end Ur
end
section
set_option linter.all false
set_option autoImplicit false
set_option maxRecDepth 10000
/-! UrE2: comparisons. -/
namespace Ur
open PySem L2 PyProof.Rows

section
variable {K : PySem.W.Frag} {H : Hp}
mutual
theorem RD.dp : ∀ {v : V} {d : D}, RD K H v d → plainD d = true → Dp K H v d
  | _, _, .non, _ => .non
  | _, _, .bl b, _ => .bl b
  | _, _, .int i, _ => .int i
  | _, _, .str x h _, _ => .str x
  | _, _, .lst h z r, p => .lst h.sq (RDs.dp r (by simpa [plainD] using p))
  | _, _, .tup h z r, p => .tup h.sq (RDs.dp r (by simpa [plainD] using p))
  | _, _, .dct h _ r, p => by simp [plainD] at p
  | _, _, .exc _ _, p => by simp [plainD, excD] at p
theorem RDs.dp : ∀ {vs : List V} {ds : List D}, RDs K H vs ds → plainAll ds = true → DpAll K H vs ds
  | _, _, .nil, _ => .nil
  | _, _, .cons h r, p => by
    simp only [plainAll, Bool.and_eq_true] at p
    exact .cons (RD.dp h p.1) (RDs.dp r p.2)
end
mutual
theorem RD.lay : ∀ {v : V} {d : D}, RD K H v d → plainD d = true → d.canLay0 = true
  | _, _, .non, _ => rfl
  | _, _, .bl b, _ => rfl
  | _, _, .int i, _ => rfl
  | _, _, .str x h _, _ => h
  | _, _, .lst h z r, p => by rw [PyData.canLay0]; exact RDs.lay r (by simpa [plainD] using p)
  | _, _, .tup h z r, p => by rw [PyData.canLay0]; exact RDs.lay r (by simpa [plainD] using p)
  | _, _, .dct h _ r, p => by simp [plainD] at p
  | _, _, .exc _ _, p => by simp [plainD, excD] at p
theorem RDs.lay : ∀ {vs : List V} {ds : List D}, RDs K H vs ds → plainAll ds = true → PyData.canLayAll0 ds = true
  | _, _, .nil, _ => rfl
  | _, _, .cons h r, p => by
    simp only [plainAll, Bool.and_eq_true] at p
    rw [PyData.canLayAll0, RD.lay h p.1, RDs.lay r p.2]; rfl
end
theorem RD.key {x : V} {d : D} {k : Key} (h : RD K H x d) (e : dKey d = some k) : x = kV k ∧ d = kD k := by
  cases d with
  | int i => cases h; simp only [dKey, Option.some.injEq] at e; subst e; exact ⟨rfl, rfl⟩
  | str i => cases h; simp only [dKey, Option.some.injEq] at e; subst e; exact ⟨rfl, rfl⟩
  | _ => simp [dKey] at e
theorem kD_key (k : Key) : dKey (kD k) = some k := by cases k <;> rfl
theorem eqv_kD (a b : Key) : PyData.eqv (kD a) (kD b) = decide (a = b) := by
  cases a <;> cases b <;> simp [kD, PyData.eqv, Bool.beq_eq_decide_eq]
theorem RDk.look : ∀ {kvs : List (Key × V)} {ds : List (D × D)} (q : Key), RDk K H kvs ds → (match lookD (kD q) ds with
    | some d => ∃ v, valV kvs q = some v ∧ RD K H v d
    | none => valV kvs q = none)
  | _, _, q, .nil => by simp [lookD, valV_nil]
  | _, _, q, .cons (k := k) h r => by
    rw [lookD, eqv_kD]
    by_cases e : k = q
    · subst e
      simp only [decide_true, if_true]
      exact ⟨_, valV_pos rfl, h⟩
    · rw [decide_eq_false e, if_neg Bool.false_ne_true]
      have ih := RDk.look q r
      split <;> rename_i x <;> rw [x] at ih <;> rw [valV_neg e]
      · exact ih
      · exact ih
theorem RDk.noSet {kvs : List (Key × V)} {es : List D} {r : List (D × D)} (h : RDk K H kvs ((.none, .list es) :: r)) : False := by
  generalize e : (PyData.none, PyData.list es) :: r = w at h
  cases h with
  | nil => cases e
  | @cons k _ _ _ _ _ _ =>
    have e1 := congrArg Prod.fst (List.cons.inj e).1
    have e2 : dKey .none = dKey (kD k) := congrArg dKey e1
    rw [kD_key] at e2; cases e2
theorem RDk.noExc {kvs : List (Key × V)} {b : Bool} {x : D} {r : List (D × D)} (h : RDk K H kvs ((.bool b, x) :: r)) : False := by
  generalize e : (PyData.bool b, x) :: r = ds at h
  cases h with
  | nil => cases e
  | @cons k _ _ _ _ _ _ => cases k <;> simp [kD] at e
theorem RDk.fit {kvs : List (Key × V)} {ds : List (D × D)} {x : D} (r : RDk K H kvs ds) (f : fitK x ds = true) : ∃ q, dKey x = some q := by
  cases r with
  | nil => exact Option.isSome_iff_exists.mp (by simpa [fitK] using f)
  | cons h r =>
    rename_i k _ _ _ _
    simp only [fitK, kD_key, Option.isSome_some, if_true] at f
    exact Option.isSome_iff_exists.mp f
end

def pyC : Cop → CmpOp
  | .eq => .Eq | .ne => .NotEq | .lt => .Lt | .le => .LtE | .gt => .Gt | .ge => .GtE | .is_ => .Is | .isnot => .IsNot | .in_ => .In | .notin => .NotIn
def rC (K : PySem.W.Frag) (op : Cop) : R2 := fun x y H Q => ∃ dx dy b, RD K H x dx ∧ RD K H y dy ∧ cmpD op dx dy = some b ∧ Q (.bl b) H
section
variable {X : Cx} {n : Nat}
theorem units_of (hr : Room n X.A) : X.A.units + 65 < cLine := by have := hr.un; omega
theorem eqD_ok {K : PySem.W.Frag} {H : Hp} {x y : V} {dx dy : D} {b : Bool} (hx : RD K H x dx) (hy : RD K H y dy) (e : eqD dx dy = some b) : Dp K H x dx ∧ Dp K H y dy ∧ SeqAt.shaped dx = true ∧ SeqAt.shaped dy = true ∧ PyData.eqv dx dy = b := by
  unfold eqD at e
  split at e
  · rename_i h
    simp only [Bool.and_eq_true, cmpOk, decide_eq_true_eq] at h
    obtain ⟨⟨p1, d1⟩, p2, d2⟩ := h
    simp only [Option.some.injEq] at e
    exact ⟨hx.dp p1, hy.dp p2, by simp [SeqAt.shaped, hx.lay p1, d1], by simp [SeqAt.shaped, hy.lay p2, d2], e⟩
  · cases e
theorem ltD_ok {dx dy : D} {b : Bool} (e : ltD dx dy = some b) : PySem.W.alike dx dy = true ∧ dx ≠ .none ∧ dx.depth ≤ 64 ∧ plainD dx = true ∧ plainD dy = true ∧ PySem.W.dataLt dx dy = b := by
  unfold ltD at e
  split at e
  · rename_i h
    simp only [Bool.and_eq_true, decide_eq_true_eq] at h
    obtain ⟨⟨⟨⟨a, c⟩, d⟩, p⟩, q⟩ := h
    simp only [Option.some.injEq] at e
    refine ⟨a, ?_, d, p, q, e⟩
    rintro rfl; simp [noneD] at c
  · cases e
theorem RD.non_iff {K : PySem.W.Frag} {H : Hp} {x : V} {d : D} (h : RD K H x d) : decide (x = .non) = noneD d := by
  cases h <;> simp [noneD, excD]
theorem str_one {c : Str} (h : c.length = 1) : c = ⟨#[c.cps.toList.headD 0]⟩ := by
  obtain ⟨a⟩ := c
  have h' : a.size = 1 := h
  obtain ⟨l⟩ := a
  match l, h' with
  | [z], _ => rfl
theorem in_ok (hr : Room n X.A) {pins : List (Addr × Obj)} {s : Shared} {σ : L2.St} {H : Hp} {x y : V} {v u : Value} {dx dy : D} {b : Bool} (I : Inv X pins σ H s) (rx : RelV x v) (ry : RelV y u) (hx : RD X.K H x dx) (hy : RD X.K H y dy) (e : inD dx dy = some b) :
    (∀ Q : VK, Q (.bl b) H → wpAny (model X.prog X.w) X.A (compareOp .In v u) (EP X pins σ Q) X.xe s) ∧ (∀ Q : VK, Q (.bl (!b)) H → wpAny (model X.prog X.w) X.A (compareOp .NotIn v u) (EP X pins σ Q) X.xe s) := by
  have hu := units_of hr
  cases dy with
  | list ds =>
    simp only [inD] at e
    split at e
    · rename_i h
      simp only [Option.some.injEq] at e; subst e
      simp only [Bool.and_eq_true, cmpOk, decide_eq_true_eq] at h
      obtain ⟨⟨p1, d1⟩, p2, d2⟩ := h
      have s1 : SeqAt.shaped dx = true := by simp [SeqAt.shaped, hx.lay p1, d1]
      have s2 : SeqAt.shaped (.list ds) = true := by simp [SeqAt.shaped, hy.lay p2, d2]
      exact ⟨fun Q q => op_inD hu pins s σ H x y v u Q I rx ry ⟨dx, ds, hx.dp p1, hy.dp p2, s1, s2, q⟩, fun Q q => op_notInD hu pins s σ H x y v u Q I rx ry ⟨dx, ds, hx.dp p1, hy.dp p2, s1, s2, q⟩⟩
    · cases e
  | tuple ds =>
    simp only [inD] at e
    split at e
    · rename_i h
      simp only [Option.some.injEq] at e; subst e
      simp only [Bool.and_eq_true, cmpOk, decide_eq_true_eq] at h
      obtain ⟨⟨p1, d1⟩, p2, d2⟩ := h
      obtain ⟨as, r1⟩ := Dp.reads I dx x v (hx.dp p1) rx
      obtain ⟨bs, r2⟩ := Dp.reads I _ y u (hy.dp p2) ry
      have s1 : SeqAt.shaped dx = true := by simp [SeqAt.shaped, hx.lay p1, d1]
      have l2 : PyData.canLayAll0 ds = true := by have := hy.lay p2; rwa [PyData.canLay0] at this
      have rm := room_in_shaped (xs := ds) s1 hu
      exact ⟨fun Q q => SeqAt.in_tuple_reads r2 r1 l2 (hx.lay p1) rm ⟨.bl _, H, I, rfl, q⟩, fun Q q => SeqAt.notIn_tuple_reads r2 r1 l2 (hx.lay p1) rm ⟨.bl _, H, I, rfl, q⟩⟩
    · cases e
  | str z =>
    cases dx with
    | str c =>
      simp only [inD] at e
      split at e
      · rename_i h
        simp only [Option.some.injEq] at e; subst e
        cases hx; cases hy
        have hc := str_one h
        generalize c.cps.toList.headD 0 = k at hc ⊢
        subst hc
        exact ⟨fun Q q => op_in_sign pins s σ H _ _ v u Q I rx ry ⟨k, z, rfl, rfl, q⟩, fun Q q => op_notIn_sign pins s σ H _ _ v u Q I rx ry ⟨k, z, rfl, rfl, q⟩⟩
      · cases e
    | _ => simp [inD] at e
  | dict kvs =>
    cases hy with
    | exc h g => simp [inD, fitK, dKey, tKey] at e
    | dct hy _ r =>
      have hd : ¬ (∃ ds r', kvs = (.none, .list ds) :: r') := by
        rintro ⟨ds, r', rfl⟩
        exact r.noSet
      have e' : (if fitK dx kvs then some (lookD dx kvs).isSome else none) = some b := by
        unfold inD at e
        split at e <;> first | exact e | skip
        all_goals (rename_i h; first | (injection h with h; subst h; first | exact e | exact absurd ⟨_, _, rfl⟩ hd) | simp at h)
      split at e'
      · rename_i f
        obtain ⟨q, eq⟩ := r.fit f
        obtain ⟨rfl, rfl⟩ := hx.key eq
        have lk := r.look q
        simp only [Option.some.injEq] at e'; subst e'
        rename_i a o ks _
        have g : DGet H a (kV q) (valV ks q) := .inl ⟨ks, q, .inr ⟨o, hy⟩, rfl, rfl⟩
        have hb : (lookD (kD q) kvs).isSome = (valV ks q).isSome := by
          split at lk
          · rename_i d hd2; obtain ⟨w, h1, _⟩ := lk; rw [hd2, h1]; rfl
          · rename_i hd2; rw [hd2, lk]; rfl
        cases ry
        rw [hb]
        exact ⟨fun Q q' => d_in (by omega) I g rx fun s' I' => ⟨.bl _, H, I', rfl, q'⟩, fun Q q' => d_notIn (by omega) I g rx fun s' I' => ⟨.bl _, H, I', rfl, q'⟩⟩
      · cases e'
  | none => cases dx <;> simp [inD] at e
  | bool _ => cases dx <;> simp [inD] at e
  | int _ => cases dx <;> simp [inD] at e
theorem opC (hr : Room n X.A) {op : Cop} : OpR X (compareOp (pyC op)) (rC X.K op) := by
  intro pins s σ H x y v u Q I rx ry h
  obtain ⟨dx, dy, b, hx, hy, e, q⟩ := h
  have hu := units_of hr
  cases op with
  | eq =>
    obtain ⟨a1, a2, a3, a4, rfl⟩ := eqD_ok hx hy e
    exact op_eqD (by omega) pins s σ H x y v u Q I rx ry ⟨dx, dy, a1, a2, a3, a4, q⟩
  | ne =>
    simp only [cmpD, Option.map_eq_some_iff] at e
    obtain ⟨c, e, rfl⟩ := e
    obtain ⟨a1, a2, a3, a4, rfl⟩ := eqD_ok hx hy e
    exact op_neD (by omega) pins s σ H x y v u Q I rx ry ⟨dx, dy, a1, a2, a3, a4, q⟩
  | lt =>
    obtain ⟨a1, a2, a3, a4, a5, rfl⟩ := ltD_ok e
    obtain ⟨as, r1⟩ := Dp.reads I dx x v (hx.dp a4) rx
    obtain ⟨bs, r2⟩ := Dp.reads I dy y u (hy.dp a5) ry
    exact PySem.W.lt_data r1 r2 a1 a2 (by omega) ⟨.bl _, H, I, rfl, q⟩
  | gt =>
    simp only [cmpD] at e
    split at e
    · cases e
    · rename_i hn
      obtain ⟨a1, a2, a3, a4, a5, rfl⟩ := ltD_ok e
      obtain ⟨as, r1⟩ := Dp.reads I dx x v (hx.dp a5) rx
      obtain ⟨bs, r2⟩ := Dp.reads I dy y u (hy.dp a4) ry
      refine PySem.W.gt_data r1 r2 (by rw [PySem.W.alike_comm]; exact a1) ?_ (by omega) ⟨.bl _, H, I, rfl, q⟩
      rintro rfl; exact hn rfl
  | le =>
    simp only [cmpD] at e
    split at e
    · cases e
    · rename_i hn
      simp only [Option.map_eq_some_iff] at e
      obtain ⟨c, e, rfl⟩ := e
      obtain ⟨a1, a2, a3, a4, a5, rfl⟩ := ltD_ok e
      obtain ⟨as, r1⟩ := Dp.reads I dx x v (hx.dp a5) rx
      obtain ⟨bs, r2⟩ := Dp.reads I dy y u (hy.dp a4) ry
      refine PySem.W.le_data r1 r2 (by rw [PySem.W.alike_comm]; exact a1) ?_ (by omega) ⟨.bl _, H, I, rfl, q⟩
      rintro rfl; exact hn rfl
  | ge =>
    simp only [cmpD, Option.map_eq_some_iff] at e
    obtain ⟨c, e, rfl⟩ := e
    obtain ⟨a1, a2, a3, a4, a5, rfl⟩ := ltD_ok e
    obtain ⟨as, r1⟩ := Dp.reads I dx x v (hx.dp a4) rx
    obtain ⟨bs, r2⟩ := Dp.reads I dy y u (hy.dp a5) ry
    exact PySem.W.ge_data r1 r2 a1 a2 (by omega) ⟨.bl _, H, I, rfl, q⟩
  | is_ =>
    cases dy with
    | none =>
      cases hy
      have e' : some (noneD dx) = some b := by cases dx <;> simpa [cmpD] using e
      simp only [Option.some.injEq] at e'
      subst e'
      exact op_isN pins s σ H x _ v u Q I rx ry ⟨rfl, by rw [hx.non_iff]; exact q⟩
    | bool c =>
      cases dx with
      | bool a =>
        cases hx; cases hy
        simp only [cmpD, Option.some.injEq] at e; subst e
        exact op_isBl pins s σ H _ _ v u Q I rx ry ⟨a, c, rfl, rfl, by rw [← Bool.beq_eq_decide_eq]; exact q⟩
      | _ => simp [cmpD] at e
    | _ => cases dx <;> simp [cmpD] at e
  | isnot =>
    cases dy with
    | none =>
      cases hy
      have e' : some (!noneD dx) = some b := by cases dx <;> simpa [cmpD] using e
      simp only [Option.some.injEq] at e'
      subst e'
      exact op_notN pins s σ H x _ v u Q I rx ry ⟨rfl, by rw [hx.non_iff]; exact q⟩
    | bool c =>
      cases dx with
      | bool a =>
        cases hx; cases hy
        simp only [cmpD, Option.some.injEq] at e; subst e
        refine op_notBl pins s σ H _ _ v u Q I rx ry ⟨a, c, rfl, rfl, ?_⟩
        rw [← Bool.beq_eq_decide_eq]; exact q
      | _ => simp [cmpD] at e
    | _ => cases dx <;> simp [cmpD] at e
  | in_ => exact (in_ok hr I rx ry hx hy e).1 Q q
  | notin =>
    simp only [cmpD, Option.map_eq_some_iff] at e
    obtain ⟨c, e, rfl⟩ := e
    exact (in_ok hr I rx ry hx hy e).2 Q q
end
end Ur
end
section
set_option linter.all false
set_option autoImplicit false
set_option maxRecDepth 10000
/-! UrE3: subscripts, slices, truth. -/
namespace Ur
open PySem L2 PyProof.Rows

def rI' (K : PySem.W.Frag) : R2 := fun x y H Q => ∃ dx dy d, RD K H x dx ∧ RD K H y dy ∧ idxD dx dy = some d ∧ ∀ v, RD K H v d → Q v H
section
variable {X : Cx} {n : Nat}
theorem ixN_eq (n : Nat) (i : Int) : ixN n i = L2.ixN n i := rfl
theorem ix_dct (hr : Room n X.A) : IxR X (fun x y H Q => ∃ a v, x = .ref a ∧ DGet H a y (some v) ∧ Q v H) := by
  intro value slice pins s σ H x y v u Q I rx ry h hs
  obtain ⟨a, w, rfl, g, q⟩ := h
  cases rx
  have hu := units_of hr
  have hT := dict_typeIs I g
  unfold subscriptTail
  refine wpAny_bind ?_
  rw [getitemInPython_of_ne hT.not_modules]
  refine wpAny_bind (wpAny_specialOf hT PySem.F.slot_dict_getitem.lookup ?_)
  have fin : wpAny (model X.prog X.w) X.A (subscripted slice false (.ref a) u) (fun r s₃ => wpAny (model X.prog X.w) X.A (letTemporaryGo value (.ref a) r >>= fun _ => pure r) (EP X pins σ Q) X.xe s₃) X.xe s := by
    rw [hs]
    exact wpAny_operating (d_getItem (by omega) I g ry fun w' s3 I3 rw' => wpAny_bind (wpAny_letTemporaryGo (wpAny_pure ⟨w, H, I3, rw', q⟩)))
  first
    | exact wpAny_pure (wpAny_bind fin)
    | exact wpAny_bind (wpAny_pure (wpAny_bind fin))
    | exact wpAny_bind fin
theorem atD_ok {K : PySem.W.Frag} {H : Hp} {xs : List V} {ds : List D} {i : Int} {d : D} (r : RDs K H xs ds) (e : atD ds i = some d) : ∃ v, atI xs i = some v ∧ RD K H v d := by
  unfold atD at e
  cases h : ixN ds.length i with
  | none => rw [h] at e; cases e
  | some j =>
    rw [h] at e
    obtain ⟨v, hv, rv⟩ := r.get (show ds[j]? = some d from e)
    refine ⟨v, ?_, rv⟩
    unfold atI
    rw [r.length, ← ixN_eq, h]
    exact hv
theorem strOk_sgn {x : Str} (h : PyData.strOk x = true) {c : Nat} (hc : c ∈ x.cps.toList) : PyData.strOk ⟨#[c]⟩ = true := by
  unfold PyData.strOk at *
  have h' := Array.all_eq_true'.mp h c (by simpa using hc)
  simpa using h'
theorem ixD (hr : Room n X.A) : IxR X (rI' X.K) := by
  intro value slice pins s σ H x y v u Q I rx ry h hs
  obtain ⟨dx, dy, d, hx, hy, e, q⟩ := h
  cases dx with
  | list ds =>
    cases dy with
    | int i =>
      cases hy
      cases hx with
      | lst hx z r =>
      obtain ⟨w, h1, h2⟩ := atD_ok r e
      exact ix_list value slice pins s σ H _ _ v u Q I rx ry ⟨_, _, i, w, rfl, rfl, hx.sq, h1, q w h2⟩ hs
    | _ => simp [idxD] at e
  | tuple ds =>
    cases dy with
    | int i =>
      cases hy
      cases hx with
      | tup hx z r =>
      obtain ⟨w, h1, h2⟩ := atD_ok r e
      exact ix_tup value slice pins s σ H _ _ v u Q I rx ry ⟨_, _, i, w, rfl, rfl, hx.sq, h1, q w h2⟩ hs
    | _ => simp [idxD] at e
  | str z =>
    cases dy with
    | int i =>
      cases hy
      cases hx with
      | str _ hz hl =>
      simp only [idxD] at e
      cases h : ixN z.cps.toList.length i with
      | none => rw [h] at e; cases e
      | some j =>
        rw [h] at e
        obtain ⟨c, hc, rfl⟩ := Option.map_eq_some_iff.mp (show (z.cps.toList[j]?).map sgn = some d from e)
        have ha : atI z.cps.toList i = some c := by unfold atI; rw [← ixN_eq, h]; exact hc
        exact ix_str value slice pins s σ H _ _ v u Q I rx ry ⟨z, i, c, rfl, rfl, by rw [← top_eq]; exact hl, ha, q _ (.str _ (strOk_sgn hz (List.mem_of_getElem? hc)) (show (1 : Nat) ≤ top by unfold top; decide))⟩ hs
    | _ => simp [idxD] at e
  | dict kvs =>
    cases hx with
    | exc h g => cases dy <;> simp [idxD, fitK, dKey, tKey] at e
    | dct hx _ r =>
    have e' : (if fitK dy kvs then lookD dy kvs else none) = some d := by
      have e2 : idxD (.dict kvs) dy = (if fitK dy kvs then lookD dy kvs else none) := by
        cases dy <;> rfl
      rw [← e2]; exact e
    split at e'
    · rename_i f
      obtain ⟨k, ek⟩ := r.fit f
      obtain ⟨rfl, rfl⟩ := hy.key ek
      have lk := r.look k
      rw [e'] at lk
      obtain ⟨w, h1, h2⟩ := lk
      rename_i a o ks _
      exact ix_dct hr value slice pins s σ H _ _ v u Q I rx ry ⟨_, w, rfl, .inl ⟨ks, k, .inr ⟨o, hx⟩, rfl, h1.symm⟩, q w h2⟩ hs
    · cases e'
  | none => cases dy <;> simp [idxD] at e
  | bool _ => cases dy <;> simp [idxD] at e
  | int _ => cases dy <;> simp [idxD] at e

theorem clip_eq (n d : Nat) (i : Option Int) : clip n d i = HT.sIx n d i := by
  cases i with
  | none => rfl
  | some v =>
    show (if 0 ≤ v then min v.toNat n else (v + n).toNat) = if v < 0 then (v + (n : Int)).toNat else min v.toNat n
    by_cases h : v < 0
    · rw [if_pos h, if_neg (by omega)]
    · rw [if_neg h, if_pos (by omega)]
theorem cut_rd {K : PySem.W.Frag} {H : Hp} {xs : List V} {ds : List D} (r : RDs K H xs ds) (l u : Option Int) : RDs K H (cutV xs l u) (cutL ds l u) := by
  unfold cutV cutL
  rw [r.length, clip_eq, clip_eq]
  exact (r.drop _).take _
def rS (K : PySem.W.Frag) : V → Option Int → Option Int → Hp → VK → Prop := fun x lo hi H Q => ∃ d o l, RD K H x d ∧ slcD d lo hi = some o ∧ Sa H l ∧ ∀ v H', Sa H' (own K v o :: l) → Q v H'
theorem slD : SlR X (rS X.K) := by
  intro pins s σ H x v vl vu lo hi sl Q I rx hs pl pu h
  obtain ⟨d, o, l, hx, e, sa, k⟩ := h
  cases d with
  | list ds =>
    simp only [slcD, Option.some.injEq] at e; subst e
    cases hx with
    | lst hx z r =>
    rename_i a xs
    refine sl_list pins s σ H _ v vl vu lo hi sl Q I rx hs pl pu ⟨a, xs, rfl, hx.sq, fun p hp => k _ _ ?_⟩
    exact res_lst sa (cut_rd r lo hi) (Nat.le_trans (cutV_length _ _ _) z) hp
  | tuple ds =>
    simp only [slcD, Option.some.injEq] at e; subst e
    cases hx with
    | tup hx z r =>
    rename_i a xs
    refine sl_tupA pins s σ H _ v vl vu lo hi sl Q I rx hs pl pu ⟨a, xs, rfl, hx.sq, fun w => k _ _ (sa.dat ?_), fun w p hp => k _ _ ?_⟩
    · have hc : cutV xs lo hi = xs := by
        unfold cutV; rw [w.1, w.2]; simp
      have hr := cut_rd r lo hi
      rw [hc] at hr
      exact .tup hx z hr
    · exact res_tup sa (cut_rd r lo hi) (Nat.le_trans (cutV_length _ _ _) z) hp
  | _ => simp [slcD] at e
theorem emp_of {xs : List V} {ds : List D} (h : xs.length = ds.length) : (!ds.isEmpty) = !xs.isEmpty := by
  cases xs <;> cases ds <;> simp_all
theorem truD_ok {x : V} {H : Hp} {d : D} {b : Bool} (hx : RD X.K H x d) (e : truD d = some b) : TruV X.K x H b := by
  cases d with
  | none => cases hx; simpa [truD, TruV] using e.symm
  | bool c => cases hx; simp only [truD, Option.some.injEq] at e; exact e.symm
  | int i =>
    cases hx
    simp only [truD, Option.some.injEq] at e
    subst e
    show decide (i ≠ 0) = (i != 0)
    by_cases h : i = 0 <;> simp [h]
  | str z =>
    cases hx with
    | str _ hz hl =>
    simp only [truD, Option.some.injEq] at e
    subst e
    refine ⟨by rw [← top_eq]; exact hl, ?_⟩
    by_cases h : z.length = 0 <;> simp [h]
  | list ds =>
    cases hx with
    | lst hx z r =>
    simp only [truD, Option.some.injEq] at e
    subst e
    exact .inl ⟨_, hx.sq, emp_of r.length⟩
  | tuple ds =>
    cases hx with
    | tup hx z r =>
    simp only [truD, Option.some.injEq] at e
    subst e
    exact .inr (.inl ⟨_, hx.sq, emp_of r.length⟩)
  | dict _ => simp [truD] at e
end
end Ur
end
section
set_option linter.all false
set_option autoImplicit false
set_option maxRecDepth 10000
/-! UrE4: the built-in functions on data. -/
namespace Ur
open PySem L2 PyProof.Rows

/-! ## sorting -/
theorem leD_eq : leD = PySem.W.dataLe false (fun d : PyData => d) := by
  rw [PySem.W.dataLe_eq]; rfl
theorem leD_total : PySem.W.TotalLe leD := by
  rw [leD_eq]; exact PySem.W.sortLe_total _ _ _
section
variable {le : D → D → Bool}
theorem insD_sorted : ∀ (x : D) (l : List D), l.Pairwise (fun a b => leD a b = true) → (insD x l).Pairwise (fun a b => leD a b = true) ∧ ∀ y, y ∈ insD x l → y = x ∨ y ∈ l
  | x, [], _ => ⟨by simp [insD], fun y h => by simpa [insD] using h⟩
  | x, y :: r, h => by
    obtain ⟨h1, h2⟩ := List.pairwise_cons.mp h
    rw [insD]
    split
    · rename_i c
      refine ⟨List.pairwise_cons.mpr ⟨fun z hz => ?_, h⟩, fun z hz => by simpa using hz⟩
      rcases List.mem_cons.mp hz with rfl | hz
      · exact c
      · exact leD_total.trans _ _ _ c (h1 z hz)
    · rename_i c
      have c' : leD y x = true := (leD_total.total x y).resolve_left c
      obtain ⟨k1, k2⟩ := insD_sorted x r h2
      refine ⟨List.pairwise_cons.mpr ⟨fun z hz => ?_, k1⟩, fun z hz => ?_⟩
      · rcases k2 z hz with rfl | hz
        · exact c'
        · exact h1 z hz
      · rcases List.mem_cons.mp hz with rfl | hz
        · exact .inr List.mem_cons_self
        · rcases k2 z hz with rfl | hz
          · exact .inl rfl
          · exact .inr (List.mem_cons_of_mem _ hz)
theorem isort_sorted : ∀ l : List D, (isort l).Pairwise (fun a b => leD a b = true)
  | [] => .nil
  | x :: r => (insD_sorted x _ (isort_sorted r)).1
theorem insD_filter (c : D) : ∀ (x : D) (l : List D), (insD x l).filter (PySem.W.sameRank leD c) = (x :: l).filter (PySem.W.sameRank leD c)
  | x, [] => rfl
  | x, y :: r => by
    rw [insD]
    split
    · rfl
    · rename_i k
      rw [List.filter_cons, insD_filter c x r]
      by_cases hx : PySem.W.sameRank leD c x = true
      · by_cases hy : PySem.W.sameRank leD c y = true
        · exfalso
          unfold PySem.W.sameRank at hx hy
          rw [Bool.and_eq_true] at hx hy
          exact k (leD_total.trans _ _ _ hx.2 hy.1)
        · simp [hx, hy]
      · by_cases hy : PySem.W.sameRank leD c y = true <;> simp [hx, hy]
theorem isort_filter (c : D) : ∀ l : List D, (isort l).filter (PySem.W.sameRank leD c) = l.filter (PySem.W.sameRank leD c)
  | [] => rfl
  | x :: r => by
    rw [isort, insD_filter, List.filter_cons, List.filter_cons, isort_filter c r]
theorem isort_merge (l : List D) : isort l = l.mergeSort leD := PySem.W.sort_unique leD_total (isort_sorted l) fun c => isort_filter c l
theorem insD_length (x : D) : ∀ l : List D, (insD x l).length = l.length + 1
  | [] => rfl
  | y :: r => by rw [insD]; split <;> simp [insD_length x r]
theorem isort_length : ∀ l : List D, (isort l).length = l.length
  | [] => rfl
  | x :: r => by rw [isort, insD_length, isort_length r]; rfl
end
theorem alikeTo_all {x : D} : ∀ {l : List D}, alikeTo x l = true → ∀ y ∈ l, PySem.W.alike x y = true
  | [], _, y, h => by simp at h
  | z :: r, e, y, h => by
    simp only [alikeTo, Bool.and_eq_true] at e
    rcases List.mem_cons.mp h with rfl | h
    · exact e.1
    · exact alikeTo_all e.2 y h
theorem allAlike_all : ∀ {l : List D}, allAlike l = true → ∀ x ∈ l, ∀ y ∈ l, PySem.W.alike x y = true
  | [], _, x, h, _, _ => by simp at h
  | z :: r, e, x, hx, y, hy => by
    simp only [allAlike, Bool.and_eq_true] at e
    obtain ⟨⟨e0, e1⟩, e2⟩ := e
    rcases List.mem_cons.mp hx with h1 | h1
    · rcases List.mem_cons.mp hy with h2 | h2
      · rw [h1, h2]; exact e0
      · rw [h1]; exact alikeTo_all e1 y h2
    · rcases List.mem_cons.mp hy with h2 | h2
      · rw [PySem.W.alike_comm, h2]; exact alikeTo_all e1 x h1
      · exact allAlike_all e2 x h1 y h2
theorem sortable_ok {ds : List D} (h : sortable ds = true) : PySem.W.AllAlike ds ∧ PySem.W.Sortable ds ∧ (∀ d ∈ ds, d.depth ≤ 64) ∧ plainAll ds = true := by
  simp only [sortable, Bool.and_eq_true, Bool.or_eq_true, List.all_eq_true, decide_eq_true_eq] at h
  obtain ⟨⟨a, b⟩, c⟩ := h
  refine ⟨fun x hx y hy => allAlike_all a x hx y hy, ?_, fun d hd => (c d hd).1, ?_⟩
  · rcases b with b | b
    · exact .inl fun d hd => by
        have := b d hd
        unfold tupNE at this
        split at this
        · exact ⟨_, _, rfl⟩
        · cases this
    · exact .inr fun d hd => by
        have := b d hd
        constructor
        · rintro rfl; simp [noneD] at this
        · rintro xs rfl; simp [tupAny] at this
  · have c' : ∀ d ∈ ds, plainD d = true := fun d hd => (c d hd).2
    clear a b c
    induction ds with
    | nil => rfl
    | cons x r ih => rw [plainAll, c' x List.mem_cons_self, ih fun d hd => c' d (List.mem_cons_of_mem _ hd)]; rfl

section
variable {X : Cx} {n : Nat} {pins : List (Addr × Obj)} {σ : L2.St} {H : Hp} {s : Shared}
open PySem.W in
/-- values that stand for frozen data -/
theorem each_rd : ∀ {xs : List V} {us : List Value} {ds : List D}, Vals xs us → RDs X.K H xs ds → EachIs (fun u d => ∃ v, RelV v u ∧ RD X.K H v d) us ds
  | _, _, _, .nil, .nil => .nil
  | _, _, _, .cons r t, .cons h q => .cons ⟨_, r, h⟩ (each_rd t q)
open PySem.W in
theorem each_back : ∀ {us : List Value} {ds : List D}, EachIs (fun u d => ∃ v, RelV v u ∧ RD X.K H v d) us ds → ∃ xs, Vals xs us ∧ RDs X.K H xs ds
  | _, _, .nil => ⟨[], .nil, .nil⟩
  | _, _, .cons ⟨v, r, h⟩ t => by
    obtain ⟨xs, a, b⟩ := each_back t
    exact ⟨v :: xs, .cons r a, .cons h b⟩
open PySem.W in
theorem each_reads (I : Inv X pins σ H s) : ∀ {us : List Value} {ds : List D}, EachIs (fun u d => ∃ v, RelV v u ∧ RD X.K H v d) us ds → plainAll ds = true → EachIs (fun u d => ∃ as, Reads s.heap u d as) us ds
  | _, _, .nil, _ => .nil
  | _, _, .cons ⟨v, r, h⟩ t, p => by
    simp only [plainAll, Bool.and_eq_true] at p
    exact .cons (Dp.reads I _ v _ (h.dp p.1) r) (each_reads I t p.2)
open PySem.W in
/-- sorted of a list -/
theorem sort_list (hr : Room n X.A) (I : Inv X pins σ H s) {a : Addr} {xs : List V} {ds : List D} (hl : SqL X.K H a xs) (z : xs.length ≤ top) (r : RDs X.K H xs ds) (hs : sortable ds = true) {Q : VK}
    (q : ∀ p ys, H p = none → RDs X.K H ys (isort ds) → Q (.ref p) (upd H p (.lst ys))) : wpAny (model X.prog X.w) X.A (call (.builtin "sorted") [.ref a]) (EP X pins σ Q) X.xe s := by
  obtain ⟨al, so, dp, pl⟩ := sortable_ok hs
  obtain ⟨its, rv, p, hz⟩ := I.list hl
  have e := each_rd (X := X) (H := H) rv r
  have hu := hr.un
  have tl := top_eq
  have rl := r.length
  refine sorted_data (enc := fun d => d) (bs := ds) (vs := its) (R := fun u d => ∃ v, RelV v u ∧ RD X.K H v d) p.isList e (each_reads I e pl) (by simpa using al) (by simpa using so) (by omega) (fun d hd => by have := dp d hd; omega) fun out ho eo => ?_
  obtain ⟨ys, v1, v2⟩ := each_back eo
  rw [← leD_eq, ← isort_merge] at v2
  obtain ⟨ee, hat⟩ := sortedAll_at s.heap its out.toArray
  have hp : H (s.heap.objs.size + 1) = none := I.hok.fresh (Nat.le_succ _)
  refine ⟨.ref (s.heap.objs.size + 1), upd H (s.heap.objs.size + 1) (.lst ys), I.laid (t' := s.toks) (fun b o h => sortedAll_old h) (Nat.le_succ _) ⟨?_, out, ee, v1, hat⟩, rfl, q _ _ hp v2⟩
  have l1 := v1.length
  omega
end
end Ur
end
section
set_option linter.all false
set_option autoImplicit false
set_option maxRecDepth 10000
/-! UrE5: calls of built-in functions. -/
namespace Ur
open PySem L2 PyProof.Rows

def pyF : Bf → Value
  | .len => .builtin "len" | .int => .type "int" | .abs => .builtin "abs" | .min => .builtin "min" | .max => .builtin "max" | .sum => .builtin "sum" | .any => .builtin "any" | .all => .builtin "all"
  | .sorted => .builtin "sorted" | .set => .type "set" | .list => .type "list" | .tuple => .type "tuple" | .dict => .type "dict" | .bool => .type "bool"
def rF (K : PySem.W.Frag) (f : Bf) : List V → Hp → VK → Prop := fun xs H Q => ∃ ds o l, RDs K H xs ds ∧ bfD f ds = some o ∧ Sa H l ∧ ∀ v H', Sa H' (own K v o :: l) → Q v H'
section
variable {K : PySem.W.Frag} {H : Hp}
theorem RDs.one {xs : List V} {d : D} (r : RDs K H xs [d]) : ∃ x, xs = [x] ∧ RD K H x d := by
  cases r with
  | cons h r => cases r; exact ⟨_, rfl, h⟩
theorem RDs.two {xs : List V} {d e : D} (r : RDs K H xs [d, e]) : ∃ x y, xs = [x, y] ∧ RD K H x d ∧ RD K H y e := by
  cases r with
  | cons h r => obtain ⟨y, rfl, h2⟩ := r.one; exact ⟨_, _, rfl, h, h2⟩
theorem ints_of {xs : List V} {ds : List D} : ∀ {a r : Int}, RDs K H xs ds → sumD ds a = some r → ∃ ns : List Int, xs = ns.map V.int ∧ r = a + ns.sum := by
  induction ds generalizing xs with
  | nil => intro a r h e; cases h; simp only [sumD, Option.some.injEq] at e; exact ⟨[], rfl, by simpa using e.symm⟩
  | cons d ds ih =>
    intro a r h e
    cases h with
    | cons h1 h2 =>
      cases d with
      | int i =>
        cases h1
        obtain ⟨ns, rfl, rfl⟩ := ih h2 (show sumD ds (a + i) = some r from e)
        exact ⟨i :: ns, rfl, by simp [Int.add_assoc]⟩
      | _ => simp [sumD] at e
theorem bools_of {xs : List V} {ds : List D} : ∀ {bs : List Bool}, RDs K H xs ds → tests ds = some bs → xs = bs.map V.bl := by
  induction ds generalizing xs with
  | nil => intro bs h e; cases h; simp only [tests, Option.some.injEq] at e; subst e; rfl
  | cons d ds ih =>
    intro bs h e
    cases h with
    | cons h1 h2 =>
      cases d with
      | bool i =>
        cases h1
        simp only [tests, Option.map_eq_some_iff] at e
        obtain ⟨cs, e, rfl⟩ := e
        rw [ih h2 e]; rfl
      | _ => simp [tests] at e
theorem sorted_seq {ds r : List D} (h : sortD ds = some r) : sortable ds = true ∧ r = isort ds := by
  unfold sortD at h
  split at h
  · rename_i c; exact ⟨c, (Option.some.inj h).symm⟩
  · cases h
end
theorem depthAll_le : ∀ {ds : List D} {m : Nat}, (∀ d ∈ ds, d.depth ≤ m) → PyData.depthAll ds ≤ m
  | [], m, _ => by simp [PyData.depthAll]
  | d :: r, m, h => by
    rw [PyData.depthAll]
    have h1 := h d List.mem_cons_self
    have h2 := depthAll_le (m := m) fun e he => h e (List.mem_cons_of_mem _ he)
    exact Nat.max_le.mpr ⟨h1, h2⟩
theorem alikeAll_of {ds : List D} (h : sortable ds = true) (t : ∀ d ∈ ds, d ≠ .none) : PySem.W.AlikeAll ds := ⟨(sortable_ok h).1, t⟩
theorem notNone_of {ds : List D} (h : sortable ds = true) : ∀ d ∈ ds, d ≠ .none := by
  obtain ⟨_, b, _⟩ := sortable_ok h
  rintro d hd rfl
  rcases b with b | b
  · obtain ⟨x, r, e⟩ := b _ hd; cases e
  · exact (b _ hd).1 rfl
theorem fold_mem {f : D → D → D} (hf : ∀ a b, f a b = a ∨ f a b = b) : ∀ (l : List D) (x : D), l.foldl f x = x ∨ l.foldl f x ∈ l
  | [], x => .inl rfl
  | y :: r, x => by
    rw [List.foldl_cons]
    rcases fold_mem hf r (f x y) with h | h
    · rw [h]
      rcases hf x y with e | e
      · exact .inl e
      · rw [e]; exact .inr List.mem_cons_self
    · exact .inr (List.mem_cons_of_mem _ h)
section
variable {X : Cx} {n : Nat} {pins : List (Addr × Obj)} {σ : L2.St} {H : Hp} {s : Shared}
/-- an item that reads as a certain one of the data -/
theorem pick_rd (I : Inv X pins σ H s) {xs : List V} {us : List Value} {ds : List D} (rv : Vals xs us) (r : RDs X.K H xs ds) (hp : plainAll ds = true) (al : PySem.W.AllAlike ds) {h' : Heap} (kp : ∀ b o, s.heap.get? b = some o → h'.get? b = some o) {i : Nat} {u : Value} {d : D} {bs : List Addr}
    (hu : us[i]? = some u) (hd : d ∈ ds) (hr : Reads h' u d bs) : ∃ v, RelV v u ∧ RD X.K H v d := by
  have hi : i < us.length := (List.getElem?_eq_some_iff.mp hu).1
  obtain ⟨v, hv⟩ : ∃ v, xs[i]? = some v := ⟨xs[i]'(by rw [rv.length]; exact hi), List.getElem?_eq_getElem _⟩
  obtain ⟨u', e, rl⟩ := rv.get hv
  rw [hu] at e; cases e
  obtain ⟨d', hd', rd⟩ := r.getV hv
  have pd : plainD d' = true := by
    have : ∀ {l : List D} {j : Nat} {z : D}, plainAll l = true → l[j]? = some z → plainD z = true := by
      intro l
      induction l with
      | nil => intro j z _ e; simp at e
      | cons y r ih =>
        intro j z p e
        simp only [plainAll, Bool.and_eq_true] at p
        cases j with
        | zero => simp at e; subst e; exact p.1
        | succ j => exact ih p.2 (by simpa using e)
    exact this hp hd'
  obtain ⟨as, r1⟩ := Dp.reads I d' v u (rd.dp pd) rl
  have r2 : Reads h' u d' as := PyProof.Rows.Reads.keeps kp r1
  have e : d = d' := PySem.W.alike_unique d d' u _ _ (al _ hd _ (List.mem_of_getElem? hd')) hr r2
  exact ⟨v, rl, e ▸ rd⟩
theorem keptI {h' : Heap} {t' : Nat} (I : Inv X pins σ H s) (k : ∀ b u, s.heap.get? b = some u → h'.get? b = some u) : Inv X pins σ H { s with heap := h', toks := t' } := I.kept k
theorem seq_of (hr : Room n X.A) {a : Addr} {xs : List V} {ds : List D} {d : D} (I : Inv X pins σ H s) (hs : SqL X.K H a xs ∨ SqT X.K H a xs) (r : RDs X.K H xs ds) {Q : VK} :
    (minD ds = some d → (∀ v, RD X.K H v d → Q v H) → wpAny (model X.prog X.w) X.A (call (.builtin "min") [.ref a]) (EP X pins σ Q) X.xe s) ∧
    (maxD ds = some d → (∀ v, RD X.K H v d → Q v H) → wpAny (model X.prog X.w) X.A (call (.builtin "max") [.ref a]) (EP X pins σ Q) X.xe s) := by
  have hun := hr.un
  cases ds with
  | nil => exact ⟨fun e _ => (nomatch (show none = some d from e)), fun e _ => (nomatch (show none = some d from e))⟩
  | cons x ds =>
    have both : sortable (x :: ds) = true → PySem.W.AlikeAll (x :: ds) ∧ X.A.units + 1 + PyData.depthAll (x :: ds) < cLine ∧ plainAll (x :: ds) = true := fun h => by
      obtain ⟨a1, a2, a3, a4⟩ := sortable_ok h
      have := depthAll_le a3
      exact ⟨alikeAll_of h (notNone_of h), by omega, a4⟩
    refine ⟨fun e q => ?_, fun e q => ?_⟩
    · have e : (if sortable (x :: ds) then some (ds.foldl (fun m y => if PySem.W.dataLt y m then y else m) x) else none) = some d := e
      split at e
      · rename_i hso
        obtain ⟨a1, a2, a3⟩ := both hso
        have e' : PySem.W.minD x ds = d := Option.some.inj e
        have hm : d ∈ x :: ds := by
          rw [← e']
          rcases fold_mem (f := fun a y => if PySem.W.dataLt y a then y else a) (fun a b => by split <;> simp) ds x with h | h
          · unfold PySem.W.minD; rw [h]; exact List.mem_cons_self
          · exact List.mem_cons_of_mem _ h
        rcases hs with hs | hs
        · obtain ⟨its, rv, p, hz⟩ := I.list hs
          obtain ⟨as, rr⟩ := Dp.readsAll I _ _ its (r.dp a3) rv
          refine PySem.W.min_list_data hr.hd p.isList (show ReadsAll s.heap its.toArray.toList _ as from rr) a1 a2 fun i v h' tk bs hv hrd kp => ?_
          rw [e'] at hrd
          obtain ⟨w, rw', rd⟩ := pick_rd I rv r a3 a1.1 kp (show its[i]? = some v by simpa using hv) hm hrd
          exact ⟨w, H, I.kept kp, rw', q w rd⟩
        · obtain ⟨its, rv, p, hz⟩ := I.tuple hs
          obtain ⟨as, rr⟩ := Dp.readsAll I _ _ its (r.dp a3) rv
          refine PySem.W.min_tuple_data hr.hd (show s.heap.IsTuple a its.toArray from p) (show ReadsAll s.heap its.toArray.toList _ as from rr) a1 a2 fun i v h' tk bs hv hrd kp => ?_
          rw [e'] at hrd
          obtain ⟨w, rw', rd⟩ := pick_rd I rv r a3 a1.1 kp (show its[i]? = some v by simpa using hv) hm hrd
          exact ⟨w, H, I.kept kp, rw', q w rd⟩
      · cases e
    · have e : (if sortable (x :: ds) then some (ds.foldl (fun m y => if PySem.W.dataLt m y then y else m) x) else none) = some d := e
      split at e
      · rename_i hso
        obtain ⟨a1, a2, a3⟩ := both hso
        have e' : PySem.W.maxD x ds = d := Option.some.inj e
        have hm : d ∈ x :: ds := by
          rw [← e']
          rcases fold_mem (f := fun a y => if PySem.W.dataLt a y then y else a) (fun a b => by split <;> simp) ds x with h | h
          · unfold PySem.W.maxD; rw [h]; exact List.mem_cons_self
          · exact List.mem_cons_of_mem _ h
        rcases hs with hs | hs
        · obtain ⟨its, rv, p, hz⟩ := I.list hs
          obtain ⟨as, rr⟩ := Dp.readsAll I _ _ its (r.dp a3) rv
          refine PySem.W.max_list_data hr.hd p.isList (show ReadsAll s.heap its.toArray.toList _ as from rr) a1 a2 fun i v h' tk bs hv hrd kp => ?_
          rw [e'] at hrd
          obtain ⟨w, rw', rd⟩ := pick_rd I rv r a3 a1.1 kp (show its[i]? = some v by simpa using hv) hm hrd
          exact ⟨w, H, I.kept kp, rw', q w rd⟩
        · obtain ⟨its, rv, p, hz⟩ := I.tuple hs
          obtain ⟨as, rr⟩ := Dp.readsAll I _ _ its (r.dp a3) rv
          refine PySem.W.max_tuple_data hr.hd (show s.heap.IsTuple a its.toArray from p) (show ReadsAll s.heap its.toArray.toList _ as from rr) a1 a2 fun i v h' tk bs hv hrd kp => ?_
          rw [e'] at hrd
          obtain ⟨w, rw', rd⟩ := pick_rd I rv r a3 a1.1 kp (show its[i]? = some v by simpa using hv) hm hrd
          exact ⟨w, H, I.kept kp, rw', q w rd⟩
      · cases e
end
end Ur
end
section
set_option linter.all false
set_option autoImplicit false
set_option maxRecDepth 10000
namespace Ur
open PySem L2 PyProof.Rows
section
variable {X : Cx} {n : Nat}
theorem mk_rd {K : PySem.W.Frag} {H : Hp} : ∀ (l : List Nat), (∀ c ∈ l, PyData.strOk ⟨#[c]⟩ = true) → RDs K H (l.map fun c => V.str ⟨#[c]⟩) (l.map sgn)
  | [], _ => .nil
  | c :: r, h => .cons (.str _ (h c List.mem_cons_self) (show (1 : Nat) ≤ top by unfold top; decide)) (mk_rd r fun d hd => h d (List.mem_cons_of_mem _ hd))
theorem signs_vals {x : Str} {acc' : Array Value} (it : ItemsOf (SignAt x) acc' x.cps.size) : Vals (x.cps.toList.map fun c => V.str ⟨#[c]⟩) acc'.toList := by
    obtain ⟨hs, ha⟩ := it
    have gen : ∀ (l : List Nat) (us : List Value), us.length = l.length → (∀ (j : Nat) (v : Value), us[j]? = some v → ∃ (c : Nat) (u : Tok), l[j]? = some c ∧ v = .str ⟨#[c]⟩ u) → Vals (l.map fun c => V.str ⟨#[c]⟩) us := by
      intro l
      induction l with
      | nil =>
        intro us h _
        cases us with
        | nil => exact .nil
        | cons _ _ => simp at h
      | cons c r ih =>
        intro us h g
        match us, h with
        | u :: us, h =>
          obtain ⟨c', t', e1, e2⟩ := g 0 u rfl
          simp only [List.getElem?_cons_zero, Option.some.injEq] at e1
          subst e1; subst e2
          exact .cons ⟨t', rfl⟩ (ih us (by simpa using h) fun j v hj => g (j + 1) v (by simpa using hj))
    refine gen _ _ (by simpa using hs) fun j v hj => ?_
    obtain ⟨c, u, e1, e2⟩ := ha j v (by rw [← Array.getElem?_toList]; exact hj)
    exact ⟨c, u, by rw [Array.getElem?_toList]; exact e1, e2⟩
theorem call_listS (hr : Room n X.A) : CallR X (.type "list") (fun xs H Q => ∃ x : Str, xs = [.str x] ∧ x.length ≤ sizeLine ∧ ∀ l, H l = none → Q (.ref l) (upd H l (.lst (x.cps.toList.map fun c => V.str ⟨#[c]⟩)))) := by
  intro pins s σ H xs us Q I r h
  obtain ⟨x, rfl, hx, q⟩ := h
  obtain ⟨u, rfl, rx⟩ := vals1 r
  obtain ⟨t, rfl⟩ := rx
  refine call_list_str (hn := hx) hr.hd x t fun h' tk acc' c' kp e it => ?_
  have hv := signs_vals it
  refine ⟨.ref s.heap.objs.size, _, I.laid (t' := tk) kp (Nat.le_refl _) (show ObjOk X.prog X.w _ h' _ (.lst _) from ⟨by rw [List.length_map]; exact hx, acc'.toList, c', hv, by simpa using e⟩), rfl, q _ (I.hok.fresh (Nat.le_refl _))⟩
theorem call_tupS (hr : Room n X.A) : CallR X (.type "tuple") (fun xs H Q => ∃ x : Str, xs = [.str x] ∧ x.length ≤ sizeLine ∧ ∀ l, H l = none → Q (.ref l) (upd H l (.tup (x.cps.toList.map fun c => V.str ⟨#[c]⟩)))) := by
  intro pins s σ H xs us Q I r h
  obtain ⟨x, rfl, hx, q⟩ := h
  obtain ⟨u, rfl, rx⟩ := vals1 r
  obtain ⟨t, rfl⟩ := rx
  refine call_tuple_str (hsz := hx) hr.hd x t fun h' tk acc kp it => ?_
  have hv := signs_vals it
  have J := I.kept (h' := h') (t' := tk) kp
  refine ⟨.ref h'.objs.size, _, J.laid (t' := tk) (o := .tup (x.cps.toList.map fun c => V.str ⟨#[c]⟩)) (fun b o e => Heap.get?_push_of_some _ e) (Nat.le_refl _) ?_, rfl, q _ (J.hok.fresh (Nat.le_refl _))⟩
  exact ⟨by rw [List.length_map]; exact hx, acc.toList, hv, ⟨_, Heap.get?_push_size _ rfl, rfl, 0, by simp⟩⟩
theorem signs_rd {K : PySem.W.Frag} {H : Hp} {x : Str} (h : PyData.strOk x = true) : RDs K H (x.cps.toList.map fun c => V.str ⟨#[c]⟩) (signs x) := mk_rd _ fun c hc => strOk_sgn h hc
theorem bfR (hr : Room n X.A) (hc : X.calm = true) (f : Bf) (hf : bfHas f = true) : CallR X (pyF f) (rF X.K f) := by
  intro pins s σ H xs us Q I r h
  obtain ⟨ds, o, l, rd, e, sa, k⟩ := h
  have tl := top_eq
  cases f with
  | set => simp [bfHas] at hf
  | dict => simp [bfHas] at hf
  | bool => simp [bfHas] at hf
  | len =>
    match ds, e with
    | [d], e =>
      obtain ⟨x, rfl, hx⟩ := rd.one
      simp only [bfD, Option.map_eq_some_iff] at e
      obtain ⟨m, e, rfl⟩ := e
      have qq := k (.int m) H (sa.dat (.int m))
      cases d with
      | list ds =>
        cases hx with
        | lst hx z r' =>
        simp only [lenD, Option.some.injEq] at e; subst e
        exact call_len pins s σ H _ us Q I r ⟨_, _, rfl, .inl ⟨_, hx.sq, r'.length.symm⟩, qq⟩
      | tuple ds =>
        cases hx with
        | tup hx z r' =>
        simp only [lenD, Option.some.injEq] at e; subst e
        exact call_len pins s σ H _ us Q I r ⟨_, _, rfl, .inr ⟨_, hx.sq, r'.length.symm⟩, qq⟩
      | str z =>
        cases hx with
        | str _ h1 h2 =>
        simp only [lenD, Option.some.injEq] at e; subst e
        exact call_len pins s σ H _ us Q I r ⟨_, _, rfl, ⟨by omega, rfl⟩, qq⟩
      | dict kvs =>
        cases hx with
        | exc h g => simp [lenD] at e
        | dct hx _ r' =>
        obtain ⟨u, rfl, rx⟩ := vals1 r
        cases rx
        have hm : m = kvs.length := by
          have e2 : lenD (.dict kvs) = some kvs.length := by
            unfold lenD
            split <;> rename_i h1 <;> first | (injection h1 with h1; subst h1; first | rfl | exact r'.noSet.elim | exact r'.noExc.elim) | (exact absurd h1 (by simp))
          rw [e2] at e; exact (Option.some.inj e).symm
        have hl : ∀ {kvs : List (Key × V)} {ds : List (D × D)}, RDk X.K H kvs ds → kvs.length = ds.length := by
          intro kvs
          induction kvs with
          | nil => intro ds h; cases h; rfl
          | cons _ _ ih => intro ds h; cases h with | cons _ h => simp [ih h]
        rename_i a ob ks _
        have := hl r'
        rw [hm, ← this] at qq
        exact d_len I (.inr ⟨_, hx⟩) fun t s' I' => ⟨.int ks.length, H, I', ⟨t, rfl⟩, qq⟩
      | _ => simp [lenD] at e
    | [], e => simp [bfD] at e
    | _ :: _ :: _, e => simp [bfD] at e
  | int =>
    match ds, e with
    | [.int i], e =>
      obtain ⟨x, rfl, hx⟩ := rd.one
      cases hx
      simp only [bfD, Option.some.injEq] at e; subst e
      exact call_int1 pins s σ H _ us Q I r (.inl ⟨i, rfl, k _ _ (sa.dat (.int _))⟩)
    | [.bool b], e =>
      obtain ⟨x, rfl, hx⟩ := rd.one
      cases hx
      simp only [bfD, Option.some.injEq] at e; subst e
      exact call_int1 pins s σ H _ us Q I r (.inr ⟨b, rfl, k _ _ (sa.dat (.int _))⟩)
    | [], e => simp [bfD] at e
    | [.none], e => simp [bfD] at e
    | [.str _], e => simp [bfD] at e
    | [.list _], e => simp [bfD] at e
    | [.tuple _], e => simp [bfD] at e
    | [.dict _], e => simp [bfD] at e
    | _ :: _ :: _, e => simp [bfD] at e
  | abs =>
    match ds, e with
    | [.int i], e =>
      obtain ⟨x, rfl, hx⟩ := rd.one
      cases hx
      simp only [bfD, Option.some.injEq] at e; subst e
      exact call_abs pins s σ H _ us Q I r ⟨i, rfl, k _ _ (sa.dat (.int _))⟩
    | [], e => simp [bfD] at e
    | [.none], e => simp [bfD] at e
    | [.bool _], e => simp [bfD] at e
    | [.str _], e => simp [bfD] at e
    | [.list _], e => simp [bfD] at e
    | [.tuple _], e => simp [bfD] at e
    | [.dict _], e => simp [bfD] at e
    | _ :: _ :: _, e => simp [bfD] at e
  | min =>
    match ds, e with
    | [.list ds], e2 =>
      obtain ⟨x, rfl, hx⟩ := rd.one
      cases hx with
      | lst hx z r' =>
      simp only [bfD, Option.map_eq_some_iff] at e2
      obtain ⟨d, e3, rfl⟩ := e2
      obtain ⟨u, rfl, rx⟩ := vals1 r
      cases rx
      exact (seq_of hr I (.inl hx.sq) r').1 e3 fun v hv => k v H (sa.dat hv)
    | [.tuple ds], e2 =>
      obtain ⟨x, rfl, hx⟩ := rd.one
      cases hx with
      | tup hx z r' =>
      simp only [bfD, Option.map_eq_some_iff] at e2
      obtain ⟨d, e3, rfl⟩ := e2
      obtain ⟨u, rfl, rx⟩ := vals1 r
      cases rx
      exact (seq_of hr I (.inr hx.sq) r').1 e3 fun v hv => k v H (sa.dat hv)
    | [], e => simp [bfD] at e
    | [.none], e => simp [bfD] at e
    | [.bool _], e => simp [bfD] at e
    | [.int _], e => simp [bfD] at e
    | [.str _], e => simp [bfD] at e
    | [.dict _], e => simp [bfD] at e
    | a :: b :: c :: d, e => simp [bfD] at e
    | [a, b], e2 =>
      obtain ⟨x, y, rfl, hx, hy⟩ := rd.two
      cases a with
      | int i =>
        cases b with
        | int j =>
          cases hx; cases hy
          simp only [bfD, Option.some.injEq] at e2; subst e2
          exact call_min2 hc pins s σ H _ us Q I r ⟨i, j, rfl, k _ _ (sa.dat (.int _))⟩
        | _ => simp [bfD] at e2
      | _ => cases b <;> simp [bfD] at e2
  | max =>
    match ds, e with
    | [.list ds], e2 =>
      obtain ⟨x, rfl, hx⟩ := rd.one
      cases hx with
      | lst hx z r' =>
      simp only [bfD, Option.map_eq_some_iff] at e2
      obtain ⟨d, e3, rfl⟩ := e2
      obtain ⟨u, rfl, rx⟩ := vals1 r
      cases rx
      exact (seq_of hr I (.inl hx.sq) r').2 e3 fun v hv => k v H (sa.dat hv)
    | [.tuple ds], e2 =>
      obtain ⟨x, rfl, hx⟩ := rd.one
      cases hx with
      | tup hx z r' =>
      simp only [bfD, Option.map_eq_some_iff] at e2
      obtain ⟨d, e3, rfl⟩ := e2
      obtain ⟨u, rfl, rx⟩ := vals1 r
      cases rx
      exact (seq_of hr I (.inr hx.sq) r').2 e3 fun v hv => k v H (sa.dat hv)
    | [], e => simp [bfD] at e
    | [.none], e => simp [bfD] at e
    | [.bool _], e => simp [bfD] at e
    | [.int _], e => simp [bfD] at e
    | [.str _], e => simp [bfD] at e
    | [.dict _], e => simp [bfD] at e
    | a :: b :: c :: d, e => simp [bfD] at e
    | [a, b], e2 =>
      obtain ⟨x, y, rfl, hx, hy⟩ := rd.two
      cases a with
      | int i =>
        cases b with
        | int j =>
          cases hx; cases hy
          simp only [bfD, Option.some.injEq] at e2; subst e2
          exact call_max2 hc pins s σ H _ us Q I r ⟨i, j, rfl, k _ _ (sa.dat (.int _))⟩
        | _ => simp [bfD] at e2
      | _ => cases b <;> simp [bfD] at e2
  | sum =>
    match ds, e with
    | [.list ds], e2 =>
      obtain ⟨x, rfl, hx⟩ := rd.one
      cases hx with
      | lst hx z r' =>
      simp only [bfD, Option.map_eq_some_iff] at e2
      obtain ⟨m, e3, rfl⟩ := e2
      obtain ⟨ns, rfl, rfl⟩ := ints_of r' e3
      exact cr_sum hc pins s σ H _ us Q I r ⟨_, ns, rfl, hx.sq, k _ _ (by simpa using sa.dat (.int _))⟩
    | [], e => simp [bfD] at e
    | [.none], e => simp [bfD] at e
    | [.bool _], e => simp [bfD] at e
    | [.int _], e => simp [bfD] at e
    | [.str _], e => simp [bfD] at e
    | [.tuple _], e => simp [bfD] at e
    | [.dict _], e => simp [bfD] at e
    | _ :: _ :: _, e => simp [bfD] at e
  | any =>
    match ds, e with
    | [.list ds], e2 =>
      obtain ⟨x, rfl, hx⟩ := rd.one
      cases hx with
      | lst hx z r' =>
      simp only [bfD, Option.map_eq_some_iff] at e2
      obtain ⟨m, e3, rfl⟩ := e2
      have e4 := bools_of r' e3
      subst e4
      exact cr_any hc pins s σ H _ us Q I r ⟨_, m, rfl, hx.sq, k _ _ (sa.dat (.bl _))⟩
    | [], e => simp [bfD] at e
    | [.none], e => simp [bfD] at e
    | [.bool _], e => simp [bfD] at e
    | [.int _], e => simp [bfD] at e
    | [.str _], e => simp [bfD] at e
    | [.tuple _], e => simp [bfD] at e
    | [.dict _], e => simp [bfD] at e
    | _ :: _ :: _, e => simp [bfD] at e
  | all =>
    match ds, e with
    | [.list ds], e2 =>
      obtain ⟨x, rfl, hx⟩ := rd.one
      cases hx with
      | lst hx z r' =>
      simp only [bfD, Option.map_eq_some_iff] at e2
      obtain ⟨m, e3, rfl⟩ := e2
      have e4 := bools_of r' e3
      subst e4
      exact cr_all hc pins s σ H _ us Q I r ⟨_, m, rfl, hx.sq, k _ _ (sa.dat (.bl _))⟩
    | [], e => simp [bfD] at e
    | [.none], e => simp [bfD] at e
    | [.bool _], e => simp [bfD] at e
    | [.int _], e => simp [bfD] at e
    | [.str _], e => simp [bfD] at e
    | [.tuple _], e => simp [bfD] at e
    | [.dict _], e => simp [bfD] at e
    | _ :: _ :: _, e => simp [bfD] at e
  | sorted =>
    match ds, e with
    | [.list ds], e2 =>
      obtain ⟨x, rfl, hx⟩ := rd.one
      cases hx with
      | lst hx z r' =>
      simp only [bfD, Option.map_eq_some_iff] at e2
      obtain ⟨m, e3, rfl⟩ := e2
      obtain ⟨hs, rfl⟩ := sorted_seq e3
      obtain ⟨u, rfl, rx⟩ := vals1 r
      cases rx
      refine sort_list hr I hx.sq z r' hs fun p ys hp ry => k _ _ (res_lst sa ry ?_ hp)
      rw [ry.length, isort_length, ← r'.length]; exact z
    | [.dict kvs], e2 =>
      obtain ⟨x, rfl, hx⟩ := rd.one
      exfalso
      cases hx with
      | exc h g => simp [bfD] at e2
      | dct hx _ r' =>
      unfold bfD at e2
      split at e2 <;> rename_i h1 <;> first | (simp at h1; done) | skip
      all_goals first | (cases e2; done) | skip
      all_goals (simp only [List.cons.injEq, PyData.dict.injEq, and_true] at *; first | (rename_i h2; subst h2; exact r'.noSet) | (subst_vars; exact r'.noSet) | simp_all)
    | [], e => simp [bfD] at e
    | [.none], e => simp [bfD] at e
    | [.bool _], e => simp [bfD] at e
    | [.int _], e => simp [bfD] at e
    | [.str _], e => simp [bfD] at e
    | [.tuple _], e => simp [bfD] at e
    | _ :: _ :: _, e => simp [bfD] at e
  | list =>
    match ds, e with
    | [.list ds], e =>
      obtain ⟨x, rfl, hx⟩ := rd.one
      cases hx with
      | lst hx z r' =>
      simp only [bfD, Option.some.injEq] at e; subst e
      exact call_list_of pins s σ H _ us Q I r ⟨_, _, rfl, .inl hx.sq, fun p hp => k _ _ (res_lst sa r' z hp)⟩
    | [.tuple ds], e =>
      obtain ⟨x, rfl, hx⟩ := rd.one
      cases hx with
      | tup hx z r' =>
      simp only [bfD, Option.some.injEq] at e; subst e
      exact call_list_of pins s σ H _ us Q I r ⟨_, _, rfl, .inr hx.sq, fun p hp => k _ _ (res_lst sa r' z hp)⟩
    | [.str z], e =>
      obtain ⟨x, rfl, hx⟩ := rd.one
      cases hx with
      | str _ h1 h2 =>
      simp only [bfD, Option.some.injEq] at e; subst e
      refine call_listS hr pins s σ H _ us Q I r ⟨z, rfl, by omega, fun p hp => k _ _ (res_lst sa (signs_rd h1) ?_ hp)⟩
      rw [List.length_map]; exact h2
    | [], e => simp [bfD] at e
    | [.none], e => simp [bfD] at e
    | [.bool _], e => simp [bfD] at e
    | [.int _], e => simp [bfD] at e
    | [.dict _], e => simp [bfD] at e
    | _ :: _ :: _, e => simp [bfD] at e
  | tuple =>
    match ds, e with
    | [.list ds], e =>
      obtain ⟨x, rfl, hx⟩ := rd.one
      cases hx with
      | lst hx z r' =>
      simp only [bfD, Option.some.injEq] at e; subst e
      exact call_tuple_of pins s σ H _ us Q I r ⟨_, _, rfl, .inl ⟨hx.sq, fun p hp => k _ _ (res_tup sa r' z hp)⟩⟩
    | [.tuple ds], e =>
      obtain ⟨x, rfl, hx⟩ := rd.one
      cases hx with
      | tup hx z r' =>
      simp only [bfD, Option.some.injEq] at e; subst e
      exact call_tuple_of pins s σ H _ us Q I r ⟨_, _, rfl, .inr ⟨hx.sq, k _ _ (sa.dat (.tup hx z r'))⟩⟩
    | [], e => simp [bfD] at e
    | [.none], e => simp [bfD] at e
    | [.bool _], e => simp [bfD] at e
    | [.int _], e => simp [bfD] at e
    | [.str x], e =>
      obtain ⟨x', rfl, hx⟩ := rd.one
      simp only [bfD, Option.some.injEq] at e; subst e
      cases hx with
      | str _ hs hz =>
        refine call_tupS hr pins s σ H _ us Q I r ⟨x, rfl, by rw [← tl]; exact hz, fun p hp => k _ _ (res_tup sa (signs_rd hs) ?_ hp)⟩
        rw [List.length_map]; exact hz
    | [.dict _], e => simp [bfD] at e
    | _ :: _ :: _, e => simp [bfD] at e
end
end Ur
end
section
set_option linter.all false
set_option autoImplicit false
set_option maxRecDepth 10000
/-! UrS1: data that may stand in a set: their hashes, their looks. -/
namespace Ur
open PySem L2 PyProof.Rows

mutual
def hashD (w : World) : D → Int
  | .int i => hashInt i
  | .str x => hashStr w x
  | .tuple xs => reduceHash (Builtin.Tuple.tupleHashOf (hashes w xs))
  | _ => 0
def hashes (w : World) : List D → List Int
  | [] => []
  | x :: r => hashD w x :: hashes w r
end
theorem hashes_app (w : World) : ∀ a b : List D, hashes w (a ++ b) = hashes w a ++ hashes w b
  | [], b => rfl
  | x :: a, b => by
    show hashes w (x :: (a ++ b)) = _
    rw [hashes, hashes_app w a b]; rfl
mutual
theorem mem_nil {h : Heap} : ∀ (d : D) {v : Value} {as : List Addr}, memOk d = true → Reads h v d as → as = []
  | .int _, _, _, m, r => by cases r; rfl
  | .str _, _, _, m, r => by cases r; rfl
  | .tuple xs, _, _, m, r => by
    cases r with
    | tuple h1 h2 h3 h4 => exact memAll_nil xs (by simpa [memOk] using m) h4
  | .none, _, _, m, _ => by simp [memOk] at m
  | .bool _, _, _, m, _ => by simp [memOk] at m
  | .list _, _, _, m, _ => by simp [memOk] at m
  | .dict _, _, _, m, _ => by simp [memOk] at m
theorem memAll_nil {h : Heap} : ∀ (ds : List D) {vs : List Value} {as : List Addr}, memAll ds = true → ReadsAll h vs ds as → as = []
  | [], _, _, m, r => by cases r; rfl
  | d :: ds, _, _, m, r => by
    simp only [memAll, Bool.and_eq_true] at m
    cases r with
    | cons h1 h2 => rw [mem_nil d m.1 h1, memAll_nil ds m.2 h2]; rfl
end
theorem memAll_mem : ∀ {ds : List D}, memAll ds = true → ∀ d ∈ ds, memOk d = true
  | [], _, d, h => by cases h
  | x :: r, m, d, h => by
    simp only [memAll, Bool.and_eq_true] at m
    rcases List.mem_cons.mp h with rfl | h
    · exact m.1
    · exact memAll_mem m.2 d h
theorem depth_mem : ∀ {ds : List D}, ∀ d ∈ ds, d.depth ≤ PyData.depthAll ds
  | [], d, h => by cases h
  | x :: r, d, h => by
    rw [PyData.depthAll]
    rcases List.mem_cons.mp h with rfl | h
    · omega
    · have := depth_mem d h
      omega
section
variable {P : Program} {w : World}
def HashAt (P : Program) (w : World) (d : D) : Prop := ∀ (A : Around) (E : Value → Shared → Prop) (s : Shared) (v : Value) (Q : Int → Shared → Prop), memOk d = true → Reads s.heap v d [] → A.units + d.depth < cLine →
  (∀ tk, s.toks ≤ tk → Q (hashD w d) { s with toks := tk }) → wpAny (model P w) A (pyHash v) Q E s
theorem reads_items {h : Heap} {v : Value} {xs : List D} {as : List Addr} (r : Reads h v (.tuple xs) as) : ∃ a o its n, v = .ref a ∧ h.get? a = some o ∧ o.cls = .type "tuple" ∧ o.data = .seq its n ∧ ReadsAll h its.toList xs as := by
  cases r with
  | tuple h1 h2 h3 h4 => exact ⟨_, _, _, _, rfl, h1, h2, h3, h4⟩
theorem nil_app {a b : List Addr} (h : a ++ b = []) : a = [] ∧ b = [] := List.append_eq_nil_iff.mp h
theorem all_cons {h : Heap} {v : Value} {vs : List Value} {xs : List D} (r : ReadsAll h (v :: vs) xs []) : ∃ d ds, xs = d :: ds ∧ Reads h v d [] ∧ ReadsAll h vs ds [] := by
  generalize e : ([] : List Addr) = as at r
  cases r with
  | cons h1 h2 =>
    obtain ⟨rfl, rfl⟩ := nil_app e.symm
    exact ⟨_, _, rfl, h1, h2⟩
theorem hash_tup {xs : List D} (ih : ∀ d ∈ xs, HashAt P w d) : HashAt P w (.tuple xs) := by
  intro A E s v Q m r hu q
  have mm : memAll xs = true := by simpa [memOk] using m
  obtain ⟨a, o, its, n, rfl, ho, hc, hd, hi⟩ := reads_items r
  have hT : s.TypeIs (.ref a) "tuple" := ⟨o, ho, hc⟩
  have hu1 : A.units < cLine := by omega
  unfold pyHash
  first | unfold pyHashByItsType | skip
  first | refine wpAny_bind (wpAny_cRoomFor_or (.inr hu1) ?_) | skip
  refine wpAny_bind (wpAny_specialOf hT F.slot_tuple_hash.lookup ?_)
  refine wp_if_neg (by rw [beq_builtin_none]; exact Bool.false_ne_true) ?_
  refine wpAny_bind (wpAny_specialOf hT F.slot_tuple_hash.lookup ?_)
  show wpAny _ _ (callSpecialIfBoundUnlessNone? (.ref a) "__hash__" _ >>= _) Q E s
  refine wpAny_bind (wpAny_callSpecialIfBoundUnlessNone?_slot hT F.slot_tuple_hash (wpAny_call_entry F.slot_tuple_hash hT F.entry_tuple_hash ?_ (F.args_tuple_hash_1 _)))
  show wpAny _ _ (Builtin.Tuple.tupleItemsOf (.ref a) >>= _) _ _ s
  refine wpAny_bind (wpAny_tupleItemsOf ho hd ?_)
  refine wpAny_bind ?_
  rw [← Array.forIn_toList]
  have dp : ∀ d ∈ xs, A.in1.units + d.depth < cLine := fun d hd => by
    have h1 := depth_mem d hd
    have h2 : (PyData.tuple xs).depth = PyData.depthAll xs + 1 := by rw [PyData.depth]
    have h3 : A.in1.units = A.units + 1 := rfl
    omega
  refine wpAny_forIn_list _ (fun todo (b : Array Int) s1 => ∃ ds es tk, xs = ds ++ es ∧ ReadsAll s.heap todo es [] ∧ b.toList = hashes w ds ∧ s1 = { s with toks := tk } ∧ s.toks ≤ tk) _ ?_ ?_ _ _ ⟨[], xs, s.toks, rfl, hi, rfl, rfl, Nat.le_refl _⟩
  · rintro u todo b s1 ⟨ds, es, tk, rfl, hl, hb, rfl, ht⟩
    obtain ⟨d, fs, rfl, h1, h2⟩ := all_cons hl
    have hm : d ∈ ds ++ d :: fs := by simp
    refine wpAny_bind (ih d hm _ _ _ _ _ (memAll_mem mm d hm) h1 (dp d hm) fun tk2 ht2 => ?_)
    first
      | exact wpAny_pure ⟨ds ++ [d], fs, tk2, by simp, h2, by simp [hb, hashes_app, hashes], rfl, Nat.le_trans ht ht2⟩
      | exact wpAny_bind (wpAny_pure (wpAny_pure ⟨ds ++ [d], fs, tk2, by simp, h2, by simp [hb, hashes_app, hashes], rfl, Nat.le_trans ht ht2⟩))
  · rintro b s1 ⟨ds, es, tk, e, hl, hb, rfl, ht⟩
    cases hl
    rw [List.append_nil] at e
    subst e
    have q1 := fun k (hk : tk ≤ k) => q k (Nat.le_trans ht hk)
    rw [hashD] at q1
    show wpAny _ _ (retInt (Builtin.Tuple.tupleHashOf b.toList)) _ _ _
    rw [hb]
    refine wpAny_ret_mkInt ?_
    unfold reduceHash at q1
    by_cases c : (decide (-(2 : Int) ^ 63 ≤ Builtin.Tuple.tupleHashOf (hashes w xs)) && decide (Builtin.Tuple.tupleHashOf (hashes w xs) < 2 ^ 63)) = true
    · have q2 := q1 (tk + 1) (Nat.le_succ _)
      rw [if_pos c] at q2
      refine wp_if_pos c ?_
      exact wpAny_pure q2
    · have q2 := q1 (tk + 1) (Nat.le_succ _)
      rw [if_neg c] at q2
      refine wp_if_neg c ?_
      exact wpAny_bind (wpAny_rule (wpAny_pure q2))
mutual
theorem hash_at : ∀ d : D, HashAt P w d
  | .int i => fun A E s v Q m r hu q => by
    cases r
    exact wpAny_pyHash_int (q _ (Nat.le_succ _))
  | .str x => fun A E s v Q m r hu q => by
    cases r
    exact wpAny_pyHash_str (q _ (Nat.le_succ _))
  | .tuple xs => hash_tup (hashAll_at xs)
  | .none => fun A E s v Q m r hu q => by simp [memOk] at m
  | .bool _ => fun A E s v Q m r hu q => by simp [memOk] at m
  | .list _ => fun A E s v Q m r hu q => by simp [memOk] at m
  | .dict _ => fun A E s v Q m r hu q => by simp [memOk] at m
theorem hashAll_at : ∀ ds : List D, ∀ d ∈ ds, HashAt P w d
  | [], d, h => by cases h
  | x :: r, d, h => by
    rcases List.mem_cons.mp h with e | h
    · rw [e]; exact hash_at x
    · exact hashAll_at r d h
end
end
end Ur
end
section
set_option linter.all false
set_option autoImplicit false
set_option maxRecDepth 10000
/-! UrS2: data that may stand in a set: equality, the small questions. -/
namespace Ur
open PySem L2 PyProof.Rows

mutual
theorem eqv_mem : ∀ (a b : D), memOk a = true → memOk b = true → (PyData.eqv a b = true ↔ a = b)
  | .int i, b, _, m => by cases b <;> first | (simp [memOk] at m; done) | simp [PyData.eqv]
  | .str x, b, _, m => by cases b <;> first | (simp [memOk] at m; done) | simp [PyData.eqv]
  | .tuple xs, b, m1, m2 => by
    cases b with
    | tuple ys =>
      rw [PyData.eqv, PyData.tuple.injEq]
      exact eqvAll_mem xs ys (by simpa [memOk] using m1) (by simpa [memOk] using m2)
    | int i => simp [PyData.eqv]
    | str x => simp [PyData.eqv]
    | none => simp [memOk] at m2
    | bool _ => simp [memOk] at m2
    | list _ => simp [memOk] at m2
    | dict _ => simp [memOk] at m2
  | .none, _, m, _ => by simp [memOk] at m
  | .bool _, _, m, _ => by simp [memOk] at m
  | .list _, _, m, _ => by simp [memOk] at m
  | .dict _, _, m, _ => by simp [memOk] at m
theorem eqvAll_mem : ∀ (a b : List D), memAll a = true → memAll b = true → (PyData.eqvAll a b = true ↔ a = b)
  | [], [], _, _ => by simp [PyData.eqvAll]
  | [], _ :: _, _, _ => by simp [PyData.eqvAll]
  | _ :: _, [], _, _ => by simp [PyData.eqvAll]
  | x :: xs, y :: ys, m1, m2 => by
    simp only [memAll, Bool.and_eq_true] at m1 m2
    rw [PyData.eqvAll, Bool.and_eq_true, eqv_mem x y m1.1 m2.1, eqvAll_mem xs ys m1.2 m2.2, List.cons.injEq]
end
mutual
theorem plain_mem : ∀ d : D, memOk d = true → plainD d = true
  | .int _, _ => rfl
  | .str _, _ => rfl
  | .tuple xs, m => plain_mems xs (by simpa [memOk] using m)
  | .none, m => by simp [memOk] at m
  | .bool _, m => by simp [memOk] at m
  | .list _, m => by simp [memOk] at m
  | .dict _, m => by simp [memOk] at m
theorem plain_mems : ∀ ds : List D, memAll ds = true → plainAll ds = true
  | [], _ => rfl
  | x :: r, m => by
    simp only [memAll, Bool.and_eq_true] at m
    rw [plainAll, plain_mem x m.1, plain_mems r m.2]; rfl
end
/-- what lies at v is the datum d, which may stand in a set -/
structure Mb (h : Heap) (d : D) (v : Value) : Prop where
  ok : memOk d = true
  lay : d.canLay0 = true
  dp : d.depth ≤ 8
  at_ : Reads h v d []
section
variable {P : Program} {w : World} {A : Around} {E : Value → Shared → Prop} {s : Shared}
theorem Mb.inj {h : Heap} {d e : D} {v : Value} (x : Mb h d v) (y : Mb h e v) : d = e := by
  exact SeqAt.Reads.unique d e v [] [] x.lay x.at_ y.at_
theorem Mb.eq {d e : D} {u v : Value} {Q : Bool → Shared → Prop} (x : Mb s.heap d u) (y : Mb s.heap e v) (hu : A.units + 8 < cLine) (q : Q (PyData.eqv d e) s) : wpAny (model P w) A (eqBool u v) Q E s := by
  refine SeqAt.eqAt_reads d e A s u v [] [] x.at_ y.at_ x.lay y.lay ?_ P w E Q q
  have := x.dp
  omega
theorem Mb.hash {d : D} {v : Value} {Q : Int → Shared → Prop} (x : Mb s.heap d v) (hu : A.units + 8 < cLine) (q : ∀ tk, s.toks ≤ tk → Q (hashD w d) { s with toks := tk }) : wpAny (model P w) A (pyHash v) Q E s :=
  hash_at d A E s v Q x.ok x.at_ (by have := x.dp; omega) q
end

/-! ### three small questions -/
def QuAt (P : Program) (w : World) (d : D) : Prop := ∀ (n : Nat) (A : Around) (E : Value → Shared → Prop) (s : Shared) (v : Value) (Q : Bool → Shared → Prop), memOk d = true → Reads s.heap v d [] → d.depth ≤ n → Q true s → wpAny (model P w) A (eqIsQuiet n v) Q E s
def ClAt (P : Program) (w : World) (d : D) : Prop := ∀ (n : Nat) (A : Around) (E : Value → Shared → Prop) (s : Shared) (v : Value) (Q : Bool → Shared → Prop), memOk d = true → Reads s.heap v d [] → d.depth ≤ n → Q false s → wpAny (model P w) A (ofAClassStatement n v) Q E s
def HvAt (P : Program) (w : World) (d : D) : Prop := ∀ (n : Nat) (A : Around) (E : Value → Shared → Prop) (s : Shared) (v : Value) (Q : Bool → Shared → Prop), memOk d = true → Reads s.heap v d [] → d.depth ≤ n → (∀ b, Q b s) → wpAny (model P w) A (hashByValue n v) Q E s
section
variable {P : Program} {w : World}
theorem dep_tup {xs : List D} {n : Nat} (h : (PyData.tuple xs).depth ≤ n) : ∃ m, n = m + 1 ∧ ∀ d ∈ xs, d.depth ≤ m := by
  have h2 : (PyData.tuple xs).depth = PyData.depthAll xs + 1 := by rw [PyData.depth]
  cases n with
  | zero => omega
  | succ m => exact ⟨m, rfl, fun d hd => by have := depth_mem d hd; omega⟩
theorem qu_tup {xs : List D} (ih : ∀ d ∈ xs, QuAt P w d) : QuAt P w (.tuple xs) := by
  intro n A E s v Q m r hn q
  have mm : memAll xs = true := by simpa [memOk] using m
  obtain ⟨a, o, its, c, rfl, ho, hc, hd, hi⟩ := reads_items r
  obtain ⟨n, rfl, hx⟩ := dep_tup hn
  have hT : s.TypeIs (.ref a) "tuple" := ⟨o, ho, hc⟩
  unfold eqIsQuiet
  refine wpAny_bind (wpAny_specialOf hT F.slot_tuple_eq.lookup ?_)
  show wpAny _ _ (isInstance (.ref a) (.type "tuple") >>= _) _ _ s
  refine wpAny_bind (wpAny_isInstance hT isSubtype_tuple_tuple ?_)
  refine wp_if_neg (by decide) ?_
  try refine wpAny_bind (wpAny_pure ?_)
  refine wpAny_bind (wpAny_seqItems ho hd ?_)
  refine wpAny_bind ?_
  show wpAny _ _ (forIn its _ _) _ _ s
  rw [← Array.forIn_toList]
  refine wpAny_forIn_list _ (fun todo r s1 => r.1 = none ∧ s1 = s ∧ ∃ es, ReadsAll s.heap todo es [] ∧ ∀ d ∈ es, d ∈ xs) _ ?_ ?_ _ _ ⟨rfl, rfl, xs, hi, fun d h => h⟩
  · rintro u todo r s1 ⟨hr, rfl, es, hl, he⟩
    obtain ⟨d, fs, rfl, h1, h2⟩ := all_cons hl
    have hm := he d List.mem_cons_self
    refine wpAny_bind (ih d hm n _ _ _ _ _ (memAll_mem mm d hm) h1 (hx d hm) ?_)
    refine wp_if_neg (by decide) ?_
    exact wpAny_pure ⟨rfl, rfl, fs, h2, fun e h => he e (List.mem_cons_of_mem _ h)⟩
  · rintro ⟨r1, r2⟩ s1 ⟨hr, rfl, _⟩
    cases hr
    exact wpAny_pure q
theorem cl_tup {xs : List D} (ih : ∀ d ∈ xs, ClAt P w d) : ClAt P w (.tuple xs) := by
  intro n A E s v Q m r hn q
  have mm : memAll xs = true := by simpa [memOk] using m
  obtain ⟨a, o, its, c, rfl, ho, hc, hd, hi⟩ := reads_items r
  obtain ⟨n, rfl, hx⟩ := dep_tup hn
  have hT : s.TypeIs (.ref a) "tuple" := ⟨o, ho, hc⟩
  unfold ofAClassStatement
  refine wpAny_bind (wpAny_typeOf hT ?_)
  dsimp only
  rw [if_pos (by decide : (("tuple" : String) == "tuple") = true)]
  try refine wpAny_bind (wpAny_pure ?_)
  refine wp_if_neg (by decide) ?_
  try refine wpAny_bind (wpAny_pure ?_)
  show wpAny _ _ (seqItems? (.ref a) >>= _) _ _ s
  refine wpAny_bind (wpAny_seqItems ho hd ?_)
  dsimp only
  refine wpAny_bind ?_
  show wpAny _ _ (forIn its _ _) _ _ s
  rw [← Array.forIn_toList]
  refine wpAny_forIn_list _ (fun todo r s1 => r.1 = none ∧ s1 = s ∧ ∃ es, ReadsAll s.heap todo es [] ∧ ∀ d ∈ es, d ∈ xs) _ ?_ ?_ _ _ ⟨rfl, rfl, xs, hi, fun d h => h⟩
  · rintro u todo r s1 ⟨hr, rfl, es, hl, he⟩
    obtain ⟨d, fs, rfl, h1, h2⟩ := all_cons hl
    have hm := he d List.mem_cons_self
    refine wpAny_bind (ih d hm n _ _ _ _ _ (memAll_mem mm d hm) h1 (hx d hm) ?_)
    refine wp_if_neg (by decide) ?_
    exact wpAny_pure ⟨rfl, rfl, fs, h2, fun e h => he e (List.mem_cons_of_mem _ h)⟩
  · rintro ⟨r1, r2⟩ s1 ⟨hr, rfl, _⟩
    cases hr
    exact wpAny_pure q
theorem hv_tup {xs : List D} (ih : ∀ d ∈ xs, HvAt P w d) : HvAt P w (.tuple xs) := by
  intro n A E s v Q m r hn q
  have mm : memAll xs = true := by simpa [memOk] using m
  obtain ⟨a, o, its, c, rfl, ho, hc, hd, hi⟩ := reads_items r
  obtain ⟨n, rfl, hx⟩ := dep_tup hn
  have hT : s.TypeIs (.ref a) "tuple" := ⟨o, ho, hc⟩
  unfold hashByValue
  refine wpAny_bind (wpAny_specialOf hT F.slot_tuple_hash.lookup ?_)
  show wpAny _ _ (seqItems? (.ref a) >>= _) _ _ s
  refine wpAny_bind (wpAny_seqItems ho hd ?_)
  refine wpAny_bind ?_
  show wpAny _ _ (forIn its _ _) _ _ s
  rw [← Array.forIn_toList]
  refine wpAny_forIn_list _ (fun todo r s1 => r.1 = none ∧ s1 = s ∧ ∃ es, ReadsAll s.heap todo es [] ∧ ∀ d ∈ es, d ∈ xs) _ ?_ ?_ _ _ ⟨rfl, rfl, xs, hi, fun d h => h⟩
  · rintro u todo r s1 ⟨hr, rfl, es, hl, he⟩
    obtain ⟨d, fs, rfl, h1, h2⟩ := all_cons hl
    have hm := he d List.mem_cons_self
    refine wpAny_bind (ih d hm n _ _ _ _ _ (memAll_mem mm d hm) h1 (hx d hm) fun b => ?_)
    cases b
    · refine wp_if_pos (by decide) ?_
      exact wpAny_pure (wpAny_pure (q false))
    · refine wp_if_neg (by decide) ?_
      exact wpAny_pure ⟨rfl, rfl, fs, h2, fun e h => he e (List.mem_cons_of_mem _ h)⟩
  · rintro ⟨r1, r2⟩ s1 ⟨hr, rfl, _⟩
    cases hr
    exact wpAny_pure (q true)
mutual
theorem qu_at : ∀ d : D, QuAt P w d
  | .int _ => fun n A E s v Q m r hn q => by cases r; rw [eqIsQuiet_byValue n rfl]; exact wpAny_pure q
  | .str _ => fun n A E s v Q m r hn q => by cases r; rw [eqIsQuiet_byValue n rfl]; exact wpAny_pure q
  | .tuple xs => qu_tup (quAll_at xs)
  | .none => fun n A E s v Q m r hn q => by simp [memOk] at m
  | .bool _ => fun n A E s v Q m r hn q => by simp [memOk] at m
  | .list _ => fun n A E s v Q m r hn q => by simp [memOk] at m
  | .dict _ => fun n A E s v Q m r hn q => by simp [memOk] at m
theorem quAll_at : ∀ ds : List D, ∀ d ∈ ds, QuAt P w d
  | [], d, h => by cases h
  | x :: r, d, h => by
    rcases List.mem_cons.mp h with e | h
    · rw [e]; exact qu_at x
    · exact quAll_at r d h
end
mutual
theorem cl_at : ∀ d : D, ClAt P w d
  | .int _ => fun n A E s v Q m r hn q => by cases r; cases n <;> exact wpAny_pure q
  | .str _ => fun n A E s v Q m r hn q => by cases r; cases n <;> exact wpAny_pure q
  | .tuple xs => cl_tup (clAll_at xs)
  | .none => fun n A E s v Q m r hn q => by simp [memOk] at m
  | .bool _ => fun n A E s v Q m r hn q => by simp [memOk] at m
  | .list _ => fun n A E s v Q m r hn q => by simp [memOk] at m
  | .dict _ => fun n A E s v Q m r hn q => by simp [memOk] at m
theorem clAll_at : ∀ ds : List D, ∀ d ∈ ds, ClAt P w d
  | [], d, h => by cases h
  | x :: r, d, h => by
    rcases List.mem_cons.mp h with e | h
    · rw [e]; exact cl_at x
    · exact clAll_at r d h
end
mutual
theorem hv_at : ∀ d : D, HvAt P w d
  | .int _ => fun n A E s v Q m r hn q => by cases r; cases n <;> exact wpAny_pure (q true)
  | .str _ => fun n A E s v Q m r hn q => by cases r; cases n <;> exact wpAny_pure (q false)
  | .tuple xs => hv_tup (hvAll_at xs)
  | .none => fun n A E s v Q m r hn q => by simp [memOk] at m
  | .bool _ => fun n A E s v Q m r hn q => by simp [memOk] at m
  | .list _ => fun n A E s v Q m r hn q => by simp [memOk] at m
  | .dict _ => fun n A E s v Q m r hn q => by simp [memOk] at m
theorem hvAll_at : ∀ ds : List D, ∀ d ∈ ds, HvAt P w d
  | [], d, h => by cases h
  | x :: r, d, h => by
    rcases List.mem_cons.mp h with e | h
    · rw [e]; exact hv_at x
    · exact hvAll_at r d h
end
section
variable {A : Around} {E : Value → Shared → Prop} {s : Shared}
theorem wp_both {α : Type} {M : Model} {c : Prop} [Decidable c] {x y : Sem α} {Q : α → Shared → Prop} (h1 : wpAny M A x Q E s) (h2 : wpAny M A y Q E s) : wpAny M A (if c then x else y) Q E s := by
  split
  · exact h1
  · exact h2
/-- a search among tuples tells nothing -/
theorem seen_mb {d : D} {v : Value} {Q : Bool → Shared → Prop} (x : Mb s.heap d v) {us : List Value} (hy : ∀ u ∈ us, ∃ e, Mb s.heap e u) (q : Q false s) : wpAny (model P w) A (searchCouldBeSeen v us) Q E s := by
  unfold searchCouldBeSeen
  refine wpAny_bind ?_
  refine wpAny_forIn_list _ (fun todo r s1 => r.1 = none ∧ s1 = s ∧ ∀ u ∈ todo, u ∈ us) _ ?_ ?_ _ _ ⟨rfl, rfl, fun u h => h⟩
  · rintro u todo r s1 ⟨hr, rfl, hall⟩
    obtain ⟨e, y⟩ := hy u (hall u List.mem_cons_self)
    have more : ∀ t ∈ todo, t ∈ us := fun t h => hall t (List.mem_cons_of_mem _ h)
    refine wp_both ?_ ?_
    · exact wpAny_pure ⟨rfl, rfl, more⟩
    · refine wpAny_bind (qu_at d 8 _ _ _ _ _ x.ok x.at_ x.dp ?_)
      refine wp_if_neg (by decide) ?_
      refine wpAny_bind (qu_at e 8 _ _ _ _ _ y.ok y.at_ y.dp ?_)
      refine wp_if_neg (by decide) ?_
      refine wpAny_bind (cl_at d 8 _ _ _ _ _ x.ok x.at_ x.dp ?_)
      refine wp_if_neg (by decide) ?_
      refine wpAny_bind (cl_at e 8 _ _ _ _ _ y.ok y.at_ y.dp ?_)
      refine wp_if_neg (by decide) ?_
      exact wpAny_pure ⟨rfl, rfl, more⟩
  · rintro ⟨r1, r2⟩ s1 ⟨hr, rfl, _⟩
    cases hr
    exact wpAny_pure q
end
end
end Ur
end
section
set_option linter.all false
set_option autoImplicit false
set_option maxRecDepth 10000
/-! UrS8: the order of data that may stand in a set. -/
namespace Ur
open PySem
theorem row_nil (y : D) (ys : List D) : PySem.W.rowLt [] (y :: ys) = true := by
  unfold PySem.W.rowLt
  rw [PySem.W.toks_all_cons]
  simp only [PySem.W.keyToksAll]
  rw [PyProof.Rows.lex_diff (O := PyProof.Rows.itemOrd) (by simp)]
  rfl
theorem row_cons0 (y : D) (ys : List D) : PySem.W.rowLt (y :: ys) [] = false := by
  unfold PySem.W.rowLt
  rw [PySem.W.toks_all_cons]
  simp only [PySem.W.keyToksAll]
  rw [PyProof.Rows.lex_diff (O := PyProof.Rows.itemOrd) (by simp)]
  rfl
theorem row_cons {x y : D} (h : PySem.W.alike x y = true) (xs ys : List D) : PySem.W.rowLt (x :: xs) (y :: ys) = if PyData.eqv x y = true then PySem.W.rowLt xs ys else PySem.W.dataLt x y := PySem.W.dataLt_cons h xs ys
theorem lt_tup (xs ys : List D) : PySem.W.dataLt (.tuple xs) (.tuple ys) = PySem.W.rowLt xs ys := PySem.W.dataLt_tuple xs ys
theorem str_ext {x y : Str} (h : x.cps.toList = y.cps.toList) : x = y := by
  cases x; cases y
  simpa using h
mutual
theorem tri : ∀ (x y : D), memOk x = true → memOk y = true → PySem.W.alike x y = true → PySem.W.dataLt x y = false → PySem.W.dataLt y x = false → x = y
  | .int i, y, _, m, al, h1, h2 => by
    cases y <;> first | (simp [memOk] at m; done) | (simp [PySem.W.alike] at al; done) | skip
    rw [PySem.W.dataLt_int, decide_eq_false_iff_not] at h1 h2
    rw [PyData.int.injEq]
    omega
  | .str x, y, _, m, al, h1, h2 => by
    cases y <;> first | (simp [memOk] at m; done) | (simp [PySem.W.alike] at al; done) | skip
    rw [PySem.W.dataLt_str, decide_eq_false_iff_not] at h1 h2
    rw [PyData.str.injEq]
    exact str_ext (List.le_antisymm (List.not_lt.mp h2) (List.not_lt.mp h1))
  | .tuple xs, y, m1, m, al, h1, h2 => by
    cases y <;> first | (simp [memOk] at m; done) | (simp [PySem.W.alike] at al; done) | skip
    rw [lt_tup] at h1 h2
    rw [PyData.tuple.injEq]
    exact tris xs _ (by simpa [memOk] using m1) (by simpa [memOk] using m) (by simpa [PySem.W.alike] using al) h1 h2
  | .none, _, m, _, _, _, _ => by simp [memOk] at m
  | .bool _, _, m, _, _, _, _ => by simp [memOk] at m
  | .list _, _, m, _, _, _, _ => by simp [memOk] at m
  | .dict _, _, m, _, _, _, _ => by simp [memOk] at m
theorem tris : ∀ (xs ys : List D), memAll xs = true → memAll ys = true → PySem.W.alikeAll xs ys = true → PySem.W.rowLt xs ys = false → PySem.W.rowLt ys xs = false → xs = ys
  | [], [], _, _, _, _, _ => rfl
  | [], y :: ys, _, _, _, h, _ => by rw [row_nil] at h; cases h
  | x :: xs, [], _, _, _, _, h => by rw [row_nil] at h; cases h
  | x :: xs, y :: ys, m1, m2, al, h1, h2 => by
    simp only [memAll, PySem.W.alikeAll, Bool.and_eq_true] at m1 m2 al
    have al2 : PySem.W.alike y x = true := by rw [PySem.W.alike_comm]; exact al.1
    rw [row_cons al.1] at h1
    rw [row_cons al2] at h2
    by_cases e : x = y
    · subst e
      have ev : PyData.eqv x x = true := (eqv_mem x x m1.1 m1.1).2 rfl
      rw [if_pos ev] at h1 h2
      rw [tris xs ys m1.2 m2.2 al.2 h1 h2]
    · have e1 : ¬ PyData.eqv x y = true := fun z => e ((eqv_mem x y m1.1 m2.1).1 z)
      have e2 : ¬ PyData.eqv y x = true := fun z => e ((eqv_mem y x m2.1 m1.1).1 z).symm
      rw [if_neg e1] at h1
      rw [if_neg e2] at h2
      exact absurd (tri x y m1.1 m2.1 al.1 h1 h2) e
end
theorem insD_perm (x : D) : ∀ l : List D, (insD x l).Perm (x :: l)
  | [] => .refl _
  | y :: r => by
    rw [insD]
    split
    · exact .refl _
    · exact ((insD_perm x r).cons y).trans (.swap _ _ _)
theorem isort_perm : ∀ l : List D, (isort l).Perm l
  | [] => .refl _
  | x :: r => (insD_perm x (isort r)).trans ((isort_perm r).cons x)
/-- two sorted rows with the same members are one -/
theorem sorted_uniq {l m : List D} (hl : l.Pairwise fun a b => leD a b = true) (hm : m.Pairwise fun a b => leD a b = true) (p : l.Perm m) (ok : ∀ d ∈ l, memOk d = true) (al : ∀ d ∈ l, ∀ e ∈ l, PySem.W.alike d e = true) : l = m := by
  induction l generalizing m with
  | nil => rw [List.nil_perm.mp p]
  | cons x l ih =>
    cases m with
    | nil => exact absurd p.length_eq (by simp)
    | cons y m =>
      obtain ⟨a1, a2⟩ := List.pairwise_cons.mp hl
      obtain ⟨b1, b2⟩ := List.pairwise_cons.mp hm
      have hy : y ∈ x :: l := p.mem_iff.mpr List.mem_cons_self
      have e : x = y := by
        rcases List.mem_cons.mp hy with e | hy'
        · exact e.symm
        · have hx : x ∈ y :: m := p.mem_iff.mp List.mem_cons_self
          rcases List.mem_cons.mp hx with e | hx'
          · exact e
          · have c1 := a1 y hy'
            have c2 := b1 x hx'
            simp only [leD, Bool.not_eq_true'] at c1 c2
            exact tri x y (ok x List.mem_cons_self) (ok y hy) (al x List.mem_cons_self y hy) c2 c1
      subst e
      rw [ih a2 b2 (List.Perm.cons_inv p) (fun d h => ok d (List.mem_cons_of_mem _ h)) (fun d h e g => al d (List.mem_cons_of_mem _ h) e (List.mem_cons_of_mem _ g))]
theorem isort_of {l m : List D} (p : l.Perm m) (ok : ∀ d ∈ l, memOk d = true) (al : ∀ d ∈ l, ∀ e ∈ l, PySem.W.alike d e = true) : isort l = isort m :=
  sorted_uniq (isort_sorted l) (isort_sorted m) ((isort_perm l).trans (p.trans (isort_perm m).symm)) (fun d h => ok d ((isort_perm l).mem_iff.mp h)) fun d h e g => al d ((isort_perm l).mem_iff.mp h) e ((isort_perm l).mem_iff.mp g)
theorem isort_id {l : List D} (h : l.Pairwise fun a b => leD a b = true) (ok : ∀ d ∈ l, memOk d = true) (al : ∀ d ∈ l, ∀ e ∈ l, PySem.W.alike d e = true) : isort l = l :=
  sorted_uniq (isort_sorted l) h (isort_perm l) (fun d h => ok d ((isort_perm l).mem_iff.mp h)) fun d h e g => al d ((isort_perm l).mem_iff.mp h) e ((isort_perm l).mem_iff.mp g)
/-- what dedup leaves -/
theorem dedup_mem : ∀ (l acc : List D), (∀ d ∈ l, memOk d = true) → (∀ d ∈ acc, memOk d = true) → acc.Nodup → (dedup acc l).Nodup ∧ ∀ d, d ∈ dedup acc l ↔ d ∈ acc ∨ d ∈ l
  | [], acc, _, _, nd => ⟨nd, fun d => by simp [dedup]⟩
  | x :: r, acc, ok, ka, nd => by
    have hx := ok x List.mem_cons_self
    have an : anyMem x acc = true ↔ x ∈ acc := by
      unfold anyMem
      rw [List.any_eq_true]
      constructor
      · rintro ⟨z, hz, e⟩
        rw [← (eqv_mem z x (ka z hz) hx).1 e]; exact hz
      · intro h
        exact ⟨x, h, (eqv_mem x x hx hx).2 rfl⟩
    rw [dedup]
    by_cases h : anyMem x acc = true
    · rw [if_pos h]
      obtain ⟨i1, i2⟩ := dedup_mem r acc (fun d g => ok d (List.mem_cons_of_mem _ g)) ka nd
      refine ⟨i1, fun d => ?_⟩
      rw [i2, List.mem_cons]
      constructor
      · rintro (g | g)
        · exact .inl g
        · exact .inr (.inr g)
      · rintro (g | rfl | g)
        · exact .inl g
        · exact .inl (an.1 h)
        · exact .inr g
    · rw [if_neg h]
      have hn : x ∉ acc := fun g => h (an.2 g)
      have nd' : (acc ++ [x]).Nodup := by
        rw [List.nodup_append]
        refine ⟨nd, by simp, fun a ha b hb e => ?_⟩
        rw [List.mem_singleton.mp hb] at e
        exact hn (e ▸ ha)
      obtain ⟨i1, i2⟩ := dedup_mem r (acc ++ [x]) (fun d g => ok d (List.mem_cons_of_mem _ g)) (fun d g => by
        rcases List.mem_append.mp g with g | g
        · exact ka d g
        · rw [List.mem_singleton.mp g]; exact hx) nd'
      refine ⟨i1, fun d => ?_⟩
      rw [i2, List.mem_append, List.mem_singleton, List.mem_cons, or_assoc]
end Ur
end
section
set_option linter.all false
set_option autoImplicit false
set_option maxRecDepth 10000
/-! UrS3: a set of data as it lies; the search of a tuple in it. -/
namespace Ur
open PySem L2 PyProof.Rows

mutual
theorem reads_but {h h' : Heap} {a : Addr} (k : ∀ b o, b ≠ a → h.get? b = some o → h'.get? b = some o) (ha : ∀ o, h.get? a = some o → o.cls ≠ .type "tuple") : ∀ (d : D) (v : Value), memOk d = true → Reads h v d [] → Reads h' v d []
  | .int _, _, _, r => by cases r; exact .int _ _
  | .str _, _, _, r => by cases r; exact .str _ _
  | .tuple xs, _, m, r => by
    cases r with
    | @tuple b o vs n _ _ h1 h2 h3 h4 =>
      have hb : b ≠ a := fun e => ha o (e ▸ h1) h2
      exact .tuple (k _ _ hb h1) h2 h3 (reads_buts k ha xs _ (by simpa [memOk] using m) h4)
  | .none, _, m, _ => by simp [memOk] at m
  | .bool _, _, m, _ => by simp [memOk] at m
  | .list _, _, m, _ => by simp [memOk] at m
  | .dict _, _, m, _ => by simp [memOk] at m
theorem reads_buts {h h' : Heap} {a : Addr} (k : ∀ b o, b ≠ a → h.get? b = some o → h'.get? b = some o) (ha : ∀ o, h.get? a = some o → o.cls ≠ .type "tuple") : ∀ (ds : List D) (vs : List Value), memAll ds = true → ReadsAll h vs ds [] → ReadsAll h' vs ds []
  | [], _, _, r => by cases r; exact .nil
  | d :: ds, vs, m, r => by
    simp only [memAll, Bool.and_eq_true] at m
    cases vs with
    | nil => cases r
    | cons v vs =>
      obtain ⟨d', ds', e, h1, h2⟩ := all_cons r
      cases e
      exact .cons (as := []) (bs := []) (reads_but k ha d v m.1 h1) (reads_buts k ha ds vs m.2 h2)
end
theorem Mb.but {h h' : Heap} {d : D} {v : Value} {a : Addr} (x : Mb h d v) (k : ∀ b o, b ≠ a → h.get? b = some o → h'.get? b = some o) (ha : ∀ o, h.get? a = some o → o.cls ≠ .type "tuple") : Mb h' d v :=
  ⟨x.ok, x.lay, x.dp, reads_but k ha d v x.ok x.at_⟩
theorem Mb.keep {h h' : Heap} {d : D} {v : Value} (x : Mb h d v) (k : ∀ b o, h.get? b = some o → h'.get? b = some o) : Mb h' d v := ⟨x.ok, x.lay, x.dp, Reads.keeps k x.at_⟩
def rowD (w : World) (p : Value × D) : Int × Value := (hashD w p.2, p.1)
/-- the set at a; tuples or else ints and texts -/
structure SetX (w : World) (tp : Bool) (h : Heap) (a : Addr) (L : List (Value × D)) (es : Array (Int × Value)) (ep : Nat) (t : SetTable) : Prop where
  ob : ∃ o, h.get? a = some o ∧ o.ExactSet ∧ o.data = .set es ep t
  rows : es.toList = L.map (rowD w)
  ris : Ris t.place.toList
  fits : t.fits es.size = true
  nd : (L.map (·.2)).Nodup
  mb : ∀ p ∈ L, Mb h p.2 p.1 ∧ tupAny p.2 = tp
  led : w.params.followText "set-order" = true ∨ t.led = true
  few : L.length < 64
  tab : tp = true → TabOk t (L.map fun p => hashD w p.2) ∧ L.length * 5 < t.mask * 3
section
variable {P : Program} {w : World} {A : Around} {E : Value → Shared → Prop} {s : Shared} {tp : Bool} {a : Addr} {L : List (Value × D)} {es : Array (Int × Value)} {ep : Nat} {t : SetTable}
theorem SetX.size {h : Heap} (R : SetX w tp h a L es ep t) : es.size = L.length := by
  have e := congrArg List.length R.rows
  simpa using e
theorem SetX.row {h : Heap} (R : SetX w tp h a L es ep t) {i : Nat} {p : Value × D} (e : L[i]? = some p) : es[i]? = some (hashD w p.2, p.1) := by
  rw [← Array.getElem?_toList, R.rows, List.getElem?_map, e]; rfl
theorem dum (m : Nat) : ∀ (n : Nat) (p : SetTable.Probe), p.dummy = none → (nth m p n).dummy = none
  | 0, p, h => h
  | n + 1, p, h => dum m n (adv m p) (by unfold adv; split <;> exact h)
abbrev pth (m : Nat) (h : Int) (c : Nat) : SetTable.Probe := nth m (runAt m (SetTable.bits h % (m + 1)) (SetTable.bits h)) c
theorem pth_add (m : Nat) (h : Int) (c q : Nat) : nth m (pth m h c) q = pth m h (c + q) := (nth_add m c _ q).symm
/-- from the c-th step of the way on -/
theorem find_from (R : SetX w true s.heap a L es ep t) {v : Value} {d : D} (x : Mb s.heap d v) (hu : A.units + 8 < cLine) {K : Nat} (hf : K < 10 * SetTable.turns t.mask)
    (hK : way t.mask (hashD w d) K ∉ t.place.toList) (hb : ∀ c, c < K → way t.mask (hashD w d) c ∈ t.place.toList) {Q : SetFound → Shared → Prop}
    (hin : d ∈ L.map (·.2) → Q (.there none) s) (hout : d ∉ L.map (·.2) → Q (.free (way t.mask (hashD w d) K) false) s) :
    ∀ (f c : Nat) (st : Option SetTable.Probe), st.getD (t.probeStart (hashD w d)) = pth t.mask (hashD w d) c → c ≤ K → K - c < f →
      (∀ (i : Nat) (p : Value × D), L[i]? = some p → p.2 = d → ∃ c', c ≤ c' ∧ c' < K ∧ t.place.toList[i]? = some (way t.mask (hashD w d) c')) →
      wpAny (model P w) A (setSearchFrom a v (hashD w d) true f st) Q E s := by
  obtain ⟨T, room⟩ := R.tab rfl
  obtain ⟨o, h1, h2, h3⟩ := R.ob
  have pw : ∀ c, (pth t.mask (hashD w d) c).j = way t.mask (hashD w d) c := fun c => rfl
  have hsh : ∀ (i : Nat) (p : Value × D), L[i]? = some p → ((es[i]?.map Prod.fst).getD 0) = hashD w p.2 := fun i p e => by rw [R.row e]; rfl
  intro f
  induction f with
  | zero => intro c st _ _ hc; exact absurd hc (Nat.not_lt_zero _)
  | succ f ih =>
    intro c st hst hcK hcf reach
    rw [setSearchFrom_succ]
    refine wpAny_bind (wpAny_setState_of h1 h3 R.fits ?_)
    dsimp only
    refine wp_if_neg (by unfold SetTable.gaveWay; rw [mask_odd T.mok]; decide) ?_
    try refine wpAny_bind (wpAny_pure ?_)
    have sp := go_spec t T.ris T.dm (fun i => (es[i]?.map Prod.fst).getD 0) (hashD w d) (10 * SetTable.turns t.mask) (K - c) (pth t.mask (hashD w d) c) (dum _ _ _ rfl) (by omega)
      (fun q hq => by rw [pth_add]; exact hb (c + q) (by omega)) (by rw [pth_add, show c + (K - c) = K by omega]; exact hK)
    -- no step before tells of d
    have past : ∀ q, (∀ k' i', k' < q → t.place.toList[i']? = some (nth t.mask (pth t.mask (hashD w d) c) k').j → (fun i => (es[i]?.map Prod.fst).getD 0) i' ≠ hashD w d) → ∀ (i : Nat) (p : Value × D), L[i]? = some p → p.2 = d →
        ∃ c', c + q ≤ c' ∧ c' < K ∧ t.place.toList[i]? = some (way t.mask (hashD w d) c') := fun q hq i p hp hd => by
      obtain ⟨c', g1, g2, g3⟩ := reach i p hp hd
      refine ⟨c', ?_, g2, g3⟩
      rcases Nat.lt_or_ge c' (c + q) with z | z
      · exfalso
        refine hq (c' - c) i (by omega) (by rw [pth_add, show c + (c' - c) = c' by omega]; exact g3) ?_
        show ((es[i]?.map Prod.fst).getD 0) = _
        rw [hsh i p hp, hd]
      · exact z
    rcases sp with ⟨q, i, hq, hi, hh, hno, hpr⟩ | ⟨hno, hpr⟩
    · rw [pth_add] at hi hpr
      rw [pth_add] at hpr
      have pr : t.probe (fun i => (es[i]?.map Prod.fst).getD 0) (hashD w d) (st.getD (t.probeStart (hashD w d))) = some (.candidate (way t.mask (hashD w d) (c + q)) i (pth t.mask (hashD w d) (c + (q + 1)))) := by
        rw [hst]; exact hpr
      rw [pr]
      dsimp only
      have il : i < L.length := by
        have z1 : i < t.place.toList.length := (List.getElem?_eq_some_iff.mp hi).1
        have z2 := T.sz
        rw [List.length_map] at z2
        rw [Array.length_toList] at z1
        omega
      obtain ⟨p, hp⟩ : ∃ p, L[i]? = some p := ⟨_, List.getElem?_eq_getElem il⟩
      have pm := List.mem_of_getElem? hp
      have pb := (R.mb p pm).1
      have sl : t.slot (way t.mask (hashD w d) (c + q)) = .live i := slot_live T.ris hi
      have rest : wpAny (model P w) A (searchRest a v (hashD w d) true f es t (way t.mask (hashD w d) (c + q)) i (pth t.mask (hashD w d) (c + (q + 1)))) Q E s := by
        unfold searchRest
        rw [R.row hp]
        dsimp only
        refine wpAny_bind (wpAny_holding (pb.eq x hu ?_))
        refine wpAny_bind (wpAny_setState_of h1 h3 R.fits ?_)
        dsimp only
        by_cases e : p.2 = d
        · have ev : PyData.eqv p.2 d = true := (eqv_mem _ _ pb.ok x.ok).2 e
          refine wp_if_pos (by rw [ev]; rfl) ?_
          exact wpAny_pure (hin (List.mem_map.mpr ⟨p, pm, e⟩))
        · have ev : PyData.eqv p.2 d = false := by
            cases z : PyData.eqv p.2 d with
            | false => rfl
            | true => exact absurd ((eqv_mem _ _ pb.ok x.ok).1 z) e
          refine wp_if_neg (by rw [ev]; simp) ?_
          try refine wpAny_bind (wpAny_pure ?_)
          rw [sameMem]
          dsimp only
          simp only [if_true, sl, R.row hp]
          cases hv : p.1 with
          | ref b =>
            refine wpAny_bind (wpAny_isSame_ref_self (wpAny_bind (wpAny_pure ?_)))
            simp only [if_true]
            refine wp_if_neg (by rw [ev]; simp) ?_
            refine ih (c + (q + 1)) _ rfl (by omega) (by omega) fun i0 p0 e0 d0 => ?_
            obtain ⟨c', g1, g2, g3⟩ := past q hno i0 p0 e0 d0
            refine ⟨c', ?_, g2, g3⟩
            rcases Nat.lt_or_ge (c + q) c' with y | y
            · omega
            · exfalso
              have ec : c' = c + q := Nat.le_antisymm y g1
              rw [ec] at g3
              have sl2 := slot_live T.ris g3
              rw [sl] at sl2
              injection sl2 with sl2
              rw [← sl2, hp] at e0
              cases e0
              exact e d0
          | _ =>
            exfalso
            have ht := (R.mb p pm).2
            have ra := pb.at_
            rw [hv] at ra
            generalize p.2 = dd at ht ra
            cases ra <;> simp [tupAny] at ht
      by_cases hl : t.led = true
      · refine wp_if_neg (by simp [hl]) ?_
        try refine wpAny_bind (wpAny_pure ?_)
        exact rest
      · refine wp_if_pos (by simp [hl]) ?_
        refine wpAny_bind (seen_mb x (fun u hy => ?_) ?_)
        · obtain ⟨e, he, ee⟩ := List.mem_map.mp hy
          have e1 : e ∈ es.toList := by
            have : e ∈ es ∧ e.1 = hashD w d := by simpa using he
            simpa using this.1
          rw [R.rows] at e1
          obtain ⟨p2, q2, q3⟩ := List.mem_map.mp e1
          refine ⟨p2.2, ?_⟩
          rw [← ee, ← q3]
          exact (R.mb p2 q2).1
        · refine wp_if_neg (by decide) ?_
          try refine wpAny_bind (wpAny_pure ?_)
          exact rest
    · rw [pth_add, show c + (K - c) = K by omega] at hpr
      have pr : t.probe (fun i => (es[i]?.map Prod.fst).getD 0) (hashD w d) (st.getD (t.probeStart (hashD w d))) = some (.empty (way t.mask (hashD w d) K) none) := by
        rw [hst]; exact hpr
      rw [pr]
      dsimp only
      refine wpAny_pure (hout fun hm => ?_)
      obtain ⟨p0, m0, d0⟩ := List.mem_map.mp hm
      obtain ⟨i0, l0, e0⟩ := List.getElem_of_mem m0
      obtain ⟨c', g1, g2, g3⟩ := past (K - c) hno i0 p0 (by rw [List.getElem?_eq_getElem l0, e0]) d0
      omega
/-- the whole search -/
theorem find_at (R : SetX w true s.heap a L es ep t) {v : Value} {d : D} (x : Mb s.heap d v) (hu : A.units + 8 < cLine) {Q : SetFound → Shared → Prop} (hin : d ∈ L.map (·.2) → Q (.there none) s)
    (hout : ∀ K, d ∉ L.map (·.2) → way t.mask (hashD w d) K ∉ t.place.toList → (∀ c, c < K → way t.mask (hashD w d) c ∈ t.place.toList) → Q (.free (way t.mask (hashD w d) K) false) s) :
    wpAny (model P w) A (setSearch a v (hashD w d) true) Q E s := by
  obtain ⟨T, room⟩ := R.tab rfl
  obtain ⟨K, k1, k2, k3⟩ := T.first (by rw [List.length_map]; omega) (hashD w d)
  have big : K < 100000 := by
    have z : 10 * SetTable.turns t.mask ≤ 1420 := by
      unfold SetTable.turns
      rcases T.mok with e | e | e <;> omega
    omega
  unfold setSearch
  refine find_from R x hu k1 k2 k3 hin (fun z => hout K z k2 k3) 100000 0 none rfl (Nat.zero_le _) (by omega) fun i p hp hd => ?_
  have hi : (L.map fun p => hashD w p.2)[i]? = some (hashD w d) := by rw [List.getElem?_map, hp, ← hd]; rfl
  have il : i < t.place.toList.length := by
    have z1 := (List.getElem?_eq_some_iff.mp hp).1
    have z2 := T.sz
    rw [List.length_map] at z2
    rw [Array.length_toList]
    omega
  obtain ⟨c, g1, g2⟩ := T.before k2 hi (List.getElem?_eq_getElem il)
  exact ⟨c, Nat.zero_le _, g1, by rw [List.getElem?_eq_getElem il, g2]⟩
end
end Ur
end
section
set_option linter.all false
set_option autoImplicit false
set_option maxRecDepth 10000
/-! UrS4: one more member. -/
namespace Ur
open PySem L2 PyProof.Rows
section
variable {P : Program} {w : World} {A : Around} {E : Value → Shared → Prop} {s : Shared} {tp : Bool} {a : Addr} {L : List (Value × D)} {es : Array (Int × Value)} {ep : Nat} {t : SetTable}
theorem filter_some {α β : Type} {f : α → Option β} {g : α → β} : ∀ {l : List α}, (∀ i ∈ l, f i = some (g i)) → l.filterMap f = l.map g
  | [], _ => rfl
  | i :: l, h => by
    rw [List.filterMap_cons_some (h i List.mem_cons_self), List.map_cons, filter_some fun j hj => h j (List.mem_cons_of_mem _ hj)]
/-- the rows in another order -/
theorem rows_order (h : es.toList = L.map (rowD w)) {order : Array Nat} (hp : order.toList.Perm (List.range L.length)) :
    ∃ L2 : List (Value × D), (order.filterMap (es[·]?)).toList = L2.map (rowD w) ∧ L2.Perm L ∧ (L2.map fun p => hashD w p.2) = order.toList.map fun i => (es.map (·.1)).getD i 0 := by
  have ent : ∀ i, es[i]? = (L[i]?).map (rowD w) := fun i => by rw [← Array.getElem?_toList, h, List.getElem?_map]
  refine ⟨order.toList.filterMap (L[·]?), ?_, ?_, ?_⟩
  · rw [Array.toList_filterMap, List.map_filterMap]
    exact congrArg (fun f => List.filterMap f order.toList) (funext ent)
  · have z := hp.filterMap (L[·]?)
    rwa [List.filterMap_getElem?_range_length] at z
  · rw [List.map_filterMap]
    refine filter_some fun i hi => ?_
    have hl : i < L.length := List.mem_range.mp (hp.mem_iff.mp hi)
    have e1 : (es.map (·.1))[i]? = some (hashD w (L[i]).2) := by rw [Array.getElem?_map, ent i, List.getElem?_eq_getElem hl]; rfl
    rw [List.getElem?_eq_getElem hl, Array.getD_eq_getD_getElem?, e1]; rfl
theorem set_not_tup {h : Heap} {o : Obj} (h1 : h.get? a = some o) (h2 : o.ExactSet) : ∀ o', h.get? a = some o' → o'.cls ≠ .type "tuple" := fun o' e c => by
  rw [h1] at e
  cases e
  rw [h2.1] at c
  exact absurd c (by decide)
/-- the table is laid anew, larger -/
theorem relay_x {o : Obj} (h1 : s.heap.get? a = some o) (h2 : o.ExactSet) (h3 : o.data = .set es ep t) (hr : es.toList = L.map (rowD w)) (hz : t.place.size = es.size) (hm : t.dummies = #[]) (hl : es.size ≤ t.mask)
    (nd : (L.map (·.2)).Nodup) (mb : ∀ p ∈ L, Mb s.heap p.2 p.1 ∧ tupAny p.2 = true) (ld : w.params.followText "set-order" = true ∨ t.led = true) (few : L.length < 64) {wanted M : Nat} (hw : SetTable.sizeAbove wanted - 1 = M) (hM : MaskOk M)
    (hw2 : SetTable.sizeAbove wanted ≤ 128) (hn : L.length * 5 < M * 3) {Q : Unit → Shared → Prop}
    (q : ∀ h' L' es' ep' t', Heap.SameBut a s.heap h' → SetX w true h' a L' es' ep' t' → L'.Perm L → Q () { s with heap := h' }) : wpAny (model P w) A (setRelay a wanted) Q E s := by
  have sz : es.size = L.length := by simpa using congrArg List.length hr
  obtain ⟨t2, order, e, hp, T, em, el, -, ed⟩ := relaid_ok t (hs := es.map (·.1)) (wanted := wanted) hw hM (by rw [Array.size_map, sz]; omega)
  rw [Array.size_map, sz] at hp
  obtain ⟨L2, r1, r2, r3⟩ := rows_order hr hp
  rw [← r3] at T
  have hs2 : (order.filterMap (es[·]?)).size = es.size := by
    have z : (order.filterMap (es[·]?)).toList.length = (L2.map (rowD w)).length := congrArg List.length r1
    rw [List.length_map, r2.length_eq, Array.length_toList] at z
    omega
  have tl : 128 ≤ sizeLine := by rw [sizeLine_eq]; omega
  rw [setRelay_eq]
  refine wpAny_bind (wpAny_setState_of h1 h3 ?_ ?_)
  · unfold SetTable.fits SetTable.fill
    rw [hm, Bool.and_eq_true, beq_iff_eq, decide_eq_true_eq]
    show t.place.size = es.size ∧ t.place.size + 0 ≤ t.mask
    omega
  dsimp only
  refine wp_if_neg (by omega) ?_
  try refine wpAny_bind (wpAny_pure ?_)
  rw [e]
  dsimp only
  refine wpAny_bind ?_
  refine wp_if_neg (by rw [hs2]; simp) ?_
  try refine wpAny_bind (wpAny_pure ?_)
  refine wpAny_pure ?_
  dsimp only
  refine wpAny_storeSet_of h1 h3 ?_ (by rw [hs2]; omega)
  have sb : Heap.SameBut a s.heap (s.heap.update a (Obj.putSet (order.filterMap (es[·]?)) t2)) := Heap.SameBut.update ..
  refine q _ L2 (order.filterMap (es[·]?)) (ep + 1) t2 sb ?_ r2
  have tsz := T.sz
  rw [List.length_map, r2.length_eq] at tsz
  exact {
    ob := ⟨_, store_at h1 h3, ⟨h2.1, h2.2.1, h2.2.2⟩, rfl⟩
    rows := r1
    ris := T.ris
    fits := by
      unfold SetTable.fits SetTable.fill
      rw [T.dm, Bool.and_eq_true, beq_iff_eq, decide_eq_true_eq]
      show t2.place.size = _ ∧ t2.place.size + 0 ≤ t2.mask
      omega
    nd := (r2.map (·.2)).nodup_iff.mpr nd
    mb := fun p hp => ⟨(mb p (r2.mem_iff.mp hp)).1.but (fun b o hb e => (sb.2 b hb).trans e) (set_not_tup h1 h2), (mb p (r2.mem_iff.mp hp)).2⟩
    led := by rw [el]; exact ld
    few := by rw [r2.length_eq]; exact few
    tab := fun _ => ⟨T, by rw [r2.length_eq, em]; exact hn⟩ }
theorem tab_off {t : SetTable} {hs : List Int} (T : TabOk t hs) : TabOk { t with plain := false } hs := ⟨T.ris, T.dm, T.sz, T.mok, T.bd, T.reach⟩
/-- one more tuple -/
theorem add_t (R : SetX w true s.heap a L es ep t) {v : Value} {d : D} (x : Mb s.heap d v) (hx : tupAny d = true) (hu : A.units + 8 < cLine) (hfew : L.length + 1 < 64) {Q : Bool → Shared → Prop}
    (q : ∀ b h' L' es' ep' t', Heap.SameBut a s.heap h' → SetX w true h' a L' es' ep' t' → (d ∈ L.map (·.2) → L' = L) → (d ∉ L.map (·.2) → L'.Perm ((v, d) :: L)) → Q b { s with heap := h' }) :
    wpAny (model P w) A (setAddHashed a v (hashD w d)) Q E s := by
  obtain ⟨T, room⟩ := R.tab rfl
  obtain ⟨o, h1, h2, h3⟩ := R.ob
  have sz := R.size
  have tl : 128 ≤ sizeLine := by rw [sizeLine_eq]; omega
  unfold setAddHashed
  refine wpAny_holding ?_
  rw [show (100000 : Nat) = 99999 + 1 from rfl, setAddHashedIn_succ]
  refine wpAny_bind (wpAny_setState_of h1 h3 R.fits ?_)
  dsimp only
  have ns : byScan v es = false := by
    have z := x.at_
    cases d with
    | tuple xs => obtain ⟨b, _, _, _, rfl, _⟩ := reads_items z; simp [byScan, Value.scannable]
    | _ => simp [tupAny] at hx
  refine wp_if_neg (by rw [ns]; decide) ?_
  try refine wpAny_bind (wpAny_pure ?_)
  refine wpAny_bind (find_at R x hu (fun hm => ?_) fun K hm hK hb => ?_)
  · dsimp only
    exact wpAny_pure (q false s.heap L es ep t (Heap.SameBut.refl a s.heap) R (fun _ => rfl) fun z => absurd hm z)
  · dsimp only
    refine wpAny_bind (wpAny_setState_of h1 h3 R.fits ?_)
    dsimp only
    obtain ⟨g1, g2, g3, g4, g5, g6, -, -, g9⟩ := T.put hK hb
    generalize hpt : t.put (way t.mask (hashD w d) K) = pt at g1 g3 g4 g5 g6 g9 ⊢
    obtain ⟨t1, p⟩ := pt
    dsimp only at g1 g3 g4 g5 g6 g9 ⊢
    subst g1
    -- whatever is told of its hash
    have both : ∀ t1' : SetTable, TabOk t1' ((L.map fun p => hashD w p.2).take (SetTable.below t.place (way t.mask (hashD w d) K)) ++ hashD w d :: (L.map fun p => hashD w p.2).drop (SetTable.below t.place (way t.mask (hashD w d) K))) →
        t1'.mask = t.mask → t1'.led = t.led → t1'.fill = L.length + 1 →
        wpAny (model P w) A (do
          storeSet a (SetTable.insertAt es (SetTable.below t.place (way t.mask (hashD w d) K)) (hashD w d, v)) t1'
          if (!false && t1'.tooFull) = true then do
              setRelay a (SetTable.grown (es.size + 1))
              pure true
            else pure true) Q E s := by
      intro t1' T1 e1 e2 e3
      have hin : (SetTable.insertAt es (SetTable.below t.place (way t.mask (hashD w d) K)) (hashD w d, v)).toList = (L.take (SetTable.below t.place (way t.mask (hashD w d) K)) ++ (v, d) :: L.drop (SetTable.below t.place (way t.mask (hashD w d) K))).map (rowD w) := by
        rw [SetTable.toList_insertAt, R.rows, List.map_append, List.map_cons, List.map_take, List.map_drop]; rfl
      have hhs : (L.take (SetTable.below t.place (way t.mask (hashD w d) K)) ++ (v, d) :: L.drop (SetTable.below t.place (way t.mask (hashD w d) K))).map (fun p => hashD w p.2) =
          (L.map fun p => hashD w p.2).take (SetTable.below t.place (way t.mask (hashD w d) K)) ++ hashD w d :: (L.map fun p => hashD w p.2).drop (SetTable.below t.place (way t.mask (hashD w d) K)) := by
        rw [List.map_append, List.map_cons, List.map_take, List.map_drop]
      rw [← hhs] at T1
      have pm := put_perm L (SetTable.below t.place (way t.mask (hashD w d) K)) (v, d)
      generalize L.take (SetTable.below t.place (way t.mask (hashD w d) K)) ++ (v, d) :: L.drop (SetTable.below t.place (way t.mask (hashD w d) K)) = L1 at pm T1 hin
      generalize SetTable.insertAt es (SetTable.below t.place (way t.mask (hashD w d) K)) (hashD w d, v) = es1 at hin ⊢
      have hlen : L1.length = L.length + 1 := pm.length_eq
      have hes : es1.size = L.length + 1 := by
        have z := congrArg List.length hin
        rw [Array.length_toList, List.length_map, hlen] at z
        exact z
      have nd1 : (L1.map (·.2)).Nodup := (pm.map (·.2)).nodup_iff.mpr (by rw [List.map_cons]; exact List.nodup_cons.mpr ⟨hm, R.nd⟩)
      refine wpAny_bind (wpAny_storeSet_of h1 h3 ?_ (by omega))
      have sb : Heap.SameBut a s.heap (s.heap.update a (Obj.putSet es1 t1')) := Heap.SameBut.update ..
      have ho1 := store_at (es' := es1) (t' := t1') h1 h3
      generalize s.heap.update a (Obj.putSet es1 t1') = hp1 at sb ho1 ⊢
      have mb1 : ∀ p ∈ L1, Mb hp1 p.2 p.1 ∧ tupAny p.2 = true := fun p hp => by
        have kb : ∀ {e : D} {u : Value}, Mb s.heap e u → Mb hp1 e u := fun y => y.but (fun b o hb e => (sb.2 b hb).trans e) (set_not_tup h1 h2)
        rcases List.mem_cons.mp (pm.mem_iff.mp hp) with e | hp
        · rw [e]; exact ⟨kb x, hx⟩
        · exact ⟨kb (R.mb p hp).1, (R.mb p hp).2⟩
      have ld1 : w.params.followText "set-order" = true ∨ t1'.led = true := by rw [e2]; exact R.led
      have psz := T1.sz
      rw [List.length_map, hlen] at psz
      have tf : t1'.tooFull = decide ((L.length + 1) * 5 ≥ t1'.mask * 3) := by unfold SetTable.tooFull; rw [e3]
      by_cases hf : t1'.tooFull = true
      · refine wp_if_pos (by simp [hf]) ?_
        refine wpAny_bind ?_
        rw [tf, decide_eq_true_eq] at hf
        have two : (t.mask = 7 ∧ L.length = 4) ∨ (t.mask = 31 ∧ L.length = 18) := by
          rcases T.mok with e | e | e
          · left; rw [e1, e] at hf; rw [e] at room; exact ⟨e, by omega⟩
          · right; rw [e1, e] at hf; rw [e] at room; exact ⟨e, by omega⟩
          · exfalso; rw [e1, e] at hf; omega
        have go : ∀ M, SetTable.sizeAbove (SetTable.grown (L.length + 1)) - 1 = M → MaskOk M → SetTable.sizeAbove (SetTable.grown (L.length + 1)) ≤ 128 → (L.length + 1) * 5 < M * 3 →
            wpAny (model P w) A (setRelay a (SetTable.grown (es.size + 1))) (fun _ s' => wpAny (model P w) A (pure true) Q E s') E { s with heap := hp1 } := fun M k1 k2 k3 k4 => by
          rw [sz]
          refine relay_x (s := { s with heap := hp1 }) ho1 ⟨h2.1, h2.2.1, h2.2.2⟩ rfl hin (by omega) T1.dm (by rw [hes, e1]; rcases two with ⟨e, e2⟩ | ⟨e, e2⟩ <;> omega) nd1 mb1 ld1 (by omega) k1 k2 k3 (by rw [hlen]; exact k4) ?_
          intro hp2 L2 es2 ep2 t2 sb2 R2 pm2
          exact wpAny_pure (q true hp2 L2 es2 ep2 t2 (sb.trans sb2) R2 (fun z => absurd z hm) fun _ => pm2.trans pm)
        rcases two with ⟨_, e2⟩ | ⟨_, e2⟩
        · refine go 31 (by rw [e2, size_20]) (.inr (.inl rfl)) (by rw [e2, size_20]; decide) (by omega)
        · refine go 127 (by rw [e2, size_76]) (.inr (.inr rfl)) (by rw [e2, size_76]; decide) (by omega)
      · refine wp_if_neg (by simp [hf]) ?_
        refine wpAny_pure (q true hp1 L1 es1 (ep + 1) t1' sb ?_ (fun z => absurd z hm) fun _ => pm)
        rw [tf, decide_eq_true_eq] at hf
        exact {
          ob := ⟨_, ho1, ⟨h2.1, h2.2.1, h2.2.2⟩, rfl⟩
          rows := hin
          ris := T1.ris
          fits := by
            unfold SetTable.fits SetTable.fill
            rw [T1.dm, Bool.and_eq_true, beq_iff_eq, decide_eq_true_eq]
            show t1'.place.size = es1.size ∧ t1'.place.size + 0 ≤ t1'.mask
            rcases T.mok with e | e | e <;> rw [e] at room <;> rw [e1, e] <;> omega
          nd := nd1
          mb := mb1
          led := ld1
          few := by omega
          tab := fun _ => ⟨T1, by omega⟩ }
    rw [List.length_map] at g9
    by_cases pl : t1.plain = true
    · refine wp_if_pos pl ?_
      refine wpAny_bind (hv_at d 8 _ _ _ _ _ x.ok x.at_ x.dp fun b => ?_)
      cases b
      · exact both { t1 with plain := false } (tab_off g3) g4 g5 g9
      · exact both t1 g3 g4 g5 g9
    · refine wp_if_neg pl ?_
      refine wpAny_bind (wpAny_pure ?_)
      exact both t1 g3 g4 g5 g9
end
end Ur
end
section
set_option linter.all false
set_option autoImplicit false
set_option maxRecDepth 10000
/-! UrS5: one more int or text. -/
namespace Ur
open PySem L2 PyProof.Rows
theorem perm_map {α β : Type} {f : α → β} {xs ys : List β} (h : xs.Perm ys) : ∀ l : List α, ys = l.map f → ∃ l' : List α, xs = l'.map f ∧ l'.Perm l := by
  induction h with
  | nil => intro l e; exact ⟨l, e, .refl _⟩
  | cons x _ ih =>
    intro l e
    cases l with
    | nil => cases e
    | cons z l =>
      rw [List.map_cons, List.cons.injEq] at e
      obtain ⟨l', e1, p⟩ := ih l e.2
      exact ⟨z :: l', by rw [List.map_cons, ← e1, ← e.1], p.cons _⟩
  | swap x y r =>
    intro l e
    match l, e with
    | z :: u :: l, e =>
      simp only [List.map_cons, List.cons.injEq] at e
      exact ⟨u :: z :: l, by simp [e.1, e.2.1, e.2.2], .swap _ _ _⟩
  | trans _ _ ih1 ih2 =>
    intro l e
    obtain ⟨l2, e2, p2⟩ := ih2 l e
    obtain ⟨l1, e1, p1⟩ := ih1 l2 e2
    exact ⟨l1, e1, p1.trans p2⟩
section
variable {P : Program} {w : World} {A : Around} {E : Value → Shared → Prop} {s : Shared} {a : Addr} {L : List (Value × D)} {es : Array (Int × Value)} {ep : Nat} {t : SetTable}
theorem key_mb {h : Heap} {d : D} {v : Value} (x : Mb h d v) (e : tupAny d = false) : ∃ k, d = kD k ∧ (mixKind P w).is k v = true ∧ hashD w d = (mixKind P w).hash k ∧ v.scannable = true := by
  have ok := x.ok
  have r := x.at_
  cases d with
  | int i => cases r; exact ⟨.inl i, rfl, mixKind_int P w i _, rfl, rfl⟩
  | str y => cases r; exact ⟨.inr y, rfl, mixKind_str P w y _, rfl, rfl⟩
  | tuple _ => cases e
  | none => simp [memOk] at ok
  | bool _ => simp [memOk] at ok
  | list _ => simp [memOk] at ok
  | dict _ => simp [memOk] at ok
theorem elems_x (R : SetX w false s.heap a L es ep t) : ElemsOf (mixKind P w) es.toList := fun e he => by
  rw [R.rows] at he
  obtain ⟨p, hp, rfl⟩ := List.mem_map.mp he
  obtain ⟨m, i⟩ := R.mb p hp
  obtain ⟨k, _, h1, h2, h3⟩ := key_mb (P := P) (w := w) m i
  exact ⟨⟨k, h1, h2⟩, h3⟩
theorem kD_inj {a b : Key} (h : kD a = kD b) : a = b := by
  cases a <;> cases b <;> simp_all [kD]
theorem is_row {h : Heap} {d : D} {v : Value} (x : Mb h d v) (e : tupAny d = false) (k : Key) : (mixKind P w).is k v = true ↔ d = kD k := by
  obtain ⟨q, h0, h1, _, _⟩ := key_mb (P := P) (w := w) x e
  constructor
  · intro g
    rw [h0, (mixKind P w).inj v q k h1 g]
  · intro g
    rw [h0] at g
    rw [← kD_inj g]; exact h1
/-- what is laid behind a change -/
theorem tail_x {g : Bool → Sem Unit} (hg : ∀ (b : Bool) (s1 : Shared) (Q' : Unit → Shared → Prop), Q' () s1 → wpAny (model P w) A (g b) Q' E s1) {o : Obj} (h1 : s.heap.get? a = some o) (h2 : o.ExactSet) (h3 : o.data = .set es ep t)
    {es1 : Array (Int × Value)} {t2 : SetTable} {L1 : List (Value × D)} (hr : es1.toList = L1.map (rowD w)) (nd : (L1.map (·.2)).Nodup) (mb : ∀ p ∈ L1, Mb s.heap p.2 p.1 ∧ tupAny p.2 = false) (few : L1.length < 64)
    (hf : t2.fits es1.size = true) (ri : Ris t2.place.toList) (ld : w.params.followText "set-order" = true ∨ t2.led = true) {wd : Bool} {R : Option Bool → Shared → Prop}
    (q : ∀ h' L' es' ep' t', Heap.SameBut a s.heap h' → SetX w false h' a L' es' ep' t' → L'.Perm L1 → R (some true) { s with heap := h' }) :
    wpAny (model P w) A (do
        storeSet a es1 t2
        if (!wd && t2.tooFull) = true then do
            g (relayAll t2 es1 (SetTable.grown es1.size)).2.2
            storeSet a (relayAll t2 es1 (SetTable.grown es1.size)).1 (relayAll t2 es1 (SetTable.grown es1.size)).2.1
            pure (some true)
          else pure (some true)) R E s := by
  have z1 : es1.size = L1.length := by simpa using congrArg List.length hr
  have tl : 128 ≤ sizeLine := by rw [sizeLine_eq]; omega
  refine wpAny_bind (wpAny_storeSet_of h1 h3 ?_ (by omega))
  have g1 := store_at (es' := es1) (t' := t2) h1 h3
  have sb1 := Heap.SameBut.update s.heap a (Obj.putSet es1 t2)
  have kb : ∀ {h' : Heap}, Heap.SameBut a s.heap h' → ∀ p ∈ L1, Mb h' p.2 p.1 ∧ tupAny p.2 = false := fun sb p hp => ⟨(mb p hp).1.but (fun b o hb e => (sb.2 b hb).trans e) (set_not_tup h1 h2), (mb p hp).2⟩
  split
  · have pm := relayAll_perm t2 es1 (SetTable.grown es1.size)
    have hf3 := relayAll_fits t2 es1 (SetTable.grown es1.size)
    have hr3 := relayAll_ris t2 es1 (SetTable.grown es1.size)
    have hl3 := relayAll_led t2 es1 (SetTable.grown es1.size)
    generalize relayAll t2 es1 (SetTable.grown es1.size) = Z at pm hf3 hr3 hl3 ⊢
    obtain ⟨es2, t3, gave⟩ := Z
    dsimp only at pm hf3 hr3 hl3 ⊢
    obtain ⟨L2, e2, p2⟩ := perm_map pm L1 hr
    have z2 : es2.size = L2.length := by simpa using congrArg List.length e2
    refine wpAny_bind (hg _ _ _ ?_)
    refine wpAny_bind (wpAny_storeSet_of g1 rfl ?_ (by rw [z2, p2.length_eq]; omega))
    have g2 := store_at (es' := es2) (t' := t3) g1 rfl
    have sb2 := sb1.trans (Heap.SameBut.update _ a (Obj.putSet es2 t3))
    refine wpAny_pure (q _ L2 es2 (ep + 1 + 1) t3 sb2 ?_ p2)
    exact ⟨⟨_, g2, h2, rfl⟩, e2, hr3, hf3, (p2.map (·.2)).nodup_iff.mpr nd, fun p hp => kb sb2 p (p2.mem_iff.mp hp), ld.imp id fun z => by rw [hl3]; exact z, by rw [p2.length_eq]; exact few, fun z => by cases z⟩
  · exact wpAny_pure (q _ L1 es1 (ep + 1) t2 sb1 ⟨⟨_, g1, h2, rfl⟩, hr, ri, hf, nd, kb sb1, ld, few, fun z => by cases z⟩ (.refl _))
/-- one more key -/
theorem add_k (R : SetX w false s.heap a L es ep t) {v : Value} {d : D} (x : Mb s.heap d v) (hx : tupAny d = false) (hfew : L.length + 1 < 64) {Q : Bool → Shared → Prop}
    (q : ∀ b h' L' es' ep' t', Heap.SameBut a s.heap h' → SetX w false h' a L' es' ep' t' → (d ∈ L.map (·.2) → L' = L) → (d ∉ L.map (·.2) → L'.Perm ((v, d) :: L)) → Q b { s with heap := h' }) :
    wpAny (model P w) A (setAddHashed a v (hashD w d)) Q E s := by
  obtain ⟨o, h1, h2, h3⟩ := R.ob
  obtain ⟨k, ek, hk, hh, hsc⟩ := key_mb (P := P) (w := w) x hx
  have hel := elems_x (P := P) R
  have sz := R.size
  have sb0 : es.size < scanBound := by unfold scanBound; omega
  rw [hh]
  unfold setAddHashed setAddHashedIn
  refine wpAny_holding (wpAny_bind (wpAny_setState_of h1 h3 R.fits ?_))
  dsimp only
  rw [byScan_of hsc sb0 hel]
  simp only [↓reduceIte]
  unfold setAddByScan
  refine wpAny_bind ?_
  refine wpAny_bind (wpAny_rule ?_)
  refine wpAny_bind (wpAny_setScan_of hk h1 h3 R.fits hel ?_)
  have has : d ∈ L.map (·.2) ↔ ∃ e ∈ es.toList, (mixKind P w).is k e.2 = true := by
    rw [R.rows, List.mem_map]
    constructor
    · rintro ⟨p, hp, e⟩
      exact ⟨rowD w p, List.mem_map.mpr ⟨p, hp, rfl⟩, (is_row (R.mb p hp).1 (R.mb p hp).2 k).2 (by rw [e, ek])⟩
    · rintro ⟨e, he, g⟩
      obtain ⟨p, hp, rfl⟩ := List.mem_map.mp he
      exact ⟨p, hp, by rw [(is_row (R.mb p hp).1 (R.mb p hp).2 k).1 g, ← ek]⟩
  cases hfi : List.findIdx? (fun e => (mixKind P w).is k e.2) es.toList with
  | some j =>
    dsimp only
    obtain ⟨hj, pj, _⟩ := List.findIdx?_eq_some_iff_getElem.mp hfi
    have hm : d ∈ L.map (·.2) := has.2 ⟨es.toList[j], List.getElem_mem hj, pj⟩
    exact wpAny_pure (wpAny_pure (q false s.heap L es ep t (Heap.SameBut.refl a s.heap) R (fun _ => rfl) fun z => absurd hm z))
  | none =>
    dsimp only
    have hm : d ∉ L.map (·.2) := fun z => by
      obtain ⟨e, he, g⟩ := has.1 z
      have c := List.findIdx?_eq_none_iff.mp hfi e he
      rw [g] at c
      cases c
    have hgw : ∀ (b : Bool) {s₁ : Shared} {Q' : Unit → Shared → Prop}, Q' () s₁ → wpAny (model P w) A (match b with | true => rule "set.scan.the-table-gave-way" | false => pure ()) Q' E s₁ :=
      fun b s₁ Q' q => by cases b <;> first | exact wpAny_pure q | exact wpAny_rule q
    have pm := layNew_perm t es ((mixKind P w).hash k) v
    have hf1 := layNew_fits t es ((mixKind P w).hash k) v
    have hr1 := layNew_ris t es ((mixKind P w).hash k) v R.ris
    have hl1 := layNew_led t es ((mixKind P w).hash k) v
    generalize layNew t es ((mixKind P w).hash k) v = Z at pm hf1 hr1 hl1 ⊢
    obtain ⟨es1, t1, wasDummy, gave⟩ := Z
    dsimp only at pm hf1 hr1 hl1 ⊢
    rw [Array.toList_push] at pm
    have pc : es1.toList.Perm (((v, d) :: L).map (rowD w)) := by
      rw [List.map_cons, ← R.rows]
      unfold rowD
      rw [hh]
      exact pm.trans (List.perm_append_singleton _ _)
    obtain ⟨L1, e1, p1⟩ := perm_map pc _ rfl
    have nd1 : (L1.map (·.2)).Nodup := (p1.map (·.2)).nodup_iff.mpr (by rw [List.map_cons]; exact List.nodup_cons.mpr ⟨hm, R.nd⟩)
    have mb1 : ∀ p ∈ L1, Mb s.heap p.2 p.1 ∧ tupAny p.2 = false := fun p hp => by
      rcases List.mem_cons.mp (p1.mem_iff.mp hp) with z | z
      · rw [z]; exact ⟨x, hx⟩
      · exact R.mb p z
    have few1 : L1.length < 64 := by rw [p1.length_eq, List.length_cons]; exact hfew
    have hled : w.params.followText "set-order" = true ∨ t1.led = true := R.led.imp id fun z => by rw [hl1]; exact z
    refine wpAny_bind (hgw _ ?_)
    split
    · refine wpAny_bind ?_
      rw [hashByValue_scannable 8 hsc]
      refine wpAny_pure ?_
      refine tail_x ?_ h1 h2 h3 e1 nd1 mb1 few1 ?_ ?_ ?_ ?_
      · intro b s₁ Q' q; cases b <;> first | exact wpAny_pure q | exact wpAny_rule q
      · first | (split <;> first | exact hf1 | exact SetTable.fits_plain_off hf1) | exact hf1
      · first | (split <;> exact hr1) | exact hr1
      · first | (split <;> exact hled) | exact hled
      · intro h' L' es' ep' t' sb r pp
        dsimp only
        exact wpAny_pure (q true h' L' es' ep' t' sb r (fun z => absurd z hm) fun _ => pp.trans p1)
    · refine wpAny_bind (wpAny_pure ?_)
      simp only [↓reduceIte]
      refine tail_x ?_ h1 h2 h3 e1 nd1 mb1 few1 hf1 hr1 hled ?_
      · intro b s₁ Q' q; cases b <;> first | exact wpAny_pure q | exact wpAny_rule q
      · intro h' L' es' ep' t' sb r pp
        dsimp only
        exact wpAny_pure (q true h' L' es' ep' t' sb r (fun z => absurd z hm) fun _ => pp.trans p1)
/-- one more member -/
theorem add_x {tp : Bool} (R : SetX w tp s.heap a L es ep t) {v : Value} {d : D} (x : Mb s.heap d v) (hx : tupAny d = tp) (hu : A.units + 8 < cLine) (hfew : L.length + 1 < 64) {Q : Bool → Shared → Prop}
    (q : ∀ b h' L' es' ep' t', Heap.SameBut a s.heap h' → SetX w tp h' a L' es' ep' t' → (d ∈ L.map (·.2) → L' = L) → (d ∉ L.map (·.2) → L'.Perm ((v, d) :: L)) → Q b { s with heap := h' }) :
    wpAny (model P w) A (setAddHashed a v (hashD w d)) Q E s := by
  cases tp with
  | true => exact add_t R x hx hu hfew q
  | false => exact add_k R x hx hfew q
end
end Ur
end
section
set_option linter.all false
set_option autoImplicit false
set_option maxRecDepth 10000
/-! UrS6: set(xs). -/
namespace Ur
open PySem L2 PyProof.Rows
/-- what the set has of the first i items -/
structure Gt (ks : List (Value × D)) (i : Nat) (L : List (Value × D)) : Prop where
  sub : ∀ p ∈ L, p ∈ ks.take i
  all : ∀ p ∈ ks.take i, p.2 ∈ L.map (·.2)
  len : L.length ≤ i
theorem Gt.old {ks L : List (Value × D)} {i : Nat} {x : Value × D} (g : Gt ks i L) (h : ks[i]? = some x) (hm : x.2 ∈ L.map (·.2)) : Gt ks (i + 1) L where
  sub p hp := by rw [take_next h]; exact List.mem_append_left _ (g.sub p hp)
  all p hp := by
    rw [take_next h] at hp
    rcases List.mem_append.mp hp with z | z
    · exact g.all p z
    · rw [List.mem_singleton.mp z]; exact hm
  len := Nat.le_succ_of_le g.len
theorem Gt.new {ks L L' : List (Value × D)} {i : Nat} {x : Value × D} (g : Gt ks i L) (h : ks[i]? = some x) (pm : L'.Perm (x :: L)) : Gt ks (i + 1) L' where
  sub p hp := by
    rw [take_next h]
    rcases List.mem_cons.mp (pm.mem_iff.mp hp) with e | z
    · rw [e]; exact List.mem_append_right _ (List.mem_singleton.mpr rfl)
    · exact List.mem_append_left _ (g.sub p z)
  all p hp := by
    rw [(pm.map (·.2)).mem_iff, List.map_cons]
    rw [take_next h] at hp
    rcases List.mem_append.mp hp with z | z
    · exact List.mem_cons_of_mem _ (g.all p z)
    · rw [List.mem_singleton.mp z]; exact List.mem_cons_self
  len := by rw [pm.length_eq, List.length_cons]; exact Nat.succ_le_succ g.len
section
variable {P : Program} {w : World} {A : Around} {E : Value → Shared → Prop} {s : Shared} {tp : Bool}
theorem SetX.keep {h h' : Heap} {a : Addr} {L : List (Value × D)} {es : Array (Int × Value)} {ep : Nat} {t : SetTable} (R : SetX w tp h a L es ep t) (ha : ∀ o, h.get? a = some o → h'.get? a = some o) (hm : ∀ p ∈ L, Mb h' p.2 p.1) : SetX w tp h' a L es ep t := by
  obtain ⟨o, h1, r⟩ := R.ob
  exact { R with ob := ⟨o, ha o h1, r⟩, mb := fun p hp => ⟨hm p hp, (R.mb p hp).2⟩ }
def emptySet (w : World) : Obj := { cls := .type "set", dict := none, data := .set #[] 0 (.fresh 0 0 (!w.params.followText "set-order")) }
theorem setX_new {h : Heap} {a : Addr} (e : h.get? a = some (emptySet w)) : SetX w tp h a [] #[] 0 (.fresh 0 0 (!w.params.followText "set-order")) where
  ob := ⟨_, e, ⟨rfl, rfl, rfl⟩, rfl⟩
  rows := rfl
  ris := List.Pairwise.nil
  fits := rfl
  nd := List.nodup_nil
  mb := fun p hp => by cases hp
  led := by
    show _ ∨ (!w.params.followText "set-order") = true
    cases w.params.followText "set-order"
    · exact .inr rfl
    · exact .inl rfl
  few := by show 0 < 64; decide
  tab := fun _ => ⟨⟨List.Pairwise.nil, rfl, rfl, .inl rfl, fun x hx => (by cases hx), fun i h j hi => (by simp at hi)⟩, by show 0 * 5 < 7 * 3; decide⟩
/-- the loop that puts them in -/
theorem upd_loop {I : Addr} {fp wr : List Addr} {G : Array GenState → Array GenState → Prop} {n : Nat} {Pv : Nat → Value → Prop} {St : Nat → Shared → Prop} {R : Result → Shared → Prop}
    (W : WalksS P w A.in1 I fp wr G n Pv St) (S : Addr) (hSf : S ∉ fp) (ks : List (Value × D)) (hn : n = ks.length) (hfew : ks.length < 64) (hval : ∀ i v, Pv i v → ∃ p, ks[i]? = some p ∧ v = p.1)
    (h0 : Heap) (hk : ∀ p ∈ ks, Mb h0 p.2 p.1 ∧ tupAny p.2 = tp) (hS0 : h0.get? S = none) (hw0 : ∀ b ∈ wr, h0.get? b = none) (hu : A.in1.units + 8 < cLine) :
    ∀ (k i : Nat) (s : Shared), n - i = k → i ≤ n → St i s → (∀ b o, h0.get? b = some o → s.heap.get? b = some o) → (∃ L es ep t, SetX w tp s.heap S L es ep t ∧ Gt ks i L) →
      (∀ s' L es ep t, Moved (S :: wr) G s s' → SetX w tp s'.heap S L es ep t → Gt ks n L → (∀ b o, h0.get? b = some o → s'.heap.get? b = some o) → R (.ok (.ret .none)) s') →
      codeAny (model P w) A (.builtin "set.update.loop" ⟨[.ref S, .ref I], []⟩) R s := by
  have nSw : S ∉ wr := fun h => hSf (W.sub _ h)
  have wider : ∀ b ∈ wr, b ∈ S :: wr := fun b hb => List.mem_cons_of_mem _ hb
  have stay : ∀ {s s' : Shared}, Moved wr G s s' → (∀ b o, h0.get? b = some o → s.heap.get? b = some o) → ∀ b o, h0.get? b = some o → s'.heap.get? b = some o := fun hm g b o e =>
    hm.heap b o (fun hb => by rw [hw0 b hb] at e; cases e) (g b o e)
  intro k
  induction k with
  | zero =>
    intro i s hi0 hi hst g ⟨L, es, ep, t, hX, gt⟩ hR
    obtain rfl : i = n := by omega
    refine codeAny_builtin F.entry_set_update_loop ?_
    rw [Around.under_plainId F.plain_set_update_loop _]
    show wpAny _ A.in1 (pyNext (.ref I) >>= _) _ _ s
    refine wpAny_bind (W.done s _ _ hst fun s' hm => ?_)
    show wpAny _ A.in1 (ret Value.none) _ _ s'
    have g' := stay hm g
    exact wpAny_pure (hR s' L es ep t (hm.mono wider) (hX.keep (fun o e => hm.heap S o nSw e) fun p hp => (hk p (List.mem_of_mem_take (gt.sub p hp))).1.keep g') gt g')
  | succ k ih =>
    intro i s hi0 hi hst g ⟨L, es, ep, t, hX, gt⟩ hR
    have hlt : i < n := by omega
    refine codeAny_builtin F.entry_set_update_loop ?_
    rw [Around.under_plainId F.plain_set_update_loop _]
    show wpAny _ A.in1 (pyNext (.ref I) >>= _) _ _ s
    refine wpAny_bind (W.item i s _ _ hlt hst fun v s' hP hst' hm => ?_)
    obtain ⟨p, hp, rfl⟩ := hval i v hP
    have g' := stay hm g
    have hX' : SetX w tp s'.heap S L es ep t := hX.keep (fun o e => hm.heap S o nSw e) fun q hq => (hk q (List.mem_of_mem_take (gt.sub q hq))).1.keep g'
    obtain ⟨x0, tx⟩ := hk p (List.mem_of_getElem? hp)
    have x := x0.keep g'
    show wpAny _ A.in1 (holding [p.1] (setAdd S p.1) >>= _) _ _ s'
    refine wpAny_bind (wpAny_holding ?_)
    unfold setAdd
    refine wpAny_holding ?_
    refine wpAny_bind (x.hash hu fun tk htk => ?_)
    refine add_x (s := { s' with toks := tk }) hX' x tx hu (by have := gt.len; omega) fun b h' L' es' ep' t' sb R2 c1 c2 => ?_
    have gt' : Gt ks (i + 1) L' := by
      rcases Classical.em (p.2 ∈ L.map (·.2)) with c | c
      · rw [c1 c]; exact gt.old hp c
      · exact gt.new hp (c2 c)
    have g2 : ∀ b o, h0.get? b = some o → h'.get? b = some o := fun b o e => (sb.2 b (fun z => by rw [z, hS0] at e; cases e)).trans (g' b o e)
    refine wpAny_pure ⟨plainId_quiet F.plain_set_update_loop _, ih (i + 1) _ (by omega) hlt (W.frame _ s' _ _ hst' htk fun b hb o e => ?_) g2 ⟨L', es', ep', t', R2, gt'⟩ fun s2 L2 es2 ep2 t2 hm2 hX2 gt2 g3 => ?_⟩
    · rw [sb.2 b (fun z : b = S => hSf (by rw [← z]; exact hb))]; exact e
    · refine hR s2 L2 es2 ep2 t2 (Moved.trans W.gtrans ((hm.mono wider).then_heap htk fun b o hb e => ?_) hm2) hX2 gt2 g3
      rw [sb.2 b (fun z : b = S => hb (by rw [z]; exact List.mem_cons_self))]; exact e
end
end Ur
end
section
set_option linter.all false
set_option autoImplicit false
set_option maxRecDepth 100000
set_option maxHeartbeats 3200000
/-! UrS7: the call of set. -/
namespace Ur
open PySem L2 PyProof.Rows
section
variable {P : Program} {w : World} {A : Around} {E : Value → Shared → Prop} {s : Shared} {tp : Bool}
/-- what a call of set leaves -/
def Left (w : World) (tp : Bool) (h : Heap) (ks : List (Value × D)) (S : Addr) (h' : Heap) : Prop := (∃ L es ep t, SetX w tp h' S L es ep t ∧ Gt ks ks.length L) ∧ ∀ b o, h.get? b = some o → h'.get? b = some o
def setW (w : World) (tp : Bool) (ks : List (Value × D)) (s : Shared) (E : Value → Shared → Prop) : Result → Shared → Prop := wants (fun r s2 => r = .none ∧ ∃ h' tk, s2 = { s with heap := h', toks := tk } ∧ Left w tp s.heap ks s.heap.objs.size h') E
/-- made empty, then filled -/
theorem set_shell {l : Addr} (ks : List (Value × D)) {Q : Value → Shared → Prop}
    (init : wpAny (model P w) A.in1.in1 (Builtin.«set.__init__» { pos := [.ref s.heap.objs.size, .ref l] }) (fun fin s' => match fin with
      | .done f => setW w tp ks s E (.ok f) s'
      | .again c' => c'.quiet = true ∧ codeAny (model P w) A.in1 c' (setW w tp ks s E) s') (fun e s' => setW w tp ks s E (.error e) s') { s with heap := s.heap.push (emptySet w) })
    (h : ∀ (h' : Heap) (tk : Nat), Left w tp s.heap ks s.heap.objs.size h' → Q (.ref s.heap.objs.size) { s with heap := h', toks := tk }) :
    wpAny (model P w) A (call (.type "set") [.ref l]) Q E s := by
  obtain ⟨c, tl, hmro⟩ := F.called_set.mro
  have hmade := F.called_set.made
  have hsub := F.called_set.sub
  refine wpAny_call (codeAny_of_tree ?_)
  show wpAny _ _ (callAny (.type "set") _) _ _ _
  refine wpAny_pure ⟨Code.quiet_builtin _ (by decide +kernel), codeAny_builtin F.entry_type_call ?_⟩
  rw [Around.under_plain (weight_type_call_type "set" [.ref l] []) rfl]
  have h1 := F.called_set.notType
  have h2 := F.called_set.canCreate
  have hct := F.typeCall_set_1 (.ref l)
  repeat (any_goals (first | assumption | wp_step))
  refine codeAny_mono (code_set_led1 (.ref l) (E := E) (Q₁ := fun obj s1 => obj = .ref s.heap.objs.size ∧ s1 = { s with heap := s.heap.push (emptySet w) }) ⟨rfl, rfl⟩) fun r s1 hr => ?_
  cases r with
  | error e => exact hr
  | ok fl =>
    cases fl with
    | ret obj =>
      obtain ⟨rfl, rfl⟩ := hr
      have hS : (s.heap.push (emptySet w)).get? s.heap.objs.size = some (emptySet w) := Heap.get?_push_size _ rfl
      have hT : Shared.TypeIs { s with heap := s.heap.push (emptySet w) } (.ref s.heap.objs.size) "set" := ⟨_, hS, rfl⟩
      have hli := F.called_set.init.lookup
      have hbi := F.called_set.init.bind (.ref s.heap.objs.size)
      repeat (any_goals (first | assumption | wp_step))
      refine codeAny_mono (codeAny_call_builtin (R := setW w tp ks s E) F.called_set.init.plain F.entry_set_init (check_set_init_1 hT ?_)) fun r2 s2 hr2 => ?_
      · exact init
      · cases r2 with
        | error e => exact hr2
        | ok fl2 =>
          cases fl2 with
          | ret r =>
            obtain ⟨rfl, h', tk, rfl, hL⟩ := hr2
            repeat (any_goals (first | assumption | wp_step))
            exact h _ _ hL
          | _ => exact hr2.elim
    | _ => exact hr.elim
theorem gt_zero (ks : List (Value × D)) : Gt ks 0 [] := ⟨fun p hp => (by cases hp), fun p hp => (by simp at hp), Nat.le_refl _⟩
theorem none_at {h : Heap} {b : Addr} (hb : h.objs.size ≤ b) : h.get? b = none := by
  cases q : h.get? b with
  | none => rfl
  | some o => exact absurd (Nat.lt_of_lt_of_le (Heap.lt_size q) hb) (Nat.lt_irrefl _)
theorem items_at {items : Array Value} {ks : List (Value × D)} (hit : items.toList = ks.map (·.1)) (i : Nat) (v : Value) (hv : items[i]? = some v) : ∃ p, ks[i]? = some p ∧ v = p.1 := by
  have q : items.toList[i]? = some v := by rw [Array.getElem?_toList]; exact hv
  rw [hit, List.getElem?_map] at q
  cases hq : ks[i]? with
  | none => rw [hq] at q; cases q
  | some p =>
    rw [hq] at q
    exact ⟨p, rfl, (Option.some.inj q).symm⟩
/-- what is left when the loop ends -/
theorem fill_end {ks : List (Value × D)} {n : Nat} (hn : n = ks.length) {wr : List Addr} (hw : ∀ b ∈ wr, s.heap.objs.size < b) {h1 : Heap} (k1 : ∀ b o, s.heap.get? b = some o → h1.get? b = some o) (s' : Shared) (L : List (Value × D)) (es : Array (Int × Value)) (ep : Nat) (t : SetTable)
    (hm : Moved (s.heap.objs.size :: wr) (fun a b => b = a) { s with heap := h1 } s') (hX : SetX w tp s'.heap s.heap.objs.size L es ep t) (g : Gt ks n L) (k : ∀ b o, s.heap.get? b = some o → s'.heap.get? b = some o) :
    wpAny (model P w) A.in1.in1 (ret Value.none) (fun fin s' => match fin with
      | .done f => setW w tp ks s E (.ok f) s'
      | .again c' => c'.quiet = true ∧ codeAny (model P w) A.in1 c' (setW w tp ks s E) s') (fun e s' => setW w tp ks s E (.error e) s') s' := by
  subst hn
  obtain ⟨h', g2, d', tk', os'⟩ := s'
  have eg : g2 = s.gens := hm.gens
  have ed : d' = s.drawn := hm.drawn
  have eo : os' = s.os := hm.os
  subst eg; subst ed; subst eo
  exact wpAny_pure ⟨rfl, h', tk', rfl, ⟨L, es, ep, t, hX, g⟩, k⟩
/-- set(xs), a list -/
theorem set_ofL {l : Addr} {items : Array Value} (ks : List (Value × D)) {Q : Value → Shared → Prop} (hh : A.handled = none) (hl : s.heap.IsList l items) (hit : items.toList = ks.map (·.1)) (hk : ∀ p ∈ ks, Mb s.heap p.2 p.1 ∧ tupAny p.2 = tp)
    (hfew : ks.length < 64) (hu : A.units + 16 < cLine) (h : ∀ (h' : Heap) (tk : Nat), Left w tp s.heap ks s.heap.objs.size h' → Q (.ref s.heap.objs.size) { s with heap := h', toks := tk }) :
    wpAny (model P w) A (call (.type "set") [.ref l]) Q E s := by
  refine set_shell ks ?_ h
  have hisz : items.size = ks.length := by simpa using congrArg List.length hit
  have hT : Shared.TypeIs { s with heap := s.heap.push (emptySet w) } (.ref s.heap.objs.size) "set" := ⟨_, Heap.get?_push_size _ rfl, rfl⟩
  have hsub := F.called_set.sub
  obtain ⟨ol, hol, hcl, nl, hdl⟩ := hl
  obtain ⟨ocls, odict, odata, oslots⟩ := ol
  simp only at hcl hdl
  subst hcl; subst hdl
  have hol' : (s.heap.push (emptySet w)).get? l = some { cls := .type "list", dict := odict, data := .seq items nl, slots := oslots } := Heap.get?_push_of_some _ hol
  have hsls := F.sub_list_set
  have hslf := F.sub_list_frozenset
  have hne : (Value.type "list" == Value.type "dict") = false := by decide
  have hl1 : (s.heap.push (emptySet w)).IsList l items := ⟨_, hol', rfl, nl, rfl⟩
  have hlS : l < s.heap.objs.size := Heap.lt_size hol
  unfold Builtin.«set.__init__» noKeywords Builtin.Frozenset.updateFrom
  generalize hPI : pyIter = PI
  wp_walk
  subst hPI
  refine wpAny_pyIter_list hl1 ?_
  refine wpAny_bind (wpAny_runValue ?_)
  have hh3 : A.in1.in1.in1.handled = none := by simp [hh]
  have z1 : (s.heap.push (emptySet w)).objs.size = s.heap.objs.size + 1 := Heap.size_push ..
  have hneI : l ≠ (s.heap.push (emptySet w)).objs.size := by rw [z1]; exact Nat.ne_of_lt (Nat.lt_succ_of_lt hlS)
  have hSf : s.heap.objs.size ∉ [(s.heap.push (emptySet w)).objs.size, l] := by
    rw [z1]
    simp only [List.mem_cons, List.not_mem_nil, or_false, not_or]
    exact ⟨Nat.ne_of_lt (Nat.lt_succ_self _), Nat.ne_of_gt hlS⟩
  refine upd_loop (tp := tp) (A := A.in1.in1) ((Walks.list hh3 (s.heap.push (emptySet w)).objs.size l hneI items).toS) s.heap.objs.size hSf ks hisz hfew (items_at hit) s.heap hk (none_at (Nat.le_refl _))
    (fun b hb => none_at (by rw [List.mem_singleton.mp hb, z1]; omega)) (by show A.units + 1 + 1 + 1 + 8 < cLine; omega) (items.size - 0) 0 _ (by omega) (Nat.zero_le _) ⟨⟨_, Heap.get?_push_size _ rfl, rfl, rfl⟩, hl1.push _⟩
    (fun b o e => Heap.get?_push_of_some _ (Heap.get?_push_of_some _ e)) ⟨[], #[], 0, _, setX_new (Heap.get?_push_of_some _ (Heap.get?_push_size _ rfl)), gt_zero ks⟩ ?_
  intro s' L es ep t hm hX g k
  show wpAny _ _ _ _ _ _
  refine wpAny_pure ?_
  exact fill_end hisz (wr := [(s.heap.push (emptySet w)).objs.size]) (fun b hb => by rw [List.mem_singleton.mp hb, z1]; omega) (fun b o e => Heap.get?_push_of_some _ (Heap.get?_push_of_some _ e)) s' L es ep t hm hX g k
/-- set(xs), a tuple -/
theorem set_ofT {l : Addr} {items : Array Value} (ks : List (Value × D)) {Q : Value → Shared → Prop} (hh : A.handled = none) (hl : s.heap.IsTuple l items) (hit : items.toList = ks.map (·.1)) (hk : ∀ p ∈ ks, Mb s.heap p.2 p.1 ∧ tupAny p.2 = tp)
    (hfew : ks.length < 64) (hu : A.units + 16 < cLine) (h : ∀ (h' : Heap) (tk : Nat), Left w tp s.heap ks s.heap.objs.size h' → Q (.ref s.heap.objs.size) { s with heap := h', toks := tk }) :
    wpAny (model P w) A (call (.type "set") [.ref l]) Q E s := by
  refine set_shell ks ?_ h
  have hisz : items.size = ks.length := by simpa using congrArg List.length hit
  have hT : Shared.TypeIs { s with heap := s.heap.push (emptySet w) } (.ref s.heap.objs.size) "set" := ⟨_, Heap.get?_push_size _ rfl, rfl⟩
  have hsub := F.called_set.sub
  obtain ⟨ol, hol, hcl, nl, hdl⟩ := hl
  obtain ⟨ocls, odict, odata, oslots⟩ := ol
  simp only at hcl hdl
  subst hcl; subst hdl
  have hol' : (s.heap.push (emptySet w)).get? l = some { cls := .type "tuple", dict := odict, data := .seq items nl, slots := oslots } := Heap.get?_push_of_some _ hol
  have hsls := F.sub_tuple_set
  have hslf := F.sub_tuple_frozenset
  have hne : (Value.type "tuple" == Value.type "dict") = false := by decide
  have hl1 : (s.heap.push (emptySet w)).IsTuple l items := ⟨_, hol', rfl, nl, rfl⟩
  have hlS : l < s.heap.objs.size := Heap.lt_size hol
  unfold Builtin.«set.__init__» noKeywords Builtin.Frozenset.updateFrom
  generalize hPI : pyIter = PI
  wp_walk
  subst hPI
  refine wpAny_pyIter_tuple hl1 ?_
  refine wpAny_bind (wpAny_runValue ?_)
  have hh3 : A.in1.in1.in1.handled = none := by simp [hh]
  have z1 : (s.heap.push (emptySet w)).objs.size = s.heap.objs.size + 1 := Heap.size_push ..
  have hneI : l ≠ (s.heap.push (emptySet w)).objs.size := by rw [z1]; exact Nat.ne_of_lt (Nat.lt_succ_of_lt hlS)
  have hSf : s.heap.objs.size ∉ [(s.heap.push (emptySet w)).objs.size, l] := by
    rw [z1]
    simp only [List.mem_cons, List.not_mem_nil, or_false, not_or]
    exact ⟨Nat.ne_of_lt (Nat.lt_succ_self _), Nat.ne_of_gt hlS⟩
  refine upd_loop (tp := tp) (A := A.in1.in1) ((Walks.tuple hh3 (s.heap.push (emptySet w)).objs.size l hneI items).toS) s.heap.objs.size hSf ks hisz hfew (items_at hit) s.heap hk (none_at (Nat.le_refl _))
    (fun b hb => none_at (by rw [List.mem_singleton.mp hb, z1]; omega)) (by show A.units + 1 + 1 + 1 + 8 < cLine; omega) (items.size - 0) 0 _ (by omega) (Nat.zero_le _) ⟨⟨_, Heap.get?_push_size _ rfl, rfl, rfl⟩, hl1.push _⟩
    (fun b o e => Heap.get?_push_of_some _ (Heap.get?_push_of_some _ e)) ⟨[], #[], 0, _, setX_new (Heap.get?_push_of_some _ (Heap.get?_push_size _ rfl)), gt_zero ks⟩ ?_
  intro s' L es ep t hm hX g k
  show wpAny _ _ _ _ _ _
  refine wpAny_pure ?_
  exact fill_end hisz (wr := [(s.heap.push (emptySet w)).objs.size]) (fun b hb => by rw [List.mem_singleton.mp hb, z1]; omega) (fun b o e => Heap.get?_push_of_some _ (Heap.get?_push_of_some _ e)) s' L es ep t hm hX g k
end
end Ur
end
section
set_option linter.all false
set_option autoImplicit false
set_option maxHeartbeats 1000000
/-! UrF1: the rules of expressions, one a construct. -/
namespace Ur
open PySem L2

section
variable {X : Cx} {P : Prog} {cf : Cf} {W : WX} {XR : Hp → Value → Option Addr → D → Prop}
variable {H : Hp} {σ : L2.St} {st : Stt} {l : List Asn}
/-- an expression run first -/
theorem t1 {α : Type} {a : E} {f : O → Stt → Mo α} {k : α → Stt → Prop} {R : VK} (s : Sl X.K H σ st l) (h : Aft X.K XR W σ l k (bd (ev P cf a st) f))
    (w : ∀ o st1 v H1, Aft X.K XR W σ l k (f o st1) → Sl X.K H1 σ st1 (own X.K v o :: l) → Gh H1 (R v)) : tE X.K XR P cf W a σ H R :=
  ⟨st, l, s, aft_bd X.K XR h fun o st1 h1 v H1 s1 => w o st1 v H1 h1 s1⟩
/-- .. while one thing more is held -/
theorem t1m {α : Type} {A : Asn} {a : E} {f : O → Stt → Mo α} {k : α → Stt → Prop} {R : VK} (s : Sl X.K H σ st (A :: l)) (h : Aft X.K XR W σ l k (bd (ev P cf a st) f))
    (w : ∀ o st1 v H1, Aft X.K XR W σ l k (f o st1) → Sl X.K H1 σ st1 (own X.K v o :: A :: l) → Gh H1 (R v)) : tE X.K XR P cf W a σ H R :=
  ⟨st, A :: l, s, aft_more X.K XR (fun H st q => q.tail) (aft_bd X.K XR h fun o st1 h1 v H1 s1 => w o st1 v H1 h1 s1)⟩
theorem ts1 {α : Type} {es : Es} {f : List O → Stt → Mo α} {k : α → Stt → Prop} {R : List V → Hp → Prop} (s : Sl X.K H σ st l) (h : Aft X.K XR W σ l k (bd (evs P cf es st) f))
    (w : ∀ os st1 vs H1, Aft X.K XR W σ l k (f os st1) → vs.length = os.length → Sl X.K H1 σ st1 (owns X.K vs os ++ l) → Gh H1 (R vs)) : tEs X.K XR P cf W es σ H R :=
  ⟨st, l, s, aft_bd X.K XR h fun o st1 h1 v H1 e s1 => w o st1 v H1 h1 e s1⟩
theorem ts1m {α : Type} {A : Asn} {es : Es} {f : List O → Stt → Mo α} {k : α → Stt → Prop} {R : List V → Hp → Prop} (s : Sl X.K H σ st (A :: l)) (h : Aft X.K XR W σ l k (bd (evs P cf es st) f))
    (w : ∀ os st1 vs H1, Aft X.K XR W σ l k (f os st1) → vs.length = os.length → Sl X.K H1 σ st1 (owns X.K vs os ++ A :: l) → Gh H1 (R vs)) : tEs X.K XR P cf W es σ H R :=
  ⟨st, A :: l, s, aft_more X.K XR (fun H st q => q.tail) (aft_bd X.K XR h fun o st1 h1 v H1 e s1 => w o st1 v H1 h1 e s1)⟩
/-- both frozen -/
theorem Sl.fz2 {x y : O} {vx vy : V} (s : Sl X.K H σ st (own X.K vy y :: own X.K vx x :: l)) : Gh H fun H' => Kept H H' ∧ RD X.K H' vx x.fz ∧ RD X.K H' vy y.fz ∧ Sl X.K H' σ st l :=
  s.fz.bind fun H1 ⟨k1, r1, s1⟩ => s1.fz.imp fun H2 ⟨k2, r2, s2⟩ => ⟨k1.trans k2, r2, r1.kept k2, s2⟩
theorem Sl.fz3 {x y z : O} {vx vy vz : V} (s : Sl X.K H σ st (own X.K vz z :: own X.K vy y :: own X.K vx x :: l)) : Gh H fun H' => Kept H H' ∧ RD X.K H' vx x.fz ∧ RD X.K H' vy y.fz ∧ RD X.K H' vz z.fz ∧ Sl X.K H' σ st l :=
  s.fz.bind fun H1 ⟨k1, r1, s1⟩ => s1.fz2.imp fun H2 ⟨k2, r2, r3, s2⟩ => ⟨k1.trans k2, r2, r3, r1.kept k2, s2⟩
theorem aft_lf {o : Option O} {k : O → Stt → Prop} (h : Aft X.K XR W σ l k (lf o st)) : ∃ x, o = some x ∧ k x st := by
  cases o with
  | none => exact h.elim
  | some x => exact ⟨x, rfl, h⟩
theorem aft_lfd {o : Option D} {k : O → Stt → Prop} (h : Aft X.K XR W σ l k (lfd o st)) : ∃ x, o = some x ∧ k (.dat x) st := by
  cases o with
  | none => exact h.elim
  | some x => exact ⟨x, rfl, h⟩

/-! ### constants, names -/
def constOk : D → Const → Bool
  | .none, .none => true
  | .bool a, .bool b => a == b
  | .int i, .int j => decide (i = j)
  | .str x, .str y => decide (x = y) && PyData.strOk x && decide (x.length ≤ top)
  | _, _ => false
theorem r_lit {d : D} {c : Const} {j : Nat} {pos : Pos} (h : constOk d c = true) : PE X (.Constant c j pos) (tE X.K XR P cf W (.lit d)) := by
  have go : ∀ (v : V), (∀ H, RD X.K H v d) → PE X (.Constant c j pos) (tC v) → PE X (.Constant c j pos) (tE X.K XR P cf W (.lit d)) := fun v r p => pe_to p fun σ H Q ⟨st, l, s, a⟩ => a v H (s.dat (r H))
  unfold constOk at h
  split at h
  · exact go .non (fun _ => .non) pe_non
  · rename_i a b
    have e : a = b := by simpa using h
    subst e
    exact go (.bl a) (fun _ => .bl a) pe_bl
  · rename_i a b
    have e : a = b := by simpa using h
    subst e
    exact go (.int a) (fun _ => .int a) pe_int
  · rename_i x y
    simp only [Bool.and_eq_true, decide_eq_true_eq] at h
    obtain ⟨⟨e, h1⟩, h2⟩ := h
    subst e
    exact go (.str x) (fun _ => .str x h1 h2) pe_str
  · cases h
theorem r_var {i : Nat} {x : Str} {pos : Pos} (hN : X.N[i]? = some x) (hv : Vis X.env.scope x) (hd : (x == ("__debug__" : Str)) = false) (hcd : (x == ("__classdict__" : Str)) = false) : PE X (.Name x pos) (tE X.K XR P cf W (.var i)) :=
  pe_to (pe_var hN hv hd hcd) fun σ H Q ⟨st, l, s, a⟩ => by
    have a : Aft X.K XR W σ l _ (getF i st) := a
    unfold getF at a
    split at a
    · rename_i o ho
      obtain ⟨v, hv, s1⟩ := s.take ho
      refine ⟨v, hv, (s1.fz).bind fun H1 ⟨k, r, s2⟩ => ?_⟩
      exact a v H1 (((s2.dat r).back hv).dat r)
    · exact a.elim

/-! ### lists of expressions -/
theorem r_nil : PA X [] (tEs X.K XR P cf W .nil) := pa_to pa_nil fun σ H Q ⟨st, l, s, a⟩ => a [] H rfl s
theorem r_cons {e : E} {es : Es} {e' : Expr} {es' : List Expr} (he : PE X e' (tE X.K XR P cf W e)) (hes : PA X es' (tEs X.K XR P cf W es)) (hs : starEach (e' :: es') X.env = (false, eval e' X.env) :: starEach es' X.env) :
    PA X (e' :: es') (tEs X.K XR P cf W (.cons e es)) :=
  pa_to (pa_cons he hes hs) fun σ H Q ⟨st, l, s, a⟩ => by
    have a : Aft X.K XR W σ l _ (bd (ev P cf e st) fun o s => bd (evs P cf es s) fun os s => some (.ok (o :: os), s)) := a
    refine t1 s a fun o st1 v H1 a1 s1 => .now ?_
    refine ts1m s1 a1 fun os st2 vs H2 a2 hl s2 => .now ?_
    have a2 : ∀ ws H', ws.length = (o :: os).length → Sl X.K H' σ st2 (owns X.K ws (o :: os) ++ l) → Gh H' (Q ws) := a2
    refine a2 (v :: vs) H2 (by simp [hl]) (s2.perm ?_)
    show (owns X.K vs os ++ own X.K v o :: l).Perm (own X.K v o :: (owns X.K vs os ++ l))
    exact List.perm_middle
theorem evs_fz {os : List O} {vs : List V} (s : Sl X.K H σ st (owns X.K vs os ++ l)) (e : vs.length = os.length) : Gh H fun H' => Kept H H' ∧ RDs X.K H' vs (fzs os) ∧ Sl X.K H' σ st l := s.fzs e

/-! ### displays, operators -/
theorem fzs_length : ∀ os : List O, (fzs os).length = os.length
  | [] => rfl
  | _ :: r => by rw [fzs, List.length_cons, List.length_cons, fzs_length r]
/-- how many there are -/
def Es.len : Es → Nat
  | .nil => 0
  | .cons _ r => r.len + 1
theorem evs_len : ∀ (es : Es) {st st' : Stt} {os : List O}, evs P cf es st = some (.ok os, st') → os.length = es.len
  | .nil, st, st', os, h => by
    rw [evs] at h
    simp only [Option.some.injEq, Prod.mk.injEq, Rs.ok.injEq] at h
    rw [← h.1]; rfl
  | .cons e r, st, st', os, h => by
    rw [evs] at h
    cases e1 : ev P cf e st with
    | none => rw [e1] at h; cases h
    | some p =>
      obtain ⟨x, s1⟩ := p
      rw [e1] at h
      cases x with
      | ex x => cases h
      | ok x =>
        rw [bd_ok] at h
        cases e2 : evs P cf r s1 with
        | none => rw [e2] at h; cases h
        | some p =>
          obtain ⟨y, s2⟩ := p
          rw [e2] at h
          cases y with
          | ex y => cases h
          | ok y =>
            rw [bd_ok] at h
            simp only [Option.some.injEq, Prod.mk.injEq, Rs.ok.injEq] at h
            rw [← h.1, List.length_cons, evs_len r e2]; rfl
theorem aft_len {es : Es} {α : Type} {f : List O → Stt → Mo α} {k : α → Stt → Prop} (h : Aft X.K XR W σ l k (bd (evs P cf es st) f)) : Aft X.K XR W σ l k (bd (evs P cf es st) fun os s => if os.length = es.len then f os s else none) := by
  cases e : evs P cf es st with
  | none => rw [e] at h; exact h
  | some p =>
    obtain ⟨y, s1⟩ := p
    rw [e] at h
    cases y with
    | ex y => exact h
    | ok y =>
      show Aft X.K XR W σ l k (if y.length = es.len then f y s1 else none)
      rw [if_pos (evs_len es e)]
      exact h
theorem r_tup {es : Es} {es' : List Expr} {j : Nat} {pos : Pos} (h : PA X es' (tEs X.K XR P cf W es)) (hz : es.len ≤ top) : PE X (.Tuple es' j pos) (tE X.K XR P cf W (.tup es)) :=
  pe_to (pe_tup h) fun σ H Q ⟨st, l, s, a⟩ => by
    have a : Aft X.K XR W σ l _ (bd (evs P cf es st) fun os s => rt (O.dat (.tuple (fzs os))) s) := a
    refine ts1 s (aft_len a) fun os st1 vs H1 a1 hl s1 => ?_
    by_cases hn : os.length = es.len
    · rw [if_pos hn] at a1
      refine (s1.fzs hl).bind fun H2 ⟨k2, r2, s2⟩ => .now ⟨by rw [← top_eq]; omega, fun p hp => ?_⟩
      exact a1 (.ref p) _ (.of_top s2.ok (res_tup s2.sa r2 (by omega) hp))
    · rw [if_neg hn] at a1; exact a1.elim
theorem r_lst {es : Es} {es' : List Expr} {pos : Pos} (h : PA X es' (tEs X.K XR P cf W es)) (hz : es.len ≤ top) : PE X (.List es' pos) (tE X.K XR P cf W (.lst es)) :=
  pe_to (pe_lst h) fun σ H Q ⟨st, l, s, a⟩ => by
    have a : Aft X.K XR W σ l _ (bd (evs P cf es st) fun os s => rt (O.lst os) s) := a
    refine ts1 s (aft_len a) fun os st1 vs H1 a1 hl s1 => .now ?_
    by_cases hn : os.length = es.len
    · rw [if_pos hn] at a1
      refine ⟨by rw [← top_eq]; omega, fun p hp => ?_⟩
      refine a1 (.ref p) _ (.of_top s1.ok ?_)
      exact Sa.closeL (Sa.perm (Sa.made s1.sa hp (fun z => z)) (.cons _ (by
        rw [← List.append_assoc, ← List.append_assoc]; exact List.perm_append_comm.append_right l))) (by omega) hl
    · rw [if_neg hn] at a1; exact a1.elim
theorem r_bin {op : Bop} {a b : E} {a' b' : Expr} {pos : Pos} (ha : PE X a' (tE X.K XR P cf W a)) (hb : PE X b' (tE X.K XR P cf W b)) : PE X (.BinOp a' (pyB op) b' pos) (tE X.K XR P cf W (.bin op a b)) :=
  pe_to (pe_op opB ha hb) fun σ H Q ⟨st, l, s, h⟩ => by
    have h : Aft X.K XR W σ l _ (bd (ev P cf a st) fun x s => bd (ev P cf b s) fun y s => lf (binD op x.fz y.fz) s) := h
    refine t1 s h fun x st1 vx H1 h1 s1 => .now ?_
    refine t1m s1 h1 fun y st2 vy H2 h2 s2 => s2.fz2.imp fun H3 ⟨k3, rx, ry, s3⟩ => ?_
    obtain ⟨o, eo, h3⟩ := aft_lf h2
    exact ⟨_, _, o, _, rx, ry, eo, s3.sa, fun v H4 s4 => h3 v H4 (.of_top s3.ok s4)⟩
theorem r_neg {a : E} {a' : Expr} {pos : Pos} (ha : PE X a' (tE X.K XR P cf W a)) : PE X (.UnaryOp .USub a' pos) (tE X.K XR P cf W (.neg a)) :=
  pe_to (pe_un un_neg ha) fun σ H Q ⟨st, l, s, h⟩ => by
    have h : Aft X.K XR W σ l _ (bd (ev P cf a st) fun x s => match x.fz with
      | .int i => rt (O.dat (.int (-i))) s
      | _ => none) := h
    refine t1 s h fun x st1 vx H1 h1 s1 => s1.fz.imp fun H2 ⟨k2, r2, s2⟩ => ?_
    generalize x.fz = d at h1 r2
    cases r2 with
    | int i => exact ⟨i, rfl, h1 _ _ (s2.dat (.int _))⟩
    | _ => exact h1.elim
theorem r_cmp (hr : ∃ n, Room n X.A) {op : Cop} {a b : E} {a' b' : Expr} {pos : Pos} (ha : PE X a' (tE X.K XR P cf W a)) (hb : PE X b' (tE X.K XR P cf W b)) (hm : behindInMarks (pyC op) b' = false) : PE X (.Compare a' [pyC op] [b'] pos) (tE X.K XR P cf W (.cmp op a b)) := by
  obtain ⟨n, hr⟩ := hr
  refine pe_to (pe_cmpR (opC hr) ha hb hm) fun σ H Q ⟨st, l, s, h⟩ => ?_
  have h : Aft X.K XR W σ l _ (bd (ev P cf a st) fun x s => bd (ev P cf b s) fun y s => lfd ((cmpD op x.fz y.fz).map .bool) s) := h
  refine t1 s h fun x st1 vx H1 h1 s1 => .now ?_
  refine t1m s1 h1 fun y st2 vy H2 h2 s2 => s2.fz2.imp fun H3 ⟨k3, rx, ry, s3⟩ => ?_
  obtain ⟨d, ed, h3⟩ := aft_lfd h2
  obtain ⟨c, ec, rfl⟩ := Option.map_eq_some_iff.mp ed
  exact ⟨_, _, c, rx, ry, ec, h3 (.bl c) _ (s3.dat (.bl c))⟩
theorem r_cmpT (hr : ∃ n, Room n X.A) {op : Cop} {a b : E} {a' b' : Expr} {pos : Pos} (ha : PE X a' (tE X.K XR P cf W a)) (hb : PE X b' (tE X.K XR P cf W b)) (hm : behindInMarks (pyC op) b' = false) : PT X (.Compare a' [pyC op] [b'] pos) (tT X.K XR P cf W (.cmp op a b)) := by
  obtain ⟨n, hr⟩ := hr
  refine pt_to (pt_cmpR (opC hr) ha hb hm) fun σ H Q ⟨st, l, s, h⟩ => ?_
  have h : Aft X.K XR W σ l _ (tst (bd (ev P cf a st) fun x s => bd (ev P cf b s) fun y s => lfd ((cmpD op x.fz y.fz).map .bool) s)) := h
  have h' : Aft X.K XR W σ l (fun b st' => ∀ H', Sl X.K H' σ st' l → Gh H' (Q b)) (bd (ev P cf a st) fun x s => bd (ev P cf b s) fun y s => match cmpD op x.fz y.fz with
    | some c => some (.ok c, s)
    | none => none) := by
    refine cast ?_ h
    congr 1
    unfold tst bd
    cases ev P cf a st with
    | none => rfl
    | some p =>
      obtain ⟨r, s1⟩ := p
      cases r with
      | ex x => rfl
      | ok x =>
        dsimp only
        cases ev P cf b s1 with
        | none => rfl
        | some p2 =>
          obtain ⟨r2, s2⟩ := p2
          cases r2 with
          | ex x => rfl
          | ok y =>
            dsimp only
            cases cmpD op x.fz y.fz with
            | none => rfl
            | some c => rfl
  refine t1 s h' fun x st1 vx H1 h1 s1 => .now ?_
  refine t1m s1 h1 fun y st2 vy H2 h2 s2 => s2.fz2.bind fun H3 ⟨k3, rx, ry, s3⟩ => .now ?_
  split at h2
  · rename_i c ec
    exact ⟨_, _, c, rx, ry, ec, c, rfl, h2 _ s3⟩
  · exact h2.elim
end
end Ur
end
section
set_option linter.all false
set_option autoImplicit false
set_option maxHeartbeats 1000000
/-! UrF2: truth, choices, subscripts, built-in functions. -/
namespace Ur
open PySem L2

section
variable {X : Cx} {P : Prog} {cf : Cf} {W : WX} {XR : Hp → Value → Option Addr → D → Prop}
variable {H : Hp} {σ : L2.St} {st : Stt} {l : List Asn}
theorem truO {v : V} {o : O} {b : Bool} (s : Sa H (own X.K v o :: l)) (e : truD o.fz = some b) : TruV X.K v H b := by
  cases o with
  | dat d => exact truD_ok s.rd e
  | lst os =>
    obtain ⟨a, xs, rfl, hl, z, s⟩ := s.openL
    rw [O.fz] at e
    simp only [truD, Option.some.injEq] at e
    subst e
    exact .inl ⟨xs, SqL.of s.pt_get, emp_of (by rw [fzs_length, hl])⟩
  | dK os => simp [O.fz, truD] at e
  | dT os => simp [O.fz, truD] at e
theorem tst_bd {m : Mo O} {f : O → Stt → Mo O} : tst (bd m f) = bd m fun o s => tst (f o s) := by
  unfold tst bd
  cases m with
  | none => rfl
  | some p =>
    obtain ⟨r, s⟩ := p
    cases r <;> rfl
/-- a value's truth -/
theorem rT_val {e : E} {e' : Expr} (he : PE X e' (tE X.K XR P cf W e)) (hp : ∀ whole, isTrue e' X.env whole = (do let v ← whole; standAt e'.pos; holding [v] (truthy v))) : PT X e' (tT X.K XR P cf W e) :=
  pt_to (pt_truth he hp) fun σ H Q ⟨st, l, s, h⟩ => by
    have h : Aft X.K XR W σ l _ (bd (ev P cf e st) fun o s => match truD o.fz with
      | some b => some (.ok b, s)
      | none => none) := h
    refine t1 s h fun o st1 v H1 h1 s1 => .now ?_
    split at h1
    · rename_i b eb
      exact ⟨b, truO s1.top eb, h1 H1 s1.tail⟩
    · exact h1.elim
theorem r_not {a : E} {a' : Expr} {pos : Pos} (ha : PE X a' (tE X.K XR P cf W a)) : PE X (.UnaryOp .Not a' pos) (tE X.K XR P cf W (.nt a)) :=
  pe_to (pe_notT ha) fun σ H Q ⟨st, l, s, h⟩ => by
    have h : Aft X.K XR W σ l _ (bd (ev P cf a st) fun x s => lfd ((truD x.fz).map fun b => .bool !b) s) := h
    refine t1 s h fun o st1 v H1 h1 s1 => .now ?_
    obtain ⟨d, ed, h2⟩ := aft_lfd h1
    obtain ⟨b, eb, rfl⟩ := Option.map_eq_some_iff.mp ed
    exact ⟨b, truO s1.top eb, h2 (.bl !b) H1 (s1.tail.dat (.bl _))⟩
theorem rT_not {a : E} {a' : Expr} {pos : Pos} (ha : PT X a' (tT X.K XR P cf W a)) : PT X (.UnaryOp .Not a' pos) (tT X.K XR P cf W (.nt a)) :=
  pt_to (pt_not ha) fun σ H Q ⟨st, l, s, h⟩ => by
    have h : Aft X.K XR W σ l _ (tst (bd (ev P cf a st) fun x s => lfd ((truD x.fz).map fun b => .bool !b) s)) := h
    refine ⟨st, l, s, ?_⟩
    unfold tst at h ⊢
    cases e : ev P cf a st with
    | none => rw [e] at h; exact h
    | some p =>
      obtain ⟨r, s1⟩ := p
      rw [e] at h
      cases r with
      | ex x => exact h
      | ok x =>
        rw [bd_ok] at h ⊢
        cases eb : truD x.fz with
        | none => rw [eb] at h; exact h
        | some b =>
          rw [eb] at h
          intro H' s'
          exact .now (h H' s')
theorem r_and {a b : E} {a' b' : Expr} {rest : List Expr} {pos : Pos} (ha : PE X a' (tE X.K XR P cf W a)) (hb : PE X (.BoolOp .And (b' :: rest) pos) (tE X.K XR P cf W b)) : PE X (.BoolOp .And (a' :: b' :: rest) pos) (tE X.K XR P cf W (.and a b)) :=
  pe_to (pe_andT ha hb) fun σ H Q ⟨st, l, s, h⟩ => by
    have h : Aft X.K XR W σ l _ (bd (ev P cf a st) fun x s => match truD x.fz with
      | some true => ev P cf b s
      | some false => rt x s
      | none => none) := h
    refine t1 s h fun o st1 v H1 h1 s1 => .now ?_
    split at h1
    · rename_i eb
      refine ⟨true, truO s1.top eb, ?_⟩
      rw [if_pos rfl]
      refine ⟨st1, l, s1.tail, aft_imp X.K XR h1 fun o st' hk v H' s' => .now (hk v H' s')⟩
    · rename_i eb
      refine ⟨false, truO s1.top eb, ?_⟩
      rw [if_neg (by simp)]
      exact h1 v H1 s1
    · exact h1.elim
theorem r_or {a b : E} {a' b' : Expr} {rest : List Expr} {pos : Pos} (ha : PE X a' (tE X.K XR P cf W a)) (hb : PE X (.BoolOp .Or (b' :: rest) pos) (tE X.K XR P cf W b)) : PE X (.BoolOp .Or (a' :: b' :: rest) pos) (tE X.K XR P cf W (.or a b)) :=
  pe_to (pe_orT ha hb) fun σ H Q ⟨st, l, s, h⟩ => by
    have h : Aft X.K XR W σ l _ (bd (ev P cf a st) fun x s => match truD x.fz with
      | some true => rt x s
      | some false => ev P cf b s
      | none => none) := h
    refine t1 s h fun o st1 v H1 h1 s1 => .now ?_
    split at h1
    · rename_i eb
      refine ⟨true, truO s1.top eb, ?_⟩
      rw [if_pos rfl]
      exact h1 v H1 s1
    · rename_i eb
      refine ⟨false, truO s1.top eb, ?_⟩
      rw [if_neg (by simp)]
      refine ⟨st1, l, s1.tail, aft_imp X.K XR h1 fun o st' hk v H' s' => .now (hk v H' s')⟩
    · exact h1.elim
theorem r_one {a : E} {a' : Expr} {op : BoolOp} {pos : Pos} (ha : PE X a' (tE X.K XR P cf W a)) : PE X (.BoolOp op [a'] pos) (tE X.K XR P cf W a) := pe_one ha
theorem pw_gh {e : Expr} {t : TT} (h : PW X e t) : PW X e (fun σ H Q => t σ H fun v H' => Gh H' (Q v)) :=
  ⟨fun whole pins s σ H Q I hw => thn (h.run whole pins s σ H _ I hw) fun u s1 ⟨H1, I1, g⟩ => let ⟨H2, I2, q⟩ := g.run I1; ⟨H2, I2, q⟩⟩
theorem pw_to {e : Expr} {t t' : TT} (h : PW X e t) (w : ∀ σ H Q, t' σ H Q → t σ H fun v H' => Gh H' (Q v)) : PW X e t' := ⟨fun whole pins s σ H Q I hw => (pw_gh h).run whole pins s σ H Q I (w σ H Q hw)⟩
theorem rW_and {a b : E} {a' b' : Expr} {rest : List Expr} {pos : Pos} (ha : PT X a' (tT X.K XR P cf W a)) (hb : PW X (.BoolOp .And (b' :: rest) pos) (tT X.K XR P cf W b)) : PW X (.BoolOp .And (a' :: b' :: rest) pos) (tT X.K XR P cf W (.and a b)) :=
  pw_to (pw_and ha hb) fun σ H Q ⟨st, l, s, h⟩ => by
    have h : Aft X.K XR W σ l _ (tst (bd (ev P cf a st) fun x s => match truD x.fz with
      | some true => ev P cf b s
      | some false => rt x s
      | none => none)) := h
    refine ⟨st, l, s, ?_⟩
    rw [tst_bd] at h
    unfold tst
    cases e : ev P cf a st with
    | none => rw [e] at h; exact h
    | some p =>
      obtain ⟨r, s1⟩ := p
      rw [e] at h
      cases r with
      | ex x => exact h
      | ok x =>
        rw [bd_ok] at h ⊢
        cases eb : truD x.fz with
        | none => rw [eb] at h; exact h
        | some b =>
          rw [eb] at h
          cases b with
          | true =>
            intro H' s'
            refine .now ?_
            show tT X.K XR P cf W _ σ H' _
            exact ⟨s1, l, s', aft_imp X.K XR h fun o st' hk H2 s2 => .now (hk H2 s2)⟩
          | false =>
            intro H' s'
            refine .now ?_
            show Gh H' (Q _)
            have h : Aft X.K XR W σ l _ (tst (rt x s1)) := h
            unfold tst rt at h
            rw [bd_ok, eb] at h
            exact h H' s'
theorem rW_or {a b : E} {a' b' : Expr} {rest : List Expr} {pos : Pos} (ha : PT X a' (tT X.K XR P cf W a)) (hb : PW X (.BoolOp .Or (b' :: rest) pos) (tT X.K XR P cf W b)) : PW X (.BoolOp .Or (a' :: b' :: rest) pos) (tT X.K XR P cf W (.or a b)) :=
  pw_to (pw_or ha hb) fun σ H Q ⟨st, l, s, h⟩ => by
    have h : Aft X.K XR W σ l _ (tst (bd (ev P cf a st) fun x s => match truD x.fz with
      | some true => rt x s
      | some false => ev P cf b s
      | none => none)) := h
    refine ⟨st, l, s, ?_⟩
    rw [tst_bd] at h
    unfold tst
    cases e : ev P cf a st with
    | none => rw [e] at h; exact h
    | some p =>
      obtain ⟨r, s1⟩ := p
      rw [e] at h
      cases r with
      | ex x => exact h
      | ok x =>
        rw [bd_ok] at h ⊢
        cases eb : truD x.fz with
        | none => rw [eb] at h; exact h
        | some b =>
          rw [eb] at h
          cases b with
          | true =>
            intro H' s'
            refine .now ?_
            show Gh H' (Q _)
            have h : Aft X.K XR W σ l _ (tst (rt x s1)) := h
            unfold tst rt at h
            rw [bd_ok, eb] at h
            exact h H' s'
          | false =>
            intro H' s'
            refine .now ?_
            show tT X.K XR P cf W _ σ H' _
            exact ⟨s1, l, s', aft_imp X.K XR h fun o st' hk H2 s2 => .now (hk H2 s2)⟩
theorem r_ite {c a b : E} {c' a' b' : Expr} {pos : Pos} (hc : PT X c' (tT X.K XR P cf W c)) (ha : PE X a' (tE X.K XR P cf W a)) (hb : PE X b' (tE X.K XR P cf W b)) : PE X (.IfExp c' a' b' pos) (tE X.K XR P cf W (.ite c a b)) :=
  pe_to (pe_ifExp hc ha hb) fun σ H Q ⟨st, l, s, h⟩ => by
    have h : Aft X.K XR W σ l _ (bd (ev P cf c st) fun x s => match truD x.fz with
      | some true => ev P cf a s
      | some false => ev P cf b s
      | none => none) := h
    refine ⟨st, l, s, ?_⟩
    unfold tst
    cases e : ev P cf c st with
    | none => rw [e] at h; exact h
    | some p =>
      obtain ⟨r, s1⟩ := p
      rw [e] at h
      cases r with
      | ex x => exact h
      | ok x =>
        rw [bd_ok] at h ⊢
        cases eb : truD x.fz with
        | none => rw [eb] at h; exact h
        | some b =>
          rw [eb] at h
          cases b with
          | true =>
            intro H' s'
            refine .now ?_
            show tE X.K XR P cf W _ σ H' _
            exact ⟨s1, l, s', aft_imp X.K XR h fun o st' hk v H2 s2 => .now (hk v H2 s2)⟩
          | false =>
            intro H' s'
            refine .now ?_
            show tE X.K XR P cf W _ σ H' _
            exact ⟨s1, l, s', aft_imp X.K XR h fun o st' hk v H2 s2 => .now (hk v H2 s2)⟩

/-! ### subscripts -/
def plainIx : Expr → Bool
  | .Slice .. => false
  | _ => true
theorem plainIx_ok {b : Expr} (h : plainIx b = true) : PlainIx b := by
  intro o i
  cases b <;> first | rfl | cases h
theorem r_idx (hr : ∃ n, Room n X.A) {a i : E} {a' i' : Expr} {pos : Pos} (ha : PE X a' (tE X.K XR P cf W a)) (hi : PE X i' (tE X.K XR P cf W i)) (hp : plainIx i' = true) : PE X (.Subscript a' i' pos) (tE X.K XR P cf W (.idx a i)) := by
  obtain ⟨n, hr⟩ := hr
  refine pe_to (pe_ix (ixD hr) ha hi (plainIx_ok hp)) fun σ H Q ⟨st, l, s, h⟩ => ?_
  have h : Aft X.K XR W σ l _ (bd (ev P cf a st) fun x s => bd (ev P cf i s) fun y s => lfd (idxD x.fz y.fz) s) := h
  refine t1 s h fun x st1 vx H1 h1 s1 => .now ?_
  refine t1m s1 h1 fun y st2 vy H2 h2 s2 => s2.fz2.imp fun H3 ⟨k3, rx, ry, s3⟩ => ?_
  obtain ⟨d, ed, h3⟩ := aft_lfd h2
  exact ⟨_, _, d, rx, ry, ed, fun v rv => h3 v H3 (s3.dat rv)⟩
variable (P cf W XR) in
/-- a bound of a slice -/
def tO (e : Oe) : TO := fun σ H Q => ∃ st l, Sl X.K H σ st l ∧ Aft X.K XR W σ l (fun o st' => ∃ i, optI o = some i ∧ ∀ H', Sl X.K H' σ st' l → Gh H' (Q i)) (evo P cf e st)
theorem po_gh {e : Option Expr} {t : TO} (h : PO X e t) : PO X e (fun σ H Q => t σ H fun v H' => Gh H' (Q v)) :=
  ⟨fun pins s σ H Q I hw => thn (h.run pins s σ H _ I hw) fun u s1 ⟨v, H1, I1, r1, g⟩ => let ⟨H2, I2, q⟩ := g.run I1; ⟨v, H2, I2, r1, q⟩⟩
theorem po_to {e : Option Expr} {t t' : TO} (h : PO X e t) (w : ∀ σ H Q, t' σ H Q → t σ H fun v H' => Gh H' (Q v)) : PO X e t' := ⟨fun pins s σ H Q I hw => (po_gh h).run pins s σ H Q I (w σ H Q hw)⟩
theorem rO_none : PO X none (tO (X := X) P cf W XR .none) := po_to po_none fun σ H Q ⟨st, l, s, i, e, h⟩ => by
  have e : i = none := (Option.some.inj e).symm
  subst e
  exact h H s
theorem rO_some {e : E} {e' : Expr} (he : PE X e' (tE X.K XR P cf W e)) : PO X (some e') (tO (X := X) P cf W XR (.some e)) := po_to (po_some he) fun σ H Q ⟨st, l, s, h⟩ => by
  have h : Aft X.K XR W σ l _ (bd (ev P cf e st) fun o s => some (.ok (some o.fz), s)) := h
  refine t1 s h fun x st1 vx H1 h1 s1 => s1.fz.imp fun H2 ⟨k2, r2, s2⟩ => ?_
  obtain ⟨i, ei, h1⟩ := h1
  generalize x.fz = d at ei r2
  cases r2 with
  | int j =>
    simp only [optI, Option.some.injEq] at ei
    subst ei
    exact ⟨j, rfl, h1 H2 s2⟩
  | _ => simp [optI, excD] at ei
theorem r_slc {a : E} {lo hi : Oe} {a' : Expr} {lo' hi' : Option Expr} {p2 pos : Pos} (ha : PE X a' (tE X.K XR P cf W a)) (hl : PO X lo' (tO (X := X) P cf W XR lo)) (hh : PO X hi' (tO (X := X) P cf W XR hi)) :
    PE X (.Subscript a' (.Slice lo' hi' none p2) pos) (tE X.K XR P cf W (.slc a lo hi)) :=
  pe_to (pe_slice slD ha hl hh) fun σ H Q ⟨st, l, s, h⟩ => by
    have h : Aft X.K XR W σ l _ (bd (ev P cf a st) fun x s => bd (evo P cf lo s) fun y s => match optI y with
      | some l => bd (evo P cf hi s) fun z s => (match optI z with
        | some u => lf (slcD x.fz l u) s
        | none => none)
      | none => none) := h
    refine t1 s h fun x st1 vx H1 h1 s1 => s1.fz.imp fun H2 ⟨k2, r2, s2⟩ => ?_
    refine ⟨st1, _, s2.dat r2, aft_more X.K XR (fun H st q => q.tail) (aft_bd X.K XR h1 fun y st2 h2 => ?_)⟩
    split at h2
    · rename_i lo1 q1
      refine ⟨lo1, q1, fun H3 s3 => .now ⟨st2, _, s3, aft_more X.K XR (fun H st q => q.tail) (aft_bd X.K XR h2 fun z st3 h3 => ?_)⟩⟩
      split at h3
      · rename_i hi1 q2
        obtain ⟨o, eo, h4⟩ := aft_lf h3
        exact ⟨hi1, q2, fun H4 s4 => .now ⟨_, o, _, s4.rd, eo, s4.tail.sa, fun v H5 s5 => h4 v H5 (.of_top s4.ok s5)⟩⟩
      · exact h3.elim
    · exact h2.elim
end
end Ur
end
section
set_option linter.all false
set_option autoImplicit false
set_option maxHeartbeats 1000000
/-! UrF3: calls. -/
namespace Ur
open PySem L2

/-! ### no star among the arguments -/
def noStar : Expr → Bool
  | .Starred .. => false
  | _ => true
theorem star_cons {e : Expr} {es : List Expr} {env : Env} (h : noStar e = true) : starEach (e :: es) env = (false, eval e env) :: starEach es env := by
  cases e <;> first | rfl | cases h
def noStars : List Expr → Bool
  | [] => true
  | e :: r => noStar e && noStars r
theorem star_any : ∀ {es : List Expr} {pos : Pos} {env : Env}, noStars es = true → (backTo pos (starEach es env)).any (·.1) = false
  | [], _, _, _ => rfl
  | e :: r, pos, env, h => by
    rw [noStars, Bool.and_eq_true] at h
    rw [star_cons h.1]
    show (backTo pos ((false, eval e env) :: starEach r env)).any (·.1) = false
    unfold backTo
    rw [List.map_cons, List.any_cons]
    have := star_any (pos := pos) (env := env) h.2
    unfold backTo at this
    rw [this]
    rfl

def glob (sc : Scope) (x : Str) : Bool := decide (sc.names.lookup x = some .globalImplicit) && !(x == ("__debug__" : Str)) && !(x == ("__name__" : Str))
section
variable {X : Cx} {P : Prog} {cf : Cf} {W : WX} {XR : Hp → Value → Option Addr → D → Prop}
variable {H : Hp} {σ : L2.St} {st : Stt} {l : List Asn}
theorem glob_ok {x : Str} (h : glob X.env.scope x = true) : Gl X x ∧ (x == ("__debug__" : Str)) = false ∧ x ≠ "__name__" := by
  unfold glob at h
  simp only [Bool.and_eq_true, decide_eq_true_eq, Bool.not_eq_true', beq_eq_false_iff_ne] at h
  exact ⟨h.1.1, by simpa using h.1.2, h.2⟩

/-! ### built-in functions -/
def nameB : Bf → Str
  | .len => "len" | .int => "int" | .abs => "abs" | .min => "min" | .max => "max" | .sum => "sum" | .any => "any" | .all => "all"
  | .sorted => "sorted" | .set => "set" | .list => "list" | .tuple => "tuple" | .dict => "dict" | .bool => "bool"
theorem r_bf (hr : ∃ n, Room n X.A) (hc : X.calm = true) {f : Bf} (hf : bfHas f = true) {es : Es} {e' : Expr} {es' : List Expr} {x : Str} {p pos : Pos} (hx : x = nameB f) (hg : glob X.env.scope x = true) (hm : X.mg (nameB f) = none)
    (h : PA X (e' :: es') (tEs X.K XR P cf W es)) (hs : noStars (e' :: es') = true) : PE X (.Call (.Name x p) (e' :: es') [] pos) (tE X.K XR P cf W (.bf f es)) := by
  obtain ⟨n, hr⟩ := hr
  obtain ⟨g1, g2, g3⟩ := glob_ok hg
  subst hx
  rw [noStars, Bool.and_eq_true] at hs
  have main : PE X (.Call (.Name (nameB f) p) (e' :: es') [] pos) (tCB (rF X.K f) (tEs X.K XR P cf W es)) := by
    have cb := bfR hr hc f hf
    cases f <;> first
      | exact pe_callB cb g1 hm (by decide +kernel) h g3 g2 (star_cons hs.1) (star_any hs.2)
      | exact pe_callTy cb g1 hm (by decide +kernel) h g3 g2 (star_cons hs.1) (star_any hs.2)
  refine pe_to main fun σ H Q ⟨st, l, s, h⟩ => ?_
  have h : Aft X.K XR W σ l _ (bd (evs P cf es st) fun os s => lf (bfD f (fzs os)) s) := h
  refine ts1 s h fun os st1 vs H1 h1 hl s1 => (s1.fzs hl).imp fun H2 ⟨k2, r2, s2⟩ => ?_
  obtain ⟨o, eo, h2⟩ := aft_lf h1
  exact ⟨_, o, _, r2, eo, s2.sa, fun v H3 s3 => h2 v H3 (.of_top s2.ok s3)⟩

/-! ### own defs -/
variable (K : PySem.W.Frag) in
/-- what is held of what comes back -/
def ownO : List V → List (Option O) → List Asn
  | v :: vs, some o :: os => own K v o :: ownO vs os
  | _ :: vs, none :: os => ownO vs os
  | _, _ => []
/-- a def's promise, by what its plain reading says -/
def spF (K : PySem.W.Frag) (XR : Hp → Value → Option Addr → D → Prop) (g : List O → Option (Rs O × List (Option O))) (np : Nat) : Sp := fun vs H Q E => ∃ os l, vs.length = np ∧ os.length = np ∧ Sa H (owns K vs os ++ l) ∧
  match g os with
  | some (.ok o, outs) => ∀ v H', Sa H' (own K v o :: (ownO K vs outs ++ l)) → Gh H' (Q v)
  | some (.ex x, outs) => ∀ cls d H', XR H' cls d x → Sa H' (ownO K vs outs ++ l) → Gh H' (E cls d)
  | none => False
/-- how it binds arguments that are named -/
def KwB (fd : FuncData) (ps ks : List Str) : Prop := ∀ (s : Shared) (ws us : List Value), ordL ps ks ws = some us → BindsTo s fd ⟨[], ks.zip ws⟩ (ps.zip us)
/-- a def of the program as it stands in the module -/
structure Dok (X : Cx) (XR : Hp → Value → Option Addr → D → Prop) (k : Nat) (d : Df) (g : List O → Option (Rs O × List (Option O))) : Prop where
  ok : ∃ fa fd, X.mg d.name = some (.ref fa) ∧ PySem.W.keepIn X.K (.ref fa) = true ∧ Binds X.K fd (d.names.take d.np) [] ∧ (∀ ks ∈ d.kws, KwB fd (d.names.take d.np) ks) ∧ FnOk X.prog X.w X.K X.mg X.base (L2.CX X.prog X.w) k fa fd (d.names.take d.np) (spF X.K XR g d.np)

theorem Sl.refill {s : Stt} {i : Nat} {o : O} {v : V} (h : Sl X.K H σ s (own X.K v o :: l)) (hv : σ[i]? = some (some v)) : Sl X.K H σ (s.set i (some o)) l := (h.forget i).back hv
/-- what the arguments are: values, or the slots that are lent -/
def Lent (σ : L2.St) : List V → List (O ⊕ Nat) → Prop
  | [], [] => True
  | v :: vs, .inl _ :: ps => Lent σ vs ps
  | v :: vs, .inr i :: ps => σ[i]? = some (some v) ∧ Lent σ vs ps
  | _, _ => False
variable (K : PySem.W.Frag) in
def ownP : List V → List (O ⊕ Nat) → List Asn
  | v :: vs, .inl o :: ps => own K v o :: ownP vs ps
  | _ :: vs, .inr _ :: ps => ownP vs ps
  | _, _ => []
theorem lend_ok : ∀ {ps : List (O ⊕ Nat)} {vs : List V} {st : Stt} {os : List O} {st' : Stt} {l : List Asn}, Lent σ vs ps → Sl X.K H σ st (ownP X.K vs ps ++ l) → lend ps st = some (os, st') → vs.length = os.length ∧ Sl X.K H σ st' (owns X.K vs os ++ l)
  | [], vs, st, os, st', l, h, s, e => by
    cases vs with
    | cons v vs => exact h.elim
    | nil =>
      simp only [lend, Option.some.injEq, Prod.mk.injEq] at e
      obtain ⟨rfl, rfl⟩ := e
      exact ⟨rfl, s⟩
  | .inl o :: ps, vs, st, os, st', l, h, s, e => by
    cases vs with
    | nil => exact h.elim
    | cons v vs =>
      unfold lend at e
      split at e
      · rename_i os1 s1 e1
        simp only [Option.some.injEq, Prod.mk.injEq] at e
        obtain ⟨rfl, rfl⟩ := e
        have s' : Sl X.K H σ st (ownP X.K vs ps ++ own X.K v o :: l) := s.perm List.perm_middle.symm
        obtain ⟨hl, s2⟩ := lend_ok (ps := ps) h s' e1
        refine ⟨by simp [hl], s2.perm ?_⟩
        show (owns X.K vs os1 ++ own X.K v o :: l).Perm (own X.K v o :: (owns X.K vs os1 ++ l))
        exact List.perm_middle
      · cases e
  | .inr i :: ps, vs, st, os, st', l, h, s, e => by
    cases vs with
    | nil => exact h.elim
    | cons v vs =>
      obtain ⟨hv, h⟩ := h
      unfold lend at e
      split at e
      · rename_i o ho
        split at e
        · rename_i os1 s1 e1
          simp only [Option.some.injEq, Prod.mk.injEq] at e
          obtain ⟨rfl, rfl⟩ := e
          obtain ⟨v', hv', s1'⟩ := s.take ho
          have ev : v' = v := by rw [hv] at hv'; simpa using hv'.symm
          subst ev
          have s' : Sl X.K H σ (st.set i none) (ownP X.K vs ps ++ own X.K v' o :: l) := s1'.perm List.perm_middle.symm
          obtain ⟨hl, s2⟩ := lend_ok (ps := ps) h s' e1
          refine ⟨by simp [hl], s2.perm ?_⟩
          show (owns X.K vs os1 ++ own X.K v' o :: l).Perm (own X.K v' o :: (owns X.K vs os1 ++ l))
          exact List.perm_middle
        · cases e
      · cases e
theorem back_ok : ∀ {ps : List (O ⊕ Nat)} {vs : List V} {outs : List (Option O)} {st st' : Stt} {l : List Asn}, Lent σ vs ps → Sl X.K H σ st (ownO X.K vs outs ++ l) → back (ps.map lentOf) outs st = some st' → Sl X.K H σ st' l
  | [], vs, outs, st, st', l, h, s, e => by
    cases vs with
    | cons v vs => exact h.elim
    | nil =>
      cases outs with
      | nil =>
        simp only [List.map_nil, back, Option.some.injEq] at e
        subst e
        exact s
      | cons o os => simp [back] at e
  | .inl o :: ps, vs, outs, st, st', l, h, s, e => by
    cases vs with
    | nil => exact h.elim
    | cons v vs =>
      cases outs with
      | nil => simp [back, lentOf] at e
      | cons x outs =>
        rw [List.map_cons, lentOf, back] at e
        refine back_ok (ps := ps) (vs := vs) (outs := outs) h ?_ e
        cases x with
        | none => exact s
        | some o => exact Sl.tail (A := own X.K v o) s
  | .inr i :: ps, vs, outs, st, st', l, h, s, e => by
    cases vs with
    | nil => exact h.elim
    | cons v vs =>
      obtain ⟨hv, h⟩ := h
      cases outs with
      | nil => simp [back, lentOf] at e
      | cons x outs =>
        cases x with
        | none => simp [List.map_cons, lentOf, back] at e
        | some o =>
          rw [List.map_cons, lentOf, back] at e
          have s' : Sl X.K H σ st (own X.K v o :: (ownO X.K vs outs ++ l)) := s
          exact back_ok (ps := ps) (vs := vs) (outs := outs) h (s'.refill hv) e

variable (P cf W XR) in
/-- the arguments of a call -/
def tAs (as : As) : TA := fun σ H Q => ∃ st l, Sl X.K H σ st l ∧ Aft X.K XR W σ l (fun ps st' => ∀ vs H', Lent σ vs ps → Sl X.K H' σ st' (ownP X.K vs ps ++ l) → Gh H' (Q vs)) (eva P cf as st)
theorem rA_nil : PA X [] (tAs (X := X) P cf W XR .nil) := pa_to pa_nil fun σ H Q ⟨st, l, s, a⟩ => a [] H trivial s
theorem rA_val {e : E} {as : As} {e' : Expr} {es' : List Expr} (he : PE X e' (tE X.K XR P cf W e)) (hes : PA X es' (tAs (X := X) P cf W XR as)) (hs : noStar e' = true) : PA X (e' :: es') (tAs (X := X) P cf W XR (.val e as)) :=
  pa_to (pa_cons he hes (star_cons hs)) fun σ H Q ⟨st, l, s, a⟩ => by
    have a : Aft X.K XR W σ l _ (bd (ev P cf e st) fun o s => bd (eva P cf as s) fun os s => some (.ok (.inl (.dat o.fz) :: os), s)) := a
    refine t1 s a fun o st1 v H1 a1 s1 => s1.fz.imp fun H2 ⟨k2, r2, s2⟩ => ?_
    refine ⟨st1, _, s2.dat r2, aft_more X.K XR (fun H st q => q.tail) (aft_bd X.K XR a1 fun os st2 a2 vs H3 hl s3 => .now ?_)⟩
    refine a2 (v :: vs) H3 hl (s3.perm ?_)
    show (ownP X.K vs os ++ own X.K v _ :: l).Perm (own X.K v _ :: (ownP X.K vs os ++ l))
    exact List.perm_middle
theorem rA_own {e : E} {as : As} {e' : Expr} {es' : List Expr} (he : PE X e' (tE X.K XR P cf W e)) (hes : PA X es' (tAs (X := X) P cf W XR as)) (hs : noStar e' = true) : PA X (e' :: es') (tAs (X := X) P cf W XR (.own e as)) :=
  pa_to (pa_cons he hes (star_cons hs)) fun σ H Q ⟨st, l, s, a⟩ => by
    have a : Aft X.K XR W σ l _ (bd (ev P cf e st) fun o s => bd (eva P cf as s) fun os s => some (.ok (.inl o :: os), s)) := a
    refine t1 s a fun o st1 v H1 a1 s1 => .now ?_
    refine ⟨st1, _, s1, aft_more X.K XR (fun H st q => q.tail) (aft_bd X.K XR a1 fun os st2 a2 vs H3 hl s3 => .now ?_)⟩
    refine a2 (v :: vs) H3 hl (s3.perm ?_)
    show (ownP X.K vs os ++ own X.K v _ :: l).Perm (own X.K v _ :: (ownP X.K vs os ++ l))
    exact List.perm_middle
/-- a slot that is lent must hold something: its name is read -/
theorem rA_ref {i : Nat} {x : Str} {p : Pos} {as : As} {es' : List Expr} (hN : X.N[i]? = some x) (hv : Vis X.env.scope x) (hd : (x == ("__debug__" : Str)) = false) (hcd : (x == ("__classdict__" : Str)) = false) (hes : PA X es' (tAs (X := X) P cf W XR as)) :
    PA X (.Name x p :: es') (tAs (X := X) P cf W XR (.ref i as)) := by
  refine pa_to (pa_cons (pe_var hN hv hd hcd) hes (star_cons rfl)) fun σ H Q ⟨st, l, s, a⟩ => ?_
  have a : Aft X.K XR W σ l _ (match get st i with
    | some _ => bd (eva P cf as st) fun os s => some (.ok (.inr i :: os), s)
    | none => none) := a
  split at a
  · rename_i o ho
    obtain ⟨v, hv, _⟩ := s.take ho
    refine ⟨v, hv, st, l, s, aft_bd X.K XR a fun os st2 a2 vs H3 hl s3 => .now ?_⟩
    exact a2 (v :: vs) H3 ⟨hv, hl⟩ s3
  · exact a.elim
theorem pe_call0S {CX : CXT} {k : Nat} {f : Addr} {fd : FuncData} {ps : List Str} {sp : Sp} {E : L2.St → XK} {x : Str} {p pos : Pos} (F : FnOk X.prog X.w X.K X.mg X.base CX k f fd ps sp) (hr : Room k X.A) (hg : Gl X x) (hm : X.mg x = some (.ref f)) (hk : PySem.W.keepIn X.K (.ref f) = true)
    (hb : Binds X.K fd ps []) (hx : ∀ σ, PassesAt CX X σ (E σ)) (hdb : (x == ("__debug__" : Str)) = false) : PE X (.Call (.Name x p) [] [] pos) (tCallS sp E tNil) := by
  refine ⟨fun pins s σ H Q I h => ?_⟩
  refine wpAny_Call_Name_kw (ld_glob I hg hm ?_ hdb)
  exact PySem.W.callWith_K0 I.kIn hk (run_fnS (us := []) F hr hb (hx σ) I .nil h)
/-- the call itself -/
theorem call_sp {f : Nat} {np : Nat} {ps : List (O ⊕ Nat)} {vs : List V} {Q : VK} (hl : Lent σ vs ps) (s : Sl X.K H σ st (ownP X.K vs ps ++ l))
    (hn : ∀ os, (cf f os).isSome = true → os.length = np)
    (h : Aft X.K XR W σ l (fun o st' => ∀ v H', Sl X.K H' σ st' (own X.K v o :: l) → Gh H' (Q v)) (match lend ps st with
      | some (os, s') => callD cf f os (ps.map lentOf) s'
      | none => none)) : spF X.K XR (cf f) np vs H (fun v H' => Gh H' (Q v)) (WE W σ) := by
  split at h
  · rename_i os s' e
    obtain ⟨hlen, s1⟩ := lend_ok hl s e
    unfold callD at h
    have fr : ∀ {m : List Asn}, Sl X.K H σ s' (m ++ l) → Sa H (m ++ (slots X.K σ s' ++ l)) := fun {m} q => q.sa.comm
    split at h
    · rename_i o outs ec
      have hln := hn os (by rw [ec]; rfl)
      refine ⟨os, _, by omega, hln, fr s1, ?_⟩
      rw [ec]
      intro v H' sa
      split at h
      · rename_i s2 eb
        have h : ∀ v H', Sl X.K H' σ s2 (own X.K v o :: l) → Gh H' (Q v) := h
        have q : Sl X.K H' σ s' (ownO X.K vs outs ++ own X.K v o :: l) := by
          refine ⟨s1.ok, sa.perm ?_⟩
          rw [← List.append_assoc, ← List.append_assoc]
          refine (List.perm_middle.symm).trans ?_
          exact List.perm_append_comm.append_right _
        exact .now (h v H' (back_ok hl q eb))
      · exact h.elim
    · rename_i x outs ec
      have hln := hn os (by rw [ec]; rfl)
      refine ⟨os, _, by omega, hln, fr s1, ?_⟩
      rw [ec]
      intro cls d H' xr sa
      split at h
      · rename_i s2 eb
        have h : ∀ cls d H, XR H cls d x → Sl X.K H σ s2 l → Gh H (W cls d σ) := h
        exact h cls d H' xr (back_ok hl ⟨s1.ok, sa.comm⟩ eb)
      · exact h.elim
    · exact h.elim
  · exact h.elim
theorem r_call0 (tk : Takes X W) {k : Nat} (hr : Room k X.A) {f : Nat} {d : Df} {x : Str} {p pos : Pos} (hd : Dok X XR k d (cf f)) (hn : ∀ os, (cf f os).isSome = true → os.length = d.np) (hx : x = d.name) (hg : glob X.env.scope x = true) :
    PE X (.Call (.Name x p) [] [] pos) (tE X.K XR P cf W (.call x f .nil)) := by
  obtain ⟨fa, fd, hm, hk, hb, _, F⟩ := hd.ok
  obtain ⟨g1, g2, g3⟩ := glob_ok hg
  subst hx
  refine pe_to (pe_call0S F hr g1 hm hk hb (passAt tk) g2) fun σ H Q ⟨st, l, s, h⟩ => ?_
  have h : Aft X.K XR W σ l _ (match lend [] st with
    | some (os, s') => callD cf f os (([] : List (O ⊕ Nat)).map lentOf) s'
    | none => none) := h
  exact call_sp (ps := []) (vs := []) trivial s hn h
theorem r_call (tk : Takes X W) {k : Nat} (hr : Room k X.A) {f : Nat} {d : Df} {x : Str} {as : As} {e' : Expr} {es' : List Expr} {p pos : Pos} (hd : Dok X XR k d (cf f)) (hn : ∀ os, (cf f os).isSome = true → os.length = d.np) (hx : x = d.name) (hg : glob X.env.scope x = true) (h : PA X (e' :: es') (tAs (X := X) P cf W XR as)) (hs : noStars (e' :: es') = true) :
    PE X (.Call (.Name x p) (e' :: es') [] pos) (tE X.K XR P cf W (.call x f as)) := by
  obtain ⟨fa, fd, hm, hk, hb, _, F⟩ := hd.ok
  obtain ⟨g1, g2, g3⟩ := glob_ok hg
  subst hx
  rw [noStars, Bool.and_eq_true] at hs
  refine pe_to (pe_callS F hr g1 hm hk hb (passAt tk) h g2 (star_cons hs.1) (star_any hs.2)) fun σ H Q ⟨st, l, s, h⟩ => ?_
  have h : Aft X.K XR W σ l _ (bd (eva P cf as st) fun ps s => match lend ps s with
    | some (os, s') => callD cf f os (ps.map lentOf) s'
    | none => none) := h
  exact ⟨st, l, s, aft_bd X.K XR h fun ps st1 h1 vs H1 hl s1 => .now (call_sp hl s1 hn h1)⟩
end
end Ur
end
section
set_option linter.all false
set_option autoImplicit false
set_option maxRecDepth 10000
/-! UrS9: sorted(set(xs)), len(set(xs)). -/
namespace Ur
open PySem L2 PyProof.Rows
theorem each_of {F : Value → D → Prop} : ∀ {L : List (Value × D)}, (∀ p ∈ L, F p.1 p.2) → PySem.W.EachIs F (L.map (·.1)) (L.map (·.2))
  | [], _ => .nil
  | p :: L, h => .cons (h p List.mem_cons_self) (each_of fun q hq => h q (List.mem_cons_of_mem _ hq))
section
variable {X : Cx} {n : Nat} {pins : List (Addr × Obj)} {σ : L2.St} {H : Hp} {s : Shared}
/-- sorted of a set -/
theorem sort_set (hr : Room n X.A) (hc : X.calm = true) (I : Inv X pins σ H s) {tp : Bool} {a : Addr} {L : List (Value × D)} {es : Array (Int × Value)} {ep : Nat} {t : SetTable} (R : SetX X.w tp s.heap a L es ep t)
    (hv : ∀ p ∈ L, ∃ x, RelV x p.1 ∧ RD X.K H x p.2) (hs : sortable (L.map (·.2)) = true) {Q : VK}
    (q : ∀ p ys ds, ds.Perm (L.map (·.2)) → H p = none → RDs X.K H ys (isort ds) → Q (.ref p) (upd H p (.lst ys))) : wpAny (model X.prog X.w) X.A (call (.builtin "sorted") [.ref a]) (EP X pins σ Q) X.xe s := by
  obtain ⟨o, h1, h2, h3⟩ := R.ob
  have sz := R.size
  have few := R.few
  have hu := hr.un
  have tl : 128 ≤ sizeLine := by rw [sizeLine_eq]; omega
  obtain ⟨al, so, dp, pl⟩ := sortable_ok hs
  refine Calls.call_function_entry kind_sorted plain_sorted entry_sorted (args_sorted1 _) ?_
  unfold Builtin.«sorted»
  refine wpAny_bind (m := checkCount "sorted" 1 1 _) (wpAny_pure ?_)
  refine wpAny_bind (collect_set (A := X.A.in1) (I.ok.hd hc) ⟨o, h1, h2.1, h3⟩ R.fits (by unfold scanBound; omega) R.ris R.led fun s1 vs k1 hz g1 o1 pm => ?_)
  have pm1 : vs.Perm (L.map (·.1)) := by
    rw [R.rows, List.map_map] at pm
    exact pm
  obtain ⟨L1, rfl, p1⟩ := perm_map pm1 L rfl
  have p2 := p1.map (·.2)
  have mem : ∀ d, d ∈ L1.map (·.2) → d ∈ L.map (·.2) := fun d h => p2.mem_iff.mp h
  have len1 : L1.length < 64 := by rw [p1.length_eq]; exact few
  refine wpAny_bind (wpAny_newList ?_ (by rw [List.length_map]; omega))
  have hoL : (s1.heap.push (seqObj "list" (L1.map (·.1)).toArray 0)).get? s1.heap.objs.size = some (seqObj "list" (L1.map (·.1)).toArray 0) := Heap.get?_push_size _ rfl
  have e : PySem.W.EachIs (fun u d => ∃ v, RelV v u ∧ RD X.K H v d) (L1.map (·.1)) (L1.map (·.2)) := each_of fun p hp => hv p (p1.mem_iff.mp hp)
  have er : PySem.W.EachIs (fun v b => ∃ as, Reads (s1.heap.push (seqObj "list" (L1.map (·.1)).toArray 0)) v b as ∧ s1.heap.objs.size ∉ as) (L1.map (·.1)) (L1.map (·.2)) := each_of fun p hp =>
    ⟨[], ((R.mb p (p1.mem_iff.mp hp)).1.keep fun b u e => Heap.get?_push_of_some _ (k1 b u e)).at_, by simp⟩
  refine wpAny_bind (wpAny_holding (PySem.W.list_sort_data (s := { s1 with heap := s1.heap.push (seqObj "list" (L1.map (·.1)).toArray 0) }) (enc := fun d => d) (bs := L1.map (·.2)) hoL e er (by rw [List.map_id']; exact fun x hx y hy => al x (mem x hx) y (mem y hy)) ?_ (by rw [List.length_map]; omega)
    (fun d hd => by have := dp d (mem d hd); show X.A.units + 1 + 1 + d.depth < cLine; omega) fun out lo eo => ?_))
  · rw [List.map_id']
    rcases so with so | so
    · exact .inl fun d hd => so d (mem d hd)
    · exact .inr fun d hd => so d (mem d hd)
  obtain ⟨ys, v1, v2⟩ := each_back eo
  rw [← leD_eq, ← isort_merge] at v2
  obtain ⟨c, hc2⟩ := sortedHeap_at (vs := L1.map (·.1)) (out := out.toArray) hoL
  have kk : ∀ b u, s.heap.get? b = some u → (sortedHeap (s1.heap.push (seqObj "list" (L1.map (·.1)).toArray 0)) s1.heap.objs.size (L1.map (·.1)) out.toArray).get? b = some u := fun b u z => by
    have z1 := k1 b u z
    have lt := Heap.lt_size z1
    rw [sortedHeap_old (Nat.ne_of_lt lt) (by rw [size_push']; exact Nat.lt_succ_of_lt lt)]
    exact Heap.get?_push_of_some _ z1
  have hn : H s1.heap.objs.size = none := I.hok.fresh hz
  have l1 := v1.length
  have hlen : ys.length ≤ sizeLine := by
    rw [List.length_map] at lo
    omega
  have J : Inv X pins σ (upd H s1.heap.objs.size (.lst ys)) { s with heap := sortedHeap (s1.heap.push (seqObj "list" (L1.map (·.1)).toArray 0)) s1.heap.objs.size (L1.map (·.1)) out.toArray, gens := s1.gens, drawn := s1.drawn, toks := s1.toks } :=
    I.call (ch := []) (Un.laid kk hz hn) (I.hok.laid kk hz ⟨hlen, out, c, v1, hc2⟩) (by rw [g1]; exact I.bare) (fun _ z => nomatch z)
  refine wpAny_pure ⟨_, rfl, ?_⟩
  have es : ({ s1 with heap := sortedHeap (s1.heap.push (seqObj "list" (L1.map (·.1)).toArray 0)) s1.heap.objs.size (L1.map (·.1)) out.toArray } : Shared) =
      { s with heap := sortedHeap (s1.heap.push (seqObj "list" (L1.map (·.1)).toArray 0)) s1.heap.objs.size (L1.map (·.1)) out.toArray, gens := s1.gens, drawn := s1.drawn, toks := s1.toks } := by
    cases s1
    cases s
    cases o1
    rfl
  have fin : EP X pins σ Q (.ref s1.heap.objs.size) ({ s1 with heap := sortedHeap (s1.heap.push (seqObj "list" (L1.map (·.1)).toArray 0)) s1.heap.objs.size (L1.map (·.1)) out.toArray } : Shared) := by
    rw [es]
    exact ⟨.ref s1.heap.objs.size, _, J, rfl, q s1.heap.objs.size ys (L1.map (·.2)) p2 hn v2⟩
  exact fin
end
end Ur
end
section
set_option linter.all false
set_option autoImplicit false
set_option maxRecDepth 10000
/-! UrS10: the rules of sorted(set(xs)) and len(set(xs)). -/
namespace Ur
open PySem L2 PyProof.Rows
section
variable {P : Prog} {cf : Cf} {W : WX} {XR : Hp → Value → Option Addr → D → Prop}
/-- what a set is made of -/
theorem mk_some {ds : List D} {d : D} (h : mkSet ds = some d) : (∀ x ∈ ds, memOk x = true) ∧ (∃ tp, ∀ x ∈ ds, tupAny x = tp) ∧ ds.length < 64 ∧ (∀ x ∈ ds, x.depth ≤ 8) ∧ d = setD (dedup [] ds) := by
  unfold mkSet at h
  split at h
  · rename_i c
    simp only [Bool.and_eq_true, Bool.or_eq_true, List.all_eq_true, decide_eq_true_eq, Bool.not_eq_true'] at c
    refine ⟨c.1.1.1, ?_, c.1.2, c.2, (Option.some.inj h).symm⟩
    rcases c.1.1.2 with g | g
    · exact ⟨true, g⟩
    · exact ⟨false, g⟩
  · cases h
section
variable {X : Cx} {pins : List (Addr × Obj)} {σ : L2.St} {H : Hp} {s : Shared}
/-- the items as they lie -/
theorem rows_of (I : Inv X pins σ H s) : ∀ {xs : List V} {us : List Value} {ds : List D}, Vals xs us → RDs X.K H xs ds → (∀ d ∈ ds, memOk d = true) → (∀ d ∈ ds, d.depth ≤ 8) →
    ∃ ks : List (Value × D), us = ks.map (·.1) ∧ ds = ks.map (·.2) ∧ ∀ p ∈ ks, Mb s.heap p.2 p.1 ∧ ∃ x, RelV x p.1 ∧ RD X.K H x p.2
  | _, _, _, .nil, .nil, _, _ => ⟨[], rfl, rfl, fun p hp => by cases hp⟩
  | x :: _, u :: _, d :: _, .cons r t, .cons h q, ok, dp => by
    obtain ⟨ks, e1, e2, hk⟩ := rows_of I t q (fun d h => ok d (List.mem_cons_of_mem _ h)) (fun d h => dp d (List.mem_cons_of_mem _ h))
    have m := ok d List.mem_cons_self
    obtain ⟨as, ra⟩ := Dp.reads I _ x u (h.dp (plain_mem d m)) r
    have en := mem_nil d m ra
    subst en
    refine ⟨(u, d) :: ks, by rw [List.map_cons, ← e1], by rw [List.map_cons, ← e2], fun p hp => ?_⟩
    rcases List.mem_cons.mp hp with rfl | hp
    · exact ⟨⟨m, h.lay (plain_mem d m), dp d List.mem_cons_self, ra⟩, x, r, h⟩
    · exact hk p hp
/-- set(xs), xs frozen -/
theorem set_call {n : Nat} (hr : Room n X.A) (hc : X.calm = true) (I : Inv X pins σ H s) {x : V} {u : Value} (rx : RelV x u) {d d' : D} (r : RD X.K H x d) (h : setOf d = some d') {Q : Value → Shared → Prop}
    (q : ∀ (s1 : Shared) (S : Addr) (tp : Bool) (L : List (Value × D)) (es : Array (Int × Value)) (ep : Nat) (t : SetTable), Inv X pins σ H s1 → SetX X.w tp s1.heap S L es ep t → (∀ p ∈ L, ∃ x, RelV x p.1 ∧ RD X.K H x p.2) →
      (∃ M, d' = setD M ∧ M.Nodup ∧ (∀ z ∈ M, memOk z = true) ∧ (L.map (·.2)).Perm M) → Q (.ref S) s1) : wpAny (model X.prog X.w) X.A (call (.type "set") [u]) Q X.xe s := by
  have hu := hr.un
  have go : ∀ (a : Addr) (its : Array Value) (xs : List V) (ds : List D), (s.heap.IsList a its ∨ s.heap.IsTuple a its) → Vals xs its.toList → RDs X.K H xs ds → mkSet ds = some d' → wpAny (model X.prog X.w) X.A (call (.type "set") [.ref a]) Q X.xe s := fun a its xs ds hl hv hd hm => by
    obtain ⟨ok, ⟨tp, ht⟩, few, dp, e⟩ := mk_some hm
    obtain ⟨ks, e1, e2, hk⟩ := rows_of I hv hd ok dp
    have mb : ∀ p ∈ ks, Mb s.heap p.2 p.1 ∧ tupAny p.2 = tp := fun p hp => ⟨(hk p hp).1, ht p.2 (by rw [e2]; exact List.mem_map.mpr ⟨p, hp, rfl⟩)⟩
    have fw : ks.length < 64 := by rw [e2, List.length_map] at few; exact few
    have end_ : ∀ (h' : Heap) (tk : Nat), Left X.w tp s.heap ks s.heap.objs.size h' → Q (.ref s.heap.objs.size) { s with heap := h', toks := tk } := fun h' tk ⟨⟨L, es, ep, t, R, g⟩, k⟩ => by
      have sub : ∀ p ∈ L, p ∈ ks := fun p hp => List.mem_of_mem_take (g.sub p hp)
      refine q { s with heap := h', toks := tk } _ tp L es ep t (I.kept (t' := tk) k) R (fun p hp => (hk p (sub p hp)).2) ⟨_, e, ?_⟩
      obtain ⟨d1, d2⟩ := dedup_mem ds [] ok (fun d h => by cases h) List.nodup_nil
      refine ⟨d1, fun z hz => ok z ?_, ?_⟩
      · rcases (d2 z).1 hz with c | c
        · cases c
        · exact c
      · rw [List.perm_ext_iff_of_nodup R.nd d1]
        intro z
        rw [d2]
        constructor
        · intro hz
          obtain ⟨p, hp, rfl⟩ := List.mem_map.mp hz
          exact .inr (by rw [e2]; exact List.mem_map.mpr ⟨p, sub p hp, rfl⟩)
        · rintro (c | c)
          · cases c
          · rw [e2] at c
            obtain ⟨p, hp, rfl⟩ := List.mem_map.mp c
            exact g.all p (by rw [List.take_length]; exact hp)
    rcases hl with hl | hl
    · exact set_ofL ks (I.ok.hd hc) hl e1 mb fw (by omega) end_
    · exact set_ofT ks (I.ok.hd hc) hl e1 mb fw (by omega) end_
  cases d with
  | list ds =>
    cases r with
    | lst hf z rr =>
      rw [Vals.ref1 (.cons rx .nil) |> List.cons.inj |>.1]
      obtain ⟨its, c, rv, hl, e⟩ := frzL I hf
      exact go _ its.toArray _ ds (.inl ⟨_, e, rfl, _, rfl⟩) rv rr h
  | tuple ds =>
    cases r with
    | tup hf z rr =>
      rw [Vals.ref1 (.cons rx .nil) |> List.cons.inj |>.1]
      obtain ⟨its, rv, hl, _⟩ := I.tuple hf.sq
      exact go _ its.toArray _ ds (.inr hl) rv rr h
  | none => cases h
  | bool _ => cases h
  | int _ => cases h
  | str _ => cases h
  | dict _ => cases h
end
variable {X : Cx}
theorem alike_of {x : D} : ∀ {l : List D}, (∀ y ∈ l, PySem.W.alike x y = true) → alikeTo x l = true
  | [], _ => rfl
  | y :: r, h => by rw [alikeTo, h y List.mem_cons_self, alike_of fun z hz => h z (List.mem_cons_of_mem _ hz)]; rfl
theorem allAlike_of : ∀ {l : List D}, (∀ x ∈ l, ∀ y ∈ l, PySem.W.alike x y = true) → allAlike l = true
  | [], _ => rfl
  | x :: r, h => by
    rw [allAlike, h x List.mem_cons_self x List.mem_cons_self, alike_of fun y hy => h x List.mem_cons_self y (List.mem_cons_of_mem _ hy), allAlike_of fun y hy z hz => h y (List.mem_cons_of_mem _ hy) z (List.mem_cons_of_mem _ hz)]; rfl
theorem sortable_perm {l m : List D} (p : l.Perm m) (h : sortable m = true) : sortable l = true := by
  simp only [sortable, Bool.and_eq_true, Bool.or_eq_true, List.all_eq_true, decide_eq_true_eq] at h ⊢
  obtain ⟨⟨a, b⟩, c⟩ := h
  exact ⟨⟨allAlike_of fun x hx y hy => allAlike_all a x (p.mem_iff.mp hx) y (p.mem_iff.mp hy), b.imp (fun z d hd => z d (p.mem_iff.mp hd)) fun z d hd => z d (p.mem_iff.mp hd)⟩, fun d hd => c d (p.mem_iff.mp hd)⟩
theorem r_sset {n : Nat} (hr : Room n X.A) (hc : X.calm = true) {e : E} {e' : Expr} {p p2 q pos : Pos} (hg : glob X.env.scope "sorted" = true) (hm : X.mg "sorted" = none) (hg2 : glob X.env.scope "set" = true) (hm2 : X.mg "set" = none)
    (ha : PE X e' (tE X.K XR P cf W e)) (hs : noStar e' = true) : PE X (.Call (.Name "sorted" p) [.Call (.Name "set" p2) [e'] [] q] [] pos) (tE X.K XR P cf W (.sset .sorted e)) := by
  refine pe_to (t := fun σ H Q => ∃ st l, Sl X.K H σ st l ∧ Aft X.K XR W σ l (fun o st' => ∀ v H', Sl X.K H' σ st' (own X.K v o :: l) → Q v H') (ev P cf (.sset .sorted e) st)) ⟨fun pins s σ H Q I ⟨st, l, sl, a⟩ => ?_⟩ (fun σ H Q h => h)
  have a : Aft X.K XR W σ l (fun o st' => ∀ v H', Sl X.K H' σ st' (own X.K v o :: l) → Q v H') (bd (ev P cf e st) fun o s => lf ((setOf o.fz).bind fun d => bfD .sorted [d]) s) := a
  obtain ⟨g1, _⟩ := glob_ok hg
  obtain ⟨g2, _⟩ := glob_ok hg2
  refine Call_ (ld_blt I g1 hm PyProof.Rows.boot_sorted ?_)
  refine PyProof.Rows.callWith_builtin1 (PyProof.Rows.args_cons ?_ rfl) rfl rfl
  refine Call_ (ld_blt I g2 hm2 PyProof.Rows.boot_set ?_)
  refine PyProof.Rows.callWith_type1 (PyProof.Rows.args_cons (thn ((pe_gh ha).run pins s σ H (fun x H => ∃ d d' o st l, RD X.K H x d ∧ setOf d = some d' ∧ bfD .sorted [d'] = some o ∧ Sl X.K H σ st l ∧ ∀ v H', Sl X.K H' σ st (own X.K v o :: l) → Q v H') I ⟨st, l, sl, aft_bd X.K XR a fun o st' g v H1 s1 => ?_⟩) fun u s1 ⟨x, H1, I1, r1, q1⟩ => PyProof.Rows.args_nil ?_) (star_cons hs)) (star_cons hs) rfl
  · obtain ⟨o2, e2, k⟩ := aft_lf g
    obtain ⟨d', h1, h2⟩ := Option.bind_eq_some_iff.mp e2
    exact s1.fz.bind fun H2 ⟨_, rd, s2⟩ => .now (.now ⟨_, d', o2, st', l, rd, h1, h2, s2, k⟩)
  · obtain ⟨d, d', o, st', l', rd, h1, h2, s2, k⟩ := q1
    refine set_call hr hc I1 r1 rd h1 fun s3 S tp L es ep t I3 R hv ⟨M, e1, nd, ok, pm⟩ => ?_
    subst e1
    obtain ⟨r, hr2, rfl⟩ := Option.map_eq_some_iff.mp (show (sortD M).map (fun r => O.lst (r.map .dat)) = some o from h2)
    obtain ⟨so, rfl⟩ := sorted_seq hr2
    refine PyProof.Rows.args_nil ?_
    refine sort_set hr hc I3 R hv ?_ fun p' ys ds pd hp ry => ?_
    · exact sortable_perm pm so
    · have e : isort ds = isort M := (isort_of (pd.trans pm).symm ok fun x hx y hy => (sortable_ok so).1 x hx y hy).symm
      rw [e] at ry
      have z : ys.length ≤ top := by
        have z1 := ry.length
        have z2 := pm.length_eq
        have z3 := R.few
        rw [isort_length] at z1
        rw [List.length_map] at z2
        unfold Ur.top
        omega
      exact k _ _ (.of_top s2.ok (res_lst s2.sa ry z hp))
theorem r_lset {n : Nat} (hr : Room n X.A) (hc : X.calm = true) {e : E} {e' : Expr} {p p2 q pos : Pos} (hg : glob X.env.scope "len" = true) (hm : X.mg "len" = none) (hg2 : glob X.env.scope "set" = true) (hm2 : X.mg "set" = none)
    (ha : PE X e' (tE X.K XR P cf W e)) (hs : noStar e' = true) : PE X (.Call (.Name "len" p) [.Call (.Name "set" p2) [e'] [] q] [] pos) (tE X.K XR P cf W (.sset .len e)) := by
  refine pe_to (t := fun σ H Q => ∃ st l, Sl X.K H σ st l ∧ Aft X.K XR W σ l (fun o st' => ∀ v H', Sl X.K H' σ st' (own X.K v o :: l) → Q v H') (ev P cf (.sset .len e) st)) ⟨fun pins s σ H Q I ⟨st, l, sl, a⟩ => ?_⟩ (fun σ H Q h => h)
  have a : Aft X.K XR W σ l (fun o st' => ∀ v H', Sl X.K H' σ st' (own X.K v o :: l) → Q v H') (bd (ev P cf e st) fun o s => lf ((setOf o.fz).bind fun d => bfD .len [d]) s) := a
  obtain ⟨g1, _⟩ := glob_ok hg
  obtain ⟨g2, _⟩ := glob_ok hg2
  refine Call_ (ld_blt I g1 hm PySem.boot_len ?_)
  refine PyProof.Rows.callWith_builtin1 (PyProof.Rows.args_cons ?_ rfl) rfl rfl
  refine Call_ (ld_blt I g2 hm2 PyProof.Rows.boot_set ?_)
  refine PyProof.Rows.callWith_type1 (PyProof.Rows.args_cons (thn ((pe_gh ha).run pins s σ H (fun x H => ∃ d d' o st l, RD X.K H x d ∧ setOf d = some d' ∧ bfD .len [d'] = some o ∧ Sl X.K H σ st l ∧ ∀ v H', Sl X.K H' σ st (own X.K v o :: l) → Q v H') I ⟨st, l, sl, aft_bd X.K XR a fun o st' g v H1 s1 => ?_⟩)
    fun u s1 ⟨x, H1, I1, r1, q1⟩ => PyProof.Rows.args_nil ?_) (star_cons hs)) (star_cons hs) rfl
  · obtain ⟨o2, e2, k⟩ := aft_lf g
    obtain ⟨d', h1, h2⟩ := Option.bind_eq_some_iff.mp e2
    exact s1.fz.bind fun H2 ⟨_, rd, s2⟩ => .now (.now ⟨_, d', o2, st', l, rd, h1, h2, s2, k⟩)
  · obtain ⟨d, d', o, st', l', rd, h1, h2, s2, k⟩ := q1
    refine set_call hr hc I1 r1 rd h1 fun s3 S tp L es ep t I3 R hv ⟨M, e1, nd, ok, pm⟩ => ?_
    subst e1
    have eo : o = .dat (.int (M.length : Int)) := (Option.some.inj h2).symm
    subst eo
    obtain ⟨ob, b1, b2, b3⟩ := R.ob
    have sz := R.size
    have fw := R.few
    have pl := pm.length_eq
    rw [List.length_map] at pl
    refine PyProof.Rows.args_nil ?_
    refine call_len_set b1 b2 b3 R.fits (by omega) ⟨.int M.length, H1, I3.tok _, ⟨_, by rw [sz, pl]⟩, k _ _ (s2.dat (.int _))⟩
end
end Ur
end
section
set_option linter.all false
set_option autoImplicit false
set_option maxHeartbeats 2000000
/-! UrF4: what is walked. -/
namespace PySem
open Sem (wp)
open AutoSeq1 (wpAny_loadPart')
set_option maxRecDepth 100000
theorem urEnumNew {v : Value} {o : Obj} {H : Heap → Prop} (B : Begins v o H) :
    Meets (Builtin.«enumerate.__new__» ⟨[.type "enumerate", v], []⟩) (fun _ R s => H s.heap ∧ R (.ok (.ret (.ref (s.heap.push o).objs.size)))
      { s with heap := (s.heap.push o).push { cls := .type "enumerate", data := .fields #[.none, .bool false, .ref s.heap.objs.size, rawInt 0, .none, .none] } }) :=
  .of_wp fun prog w A R s hh => by
    obtain ⟨hp, g, d, tk, os⟩ := s
    obtain ⟨hv, hh⟩ := hh
    have en := sub_enumerate
    have go : ∀ {A' : Around} {E : Value → Shared → Prop} {Q : Value → Shared → Prop}, Q (.ref hp.objs.size) ⟨hp.push o, g, d, tk, os⟩ → wpAny (model prog w) A' (pyIter v) Q E ⟨hp, g, d, tk, os⟩ := fun z => B.iter prog w _ _ _ _ hv z
    wp_walk using go
    refine wpAny_stack_any fun stk => wpAny_pure ?_
    split
    · rename_i c _ _ _ _ _
      cases (c == Value.type "enumerate") <;> (wp_walk using go; exact ⟨_, rfl, hh⟩)
    · wp_walk using go
      exact ⟨_, rfl, hh⟩
theorem urEnumCall {prog : Program} {w : World} {A : Around} {E : Value → Shared → Prop} {s : Shared} {v : Value} {o : Obj} {H : Heap → Prop} {Q : Value → Shared → Prop} (B : Begins v o H) (hv : H s.heap)
    (k : ∀ h', IsEnum h' (s.heap.objs.size + 1) s.heap.objs.size 0 .none → h'.get? s.heap.objs.size = some o → (∀ b u, s.heap.get? b = some u → h'.get? b = some u) → Q (.ref (s.heap.objs.size + 1)) { s with heap := h' }) :
    wpAny (model prog w) A (call (.type "enumerate") [v]) Q E s := by
  refine callType_new F.called_enumerate (by decide) (F.typeCall_enumerate_1 _) (F.newCall_enumerate_1 _) (fun obj => F.args_object_init_2 obj _) F.entry_enumerate_new (urEnumNew B) ⟨hv, ?_⟩
  have e1 : (s.heap.push o).objs.size = s.heap.objs.size + 1 := by rw [Heap.size_push]
  show _ ∧ _
  rw [e1]
  generalize hE : (s.heap.push o).push { cls := .type "enumerate", data := .fields #[.none, .bool false, .ref s.heap.objs.size, rawInt 0, .none, .none] } = h'
  have a : IsEnum h' (s.heap.objs.size + 1) s.heap.objs.size 0 .none := by
    subst hE
    have q := Heap.get?_push_size (s.heap.push o) (o := { cls := .type "enumerate", data := .fields #[.none, .bool false, .ref s.heap.objs.size, rawInt 0, .none, .none] }) rfl
    rw [e1] at q
    exact q
  refine ⟨⟨_, a, rfl⟩, k h' a ?_ fun b u q => ?_⟩
  · subst hE; exact Heap.get?_push_of_some _ (Heap.get?_push_size _ B.free)
  · subst hE; exact Heap.get?_push_of_some _ (Heap.get?_push_of_some _ q)
end PySem
namespace Ur
open PySem L2

theorem vals_getV : ∀ {xs : List V} {us : List Value} {i : Nat} {u : Value}, Vals xs us → us[i]? = some u → ∃ x, xs[i]? = some x ∧ RelV x u
  | _, _, _, _, .nil, e => by simp at e
  | _, _, 0, _, .cons r _, e => by simp at e; subst e; exact ⟨_, rfl, r⟩
  | _, _, i + 1, u, .cons _ t, e => by
    obtain ⟨x, h1, h2⟩ := vals_getV (i := i) (u := u) t (by simpa using e)
    exact ⟨x, by simpa using h1, h2⟩
/-! ### sources: a list, a tuple, a text -/
inductive Sn where
  | lst (a : Addr)
  | tup (a : Addr)
  | str (x : Str) (t : Tok)
def signsV (z : Str) : List V := z.cps.toList.map fun c => V.str ⟨#[c]⟩
def SrcN (K : PySem.W.Frag) (H : Hp) : Sn → List V → Prop
  | .lst a, xs => FzL K H a xs
  | .tup a, xs => FzT K H a xs
  | .str z _, xs => xs = signsV z
theorem SrcN.kept {K : PySem.W.Frag} {H H' : Hp} {v : Sn} {xs : List V} (k : Kept H H') (s : SrcN K H v xs) : SrcN K H' v xs := by
  cases v with
  | lst a => exact FzL.kept (K := K) k s
  | tup a => exact FzT.kept (K := K) k s
  | str z t => exact s
/-- .. in the heap -/
def Sn.val : Sn → Value
  | .lst a => .ref a
  | .tup a => .ref a
  | .str x t => .str x t
def Sn.obj : Sn → Obj
  | .lst a => { cls := .type "list_iterator", data := .fields #[.ref a, .int 0 0] }
  | .tup a => { cls := .type "tuple_iterator", data := .fields #[.ref a, .int 0 0] }
  | .str x t => { cls := .type (strIterType x), data := .fields #[.str x t, .int 0 0] }
def Sn.src (its : Array Value) : Sn → Heap → Prop
  | .lst a => fun h => h.IsList a its
  | .tup a => fun h => h.IsTuple a its
  | .str _ _ => fun _ => True
def Sn.at (it : Addr) (i : Nat) (h : Heap) : Sn → Prop
  | .lst a => h.IsListIter it a i
  | .tup a => h.IsTupleIter it a i
  | .str x t => h.IsStrIter it (strIterType x) x t i
def Sn.n (its : Array Value) : Sn → Nat
  | .lst _ => its.size
  | .tup _ => its.size
  | .str x _ => x.cps.size
def Sn.P (its : Array Value) (i : Nat) (v : Value) : Sn → Prop
  | .lst _ => its[i]? = some v
  | .tup _ => its[i]? = some v
  | .str x _ => ∃ c u, x.cps[i]? = some c ∧ v = .str ⟨#[c]⟩ u
def Sn.un : Sn → List Addr
  | .lst a => [a]
  | .tup a => [a]
  | .str _ _ => []
theorem Sn.begins (its : Array Value) (k : Sn) : Begins k.val k.obj (k.src its) := by
  cases k with
  | lst a => exact begins_list a its
  | tup a => exact begins_tuple a its
  | str x t => exact begins_text x t
theorem Sn.draws {prog : Program} {w : World} {A : Around} (hh : A.handled = none) (its : Array Value) (k : Sn) (it : Addr) (hne : ∀ b ∈ k.un, b < it) : Draws prog w A it (it :: k.un) (k.n its) (fun i v => k.P its i v) (fun i h => k.at it i h ∧ k.src its h) := by
  cases k with
  | lst a => exact Draws.list hh it a (Nat.ne_of_lt (hne a (by simp [Sn.un]))) its
  | tup a => exact Draws.tuple hh it a (Nat.ne_of_lt (hne a (by simp [Sn.un]))) its
  | str x t =>
    have D := Draws.text (prog := prog) (w := w) hh it x t
    exact ⟨fun i h st => D.live i h st.1, fun i h h' st q => ⟨D.frame i h h' st.1 q, trivial⟩, fun i s Q E hi st q => D.item i s Q E hi st.1 fun x h' tk a b c => q x h' tk a ⟨b, trivial⟩ c, fun s Q E st q => D.done s Q E st.1 q⟩
theorem Sn.at_keep {k : Sn} {it : Addr} {i : Nat} {h h' : Heap} (x : k.at it i h) (q : ∀ o, h.get? it = some o → h'.get? it = some o) : k.at it i h' := by
  cases k with
  | lst a => exact Heap.IsListIter.at x fun o e => q o e
  | tup a => exact Heap.IsTupleIter.at x fun o e => q o e
  | str y t => obtain ⟨o, ho, r⟩ := x; exact ⟨o, q o ho, r⟩
theorem Sn.at_obj {k : Sn} {it : Addr} {i : Nat} {h : Heap} (x : k.at it i h) : ∃ o, h.get? it = some o ∧ ∀ v, o.data ≠ .cell v := by
  cases k with
  | lst a => obtain ⟨o, ho, hc, hd⟩ := x; exact ⟨o, ho, fun v z => by rw [hd] at z; cases z⟩
  | tup a => obtain ⟨o, ho, hc, hd⟩ := x; exact ⟨o, ho, fun v z => by rw [hd] at z; cases z⟩
  | str y t => obtain ⟨o, ho, hc, hd⟩ := x; exact ⟨o, ho, fun v z => by rw [hd] at z; cases z⟩
theorem Sn.at_new {k : Sn} {it : Addr} {h : Heap} (x : h.get? it = some k.obj) : k.at it 0 h := by
  cases k with
  | lst a => exact ⟨_, x, rfl, rfl⟩
  | tup a => exact ⟨_, x, rfl, rfl⟩
  | str y t => exact ⟨_, x, rfl, rfl⟩
section
variable {X : Cx} {pins : List (Addr × Obj)} {σ : L2.St} {H : Hp} {s : Shared}
/-- a source as it stands -/
def SkOf (k : Sn) (its : Array Value) (xs : List V) (h : Heap) : Prop := k.src its h ∧ k.n its = xs.length ∧ ∀ i u, k.P its i u → ∃ x, xs[i]? = some x ∧ RelV x u
theorem src_sk (I : Inv X pins σ H s) {sn : Sn} {xs : List V} (q : SrcN X.K H sn xs) : ∃ its, SkOf sn its xs s.heap ∧ ∀ b ∈ sn.un, b < s.heap.objs.size := by
  cases sn with
  | lst a =>
    obtain ⟨its, rv, p, z⟩ := I.list (FzL.sq q)
    refine ⟨its.toArray, ⟨p.isList, by simp [Sn.n, rv.length], fun i u e => ?_⟩, fun b hb => ?_⟩
    · have e : its[i]? = some u := by simpa [Sn.P] using e
      exact vals_getV rv e
    · obtain ⟨o, e, _⟩ := p.isList
      have hb : b = a := by simpa [Sn.un] using hb
      subst hb; exact Heap.lt_size e
  | tup a =>
    obtain ⟨its, rv, p, z⟩ := I.tuple (FzT.sq q)
    refine ⟨its.toArray, ⟨p, by simp [Sn.n, rv.length], fun i u e => ?_⟩, fun b hb => ?_⟩
    · have e : its[i]? = some u := by simpa [Sn.P] using e
      exact vals_getV rv e
    · obtain ⟨o, e, _⟩ := p
      have hb : b = a := by simpa [Sn.un] using hb
      subst hb; exact Heap.lt_size e
  | str z t =>
    refine ⟨#[], ⟨trivial, by rw [show xs = signsV z from q]; simp [Sn.n, signsV], fun i u e => ?_⟩, fun b hb => by simp [Sn.un] at hb⟩
    obtain ⟨c, w, e1, rfl⟩ := e
    rw [show xs = signsV z from q]
    refine ⟨.str ⟨#[c]⟩, ?_, ⟨w, rfl⟩⟩
    unfold signsV
    rw [List.getElem?_map, Array.getElem?_toList, e1]
    rfl

/-! ### pairs: enumerate, zip -/
def Itp (n : Nat) (F : Hp → Prop) (p : Nat → V → V → Prop) : L2.It := ⟨fun i H => i < n ∧ F H, fun i H v H' => ∃ T x y, v = .ref T ∧ H T = none ∧ H' = upd H T (.tup [x, y]) ∧ p i x y, fun i H => i = n ∧ F H⟩
theorem turn_pair {P : Program} {w : World} {K : PySem.W.Frag} {elts : List Expr} {kk : Nat} {tpos : Pos} {I : Addr} {own wr : List Addr} {n : Nat} {F : Hp → Prop} {p : Nat → V → V → Prop} {tn : Nat → Heap → Prop}
    (memI : I ∈ own) (sub : ∀ b ∈ wr, b ∈ own) (obj : ∀ i h, tn i h → ∀ b ∈ own, ∃ o, h.get? b = some o ∧ ∀ v, o.data ≠ .cell v)
    (keep : ∀ i h h', tn i h → (∀ b ∈ own, ∀ o, h.get? b = some o → h'.get? b = some o) → tn i h')
    (self : ∀ (A : Around) (i : Nat) (s : Shared) (Q : Value → Shared → Prop) (E : Value → Shared → Prop), tn i s.heap → Q (.ref I) s → wpAny (model P w) A (pyIter (.ref I)) Q E s)
    (go : ∀ (X : Cx), X.prog = P → X.w = w → X.K = K → X.calm = true → ∀ (pins : List (Addr × Obj)) (σ : L2.St) (H : Hp) (s : Shared), Inv X pins σ H s → F H →
      ∃ fp Pt St Mid, WalksT P w X.A I fp wr n Pt St Mid ∧ (∀ i, tn i s.heap → St i s.heap) ∧ (∀ i h, St i h → tn i h) ∧ ∀ i vals, Pt i vals → ∃ x y u v, vals = #[u, v] ∧ RelV x u ∧ RelV y v ∧ p i x y) :
    Turn P w K (.Tuple elts kk tpos) (Itp n F p) own I tn where
  mem := memI
  obj := obj
  keep := keep
  item := by
    intro X hP hw hK hc i pins s σ H E I1 hf st hg
    obtain ⟨fp, Pt, St, Mid, W, h1, h2, h3⟩ := go X hP hw hK hc pins σ H s I1 hg.2
    refine W.item i s _ _ hg.1 (h1 i st) fun T vals h' tk pt hT isT mid k => ⟨_, rfl, ?_⟩
    refine W.go elts kk tpos i T { s with heap := h', toks := tk } _ _ mid fun h'' st' k' => ?_
    obtain ⟨x, y, u, v, rfl, rx, ry, hp⟩ := h3 i vals pt
    obtain ⟨o, ho, hoc, hod⟩ := isT
    have hTw : T ∉ wr := W.apart i T h' mid
    have nT : H T = none := I1.hok.fresh hT
    subst hP hw
    have new : ObjOk X.prog X.w (upd H T (.tup [x, y])) h'' T (.tup [x, y]) := ⟨show (2 : Nat) ≤ sizeLine by decide, [u, v], .cons rx (.cons ry .nil), ⟨o, k' T o hTw ho, hoc, hod⟩⟩
    have J := I1.turnedNew (t' := tk) (ch := wr) (h' := h'') (fun b o hb q => k' b o hb (k b o hb q)) (fun b hb => hf b (sub b hb)) hT new
    refine ⟨.ref T, _, J, rfl, ⟨T, x, y, rfl, nT, rfl, hp⟩, h2 _ _ st', fun b hb => ?_⟩
    have hbT : b ≠ T := fun z => by
      obtain ⟨ob, hob, _⟩ := obj i s.heap st b hb
      rw [z] at hob
      exact absurd (Nat.lt_of_lt_of_le (Heap.lt_size hob) hT) (Nat.lt_irrefl _)
    rw [upd_ne hbT]
    exact (hf b hb).1
  done := by
    intro X hP hw hK hc i pins s σ H E I1 hf st hg
    obtain ⟨fp, Pt, St, Mid, W, h1, h2, h3⟩ := go X hP hw hK hc pins σ H s I1 hg.2
    obtain ⟨rfl, _⟩ := hg
    exact W.done s _ _ (h1 _ st) fun h' tk k => ⟨rfl, I1.turnedL (t' := tk) (ch := wr) k fun b hb => hf b (sub b hb)⟩
  self := self
theorem turn_enumN {P : Program} {w : World} {K : PySem.W.Frag} {elts : List Expr} {kk : Nat} {tpos : Pos} {sn : Sn} {xs : List V} {e it : Addr} (k0 : Int) (hne : e ≠ it) (l1 : ∀ b ∈ sn.un, b < it) (l2 : ∀ b ∈ sn.un, b < e) :
    Turn P w K (.Tuple elts kk tpos) (Itp xs.length (fun H => SrcN K H sn xs) (fun i x y => x = .int (k0 + (i : Nat)) ∧ xs[i]? = some y)) [e, it] e (fun i h => (∃ old, IsEnum h e it (k0 + (i : Nat)) old) ∧ sn.at it i h) :=
  turn_pair (wr := [e, it]) (by simp) (fun _ h => h)
    (fun i h st b hb => by
      obtain ⟨⟨old, he⟩, ha⟩ := st
      have e' : b = e ∨ b = it := by simpa using hb
      rcases e' with z | z
      · rw [z]; exact ⟨_, he, fun v q => nomatch q⟩
      · rw [z]; exact sn.at_obj ha)
    (fun i h h' st k => ⟨st.1.imp fun old he => k e (by simp) _ he, Sn.at_keep (k := sn) st.2 fun o q => k it (by simp) o q⟩)
    (fun A i s Q E st h => wpAny_pyIter_enum st.1.choose_spec h)
    (fun X hP hw hK hc pins σ H s I (F : SrcN K H sn xs) => by
      subst hP hw hK
      obtain ⟨its, hs, _⟩ := src_sk I F
      have D := sn.draws (prog := X.prog) (w := X.w) (A := X.A.in1) (I.ok.hd hc) its it l1
      have W := WalksT.enumFrom k0 D e hne (fun z => by
        rcases List.mem_cons.mp z with z | z
        · exact hne z
        · exact Nat.lt_irrefl _ (l2 e z)) (List.mem_cons_self ..)
      rw [hs.2.1] at W
      refine ⟨_, _, _, _, W, fun i st => ⟨st.1, st.2, hs.1⟩, fun i h st => ⟨st.1, st.2.1⟩, fun i vals pt => ?_⟩
      obtain ⟨t, u, hu, rfl⟩ := pt
      obtain ⟨x, hx, rx⟩ := hs.2.2 i u hu
      exact ⟨V.int (k0 + (i : Nat)), x, _, _, rfl, ⟨t, rfl⟩, rx, rfl, hx⟩)
theorem turn_zipN {P : Program} {w : World} {K : PySem.W.Frag} {elts : List Expr} {kk : Nat} {tpos : Pos} {a b : Sn} {xs ys : List V} {N : Nat} (l1 : ∀ c ∈ a.un, c < N) (l2 : ∀ c ∈ b.un, c < N) :
    Turn P w K (.Tuple elts kk tpos) (Itp (min xs.length ys.length) (fun H => SrcN K H a xs ∧ SrcN K H b ys) (fun i x y => xs[i]? = some x ∧ ys[i]? = some y)) [N + 4, N + 2, N + 3, N, N + 1] (N + 4)
      (fun i h => IsZip h (N + 4) (N + 2) (N + 3) .none ∧ IsTupOf2 h (N + 2) (.ref N) (.ref (N + 1)) ∧ (∃ x y, IsTupOf2 h (N + 3) x y) ∧ a.at N i h ∧ b.at (N + 1) i h) :=
  turn_pair (wr := [N + 4, N + 3, N, N + 1]) (by simp) (fun c hc => by simp at hc ⊢; rcases hc with z | z | z | z <;> simp [z])
    (fun i h st c hc => by
      obtain ⟨hz, hTI, ⟨x, y, hTO⟩, h1, h2⟩ := st
      have e' : c = N + 4 ∨ c = N + 2 ∨ c = N + 3 ∨ c = N ∨ c = N + 1 := by simpa using hc
      rcases e' with z | z | z | z | z
      · rw [z]; exact ⟨_, hz, fun v q => nomatch q⟩
      · rw [z]; exact ⟨_, hTI, fun v q => nomatch q⟩
      · rw [z]; exact ⟨_, hTO, fun v q => nomatch q⟩
      · rw [z]; exact a.at_obj h1
      · rw [z]; exact b.at_obj h2)
    (fun i h h' st k => by
      obtain ⟨hz, hTI, ⟨x, y, hTO⟩, h1, h2⟩ := st
      exact ⟨k _ (by simp) _ hz, k _ (by simp) _ hTI, ⟨x, y, k _ (by simp) _ hTO⟩, Sn.at_keep (k := a) h1 fun o q => k _ (by simp) o q, Sn.at_keep (k := b) h2 fun o q => k _ (by simp) o q⟩)
    (fun A i s Q E st h => wpAny_pyIter_zip st.1 h)
    (fun X hP hw hK hc pins σ H s I (F : SrcN K H a xs ∧ SrcN K H b ys) => by
      subst hP hw hK
      obtain ⟨its, hs, _⟩ := src_sk I F.1
      obtain ⟨its2, hs2, _⟩ := src_sk I F.2
      have D1 := a.draws (prog := X.prog) (w := X.w) (A := X.A.in1) (I.ok.hd hc) its N l1
      have D2 := b.draws (prog := X.prog) (w := X.w) (A := X.A.in1) (I.ok.hd hc) its2 (N + 1) fun c hc => Nat.lt_succ_of_lt (l2 c hc)
      have W := WalksT.zipD2 (zip_sep2 l1 l2) D1 D2
      rw [hs.2.1, hs2.2.1] at W
      refine ⟨_, _, _, _, W, fun i st => ⟨st.1, st.2.1, st.2.2.1, ⟨st.2.2.2.1, hs.1⟩, st.2.2.2.2, hs2.1⟩, fun i h st => ⟨st.1, st.2.1, st.2.2.1, st.2.2.2.1.1, st.2.2.2.2.1⟩, fun i vals pt => ?_⟩
      obtain ⟨u, u2, hu, hu2, rfl⟩ := pt
      obtain ⟨x, hx, rx⟩ := hs.2.2 i u hu
      obtain ⟨y, hy, ry⟩ := hs2.2.2 i u2 hu2
      exact ⟨x, y, _, _, rfl, rx, ry, hx, hy⟩)
end
end Ur
end
section
set_option linter.all false
set_option autoImplicit false
set_option maxHeartbeats 1000000
/-! UrF5: walks over data. -/
namespace Ur
open PySem PySem.Spec PyProof.Rows L2

/-- J walks the data ds; what is frozen in H0 must stay -/
structure Walk (K : PySem.W.Frag) (J : L2.It) (ds : List D) (H0 : Hp) : Prop where
  go : ∀ i H, i < ds.length → Kept H0 H → J.go i H
  stop : ∀ H, Kept H0 H → J.stop ds.length H
  yld : ∀ i d H x H', ds[i]? = some d → Kept H0 H → J.yld i H x H' → (∀ l, Sa H l → Sa H' l) ∧ Kept H H' ∧ RD K H' x d
theorem Walk.same {K : PySem.W.Frag} {J : L2.It} {ds : List D} {H0 : Hp} (go : ∀ i H, i < ds.length → Kept H0 H → J.go i H) (stop : ∀ H, Kept H0 H → J.stop ds.length H)
    (yld : ∀ i d H x H', ds[i]? = some d → Kept H0 H → J.yld i H x H' → H' = H ∧ RD K H x d) : Walk K J ds H0 :=
  ⟨go, stop, fun i d H x H' e k y => by
    obtain ⟨rfl, r⟩ := yld i d H x H' e k y
    exact ⟨fun _ s => s, .refl, r⟩⟩
section
variable {X : Cx} {P : Prog} {cf : Cf} {W : WX} {XR : Hp → Value → Option Addr → D → Prop}
variable {H : Hp} {σ : L2.St} {st : Stt} {l : List Asn} {tg : Expr}
variable (P cf W XR) in
def tI (it : It) : TI := fun σ H R => ∃ st l, Sl X.K H σ st l ∧ Aft X.K XR W σ l (fun ds st' => ∀ J H', Walk X.K J ds H' → Sl X.K H' σ st' l → Gh H' (R J)) (evi P cf it st)
theorem gh_fp {pins : List (Addr × Obj)} {fp : List Addr} {R : Hp → Prop} (g : Gh H R) (f : ∀ b ∈ fp, FpOk X pins H b) {s : Shared} (I : Inv X pins σ H s) : ∃ H', Inv X pins σ H' s ∧ (∀ b ∈ fp, FpOk X pins H' b) ∧ R H' := by
  induction g with
  | now h => exact ⟨_, I, f, h⟩
  | @lock H R d u h m _ ih =>
    obtain ⟨od, I'⟩ := I.lock h m
    refine ih od (fun b hb => ?_) I'
    obtain ⟨f0, f1⟩ := f b hb
    refine ⟨?_, f1⟩
    rw [upd_ne]
    · exact f0
    · rintro rfl; rw [f0] at h; cases h
theorem pi_gh {it : Expr} {t : TI} (h : PI X tg it t) : PI X tg it (fun σ H R => t σ H fun J H' => Gh H' (R J)) :=
  ⟨fun pins s σ H R I hw => thn (h.run pins s σ H _ I hw) fun v s1 h1 => thn h1 fun u s2 ⟨i, fp, tn, J, H', e, I', T, st, f, g⟩ => by
    obtain ⟨H2, I2, f2, q⟩ := gh_fp g f I'
    exact ⟨i, fp, tn, J, H2, e, I2, T, st, f2, q⟩⟩
theorem pi_to {it : Expr} {t t' : TI} (h : PI X tg it t) (w : ∀ σ H R, t' σ H R → t σ H fun J H' => Gh H' (R J)) : PI X tg it t' := ⟨fun pins s σ H R I hw => (pi_gh h).run pins s σ H R I (w σ H R hw)⟩

/-! ### a list, a tuple, a text, a dict by its keys -/
def rAny (K : PySem.W.Frag) (x : V) (H : Hp) (R : L2.It → Hp → Prop) : Prop :=
  (∃ a, x = .ref a ∧ (∃ xs, FzL K H a xs) ∧ R (Itl K a) H) ∨ (∃ a, x = .ref a ∧ (∃ xs, FzT K H a xs) ∧ R (Itt K a) H) ∨ (∃ z, x = .str z ∧ R (Its z) H) ∨
    ∃ d o kvs, x = .ref d ∧ H d = some (.frz o (.dK kvs)) ∧ R (Itk d o kvs) H
theorem pi_any {e : Expr} {te : TE} (he : PE X e te) : PI X tg e (fun σ H R => te σ H fun x H1 => rAny X.K x H1 R) := by
  refine ⟨fun pins s σ H R I h => thn (he.run pins s σ H _ I h) fun u s1 ⟨x, H1, I1, r, q⟩ => ?_⟩
  rcases q with ⟨a, rfl, ⟨xs, hq⟩, q⟩ | ⟨a, rfl, ⟨xs, hq⟩, q⟩ | ⟨z, rfl, q⟩ | ⟨d, o, kvs, rfl, hd, q⟩
  · obtain rfl : u = Value.ref a := r
    obtain ⟨its, rv, p, hz⟩ := I1.list hq.sq
    exact wpAny_pyIter_list p.isList (pi_one (tk := s1.toks) I1 _ (turn_list a _) ⟨_, Heap.get?_push_size _ rfl, rfl, rfl⟩ q)
  · obtain rfl : u = Value.ref a := r
    obtain ⟨its, rv, p, hz⟩ := I1.tuple hq.sq
    exact wpAny_pyIter_tuple (show s1.heap.IsTuple a its.toArray from p) (pi_one (tk := s1.toks) I1 _ (turn_tuple a _) ⟨_, Heap.get?_push_size _ rfl, rfl, rfl⟩ q)
  · obtain ⟨t, rfl⟩ := r
    cases ha : z.cps.all (· < 128) with
    | false => exact wpAny_pyIter_wide ha (pi_one (tk := s1.toks) I1 _ (turn_str _ z t _ (.inr rfl)) ⟨_, Heap.get?_push_size _ rfl, rfl, rfl⟩ q)
    | true => exact wpAny_pyIter_ascii ha (pi_one (tk := s1.toks) I1 _ (turn_str _ z t _ (.inl rfl)) ⟨_, Heap.get?_push_size _ rfl, rfl, rfl⟩ q)
  · obtain rfl : u = Value.ref d := r
    obtain ⟨hs, hgd, hx, es, ep, vs, hdt, hsz, kv, hm⟩ := I1.frzK hd
    refine iter_keys hs hgd hx hdt (pi_one (tk := s1.toks) I1 _ (turn_keys _ hdt) ⟨_, Heap.get?_push_size _ rfl, rfl, ?_⟩ q)
    rw [hsz]
    rfl
theorem rd_kV {K : PySem.W.Frag} {H : Hp} {k : Key} (h : keyOk k = true) : RD K H (kV k) (kD k) := by
  cases k with
  | inl i => exact .int i
  | inr x =>
    rw [keyOk, Bool.and_eq_true, decide_eq_true_eq] at h
    exact .str x h.1 h.2
theorem RDk.getK {K : PySem.W.Frag} {H : Hp} : ∀ {kvs : List (Key × V)} {ds : List (D × D)} {i : Nat} {d : D}, RDk K H kvs ds → (ds.map (·.1))[i]? = some d → ∃ k v, kvs[i]? = some (k, v) ∧ d = kD k
  | _, _, _, _, .nil, e => by simp at e
  | _, _, 0, _, .cons (k := k) h r, e => by simp at e; exact ⟨_, _, rfl, e.symm⟩
  | _, _, i + 1, _, .cons h r, e => by
    obtain ⟨k, v, e1, h1⟩ := RDk.getK (i := i) r (by simpa using e)
    exact ⟨k, v, by simpa using e1, h1⟩
theorem RDk.length {K : PySem.W.Frag} {H : Hp} : ∀ {kvs : List (Key × V)} {ds : List (D × D)}, RDk K H kvs ds → kvs.length = ds.length
  | _, _, .nil => rfl
  | _, _, .cons _ r => by simp [RDk.length r]
theorem keysOk_get {α : Type} {kvs : List (Key × α)} {i : Nat} {k : Key} {v : α} (g : keysOk kvs = true) (e : kvs[i]? = some (k, v)) : keyOk k = true := by
  unfold keysOk at g
  rw [Bool.and_eq_true, Bool.and_eq_true, List.all_eq_true] at g
  exact g.1.1 _ (List.mem_of_getElem? e)
theorem itD_dict {kvs : List (D × D)} {ds : List D} (e : itD (.dict kvs) = some ds) : ds = kvs.map (·.1) := by
  unfold itD at e
  split at e
  · rename_i h; cases h
  · rename_i h; cases h
  · rename_i h; cases h
  · cases e
  · cases e
  · rename_i h; cases h; exact (Option.some.inj e).symm
  · cases e
theorem walk_any {K : PySem.W.Frag} {v : V} {d : D} {ds : List D} (r : RD K H v d) (e : itD d = some ds) : ∃ J, Walk K J ds H ∧ ∀ R : L2.It → Hp → Prop, R J H → rAny K v H R := by
  cases r with
  | exc _ _ => simp [itD, excD] at e
  | non => simp [itD] at e
  | bl b => simp [itD] at e
  | int i => simp [itD] at e
  | str x h z =>
    simp only [itD, Option.some.injEq] at e
    subst e
    refine ⟨Its x, .same (fun i H hi _ => ?_) (fun H _ => ?_) (fun i d H v H' e _ y => ?_), fun R q => .inr (.inr (.inl ⟨x, rfl, q⟩))⟩
    · show i < x.cps.size
      simpa [signs] using hi
    · show x.cps.size ≤ _
      simp [signs]
    · obtain ⟨e1, c, hc, rfl⟩ := y
      refine ⟨e1, ?_⟩
      have hd : d = sgn c := by
        unfold signs at e
        rw [List.getElem?_map, Array.getElem?_toList, hc] at e
        simpa using e.symm
      subst hd
      have hm : c ∈ x.cps.toList := List.mem_of_getElem? (by rw [Array.getElem?_toList]; exact hc)
      exact .str _ (strOk_sgn h hm) (show (1 : Nat) ≤ top by unfold top; decide)
  | @lst a xs ds' h z r =>
    simp only [itD, Option.some.injEq] at e
    subst e
    have hl := r.length
    refine ⟨Itl K a, .same (fun i H' hi k => ?_) (fun H' k => ?_) (fun i d H' v H'' e k y => ?_), fun R q => .inl ⟨a, rfl, ⟨xs, h⟩, q⟩⟩
    · exact ⟨xs, xs[i]'(by omega), (h.kept k).sq, by simp⟩
    · exact ⟨xs, (h.kept k).sq, by omega⟩
    · obtain ⟨e1, y⟩ := y
      obtain ⟨v', hv, rv⟩ := r.get e
      have := y xs (h.kept k).sq
      rw [hv] at this
      cases this
      exact ⟨e1, rv.kept k⟩
  | @tup a xs ds' h z r =>
    simp only [itD, Option.some.injEq] at e
    subst e
    have hl := r.length
    refine ⟨Itt K a, .same (fun i H' hi k => ?_) (fun H' k => ?_) (fun i d H' v H'' e k y => ?_), fun R q => .inr (.inl ⟨a, rfl, ⟨xs, h⟩, q⟩)⟩
    · exact ⟨xs, xs[i]'(by omega), (h.kept k).sq, by simp⟩
    · exact ⟨xs, (h.kept k).sq, by omega⟩
    · obtain ⟨e1, y⟩ := y
      obtain ⟨v', hv, rv⟩ := r.get e
      have := y xs (h.kept k).sq
      rw [hv] at this
      cases this
      exact ⟨e1, rv.kept k⟩
  | @dct a o kvs ds' h g r =>
    have e := itD_dict e
    subst e
    have hl := r.length
    refine ⟨Itk a o kvs, .same (fun i H' hi k => ?_) (fun H' k => ?_) (fun i d H' v H'' e k y => ?_), fun R q => .inr (.inr (.inr ⟨a, o, kvs, rfl, h, q⟩))⟩
    · exact ⟨k _ _ h trivial, by simpa [hl] using hi⟩
    · exact ⟨k _ _ h trivial, by simp [hl]⟩
    · obtain ⟨e1, q, w, hq, rfl⟩ := y
      obtain ⟨q', w', hq', rfl⟩ := r.getK e
      rw [hq] at hq'
      cases hq'
      exact ⟨e1, rd_kV (keysOk_get g hq)⟩
theorem r_any {e : E} {e' : Expr} (he : PE X e' (tE X.K XR P cf W e)) : PI X tg e' (tI (X := X) P cf W XR (.any e)) :=
  pi_to (pi_any he) fun σ H R ⟨st, l, s, h⟩ => by
    have h : Aft X.K XR W σ l _ (bd (ev P cf e st) fun o s => match itD o.fz with
      | some ds => some (.ok ds, s)
      | none => none) := h
    refine t1 s h fun o st1 v H1 h1 s1 => s1.fz.imp fun H2 ⟨k2, r2, s2⟩ => ?_
    split at h1
    · rename_i ds ed
      obtain ⟨J, w, q⟩ := walk_any r2 ed
      exact q _ (h1 J H2 w s2)
    · exact h1.elim

/-! ### ranges -/
theorem len_two {α : Type} {l : List α} (h : l.length = 2) : ∃ a b, l = [a, b] := by
  match l, h with
  | [a, b], _ => exact ⟨a, b, rfl⟩
theorem len_three {α : Type} {l : List α} (h : l.length = 3) : ∃ a b c, l = [a, b, c] := by
  match l, h with
  | [a, b, c], _ => exact ⟨a, b, c, rfl⟩
theorem walk_up {K : PySem.W.Frag} (a : Int) (n : Nat) : Walk K (Itr a n) ((List.range n).map fun (j : Nat) => .int (a + j)) H :=
  .same (fun i H hi _ => by simpa [Itr] using hi) (fun H _ => by simp [Itr]) fun i d H x H' e _ y => by
    obtain ⟨e1, rfl⟩ := y
    refine ⟨e1, ?_⟩
    rw [List.getElem?_map] at e
    obtain ⟨j, hj, rfl⟩ := Option.map_eq_some_iff.mp e
    obtain ⟨hj1, hj2⟩ := List.getElem?_eq_some_iff.mp hj
    simp at hj2
    subst hj2
    exact .int _
theorem walk_down {K : PySem.W.Frag} (a : Int) (n : Nat) : Walk K (Itc a (-1) n) ((List.range n).map fun (j : Nat) => .int (a - j)) H :=
  .same (fun i H hi _ => by simpa [Itc] using hi) (fun H _ => by simp [Itc]) fun i d H x H' e _ y => by
    obtain ⟨e1, rfl⟩ := y
    refine ⟨e1, ?_⟩
    rw [List.getElem?_map] at e
    obtain ⟨j, hj, rfl⟩ := Option.map_eq_some_iff.mp e
    obtain ⟨hj1, hj2⟩ := List.getElem?_eq_some_iff.mp hj
    simp at hj2
    subst hj2
    have : a + (i : Nat) * (-1 : Int) = a - i := by omega
    rw [this]
    exact .int _
theorem range_up {a b : Int} {ds : List D} (e : rangeD a b 1 = some ds) : (-(2 ^ 62) ≤ a ∧ a < 2 ^ 62 ∧ -(2 ^ 62) ≤ b ∧ b < 2 ^ 62) ∧ ds = (List.range (b - a).toNat).map fun (j : Nat) => .int (a + j) := by
  unfold rangeD at e
  rw [if_pos rfl] at e
  simp only at e
  split at e
  · rename_i h
    exact ⟨h.2, (Option.some.inj e).symm⟩
  · cases e
theorem range_any {a b c : Int} {ds : List D} (e : rangeD a b c = some ds) : c = 1 ∨ (c = -1 ∧ (-(2 ^ 62) ≤ a ∧ a < 2 ^ 62 ∧ -(2 ^ 62) ≤ b ∧ b < 2 ^ 62) ∧ ds = (List.range (a - b).toNat).map fun (j : Nat) => .int (a - j)) := by
  unfold rangeD at e
  split at e
  · exact .inl ‹_›
  · split at e
    · simp only at e
      split at e
      · rename_i h1 h2 h
        exact .inr ⟨h2, h.2, (Option.some.inj e).symm⟩
      · cases e
    · cases e
theorem r_rng {es : Es} {es' : List Expr} {x : Str} {p pos : Pos} (hx : x = "range") (hg : glob X.env.scope x = true) (hm : X.mg "range" = none) (h : PA X es' (tEs X.K XR P cf W es)) (hs : noStars es' = true) (hn : es'.length = 1 ∨ es'.length = 2 ∨ es'.length = 3) (hl : es.len = es'.length) :
    PI X tg (.Call (.Name x p) es' [] pos) (tI (X := X) P cf W XR (.rng es)) := by
  obtain ⟨g1, g2, g3⟩ := glob_ok hg
  subst hx
  have go : ∀ {σ : L2.St} {H : Hp} {R : L2.It → Hp → Prop}, tI (X := X) P cf W XR (.rng es) σ H R → tEs X.K XR P cf W es σ H fun vs H1 => ∃ ds xs l, RDs X.K H1 vs xs ∧ xs.length = es.len ∧ rangeOf xs = some ds ∧ ∀ J, Walk X.K J ds H1 → Gh H1 (R J) := fun {σ H R} ⟨st, l, s, h⟩ => by
    have h : Aft X.K XR W σ l _ (bd (evs P cf es st) fun os s => match rangeOf (fzs os) with
      | some ds => some (.ok ds, s)
      | none => none) := h
    refine ts1 s (aft_len h) fun os st1 vs H1 h1 hl s1 => (s1.fzs hl).imp fun H2 ⟨k2, r2, s2⟩ => ?_
    by_cases hn : os.length = es.len
    · rw [if_pos hn] at h1
      split at h1
      · rename_i ds ed
        exact ⟨ds, _, (0 : Nat), r2, by rw [fzs_length]; exact hn, ed, fun J w => h1 J H2 w s2⟩
      · exact h1.elim
    · rw [if_neg hn] at h1; exact h1.elim
  rcases hn with hn | hn | hn
  · obtain ⟨a, rfl⟩ := List.length_eq_one_iff.mp hn
    rw [noStars, Bool.and_eq_true] at hs
    refine pi_to (pi_range1 g1 hm h (star_cons hs.1)) fun σ H R q => ?_
    obtain ⟨st, l, s, q⟩ := go q
    refine ⟨st, l, s, aft_imp X.K XR q fun os st' k vs H' hvl s' => (k vs H' hvl s').imp fun H2 ⟨ds, xs, _, r, hl2, ed, w⟩ => ?_⟩
    rw [hl, hn] at hl2
    obtain ⟨d, rfl⟩ := List.length_eq_one_iff.mp hl2
    obtain ⟨v, rfl, rv⟩ := r.one
    cases rv with
    | int b =>
      obtain ⟨⟨_, _, b1, b2⟩, rfl⟩ := range_up ed
      refine ⟨b, rfl, b1, b2, w _ ?_⟩
      have := walk_up (K := X.K) (H := H2) 0 b.toNat
      simpa using this
    | _ => simp [rangeOf, excD] at ed
  · obtain ⟨a, b, rfl⟩ := len_two hn
    rw [noStars, Bool.and_eq_true, noStars, Bool.and_eq_true] at hs
    refine pi_to (pi_range2 g1 hm h (by rw [star_cons hs.1, star_cons hs.2.1]; rfl) (by rw [star_cons hs.2.1]; rfl)) fun σ H R q => ?_
    obtain ⟨st, l, s, q⟩ := go q
    refine ⟨st, l, s, aft_imp X.K XR q fun os st' k vs H' hvl s' => (k vs H' hvl s').imp fun H2 ⟨ds, xs, _, r, hl2, ed, w⟩ => ?_⟩
    rw [hl, hn] at hl2
    obtain ⟨d, d2, rfl⟩ := len_two hl2
    obtain ⟨v, v2, rfl, rv, rv2⟩ := r.two
    cases rv with
    | int i =>
      cases rv2 with
      | int j =>
        obtain ⟨⟨b1, b2, b3, b4⟩, rfl⟩ := range_up ed
        exact ⟨i, j, rfl, ⟨b1, b2, b3, b4⟩, w _ (walk_up i _)⟩
      | _ => simp [rangeOf, excD] at ed
    | _ => cases d2 <;> simp [rangeOf, excD] at ed
  · obtain ⟨a, b, c, rfl⟩ := len_three hn
    rw [noStars, Bool.and_eq_true] at hs
    refine pi_to (pi_range3 g1 hm h (star_cons hs.1) (star_any hs.2)) fun σ H R q => ?_
    obtain ⟨st, l, s, q⟩ := go q
    refine ⟨st, l, s, aft_imp X.K XR q fun os st' k vs H' hvl s' => (k vs H' hvl s').imp fun H2 ⟨ds, xs, _, r, hl2, ed, w⟩ => ?_⟩
    rw [hl, hn] at hl2
    obtain ⟨d, d2, d3, rfl⟩ := len_three hl2
    cases r with
    | cons rv r =>
      obtain ⟨v2, v3, rfl, rv2, rv3⟩ := r.two
      cases rv with
      | int i =>
        cases rv2 with
        | int j =>
          cases rv3 with
          | int c =>
            rcases range_any (show rangeD i j c = some ds from ed) with rfl | ⟨rfl, ⟨b1, b2, b3, b4⟩, rfl⟩
            · obtain ⟨⟨b1, b2, b3, b4⟩, rfl⟩ := range_up (show rangeD i j 1 = some ds from ed)
              refine ⟨i, j, 1, (j - i).toNat, rfl, ⟨by decide, by decide, small_one b1 b2 b3 b4, ?_⟩, w _ ?_⟩
              · rw [rangeSize_one]; split <;> omega
              · refine .same (fun k H hk _ => by rw [List.length_map, List.length_range] at hk; exact hk) (fun H _ => by rw [List.length_map, List.length_range]; exact Nat.le_refl _) fun k d H x H' e _ y => ?_
                obtain ⟨e1, rfl⟩ := y
                refine ⟨e1, ?_⟩
                rw [List.getElem?_map] at e
                obtain ⟨m, hm, rfl⟩ := Option.map_eq_some_iff.mp e
                obtain ⟨hm1, hm2⟩ := List.getElem?_eq_some_iff.mp hm
                simp at hm2
                subst hm2
                have : i + (k : Nat) * (1 : Int) = i + k := by omega
                rw [this]
                exact .int _
            · exact ⟨i, j, -1, _, rfl, RgC.neg b1 b2 b3 b4, w _ (walk_down i _)⟩
          | _ => simp [rangeOf, excD] at ed
        | _ => cases d3 <;> simp [rangeOf, excD] at ed
      | _ => cases d2 <;> cases d3 <;> simp [rangeOf, excD] at ed

/-! ### enumerate, zip, reversed -/
/-- a datum that is a source -/
inductive SrcV (K : PySem.W.Frag) (H : Hp) : V → List V → Prop
  | lst {a : Addr} {xs : List V} (h : FzL K H a xs) : SrcV K H (.ref a) xs
  | tup {a : Addr} {xs : List V} (h : FzT K H a xs) : SrcV K H (.ref a) xs
  | str (z : Str) : SrcV K H (.str z) (signsV z)
theorem SrcV.sn {K : PySem.W.Frag} {v : V} {u : Value} {xs : List V} (q : SrcV K H v xs) (r : RelV v u) : ∃ sn : Sn, sn.val = u ∧ SrcN K H sn xs := by
  cases q with
  | @lst a _ h => exact ⟨.lst a, (show u = Value.ref a from r).symm, h⟩
  | @tup a _ h => exact ⟨.tup a, (show u = Value.ref a from r).symm, h⟩
  | str z =>
    obtain ⟨t, rfl⟩ := r
    exact ⟨.str z t, rfl, rfl⟩
theorem src_of {K : PySem.W.Frag} {v : V} {d : D} {ds : List D} (r : RD K H v d) (e : itS d = some ds) : ∃ xs, SrcV K H v xs ∧ RDs K H xs ds := by
  cases r with
  | str x h z =>
    simp only [itS, Option.some.injEq] at e
    subst e
    exact ⟨_, .str x, signs_rd h⟩
  | lst h z r =>
    simp only [itS, Option.some.injEq] at e
    subst e
    exact ⟨_, .lst h, r⟩
  | tup h z r =>
    simp only [itS, Option.some.injEq] at e
    subst e
    exact ⟨_, .tup h, r⟩
  | _ => simp [itS, excD] at e
theorem pi_enumS {e : Expr} {te : TE} {p pos tpos : Pos} {elts : List Expr} {kk : Nat} (hg : Gl X "enumerate") (hm : X.mg "enumerate" = none) (he : PE X e te) (hs : noStar e = true) :
    PI X (.Tuple elts kk tpos) (.Call (.Name "enumerate" p) [e] [] pos) (fun σ H R => te σ H fun x H1 => ∃ xs, SrcV X.K H1 x xs ∧ ∀ sn, SrcN X.K H1 sn xs → R (Itp xs.length (fun H => SrcN X.K H sn xs) fun i x y => x = .int (0 + (i : Nat)) ∧ xs[i]? = some y) H1) := by
  refine ⟨fun pins s σ H R I h => ?_⟩
  refine Call_ (ld_blt I hg hm PyProof.Rows.boot_enumerate (PyProof.Rows.callWith_type1 (PyProof.Rows.args_cons (thn (he.run pins s σ H _ I h) fun u s1 ⟨v, H1, I1, r1, xs, q1, q⟩ => PyProof.Rows.args_nil ?_) (star_cons hs)) (star_cons hs) rfl))
  obtain ⟨sn, rfl, hsn⟩ := q1.sn r1
  obtain ⟨its, ok, low⟩ := src_sk I1 hsn
  refine urEnumCall (sn.begins its) ok.1 fun h' a b kp => wpAny_pyIter_enum a ?_
  refine ⟨s1.heap.objs.size + 1, [s1.heap.objs.size + 1, s1.heap.objs.size], _, _, H1, rfl, I1.kept (t' := s1.toks) kp, turn_enumN 0 (Nat.succ_ne_self _) low fun b hb => Nat.lt_succ_of_lt (low b hb), ⟨⟨.none, by simpa using a⟩, Sn.at_new b⟩, fun b hb => ?_, q sn hsn⟩
  have e' : b = s1.heap.objs.size + 1 ∨ b = s1.heap.objs.size := by simpa using hb
  have hle : s1.heap.objs.size ≤ b := by rcases e' with z | z <;> rw [z] <;> first | exact Nat.le_succ _ | exact Nat.le_refl _
  exact I1.fpOk hle (I1.hok.fresh hle)
theorem pi_zipS {e e2 : Expr} {te te2 : TE} {p pos tpos : Pos} {elts : List Expr} {kk : Nat} (hg : Gl X "zip") (hm : X.mg "zip" = none) (he : PE X e te) (he2 : PE X e2 te2) (hs : noStar e = true) (hs2 : noStar e2 = true) :
    PI X (.Tuple elts kk tpos) (.Call (.Name "zip" p) [e, e2] [] pos) (fun σ H R => te σ H fun x H0 => te2 σ H0 fun y H1 => ∃ xs ys, SrcV X.K H1 x xs ∧ SrcV X.K H1 y ys ∧ ∀ a b, SrcN X.K H1 a xs → SrcN X.K H1 b ys →
      R (Itp (min xs.length ys.length) (fun H => SrcN X.K H a xs ∧ SrcN X.K H b ys) fun i x y => xs[i]? = some x ∧ ys[i]? = some y) H1) := by
  refine ⟨fun pins s σ H R I h => ?_⟩
  refine Call_ (ld_blt I hg hm PyProof.Rows.boot_zip (PyProof.Rows.callWith_type1 (PyProof.Rows.args_cons (thn (he.run pins s σ H _ I h) fun u0 s0 ⟨v0, H0, I0, r0, q0⟩ => PyProof.Rows.args_cons (thn (he2.run pins s0 σ H0 _ I0 q0) fun u s1 ⟨v, H1, I1, r1, xs, ys, q1, q2, q⟩ => PyProof.Rows.args_nil ?_) (star_cons hs2)) (star_cons hs)) (star_cons hs) (star_any (by rw [noStars, noStars, hs2]; rfl))))
  obtain ⟨a, rfl, ha⟩ := q1.sn r0
  obtain ⟨b, rfl, hb⟩ := q2.sn r1
  obtain ⟨its, ok, low⟩ := src_sk I1 ha
  obtain ⟨its2, ok2, low2⟩ := src_sk I1 hb
  refine zip_begins2 (a.begins its) (b.begins its2) ok.1 ok2.1 fun h' hz hTI hTO h1 h2 hsz hk => wpAny_pyIter_zip hz ?_
  refine ⟨s1.heap.objs.size + 4, [s1.heap.objs.size + 4, s1.heap.objs.size + 2, s1.heap.objs.size + 3, s1.heap.objs.size, s1.heap.objs.size + 1], _, _, H1, rfl, I1.kept (t' := s1.toks) hk, turn_zipN low low2, ⟨hz, hTI, ⟨_, _, hTO⟩, Sn.at_new h1, Sn.at_new h2⟩, fun c hcm => ?_, q a b ha hb⟩
  have e' : c = s1.heap.objs.size + 4 ∨ c = s1.heap.objs.size + 2 ∨ c = s1.heap.objs.size + 3 ∨ c = s1.heap.objs.size ∨ c = s1.heap.objs.size + 1 := by simpa using hcm
  have hle : s1.heap.objs.size ≤ c := by rcases e' with z | z | z | z | z <;> rw [z] <;> first | exact Nat.le_add_right _ _ | exact Nat.le_refl _
  exact I1.fpOk hle (I1.hok.fresh hle)
theorem enumFrom_get : ∀ {ds : List D} {k : Int} {i : Nat} {d : D}, (enumFrom k ds)[i]? = some d → ∃ x, ds[i]? = some x ∧ d = .tuple [.int (k + i), x]
  | [], _, _, _, e => by simp [enumFrom] at e
  | x :: r, k, 0, d, e => by simp [enumFrom] at e; exact ⟨x, rfl, by rw [← e]; simp⟩
  | x :: r, k, i + 1, d, e => by
    rw [enumFrom, List.getElem?_cons_succ] at e
    obtain ⟨y, h1, h2⟩ := enumFrom_get e
    refine ⟨y, by simpa using h1, ?_⟩
    rw [h2]
    congr 3
    push_cast
    omega
theorem enumFrom_len : ∀ (ds : List D) (k : Int), (enumFrom k ds).length = ds.length
  | [], _ => rfl
  | x :: r, k => by rw [enumFrom, List.length_cons, enumFrom_len r, List.length_cons]
theorem zipD_get : ∀ {ds es : List D} {i : Nat} {d : D}, (zipD ds es)[i]? = some d → ∃ x y, ds[i]? = some x ∧ es[i]? = some y ∧ d = .tuple [x, y]
  | [], _, _, _, e => by simp [zipD] at e
  | _ :: _, [], _, _, e => by simp [zipD] at e
  | x :: r, y :: t, 0, d, e => by simp [zipD] at e; exact ⟨x, y, rfl, rfl, e.symm⟩
  | x :: r, y :: t, i + 1, d, e => by
    rw [zipD, List.getElem?_cons_succ] at e
    obtain ⟨a, b, h1, h2, h3⟩ := zipD_get e
    exact ⟨a, b, by simpa using h1, by simpa using h2, h3⟩
theorem zipD_len : ∀ (ds es : List D), (zipD ds es).length = min ds.length es.length
  | [], _ => by simp [zipD]
  | _ :: _, [] => by simp [zipD]
  | x :: r, y :: t => by rw [zipD, List.length_cons, zipD_len r t, List.length_cons, List.length_cons]; omega
theorem walk_pair {K : PySem.W.Frag} {n : Nat} {F : Hp → Prop} {p : Nat → V → V → Prop} {ds : List D} (hn : ds.length = n) (hF : ∀ H', Kept H H' → F H') (hp : ∀ i d x y H', ds[i]? = some d → Kept H H' → p i x y → ∃ a b, d = .tuple [a, b] ∧ RD K H' x a ∧ RD K H' y b) : Walk K (Itp n F p) ds H := by
  subst hn
  refine ⟨fun i H' hi k => ⟨hi, hF H' k⟩, fun H' k => ⟨rfl, hF H' k⟩, fun i d H' v H'' e k q => ?_⟩
  obtain ⟨T, x, y, rfl, hT, rfl, hpq⟩ := q
  obtain ⟨a, b, rfl, r1, r2⟩ := hp i d x y H' e k hpq
  have kn : Kept H' (upd H' T (.tup [x, y])) := Sa.kept_new hT
  exact ⟨fun l s => s.new hT, kn, .tup (.inl upd_same) (show (2 : Nat) ≤ top by unfold top; decide) (.cons (r1.kept kn) (.cons (r2.kept kn) .nil))⟩
theorem r_enum {e : E} {e' : Expr} {x : Str} {p pos tpos : Pos} {elts : List Expr} {kk : Nat} (hx : x = "enumerate") (hg : glob X.env.scope x = true) (hm : X.mg "enumerate" = none) (he : PE X e' (tE X.K XR P cf W e)) (hs : noStar e' = true) :
    PI X (.Tuple elts kk tpos) (.Call (.Name x p) [e'] [] pos) (tI (X := X) P cf W XR (.enum e)) := by
  obtain ⟨g1, g2, g3⟩ := glob_ok hg
  subst hx
  refine pi_to (pi_enumS g1 hm he hs) fun σ H R ⟨st, l, s, h⟩ => ?_
  have h : Aft X.K XR W σ l _ (bd (ev P cf e st) fun o s => match itS o.fz with
    | some ds => some (.ok (enumFrom 0 ds), s)
    | none => none) := h
  refine t1 s h fun o st1 v H1 h1 s1 => s1.fz.imp fun H2 ⟨k2, r2, s2⟩ => ?_
  split at h1
  · rename_i ds ed
    obtain ⟨xs, q, rs⟩ := src_of r2 ed
    refine ⟨xs, q, fun sn hsn => h1 _ H2 ?_ s2⟩
    refine walk_pair (by rw [enumFrom_len, rs.length]) (fun H' k => hsn.kept k) fun i d x y H' ei k hp => ?_
    obtain ⟨rfl, hy⟩ := hp
    obtain ⟨dx, h1, rfl⟩ := enumFrom_get ei
    obtain ⟨v', hv, rv⟩ := rs.get h1
    rw [hy] at hv
    cases hv
    exact ⟨_, _, rfl, .int _, rv.kept k⟩
  · exact h1.elim
theorem r_zip {a b : E} {a' b' : Expr} {x : Str} {p pos tpos : Pos} {elts : List Expr} {kk : Nat} (hx : x = "zip") (hg : glob X.env.scope x = true) (hm : X.mg "zip" = none) (ha : PE X a' (tE X.K XR P cf W a)) (hb : PE X b' (tE X.K XR P cf W b)) (hs : noStar a' = true) (hs2 : noStar b' = true) :
    PI X (.Tuple elts kk tpos) (.Call (.Name x p) [a', b'] [] pos) (tI (X := X) P cf W XR (.zip a b)) := by
  obtain ⟨g1, g2, g3⟩ := glob_ok hg
  subst hx
  refine pi_to (pi_zipS g1 hm ha hb hs hs2) fun σ H R ⟨st, l, s, h⟩ => ?_
  have h : Aft X.K XR W σ l _ (bd (ev P cf a st) fun x s => bd (ev P cf b s) fun y s => match itS x.fz, itS y.fz with
    | some xs, some ys => some (.ok (zipD xs ys), s)
    | _, _ => none) := h
  refine t1 s h fun x st1 vx H1 h1 s1 => .now ?_
  refine t1m s1 h1 fun y st2 vy H2 h2 s2 => s2.fz2.imp fun H3 ⟨k3, rx, ry, s3⟩ => ?_
  split at h2
  · rename_i ds es e1 e2
    obtain ⟨xs, q1, r1⟩ := src_of rx e1
    obtain ⟨ys, q2, r2⟩ := src_of ry e2
    refine ⟨xs, ys, q1, q2, fun sa sb ha hb => h2 _ H3 ?_ s3⟩
    refine walk_pair (by rw [zipD_len, r1.length, r2.length]) (fun H' k => ⟨ha.kept k, hb.kept k⟩) fun i d x y H' ei k hp => ?_
    obtain ⟨hx, hy⟩ := hp
    obtain ⟨dx, dy, g1, g2, rfl⟩ := zipD_get ei
    obtain ⟨v', hv, rv⟩ := r1.get g1
    obtain ⟨w', hw, rw'⟩ := r2.get g2
    rw [hx] at hv
    rw [hy] at hw
    cases hv
    cases hw
    exact ⟨_, _, rfl, rv.kept k, rw'.kept k⟩
  · exact h2.elim
theorem r_rev {e : E} {e' : Expr} {x : Str} {p pos : Pos} (hx : x = "reversed") (hg : glob X.env.scope x = true) (hm : X.mg "reversed" = none) (he : PE X e' (tE X.K XR P cf W e)) (hs : noStar e' = true) :
    PI X tg (.Call (.Name x p) [e'] [] pos) (tI (X := X) P cf W XR (.rev e)) := by
  obtain ⟨g1, g2, g3⟩ := glob_ok hg
  subst hx
  refine pi_to (RT.pi_revA g1 hm he (star_cons hs)) fun σ H R ⟨st, l, s, h⟩ => ?_
  have h : Aft X.K XR W σ l _ (bd (ev P cf e st) fun o s => match o.fz with
    | .list ds => some (.ok ds.reverse, s)
    | .tuple ds => some (.ok ds.reverse, s)
    | _ => none) := h
  refine t1 s h fun o st1 v H1 h1 s1 => s1.fz.imp fun H2 ⟨k2, r2, s2⟩ => ?_
  have turnd : ∀ {xs : List V} {ds : List D}, RDs X.K H2 xs ds → ∀ {i : Nat} {d : D}, ds.reverse[i]? = some d → ∃ v, xs[xs.length - 1 - i]? = some v ∧ RD X.K H2 v d := fun {xs ds} r {i d} e => by
    have hl := r.length
    have hi : i < ds.length := by
      have := (List.getElem?_eq_some_iff.mp e).1
      simpa using this
    rw [List.getElem?_reverse hi] at e
    rw [hl]
    exact r.get e
  generalize o.fz = d at h1 r2
  cases r2 with
  | @lst a xs ds hz z r =>
    refine ⟨a, xs, rfl, .inl ⟨hz.sq, h1 _ H2 (.same (fun i H' hi k => ?_) (fun H' k => ?_) fun i d H' v H'' e k y => ?_) s2⟩⟩
    · have hi : i < xs.length := by simpa [r.length] using hi
      exact ⟨hi, xs, xs[xs.length - 1 - i]'(by omega), (hz.kept k).sq, by simp⟩
    · show xs.length ≤ _
      simp [r.length]
    · obtain ⟨e1, y⟩ := y
      obtain ⟨w, hw, rw'⟩ := turnd r e
      have := y xs (hz.kept k).sq
      rw [hw] at this
      cases this
      exact ⟨e1, rw'.kept k⟩
  | @tup a xs ds hz z r =>
    refine ⟨a, xs, rfl, .inr ⟨hz.sq, h1 _ H2 (.same (fun i H' hi k => ?_) (fun H' k => ?_) fun i d H' v H'' e k y => ?_) s2⟩⟩
    · have hi : i < xs.length := by simpa [r.length] using hi
      exact ⟨hi, xs, xs[xs.length - 1 - i]'(by omega), (hz.kept k).sq, by simp⟩
    · show xs.length ≤ _
      simp [r.length]
    · obtain ⟨e1, y⟩ := y
      obtain ⟨w, hw, rw'⟩ := turnd r e
      have := y xs (hz.kept k).sq
      rw [hw] at this
      cases this
      exact ⟨e1, rw'.kept k⟩
  | _ => exact h1.elim
end
end Ur
end
section
set_option linter.all false
set_option autoImplicit false
set_option maxHeartbeats 1000000
/-! UrF6: targets; the slots of a comprehension's own names. -/
namespace Ur
open PySem L2

section
variable {K : PySem.W.Frag} {H H' : Hp} {σ : L2.St} {st : Stt} {l : List Asn} {i : Nat} {o : O} {v : V} {d : D}
theorem slots_sig : ∀ {σ : L2.St} {st : Stt} {i : Nat} {x : Option V}, st[i]? = some none → slots K (σ.set i x) st = slots K σ st
  | [], _, _, _, _ => rfl
  | _ :: _, [], _, _, h => by simp at h
  | y :: σ, z :: st, 0, x, h => by
    have h : z = none := by simpa using h
    subst h
    rw [List.set_cons_zero, slots_none, slots_none]
  | y :: σ, z :: st, i + 1, x, h => by
    rw [List.set_cons_succ]
    have ih := slots_sig (σ := σ) (st := st) (i := i) (x := x) (by simpa using h)
    cases y with
    | none => exact ih
    | some y =>
      cases z with
      | none => exact ih
      | some z =>
        show own K y z :: slots K (σ.set i x) st = own K y z :: slots K σ st
        rw [ih]
/-- an empty slot's name may hold anything -/
theorem Sl.sig (s : Sl K H σ st l) (h : st[i]? = some none) (x : Option V) : Sl K H (σ.set i x) st l := by
  refine ⟨⟨by simpa using s.ok.len, fun j o e => ?_⟩, by rw [slots_sig h]; exact s.sa⟩
  by_cases hj : i = j
  · subst hj; rw [h] at e; cases e
  · rw [List.getElem?_set_ne hj]; exact s.ok.has j o e
theorem set_out {α : Type} {l : List α} {i : Nat} {x : α} (h : ¬ i < l.length) : l.set i x = l := by
  rw [List.set_eq_of_length_le (by omega)]
theorem Sl.wipe1 (s : Sl K H σ st l) (i : Nat) : Sl K H (σ.set i none) (st.set i none) l := by
  by_cases hi : i < st.length
  · exact (s.forget i).sig (by simp [hi]) none
  · have hl := s.ok.len
    rw [set_out hi, set_out (by omega)]
    exact s
theorem Sl.wipe (s : Sl K H σ st l) : ∀ vs : List Nat, Sl K H (L2.wipe σ vs) (Ur.wipe vs st) l
  | [] => s
  | v :: vs => (Sl.wipe s vs).wipe1 v
/-- the data that stand in the slots -/
theorem Sl.data (s : Sl K H σ st l) (h : st[i]? = some (some (.dat d))) : ∃ v, σ[i]? = some (some v) ∧ RD K H v d := by
  have h' : get st i = some (.dat d) := by unfold get; rw [h]; rfl
  obtain ⟨v, hv, s1⟩ := s.take h'
  exact ⟨v, hv, s1.rd⟩
theorem wipe_len : ∀ (vs : List Nat) (st : Stt), (Ur.wipe vs st).length = st.length
  | [], _ => rfl
  | v :: vs, st => by rw [Ur.wipe, List.length_set, wipe_len vs st]
theorem wipe_get : ∀ {vs : List Nat} {st : Stt} {i : Nat}, i ∉ vs → (Ur.wipe vs st)[i]? = st[i]?
  | [], _, _, _ => rfl
  | v :: vs, st, i, h => by
    simp only [List.mem_cons, not_or] at h
    rw [Ur.wipe, List.getElem?_set_ne (Ne.symm h.1), wipe_get h.2]
theorem wipe_in : ∀ {vs : List Nat} {st : Stt} {i : Nat}, i ∈ vs → i < st.length → (Ur.wipe vs st)[i]? = some none
  | v :: vs, st, i, h, hi => by
    rw [Ur.wipe]
    by_cases e : v = i
    · subst e; rw [List.getElem?_set_self (by rw [wipe_len]; exact hi)]
    · rw [List.getElem?_set_ne e]
      exact wipe_in (by simpa [Ne.symm e] using h) hi
theorem wipeS_get : ∀ {vs : List Nat} {σ : L2.St} {i : Nat}, i ∉ vs → (L2.wipe σ vs)[i]? = σ[i]?
  | [], _, _, _ => rfl
  | v :: vs, st, i, h => by
    simp only [List.mem_cons, not_or] at h
    rw [L2.wipe, List.getElem?_set_ne (Ne.symm h.1), wipeS_get h.2]
theorem wipeS_in : ∀ {vs : List Nat} {σ : L2.St} {i : Nat}, i ∈ vs → i < σ.length → (L2.wipe σ vs)[i]? = some none
  | v :: vs, st, i, h, hi => by
    rw [L2.wipe]
    by_cases e : v = i
    · subst e; rw [List.getElem?_set_self (by rw [L2.wipe_length]; exact hi)]
    · rw [List.getElem?_set_ne e]
      exact wipeS_in (by simpa [Ne.symm e] using h) hi
theorem restore_len : ∀ (vs : List Nat) (o st : Stt), (restore vs o st).length = st.length
  | [], _, _ => rfl
  | v :: vs, o, st => by rw [restore, List.length_set, restore_len vs o st]
theorem restore_get : ∀ {vs : List Nat} {o st : Stt} {i : Nat}, i ∉ vs → (restore vs o st)[i]? = st[i]?
  | [], _, _, _, _ => rfl
  | v :: vs, o, st, i, h => by
    simp only [List.mem_cons, not_or] at h
    rw [restore, List.getElem?_set_ne (Ne.symm h.1), restore_get h.2]
theorem restore_wipe : ∀ {vs ws : List Nat} {o st : Stt}, (∀ v ∈ ws, v ∈ vs) → restore vs o (Ur.wipe ws st) = restore vs o st := by
  intro vs ws o st h
  refine List.ext_getElem? fun i => ?_
  by_cases hi : i ∈ vs
  · -- set by the restoring
    have key : ∀ {us : List Nat} {a b : Stt}, a.length = b.length → i ∈ us → (restore us o a)[i]? = (restore us o b)[i]? := by
      intro us
      induction us with
      | nil => intro a b _ hm; simp at hm
      | cons u us ih =>
        intro a b hl hm
        rw [restore, restore]
        by_cases e : u = i
        · subst e
          by_cases hb : u < a.length
          · rw [List.getElem?_set_self (by rw [restore_len]; exact hb), List.getElem?_set_self (by rw [restore_len]; omega)]
          · rw [List.getElem?_eq_none (by rw [List.length_set, restore_len]; omega), List.getElem?_eq_none (by rw [List.length_set, restore_len]; omega)]
        · rw [List.getElem?_set_ne e, List.getElem?_set_ne e]
          exact ih hl (by simpa [Ne.symm e] using hm)
    exact key (wipe_len _ _) hi
  · rw [restore_get hi, restore_get hi, wipe_get fun z => hi (h i z)]
/-- the block's end: its own names' slots are as ahead of it -/
theorem Sl.restore {old s' : Stt} {vs : List Nat} (s : Sl K H (L2.wipe σ vs) (Ur.wipe vs s') l) (hl : old.length = σ.length) (hd : ∀ v ∈ vs, isDat ((old[v]?).join) = true)
    (hr : ∀ (v : Nat) d, old[v]? = some (some (.dat d)) → ∃ x, σ[v]? = some (some x) ∧ RD K H x d) : Sl K H σ (Ur.restore vs old s') l := by
  have hs' : s'.length = σ.length := by
    have := s.ok.len
    rw [L2.wipe_length, wipe_len] at this
    exact this.symm
  -- the names first
  have part : ∀ us : List Nat, (∀ u ∈ us, u ∈ vs) → ∃ τ : L2.St, τ.length = σ.length ∧ (∀ i, i ∈ us → τ[i]? = σ[i]?) ∧ (∀ i, i ∉ us → τ[i]? = (L2.wipe σ vs)[i]?) ∧ Sl K H τ (Ur.restore us old (Ur.wipe vs s')) l := by
    intro us
    induction us with
    | nil => intro _; exact ⟨_, L2.wipe_length _ _, fun i h => by simp at h, fun i _ => rfl, s⟩
    | cons u us ih =>
      intro hu
      obtain ⟨τ, h1, h2, h3, h4⟩ := ih fun x hx => hu x (List.mem_cons_of_mem _ hx)
      have huv := hu u List.mem_cons_self
      by_cases hlt : u < σ.length
      · have hex : ∃ x, σ[u]? = some x := ⟨_, List.getElem?_eq_getElem hlt⟩
        obtain ⟨x, hx⟩ := hex
        refine ⟨τ.set u x, by simpa using h1, fun i hi => ?_, fun i hi => ?_, ?_⟩
        · by_cases e : u = i
          · subst e; rw [List.getElem?_set_self (by omega), hx]
          · rw [List.getElem?_set_ne e]; exact h2 i (by simpa [Ne.symm e] using hi)
        · simp only [List.mem_cons, not_or] at hi
          rw [List.getElem?_set_ne (Ne.symm hi.1)]; exact h3 i hi.2
        · rw [Ur.restore]
          have hd' := hd u huv
          cases ho : (old[u]?).join with
          | none =>
            have := (h4.forget u).sig (i := u) (by rw [List.getElem?_set_self]; rw [restore_len, wipe_len]; omega) x
            exact this
          | some o =>
            rw [ho] at hd'
            cases o with
            | dat d =>
              have ho' : old[u]? = some (some (.dat d)) := by
                cases q : old[u]? with
                | none => rw [q] at ho; cases ho
                | some z => rw [q] at ho; exact congrArg some ho
              obtain ⟨y, hy, ry⟩ := hr u d ho'
              rw [hx] at hy
              cases hy
              exact Sl.put (h4.dat ry) (by omega)
            | _ => cases hd'
      · refine ⟨τ, h1, fun i hi => ?_, fun i hi => h3 i fun z => hi (List.mem_cons_of_mem _ z), ?_⟩
        · rcases List.mem_cons.mp hi with e | hi
          · subst e; rw [List.getElem?_eq_none (by omega), List.getElem?_eq_none (by omega)]
          · exact h2 i hi
        · rw [Ur.restore, set_out (by rw [restore_len, wipe_len]; omega)]
          exact h4
  obtain ⟨τ, h1, h2, h3, h4⟩ := part vs fun _ h => h
  rw [restore_wipe fun _ h => h] at h4
  have e : τ = σ := List.ext_getElem? fun i => by
    by_cases hi : i ∈ vs
    · exact h2 i hi
    · rw [h3 i hi, wipeS_get hi]
  rw [e] at h4
  exact h4
end

/-! ### targets -/
def gIs : List Nat → TGs
  | [] => gNil
  | i :: is => gCons (gName i) (gIs is)
def gT (K : PySem.W.Frag) : Tg → TG
  | .nm i => gName i
  | .tup is => fun v σ H Q => gTup K is.length (gIs is) v σ H Q ∨ gLst K is.length (gIs is) v σ H Q
section
variable {K : PySem.W.Frag} {H H' : Hp} {σ : L2.St} {st : Stt} {l : List Asn} {v : V} {d : D}
theorem gIs_ok : ∀ {is : List Nat} {vs : List V} {ds : List D} {σ : L2.St} {st : Stt} {Q : L2.St → Hp → Prop}, RDs K H vs ds → ds.length = is.length → Sl K H σ st l → (∀ i ∈ is, i < σ.length) →
    (∀ τ : L2.St, τ.length = σ.length → (∀ i, i ∉ is → τ[i]? = σ[i]?) → Sl K H τ (putsD is ds st) l → Q τ H) → gIs is vs σ H Q
  | [], vs, ds, σ, st, Q, r, e, s, hi, k => by
    have : ds = [] := List.length_eq_zero_iff.mp (by simpa using e)
    subst this
    cases r
    exact ⟨rfl, k σ rfl (fun _ _ => rfl) s⟩
  | i :: is, vs, ds, σ, st, Q, r, e, s, hi, k => by
    cases r with
    | nil => simp at e
    | @cons w d ws ds h r =>
      refine ⟨w, ws, rfl, ?_⟩
      have s1 : Sl K H (σ.set i (some w)) (put st i (.dat d)) l := Sl.put (s.dat h) (hi i List.mem_cons_self)
      refine gIs_ok (is := is) r (by simpa using e) s1 (fun j hj => by rw [List.length_set]; exact hi j (List.mem_cons_of_mem _ hj)) fun τ h1 h2 s2 => k τ (by simpa using h1) (fun j hj => ?_) s2
      simp only [List.mem_cons, not_or] at hj
      rw [h2 j hj.2, List.getElem?_set_ne (Ne.symm hj.1)]
theorem asg_ok {tg : Tg} {st' : Stt} {Q : L2.St → Hp → Prop} (e : asg tg d st = some st') (r : RD K H v d) (s : Sl K H σ st l) (hi : ∀ i ∈ tg.slots, i < σ.length)
    (k : ∀ τ : L2.St, τ.length = σ.length → (∀ i, i ∉ tg.slots → τ[i]? = σ[i]?) → Sl K H τ st' l → Q τ H) : gT K tg v σ H Q := by
  cases tg with
  | nm i =>
    simp only [asg, Option.some.injEq] at e
    subst e
    refine k _ (by simp) (fun j hj => ?_) (Sl.put (s.dat r) (hi i (by simp [Tg.slots])))
    rw [List.getElem?_set_ne]
    simpa [Tg.slots, eq_comm] using hj
  | tup is =>
    cases r with
    | tup h z r =>
      simp only [asg] at e
      split at e
      · rename_i hl
        simp only [Option.some.injEq] at e
        subst e
        exact .inl ⟨_, _, rfl, h.sq, by rw [r.length, hl], gIs_ok r hl s hi k⟩
      · cases e
    | lst h z r =>
      simp only [asg] at e
      split at e
      · rename_i hl
        simp only [Option.some.injEq] at e
        subst e
        exact .inr ⟨_, _, rfl, h.sq, by rw [r.length, hl], gIs_ok r hl s hi k⟩
      · cases e
    | _ => simp [asg, excD] at e
theorem wipe_eq {σ τ : L2.St} {vs : List Nat} (hl : τ.length = σ.length) (h : ∀ i, i ∉ vs → τ[i]? = σ[i]?) : L2.wipe τ vs = L2.wipe σ vs := by
  refine List.ext_getElem? fun i => ?_
  by_cases hi : i ∈ vs
  · by_cases hlt : i < σ.length
    · rw [wipeS_in hi (by omega), wipeS_in hi hlt]
    · rw [List.getElem?_eq_none (by rw [L2.wipe_length]; omega), List.getElem?_eq_none (by rw [L2.wipe_length]; omega)]
  · rw [wipeS_get hi, wipeS_get hi, h i hi]
end
end Ur
end
section
set_option linter.all false
set_option autoImplicit false
set_option maxHeartbeats 1000000
/-! UrF7: list comprehensions. -/
namespace Ur
open PySem L2

/-- nothing is wished of exceptions -/
def W0 : WX := fun _ _ _ _ => False
section
variable {X : Cx} {P : Prog} {cf : Cf} {W : WX} {XR : Hp → Value → Option Addr → D → Prop}
variable {H : Hp} {σ : L2.St} {st : Stt} {l : List Asn}
/-! ### the tests of a clause -/
variable (P cf XR) in
def tC (K : PySem.W.Frag) (ifs : Es) : TT := fun σ H Q => ∃ st l, Sl K H σ st l ∧ Aft K XR W0 σ l (fun b st' => ∀ H', Sl K H' σ st' l → Gh H' (Q b)) (evc P cf ifs st)
theorem pts_gh {es : List Expr} {t : TT} (h : PTs X es t) : PTs X es (fun σ H Q => t σ H fun v H' => Gh H' (Q v)) :=
  ⟨fun pins s σ H Q I hw => thn (h.run pins s σ H _ I hw) fun u s1 ⟨H1, I1, g⟩ => let ⟨H2, I2, q⟩ := g.run I1; ⟨H2, I2, q⟩⟩
theorem pts_to {es : List Expr} {t t' : TT} (h : PTs X es t) (w : ∀ σ H Q, t' σ H Q → t σ H fun v H' => Gh H' (Q v)) : PTs X es t' := ⟨fun pins s σ H Q I hw => (pts_gh h).run pins s σ H Q I (w σ H Q hw)⟩
theorem rC_nil : PTs X [] (tC P cf XR X.K .nil) := pts_to pts_nil fun σ H Q ⟨st, l, s, h⟩ => h H s
theorem rC_one {c : E} {c' : Expr} (hc : PT X c' (tT X.K XR P cf W0 c)) : PTs X [c'] (tC P cf XR X.K (.cons c .nil)) :=
  pts_to (pts_one hc) fun σ H Q ⟨st, l, s, h⟩ => by
    have h : Aft X.K XR W0 σ l _ (bd (tst (ev P cf c st)) fun b s => if b then evc P cf .nil s else some (.ok false, s)) := h
    refine ⟨st, l, s, aft_bd X.K XR h fun b st1 h1 H1 s1 => .now ?_⟩
    cases b with
    | true => exact h1 H1 s1
    | false => exact h1 H1 s1

/-! ### the list that is made -/
theorem Sl.push {D : Addr} {acc : List O} {y : V} {o : O} (s : Sl X.K H σ st (own X.K y o :: own X.K (.ref D) (.lst acc) :: l)) (hz : acc.length < Ur.top) :
    ∃ xs, H D = some (.lst xs) ∧ xs.length < sizeLine ∧ Sl X.K (upd H D (.lst (xs ++ [y]))) σ st (own X.K (.ref D) (.lst (acc ++ [o])) :: l) := by
  have t := top_eq
  obtain ⟨a, xs, e, hl, z, s1⟩ := s.swap.top.openL
  cases e
  refine ⟨xs, s1.pt_get, by omega, .of_top s.ok ?_⟩
  have s2 : Sa (upd H D (.lst (xs ++ [y]))) (pt D (.lst (xs ++ [y])) :: (owns X.K (xs ++ [y]) (acc ++ [o]) ++ (slots X.K σ st ++ l))) := by
    refine (s1.write (o' := .lst (xs ++ [y])) fun z => z).perm (.cons _ ?_)
    have e1 : owns X.K (xs ++ [y]) (acc ++ [o]) = owns X.K xs acc ++ [own X.K y o] := by
      clear s1 z hz s
      induction xs generalizing acc with
      | nil =>
        have : acc = [] := List.length_eq_zero_iff.mp (by simpa using hl.symm)
        subst this; rfl
      | cons x xs ih =>
        cases acc with
        | nil => simp at hl
        | cons a acc =>
          show own X.K x a :: owns X.K (xs ++ [y]) (acc ++ [o]) = own X.K x a :: (owns X.K xs acc ++ [own X.K y o])
          rw [ih (by simpa using hl)]
    rw [e1, List.append_assoc]
    refine List.Perm.append_left _ ?_
    show (slots X.K σ st ++ own X.K y o :: l).Perm (own X.K y o :: (slots X.K σ st ++ l))
    exact List.perm_middle
  exact s2.closeL (by rw [List.length_append]; simp; omega) (by simp [hl])
/-- what was frozen in H0 is so still -/
def fzn (H0 : Hp) : Asn where
  P := fun H q => Kept H0 H ∧ ∀ a, ¬ q a
  loc := fun H H' q h k => ⟨h.1.trans fun a o e st => k a o e (.inr st), h.2⟩
  al := fun H q a h z => absurd z (h.2 a)
theorem Sl.keep {H0 : Hp} (s : Sl X.K H σ st l) (k : Kept H0 H) : Sl X.K H σ st (fzn H0 :: l) := .of_top s.ok (s.sa.cons0 ⟨k, fun _ z => z⟩)
theorem Sl.kpt {H0 : Hp} {A : Asn} (s : Sl X.K H σ st (A :: fzn H0 :: l)) : Kept H0 H := by
  obtain ⟨q, h⟩ := s.swap.top.head
  exact h.1
theorem Sl.fresh {D : Addr} (s : Sl X.K H σ st l) (h : H D = none) : Sl X.K (upd H D (.lst [])) σ st (own X.K (.ref D) (.lst []) :: l) := by
  refine .of_top s.ok (Sa.closeL (xs := []) ?_ (Nat.zero_le _) rfl)
  exact s.sa.made h fun z => z
theorem Sl.walk {J : L2.It} {ds : List D} {H0 H' : Hp} {i : Nat} {d : D} {x : V} (s : Sl X.K H σ st l) (w : Walk X.K J ds H0) (e : ds[i]? = some d) (k : Kept H0 H) (y : J.yld i H x H') : Sl X.K H' σ st l ∧ Kept H0 H' ∧ RD X.K H' x d :=
  let ⟨a, b, c⟩ := w.yld i d H x H' e k y
  ⟨⟨s.ok, a _ s.sa⟩, k.trans b, c⟩
theorem drop_get {α : Type} {l : List α} {i : Nat} {x : α} (h : l[i]? = some x) : l.drop i = x :: l.drop (i + 1) := by
  obtain ⟨hi, e⟩ := List.getElem?_eq_some_iff.mp h
  rw [List.drop_eq_getElem_cons hi, e]

variable (P cf) in
/-- a turn of the outer clause -/
def turnG (vs : List Nat) (tg : Tg) (ifs : Es) (next : Stt → List O → Option (List O × Stt)) (d : D) (s : Stt) (acc : List O) : Option (List O × Stt) :=
  match asg tg d (Ur.wipe vs s) with
  | none => none
  | some s1 => match evc P cf ifs s1 with
    | some (.ok true, s2) => next s2 acc
    | some (.ok false, s2) => some (acc, s2)
    | _ => none
theorem turn_some {vs : List Nat} {tg : Tg} {ifs : Es} {next : Stt → List O → Option (List O × Stt)} {d : D} {s : Stt} {acc : List O} {r : List O × Stt} (h : turnG P cf vs tg ifs next d s acc = some r) :
    ∃ s1, asg tg d (Ur.wipe vs s) = some s1 ∧ ((∃ s2, evc P cf ifs s1 = some (.ok true, s2) ∧ next s2 acc = some r) ∨ ∃ s2, evc P cf ifs s1 = some (.ok false, s2) ∧ r = (acc, s2)) := by
  unfold turnG at h
  split at h
  · cases h
  · rename_i s1 e1
    refine ⟨s1, e1, ?_⟩
    split at h
    · rename_i s2 e2; exact .inl ⟨s2, e2, h⟩
    · rename_i s2 e2; exact .inr ⟨s2, e2, (Option.some.inj h).symm⟩
    · cases h
theorem each_cons {body : D → Stt → List O → Option (List O × Stt)} {d : D} {r : List D} {s : Stt} {acc : List O} {z : List O × Stt} (h : eachG body (d :: r) s acc = some z) : ∃ acc' s', body d s acc = some (acc', s') ∧ eachG body r s' acc' = some z := by
  unfold eachG at h
  split at h
  · rename_i a s' e; exact ⟨a, s', e, h⟩
  · cases h
theorem in_len {vs : List Nat} {N : List Str} {σ : L2.St} (hN : ∀ v ∈ vs, ∃ x, N[v]? = some x) (hl : σ.length = N.length) : ∀ v ∈ vs, v < σ.length := fun v hv => by
  obtain ⟨x, hx⟩ := hN v hv
  rw [hl]
  exact (List.getElem?_eq_some_iff.mp hx).1

theorem lc_read {ow : List (Str × Nat)} {vs : List Nat} {tg : Tg} {it : It} {ifs : Es} {e : E} {scope sc : Scope} {N : List Str} {Q Q' : VK} (hQ : ∀ v H', Gh H' (Q v) → Q' v H') (hlN : σ.length = N.length) (ok : BlkOk N sc scope ow) (hv : ow.map (·.2) = vs) (hsl : ∀ i ∈ tg.slots, i ∈ vs)
    (q : tE X.K XR P cf W (.comp .lst vs tg it ifs (.last e)) σ H Q) : tLc (tI (X := X) P cf W XR it) (gT X.K tg) (tC P cf XR X.K ifs) (tE X.K XR P cf W0 e) (ow.map (·.2)) σ H Q' := by
  obtain ⟨st, l, s, h⟩ := q
  have hlen : ∀ v ∈ vs, v < σ.length := fun v hm => by
    rw [← hv] at hm
    obtain ⟨p, hp, rfl⟩ := List.mem_map.mp hm
    rw [hlN]
    exact (List.getElem?_eq_some_iff.mp (ok.ix p hp)).1
  have h : Aft X.K XR W σ l _ (bd (evi P cf it st) fun ds s => if vs.all fun v => isDat ((s[v]?).join) then
      match eachG (turnG P cf vs tg ifs (evg P cf (.last e))) ds s [] with
      | some (os, s') => lf (collect .lst os) (Ur.restore vs s s')
      | none => none
    else none) := h
  refine ⟨st, l, s, aft_bd X.K XR h fun ds st1 h1 J H1 w s1 => .now fun D hD => ?_⟩
  split at h1
  · rename_i hdat
    split at h1
    · rename_i os s' er
      have h1 : ∀ v H', Sl X.K H' σ (Ur.restore vs st1 s') (own X.K v (.lst os) :: l) → Gh H' (Q v) := h1
      rw [hv]
      have k0 : Kept H1 (upd H1 D (.lst [])) := Sa.kept_new hD
      let Inv : Nat → Hp → Prop := fun i H => i ≤ ds.length ∧ ∃ sti acc, eachG (turnG P cf vs tg ifs (evg P cf (.last e))) (ds.drop i) sti acc = some (os, s') ∧ Sl X.K H (L2.wipe σ vs) (Ur.wipe vs sti) (own X.K (.ref D) (.lst acc) :: fzn H1 :: l)
      refine ⟨fun i m H => m = ds.length - i ∧ Inv i H, ⟨ds.length, by simp, Nat.zero_le _, st1, [], er, (((s1.wipe vs).fresh hD).keep k0).swap⟩, ?_⟩
      rintro i m H ⟨rfl, hile, sti, acc, er, sl⟩
      have kp := sl.kpt
      by_cases hlt : i < ds.length
      · refine .inr ⟨w.go i H hlt kp, fun H => Inv (i + 1) H, fun H' n => ⟨ds.length - (i + 1), by omega, rfl, n⟩, fun x H' y => ?_⟩
        have ed : ds[i]? = some ds[i] := List.getElem?_eq_getElem hlt
        rw [drop_get ed] at er
        obtain ⟨acc', st', eb, er⟩ := each_cons er
        obtain ⟨t1, ea, eb⟩ := turn_some eb
        obtain ⟨sl, kp, rx⟩ := sl.walk w ed kp y
        refine asg_ok ea rx sl (fun i hi => by rw [L2.wipe_length]; exact hlen i (hsl i hi)) fun τ hτ hτ2 sl => ?_
        have hw : L2.wipe τ vs = L2.wipe σ vs := wipe_eq (by rw [hτ, L2.wipe_length]) fun i hi => by rw [hτ2 i fun z => hi (hsl i z), wipeS_get hi]
        refine ⟨hw, t1, _, sl, ?_⟩
        rcases eb with ⟨t2, ec, en⟩ | ⟨t2, ec, en⟩
        · rw [ec]
          intro H2 s2
          refine .now ?_
          have en : (match ev P cf e t2 with
            | some (.ok o, s') => if acc.length < top then some (acc ++ [o], s') else none
            | _ => none) = some (acc', st') := en
          show tE X.K XR P cf W0 e τ H2 _
          split at en
          · rename_i o t3 eo
            split at en
            · rename_i hz
              cases en
              refine ⟨t2, _, s2, ?_⟩
              rw [eo]
              intro v H3 s3
              refine .now ?_
              obtain ⟨xs, hx, hxz, s4⟩ := s3.push hz
              refine ⟨xs, hx, hxz, hlt, st', _, er, ?_⟩
              have := s4.wipe vs
              rw [hw] at this
              exact this
            · cases en
          · cases en
        · cases en
          rw [ec]
          intro H2 s2
          refine .now ?_
          show Inv (i + 1) H2
          have := s2.wipe vs
          rw [hw] at this
          exact ⟨hlt, _, _, er, this⟩
      · have hi : i = ds.length := by omega
        subst hi
        rw [List.drop_length] at er
        simp only [eachG, Option.some.injEq, Prod.mk.injEq] at er
        obtain ⟨rfl, rfl⟩ := er
        refine .inl ⟨w.stop H kp, hQ _ _ <| h1 _ H (sl.swap.tail.restore (by rw [s1.ok.len]) (fun v hv => List.all_eq_true.mp hdat v hv) fun v d hd => ?_)⟩
        obtain ⟨x, hx, rx⟩ := s1.data hd
        exact ⟨x, hx, rx.kept kp⟩
    · exact h1.elim
  · exact h1.elim
theorem r_lc {ow : List (Str × Nat)} {vs : List Nat} {tg : Tg} {it : It} {ifs : Es} {e : E} {tg' iter' elt : Expr} {ifs' : List Expr} {scope : Scope} {pos : Pos} (hc : X.calm = true) (hN : X.N.Nodup) (hi : PI X tg' iter' (tI (X := X) P cf W XR it))
    (ok : BlkOk X.N X.env.scope scope ow) (hv : ow.map (·.2) = vs) (hsl : ∀ i ∈ tg.slots, i ∈ vs)
    (hg : ∀ (s : Shared) (H : Hp) (C : Addr) (cl : List (Str × Addr)) (fp : List Addr), PG (X.blk s H scope (compEnvC scope cl C X.env) fp) tg' (gT X.K tg))
    (ht : ∀ (s : Shared) (H : Hp) (C : Addr) (cl : List (Str × Addr)) (fp : List Addr), PTs (X.blk s H scope (compEnvC scope cl C X.env) fp) ifs' (tC P cf XR X.K ifs))
    (he : ∀ (s : Shared) (H : Hp) (C : Addr) (cl : List (Str × Addr)) (fp : List Addr), PE (X.blk s H scope (compEnvC scope cl C X.env) fp) elt (tE X.K XR P cf W0 e)) (hs : ∀ x, foldedSetIterable iter' X.env x = pure x) :
    PE X (.ListComp elt [⟨tg', iter', ifs', 0⟩] scope pos) (tE X.K XR P cf W (.comp .lst vs tg it ifs (.last e))) :=
  ⟨fun pins s0 σ H Q I q => (pe_gh (pe_lc (pos := pos) hc hN hi ok hg ht he hs)).run pins s0 σ H Q I (lc_read (fun _ _ z => z) I.len ok hv hsl q)⟩
end
end Ur
end
section
set_option linter.all false
set_option autoImplicit false
set_option maxHeartbeats 1000000
/-! UrF8: list comprehensions of two clauses. -/
namespace Ur
open PySem L2
theorem wipe_wipe {vs ws : List Nat} {st : Stt} (h : ∀ v ∈ ws, v ∈ vs) : Ur.wipe vs (Ur.wipe ws st) = Ur.wipe vs st := by
  refine List.ext_getElem? fun i => ?_
  by_cases hi : i ∈ vs
  · by_cases hl : i < st.length
    · rw [wipe_in hi (by rw [wipe_len]; exact hl), wipe_in hi hl]
    · rw [List.getElem?_eq_none (by rw [wipe_len, wipe_len]; omega), List.getElem?_eq_none (by rw [wipe_len]; omega)]
  · rw [wipe_get hi, wipe_get hi, wipe_get fun z => hi (h i z)]
theorem wipeS_wipe {vs ws : List Nat} {σ : L2.St} (h : ∀ v ∈ ws, v ∈ vs) : L2.wipe (L2.wipe σ ws) vs = L2.wipe σ vs :=
  wipe_eq (by rw [L2.wipe_length]) fun i hi => wipeS_get fun z => hi (h i z)
section
variable {X : Cx} {P : Prog} {cf : Cf} {W : WX} {XR : Hp → Value → Option Addr → D → Prop}
theorem evg_cons {tg : Tg} {it : It} {ifs : Es} {r : Gs} {s : Stt} {acc : List O} {z : List O × Stt} (h : evg P cf (.cons tg it ifs r) s acc = some z) :
    ∃ ds s', evi P cf it s = some (.ok ds, s') ∧ eachG (turnG P cf tg.slots tg ifs (evg P cf r)) ds s' acc = some z := by
  have h : (match evi P cf it s with
    | some (.ok ds, s') => eachG (turnG P cf tg.slots tg ifs (evg P cf r)) ds s' acc
    | _ => none) = some z := h
  split at h
  · rename_i ds s' e; exact ⟨ds, s', e, h⟩
  · cases h
theorem evg_last {e : E} {s : Stt} {acc : List O} {z : List O × Stt} (h : evg P cf (.last e) s acc = some z) : ∃ o s', ev P cf e s = some (.ok o, s') ∧ acc.length < Ur.top ∧ z = (acc ++ [o], s') := by
  have h : (match ev P cf e s with
    | some (.ok o, s') => if acc.length < Ur.top then some (acc ++ [o], s') else none
    | _ => none) = some z := h
  split at h
  · rename_i o s' eo
    split at h
    · exact ⟨o, s', eo, by assumption, (Option.some.inj h).symm⟩
    · cases h
  · cases h
theorem lc2_read {σ : L2.St} {H : Hp} {ow : List (Str × Nat)} {vs : List Nat} {tg tg1 : Tg} {it it1 : It} {ifs ifs1 : Es} {e : E} {scope sc : Scope} {N : List Str} {Q Q' : VK} (hQ : ∀ v H', Gh H' (Q v) → Q' v H') (hlN : σ.length = N.length) (ok : BlkOk N sc scope ow) (hv : ow.map (·.2) = vs) (hsl : ∀ i ∈ tg.slots, i ∈ vs) (hsl1 : ∀ i ∈ tg1.slots, i ∈ vs)
    (q : tE X.K XR P cf W (.comp .lst vs tg it ifs (.cons tg1 it1 ifs1 (.last e))) σ H Q) :
    tLc2 (tI (X := X) P cf W XR it) (gT X.K tg) (tC P cf XR X.K ifs) (tI (X := X) P cf W0 XR it1) (gT X.K tg1) (tC P cf XR X.K ifs1) (tE X.K XR P cf W0 e) (ow.map (·.2)) tg1.slots σ H Q' := by
  obtain ⟨st, l, s, h⟩ := q
  have hlen : ∀ v ∈ vs, v < σ.length := fun v hm => by
    rw [← hv] at hm
    obtain ⟨p, hp, rfl⟩ := List.mem_map.mp hm
    rw [hlN]
    exact (List.getElem?_eq_some_iff.mp (ok.ix p hp)).1
  have h : Aft X.K XR W σ l _ (bd (evi P cf it st) fun ds s => if vs.all fun v => isDat ((s[v]?).join) then
      match eachG (turnG P cf vs tg ifs (evg P cf (.cons tg1 it1 ifs1 (.last e)))) ds s [] with
      | some (os, s') => lf (collect .lst os) (Ur.restore vs s s')
      | none => none
    else none) := h
  refine ⟨st, l, s, aft_bd X.K XR h fun ds st1 h1 J H1 w s1 => .now fun D hD => ?_⟩
  split at h1
  · rename_i hdat
    split at h1
    · rename_i os s' er
      have h1 : ∀ v H', Sl X.K H' σ (Ur.restore vs st1 s') (own X.K v (.lst os) :: l) → Gh H' (Q v) := h1
      rw [hv]
      have k0 : Kept H1 (upd H1 D (.lst [])) := Sa.kept_new hD
      let Inv : Nat → Hp → Prop := fun i H => i ≤ ds.length ∧ ∃ sti acc, eachG (turnG P cf vs tg ifs (evg P cf (.cons tg1 it1 ifs1 (.last e)))) (ds.drop i) sti acc = some (os, s') ∧ Sl X.K H (L2.wipe σ vs) (Ur.wipe vs sti) (own X.K (.ref D) (.lst acc) :: fzn H1 :: l)
      refine ⟨fun i m H => m = ds.length - i ∧ Inv i H, ⟨ds.length, by simp, Nat.zero_le _, st1, [], er, (((s1.wipe vs).fresh hD).keep k0).swap⟩, ?_⟩
      rintro i m H ⟨rfl, hile, sti, acc, er, sl⟩
      have kp := sl.kpt
      by_cases hlt : i < ds.length
      · refine .inr ⟨w.go i H hlt kp, fun H => Inv (i + 1) H, fun H' n => ⟨ds.length - (i + 1), by omega, rfl, n⟩, fun x H' y => ?_⟩
        have ed : ds[i]? = some ds[i] := List.getElem?_eq_getElem hlt
        rw [drop_get ed] at er
        obtain ⟨acc', st', eb, er⟩ := each_cons er
        obtain ⟨t1, ea, eb⟩ := turn_some eb
        obtain ⟨sl, kp, rx⟩ := sl.walk w ed kp y
        refine asg_ok ea rx sl (fun i hi => by rw [L2.wipe_length]; exact hlen i (hsl i hi)) fun τ hτ hτ2 sl => ?_
        have hτl : τ.length = σ.length := by rw [hτ, L2.wipe_length]
        have hw : L2.wipe τ vs = L2.wipe σ vs := wipe_eq hτl fun i hi => by rw [hτ2 i fun z => hi (hsl i z), wipeS_get hi]
        refine ⟨hw, t1, _, sl, ?_⟩
        rcases eb with ⟨t2, ec, en⟩ | ⟨t2, ec, en⟩
        · rw [ec]
          intro H2 s2
          refine .now ?_
          obtain ⟨ds1, t3, ei, en⟩ := evg_cons en
          show tI (X := X) P cf W0 XR it1 τ H2 _
          refine ⟨t2, _, s2, ?_⟩
          rw [ei]
          intro J1 H4 w1 s4
          refine .now ?_
          let Inv1 : Nat → Hp → Prop := fun j H => j ≤ ds1.length ∧ ∃ sj aj, eachG (turnG P cf tg1.slots tg1 ifs1 (evg P cf (.last e))) (ds1.drop j) sj aj = some (acc', st') ∧
            Sl X.K H (L2.wipe τ tg1.slots) (Ur.wipe tg1.slots sj) (own X.K (.ref D) (.lst aj) :: fzn H4 :: fzn H1 :: l)
          refine ⟨fun j m H => m = ds1.length - j ∧ Inv1 j H, ⟨ds1.length, by simp, Nat.zero_le _, t3, acc, en, ((s4.wipe tg1.slots).keep .refl).swap⟩, ?_⟩
          rintro j m H5 ⟨rfl, hjle, sj, aj, ej, s5⟩
          have kp1 := s5.kpt
          by_cases hlt1 : j < ds1.length
          · refine .inr ⟨w1.go j H5 hlt1 kp1, fun H => Inv1 (j + 1) H, fun H' n => ⟨ds1.length - (j + 1), by omega, rfl, n⟩, fun x1 H6 y1 => ?_⟩
            have ed1 : ds1[j]? = some ds1[j] := List.getElem?_eq_getElem hlt1
            rw [drop_get ed1] at ej
            obtain ⟨a2, st2, eb1, ej⟩ := each_cons ej
            obtain ⟨u1, ea1, eb1⟩ := turn_some eb1
            obtain ⟨s6, kp1, rx1⟩ := s5.walk w1 ed1 kp1 y1
            refine asg_ok ea1 rx1 s6 (fun i hi => by rw [L2.wipe_length, hτl]; exact hlen i (hsl1 i hi)) fun ρ hρ hρ2 s6 => ?_
            have hw1 : L2.wipe ρ tg1.slots = L2.wipe τ tg1.slots := wipe_eq (by rw [hρ, L2.wipe_length]) fun i hi => by rw [hρ2 i hi, wipeS_get hi]
            refine ⟨hw1, u1, _, s6, ?_⟩
            rcases eb1 with ⟨u2, ec1, en1⟩ | ⟨u2, ec1, en1⟩
            · rw [ec1]
              intro H7 s7
              refine .now ?_
              obtain ⟨o, u3, eo, hz, er1⟩ := evg_last en1
              cases er1
              show tE X.K XR P cf W0 e ρ H7 _
              refine ⟨u2, _, s7, ?_⟩
              rw [eo]
              intro v H8 s8
              refine .now ?_
              obtain ⟨xs, hx, hxz, s9⟩ := s8.push hz
              refine ⟨xs, hx, hxz, hlt1, _, _, ej, ?_⟩
              have := s9.wipe tg1.slots
              rw [hw1] at this
              exact this
            · cases en1
              rw [ec1]
              intro H7 s7
              refine .now ?_
              show Inv1 (j + 1) H7
              have := s7.wipe tg1.slots
              rw [hw1] at this
              exact ⟨hlt1, _, _, ej, this⟩
          · have hj : j = ds1.length := by omega
            subst hj
            rw [List.drop_length] at ej
            simp only [eachG, Option.some.injEq, Prod.mk.injEq] at ej
            obtain ⟨rfl, rfl⟩ := ej
            refine .inl ⟨w1.stop H5 kp1, hlt, _, _, er, ?_⟩
            have := s5.swap.tail.wipe vs
            rw [wipeS_wipe hsl1, hw, wipe_wipe hsl1] at this
            exact this
        · cases en
          rw [ec]
          intro H2 s2
          refine .now ?_
          show Inv (i + 1) H2
          have := s2.wipe vs
          rw [hw] at this
          exact ⟨hlt, _, _, er, this⟩
      · have hi : i = ds.length := by omega
        subst hi
        rw [List.drop_length] at er
        simp only [eachG, Option.some.injEq, Prod.mk.injEq] at er
        obtain ⟨rfl, rfl⟩ := er
        refine .inl ⟨w.stop H kp, hQ _ _ <| h1 _ H (sl.swap.tail.restore (by rw [s1.ok.len]) (fun v hv => List.all_eq_true.mp hdat v hv) fun v d hd => ?_)⟩
        obtain ⟨x, hx, rx⟩ := s1.data hd
        exact ⟨x, hx, rx.kept kp⟩
    · exact h1.elim
  · exact h1.elim
theorem r_lc2 {ow : List (Str × Nat)} {vs : List Nat} {tg tg1 : Tg} {it it1 : It} {ifs ifs1 : Es} {e : E} {tg' iter' tg1' iter1' elt : Expr} {ifs' ifs1' : List Expr} {scope : Scope} {pos : Pos} (hc : X.calm = true) (hN : X.N.Nodup) (hi : PI X tg' iter' (tI (X := X) P cf W XR it))
    (ok : BlkOk X.N X.env.scope scope ow) (hv : ow.map (·.2) = vs) (hsl : ∀ i ∈ tg.slots, i ∈ vs) (hsl1 : ∀ i ∈ tg1.slots, i ∈ vs)
    (hg : ∀ (s : Shared) (H : Hp) (C : Addr) (cl : List (Str × Addr)) (fp : List Addr), PG (X.blk s H scope (compEnvC scope cl C X.env) fp) tg' (gT X.K tg))
    (ht : ∀ (s : Shared) (H : Hp) (C : Addr) (cl : List (Str × Addr)) (fp : List Addr), PTs (X.blk s H scope (compEnvC scope cl C X.env) fp) ifs' (tC P cf XR X.K ifs))
    (hi1 : ∀ (s : Shared) (H : Hp) (C : Addr) (cl : List (Str × Addr)) (fp : List Addr), PI (X.blk s H scope (compEnvC scope cl C X.env) fp) tg1' iter1' (tI (X := X) P cf W0 XR it1))
    (hg1 : ∀ (s : Shared) (H : Hp) (C : Addr) (cl : List (Str × Addr)) (fp : List Addr), PG (X.blk s H scope (compEnvC scope cl C X.env) fp) tg1' (gT X.K tg1))
    (ht1 : ∀ (s : Shared) (H : Hp) (C : Addr) (cl : List (Str × Addr)) (fp : List Addr), PTs (X.blk s H scope (compEnvC scope cl C X.env) fp) ifs1' (tC P cf XR X.K ifs1))
    (he : ∀ (s : Shared) (H : Hp) (C : Addr) (cl : List (Str × Addr)) (fp : List Addr), PE (X.blk s H scope (compEnvC scope cl C X.env) fp) elt (tE X.K XR P cf W0 e))
    (hs : ∀ x, foldedSetIterable iter' X.env x = pure x) (hs1 : ∀ env x, foldedSetIterable iter1' env x = pure x) :
    PE X (.ListComp elt [⟨tg', iter', ifs', 0⟩, ⟨tg1', iter1', ifs1', 0⟩] scope pos) (tE X.K XR P cf W (.comp .lst vs tg it ifs (.cons tg1 it1 ifs1 (.last e)))) :=
  ⟨fun pins s0 σ H Q I q => (pe_gh (pe_lc2 (vs1 := tg1.slots) (pos := pos) hc hN hi ok (fun i hi => by rw [hv]; exact hsl1 i hi) hg ht hi1 hg1 ht1 he hs hs1)).run pins s0 σ H Q I (lc2_read (fun _ _ z => z) I.len ok hv hsl hsl1 q)⟩
end
end Ur
end
section
set_option linter.all false
set_option autoImplicit false
set_option maxHeartbeats 1000000
/-! UrF9: slots that are owned: looked at, changed. -/
namespace Ur
open PySem L2
section
variable {K : PySem.W.Frag} {H H' : Hp} {l : List Asn}
theorem owns_at : ∀ {xs : List V} {os : List O} {j : Nat} {x : V} {c : O}, xs.length = os.length → xs[j]? = some x → os[j]? = some c → (owns K xs os).Perm (own K x c :: owns K (xs.eraseIdx j) (os.eraseIdx j))
  | [], _, _, _, _, _, h, _ => by simp at h
  | _ :: _, [], _, _, _, h, _, _ => by simp at h
  | y :: xs, o :: os, 0, x, c, h, h1, h2 => by
    simp at h1 h2
    subst h1; subst h2
    exact List.Perm.refl _
  | y :: xs, o :: os, j + 1, x, c, h, h1, h2 => by
    have ih := owns_at (xs := xs) (os := os) (j := j) (by simpa using h) (by simpa using h1) (by simpa using h2)
    show (own K y o :: owns K xs os).Perm (own K x c :: (own K y o :: owns K (xs.eraseIdx j) (os.eraseIdx j)))
    exact (ih.cons _).trans (List.Perm.swap _ _ _)
theorem set_at {α : Type} : ∀ {xs : List α} {j : Nat} {x : α}, xs[j]? = some x → xs.set j x = xs := fun h => set_same h
theorem erase_set {α : Type} : ∀ (xs : List α) (j : Nat) (c : α), (xs.set j c).eraseIdx j = xs.eraseIdx j
  | [], _, _ => rfl
  | _ :: _, 0, _ => rfl
  | x :: xs, j + 1, c => by rw [List.set_cons_succ, List.eraseIdx_cons_succ, List.eraseIdx_cons_succ, erase_set xs j c]
/-- an item of an owned list: it is looked at by itself, and put back -/
theorem Sa.focusL {v : V} {os : List O} {j : Nat} {c : O} (s : Sa H (own K v (.lst os) :: l)) (h : os[j]? = some c) : ∃ a xs x fr, v = .ref a ∧ H a = some (.lst xs) ∧ xs[j]? = some x ∧ xs.length = os.length ∧ xs.length ≤ top ∧ Sa H (own K x c :: (fr ++ l)) ∧
    (∀ H' c', Sa H' (own K x c' :: (fr ++ l)) → Sa H' (own K v (.lst (os.set j c')) :: l)) ∧ ∀ H' m, Sa H' (fr ++ m) → H' a = some (.lst xs) := by
  obtain ⟨a, xs, rfl, hl, z, s1⟩ := s.openL
  have hx : ∃ x, xs[j]? = some x := ⟨_, List.getElem?_eq_getElem (by rw [hl]; exact (List.getElem?_eq_some_iff.mp h).1)⟩
  obtain ⟨x, hx⟩ := hx
  refine ⟨a, xs, x, pt a (.lst xs) :: owns K (xs.eraseIdx j) (os.eraseIdx j), rfl, s1.pt_get, hx, hl, z, ?_, fun H' c' s' => ?_, fun H' m s' => Sa.pt_get (l := owns K (xs.eraseIdx j) (os.eraseIdx j) ++ m) s'⟩
  · refine s1.perm ?_
    refine ((((owns_at (K := K) hl hx h).append_right l).cons _)).trans ?_
    exact List.Perm.swap _ _ _
  · have hl' : xs.length = (os.set j c').length := by simpa using hl
    refine Sa.closeL (s'.perm ?_) z hl'
    refine List.Perm.trans (List.Perm.swap _ _ _) (List.Perm.cons _ ?_)
    have p := owns_at (K := K) (xs := xs) (os := os.set j c') (j := j) (x := x) (c := c') hl' hx (by rw [List.getElem?_set_self]; rw [← hl]; exact (List.getElem?_eq_some_iff.mp hx).1)
    rw [erase_set] at p
    exact (p.append_right l).symm
end
/-! ### owned dicts whose keys are ints and texts -/
section
variable {K : PySem.W.Frag} {H H' : Hp} {l : List Asn}
theorem ownk_find : ∀ {xs : List (Key × V)} {kvs : List (Key × O)} {q : Key} {c : O} {l : List Asn}, xs.map (·.1) = kvs.map (·.1) → Sa H (ownk K xs kvs ++ l) → findK q kvs = some c → ∃ w l', L2.valV xs q = some w ∧ Sa H (own K w c :: l')
  | [], [], _, _, _, _, _, h => by simp [findK] at h
  | [], _ :: _, _, _, _, e, _, _ => by simp at e
  | _ :: _, [], _, _, _, e, _, _ => by simp at e
  | (k, v) :: xs, (k', o) :: kvs, q, c, l, e, s, h => by
    simp only [List.map_cons, List.cons.injEq] at e
    obtain ⟨rfl, e⟩ := e
    unfold findK at h
    split at h
    · rename_i hk
      cases h
      exact ⟨v, _, L2.valV_pos (p := (k, v)) hk, s⟩
    · rename_i hk
      obtain ⟨w, l', h1, h2⟩ := ownk_find e (show Sa H (own K v o :: (ownk K xs kvs ++ l)) from s).tail h
      exact ⟨w, l', (L2.valV_neg (p := (k, v)) hk).trans h1, h2⟩
def putG {α : Type} (k : Key) (v : α) : List (Key × α) → List (Key × α)
  | [] => [(k, v)]
  | (a, b) :: r => if a = k then (a, v) :: r else (a, b) :: putG k v r
theorem putK_G (k : Key) (v : O) : ∀ kvs : List (Key × O), Ur.putK k v kvs = putG k v kvs
  | [] => rfl
  | (a, b) :: r => by
    unfold Ur.putK putG
    rw [putK_G k v r]
theorem put_same {α : Type} (k : Key) (v : α) : ∀ r : List (Key × α), k ∉ r.map (·.1) → (r.map fun kv => if kv.1 = k then (kv.1, v) else kv) = r
  | [], _ => rfl
  | (a, b) :: r, h => by
    simp only [List.map_cons, List.mem_cons, not_or] at h
    rw [List.map_cons, if_neg (fun z => h.1 z.symm), put_same k v r h.2]
theorem putV_G (k : Key) (v : V) : ∀ xs : List (Key × V), (xs.map (·.1)).Nodup → L2.putK xs k v = putG k v xs
  | [], _ => rfl
  | (a, b) :: r, h => by
    rw [List.map_cons, List.nodup_cons] at h
    have ih := putV_G k v r h.2
    unfold L2.putK at ih ⊢
    unfold putG
    by_cases e : a = k
    · subst e
      rw [if_pos (by simp), if_pos rfl, List.map_cons, if_pos rfl, put_same a v r h.1]
    · rw [if_neg e, ← ih, List.any_cons, decide_eq_false e, Bool.false_or]
      split
      · rw [List.map_cons, if_neg e]
      · rfl
theorem putG_keys {α : Type} (k : Key) (v : α) : ∀ xs : List (Key × α), (k ∈ xs.map (·.1) ∧ (putG k v xs).map (·.1) = xs.map (·.1)) ∨ (k ∉ xs.map (·.1) ∧ (putG k v xs).map (·.1) = xs.map (·.1) ++ [k])
  | [] => .inr ⟨by simp, rfl⟩
  | (a, b) :: r => by
    unfold putG
    by_cases e : a = k
    · subst e
      rw [if_pos rfl]
      exact .inl ⟨by simp, rfl⟩
    · rw [if_neg e]
      rcases putG_keys k v r with ⟨h1, h2⟩ | ⟨h1, h2⟩
      · exact .inl ⟨by rw [List.map_cons]; exact List.mem_cons_of_mem _ h1, by rw [List.map_cons, List.map_cons, h2]⟩
      · refine .inr ⟨fun z => ?_, by rw [List.map_cons, List.map_cons, h2]; rfl⟩
        rw [List.map_cons] at z
        rcases List.mem_cons.mp z with z | z
        · exact e z.symm
        · exact h1 z
theorem putG_ok {α : Type} {k : Key} {v : α} {xs : List (Key × α)} (g : keysOk xs = true) (hk : keyOk k = true) (hz : xs.length < top) : keysOk (putG k v xs) = true := by
  have hkeys := putG_keys k v xs
  unfold keysOk at g ⊢
  simp only [Bool.and_eq_true, decide_eq_true_eq, List.all_eq_true] at g ⊢
  obtain ⟨⟨g1, g2⟩, g3⟩ := g
  have mem : ∀ q ∈ (putG k v xs).map (·.1), q = k ∨ q ∈ xs.map (·.1) := fun q h => by
    rcases hkeys with ⟨_, e⟩ | ⟨_, e⟩
    · rw [e] at h; exact .inr h
    · rw [e] at h
      rcases List.mem_append.mp h with h | h
      · exact .inr h
      · exact .inl (by simpa using h)
  refine ⟨⟨fun p hp => ?_, ?_⟩, ?_⟩
  · rcases mem p.1 (List.mem_map_of_mem hp) with e | h
    · rw [e]; exact hk
    · obtain ⟨p', h1, h2⟩ := List.mem_map.mp h
      rw [← h2]; exact g1 p' h1
  · rcases hkeys with ⟨_, e⟩ | ⟨hn, e⟩
    · rw [e]; exact g2
    · rw [e]
      exact List.nodup_append.mpr ⟨g2, by simp, fun a ha b hb => by
        rw [List.mem_singleton.mp hb]
        exact fun z => hn (z ▸ ha)⟩
  · have : (putG k v xs).length = ((putG k v xs).map (·.1)).length := by simp
    rw [this]
    rcases hkeys with ⟨_, e⟩ | ⟨_, e⟩ <;> rw [e] <;> simp <;> omega
theorem ownk_put {y : V} {w : O} {q : Key} : ∀ {xs : List (Key × V)} {kvs : List (Key × O)} {l : List Asn}, xs.map (·.1) = kvs.map (·.1) → Sa H (own K y w :: (ownk K xs kvs ++ l)) → Sa H (ownk K (putG q y xs) (putG q w kvs) ++ l) ∧ (putG q y xs).map (·.1) = (putG q w kvs).map (·.1)
  | [], [], _, _, s => ⟨s, rfl⟩
  | [], _ :: _, _, e, _ => by simp at e
  | _ :: _, [], _, e, _ => by simp at e
  | (k, v) :: xs, (k', o) :: kvs, l, e, s => by
    simp only [List.map_cons, List.cons.injEq] at e
    obtain ⟨rfl, e⟩ := e
    have s : Sa H (own K y w :: own K v o :: (ownk K xs kvs ++ l)) := s
    unfold putG
    by_cases hk : k = q
    · rw [if_pos hk, if_pos hk]
      exact ⟨(show Sa H (own K y w :: (ownk K xs kvs ++ l)) from s.swap.tail), by simp [e]⟩
    · rw [if_neg hk, if_neg hk]
      obtain ⟨i1, i2⟩ := ownk_put (q := q) (l := own K v o :: l) e (s.perm (List.Perm.cons _ List.perm_middle.symm))
      exact ⟨i1.fro, by simp [i2]⟩
/-- d[q] = y of an owned dict -/
theorem setK_ok {vc y z : V} {w : O} {q : Key} {qd : D} {kvs : List (Key × O)} {Q : Hp → Prop} (s : Sa H (own K vc (.dK kvs) :: own K y w :: l)) (rz : RD K H z qd) (hq : dKey qd = some q) (hz : kvs.length < top) (k : ∀ H', Sa H' (own K vc (.dK (Ur.putK q w kvs)) :: l) → Q H') : rSetD vc z y H Q := by
  have t := top_eq
  obtain ⟨a, xs, rfl, hl, g, s1⟩ := s.openK
  obtain ⟨rfl, eqd⟩ := rz.key hq
  have hlen : xs.length = kvs.length := by simpa using congrArg List.length hl
  have nd : (xs.map (·.1)).Nodup := by
    unfold keysOk at g
    simp only [Bool.and_eq_true, decide_eq_true_eq] at g
    exact g.1.2
  have hk : keyOk q = true := by
    cases q with
    | inl i => rfl
    | inr x =>
      cases rz with
      | str _ h1 h2 =>
        show (PyData.strOk x && decide (x.length ≤ top)) = true
        rw [h1, decide_eq_true h2]; rfl
  refine ⟨a, _, rfl, DPut.k s1.pt_get (by omega), k _ ?_⟩
  rw [putV_G q y xs nd, putK_G]
  have s2 := s1.write (o' := .dK (putG q y xs)) (fun z => z)
  have s3 : Sa (upd H a (.dK (putG q y xs))) (own K y w :: (ownk K xs kvs ++ (pt a (.dK (putG q y xs)) :: l))) := by
    refine s2.perm ?_
    have p1 : (pt a (.dK (putG q y xs)) :: (ownk K xs kvs ++ own K y w :: l)).Perm (pt a (.dK (putG q y xs)) :: own K y w :: (ownk K xs kvs ++ l)) := List.Perm.cons _ List.perm_middle
    refine p1.trans ((List.Perm.swap _ _ _).trans (List.Perm.cons _ List.perm_middle.symm))
  obtain ⟨s4, hk2⟩ := ownk_put (q := q) hl s3
  exact Sa.closeK s4.fro hk2 (putG_ok g hk (by omega))
theorem ownk_dat : ∀ {xs : List (Key × V)} {kvs : List (Key × O)} {l : List Asn}, RDk K H xs (fzK kvs) → Sa H l → Sa H (ownk K xs (kvs.map fun p => (p.1, .dat p.2.fz)) ++ l)
  | [], [], _, _, s => s
  | [], _ :: _, _, r, s => s
  | _ :: _, [], _, r, s => s
  | (k, v) :: xs, (k', o) :: kvs, l, r, s => by
    have r : RDk K H ((k, v) :: xs) ((kD k', o.fz) :: fzK kvs) := r
    generalize e : (kD k', o.fz) :: fzK kvs = ds at r
    cases r with
    | cons h r =>
      simp only [List.cons.injEq, Prod.mk.injEq] at e
      obtain ⟨⟨_, e2⟩, e3⟩ := e
      subst e2; subst e3
      exact (ownk_dat r s).dat h
end
def plainBase : Expr → Bool
  | .Call .. => false
  | _ => true
theorem base_ok {o : Expr} {f : Str} {env : Env} {w : Sem Value} (h : plainBase o = true) : attributeBase o f env w = w := by
  cases o <;> first | rfl | cases h
section
variable {X : Cx} {P : Prog} {cf : Cf} {W : WX} {XR : Hp → Value → Option Addr → D → Prop}
variable {H : Hp} {σ : L2.St} {st : Stt} {l : List Asn}
/-- a method with one argument -/
theorem pe_bm1 {o e : Expr} {to : TE} {t : TA} {name : Str} {apos cpos : Pos} {T id : String} {r : V → List V → Hp → VK → Prop} (pa : PlainAttrs T) (slot : Slot T name id) (hty : typeOf (.builtin id) = pure (.type "method_descriptor")) (hm : MtR X id r) (ho : PE X o to) (ha : PA X [e] t)
    (hb : plainBase o = true) (hline : (apos.endLine == cpos.line) = true) (hs : noStar e = true) : PE X (.Call (.Attribute o name apos) [e] [] cpos) (tBM X.K T r to t) :=
  pe_bm pa slot hty hm ho ha (base_ok hb) (by rw [star_cons hs]; rfl) hline (star_cons hs) rfl
theorem CallR.or {f : Value} {r r' : List V → Hp → VK → Prop} (h : CallR X f r) (h' : CallR X f r') : CallR X f (fun x H Q => r x H Q ∨ r' x H Q) := by
  intro pins s σ H xs us Q I rx q
  rcases q with q | q
  · exact h pins s σ H xs us Q I rx q
  · exact h' pins s σ H xs us Q I rx q

/-! ### looking -/
theorem r_pkIdx (hr : ∃ n, Room n X.A) {i : Nat} {x : Str} {k : E} {k' : Expr} {p pos : Pos} (hN : X.N[i]? = some x) (hv : Vis X.env.scope x) (hd : (x == ("__debug__" : Str)) = false) (hcd : (x == ("__classdict__" : Str)) = false) (hk : PE X k' (tE X.K XR P cf W k)) (hp : plainIx k' = true) :
    PE X (.Subscript (.Name x p) k' pos) (tE X.K XR P cf W (.pk .idx i (.cons k .nil))) := by
  obtain ⟨n, hr⟩ := hr
  refine pe_to (pe_ix ((ixD hr).or (IxR.or ix_list (ix_dct hr))) (pe_var hN hv hd hcd) hk (plainIx_ok hp)) fun σ H Q ⟨st, l, s, h⟩ => ?_
  have h : Aft X.K XR W σ l _ (if (get st i).isSome then bd (bd (ev P cf k st) fun o s => bd (evs P cf .nil s) fun os s => some (.ok (o :: os), s)) fun os s => (match get s i with
      | some o => lfd (pkO .idx o (fzs os)) s
      | none => none)
    else none) := h
  split at h
  · rename_i hi
    obtain ⟨o0, ho0⟩ := Option.isSome_iff_exists.mp hi
    obtain ⟨v, hv, _⟩ := s.take ho0
    have h2 : Aft X.K XR W σ l (fun o st' => ∀ v H', Sl X.K H' σ st' (own X.K v o :: l) → Gh H' (Q v)) (bd (ev P cf k st) fun o s => match get s i with
      | some c => lfd (peekO c o.fz) s
      | none => none) := by
      refine cast ?_ h
      congr 1
      unfold bd
      cases ev P cf k st with
      | none => rfl
      | some q =>
        obtain ⟨r, s1⟩ := q
        cases r with
        | ex _ => rfl
        | ok o => rfl
    refine ⟨v, hv, t1 s h2 fun o st1 w H1 h1 s1 => s1.fz.imp fun H2 ⟨k2, r2, s2⟩ => ?_⟩
    split at h1
    · rename_i c hc
      obtain ⟨d, ed, h3⟩ := aft_lfd h1
      have fin : ∀ u, RD X.K H2 u d → Gh H2 (Q u) := fun u ru => h3 u H2 (s2.dat ru)
      obtain ⟨v', hv', s3⟩ := s2.take hc
      rw [hv] at hv'
      cases hv'
      cases c with
      | dat dc => exact .inl ⟨dc, _, d, s3.rd, r2, ed, fun u ru => fin u ru⟩
      | lst os =>
        have ed : datO (childO (.lst os) o.fz) = some d := ed
        generalize o.fz = kd at ed r2
        cases r2 with
        | int j =>
          simp only [childO] at ed
          cases hj : ixN os.length j with
          | none => rw [hj] at ed; simp [datO] at ed
          | some m =>
            rw [hj] at ed
            have ed : datO os[m]? = some d := ed
            cases hm : os[m]? with
            | none => rw [hm] at ed; cases ed
            | some c =>
              rw [hm] at ed
              cases c with
              | dat dd =>
                cases ed
                obtain ⟨a, xs, y, fr, rfl, hH, hy, hl, z, s4, _, _⟩ := s3.top.focusL hm
                refine .inr (.inl ⟨a, xs, j, y, rfl, rfl, SqL.of hH, ?_, fin y s4.rd⟩)
                have e1 : L2.ixN xs.length j = some m := by rw [← ixN_eq, hl]; exact hj
                show atI xs j = some y
                unfold atI
                rw [e1]
                exact hy
              | _ => cases ed
        | _ => simp [childO, datO, excD] at ed
      | dK kvs =>
        have ed : datO ((dKey o.fz).bind fun q => findK q kvs) = some d := ed
        cases hq : dKey o.fz with
        | none => rw [hq] at ed; simp [datO] at ed
        | some q =>
          rw [hq] at ed
          have ed : datO (findK q kvs) = some d := ed
          cases hc : findK q kvs with
          | none => rw [hc] at ed; cases ed
          | some c =>
            rw [hc] at ed
            cases c <;> try (simp [datO] at ed; done)
            have ed := Option.some.inj (show some _ = some d from ed)
            subst ed
            obtain ⟨a, xs, ea, hl, g, s4⟩ := s3.top.openK
            obtain ⟨u, l', h1, h2⟩ := ownk_find hl s4.tail hc
            obtain ⟨rfl, _⟩ := r2.key hq
            exact .inr (.inr ⟨a, u, ea, .inl ⟨xs, q, .inl s4.pt_get, rfl, h1.symm⟩, fin u h2.rd⟩)
      | dT kvs =>
        obtain ⟨q, hq⟩ := s3.top.head
        cases hq
    · exact h1.elim
  · exact h.elim

/-! ### changes of a list by its methods -/
def pyM : Mm → Str
  | .append => "append" | .extend => "extend" | .pop0 => "pop" | .popAt => "pop" | .push => "heappush" | .hpop => "heappop" | .insert => "insert" | .remove => "remove"
theorem Sa.mid2 {A B : Asn} {m : List Asn} (s : Sa H (A :: (m ++ B :: l))) : Sa H (B :: A :: (m ++ l)) := by
  refine s.perm ?_
  refine (List.Perm.cons A (List.perm_middle (l₁ := m) (l₂ := l) (a := B))).trans (List.Perm.swap _ _ _)
theorem frzO_dat {fz : Bool} {os : List O} {vs : List V} (s : Sl X.K H σ st (owns X.K vs os ++ l)) (e : vs.length = os.length) : Gh H fun H' => Sl X.K H' σ st (owns X.K vs (if fz then fzO os else os) ++ l) := by
  cases fz with
  | false => exact .now s
  | true =>
    refine (s.fzs e).imp fun H' ⟨k, r, s'⟩ => ⟨s'.ok, ?_⟩
    have : Sa H' (owns X.K vs (fzO os) ++ (slots X.K σ st ++ l)) := owns_dat r s'.sa
    exact this.comm
/-- what a method does to an owned list -/
theorem app_ok {vc y : V} {o : O} {os : List O} {Q : VK} (s : Sa H (own X.K vc (.lst os) :: own X.K y o :: l)) (hz : os.length < Ur.top) (k : ∀ H', Sa H' (own X.K vc (.lst (os ++ [o])) :: l) → Q .non H') : rAppend vc [y] H Q := by
  have t := top_eq
  obtain ⟨a, xs, rfl, hl, z, s1⟩ := s.openL
  refine ⟨a, xs, y, rfl, rfl, s1.pt_get, by omega, k _ ?_⟩
  refine Sa.closeL (xs := xs ++ [y]) ?_ (by rw [List.length_append]; simp; omega) (by simp [hl])
  refine (s1.write (o' := .lst (xs ++ [y])) fun z => z).perm (.cons _ ?_)
  have e1 : ∀ {xs : List V} {os : List O}, xs.length = os.length → owns X.K (xs ++ [y]) (os ++ [o]) = owns X.K xs os ++ [own X.K y o] := by
    intro xs
    induction xs with
    | nil =>
      intro os h
      have : os = [] := List.length_eq_zero_iff.mp (by simpa using h.symm)
      subst this; rfl
    | cons x xs ih =>
      intro os h
      cases os with
      | nil => simp at h
      | cons a os =>
        show own X.K x a :: owns X.K (xs ++ [y]) (os ++ [o]) = own X.K x a :: (owns X.K xs os ++ [own X.K y o])
        rw [ih (by simpa using h)]
  rw [e1 hl, List.append_assoc]
  exact List.Perm.append_left _ (List.Perm.refl _)
theorem ext_ok {vc y : V} {os ps : List O} {Q : VK} (s : Sa H (own X.K vc (.lst os) :: own X.K y (.lst ps) :: l)) (hz : os.length + ps.length ≤ Ur.top) (k : ∀ H', Sa H' (own X.K vc (.lst (os ++ ps)) :: l) → Q .non H') : rExtend vc [y] H Q := by
  have t := top_eq
  obtain ⟨a, xs, rfl, hl, z, s1⟩ := s.openL
  obtain ⟨b, ys, rfl, hl2, z2, s2⟩ := (show Sa H (own X.K y (.lst ps) :: (pt a (.lst xs) :: owns X.K xs os ++ l)) from s1.perm (by
    show (pt a (.lst xs) :: (owns X.K xs os ++ own X.K y (.lst ps) :: l)).Perm (own X.K y (.lst ps) :: pt a (.lst xs) :: (owns X.K xs os ++ l))
    exact (List.Perm.cons _ List.perm_middle).trans (List.Perm.swap _ _ _))).openL
  have s3 : Sa H (pt a (.lst xs) :: (owns X.K xs os ++ (owns X.K ys ps ++ l))) := by
    refine s2.tail.perm ?_
    show (owns X.K ys ps ++ pt a (.lst xs) :: (owns X.K xs os ++ l)).Perm _
    refine List.perm_middle.trans (.cons _ ?_)
    rw [← List.append_assoc, ← List.append_assoc]
    exact List.perm_append_comm.append_right l
  refine ⟨a, b, xs, ys, rfl, rfl, s1.pt_get, s2.pt_get, by omega, k _ ?_⟩
  have e1 : ∀ {xs : List V} {os : List O}, xs.length = os.length → owns X.K (xs ++ ys) (os ++ ps) = owns X.K xs os ++ owns X.K ys ps := by
    intro xs
    induction xs with
    | nil =>
      intro os h
      have : os = [] := List.length_eq_zero_iff.mp (by simpa using h.symm)
      subst this; rfl
    | cons x xs ih =>
      intro os h
      cases os with
      | nil => simp at h
      | cons a os =>
        show own X.K x a :: owns X.K (xs ++ ys) (os ++ ps) = own X.K x a :: (owns X.K xs os ++ owns X.K ys ps)
        rw [ih (by simpa using h)]
  refine Sa.closeL (xs := xs ++ ys) ?_ (by rw [List.length_append]; omega) (by simp [hl, hl2])
  refine (s3.write (o' := .lst (xs ++ ys)) fun z => z).perm (.cons _ ?_)
  rw [e1 hl, List.append_assoc]
/-- the list that comes is frozen -/
def rExtF (K : PySem.W.Frag) : V → List V → Hp → VK → Prop := fun x vs H Q => ∃ p b xs zs, x = .ref p ∧ vs = [.ref b] ∧ H p = some (.lst xs) ∧ FzL K H b zs ∧ xs.length + zs.length ≤ sizeLine ∧ Q .non (upd H p (.lst (xs ++ zs)))
theorem mt_extF : MtR X "list.extend" (rExtF X.K) := by
  intro pins s σ H x vs v us Q I rx rv h
  obtain ⟨p, b, xs, zs, rfl, rfl, hH, hB, hz, q⟩ := h
  obtain rfl : v = Value.ref p := rx
  obtain ⟨u, rfl, ru⟩ := rv.one
  obtain rfl : u = Value.ref b := ru
  obtain ⟨z, its, n, r, hl, e⟩ := I.lstM hH
  obtain ⟨its2, n2, r2, hl2, e2⟩ := frzL I hB
  have hs1 : its.toArray.size + its2.toArray.size ≤ sizeLine := by simp only [List.size_toArray]; omega
  have hs2 : ¬ (!its.toArray.isEmpty && Builtin.List.listTooLong (its.toArray.size + its2.toArray.size)) = true := by
    rw [notLongL hs1, Bool.and_false]
    exact Bool.false_ne_true
  refine call_meets F.slot_list_extend ⟨_, e, rfl⟩ F.entry_list_extend (F.args_list_extend_2 _ _)
    (AutoSeq1.list_extend_list_list_0 p its.toArray n b its2.toArray n2 hs2 (by simp only [List.size_toArray]; omega) (by omega)) ⟨e, e2, ?_⟩
  exact ⟨.non, _, I.lset (its' := its ++ its2) hH e (by simp) (r.append r2) (by rw [List.length_append]; exact hz), rfl, q⟩
theorem extF_ok {vc y : V} {os : List O} {ds : List D} {Q : VK} (s : Sa H (own X.K vc (.lst os) :: l)) (r : RD X.K H y (.list ds)) (hz : os.length + ds.length ≤ Ur.top) (k : ∀ H', Sa H' (own X.K vc (.lst (os ++ ds.map .dat)) :: l) → Q .non H') : rExtF X.K vc [y] H Q := by
  have t := top_eq
  obtain ⟨a, xs, rfl, hl, z, s1⟩ := s.openL
  cases r with
  | @lst b zs _ h z2 r =>
    have hlz := r.length
    refine ⟨a, b, xs, zs, rfl, rfl, s1.pt_get, h, by omega, k _ ?_⟩
    have e1 : ∀ {xs : List V} {os : List O}, xs.length = os.length → owns X.K (xs ++ zs) (os ++ ds.map .dat) = owns X.K xs os ++ owns X.K zs (ds.map .dat) := by
      intro xs
      induction xs with
      | nil =>
        intro os h
        have : os = [] := List.length_eq_zero_iff.mp (by simpa using h.symm)
        subst this; rfl
      | cons x xs ih =>
        intro os h
        cases os with
        | nil => simp at h
        | cons a os =>
          show own X.K x a :: owns X.K (xs ++ zs) (os ++ ds.map .dat) = own X.K x a :: (owns X.K xs os ++ owns X.K zs (ds.map .dat))
          rw [ih (by simpa using h)]
    refine Sa.closeL (xs := xs ++ zs) ?_ (by rw [List.length_append]; omega) (by simp [hl, hlz])
    have kp : Kept H (upd H a (.lst (xs ++ zs))) := s1.kept_pt
    have s2 : Sa (upd H a (.lst (xs ++ zs))) (pt a (.lst (xs ++ zs)) :: (owns X.K xs os ++ l)) := s1.write (o' := .lst (xs ++ zs)) fun z => z
    have s3 := owns_dat (r.kept kp) s2
    refine s3.perm ?_
    rw [e1 hl]
    refine List.perm_middle.trans (.cons _ ?_)
    rw [← List.append_assoc]
    exact (List.perm_append_comm.append_right l)
theorem r_append {i : Nat} {x : Str} {fz : Bool} {e : E} {e' : Expr} {p apos cpos : Pos} (hN : X.N[i]? = some x) (hv : Vis X.env.scope x) (hd : (x == ("__debug__" : Str)) = false) (hcd : (x == ("__classdict__" : Str)) = false) (he : PA X [e'] (tEs X.K XR P cf W (.cons e .nil)))
    (hline : (apos.endLine == cpos.line) = true) (hs : noStar e' = true) : PE X (.Call (.Attribute (.Name x p) "append" apos) [e'] [] cpos) (tE X.K XR P cf W (.mut .append i .nil fz (.cons e .nil))) := by
  refine pe_to (pe_bm1 PySem.F.plainAttrs_list PySem.F.slot_list_append PySem.F.type_list_append mt_append (pe_var hN hv hd hcd) he rfl hline hs) fun σ H Q ⟨st, l, s, h⟩ => ?_
  have h : Aft X.K XR W σ l (fun o st' => ∀ v H', Sl X.K H' σ st' (own X.K v o :: l) → Gh H' (Q v)) (if (get st i).isSome then (match get st i with
      | none => none
      | some o => if isL (some o) then bd (evs P cf (.cons e .nil) (st.set i none)) fun os s => (match mutO .append o (if fz then fzO os else os) with
          | some (r, o') => rt r (s.set i (some o'))
          | none => none)
        else none)
    else none) := h
  split at h
  · split at h
    · exact h.elim
    · rename_i o ho
      split at h
      · rename_i hL
        obtain ⟨v, hv, s1⟩ := s.take ho
        obtain ⟨cs, rfl⟩ : ∃ cs, o = .lst cs := by
          cases o <;> first | exact ⟨_, rfl⟩ | cases hL
        obtain ⟨a, xs, rfl, hl, z, s2⟩ := s1.top.openL
        refine ⟨.ref a, hv, .inl ⟨rfl, xs, SqL.of s2.pt_get⟩, ts1m s1 h fun os st1 vs H1 h1 hlen s3 => ?_⟩
        refine (frzO_dat (fz := fz) s3 hlen).imp fun H2 s4 => ?_
        generalize hos : (if fz then fzO os else os) = ws at h1 s4
        have hlw : vs.length = ws.length := by
          rw [← hos]; cases fz <;> simp [fzO, fzs_length, hlen]
        match ws, vs, hlw, h1, s4 with
        | [w], [y], _, h1, s4 =>
          have h1 : Aft X.K XR W σ l _ (match (if cs.length < Ur.top then some (O.dat .none, O.lst (cs ++ [w])) else none) with
            | some (r, o') => rt r (st1.set i (some o'))
            | none => none) := h1
          by_cases hz : cs.length < Ur.top
          · rw [if_pos hz] at h1
            have s5 : Sa H2 (own X.K (.ref a) (.lst cs) :: own X.K y w :: (slots X.K σ st1 ++ l)) := (show Sl X.K H2 σ st1 (own X.K y w :: own X.K (.ref a) (.lst cs) :: l) from s4).swap.top.perm (.cons _ List.perm_middle)
            refine app_ok s5 hz fun H3 s6 => h1 .non H3 ?_
            have s7 : Sl X.K H3 σ st1 (own X.K (.ref a) (.lst (cs ++ [w])) :: l) := .of_top s4.ok s6
            exact (s7.refill hv).dat .non
          · rw [if_neg hz] at h1; exact h1.elim
        | [], _, _, h1, _ => exact h1.elim
        | _ :: _ :: _, _, _, h1, _ => exact h1.elim
      · exact h.elim
  · exact h.elim
theorem r_extend {i : Nat} {x : Str} {fz : Bool} {e : E} {e' : Expr} {p apos cpos : Pos} (hN : X.N[i]? = some x) (hv : Vis X.env.scope x) (hd : (x == ("__debug__" : Str)) = false) (hcd : (x == ("__classdict__" : Str)) = false) (he : PA X [e'] (tEs X.K XR P cf W (.cons e .nil)))
    (hline : (apos.endLine == cpos.line) = true) (hs : noStar e' = true) : PE X (.Call (.Attribute (.Name x p) "extend" apos) [e'] [] cpos) (tE X.K XR P cf W (.mut .extend i .nil fz (.cons e .nil))) := by
  refine pe_to (pe_bm1 PySem.F.plainAttrs_list PySem.F.slot_list_extend PySem.F.type_list_extend (MtR.or mt_extend mt_extF) (pe_var hN hv hd hcd) he rfl hline hs) fun σ H Q ⟨st, l, s, h⟩ => ?_
  have h : Aft X.K XR W σ l (fun o st' => ∀ v H', Sl X.K H' σ st' (own X.K v o :: l) → Gh H' (Q v)) (if (get st i).isSome then (match get st i with
      | none => none
      | some o => if isL (some o) then bd (evs P cf (.cons e .nil) (st.set i none)) fun os s => (match mutO .extend o (if fz then fzO os else os) with
          | some (r, o') => rt r (s.set i (some o'))
          | none => none)
        else none)
    else none) := h
  split at h
  · split at h
    · exact h.elim
    · rename_i o ho
      split at h
      · rename_i hL
        obtain ⟨v, hv, s1⟩ := s.take ho
        obtain ⟨cs, rfl⟩ : ∃ cs, o = .lst cs := by
          cases o <;> first | exact ⟨_, rfl⟩ | cases hL
        obtain ⟨a, xs, rfl, hl, z, s2⟩ := s1.top.openL
        refine ⟨.ref a, hv, .inl ⟨rfl, xs, SqL.of s2.pt_get⟩, ts1m s1 h fun os st1 vs H0 h1 hlen s4 => ?_⟩
        refine (frzO_dat (fz := fz) s4 hlen).imp fun H1 s4 => ?_
        generalize hos : (if fz then fzO os else os) = ws at h1 s4
        have hlen : vs.length = ws.length := by
          rw [← hos]; cases fz <;> simp [fzO, fzs_length, hlen]
        match ws, vs, hlen, h1, s4 with
        | [.lst ps], [y], _, h1, s4 =>
          have h1 : Aft X.K XR W σ l _ (match (if cs.length + ps.length ≤ Ur.top then some (O.dat .none, O.lst (cs ++ ps)) else none) with
            | some (r, o') => rt r (st1.set i (some o'))
            | none => none) := h1
          by_cases hz : cs.length + ps.length ≤ Ur.top
          · rw [if_pos hz] at h1
            have s5 : Sa H1 (own X.K (.ref a) (.lst cs) :: own X.K y (.lst ps) :: (slots X.K σ st1 ++ l)) := (show Sl X.K H1 σ st1 (own X.K y (.lst ps) :: own X.K (.ref a) (.lst cs) :: l) from s4).swap.top.perm (.cons _ List.perm_middle)
            refine .inl (ext_ok s5 hz fun H3 s6 => h1 .non H3 ?_)
            have s7 : Sl X.K H3 σ st1 (own X.K (.ref a) (.lst (cs ++ ps)) :: l) := .of_top s4.ok s6
            exact (s7.refill hv).dat .non
          · rw [if_neg hz] at h1; exact h1.elim
        | [.dat d], [y], _, h1, s4 =>
          cases d with
          | list ds =>
            have h1 : Aft X.K XR W σ l _ (match (if cs.length + ds.length ≤ Ur.top then some (O.dat .none, O.lst (cs ++ ds.map .dat)) else none) with
              | some (r, o') => rt r (st1.set i (some o'))
              | none => none) := h1
            by_cases hz : cs.length + ds.length ≤ Ur.top
            · rw [if_pos hz] at h1
              have s4 : Sl X.K H1 σ st1 (own X.K y (.dat (.list ds)) :: own X.K (.ref a) (.lst cs) :: l) := s4
              refine .inr (extF_ok s4.tail.top s4.rd hz fun H3 s6 => h1 .non H3 ?_)
              have s7 : Sl X.K H3 σ st1 (own X.K (.ref a) (.lst (cs ++ ds.map .dat)) :: l) := .of_top s4.ok s6
              exact (s7.refill hv).dat .non
            · rw [if_neg hz] at h1; exact h1.elim
          | _ => exact h1.elim
        | [.dK _], _, _, h1, _ => exact h1.elim
        | [.dT _], _, _, h1, _ => exact h1.elim
        | [], _, _, h1, _ => exact h1.elim
        | w1 :: _ :: _, _, _, h1, _ =>
          cases w1 with
          | dat d => cases d <;> exact h1.elim
          | _ => exact h1.elim
      · exact h.elim
  · exact h.elim
end
end Ur
end
section
set_option linter.all false
set_option autoImplicit false
set_option maxHeartbeats 2000000
/-! UrF10: isinstance; an error's field. -/
namespace Ur
open PySem L2
def tyN : Ty → Option String
  | .list => some "list" | .tuple => some "tuple" | .int => some "int" | .bool => some "bool" | .str => some "str" | .dict => some "dict"
  | .valueError => some "ValueError" | .lookupError => some "LookupError" | .keyError => some "KeyError" | .indexError => some "IndexError"
  | _ => none
def tyNs : List String := ["list", "tuple", "int", "bool", "str", "dict", "ValueError", "LookupError", "KeyError", "IndexError"]
def dName : D → String
  | .none => "NoneType" | .bool _ => "bool" | .int _ => "int" | .str _ => "str" | .list _ => "list" | .tuple _ => "tuple" | .dict _ => "dict"
/-- what is known of the classes of errors, for what is read of errors -/
structure XReads (K : PySem.W.Frag) (mg : Str → Option Value) (ecs : List Ec) : Prop where
  rd : ∀ e ∈ ecs, ExcC K e.adr
  base : ∀ e ∈ ecs, baseOf ecs e.adr = some e.base
  mg : ∀ e ∈ ecs, mg e.name = some (.ref e.adr)
  nof : ∀ e ∈ ecs, ∀ f ∈ e.fields, PySem.W.findIn K (.ref e.adr) f = some none
  kT : ∀ e ∈ ecs, ∀ n ∈ tyNs, PySem.W.kitOne K (.ref e.adr) (.type n) = some (decide (n = ebS e.base))
  kO : ∀ e ∈ ecs, ∀ e' ∈ ecs, PySem.W.kitOne K (.ref e.adr) (.ref e'.adr) = some (decide (e.adr = e'.adr))
  xT : ∀ e ∈ ecs, ∀ n ∈ ["ValueError", "LookupError"], PySem.W.exmOne K (.ref e.adr) (.type n) = some (decide (n = ebS e.base))
  eq : ∀ e ∈ ecs, PySem.W.findIn K (.ref e.adr) "__eq__" = some (some (.builtin "object.__eq__")) ∧ PySem.W.mroIn K e.adr (.type "object") = some true ∧ PySem.W.subIn K (.ref e.adr) (.type "str") = some false
  xO : ∀ e ∈ ecs, ∀ e' ∈ ecs, PySem.W.exmOne K (.ref e.adr) (.ref e'.adr) = some (decide (e.adr = e'.adr))
theorem baseOf_mem {ecs : List Ec} {c : Nat} {b : Eb} (h : baseOf ecs c = some b) : ∃ e ∈ ecs, e.adr = c ∧ e.base = b := by
  unfold baseOf at h
  obtain ⟨e, he, hb⟩ := Option.map_eq_some_iff.mp h
  have h1 := List.mem_of_find?_eq_some he
  have h2 := List.find?_some he
  exact ⟨e, h1, of_decide_eq_true h2, hb⟩
section
variable {X : Cx} {P : Prog} {cf : Cf} {W : WX} {XR : Hp → Value → Option Addr → D → Prop}
variable {H : Hp} {σ : L2.St} {st : Stt} {l : List Asn} {K : PySem.W.Frag}
theorem RD.tyx {v : V} {d : D} (r : RD K H v d) (hn : excOf d = none) : TyX K H v (.type (dName d)) := by
  cases r with
  | exc _ _ => simp [excOf, excD] at hn
  | non => exact .base .non
  | bl b => exact .base (.bl b)
  | int i => exact .base (.int i)
  | str x _ _ => exact .base (.str x)
  | lst h _ _ =>
    rcases h with ⟨o, h⟩ | ⟨its, n, h, _⟩
    · exact .base (.frz h)
    · exact .kList h rfl
  | tup h _ _ =>
    rcases h with h | h
    · exact .base (.tup h)
    · rcases h with (h | ⟨_, h⟩) | ⟨o, its, n, h1, h2, _⟩
      · cases h
      · cases h
      · exact .kTuple h1 h2
  | dct h _ _ => exact .fDict h
theorem RD.exc_of {v : V} {d : D} {c : Nat} (r : RD K H v d) (h : excOf d = some c) : ∃ a dd fs, v = .ref a ∧ d = excD c fs ∧ XObj H a c dd ∧ XFields H dd fs := by
  cases r with
  | @exc a C dd fs h1 h2 =>
    have e : C = c := by simpa [excOf, excD] using h
    subst e
    exact ⟨a, dd, fs, rfl, rfl, h1, h2⟩
  | @dct a o kvs ds h1 _ r =>
    cases r with
    | nil => simp [excOf] at h
    | @cons q _ _ _ _ h r => cases q <;> simp [excOf, kD] at h
  | _ => simp [excOf] at h
theorem kitT : ∀ a ∈ ["NoneType", "bool", "int", "str", "list", "tuple", "dict"], ∀ b ∈ tyNs, kitB a b = some (a == b || (a == "bool" && b == "int")) := by decide +kernel
theorem dName_in (d : D) : dName d ∈ ["NoneType", "bool", "int", "str", "list", "tuple", "dict"] := by cases d <;> simp [dName]
theorem tyN_in {ty : Ty} {n : String} (h : tyN ty = some n) : n ∈ tyNs := by
  cases ty <;> simp only [tyN, Option.some.injEq, reduceCtorEq] at h <;> subst h <;> simp [tyNs]
/-- no set and no exception -/
def dictOk : D → Bool
  | .dict ((.none, _) :: _) => false
  | .dict ((.bool _, _) :: _) => false
  | _ => true
theorem kit_tab {ecs : List Ec} {d : D} {ty : Ty} {n : String} (hn : tyN ty = some n) (hd : dictOk d = true) : PySem.W.kitOne K (.type (dName d)) (.type n) = some (tyD ecs d ty) := by
  have hx : excOf d = none := by
    unfold excOf
    split
    · simp [dictOk] at hd
    · rfl
  refine kit_ty ((kitT _ (dName_in d) _ (tyN_in hn)).trans (congrArg some ?_))
  cases ty <;> simp only [tyN, Option.some.injEq, reduceCtorEq] at hn <;> subst hn
  · cases d <;> first | rfl | (show (_ == _ || (_ == _ && _ == _)) = _; simp [dName, tyD])
  · cases d <;> first | rfl | (show (_ == _ || (_ == _ && _ == _)) = _; simp [dName, tyD])
  · cases d <;> first | rfl | (show (_ == _ || (_ == _ && _ == _)) = _; simp [dName, tyD])
  · cases d <;> first | rfl | (show (_ == _ || (_ == _ && _ == _)) = _; simp [dName, tyD])
  · cases d <;> first | rfl | (show (_ == _ || (_ == _ && _ == _)) = _; simp [dName, tyD])
  · cases d <;> first | rfl | skip
    rename_i kvs
    have e : tyD ecs (.dict kvs) .dict = dictOk (.dict kvs) := by
      match kvs with
      | [] => rfl
      | (k, v) :: r => cases k <;> rfl
    rw [e, hd]
    rfl
  all_goals (simp only [tyD, hx]; cases d <;> first | rfl | simp [dName])
theorem kit_exc {mg : Str → Option Value} {ecs : List Ec} {c : Nat} {fs : List (D × D)} {ty : Ty} {n : String} (hX : XReads K mg ecs) (hb : (baseOf ecs c).isSome = true) (hn : tyN ty = some n) : PySem.W.kitOne K (.ref c) (.type n) = some (tyD ecs (excD c fs) ty) := by
  obtain ⟨b, eb⟩ := Option.isSome_iff_exists.mp hb
  obtain ⟨e, he, rfl, rfl⟩ := baseOf_mem eb
  rw [hX.kT e he n (tyN_in hn)]
  have ex : excOf (excD e.adr fs) = some e.adr := by simp [excOf, excD]
  congr 1
  generalize e.base = b at eb ⊢
  cases ty <;> simp only [tyN, Option.some.injEq, reduceCtorEq] at hn <;> subst hn
  all_goals first
    | (simp only [tyD, ex, Option.bind_some, eb]; cases b <;> decide)
    | (simp only [tyD, excD]; cases b <;> decide)
theorem RD.dictOk {v : V} {d : D} (r : RD K H v d) (hn : excOf d = none) : dictOk d = true := by
  cases r with
  | exc _ _ => simp [excOf, excD] at hn
  | dct h g r =>
    cases r with
    | nil => rfl
    | @cons q _ _ _ _ h r => cases q <;> rfl
  | _ => rfl
theorem kit_any {ecs : List Ec} {d : D} {t : Value} (hd : ∀ ty n, tyN ty = some n → PySem.W.kitOne K t (.type n) = some (tyD ecs d ty)) : ∀ {ts : List Ty} {ns : List String}, ts.map tyN = ns.map some → PySem.W.kitAny K t (ns.map Value.type) = some (ts.any (tyD ecs d))
  | [], [], _ => kitAny_nil
  | [], _ :: _, h => by simp at h
  | _ :: _, [], h => by simp at h
  | ty :: ts, n :: ns, h => by
    simp only [List.map_cons, List.cons.injEq] at h
    have e := hd ty n h.1
    rw [List.any_cons]
    refine kitAny_cons e (fun hb => ?_) fun hb => ?_
    · rw [hb, Bool.false_or]; exact kit_any hd h.2
    · rw [hb, Bool.true_or]
/-! ### an error as it lies -/
theorem XObj.inst {s : Shared} {pins : List (Addr × Obj)} (I : Inv X pins σ H s) {a C : Addr} {d : Option Addr} {fs : List (D × D)} (h : XObj H a C d) (g : XFields H d fs) : ∃ oe od, PySem.W.InstAt s.heap a oe C od ∧ (∀ dx, d = some dx → ∃ o, od = some o ∧ s.heap.get? dx = some o) := by
  obtain ⟨o, u, h, hu⟩ := h
  have hk := I.hok a _ h
  obtain ⟨e, hk⟩ := hk
  have key : o.cls = .ref C ∧ o.dict = d ∧ ∃ vs, o.data = .fields vs := by
    rcases hu with rfl | rfl
    · obtain ⟨⟨t1, e2⟩, _⟩ := (show ObjOk X.prog X.w H s.heap a (.ext fun h => ∃ t1 : Addr, h.get? a = some ({ cls := .ref C, dict := d, data := .fields #[.ref t1, .none, .none, .none, .bool false, .none] } : Obj)) from hk)
      rw [e] at e2; cases e2
      exact ⟨rfl, rfl, _, rfl⟩
    · obtain ⟨⟨oe, vs, e2, z, hd⟩, _⟩ := (show ObjOk X.prog X.w H s.heap a (.ext fun h => ∃ (oe : Obj) (vs : Array Value), h.get? a = some oe ∧ Zc (.ref C) d oe ∧ oe.data = .fields vs) from hk)
      rw [e] at e2; cases e2
      exact ⟨z.1, z.2, vs, hd⟩
  obtain ⟨k1, k2, vs, k3⟩ := key
  have kn : PySem.W.notCls o = true := by unfold PySem.W.notCls; rw [k3] <;> rfl
  cases d with
  | none => exact ⟨o, none, ⟨e, k1, kn, by rw [k2]; trivial⟩, fun _ z => by cases z⟩
  | some dx =>
    rcases g with ⟨z, _⟩ | ⟨dd, f, v, y, hz, hx, _⟩
    · cases z
    · cases hz
      have ho : ∃ ob, s.heap.get? dx = some ob := by
        rcases hx with hx | ⟨ob, hx⟩
        · obtain ⟨mA, ⟨ob, _, _, eo, _⟩, _⟩ := (show ObjOk X.prog X.w H s.heap dx (.xd [(f, v)]) from I.hok dx _ hx)
          exact ⟨ob, eo⟩
        · exact ⟨ob, (I.hok dx _ hx).1⟩
      obtain ⟨ob, eo⟩ := ho
      exact ⟨o, some ob, ⟨e, k1, kn, by rw [k2]; exact eo⟩, fun dz z => by cases z; exact ⟨ob, rfl, eo⟩⟩
theorem excC_kit {C a : Addr} {oe : Obj} {od : Option Obj} (h : ExcC K C) : PySem.W.KitX K (.ref a) (.ref C) (fun hp => PySem.W.InstAt hp a oe C od) :=
  PySem.W.kitx_exc (by obtain ⟨cd, e, _⟩ := PySem.W.any_some h.hd; rw [e]; rfl) h.hg h.hk h.hs h.ha h.hn h.ht h.hm
/-- isinstance(e, c) of an error -/
def rIsX (K : PySem.W.Frag) : List V → Hp → VK → Prop := fun xs H Q => ∃ (a C : Addr) (d : Option Addr) (fs : List (D × D)) (c : V) (u : Value) (b : Bool), xs = [.ref a, c] ∧ ClsV c u ∧ XObj H a C d ∧ XFields H d fs ∧ ExcC K C ∧ PySem.W.kitOne K (.ref C) u = some b ∧ Q (.bl b) H
def rIsXT (K : PySem.W.Frag) : List V → Hp → VK → Prop := fun xs H Q => ∃ (a C : Addr) (d : Option Addr) (fs : List (D × D)) (tp : Addr) (cs : List V) (us : List Value) (b : Bool), xs = [.ref a, .ref tp] ∧ H tp = some (.tup cs) ∧ Paired ClsV cs us ∧ XObj H a C d ∧ XFields H d fs ∧ ExcC K C ∧
  PySem.W.kitAny K (.ref C) us = some b ∧ Q (.bl b) H
theorem call_isX : CallR X (.builtin "isinstance") (rIsX X.K) := by
  intro pins s σ H xs us Q I r h
  obtain ⟨a, C, d, fs, c, u, b, rfl, k, ho, hf, T, e, q⟩ := h
  obtain ⟨u1, u2, rfl, r1, r2⟩ := vals2 r
  have e2 := k.eq r2
  subst e2
  cases r1
  obtain ⟨oe, od, J, _⟩ := ho.inst I hf
  exact PySem.W.kia_one (excC_kit T) I.kIn J e (fun z => nomatch z) fun tk => ⟨.bl b, H, I.tok tk, rfl, q⟩
theorem call_isXT : CallR X (.builtin "isinstance") (rIsXT X.K) := by
  intro pins s σ H xs us Q I r h
  obtain ⟨a, C, d, fs, tp, cs, ws, b, rfl, hT, k, ho, hf, T, e, q⟩ := h
  obtain ⟨u1, u2, rfl, r1, r2⟩ := vals2 r
  cases (show u2 = Value.ref tp from r2)
  cases r1
  obtain ⟨oe, od, J, _⟩ := ho.inst I hf
  obtain ⟨_, its, rv, o, h1, h2, n, h3⟩ := (show ObjOk X.prog X.w H s.heap tp (.tup cs) from I.hok tp _ hT)
  have e3 := ClsV.all k rv
  subst e3
  obtain ⟨oc, od', dt, sl⟩ := o
  simp only at h2 h3
  subst h2 h3
  exact PySem.W.kia_tup (excC_kit T) I.kIn J h1 e (fun z => nomatch z) fun tk => ⟨.bl b, H, I.tok tk, rfl, q⟩
theorem callR_or {f : Value} {r r' : List V → Hp → VK → Prop} (h : CallR X f r) (h' : CallR X f r') : CallR X f (fun xs H Q => r xs H Q ∨ r' xs H Q) := by
  intro pins s σ H xs us Q I rv q
  rcases q with q | q
  · exact h pins s σ H xs us Q I rv q
  · exact h' pins s σ H xs us Q I rv q
/-! ### the classes' names -/
def tyNames (sc : Scope) : List String → List Expr → Bool
  | [], [] => true
  | n :: ns, .Name y _ :: r => decide (y = Str.ofString n) && glob sc y && tyNames sc ns r
  | _, _ => false
theorem boot_ty {n : String} (h : n ∈ tyNs) : bootBuiltins (Str.ofString n) = some (.type n) := by
  simp only [tyNs, List.mem_cons, List.not_mem_nil, or_false] at h
  rcases h with rfl | rfl | rfl | rfl | rfl | rfl | rfl | rfl | rfl | rfl <;> decide +kernel
theorem pa_tys (hm : ∀ n ∈ tyNs, X.mg (Str.ofString n) = none) : ∀ {ns : List String} {es : List Expr}, (∀ n ∈ ns, n ∈ tyNs) → tyNames X.env.scope ns es = true → PA X es (fun σ H Q => Q (ns.map V.ty) H) ∧ noStars es = true
  | [], [], _, _ => ⟨⟨fun pos pins s σ H Q I h => (pa_nil (X := X)).run pos pins s σ H Q I h⟩, rfl⟩
  | [], _ :: _, _, h => by simp [tyNames] at h
  | _ :: _, [], _, h => by simp [tyNames] at h
  | n :: ns, e :: es, hn, h => by
    cases e <;> try (simp [tyNames] at h; done)
    rename_i y py
    simp only [tyNames, Bool.and_eq_true, decide_eq_true_eq] at h
    obtain ⟨⟨rfl, hg⟩, hr⟩ := h
    obtain ⟨g1, g2, g3⟩ := glob_ok hg
    obtain ⟨p1, p2⟩ := pa_tys hm (fun m h => hn m (List.mem_cons_of_mem _ h)) hr
    have pe := pe_bltn (pos := py) (v := .ty n) g1 (hm n (hn n List.mem_cons_self)) (boot_ty (hn n List.mem_cons_self)) (show RelV (.ty n) (.type n) from rfl) g3 g2
    exact ⟨⟨fun pos pins s σ H Q I q => (pa_cons pe p1 (star_cons rfl)).run pos pins s σ H Q I q⟩, by rw [noStars, p2]; rfl⟩
theorem all_names {ts : List Ty} {ns : List String} (h : ts.map tyN = ns.map some) : ts.all noOwn = true := by
  rw [List.all_eq_true]
  intro t ht
  have : tyN t ∈ ns.map some := by rw [← h]; exact List.mem_map_of_mem ht
  obtain ⟨n, _, e⟩ := List.mem_map.mp this
  cases t <;> first | rfl | simp [tyN] at e
theorem r_isi1 {a : E} {a' : Expr} {ty : Ty} {n : String} {y : Expr} {x : Str} {p pos : Pos} (hX : XReads X.K X.mg P.ecs) (hm : ∀ n ∈ tyNs, X.mg (Str.ofString n) = none) (hi : X.mg "isinstance" = none) (hx : x = "isinstance") (hg : glob X.env.scope x = true)
    (hn : tyN ty = some n) (ht : tyNames X.env.scope [n] [y] = true) (ha : PE X a' (tE X.K XR P cf W a)) (hs : noStar a' = true) : PE X (.Call (.Name x p) [a', y] [] pos) (tE X.K XR P cf W (.isi a [ty])) := by
  obtain ⟨g1, g2, g3⟩ := glob_ok hg
  subst hx
  obtain ⟨pt, ps⟩ := pa_tys hm (fun m hm' => by
    have : m = n := by simpa using hm'
    subst this; exact tyN_in hn) ht
  refine pe_to (pe_callB (callR_or call_isi call_isX) g1 hi (by decide +kernel) (pa_cons ha pt (star_cons hs)) g3 g2 (star_cons hs) (star_any ps)) fun σ H Q ⟨st, l, s, h⟩ => ?_
  have h : Aft X.K XR W σ l _ (bd (ev P cf a st) fun x s => lfd ((isiD P.ecs x.fz [ty]).map .bool) s) := h
  refine t1 s h fun o st1 v H1 h1 s1 => s1.fz.imp fun H2 ⟨k2, r2, s2⟩ => ?_
  obtain ⟨dv, ed, h1⟩ := aft_lfd h1
  obtain ⟨bv, eb, rfl⟩ := Option.map_eq_some_iff.mp ed
  have e : [ty].any (tyD P.ecs o.fz) = tyD P.ecs o.fz ty := by simp
  unfold isiD at eb
  cases hx : excOf o.fz with
  | none =>
    rw [hx] at eb
    have hall : [ty].all noOwn = true := all_names (ns := [n]) (by simp [hn])
    dsimp only at eb
    rw [if_pos hall, e] at eb
    refine .inl ⟨v, .ty n, .type (dName o.fz), .type n, bv, rfl, .ty n, r2.tyx hx, ?_, h1 _ H2 (s2.dat (.bl _))⟩
    rw [← eb]
    exact kit_tab (ecs := P.ecs) hn (r2.dictOk hx)
  | some c =>
    rw [hx] at eb
    dsimp only at eb
    split at eb
    · rename_i hb
      rw [e] at eb
      obtain ⟨p, dd, fs, rfl, ef, ho, hf⟩ := r2.exc_of hx
      obtain ⟨bs, hbs⟩ := Option.isSome_iff_exists.mp hb
      obtain ⟨ec, he, rfl, _⟩ := baseOf_mem hbs
      refine .inr ⟨p, ec.adr, dd, fs, .ty n, .type n, bv, rfl, .ty n, ho, hf, hX.rd ec he, ?_, h1 _ H2 (s2.dat (.bl _))⟩
      rw [← eb, ef]
      exact kit_exc hX hb hn
    · cases eb
/-- isinstance(e, C), C an own class of errors -/
theorem r_isiO {a : E} {a' : Expr} {c : Nat} {e0 : Ec} {y x : Str} {p p2 pos : Pos} (hX : XReads X.K X.mg P.ecs) (hi : X.mg "isinstance" = none) (hx : x = "isinstance") (hg : glob X.env.scope x = true)
    (hc : P.ecs[c]? = some e0) (hy : y = e0.name) (hgy : glob X.env.scope y = true) (ha : PE X a' (tE X.K XR P cf W a)) (hs : noStar a' = true) : PE X (.Call (.Name x p) [a', .Name y p2] [] pos) (tE X.K XR P cf W (.isi a [.own c])) := by
  obtain ⟨g1, g2, g3⟩ := glob_ok hg
  obtain ⟨y1, y2, y3⟩ := glob_ok hgy
  subst hx hy
  have hmem : e0 ∈ P.ecs := List.mem_of_getElem? hc
  refine pe_to (pe_callB call_isX g1 hi (by decide +kernel) (pa_cons ha (pa_cons (pe_glob (v := .ref e0.adr) y1 (hX.mg e0 hmem) rfl y2) pa_nil (star_cons rfl)) (star_cons hs)) g3 g2 (star_cons hs) (star_any rfl)) fun σ H Q ⟨st, l, s, h⟩ => ?_
  have h : Aft X.K XR W σ l _ (bd (ev P cf a st) fun x s => lfd ((isiD P.ecs x.fz [.own c]).map .bool) s) := h
  refine t1 s h fun o st1 v H1 h1 s1 => s1.fz.imp fun H2 ⟨k2, r2, s2⟩ => ?_
  obtain ⟨dv, ed, h1⟩ := aft_lfd h1
  obtain ⟨bv, eb, rfl⟩ := Option.map_eq_some_iff.mp ed
  unfold isiD at eb
  cases hx : excOf o.fz with
  | none =>
    rw [hx] at eb
    simp [noOwn] at eb
  | some cc =>
    rw [hx] at eb
    dsimp only at eb
    split at eb
    · rename_i hb
      obtain ⟨p, dd, fs, rfl, ef, ho, hf⟩ := r2.exc_of hx
      obtain ⟨bs, hbs⟩ := Option.isSome_iff_exists.mp hb
      obtain ⟨ec, he, rfl, _⟩ := baseOf_mem hbs
      refine ⟨p, ec.adr, dd, fs, .ref e0.adr, .ref e0.adr, bv, rfl, .own _, ho, hf, hX.rd ec he, ?_, h1 _ H2 (s2.dat (.bl _))⟩
      rw [hX.kO ec he e0 hmem, ← eb]
      simp [tyD, hx, hc]
    · cases eb
theorem r_isiT {a : E} {a' : Expr} {ts : List Ty} {ns : List String} {ys : List Expr} {k : Nat} {x : Str} {p p2 pos : Pos} (hX : XReads X.K X.mg P.ecs) (hm : ∀ n ∈ tyNs, X.mg (Str.ofString n) = none) (hi : X.mg "isinstance" = none) (hx : x = "isinstance") (hg : glob X.env.scope x = true)
    (hn : ts.map tyN = ns.map some) (ht : tyNames X.env.scope ns ys = true) (hz : ns.length ≤ Ur.top) (ha : PE X a' (tE X.K XR P cf W a)) (hs : noStar a' = true) : PE X (.Call (.Name x p) [a', .Tuple ys k p2] [] pos) (tE X.K XR P cf W (.isi a ts)) := by
  obtain ⟨g1, g2, g3⟩ := glob_ok hg
  subst hx
  have hmem : ∀ n ∈ ns, n ∈ tyNs := fun n hn' => by
    have : some n ∈ ts.map tyN := by rw [hn]; exact List.mem_map_of_mem hn'
    obtain ⟨t, _, e⟩ := List.mem_map.mp this
    exact tyN_in e
  obtain ⟨pt, ps⟩ := pa_tys hm hmem ht
  have tp := top_eq
  refine pe_to (pe_callB (callR_or call_isiT call_isXT) g1 hi (by decide +kernel) (pa_cons ha (pa_cons (pe_tup (x1 := k) (pos := p2) pt) pa_nil (star_cons rfl)) (star_cons hs)) g3 g2 (star_cons hs) (star_any rfl)) fun σ H Q ⟨st, l, s, h⟩ => ?_
  have h : Aft X.K XR W σ l _ (bd (ev P cf a st) fun x s => lfd ((isiD P.ecs x.fz ts).map .bool) s) := h
  refine t1 s h fun o st1 v H1 h1 s1 => s1.fz.imp fun H2 ⟨k2, r2, s2⟩ => ?_
  obtain ⟨dv, ed, h1⟩ := aft_lfd h1
  obtain ⟨bv, eb, rfl⟩ := Option.map_eq_some_iff.mp ed
  refine ⟨by rw [List.length_map]; omega, fun q hq => ?_⟩
  have kp : Kept H2 (upd H2 q (.tup (ns.map V.ty))) := Sa.kept_new hq
  have pr : ∀ ns : List String, Paired ClsV (ns.map V.ty) (ns.map Value.type) := fun ns => by
    induction ns with
    | nil => exact .nil
    | cons n ns ih => exact .cons (.ty n) ih
  unfold isiD at eb
  cases hx : excOf o.fz with
  | none =>
    rw [hx] at eb
    dsimp only at eb
    rw [if_pos (all_names hn)] at eb
    refine .inl ⟨v, q, ns.map V.ty, .type (dName o.fz), ns.map Value.type, bv, rfl, upd_same, pr ns, (r2.kept kp).tyx hx, ?_, h1 _ _ ((s2.new hq).dat (.bl _))⟩
    rw [← Option.some.inj eb]
    exact kit_any (ecs := P.ecs) (fun ty n h => kit_tab h (r2.dictOk hx)) hn
  | some c =>
    rw [hx] at eb
    dsimp only at eb
    split at eb
    · rename_i hb
      obtain ⟨p, dd, fs, rfl, ef, ho, hf⟩ := r2.exc_of hx
      obtain ⟨bs, hbs⟩ := Option.isSome_iff_exists.mp hb
      obtain ⟨ec, he, rfl, _⟩ := baseOf_mem hbs
      refine .inr ⟨p, ec.adr, dd, fs, q, ns.map V.ty, ns.map Value.type, bv, rfl, upd_same, pr ns, ho.kept kp, hf.kept kp, hX.rd ec he, ?_, h1 _ _ ((s2.new hq).dat (.bl _))⟩
      rw [← Option.some.inj eb, ef]
      exact kit_any (ecs := P.ecs) (fun ty n h => kit_exc hX hb h) hn
    · cases eb
/-! ### an error's field -/
def noCall0 : Expr → Bool
  | .Call (.Name _ _) [] [] _ => false
  | _ => true
theorem base_rfl {e : Expr} {f : Str} {env : Env} (h : noCall0 e = true) : attributeBase e f env (eval e env) = eval e env := by
  unfold attributeBase
  split
  · simp [noCall0] at h
  · rfl
theorem r_attr {a : E} {a' : Expr} {f : Str} {pos : Pos} (hX : XReads X.K X.mg P.ecs) (ha : PE X a' (tE X.K XR P cf W a)) (hb : noCall0 a' = true) : PE X (.Attribute a' f pos) (tE X.K XR P cf W (.attr a f)) := by
  refine pe_to (t := fun σ H Q => tE X.K XR P cf W a σ H fun x H1 => ∃ a C d fs v y, x = .ref a ∧ ExcC X.K C ∧ PySem.W.findIn X.K (.ref C) f = some none ∧ XObj H1 a C (some d) ∧ XDict H1 d fs ∧ XFields H1 (some d) y ∧ fs.lookup f = some v ∧ Q v H1)
    ⟨fun pins s σ H Q I h => ?_⟩ fun σ H Q ⟨st, l, s, h⟩ => ?_
  · refine attr_of (base_rfl hb) (thn (ha.run pins s σ H _ I h) fun u s1 ⟨x, H1, I1, rx, a, C, d, fs, v, y, ex, T, hno, ho, hd, hf, hl, q⟩ => ?_)
    subst ex
    obtain rfl : u = Value.ref a := rx
    obtain ⟨oe, od, J, hdo⟩ := ho.inst I1 hf
    obtain ⟨o, rfl, eo⟩ := hdo d rfl
    have hns : ∃ mA, s1.heap.Ns1 d mA ∧ ∀ g, RelO (fs.lookup g) (mA g) := by
      rcases hd with hd | ⟨ob, hd⟩
      · exact (show ObjOk X.prog X.w H1 s1.heap d (.xd fs) from I1.hok d _ hd)
      · exact (show ObjOk X.prog X.w H1 s1.heap d (.ext fun h => ∃ mA, h.Ns1 d mA ∧ ∀ f, RelO (fs.lookup f) (mA f)) from (I1.hok d _ hd).2).1
    obtain ⟨mA, hns, hr⟩ := hns
    obtain ⟨o2, ho2, hl2⟩ := lookIn_ns hns
    rw [eo] at ho2
    cases ho2
    obtain ⟨u, hu, ru⟩ := RelO.some_of (v := v) (o := mA f) (by rw [← hl]; exact hr f)
    exact PySem.HandSPX.exc_get I1.kIn J T.hg T.hk T.hs (PySem.W.findObj_own T.hd hno rfl (by rw [hl2, hu])) (handed_of ru) ⟨v, H1, I1.tok _, ru, q⟩
  · have h : Aft X.K XR W σ l _ (bd (ev P cf a st) fun x s => lfd (attrD P.ecs f x.fz) s) := h
    refine t1 s h fun o st1 v H1 h1 s1 => s1.fz.imp fun H2 ⟨k2, r2, s2⟩ => ?_
    obtain ⟨dv, ed, h1⟩ := aft_lfd h1
    unfold attrD at ed
    cases hx : excOf o.fz with
    | none => rw [hx] at ed; simp at ed
    | some c =>
      rw [hx] at ed
      obtain ⟨p, dd, fs, rfl, ef, ho, hf⟩ := r2.exc_of hx
      rw [ef] at ed
      simp only [Option.bind_some, excD] at ed
      split at ed
      · rename_i e he
        split at ed
        · rename_i hmem
          have he1 := List.mem_of_find?_eq_some he
          have he2 : e.adr = c := by have := List.find?_some he; simpa using this
          subst he2
          rcases id hf with ⟨_, rfl⟩ | ⟨dx, g, w, y, rfl, hd, hat, rfl⟩
          · simp [lookD] at ed
          · have hg : g = f ∧ y = dv := by
              have ed' : (if PyData.eqv (.str g) (.str f) then some y else none) = some dv := ed
              split at ed'
              · rename_i hq
                exact ⟨by simpa [PyData.eqv] using hq, Option.some.inj ed'⟩
              · cases ed'
            obtain ⟨rfl, rfl⟩ := hg
            refine ⟨p, e.adr, dx, [(g, w)], w, _, rfl, hX.rd e he1, hX.nof e he1 g hmem, ho, hd, hf, by simp [List.lookup], h1 _ H2 (s2.dat (Atom.rdA hat))⟩
        · cases ed
      · cases ed
end
end Ur
end
section
set_option linter.all false
set_option autoImplicit false
set_option maxRecDepth 10000
/-! UrF11: xs[::-1]; constants of the module. -/
namespace Ur
open PySem L2 PyProof.Rows
section
variable {prog : Program} {w : World} {A : Around} {E : Value → Shared → Prop} {s : Shared}
theorem adj_rev (n : Nat) : Builtin.Slice.sliceAdjust none none (-1) (n : Int) = ((n : Int) - 1, -1) := by
  unfold Builtin.Slice.sliceAdjust
  simp
theorem places_rev (n : Nat) : Builtin.Slice.slicePlaces ((n : Int) - 1) (-1) (-1) = n := by
  unfold Builtin.Slice.slicePlaces
  rw [if_neg (by decide)]
  split
  · rw [show -(-1 : Int) = 1 from rfl, Int.ediv_one]
    omega
  · omega
theorem pick_rev (xs : Array Value) : ((List.range xs.size).filterMap fun (k : Nat) => xs[((xs.size : Int) - 1 + (k : Int) * -1).toNat]?) = xs.toList.reverse := by
  have e : (fun (k : Nat) => xs[((xs.size : Int) - 1 + (k : Int) * -1).toNat]?) = (fun j : Nat => xs[j]?) ∘ fun (k : Nat) => ((xs.size : Int) - 1 + (k : Int) * -1).toNat := rfl
  rw [e, ← List.filterMap_map]
  have e2 : (List.range xs.size).map (fun (k : Nat) => ((xs.size : Int) - 1 + (k : Int) * -1).toNat) = (List.range xs.size).map fun k => xs.size - 1 - k := by
    refine List.map_congr_left fun k hk => ?_
    have := List.mem_range.mp hk
    omega
  rw [e2, PySem.W.krv_range, List.filterMap_reverse, PySem.W.krv_all]
theorem applied_rev {sl : Addr} {vs : Value} {n : Nat} {Q : Int × Int × Nat → Shared → Prop} (hs : s.heap.IsSliceOf sl .none .none vs) (ps : IsPart vs (some (-1))) (h : Q ((n : Int) - 1, -1, n) s) :
    wpAny (model prog w) A (Builtin.Slice.sliceApplied (.ref sl) (pure (n : Int))) Q E s := by
  obtain ⟨os, hos, hcs, hds⟩ := hs
  unfold Builtin.Slice.sliceApplied Builtin.Slice.sliceFields
  refine wpAny_bind (wpAny_bind (wpAny_field hos hds (x := .none) rfl (wpAny_bind (wpAny_field hos hds (x := .none) rfl (wpAny_bind (wpAny_field hos hds (x := vs) rfl (wpAny_pure ?_)))))))
  refine wpAny_bind (HT.slicePart_ ps ?_)
  refine wp_if_neg (by decide) ?_
  refine wpAny_bind (PyProof.Rows.slicePart_none (wpAny_bind (PyProof.Rows.slicePart_none (wpAny_bind (wpAny_pure ?_)))))
  show wpAny _ _ (match Builtin.Slice.sliceAdjust none none (-1) (n : Int) with | (lo, hi) => pure (lo, (-1 : Int), Builtin.Slice.slicePlaces lo hi (-1))) _ _ s
  rw [adj_rev]
  show wpAny _ _ (pure ((n : Int) - 1, (-1 : Int), Builtin.Slice.slicePlaces ((n : Int) - 1) (-1) (-1))) _ _ s
  rw [places_rev]
  exact wpAny_pure h
theorem item_rev {t sl : Addr} {xs : Array Value} {vs : Value} {Q : Value → Shared → Prop} (ht : s.heap.IsTuple t xs) (hs : s.heap.IsSliceOf sl .none .none vs) (ps : IsPart vs (some (-1))) (hz : xs.size ≤ sizeLine)
    (h : Q (.ref s.heap.objs.size) { s with heap := s.heap.push { cls := .type "tuple", data := .seq xs.toList.reverse.toArray } }) : wpAny (model prog w) A (getItem (.ref t) (.ref sl)) Q E s := by
  obtain ⟨os, hos, hcs, hds⟩ := id hs
  have hok : sizeOk (.seq xs.toList.reverse.toArray) := by
    show xs.toList.reverse.toArray.size ≤ sizeLine
    simpa using hz
  unfold getItem
  try with_reducible refine wpAny_holding ?_
  first | refine wpAny_bind (wpAny_pure ?_) | skip
  refine wpAny_bind (wpAny_sequenceKey ht.typeIs (by decide) ?_)
  refine wpAny_bind (wpAny_callSpecial?_slot (name := Str.ofString "__getitem__") ht.typeIs PyProof.Rows.slot_tuple_getitem (wpAny_call_entry PyProof.Rows.slot_tuple_getitem ht.typeIs entry_tuple_getitem ?_ (args_tuple_getitem _ _)))
  show wpAny _ _ (Builtin.Tuple.tupleItemsOf (.ref t) >>= _) _ _ s
  refine wpAny_bind (PyProof.Rows.tupleItemsOf_ ht ?_)
  refine wpAny_bind (wpAny_typeOf ⟨os, hos, hcs⟩ ?_)
  rw [if_pos (by decide)]
  refine wpAny_bind (applied_rev hs ps ?_)
  show wpAny _ _ (if (((xs.size : Int) - 1) == 0 && (-1 : Int) == 1 && xs.size == xs.size) = true then _ else _) _ _ s
  rw [if_neg (by simp), pick_rev]
  first
    | exact wpAny_bind (m := Builtin.Tuple.tupleExact _) (wpAny_newObj_type (wpAny_pure ⟨_, rfl, wpAny_pure h⟩) hok)
    | exact wpAny_bind (m := Builtin.Tuple.tupleExact _) (wpAny_newObj_type (wpAny_bind (wpAny_pure (wpAny_pure ⟨_, rfl, wpAny_pure h⟩))) hok)
    | exact wpAny_bind (wpAny_bind (m := Builtin.Tuple.tupleExact _) (wpAny_newObj_type (wpAny_pure (wpAny_pure ⟨_, rfl, wpAny_pure h⟩)) hok))
    | exact wpAny_bind (wpAny_bind (m := Builtin.Tuple.tupleExact _) (wpAny_newObj_type (wpAny_pure ⟨_, rfl, wpAny_pure h⟩) hok))
end
section
variable {P : Prog} {cf : Cf} {W : WX} {XR : Hp → Value → Option Addr → D → Prop} {X : Cx}
theorem RDs.rev {K : PySem.W.Frag} {H : Hp} : ∀ {xs : List V} {ds : List D}, RDs K H xs ds → RDs K H xs.reverse ds.reverse
  | _, _, .nil => .nil
  | _, _, .cons h r => by
    rw [List.reverse_cons, List.reverse_cons]
    exact (RDs.rev r).append (.cons h .nil)
theorem r_rvs {a : E} {e : Expr} {k : Nat} {p1 p2 p3 pos : Pos} (ha : PE X e (tE X.K XR P cf W a)) : PE X (.Subscript e (.Slice none none (some (.UnaryOp .USub (.Constant (.int 1) k p1) p2)) p3) pos) (tE X.K XR P cf W (.rvs a)) := by
  refine pe_to (t := fun σ H Q => ∃ st l, Sl X.K H σ st l ∧ Aft X.K XR W σ l (fun o st' => ∀ v H', Sl X.K H' σ st' (own X.K v o :: l) → Q v H') (ev P cf (.rvs a) st)) ⟨fun pins s σ H Q I ⟨st, l, sl, h⟩ => ?_⟩ (fun σ H Q h => h)
  have h : Aft X.K XR W σ l (fun o st' => ∀ v H', Sl X.K H' σ st' (own X.K v o :: l) → Q v H') (bd (ev P cf a st) fun x s => lf (rvsD x.fz) s) := h
  refine Subscript_ (thn ((pe_gh ha).run pins s σ H (fun x H => ∃ d o st l, RD X.K H x d ∧ rvsD d = some o ∧ Sl X.K H σ st l ∧ ∀ v H', Sl X.K H' σ st (own X.K v o :: l) → Q v H') I ⟨st, l, sl, aft_bd X.K XR h fun o st' g v H1 s1 => ?_⟩) fun v s1 ⟨x, H1, I1, r1, q1⟩ => ?_)
  · obtain ⟨o2, e2, k⟩ := aft_lf g
    exact s1.fz.bind fun H2 ⟨_, rd, s2⟩ => .now (.now ⟨_, o2, st', l, rd, e2, s2, k⟩)
  obtain ⟨d, o, st1, l1, rd, eo, s2, q⟩ := q1
  have hst : PO X (some (.UnaryOp .USub (.Constant (.int 1) k p1) p2)) (tPart (tUn (rU fun i => V.int (-i)) (L2.tC (V.int 1)))) := po_some (pe_un un_neg pe_int)
  refine wpAny_Slice (thn (po_none.run pins s1 σ H1 (fun o H2 => o = none ∧ H2 = H1) I1 ⟨rfl, rfl⟩) fun vl t2 ⟨lo, H2, I2, pl, el, e2⟩ => ?_)
  subst el e2
  refine thn (po_none.run pins t2 σ H2 (fun o H3 => o = none ∧ H3 = H2) I2 ⟨rfl, rfl⟩) fun vu t3 ⟨up, H3, I3, pu, eu, e3⟩ => ?_
  subst eu e3
  refine thn (hst.run pins t3 σ H3 (fun o H4 => o = some (-1) ∧ H4 = H3) I3 ⟨1, rfl, -1, rfl, rfl, rfl⟩) fun vs t4 ⟨so, H4, I4, ps, es, e4⟩ => ?_
  subst es e4
  have I5 : Inv X pins σ H4 { t4 with heap := t4.heap.push { cls := .type "slice", data := .fields #[vl, vu, vs] } } := I4.kept (t' := t4.toks) fun b ob q => Heap.get?_push_of_some _ q
  show wpAny (model X.prog X.w) X.A (subscriptTail e (.Slice none none (some (.UnaryOp .USub (.Constant (.int 1) k p1) p2)) p3) v (.ref t4.heap.objs.size)) (EP X pins σ Q) X.xe { t4 with heap := t4.heap.push { cls := .type "slice", data := .fields #[vl, vu, vs] } }
  have tl := top_eq
  cases d with
  | list ds =>
    cases rd with
    | @lst b xs _ hf z rr =>
      cases r1
      have eo : o = .lst (ds.reverse.map .dat) := (Option.some.inj eo).symm
      subst eo
      obtain ⟨its, n, rv, hl, hat⟩ := frzL I5 hf
      have hL : Heap.IsList (t4.heap.push { cls := .type "slice", data := .fields #[vl, vu, vs] }) b its.toArray := ⟨_, hat, rfl, n, rfl⟩
      refine tail_any (ops := [.ref b, .ref t4.heap.objs.size]) hL.typeIs (PySem.slot_list_getitem.lookup) ?_ (by with_unfolding_all rfl)
      refine wpAny_getItem_list_slice hL (Heap.IsSliceOf.new _ vl vu vs) pl pu ps (by decide) ?_ (by rw [List.size_toArray]; omega)
      rw [PySem.W.krv_pick]
      have hn := I5.hok.fresh (Nat.le_refl _)
      refine ⟨.ref _, _, I5.laid (t' := t4.toks) (o := .lst xs.reverse) (fun b ob q => Heap.get?_push_of_some _ q) (Nat.le_refl _) ?_, rfl, q _ _ (.of_top s2.ok (res_lst s2.sa rr.rev (by rw [List.length_reverse]; exact z) hn))⟩
      exact ⟨by rw [List.length_reverse]; omega, _, 0, rv.reverse, Heap.get?_push_size _ rfl⟩
  | tuple ds =>
    cases rd with
    | @tup b xs _ hf z rr =>
      cases r1
      have eo : o = .dat (.tuple ds.reverse) := (Option.some.inj eo).symm
      subst eo
      obtain ⟨its, rv, hT, _⟩ := I5.tuple hf.sq
      have hl := rv.length
      cases pl
      cases pu
      refine tail_any (ops := [.ref b, .ref t4.heap.objs.size]) hT.typeIs (PyProof.Rows.slot_tuple_getitem.lookup) ?_ (by with_unfolding_all rfl)
      refine item_rev hT (Heap.IsSliceOf.new _ _ _ _) ps (by rw [List.size_toArray]; omega) ?_
      have hn := I5.hok.fresh (Nat.le_refl _)
      refine ⟨.ref _, _, I5.laid (t' := t4.toks) (o := .tup xs.reverse) (fun b ob q => Heap.get?_push_of_some _ q) (Nat.le_refl _) ?_, rfl, q _ _ (.of_top s2.ok (res_tup s2.sa rr.rev (by rw [List.length_reverse]; exact z) hn))⟩
      exact ⟨by rw [List.length_reverse]; omega, _, rv.reverse, ⟨_, Heap.get?_push_size _ rfl, rfl, 0, rfl⟩⟩
  | none => cases eo
  | bool _ => cases eo
  | int _ => cases eo
  | str _ => cases eo
  | dict _ => cases eo
end
/-! ### constants of the module -/
section
variable (K : PySem.W.Frag)
mutual
/-- the datum as it lies -/
def rdK : D → Value → Bool
  | .none, u => match u with | .none => true | _ => false
  | .bool b, u => match u with | .bool c => b == c | _ => false
  | .int i, u => match u with | .int j _ => i == j | _ => false
  | .str x, u => match u with | .str y _ => decide (x = y) && PyData.strOk x && decide (x.length ≤ 1000) | _ => false
  | .tuple ds, u => match u with
    | .ref a => (match K.lookup a with
      | some o => (match o.cls, o.data with
        | .type "tuple", .seq its _ => decide (its.size ≤ 1000) && rdKs ds its.toList
        | _, _ => false)
      | none => false)
    | _ => false
  | _, _ => false
def rdKs : List D → List Value → Bool
  | [], us => us.isEmpty
  | d :: ds, us => match us with
    | u :: us => rdK d u && rdKs ds us
    | [] => false
end
def GloK (mg : Str → Option Value) (g : Glo) : Prop := ∃ v u, mg g.name = some u ∧ RelV v u ∧ ∀ H, RD K H v g.val
def gloB (g : Glo) : Bool := match PySem.W.nsIn K mainGlobals g.name with
  | some (some u) => rdK K g.val u
  | _ => false
end
section
variable {K : PySem.W.Frag}
mutual
theorem rdK_ok : ∀ (d : D) (u : Value), rdK K d u = true → ∃ v, RelV v u ∧ ∀ H, RD K H v d
  | .none, u, h => by cases u <;> first | (cases h; done) | exact ⟨.non, rfl, fun H => .non⟩
  | .bool b, u, h => by
    cases u <;> first | (cases h; done) | skip
    rename_i c
    have e : b = c := by simpa [rdK] using h
    exact ⟨.bl b, by rw [e]; rfl, fun H => .bl b⟩
  | .int i, u, h => by
    cases u <;> first | (cases h; done) | skip
    rename_i j t
    have e : i = j := by simpa [rdK] using h
    exact ⟨.int i, ⟨t, by rw [e]⟩, fun H => .int i⟩
  | .str x, u, h => by
    cases u <;> first | (cases h; done) | skip
    rename_i y t
    simp only [rdK, Bool.and_eq_true, decide_eq_true_eq] at h
    exact ⟨.str x, ⟨t, by rw [h.1.1]⟩, fun H => .str x h.1.2 (by have := h.2; unfold Ur.top; omega)⟩
  | .tuple ds, u, h => by
    cases u <;> first | (cases h; done) | skip
    rename_i a
    simp only [rdK] at h
    split at h
    · rename_i o ho
      split at h
      · rename_i its n hc hd
        simp only [Bool.and_eq_true, decide_eq_true_eq] at h
        obtain ⟨xs, hv, hr⟩ := rdKs_ok ds its.toList h.2
        have hl := hv.length
        refine ⟨.ref a, rfl, fun H => .tup (.inr (.inr ⟨o, its, n, ho, hc, hd, by rw [sizeLine_eq]; omega, hv⟩)) (by have h1 := h.1; have e : its.toList.length = its.size := Array.length_toList; unfold Ur.top; omega) (hr H)⟩
      · cases h
    · cases h
  | .list _, u, h => by simp [rdK] at h
  | .dict _, u, h => by simp [rdK] at h
theorem rdKs_ok : ∀ (ds : List D) (us : List Value), rdKs K ds us = true → ∃ xs, Vals xs us ∧ ∀ H, RDs K H xs ds
  | [], us, h => by
    have e : us = [] := by simpa [rdKs] using h
    subst e
    exact ⟨[], .nil, fun H => .nil⟩
  | d :: ds, us, h => by
    cases us with
    | nil => simp [rdKs] at h
    | cons u us =>
      simp only [rdKs, Bool.and_eq_true] at h
      obtain ⟨v, h1, h2⟩ := rdK_ok d u h.1
      obtain ⟨xs, h3, h4⟩ := rdKs_ok ds us h.2
      exact ⟨v :: xs, .cons h1 h3, fun H => .cons (h2 H) (h4 H)⟩
end
theorem glo_of {h : Heap} {mg : Str → Option Value} {g : Glo} (X : K.In h) (G : h.Ns mainGlobals mg) (q : gloB K g = true) : GloK K mg g := by
  unfold gloB at q
  split at q
  · rename_i u e
    obtain ⟨v, h1, h2⟩ := rdK_ok g.val u q
    exact ⟨v, u, PySem.W.mg_of X G e, h1, h2⟩
  · cases q
end
section
variable {P : Prog} {cf : Cf} {W : WX} {XR : Hp → Value → Option Addr → D → Prop} {X : Cx}
theorem r_glob {g : Nat} {ge : Glo} {x : Str} {pos : Pos} (hg : P.glos[g]? = some ge) (hx : x = ge.name) (hgl : glob X.env.scope x = true) (hk : GloK X.K X.mg ge) : PE X (.Name x pos) (tE X.K XR P cf W (.glob g)) := by
  obtain ⟨g1, g2, g3⟩ := glob_ok hgl
  obtain ⟨v, u, h1, h2, h3⟩ := hk
  subst hx
  refine pe_to (pe_glob g1 h1 h2 g2) fun σ H Q ⟨st, l, s, h⟩ => ?_
  have h : Aft X.K XR W σ l (fun o st' => ∀ v H', Sl X.K H' σ st' (own X.K v o :: l) → Gh H' (Q v)) (match P.glos[g]? with
    | some x => rt (O.dat x.val) st
    | none => none) := h
  rw [hg] at h
  exact h _ H (s.dat (h3 H))
end
end Ur
end
section
set_option linter.all false
set_option autoImplicit false
set_option maxRecDepth 10000
/-! UrX7: a text is no error. -/
namespace Ur
open PySem L2
section
variable {prog : Program} {w : World} {A : Around} {E : Value → Shared → Prop} {s : Shared} {K : PySem.W.Frag} {x C : Addr} {oe : Obj} {od : Option Obj}
theorem exc_eq_body {y : Str} {t : Tok} {Q : PySem.Fin → Shared → Prop} (q : Q (.done (.ret .notImplemented)) s) : wpAny (model prog w) A (Builtin.«object.__eq__» ⟨[.ref x, .str y t], []⟩) Q E s := by
  unfold Builtin.«object.__eq__»
  have e : isSame (.ref x) (.str y t) = pure false := rfl
  repeat (first | rw [e] | wp_step)
  exact q
theorem exc_eq_call {y : Str} {t : Tok} {Q : Value → Shared → Prop} (X : K.In s.heap) (I : PySem.W.InstAt s.heap x oe C od) (hm : PySem.W.mroIn K C (.type "object") = some true) (q : Q .notImplemented s) :
    wpAny (model prog w) A (call (.builtin "object.__eq__") [.ref x, .str y t]) Q E s :=
  wpAny_call (codeAny_call_builtin PySem.F.slot_object_eq.plain PySem.F.cmpEntry_eq (PySem.W.check_slot (i := "object.__eq__") (owner := "object") (n := "__eq__") (by decide +kernel) (by decide +kernel) (I.type.andThen (PySem.W.looks_mroIn X hm)) (PySem.F.cmpArgs_eq _ _) (exc_eq_body q)))
theorem exc_try {y : Str} {t : Tok} {Q : Option Value → Shared → Prop} (X : K.In s.heap) (I : PySem.W.InstAt s.heap x oe C od) (he : PySem.W.findIn K (.ref C) "__eq__" = some (some (.builtin "object.__eq__"))) (hm : PySem.W.mroIn K C (.type "object") = some true) (q : Q none s) :
    wpAny (model prog w) A (tryCompare (.ref x) "__eq__" (.str y t)) Q E s := by
  simp only [tryCompare, callSpecialIfBound?, bindSpecialIfBound?]
  refine wpAny_bind (wpAny_holding (wpAny_bind (wpAny_bind (m := specialOf (.ref x) "__eq__") ?_)))
  refine (I.type.andThen (PySem.W.looks_findIn X he)).here ?_
  simp only [PySem.F.slot_object_eq.bind]
  have fin : wpAny (model prog w) A (call (.builtin "object.__eq__") ([.ref x] ++ [.str y t]) >>= fun v => pure (some v)) (fun a s' => wpAny (model prog w) A (match a with
      | some .notImplemented => pure none
      | none => pure none
      | some v => pure (some v)) Q E s') E s := wpAny_bind (exc_eq_call X I hm (wpAny_pure (wpAny_pure q)))
  refine wpAny_bind (wpAny_askSetting (wpAny_ite ?_))
  split
  · exact wpAny_bind (wpAny_pure (wpAny_pure fin))
  · exact wpAny_tryCatch (wpAny_bind (wpAny_pure (wpAny_pure fin)))
theorem str_decl (y : Str) (t : Tok) (x : Addr) (c : Value) (dd : Option Addr) (vs : Array Value) (sl : Array (Option Value)) :
    Meets (Builtin.«str.__eq__» ⟨[.str y t, .ref x], []⟩) (fun _ R s => s.heap.get? x = some { cls := c, dict := dd, data := .fields vs, slots := sl } ∧ R (.ok (.ret .notImplemented)) s) :=
  .of_wp fun prog w A R s h => by obtain ⟨hp, g, d, tk, os⟩ := s; obtain ⟨hl, h⟩ := h; wp_walk using AutoSeq1.wpAny_loadPart' hl, wpAny_load hl; exact ⟨_, rfl, h⟩
theorem exc_rc {y : Str} {t : Tok} {Q : Value → Shared → Prop} (X : K.In s.heap) (I : PySem.W.InstAt s.heap x oe C od) (hd : ∃ vs, oe.data = .fields vs) (he : PySem.W.findIn K (.ref C) "__eq__" = some (some (.builtin "object.__eq__"))) (hm : PySem.W.mroIn K C (.type "object") = some true)
    (hs : PySem.W.subIn K (.ref C) (.type "str") = some false) (hu : A.units < cLine) (q : Q (.bool false) s) : wpAny (model prog w) A (richCompare .Eq (.str y t) (.ref x)) Q E s := by
  have ha : s.TypeIs (.str y t) "str" := typeIs_str s y t
  obtain ⟨vs, hd⟩ := hd
  have hx : s.heap.get? x = some oe := I.1
  have h1 := PySem.F.slot_str_eq
  rcases hi : cmpInfo CmpOp.Eq with ⟨sym, f, r⟩
  have e1 : f = "__eq__" := by have := congrArg (fun z => z.2.1) hi; exact this.symm
  have e2 : r = "__eq__" := by have := congrArg (fun z => z.2.2) hi; exact this.symm
  rw [hi] at h1
  simp only [richCompare, hi, ha.oneThing_none]
  try with_reducible refine wpAny_holding ?_
  refine wpAny_bind (wpAny_cRoomFor_or (.inr hu) ?_)
  refine wpAny_bind (wpAny_typeOf ha (wpAny_bind (I.type.here ?_)))
  refine wp_if_pos (show (Value.type "str" != Value.ref C) = true by simp) ?_
  refine wpAny_bind ((PySem.W.looks_subIn X hs).here ?_)
  simp only [Bool.false_eq_true, if_false, Bool.not_false, if_true]
  refine wpAny_bind (m := tryCompare (.str y t) _ (.ref x)) (wpAny_tryCompare_declines ha h1 ?_)
  · obtain ⟨cls, dd, dt, sl⟩ := oe
    simp only at hd
    subst hd
    refine call_meets PySem.F.slot_str_eq ha PySem.F.entry_str_eq (PySem.F.args_str_eq_2 _ _) (str_decl y t x cls dd vs sl) ⟨hx, rfl, ?_⟩
    rw [e2]
    refine wpAny_bind (m := tryCompare (.ref x) _ (.str y t)) (exc_try X I he hm ?_)
    exact wpAny_bind (wpAny_rule (wpAny_bind (wpAny_of_eq (rfl : isSame (.str y t) (.ref x) = pure false) (wpAny_pure q))))
theorem exc_eqB {y : Str} {t : Tok} {Q : Bool → Shared → Prop} (X : K.In s.heap) (I : PySem.W.InstAt s.heap x oe C od) (hd : ∃ vs, oe.data = .fields vs) (he : PySem.W.findIn K (.ref C) "__eq__" = some (some (.builtin "object.__eq__"))) (hm : PySem.W.mroIn K C (.type "object") = some true)
    (hs : PySem.W.subIn K (.ref C) (.type "str") = some false) (hu : A.units < cLine) (q : Q false s) : wpAny (model prog w) A (eqBool (.str y t) (.ref x)) Q E s := by
  unfold eqBool
  refine wpAny_holding ?_
  refine wpAny_ite_split (fun hab => absurd (eq_of_beq hab) nofun) (fun _ => ?_)
  exact wpAny_bind (exc_rc X I hd he hm hs hu (wpAny_truthy_bool q))
end
section
variable {P : Prog} {cf : Cf} {W : WX} {XR : Hp → Value → Option Addr → D → Prop} {X : Cx} {n : Nat}
theorem XObj.data {s : Shared} {pins : List (Addr × Obj)} {σ : L2.St} {H : Hp} (I : Inv X pins σ H s) {a C : Addr} {d : Option Addr} (h : XObj H a C d) : ∃ o vs, s.heap.get? a = some o ∧ o.data = .fields vs := by
  obtain ⟨o, u, h, hu⟩ := h
  have hk := I.hok a _ h
  obtain ⟨e, hk⟩ := hk
  rcases hu with rfl | rfl
  · obtain ⟨⟨t1, e2⟩, _⟩ := (show ObjOk X.prog X.w H s.heap a (.ext fun h => ∃ t1 : Addr, h.get? a = some ({ cls := .ref C, dict := d, data := .fields #[.ref t1, .none, .none, .none, .bool false, .none] } : Obj)) from hk)
    exact ⟨_, _, e2, rfl⟩
  · obtain ⟨⟨oe, vs, e2, z, hd⟩, _⟩ := (show ObjOk X.prog X.w H s.heap a (.ext fun h => ∃ (oe : Obj) (vs : Array Value), h.get? a = some oe ∧ Zc (.ref C) d oe ∧ oe.data = .fields vs) from hk)
    exact ⟨_, vs, e2, hd⟩
theorem strs_at {K : PySem.W.Frag} {H : Hp} : ∀ {xs : List V} {us : List Value} {ds : List D}, Vals xs us → RDs K H xs ds → (ds.all fun d => match d with | .str _ => true | _ => false) = true → ∀ u ∈ us, ∃ y t, u = Value.str y t
  | _, _, _, .nil, .nil, _ => fun u h => by cases h
  | _, _, _, .cons r t, .cons h q, e => fun u hu => by
    rw [List.all_cons, Bool.and_eq_true] at e
    rcases List.mem_cons.mp hu with z | z
    · rw [z]
      cases h with
      | str y _ _ =>
        obtain ⟨t, e⟩ := r
        exact ⟨_, t, e⟩
      | _ => simp [excD] at e
    · exact strs_at t q e.2 u z
def rX (K : PySem.W.Frag) (ecs : List Ec) (neg : Bool) : R2 := fun x y H Q => ∃ dx dy b, RD K H x dx ∧ RD K H y dy ∧ inX ecs neg dx dy = some b ∧ Q (.bl b) H
def pyI (neg : Bool) : CmpOp := pyC (if neg then .notin else .in_)
theorem opX (hr : Room n X.A) (hX : XReads X.K X.mg P.ecs) {neg : Bool} : OpR X (compareOp (pyI neg)) (rX X.K P.ecs neg) := by
  intro pins s σ H x y v u Q I rx ry h
  obtain ⟨dx, dy, b, hx, hy, e, q⟩ := h
  have hu := units_of hr
  unfold inX at e
  split at e
  · rename_i c
    rw [Bool.and_eq_true] at c
    obtain ⟨c1, c2⟩ := c
    have eb : neg = b := Option.some.inj e
    subst eb
    cases hx with
    | exc ho hf =>
      rename_i a C d fs
      have hC : (baseOf P.ecs C).isSome = true := by
        have : exK P.ecs (excD C fs) = (baseOf P.ecs C).isSome := by
          unfold exK excD excOf
          simp
        rw [← this]; exact c1
      obtain ⟨b0, hb0⟩ := Option.isSome_iff_exists.mp hC
      obtain ⟨e0, he0, ea, _⟩ := baseOf_mem hb0
      obtain ⟨f1, f2, f3⟩ := hX.eq e0 he0
      rw [ea] at f1 f2 f3
      obtain ⟨oe, od, J, _⟩ := ho.inst I hf
      obtain ⟨o2, vs, g1, g2⟩ := ho.data I
      have g0 := J.1
      rw [g1] at g0
      cases g0
      cases rx
      cases hy with
      | tup ht hz hr2 =>
        rename_i tp xs ds
        cases ry
        obtain ⟨its, rv, hT, _⟩ := I.tuple ht.sq
        have st := strs_at rv hr2 c2
        have he : ∀ y, y ∈ its.toArray → SeqAt.EqAt X.A.in1 s y (.ref a) false := fun y hy => by
          obtain ⟨z, t, rfl⟩ := st y (by simpa using hy)
          exact fun prog w E Q q => exc_eqB I.kIn J ⟨vs, g2⟩ f1 f2 f3 (by show X.A.units + 1 < cLine; omega) q
        have an : (its.toArray.any fun _ => false) = false := by simp
        cases neg with
        | false => exact SeqAt.in_tupleAt (fun _ => false) hT he ⟨.bl false, H, I, by rw [an]; rfl, q⟩
        | true => exact SeqAt.notIn_tupleAt (fun _ => false) hT he ⟨.bl true, H, I, by rw [an]; rfl, q⟩
      | _ => simp [allStr, excD] at c2
    | dct _ _ r =>
      rename_i ds _
      exfalso
      unfold exK excOf at c1
      split at c1
      · rename_i h
        split at h
        · rename_i h2
          injection h2 with h2
          subst h2
          exact r.noExc
        · cases h
      · cases c1
    | _ => simp [exK, excOf] at c1
  · exact opC hr pins s σ H x y v u Q I rx ry ⟨dx, dy, b, hx, hy, e, q⟩
end
section
variable {P : Prog} {cf : Cf} {W : WX} {XR : Hp → Value → Option Addr → D → Prop} {X : Cx}
variable {H : Hp} {σ : L2.St} {st : Stt} {l : List Asn}
theorem r_inx (hr : ∃ n, Room n X.A) {neg : Bool} (hX : XReads X.K X.mg P.ecs) {a b : E} {a' b' : Expr} {pos : Pos} (ha : PE X a' (tE X.K XR P cf W a)) (hb : PE X b' (tE X.K XR P cf W b)) (hm : behindInMarks (pyI neg) b' = false) : PE X (.Compare a' [pyI neg] [b'] pos) (tE X.K XR P cf W (.inx neg a b)) := by
  obtain ⟨n, hr⟩ := hr
  refine pe_to (pe_cmpR (opX hr hX) ha hb hm) fun σ H Q ⟨st, l, s, h⟩ => ?_
  have h : Aft X.K XR W σ l _ (bd (ev P cf a st) fun x s => bd (ev P cf b s) fun y s => lfd ((inX P.ecs neg x.fz y.fz).map .bool) s) := h
  refine t1 s h fun x st1 vx H1 h1 s1 => .now ?_
  refine t1m s1 h1 fun y st2 vy H2 h2 s2 => s2.fz2.imp fun H3 ⟨k3, rx, ry, s3⟩ => ?_
  obtain ⟨d, ed, h3⟩ := aft_lfd h2
  obtain ⟨c, ec, rfl⟩ := Option.map_eq_some_iff.mp ed
  exact ⟨_, _, c, rx, ry, ec, h3 (.bl c) _ (s3.dat (.bl c))⟩
theorem r_inxT (hr : ∃ n, Room n X.A) {neg : Bool} (hX : XReads X.K X.mg P.ecs) {a b : E} {a' b' : Expr} {pos : Pos} (ha : PE X a' (tE X.K XR P cf W a)) (hb : PE X b' (tE X.K XR P cf W b)) (hm : behindInMarks (pyI neg) b' = false) : PT X (.Compare a' [pyI neg] [b'] pos) (tT X.K XR P cf W (.inx neg a b)) := by
  obtain ⟨n, hr⟩ := hr
  refine pt_to (pt_cmpR (opX hr hX) ha hb hm) fun σ H Q ⟨st, l, s, h⟩ => ?_
  have h : Aft X.K XR W σ l _ (tst (bd (ev P cf a st) fun x s => bd (ev P cf b s) fun y s => lfd ((inX P.ecs neg x.fz y.fz).map .bool) s)) := h
  have h' : Aft X.K XR W σ l (fun b st' => ∀ H', Sl X.K H' σ st' l → Gh H' (Q b)) (bd (ev P cf a st) fun x s => bd (ev P cf b s) fun y s => match inX P.ecs neg x.fz y.fz with
    | some c => some (.ok c, s)
    | none => none) := by
    refine cast ?_ h
    congr 1
    unfold tst bd
    cases ev P cf a st with
    | none => rfl
    | some p =>
      obtain ⟨r, s1⟩ := p
      cases r with
      | ex x => rfl
      | ok x =>
        dsimp only
        cases ev P cf b s1 with
        | none => rfl
        | some p2 =>
          obtain ⟨r2, s2⟩ := p2
          cases r2 with
          | ex x => rfl
          | ok y =>
            dsimp only
            cases inX P.ecs neg x.fz y.fz with
            | none => rfl
            | some c => rfl
  refine t1 s h' fun x st1 vx H1 h1 s1 => .now ?_
  refine t1m s1 h1 fun y st2 vy H2 h2 s2 => s2.fz2.bind fun H3 ⟨k3, rx, ry, s3⟩ => .now ?_
  split at h2
  · rename_i c ec
    exact ⟨_, _, c, rx, ry, ec, c, rfl, h2 _ s3⟩
  · exact h2.elim
end
end Ur
end
section
set_option linter.all false
set_option autoImplicit false
set_option maxHeartbeats 1000000
/-! UrG1: statements. -/
namespace Ur
open PySem L2
/-- the slots that keep their names' values -/
def Fix (fx : List Nat) (σ τ : L2.St) : Prop := τ.length = σ.length ∧ ∀ j ∈ fx, τ[j]? = σ[j]?
theorem Fix.refl {fx : List Nat} {σ : L2.St} : Fix fx σ σ := ⟨rfl, fun _ _ => rfl⟩
theorem Fix.trans {fx : List Nat} {σ τ ρ : L2.St} (a : Fix fx σ τ) (b : Fix fx τ ρ) : Fix fx σ ρ := ⟨b.1.trans a.1, fun j h => (b.2 j h).trans (a.2 j h)⟩
theorem Fix.symm {fx : List Nat} {σ τ : L2.St} (a : Fix fx σ τ) : Fix fx τ σ := ⟨a.1.symm, fun j h => (a.2 j h).symm⟩
theorem Fix.set {fx : List Nat} {σ : L2.St} {i : Nat} {x : Option V} (h : i ∉ fx) : Fix fx σ (σ.set i x) := ⟨by simp, fun j hj => by
  rw [List.getElem?_set_ne]
  rintro rfl
  exact h hj⟩
section
variable (K : PySem.W.Frag) (XR : Hp → Value → Option Addr → D → Prop)
/-- behind a statement -/
def AftS (W : WX) (fx : List Nat) (σ : L2.St) (l : List Asn) (D : Ends) : Mf → Prop
  | some (.nx, st) => ∀ τ H, Fix fx σ τ → Sl K H τ st l → Gh H (D.nx τ)
  | some (.bk, st) => ∀ τ H, Fix fx σ τ → Sl K H τ st l → Gh H (D.bk τ)
  | some (.ct, st) => ∀ τ H, Fix fx σ τ → Sl K H τ st l → Gh H (D.ct τ)
  | some (.rt o, st) => ∀ τ H v, Fix fx σ τ → Sl K H τ st (own K v o :: l) → Gh H (D.rt v)
  | some (.ex x, st) => ∀ τ H cls d, Fix fx σ τ → XR H cls d x → Sl K H τ st l → Gh H (W cls d τ)
  | none => False
variable (P : Prog) (cf : Cf)
def tS (W : WX) (fx : List Nat) (s : S) : TS := fun D σ H => ∃ st l, Sl K H σ st l ∧ AftS K XR W fx σ l D (exS P cf s st)
def tSs (W : WX) (fx : List Nat) (s : Ss) : TS := fun D σ H => ∃ st l, Sl K H σ st l ∧ AftS K XR W fx σ l D (exs P cf s st)
end
section
variable {X : Cx} {P : Prog} {cf : Cf} {W : WX} {XR : Hp → Value → Option Addr → D → Prop} {fx : List Nat}
variable {H : Hp} {σ : L2.St} {st : Stt} {l : List Asn} {D : Ends}
def ghD (D : Ends) : Ends := ⟨fun σ H => Gh H (D.nx σ), fun v H => Gh H (D.rt v), fun σ H => Gh H (D.bk σ), fun σ H => Gh H (D.ct σ)⟩
theorem sp_gh {pins : List (Addr × Obj)} {f : Flow} {s' : Shared} (h : SP X pins (ghD D) f s') : SP X pins D f s' := by
  cases f with
  | next => obtain ⟨σ', H', I, g⟩ := h; obtain ⟨H2, I2, q⟩ := g.run I; exact ⟨σ', H2, I2, q⟩
  | brk => obtain ⟨σ', H', I, g⟩ := h; obtain ⟨H2, I2, q⟩ := g.run I; exact ⟨σ', H2, I2, q⟩
  | cont => obtain ⟨σ', H', I, g⟩ := h; obtain ⟨H2, I2, q⟩ := g.run I; exact ⟨σ', H2, I2, q⟩
  | ret u => obtain ⟨v, σ', H', I, r, g⟩ := h; obtain ⟨H2, I2, q⟩ := g.run I; exact ⟨v, σ', H2, I2, r, q⟩
theorem ps_to {s : Stmt} {t t' : TS} (h : PS X s t) (w : ∀ D σ H, t' D σ H → t (ghD D) σ H) : PS X s t' := ⟨fun pins s σ H D I hw => thn (h.run pins s σ H (ghD D) I (w D σ H hw)) fun f s' q => sp_gh q⟩
theorem pss_to {s : List Stmt} {t t' : TS} (h : PSs X s t) (w : ∀ D σ H, t' D σ H → t (ghD D) σ H) : PSs X s t' := ⟨fun pins s σ H D I hw => thn (h.run pins s σ H (ghD D) I (w D σ H hw)) fun f s' q => sp_gh q⟩
/-- an expression ahead -/
theorem aftS_bf {α : Type} {m : Mo α} {f : α → Stt → Mf} {k : α → Stt → Prop} (h : AftS X.K XR W fx σ l D (bf m f)) (w : ∀ o st, AftS X.K XR W fx σ l D (f o st) → k o st) : Aft X.K XR W σ l k m := by
  cases m with
  | none => exact h
  | some p =>
    obtain ⟨r, s⟩ := p
    cases r with
    | ok a => exact w a s h
    | ex x => exact fun cls d H xr s' => h σ H cls d .refl xr s'
theorem aftS_fix {τ : L2.St} {m : Mf} (f : Fix fx σ τ) (h : AftS X.K XR W fx σ l D m) : AftS X.K XR W fx τ l D m := by
  unfold AftS at h ⊢
  split
  · exact fun ρ H g => h ρ H (f.trans g)
  · exact fun ρ H g => h ρ H (f.trans g)
  · exact fun ρ H g => h ρ H (f.trans g)
  · exact fun ρ H v g => h ρ H v (f.trans g)
  · exact fun ρ H cls d g => h ρ H cls d (f.trans g)
  · exact h
theorem aftS_to {D' : Ends} {m : Mf} (h : AftS X.K XR W fx σ l D m) (hn : ∀ τ H, D.nx τ H → D'.nx τ H) (hb : ∀ τ H, D.bk τ H → D'.bk τ H) (hc : ∀ τ H, D.ct τ H → D'.ct τ H) (hr : ∀ v H, D.rt v H → D'.rt v H) : AftS X.K XR W fx σ l D' m := by
  match m, h with
  | none, h => exact h
  | some (.nx, _), h => exact fun τ H f s => (h τ H f s).imp fun H' => hn τ H'
  | some (.bk, _), h => exact fun τ H f s => (h τ H f s).imp fun H' => hb τ H'
  | some (.ct, _), h => exact fun τ H f s => (h τ H f s).imp fun H' => hc τ H'
  | some (.rt _, _), h => exact fun τ H v f s => (h τ H v f s).imp fun H' => hr v H'
  | some (.ex _, _), h => exact h
theorem aftS_gh {m : Mf} (h : AftS X.K XR W fx σ l D m) : AftS X.K XR W fx σ l (ghD D) m := aftS_to h (fun _ _ h => .now h) (fun _ _ h => .now h) (fun _ _ h => .now h) fun _ _ h => .now h
theorem Sl.put0 {i : Nat} {v : V} {o : O} (s : Sl X.K H σ st (own X.K v o :: l)) : Sl X.K H (σ.set i (some v)) (Ur.put st i o) l := by
  by_cases hi : i < σ.length
  · exact s.put hi
  · have := s.ok.len
    unfold Ur.put
    rw [set_out hi, set_out (by omega)]
    exact s.tail
/-! ### blocks -/
theorem rs_nil : PSs X [] (tSs X.K XR P cf W fx .nil) := pss_to pss_nil fun D σ H ⟨st, l, s, h⟩ => h σ H .refl s
theorem rs_cons {a : S} {r : Ss} {a' : Stmt} {r' : List Stmt} (ha : PS X a' (tS X.K XR P cf W fx a)) (hr : PSs X r' (tSs X.K XR P cf W fx r)) : PSs X (a' :: r') (tSs X.K XR P cf W fx (.cons a r)) :=
  pss_to (pss_cons ha hr) fun D σ H ⟨st, l, s, h⟩ => by
    have h : AftS X.K XR W fx σ l D (sq (exS P cf a st) fun s => exs P cf r s) := h
    refine ⟨st, l, s, ?_⟩
    generalize exS P cf a st = m at h
    match m, h with
    | none, h => exact h
    | some (.nx, st1), h => exact fun τ H1 f s1 => .now ⟨st1, l, s1, aftS_gh (aftS_fix f (show AftS X.K XR W fx σ l D (exs P cf r st1) from h))⟩
    | some (.bk, _), h => exact fun τ H f s' => .now (h τ H f s')
    | some (.ct, _), h => exact fun τ H f s' => .now (h τ H f s')
    | some (.rt _, _), h => exact fun τ H v f s' => .now (h τ H v f s')
    | some (.ex _, _), h => exact h
/-! ### simple ones -/
theorem rs_pass {pos : Pos} : PS X (.Pass pos) (tS X.K XR P cf W fx .pass) := ps_to ps_pass fun D σ H ⟨st, l, s, h⟩ => h σ H .refl s
theorem rs_brk {pos : Pos} : PS X (.Break pos) (tS X.K XR P cf W fx .brk) := ps_to ps_break fun D σ H ⟨st, l, s, h⟩ => h σ H .refl s
theorem rs_cnt {pos : Pos} : PS X (.Continue pos) (tS X.K XR P cf W fx .cnt) := ps_to ps_continue fun D σ H ⟨st, l, s, h⟩ => h σ H .refl s
theorem rs_exp {e : E} {e' : Expr} {pos : Pos} (he : PE X e' (tE X.K XR P cf W e)) (hs : swapsWith e' none pos.line X.env = pure false) : PS X (.Expr e' pos) (tS X.K XR P cf W fx (.exp e)) :=
  ps_to (ps_expr he hs) fun D σ H ⟨st, l, s, h⟩ => ⟨st, l, s, aftS_bf h fun o st1 h1 v H1 s1 => .now (h1 σ H1 .refl s1.tail)⟩
theorem rs_ret {e : E} {e' : Expr} {pos : Pos} (he : PE X e' (tE X.K XR P cf W e)) : PS X (.Return (some e') pos) (tS X.K XR P cf W fx (.ret e)) :=
  ps_to (ps_ret he) fun D σ H ⟨st, l, s, h⟩ => ⟨st, l, s, aftS_bf h fun o st1 h1 v H1 s1 => .now (h1 σ H1 v .refl s1)⟩
theorem rs_retN {pos : Pos} : PS X (.Return none pos) (tS X.K XR P cf W fx .retN) := ps_to ps_retN fun D σ H ⟨st, l, s, h⟩ => h σ H .non .refl (s.dat .non)
theorem rs_retv {i : Nat} {x : Str} {p pos : Pos} (hN : X.N[i]? = some x) (hv : Vis X.env.scope x) (hd : (x == ("__debug__" : Str)) = false) (hcd : (x == ("__classdict__" : Str)) = false) : PS X (.Return (some (.Name x p)) pos) (tS X.K XR P cf W fx (.retv i)) :=
  ps_to (ps_ret (pe_var hN hv hd hcd)) fun D σ H ⟨st, l, s, h⟩ => by
    have h : AftS X.K XR W fx σ l D (match get st i with
      | some o => some (.rt o, st.set i none)
      | none => none) := h
    split at h
    · rename_i o ho
      obtain ⟨v, hv, s1⟩ := s.take ho
      exact ⟨v, hv, h σ H v .refl s1⟩
    · exact h.elim
theorem rs_if {c : E} {a b : Ss} {c' : Expr} {a' b' : List Stmt} {pos : Pos} (hc : PT X c' (tT X.K XR P cf W c)) (ha : PSs X a' (tSs X.K XR P cf W fx a)) (hb : PSs X b' (tSs X.K XR P cf W fx b)) : PS X (.If c' a' b' pos) (tS X.K XR P cf W fx (.ife c a b)) :=
  ps_to (ps_if hc ha hb) fun D σ H ⟨st, l, s, h⟩ => by
    refine ⟨st, l, s, aftS_bf h fun t st1 h1 H1 s1 => .now ?_⟩
    cases t with
    | true => exact ⟨st1, l, s1, aftS_gh h1⟩
    | false => exact ⟨st1, l, s1, aftS_gh h1⟩

/-! ### assignments -/
theorem frz_own {o : O} {v : V} {b : Nat} (s : Sl X.K H σ st (own X.K v o :: l)) : Gh H fun H' => Sl X.K H' σ st (own X.K v (o.frz b) :: l) := by
  match b with
  | 0 => exact .now s
  | 1 => exact s.fz.imp fun H' ⟨k, r, s'⟩ => s'.dat r
  | n + 2 =>
    cases o with
    | dat d => exact .now s
    | lst os =>
      obtain ⟨a, xs, rfl, hl, z, s1⟩ := s.top.openL
      refine (fzs_gh os hl (s1.perm List.perm_middle.symm)).imp fun H' ⟨k, r, s2⟩ => .of_top s.ok ?_
      have : Sa H' (pt a (.lst xs) :: (owns X.K xs ((fzs os).map .dat) ++ (slots X.K σ st ++ l))) := by
        refine (owns_dat r s2).perm ?_
        exact List.perm_middle
      exact this.closeL z (by rw [List.length_map, fzs_length, hl])
    | dK kvs =>
      obtain ⟨a, xs, rfl, hl, g, s1⟩ := s.top.openK
      refine (fzK_gh kvs hl (s1.perm List.perm_middle.symm)).imp fun H' ⟨k, r, s2⟩ => .of_top s.ok ?_
      have e : (kvs.map fun p => (p.1, O.dat p.2.fz)).map (·.1) = kvs.map (·.1) := by rw [List.map_map]; rfl
      exact Sa.closeK ((ownk_dat r s2).perm List.perm_middle) (hl.trans e.symm) g
    | dT kvs =>
      obtain ⟨q, hq⟩ := s.top.head
      cases hq
theorem rs_set {i b : Nat} {x : Str} {e : E} {e' : Expr} {pos pos' : Pos} (hN : X.N.Nodup) (hi : X.N[i]? = some x) (hx : Loc X.env.scope x) (hf : X.fn x = true ∨ X.env.scope.names.lookup x = some .local) (hfx : i ∉ fx) (he : PE X e' (tE X.K XR P cf W e)) (hs : swapsWith e' (some (.Name x pos')) pos.line X.env = pure false) :
    PS X (.Assign [.Name x pos'] e' pos) (tS X.K XR P cf W fx (.set i b e)) := by
  refine ps_to (ps_set hN hi hx (pe_gh he) hs hf) fun D σ H ⟨st, l, s, h⟩ => ?_
  have h : AftS X.K XR W fx σ l D (bf (ev P cf e st) fun o s => some (.nx, Ur.put s i (o.frz b))) := h
  refine ⟨st, l, s, aftS_bf h fun o st1 h1 v H1 s1 => .now ((frz_own (b := b) s1).imp fun H2 s2 => ?_)⟩
  exact h1 (σ.set i (some v)) H2 (Fix.set hfx) s2.put0
/-- the value is a comprehension that takes the name's place -/
theorem rs_setLc {i b : Nat} {y : Str} {py : Pos} {ow : List (Str × Nat)} {vs : List Nat} {tg : Tg} {it : It} {ifs : Es} {e : E} {tg' iter' elt : Expr} {ifs' : List Expr} {scope : Scope} {pos spos : Pos} (hc : X.calm = true) (hN : X.N.Nodup)
    (hy : X.N[i]? = some y) (hyl : X.env.scope.names.lookup y = some .local) (hfx : i ∉ fx) (hsw : swapsWith (.ListComp elt [⟨tg', iter', ifs', 0⟩] scope pos) (some (.Name y py)) spos.line X.env = pure true)
    (hi : PI X tg' iter' (tI (X := X) P cf W XR it)) (ok : BlkOk X.N X.env.scope scope ow) (hv : ow.map (·.2) = vs) (hsl : ∀ i ∈ tg.slots, i ∈ vs)
    (hg : ∀ (s : Shared) (H : Hp) (C : Addr) (cl : List (Str × Addr)) (fp : List Addr), PG (X.blk s H scope (compEnvC scope cl C X.env) fp) tg' (gT X.K tg))
    (ht : ∀ (s : Shared) (H : Hp) (C : Addr) (cl : List (Str × Addr)) (fp : List Addr), PTs (X.blk s H scope (compEnvC scope cl C X.env) fp) ifs' (tC P cf XR X.K ifs))
    (he : ∀ (s : Shared) (H : Hp) (C : Addr) (cl : List (Str × Addr)) (fp : List Addr), PE (X.blk s H scope (compEnvC scope cl C X.env) fp) elt (tE X.K XR P cf W0 e)) (hs : ∀ x, foldedSetIterable iter' X.env x = pure x) :
    PS X (.Assign [.Name y py] (.ListComp elt [⟨tg', iter', ifs', 0⟩] scope pos) spos) (tS X.K XR P cf W fx (.set i b (.comp .lst vs tg it ifs (.last e)))) := by
  have main := ps_setLc (pos := pos) hc hN hy hyl hsw hi ok hg ht he hs
  refine ⟨fun pins s0 σ H D I q => thn (main.run pins s0 σ H (ghD D) I ?_) fun f s' q => sp_gh q⟩
  obtain ⟨st, l, s, h⟩ := q
  have h : AftS X.K XR W fx σ l D (bf (ev P cf (.comp .lst vs tg it ifs (.last e)) st) fun o s => some (.nx, Ur.put s i (o.frz b))) := h
  have q : tE X.K XR P cf W (.comp .lst vs tg it ifs (.last e)) σ H fun v H' => Gh H' (D.nx (σ.set i (some v))) :=
    ⟨st, l, s, aftS_bf h fun o st1 h1 v H1 s1 => .now ((frz_own (b := b) s1).bind fun H2 s2 => h1 (σ.set i (some v)) H2 (Fix.set hfx) s2.put0)⟩
  exact lc_read (fun v H' g => g.bind fun _ z => z) I.len ok hv hsl q
end
end Ur
end
section
set_option linter.all false
set_option autoImplicit false
set_option maxHeartbeats 1000000
/-! UrG2: loops, stores. -/
namespace Ur
open PySem L2
section
variable {X : Cx} {P : Prog} {cf : Cf} {W : WX} {XR : Hp → Value → Option Addr → D → Prop} {fx : List Nat}
variable {H : Hp} {σ : L2.St} {st : Stt} {l : List Asn} {D : Ends}
/-- the ends within a loop's body -/
theorem turn_ends {N : L2.St → Hp → Prop} {m : Mf} {again : Stt → Mf} (h : AftS X.K XR W fx σ l D (turn m again))
    (hn : ∀ st τ H, AftS X.K XR W fx σ l D (again st) → Fix fx σ τ → Sl X.K H τ st l → N τ H) : AftS X.K XR W fx σ l { D with nx := N, ct := N, bk := D.nx } m := by
  match m, h with
  | none, h => exact h
  | some (.nx, st), h => exact fun τ H f s => .now (hn st τ H h f s)
  | some (.ct, st), h => exact fun τ H f s => .now (hn st τ H h f s)
  | some (.bk, st), h => exact fun τ H f s => h τ H f s
  | some (.rt o, st), h => exact fun τ H v f s => h τ H v f s
  | some (.ex x, st), h => exact h
theorem rs_for {tg : Tg} {it : It} {b : Ss} {tg' iter' : Expr} {b' : List Stmt} {pos : Pos} (hp : PassesOwn (model X.prog X.w) X.A X.env X.xe) (hc : X.calm = true) (hi : PI X tg' iter' (tI (X := X) P cf W XR it)) (hg : PG X tg' (gT X.K tg)) (hfx : ∀ i ∈ tg.slots, i ∉ fx) (hsl : ∀ i ∈ tg.slots, i < X.N.length)
    (hb : PSs X b' (tSs X.K XR P cf W fx b)) (hs : ∀ x, foldedSetIterable iter' X.env x = pure x) : PS X (.For tg' iter' b' [] pos) (tS X.K XR P cf W fx (.for_ tg it b)) := by
  have main := ps_for (pos := pos) hp hc hi hg hb hs
  refine ⟨fun pins s0 σ H D I q => thn (main.run pins s0 σ H (ghD D) I ?_) fun f s' q => sp_gh q⟩
  obtain ⟨st, l, s, h⟩ := q
  have hlN := I.len
  have h : AftS X.K XR W fx σ l D (bf (evi P cf it st) fun ds s => forF tg (fun s => exs P cf b s) ds s) := h
  refine ⟨st, l, s, aftS_bf h fun ds st1 h1 J H1 w s1 => .now ?_⟩
  let Inv : Nat → L2.St → Hp → Prop := fun i τ H => i ≤ ds.length ∧ Fix fx σ τ ∧ ∃ sti, AftS X.K XR W fx σ (fzn H1 :: l) D (forF tg (fun s => exs P cf b s) (ds.drop i) sti) ∧ Sl X.K H τ sti (fzn H1 :: l)
  have h1' : AftS X.K XR W fx σ (fzn H1 :: l) D (forF tg (fun s => exs P cf b s) ds st1) := by
    generalize forF tg (fun s => exs P cf b s) ds st1 = m at h1
    match m, h1 with
    | none, h => exact h
    | some (.nx, _), h => exact fun τ H f s => h τ H f s.tail
    | some (.bk, _), h => exact fun τ H f s => h τ H f s.tail
    | some (.ct, _), h => exact fun τ H f s => h τ H f s.tail
    | some (.rt _, _), h => exact fun τ H v f s => h τ H v f s.swap.tail
    | some (.ex _, _), h => exact fun τ H cls d f x s => h τ H cls d f x s.tail
  refine ⟨fun i m τ H => m = ds.length - i ∧ Inv i τ H, ⟨ds.length, by simp, Nat.zero_le _, .refl, st1, h1', s1.keep .refl⟩, ?_⟩
  rintro i m τ H ⟨rfl, hile, hf, sti, ha, sl⟩
  have kp : Kept H1 H := by
    obtain ⟨q, hq⟩ := sl.top.head
    exact hq.1
  by_cases hlt : i < ds.length
  · refine .inr ⟨w.go i H hlt kp, Inv (i + 1), fun τ' H' n => ⟨ds.length - (i + 1), by omega, rfl, n⟩, fun x H' y => ?_⟩
    have ed : ds[i]? = some ds[i] := List.getElem?_eq_getElem hlt
    rw [drop_get ed] at ha
    have ha : AftS X.K XR W fx σ (fzn H1 :: l) D (match asg tg ds[i] sti with
      | some s => turn (exs P cf b s) (forF tg (fun s => exs P cf b s) (ds.drop (i + 1)))
      | none => none) := ha
    obtain ⟨sl, kp, rx⟩ := sl.walk w ed kp y
    split at ha
    · rename_i t1 ea
      refine asg_ok ea rx sl (fun i hi => by rw [hf.1, hlN]; exact hsl i hi) fun ρ hρ hρ2 sl => ?_
      have hfρ : Fix fx σ ρ := hf.trans ⟨hρ, fun j hj => hρ2 j fun z => hfx j z hj⟩
      refine ⟨t1, _, sl, ?_⟩
      have q := aftS_fix hfρ (turn_ends (N := Inv (i + 1)) ha fun st2 τ2 H2 h2 f2 s2 => ⟨hlt, f2, st2, h2, s2⟩)
      exact aftS_to q (fun _ _ h => h) (fun _ _ h => .now h) (fun _ _ h => h) (fun _ _ h => .now h)
    · exact ha.elim
  · have hi : i = ds.length := by omega
    subst hi
    rw [List.drop_length] at ha
    exact .inl ⟨w.stop H kp, ha τ H hf sl⟩
theorem rs_while {c : E} {b : Ss} {c' : Expr} {b' : List Stmt} {pos : Pos} (hp : PassesOwn (model X.prog X.w) X.A X.env X.xe) (hc : PT X c' (tT X.K XR P cf W c)) (hb : PSs X b' (tSs X.K XR P cf W fx b)) : PS X (.While c' b' [] pos) (tS X.K XR P cf W fx (.whl c b)) :=
  ps_to (ps_while hp hc hb) fun D σ H ⟨st, l, s, h⟩ => by
    let Inv : Nat → L2.St → Hp → Prop := fun n τ H => Fix fx σ τ ∧ ∃ sti, AftS X.K XR W fx σ l D (whileF (fun s => tst (ev P cf c s)) (fun s => exs P cf b s) n sti) ∧ Sl X.K H τ sti l
    refine ⟨Inv, ⟨many, .refl, st, h, s⟩, ?_⟩
    rintro n τ H ⟨f, sti, ha, sl⟩
    cases n with
    | zero => exact ha.elim
    | succ n =>
      have ha : AftS X.K XR W fx σ l D (bf (tst (ev P cf c sti)) fun t s => if t then turn (exs P cf b s) (whileF (fun s => tst (ev P cf c s)) (fun s => exs P cf b s) n) else some (.nx, s)) := ha
      refine ⟨sti, l, sl, aftS_bf (aftS_fix f ha) fun t st1 h1 H1 s1 => .now ?_⟩
      cases t with
      | false => exact h1 τ H1 .refl s1
      | true =>
        rw [if_pos rfl]
        refine ⟨Inv n, fun τ' H' q => ⟨n, Nat.lt_succ_self n, q⟩, st1, l, s1, ?_⟩
        have h1 : AftS X.K XR W fx τ l D (turn (exs P cf b st1) (whileF (fun s => tst (ev P cf c s)) (fun s => exs P cf b s) n)) := h1
        have q := turn_ends (N := Inv n) h1 fun st2 τ2 H2 h2 f2 s2 => ⟨f.trans f2, st2, aftS_fix f.symm h2, s2⟩
        exact aftS_to q (fun _ _ h => h) (fun _ _ h => .now h) (fun _ _ h => h) (fun _ _ h => .now h)

/-! ### stores -/
theorem setL_ok {u y : V} {os : List O} {w : O} {k : Int} {j : Nat} {Q : Hp → Prop} (s : Sa H (own X.K u (.lst os) :: own X.K y w :: l)) (hj : ixN os.length k = some j) (q : ∀ H', Sa H' (own X.K u (.lst (os.set j w)) :: l) → Q H') : rSetL u (.int k) y H Q := by
  obtain ⟨a, xs, rfl, hl, z, s1⟩ := s.openL
  have hjn : L2.ixN xs.length k = some j := by rw [← ixN_eq, hl]; exact hj
  have hjl : j < xs.length := (ixN_seq hjn).2.1
  refine ⟨a, xs, k, j, rfl, rfl, s1.pt_get, hjn, q _ ?_⟩
  have hx : xs[j]? = some xs[j] := List.getElem?_eq_getElem hjl
  have ho : os[j]? = some (os[j]'(by omega)) := List.getElem?_eq_getElem _
  have s2 := s1.write (o' := .lst (xs.set j y)) fun z => z
  refine Sa.closeL (xs := xs.set j y) ?_ (by simpa using z) (by simpa using hl)
  have p1 := owns_at (K := X.K) hl hx ho
  have p2 := owns_at (K := X.K) (xs := xs.set j y) (os := os.set j w) (j := j) (x := y) (c := w) (by simpa using hl) (by simp [hjl]) (by rw [List.getElem?_set_self]; omega)
  rw [erase_set, erase_set] at p2
  have s3 : Sa (upd H a (.lst (xs.set j y))) (own X.K xs[j] (os[j]'(by omega)) :: (pt a (.lst (xs.set j y)) :: (owns X.K (xs.eraseIdx j) (os.eraseIdx j) ++ own X.K y w :: l))) := s2.perm (by
    refine List.Perm.trans (.cons _ (p1.append_right _)) ?_
    exact List.Perm.swap _ _ _)
  refine s3.tail.perm (.cons _ ?_)
  refine List.perm_middle.trans ?_
  exact (p2.append_right l).symm
theorem noSwap {e o k : Expr} {p : Pos} {n : Nat} {env : Env} : swapsWithSole [.Subscript o k p] e n env = pure false := by
  show swapsWith e (some (.Subscript o k p)) n env = pure false
  unfold swapsWith
  cases e <;> rfl
theorem PSet.or {r r' : TSet} (h : PSet X r) (h' : PSet X r') : PSet X (fun o i v H Q => r o i v H Q ∨ r' o i v H Q) := by
  intro pins s σ H o i v ov iv u Q I ro ri rv q
  rcases q with q | q
  · exact h pins s σ H o i v ov iv u Q I ro ri rv q
  · exact h' pins s σ H o i v ov iv u Q I ro ri rv q
theorem rs_sto (hr : ∃ n, Room n X.A) {i : Nat} {x : Str} {fz : Bool} {k e : E} {k' e' : Expr} {p p2 pos : Pos} (hN : X.N[i]? = some x) (hv : Vis X.env.scope x) (hd : (x == ("__debug__" : Str)) = false) (hcd : (x == ("__classdict__" : Str)) = false)
    (hp : plainIx k' = true) (hk : PE X k' (tE X.K XR P cf W k)) (he : PE X e' (tE X.K XR P cf W e)) : PS X (.Assign [.Subscript (.Name x p) k' p2] e' pos) (tS X.K XR P cf W fx (.sto i .nil fz k e)) := by
  obtain ⟨n, hr⟩ := hr
  refine ps_to (ps_asg he (pg_sub (pe_var hN hv hd hcd) hk (PSet.or set_list (set_dict (by have := hr.units; omega))) (fun v => by cases k' <;> first | rfl | cases hp)) noSwap rfl rfl) fun D σ H ⟨st, l, s, h⟩ => ?_
  have h : AftS X.K XR W fx σ l D (bf (ev P cf e st) fun v s => if (get s i).isSome then bf (ev P cf k s) fun q s => (match get s i with
      | some o => (match (putO o q.fz (if fz then .dat v.fz else v)).map fun o' => (O.dat .none, o') with
        | some (_, o') => some (.nx, Ur.put s i o')
        | none => none)
      | none => none)
    else none) := h
  refine ⟨st, l, s, aftS_bf h fun w st1 h1 y H1 s1 => .now ?_⟩
  split at h1
  · rename_i hi
    obtain ⟨o0, ho0⟩ := Option.isSome_iff_exists.mp hi
    obtain ⟨u, hu, _⟩ := s1.take ho0
    refine ⟨u, hu, ?_⟩
    refine ⟨st1, _, s1, aft_more X.K XR (fun H st q => q.tail) (aftS_bf h1 fun q st2 h2 z H2 s2 => ?_)⟩
    refine s2.fz.bind fun H3 ⟨k3, r3, s3⟩ => ?_
    have s3' : Gh H3 fun H4 => Sl X.K H4 σ st2 (own X.K y (if fz then .dat w.fz else w) :: l) ∧ Kept H3 H4 := by
      cases fz with
      | false => exact .now ⟨s3, .refl⟩
      | true => exact s3.fz.imp fun H4 ⟨k4, r4, s4⟩ => ⟨s4.dat r4, k4⟩
    refine s3'.imp fun H4 ⟨s4, k4⟩ => ?_
    generalize (if fz then O.dat w.fz else w) = w' at h2 s4
    split at h2
    · rename_i o ho
      obtain ⟨u', hu', s5⟩ := s4.take ho
      rw [hu] at hu'
      cases hu'
      have r3 := r3.kept k4
      generalize q.fz = qd at h2 r3
      cases o with
      | lst os =>
        cases r3 with
        | int j =>
          have h2 : AftS X.K XR W fx σ l D (match (match ixN os.length j with
              | some m => some (O.lst (os.set m w'))
              | none => none).map fun o' => (O.dat .none, o') with
            | some (_, o') => some (.nx, Ur.put st2 i o')
            | none => none) := h2
          cases hj : ixN os.length j with
          | none => rw [hj] at h2; exact h2.elim
          | some m =>
            rw [hj] at h2
            have h2 : ∀ τ H, Fix fx σ τ → Sl X.K H τ (Ur.put st2 i (.lst (os.set m w'))) l → Gh H (D.nx τ) := h2
            have s6 : Sa H4 (own X.K u (.lst os) :: own X.K y w' :: (slots X.K σ (st2.set i none) ++ l)) := s5.top.perm (.cons _ List.perm_middle)
            refine .inl (setL_ok s6 hj fun H5 s7 => h2 σ H5 .refl ?_)
            have s8 : Sl X.K H5 σ (st2.set i none) (own X.K u (.lst (os.set m w')) :: l) := .of_top s5.ok s7
            exact s8.back hu
        | _ => exact h2.elim
      | dat d => exact h2.elim
      | dK kvs =>
        have h2 : AftS X.K XR W fx σ l D (match (putO (.dK kvs) qd w').map fun o' => (O.dat .none, o') with
            | some (_, o') => some (.nx, Ur.put st2 i o')
            | none => none) := h2
        unfold putO at h2
        cases hq : dKey qd with
        | none =>
          rw [hq] at h2
          exact h2.elim
        | some q =>
          rw [hq] at h2
          dsimp only at h2
          by_cases hz : kvs.length < Ur.top
          · rw [if_pos hz] at h2
            have h2 : ∀ τ H, Fix fx σ τ → Sl X.K H τ (Ur.put st2 i (.dK (Ur.putK q w' kvs))) l → Gh H (D.nx τ) := h2
            have s6 : Sa H4 (own X.K u (.dK kvs) :: own X.K y w' :: (slots X.K σ (st2.set i none) ++ l)) := s5.top.perm (.cons _ List.perm_middle)
            refine .inr (setK_ok s6 r3 hq hz fun H5 s7 => h2 σ H5 .refl ?_)
            have s8 : Sl X.K H5 σ (st2.set i none) (own X.K u (.dK (Ur.putK q w' kvs)) :: l) := .of_top s5.ok s7
            exact s8.back hu
          · rw [if_neg hz] at h2
            exact h2.elim
      | dT kvs =>
        obtain ⟨_, hq⟩ := s5.top.head
        cases hq
    · exact h2.elim
  · exact h1.elim
end
end Ur
end
section
set_option linter.all false
set_option autoImplicit false
set_option maxHeartbeats 1000000
/-! UrG3: several names at once. -/
namespace Ur
open PySem L2
section
variable {X : Cx} {P : Prog} {cf : Cf} {W : WX} {XR : Hp → Value → Option Addr → D → Prop} {fx : List Nat}
variable {H : Hp} {σ : L2.St} {st : Stt} {l : List Asn} {D : Ends}
def frzs : List Nat → List O → List O
  | b :: bs, o :: os => o.frz b :: frzs bs os
  | _, _ => []
theorem frzs_own : ∀ {bs : List Nat} {os : List O} {vs : List V} {l : List Asn} {H : Hp}, bs.length = os.length → vs.length = os.length → Sl X.K H σ st (owns X.K vs os ++ l) → Gh H fun H' => Sl X.K H' σ st (owns X.K vs (frzs bs os) ++ l)
  | [], [], vs, l, H, _, e, s => by
    have : vs = [] := List.length_eq_zero_iff.mp (by simpa using e)
    subst this; exact .now s
  | b :: bs, [], _, _, _, h, _, _ => by simp at h
  | [], _ :: _, _, _, _, h, _, _ => by simp at h
  | b :: bs, o :: os, [], _, _, _, e, _ => by simp at e
  | b :: bs, o :: os, v :: vs, l, H, h, e, s => by
    have s : Sl X.K H σ st (own X.K v o :: (owns X.K vs os ++ l)) := s
    refine (frz_own (b := b) s).bind fun H1 s1 => ?_
    have s2 : Sl X.K H1 σ st (owns X.K vs os ++ own X.K v (o.frz b) :: l) := s1.perm List.perm_middle.symm
    refine (frzs_own (by simpa using h) (by simpa using e) s2).imp fun H2 s3 => ?_
    exact s3.perm List.perm_middle
theorem frzs_len : ∀ {bs : List Nat} {os : List O}, bs.length = os.length → (frzs bs os).length = os.length
  | [], [], _ => rfl
  | [], _ :: _, h => by simp at h
  | _ :: _, [], h => by simp at h
  | b :: bs, o :: os, h => by rw [frzs, List.length_cons, frzs_len (by simpa using h), List.length_cons]
def puts : List Nat → List O → Stt → Stt
  | i :: is, o :: os, st => puts is os (Ur.put st i o)
  | _, _, st => st
theorem putAll_some : ∀ {is bs : List Nat} {os : List O} {st st' : Stt}, putAll is bs os st = some st' → bs.length = os.length ∧ is.length = os.length ∧ st' = puts is (frzs bs os) st
  | [], [], [], st, st', h => by
    simp only [putAll, Option.some.injEq] at h
    exact ⟨rfl, rfl, h.symm⟩
  | i :: is, b :: bs, o :: os, st, st', h => by
    rw [putAll] at h
    obtain ⟨h1, h2, h3⟩ := putAll_some h
    exact ⟨by simp [h1], by simp [h2], h3⟩
  | [], [], _ :: _, _, _, h => by simp [putAll] at h
  | [], _ :: _, _, _, _, h => by simp [putAll] at h
  | _ :: _, [], _, _, _, h => by simp [putAll] at h
  | _ :: _, _ :: _, [], _, _, h => by simp [putAll] at h
/-- stored from the left -/
theorem gIs_own : ∀ {is : List Nat} {vs : List V} {os : List O} {σ : L2.St} {st : Stt} {l : List Asn} {Q : L2.St → Hp → Prop}, vs.length = os.length → is.length = os.length → (∀ i ∈ is, i ∉ fx) → Sl X.K H σ st (owns X.K vs os ++ l) →
    (∀ τ : L2.St, Fix fx σ τ → Sl X.K H τ (puts is os st) l → Q τ H) → gIs is vs σ H Q
  | [], vs, os, σ, st, l, Q, e1, e2, hf, s, k => by
    have h1 : os = [] := List.length_eq_zero_iff.mp (by simpa using e2.symm)
    subst h1
    have h2 : vs = [] := List.length_eq_zero_iff.mp (by simpa using e1)
    subst h2
    exact ⟨rfl, k σ .refl s⟩
  | i :: is, vs, [], σ, st, l, Q, e1, e2, hf, s, k => by simp at e2
  | i :: is, [], o :: os, σ, st, l, Q, e1, e2, hf, s, k => by simp at e1
  | i :: is, v :: vs, o :: os, σ, st, l, Q, e1, e2, hf, s, k => by
    refine ⟨v, vs, rfl, ?_⟩
    have s1 : Sl X.K H σ st (own X.K v o :: (owns X.K vs os ++ l)) := s
    refine gIs_own (is := is) (by simpa using e1) (by simpa using e2) (fun j hj => hf j (List.mem_cons_of_mem _ hj)) s1.put0 fun τ f s2 => k τ ((Fix.set (hf i List.mem_cons_self)).trans f) s2
theorem rs_parG {is bs : List Nat} {es : Es} {tg' : Expr} {es' : List Expr} {k : Nat} {p pos : Pos} (hw : swappedStores [tg'] (.Tuple es' k p) X.env = pure none) (hg : PG X tg' (gTup X.K is.length (gIs is))) (hfx : ∀ i ∈ is, i ∉ fx) (hz : es.len ≤ Ur.top)
    (he : PA X es' (tEs X.K XR P cf W es)) (h1 : (assignEach [tg'] X.env).map (·.2) = [assign tg' X.env]) : PS X (.Assign [tg'] (.Tuple es' k p) pos) (tS X.K XR P cf W fx (.par is bs es)) := by
  refine ps_to (ps_asg (pe_tup (x1 := k) (pa_gh he)) hg rfl hw h1) fun D σ H ⟨st, l, s, h⟩ => ?_
  have h : AftS X.K XR W fx σ l D (bf (evs P cf es st) fun os s => match putAll is bs os s with
    | some s => some (.nx, s)
    | none => none) := h
  have t := top_eq
  cases ees : evs P cf es st with
  | none => rw [ees] at h; exact h.elim
  | some q =>
    obtain ⟨r, s1⟩ := q
    refine ⟨st, l, s, ?_⟩
    rw [ees] at h ⊢
    cases r with
    | ex x => exact fun cls d H xr s' => h σ H cls d .refl xr s'
    | ok os =>
      have hlen := evs_len es ees
      intro vs H1 hvl s2
      have h : AftS X.K XR W fx σ l D (match putAll is bs os s1 with
        | some s => some (.nx, s)
        | none => none) := h
      split at h
      · rename_i st' ep
        obtain ⟨e1, e2, rfl⟩ := putAll_some ep
        refine .now ((frzs_own e1 hvl s2).imp fun H2 s3 => ⟨by omega, fun q hq => ?_⟩)
        refine ⟨q, vs, rfl, SqT.of upd_same, by omega, ?_⟩
        have hfl := frzs_len e1
        exact gIs_own (by omega) (by omega) hfx (s3.new hq) fun τ f s4 => h τ _ f s4
      · exact h.elim
theorem rs_unp {is : List Nat} {e : E} {tg' e' : Expr} {pos : Pos} (hw : swappedStores [tg'] e' X.env = pure none) (hs : swapsWithSole [tg'] e' pos.line X.env = pure false) (hg : PG X tg' (gT X.K (.tup is))) (hfx : ∀ i ∈ is, i ∉ fx) (hsl : ∀ i ∈ is, i < X.N.length)
    (he : PE X e' (tE X.K XR P cf W e)) (h1 : (assignEach [tg'] X.env).map (·.2) = [assign tg' X.env]) : PS X (.Assign [tg'] e' pos) (tS X.K XR P cf W fx (.unp is e)) := by
  have main := ps_asg (pos := pos) (pe_gh he) hg hs hw h1
  refine ⟨fun pins s0 σ H D I q => thn (main.run pins s0 σ H (ghD D) I ?_) fun f s' q => sp_gh q⟩
  obtain ⟨st, l, s, h⟩ := q
  have hlN := I.len
  have h : AftS X.K XR W fx σ l D (bf (ev P cf e st) fun o s => match asg (.tup is) o.fz s with
    | some s => some (.nx, s)
    | none => none) := h
  refine ⟨st, l, s, aftS_bf h fun o st1 h1 v H1 s1 => .now (s1.fz.imp fun H2 ⟨k2, r2, s2⟩ => ?_)⟩
  split at h1
  · rename_i st' ea
    exact asg_ok ea r2 s2 (fun i hi => by rw [hlN]; exact hsl i hi) fun τ hτ hτ2 s3 => h1 τ H2 ⟨hτ, fun j hj => hτ2 j fun z => hfx j z hj⟩ s3
  · exact h1.elim
theorem swap2 {x y : Str} {px py pt pt2 : Pos} {kt k2 : Nat} {a b : Expr} {env : Env} (hb : env.blockKind = .function) (hx : env.kindOf x = some .local) (hy : env.kindOf y = some .local) (hl : py.line = px.line) (hxy : x ≠ y) (ha : noStar a = true) (hb2 : noStar b = true)
    (h1 : [a, b].all (foldedForSure 8) = false) (h2 : [a, b].all (constantsAlone 8) = false) : swappedStores [.Tuple [.Name x px, .Name y py] kt pt] (.Tuple [a, b] k2 pt2) env = pure (some [x, y]) := by
  have hne : (y == x) = false := by simpa using Ne.symm hxy
  have hd : ([x, y].eraseDups.length) = 2 := by
    simp [List.eraseDups, List.eraseDupsBy, List.eraseDupsBy.loop, hne]
  unfold swappedStores
  simp [hb, hx, hy, hl, hd, h1, h2, Expr.pos]
  intro h
  exfalso
  rcases h with h | h
  · cases a <;> first | (exact absurd h Bool.false_ne_true) | (exact absurd ha Bool.false_ne_true)
  · cases b <;> first | (exact absurd h Bool.false_ne_true) | (exact absurd hb2 Bool.false_ne_true)
theorem swapFold {ts : List Expr} {vs : List Expr} {k k2 : Nat} {p p2 : Pos} {env : Env} (h : vs.all (foldedForSure 8) = true) : swappedStores [.Tuple ts k p] (.Tuple vs k2 p2) env = pure none := by
  unfold swappedStores
  simp only [h]
  repeat (first | rfl | split)
theorem rs_par2 {i j : Nat} {bs : List Nat} {es : Es} {x y : Str} {a b : Expr} {px py pt pos : Pos} {kt k2 : Nat} {pt2 : Pos} (hc : X.calm = true) (hN : X.N.Nodup) (hi : X.N[i]? = some x) (hj : X.N[j]? = some y) (hij : i ≠ j)
    (hx : X.env.scope.names.lookup x = some .local) (hy : X.env.scope.names.lookup y = some .local) (hfi : i ∉ fx) (hfj : j ∉ fx) (he : PA X [a, b] (tEs X.K XR P cf W es)) (hw : swappedStores [.Tuple [.Name x px, .Name y py] kt pt] (.Tuple [a, b] k2 pt2) X.env = pure (some [x, y])) :
    PS X (.Assign [.Tuple [.Name x px, .Name y py] kt pt] (.Tuple [a, b] k2 pt2) pos) (tS X.K XR P cf W fx (.par [i, j] bs es)) := by
  refine ps_to (ps_par hc hN hi hj hij hx hy (pa_gh he) hw rfl) fun D σ H ⟨st, l, s, h⟩ => ?_
  have h : AftS X.K XR W fx σ l D (bf (evs P cf es st) fun os s => match putAll [i, j] bs os s with
    | some s => some (.nx, s)
    | none => none) := h
  refine ⟨st, l, s, aftS_bf h fun os s1 h1 vs H1 hvl s2 => ?_⟩
  split at h1
  · rename_i st' ep
    obtain ⟨e1, e2, rfl⟩ := putAll_some ep
    refine .now ((frzs_own e1 hvl s2).imp fun H2 s3 => ?_)
    have hfl := frzs_len e1
    match vs, (frzs bs os), (show vs.length = 2 by rw [hvl, ← e2]; rfl), (show (frzs bs os).length = 2 by rw [hfl, ← e2]; rfl), s3, h1 with
    | [v, w], [o1, o2], _, _, s3, h1 =>
      refine ⟨v, w, rfl, h1 _ H2 ((Fix.set hfi).trans (Fix.set hfj)) ?_⟩
      have s3 : Sl X.K H2 σ s1 (own X.K v o1 :: own X.K w o2 :: l) := s3
      exact (s3.put0).put0
  · exact h1.elim
theorem rs_aug {i : Nat} {op : Bop} {x : Str} {e : E} {e' : Expr} {p pos : Pos} (hN : X.N.Nodup) (hi : X.N[i]? = some x) (hx : Loc X.env.scope x) (hf : X.fn x = true ∨ X.env.scope.names.lookup x = some .local) (hfx : i ∉ fx) (hop : op = .add ∨ op = .sub) (he : PE X e' (tE X.K XR P cf W e)) :
    PS X (.AugAssign (.Name x p) (pyB op) e' pos) (tS X.K XR P cf W fx (.aug i op e)) := by
  have go : ∀ {f : Int → Int → Int}, PIp X (pyB op) (ipI f) → (∀ a b, augI op a (.int b) = some (f a b)) → (∀ a d z, augI op a d = some z → ∃ b, d = .int b) → PS X (.AugAssign (.Name x p) (pyB op) e' pos) (tS X.K XR P cf W fx (.aug i op e)) := fun {f} ho h1 h2 => by
    refine ps_to (ps_aug hN hi hx he ho hf) fun D σ H ⟨st, l, s, h⟩ => ?_
    have h : AftS X.K XR W fx σ l D (match get st i with
      | some (.dat (.int a)) => bf (ev P cf e st) fun y s => (match augI op a y.fz with
        | some z => some (.nx, Ur.put s i (.dat (.int z)))
        | none => none)
      | _ => none) := h
    split at h
    · rename_i a ho
      obtain ⟨v, hv, s1⟩ := s.take ho
      have rv := s1.rd
      cases rv
      refine ⟨.int a, hv, st, l, s, aftS_bf h fun y st1 h3 w H1 s2 => s2.fz.imp fun H2 ⟨k2, r2, s3⟩ => ?_⟩
      split at h3
      · rename_i z ez
        obtain ⟨b, eb⟩ := h2 _ _ _ ez
        rw [eb] at r2 ez
        rw [h1] at ez
        cases ez
        cases r2
        exact ⟨a, b, rfl, rfl, h3 _ H2 (Fix.set hfx) (s3.dat (.int _)).put0⟩
      · exact h3.elim
    · exact h.elim
  rcases hop with rfl | rfl
  · exact go ip_add (fun _ _ => rfl) fun a d z h => by cases d <;> first | exact ⟨_, rfl⟩ | cases h
  · exact go ip_sub (fun _ _ => rfl) fun a d z h => by cases d <;> first | exact ⟨_, rfl⟩ | cases h
end
end Ur
end
section
set_option linter.all false
set_option autoImplicit false
set_option maxRecDepth 10000
/-! UrG4: three names at once. -/
namespace Ur
open PySem L2
theorem swap3 {x y z : Str} {px py pz pt pt2 : Pos} {kt k2 : Nat} {a b c : Expr} {env : Env} (hb : env.blockKind = .function) (hx : env.kindOf x = some .local) (hy : env.kindOf y = some .local) (hz : env.kindOf z = some .local) (hl : py.line = px.line) (hl2 : pz.line = px.line) (hxy : x ≠ y) (hxz : x ≠ z) (hyz : y ≠ z)
    (ha : noStar a = true) (hb2 : noStar b = true) (hc2 : noStar c = true) (h1 : [a, b, c].all (foldedForSure 8) = false) (h2 : [a, b, c].all (constantsAlone 8) = false) :
    swappedStores [.Tuple [.Name x px, .Name y py, .Name z pz] kt pt] (.Tuple [a, b, c] k2 pt2) env = pure (some [x, y, z]) := by
  have n1 : (y == x) = false := by simpa using Ne.symm hxy
  have n2 : (z == x) = false := by simpa using Ne.symm hxz
  have n3 : (z == y) = false := by simpa using Ne.symm hyz
  have hd : ([x, y, z].eraseDups.length) = 3 := by
    simp [List.eraseDups, List.eraseDupsBy, List.eraseDupsBy.loop, n1, n2, n3]
  unfold swappedStores
  simp [hb, hx, hy, hz, hl, hl2, hd, h1, h2, Expr.pos]
  intro h
  exfalso
  rcases h with h | h | h
  · cases a <;> first | (exact absurd h Bool.false_ne_true) | (exact absurd ha Bool.false_ne_true)
  · cases b <;> first | (exact absurd h Bool.false_ne_true) | (exact absurd hb2 Bool.false_ne_true)
  · cases c <;> first | (exact absurd h Bool.false_ne_true) | (exact absurd hc2 Bool.false_ne_true)
section
variable {P : Prog} {cf : Cf} {W : WX} {XR : Hp → Value → Option Addr → D → Prop} {X : Cx} {fx : List Nat}
theorem rs_par3 {i j u : Nat} {bs : List Nat} {es : Es} {x y z : Str} {a b c : Expr} {px py pz pt pos : Pos} {kt k2 : Nat} {pt2 : Pos} (hc : X.calm = true) (hN : X.N.Nodup) (hi : X.N[i]? = some x) (hj : X.N[j]? = some y) (hu : X.N[u]? = some z) (hij : i ≠ j) (hiu : i ≠ u) (hju : j ≠ u)
    (hx : X.env.scope.names.lookup x = some .local) (hy : X.env.scope.names.lookup y = some .local) (hz : X.env.scope.names.lookup z = some .local) (hfi : i ∉ fx) (hfj : j ∉ fx) (hfu : u ∉ fx) (he : PA X [a, b, c] (tEs X.K XR P cf W es))
    (hw : swappedStores [.Tuple [.Name x px, .Name y py, .Name z pz] kt pt] (.Tuple [a, b, c] k2 pt2) X.env = pure (some [x, y, z])) :
    PS X (.Assign [.Tuple [.Name x px, .Name y py, .Name z pz] kt pt] (.Tuple [a, b, c] k2 pt2) pos) (tS X.K XR P cf W fx (.par [i, j, u] bs es)) := by
  refine ps_to (ps_par3 hc hN hi hj hu hij hiu hju hx hy hz (pa_gh he) hw rfl) fun D σ H ⟨st, l, s, h⟩ => ?_
  have h : AftS X.K XR W fx σ l D (bf (evs P cf es st) fun os s => match putAll [i, j, u] bs os s with
    | some s => some (.nx, s)
    | none => none) := h
  refine ⟨st, l, s, aftS_bf h fun os s1 h1 vs H1 hvl s2 => ?_⟩
  split at h1
  · rename_i st' ep
    obtain ⟨e1, e2, rfl⟩ := putAll_some ep
    refine .now ((frzs_own e1 hvl s2).imp fun H2 s3 => ?_)
    have hfl := frzs_len e1
    match vs, (frzs bs os), (show vs.length = 3 by rw [hvl, ← e2]; rfl), (show (frzs bs os).length = 3 by rw [hfl, ← e2]; rfl), s3, h1 with
    | [v, w, r], [o1, o2, o3], _, _, s3, h1 =>
      refine ⟨v, w, r, rfl, h1 _ H2 (((Fix.set hfi).trans (Fix.set hfj)).trans (Fix.set hfu)) ?_⟩
      have s3 : Sl X.K H2 σ s1 (own X.K v o1 :: own X.K w o2 :: own X.K r o3 :: l) := s3
      exact ((s3.put0).put0).put0
  · exact h1.elim
end
end Ur
end
section
set_option linter.all false
set_option autoImplicit false
set_option maxHeartbeats 1000000
/-! UrH1: defs. -/
namespace Ur
open PySem L2
section
variable {X : Cx} {P : Prog} {cf : Cf} {W : WX} {XR : Hp → Value → Option Addr → D → Prop} {fx : List Nat}
variable {H : Hp} {σ : L2.St} {st : Stt} {l : List Asn} {D : Ends} {K : PySem.W.Frag}
theorem takes_gh (t : Takes X W) : Takes X (fun c d σ H => Gh H (W c d σ)) := fun u s' ⟨a, B, sI, pins, σ, H, cls, d, e, I, nb, up, sky, na, os, ag, w⟩ => by
  have key : ∀ {R : Hp → Prop}, Gh H R → Inv X pins σ H sI → H a = none → ∃ H2, Inv X pins σ H2 sI ∧ H2 a = none ∧ R H2 := fun {R} g => by
    clear w na I
    induction g with
    | now h => exact fun I n => ⟨_, I, n, h⟩
    | @lock H R b u h m _ ih =>
      intro I n
      obtain ⟨od, I'⟩ := I.lock h m
      refine ih od I' ?_
      rw [upd_ne]
      · exact n
      · rintro rfl; rw [n] at h; cases h
  obtain ⟨H2, I2, n2, w2⟩ := key w I na
  exact t u s' ⟨a, B, sI, pins, σ, H2, cls, d, e, I2, nb, up, sky, n2, os, ag, w2⟩
/-- the arguments lie in the first slots -/
theorem slots_args : ∀ {vs : List V} {os : List O} (m n : Nat), vs.length = os.length → slots K (vs.map some ++ List.replicate m none) (os.map some ++ List.replicate n none) = owns K vs os
  | [], [], m, n, _ => by
    show slots K ([] ++ List.replicate m none) ([] ++ List.replicate n none) = []
    rw [List.nil_append, List.nil_append]
    induction m generalizing n with
    | zero => rfl
    | succ m ih =>
      cases n with
      | zero => rfl
      | succ n => exact ih n
  | [], _ :: _, _, _, e => by simp at e
  | _ :: _, [], _, _, e => by simp at e
  | v :: vs, o :: os, m, n, e => by
    show own K v o :: slots K (vs.map some ++ List.replicate m none) (os.map some ++ List.replicate n none) = own K v o :: owns K vs os
    rw [slots_args m n (by simpa using e)]
theorem start_ok {vs : List V} {os : List O} {N : List Str} {ns np : Nat} (e1 : vs.length = np) (e2 : os.length = np) (hN : N.length = ns) (hle : np ≤ ns) (s : Sa H (owns K vs os ++ l)) :
    Sl K H (L2.start N vs) (os.map some ++ List.replicate (ns - np) none) l := by
  refine ⟨⟨?_, fun i o h => ?_⟩, ?_⟩
  · unfold L2.start
    simp only [List.length_append, List.length_map, List.length_replicate]
    omega
  · unfold L2.start
    by_cases hi : i < os.length
    · refine ⟨vs[i]'(by omega), ?_⟩
      rw [List.getElem?_append_left (by rw [List.length_map]; omega)]
      simp [show i < vs.length by omega]
    · rw [List.getElem?_append_right (by rw [List.length_map]; omega)] at h
      rw [List.getElem?_replicate] at h
      split at h <;> simp at h
  · unfold L2.start
    rw [slots_args _ _ (by omega)]
    exact s
/-- what the kept parameters hold -/
theorem outs_ok : ∀ {vs : List V} {refs : List Nat} (b : Nat) {τ : L2.St} {st : Stt} {m : List Asn}, τ.length = st.length → (∀ j, j < vs.length → b + j ∈ refs → τ[j]? = some (vs[j]?)) → Sa H (slots K τ st ++ m) →
    Sa H (ownO K vs ((List.range vs.length).map fun j => if b + j ∈ refs then (st[j]?).join else none) ++ m)
  | [], refs, b, τ, st, m, hl, hv, s => by
    have : ∀ (n : List Asn), Sa H (n ++ m) → Sa H m := fun n => by
      induction n with
      | nil => exact fun z => z
      | cons a n ih => exact fun z => ih z.tail
    exact this _ s
  | v :: vs, refs, b, [], [], m, hl, hv, s => by
    have e : ownO K (v :: vs) ((List.range (v :: vs).length).map fun j => if b + j ∈ refs then (([] : Stt)[j]?).join else none) = [] := by
      have : ∀ (ws : List V) (os : List (Option O)), (∀ o ∈ os, o = none) → ownO K ws os = [] := by
        intro ws
        induction ws with
        | nil => intro os _; cases os <;> rfl
        | cons w ws ih =>
          intro os ho
          cases os with
          | nil => rfl
          | cons o os =>
            have : o = none := ho o List.mem_cons_self
            subst this
            exact ih os fun o h => ho o (List.mem_cons_of_mem _ h)
      refine this _ _ fun o ho => ?_
      obtain ⟨j, _, rfl⟩ := List.mem_map.mp ho
      simp
    rw [e]
    exact s
  | v :: vs, refs, b, [], _ :: _, m, hl, hv, s => by simp at hl
  | v :: vs, refs, b, _ :: _, [], m, hl, hv, s => by simp at hl
  | v :: vs, refs, b, x :: τ, y :: st, m, hl, hv, s => by
    have er : (List.range (v :: vs).length).map (fun j => if b + j ∈ refs then ((y :: st)[j]?).join else none) = (if b ∈ refs then y else none) :: (List.range vs.length).map fun j => if (b + 1) + j ∈ refs then (st[j]?).join else none := by
      rw [List.length_cons, List.range_succ_eq_map, List.map_cons, List.map_map]
      congr 1
      refine List.map_congr_left fun j _ => ?_
      show (if b + (j + 1) ∈ refs then ((y :: st)[j + 1]?).join else none) = _
      rw [List.getElem?_cons_succ, show b + (j + 1) = (b + 1) + j by omega]
    rw [er]
    have hv' : ∀ j, j < vs.length → (b + 1) + j ∈ refs → τ[j]? = some (vs[j]?) := fun j hj hm => by
      have := hv (j + 1) (by simpa using hj) (by rw [show b + (j + 1) = (b + 1) + j by omega]; exact hm)
      simpa using this
    have hl' : τ.length = st.length := by simpa using hl
    by_cases hb : b ∈ refs
    · rw [if_pos hb]
      have hx : x = some v := by simpa using hv 0 (by simp) hb
      subst hx
      cases y with
      | none => exact outs_ok (b + 1) hl' hv' s
      | some o =>
        have s1 : Sa H (slots K τ st ++ (own K v o :: m)) := (show Sa H (own K v o :: (slots K τ st ++ m)) from s).mid
        have := outs_ok (b + 1) hl' hv' s1
        exact this.fro
    · rw [if_neg hb]
      refine outs_ok (vs := vs) (b + 1) hl' hv' ?_
      cases x with
      | none => exact s
      | some x =>
        cases y with
        | none => exact s
        | some y => exact Sa.tail (A := own K x y) s

/-! ### a def keeps its promise -/
theorem outs_eq {np : Nat} {refs : List Nat} {st : Stt} : outs np refs st = (List.range np).map fun j => if 0 + j ∈ refs then (st[j]?).join else none := by
  unfold outs get
  refine List.map_congr_left fun j _ => ?_
  rw [Nat.zero_add]
/-- what a def's contexts have in common -/
structure Frame (X : Cx) (P : Program) (w : World) (K : PySem.W.Frag) (mg : Str → Option Value) (base : Heap) (N : List Str) (scope : Scope) (k : Nat) (E : XK) : Prop where
  prog : X.prog = P
  w : X.w = w
  K : X.K = K
  mg : X.mg = mg
  base : X.base = base
  N : X.N = N
  scope : X.env.scope = scope
  fn : X.fn = fun _ => true
  calm : X.calm = true
  room : Room k X.A
  takes : Takes X (fun cls d _ H => Gh H (E cls d))
  passes : PassesOwn (model X.prog X.w) X.A X.env X.xe
  stk : X.stack = X.env :: X.outer
  frm : X.env.frame = some X.env.locals
  ex : X.ex = []
theorem def_ok {Pr : Program} {w : World} {mg : Str → Option Value} {base : Heap} {k n : Nat} {f : Addr} {ix : Nat} {d : Df} {name qual : Str} {params : Arguments} {body : List Stmt} {scope : Scope} {dV kV doc pm cdv ct oc : Value} {an od : Option Addr} {osl : Array (Option Value)}
    (lk : K.lookup f = some ⟨oc, od, .func (PySem.W.fnOf name qual params body scope dV kV doc pm an cdv ct), osl⟩) (hcd : PySem.W.codeIn K cdv qual = true) (S : FnScope d.names (d.names.take d.np) scope) (hns : d.names.length = d.ns) (hnp : d.np ≤ d.ns) (hfx : ∀ j ∈ d.refs, j < d.np) (hix : P.defs[ix]? = some d)
    (hbody : ∀ (X : Cx) (E : XK), Frame X Pr w K mg base d.names scope k E → PSs X body (tSs X.K XR P (callF P n) (fun cls dd _ H => Gh H (E cls dd)) d.refs d.body)) :
    FnOk Pr w K mg base (L2.CX Pr w) (k + 1) f (PySem.W.fnOf name qual params body scope dV kV doc pm an cdv ct) (d.names.take d.np) (spF K XR (callF P (n + 1) ix) d.np) := by
  have hps : (d.names.take d.np).length = d.np := by rw [List.length_take]; omega
  refine fn_of lk hcd S (fun vs H Q E h => ?_) fun A outer s H vs Q E hr h => ?_
  · obtain ⟨os, l, h1, _⟩ := h
    rw [h1, hps]
  · obtain ⟨os, l, h1, h2, sa, h3⟩ := h
    refine ⟨_, hbody _ E ⟨rfl, rfl, rfl, rfl, rfl, rfl, rfl, rfl, rfl, hr, takes_gh (takes_of (E := E) rfl rfl rfl rfl), passes_of rfl, rfl, rfl, rfl⟩, _, l, start_ok (N := d.names) h1 h2 hns hnp sa, ?_⟩
    have h3 : match ends d (exs P (callF P n) d.body (Ur.start d os)) with
      | some (.ok o, outs) => ∀ v H', Sa H' (own K v o :: (ownO K vs outs ++ l)) → Gh H' (Q v)
      | some (.ex x, outs) => ∀ cls dd H', XR H' cls dd x → Sa H' (ownO K vs outs ++ l) → Gh H' (E cls dd)
      | none => False := by
      have e : callF P (n + 1) ix os = ends d (exs P (callF P n) d.body (Ur.start d os)) := by
        show (match P.defs[ix]? with
          | some d => if os.length = d.np then ends d (exs P (callF P n) d.body (Ur.start d os)) else none
          | none => none) = _
        rw [hix]
        show (if os.length = d.np then _ else _) = _
        rw [if_pos h2]
      rw [← e]
      exact h3
    show AftS K XR _ d.refs (L2.start d.names vs) l _ (exs P (callF P n) d.body (Ur.start d os))
    -- the frame's slots at the end hold what is kept
    have fin : ∀ {τ : L2.St} {H' : Hp} {st' : Stt} {m : List Asn}, Fix d.refs (L2.start d.names vs) τ → Sl K H' τ st' m → Sa H' (ownO K vs (outs d.np d.refs st') ++ m) := fun {τ H' st' m} hf s => by
      rw [outs_eq, ← h1]
      refine outs_ok 0 s.ok.len (fun j hj hm => ?_) s.sa
      rw [Nat.zero_add] at hm
      rw [hf.2 j hm]
      unfold L2.start
      rw [List.getElem?_append_left (by rw [List.length_map]; exact hj), List.getElem?_map, List.getElem?_eq_getElem hj]
      rfl
    generalize exs P (callF P n) d.body (Ur.start d os) = r at h3
    match r, h3 with
    | none, h3 => exact h3
    | some (.bk, _), h3 => exact h3.elim
    | some (.ct, _), h3 => exact h3.elim
    | some (.nx, st'), h3 =>
      have h3 : ∀ v H', Sa H' (own K v (.dat .none) :: (ownO K vs (outs d.np d.refs st') ++ l)) → Gh H' (Q v) := h3
      exact fun τ H' hf s => h3 .non H' ((fin hf s).dat .non)
    | some (.rt o, st'), h3 =>
      have h3 : ∀ v H', Sa H' (own K v (if d.fz then .dat o.fz else o) :: (ownO K vs (outs d.np d.refs st') ++ l)) → Gh H' (Q v) := h3
      intro τ H' v hf s
      by_cases hz : d.fz = true
      · rw [if_pos hz] at h3
        exact s.fz.bind fun H2 ⟨k2, r2, s2⟩ => h3 v H2 ((fin hf s2).dat r2)
      · rw [if_neg hz] at h3
        exact h3 v H' ((fin hf s).perm List.perm_middle)
    | some (.ex x, st'), h3 =>
      have h3 : ∀ cls dd H', XR H' cls dd x → Sa H' (ownO K vs (outs d.np d.refs st') ++ l) → Gh H' (E cls dd) := h3
      exact fun τ H' cls dd hf xr s => .now (h3 cls dd H' xr (fin hf s))
end
end Ur
end
section
set_option linter.all false
set_option autoImplicit false
set_option maxRecDepth 100000
set_option maxHeartbeats 2000000
/-! UrX2: the __init__ of a class of errors keeps its promise. -/
namespace Ur
open PySem L2 PyProof.Rows

section
variable {K : PySem.W.Frag} {H : Hp} {l : List Asn}
theorem Atom.rd {v : V} {d : D} (h : Atom v d) : RD K H v d := by
  cases h with
  | int i _ => exact .int i
  | str x h z => exact .str x h (Nat.le_trans z (by decide))
theorem Atom.of {v : V} {d : D} (r : RD K H v d) (h : atomB d = true) : Atom v d := by
  cases r with
  | int i => exact .int i (by simpa [atomB] using h)
  | str x h1 _ => exact .str x h1 (by simpa [atomB] using h)
  | _ => cases h
theorem Atom.same {v w : V} {d : D} (h : Atom v d) (r : RD K H w d) : w = v := by
  cases h with
  | int i _ => cases r; rfl
  | str x _ _ => cases r; rfl
end
/-- as_tuples, of what an exception may keep -/
def spAt : Sp := fun vs H Q E => ∃ y d l, vs = [y] ∧ Atom y d ∧ Sa H l ∧ ∀ H', Sa H' l → Gh H' (Q y)
structure AtOk (Pr : Program) (w : World) (K : PySem.W.Frag) (mg : Str → Option Value) (base : Heap) (x : Str) : Prop where
  ex : ∃ fa fd ps, mg x = some (.ref fa) ∧ PySem.W.keepIn K (.ref fa) = true ∧ Binds K fd ps [] ∧ FnOk Pr w K mg base (L2.CX Pr w) 1 fa fd ps spAt
theorem spAt_of {K : PySem.W.Frag} {XR : Hp → Value → Option Addr → D → Prop} {g : List O → Option (Rs O × List (Option O))} (hg : ∀ d, atomB d = true → g [.dat d] = some (.ok (.dat d), [none])) {vs : List V} {H : Hp} {Q : VK} {E : XK} (h : spAt vs H Q E) : spF K XR g 1 vs H Q E := by
  obtain ⟨y, d, l, rfl, a, sa, q⟩ := h
  refine ⟨[.dat d], l, rfl, rfl, sa.dat a.rd, ?_⟩
  rw [hg d (by cases a <;> simpa [atomB])]
  intro v H' s
  have e : v = y := a.same (K := K) (H := H') s.rd
  subst e
  exact q H' s.tail

/-- what the __init__ of the class at C promises; fl: the field it sets, if any -/
def spX (C : Addr) : List Str → Sp
  | [] => fun vs H Q E => ∃ a l, vs = [.ref a] ∧ Sa H (pt a (exo a C none) :: l) ∧ ∀ H', Sa H' (pt a (exo a C none) :: l) → Gh H' (Q .non)
  | [f] => fun vs H Q E => ∃ a y d l, vs = [.ref a, y] ∧ Atom y d ∧ Sa H (pt a (exo a C none) :: l) ∧ ∀ dx H', Sa H' (pt a (exo a C (some dx)) :: pt dx (exd dx [(f, y)]) :: l) → Gh H' (Q .non)
  | _ => fun _ _ _ _ => False

/-! ### the bodies' form -/
/-- a part of the text: a constant, or the parameter -/
def partB (N : List Str) (sc : Scope) : Expr → Bool
  | .Constant (.str c) _ _ => decide (c.length ≤ 1000)
  | .FormattedValue (.Name x _) (-1) none _ => visB0 N sc 1 x
  | _ => false
where
  visB0 (N : List Str) (sc : Scope) (i : Nat) (x : Str) : Bool :=
    decide (N[i]? = some x) && (match sc.names.lookup x with | some .local => true | some .cell => true | some .free => true | _ => false) && !(x == ("__debug__" : Str)) && !(x == ("__classdict__" : Str))
theorem visB0_ok {N : List Str} {sc : Scope} {i : Nat} {x : Str} (h : partB.visB0 N sc i x = true) : N[i]? = some x ∧ Vis sc x ∧ (x == ("__debug__" : Str)) = false ∧ (x == ("__classdict__" : Str)) = false := by
  unfold partB.visB0 at h
  simp only [Bool.and_eq_true, decide_eq_true_eq, Bool.not_eq_true'] at h
  obtain ⟨⟨⟨h1, h2⟩, h3⟩, h4⟩ := h
  refine ⟨h1, ?_, h3, h4⟩
  split at h2
  · exact .inl ‹_›
  · exact .inr (.inl ‹_›)
  · exact .inr (.inr ‹_›)
  · cases h2
def init0B (b : Eb) (N : List Str) (sc : Scope) : List Stmt → Bool
  | [.Expr (.Call (.Attribute (.Name x _) m p2) [.Name s _] [] pos) _] => (p2.endLine == pos.line) && decide (x = Str.ofString (ebS b)) && decide (m = "__init__") && glob sc x && partB.visB0 N sc 0 s
  | _ => false
def init1B (b : Eb) (at_ f : Str) (N : List Str) (sc : Scope) : List Stmt → Bool
  | [.Expr (.Call (.Attribute (.Name x _) m p2) [.Name s _, .JoinedStr (v1 :: v2 :: vs) _] [] pos) _, .Assign [.Attribute (.Name s' _) f' _] (.Call (.Name g _) [.Name y _] [] _) _] =>
    (p2.endLine == pos.line) && decide (x = Str.ofString (ebS b)) && decide (m = "__init__") && glob sc x && partB.visB0 N sc 0 s && (v1 :: v2 :: vs).all (partB N sc) && decide ((v1 :: v2 :: vs).length ≤ 100) && partB.visB0 N sc 0 s' && decide (f' = f) && decide (g = at_) && glob sc g && partB.visB0 N sc 1 y
  | _ => false
def initB (b : Eb) (at_ : Str) (N : List Str) (sc : Scope) (body : List Stmt) : List Str → Bool
  | [] => decide (N.length = 1) && init0B b N sc body
  | [f] => decide (N.length = 2) && init1B b at_ f N sc body
  | _ => false
theorem str_app_len (x y : Str) : (x ++ y).length = x.length + y.length := by
  show (x.cps ++ y.cps).size = x.cps.size + y.cps.size
  rw [Array.size_append]
section
variable {X : Cx} {N : List Str} {sc : Scope}
theorem parts_ok (hN : X.N = N) (hsc : X.env.scope = sc) : ∀ {vs : List Expr}, vs.all (partB N sc) = true → ∃ ts, PJ X vs ts ∧ ∀ (acc : Str) (σ : L2.St) (H : Hp) (Q : Str → Hp → Prop) (y : V) (d : D), σ[1]? = some (some y) → Atom y d → acc.length + 3000 * vs.length ≤ sizeLine → (∀ out, Q out H) → tJs ts acc σ H Q
  | [], _ => ⟨[], .nil, fun acc σ H Q y d _ _ _ q => q acc⟩
  | e :: vs, h => by
    rw [List.all_cons, Bool.and_eq_true] at h
    obtain ⟨ts, pj, k⟩ := parts_ok hN hsc h.2
    have h1 := h.1
    unfold partB at h1
    split at h1
    · rename_i c j p
      have hc : c.length ≤ 1000 := of_decide_eq_true h1
      refine ⟨_ :: ts, .cons pe_str pj, fun acc σ H Q y d hy a hz q => ?_⟩
      rw [List.length_cons] at hz
      have el := str_app_len acc c
      exact ⟨c, rfl, by omega, k _ σ H Q y d hy a (by omega) q⟩
    · rename_i x p p2
      obtain ⟨n1, n2, n3, n4⟩ := visB0_ok h1
      subst hN hsc
      refine ⟨_ :: ts, .cons (pe_fmt (pe_var n1 n2 n3 n4)) pj, fun acc σ H Q y d hy a hz q => ?_⟩
      rw [List.length_cons] at hz
      refine ⟨y, hy, ?_⟩
      cases a with
      | int i hi =>
        refine .inr ⟨i, rfl, by omega, ?_⟩
        have e1 := int_text_length_le (k := 1900) (by decide) hi
        have e2 : (Str.ofString (toString i)).length = (toString i).length := PySem.ofString_length _
        have el := str_app_len acc (Str.ofString (toString i))
        exact ⟨_, rfl, by show (acc ++ Str.ofString (toString i)).length ≤ _; omega, k _ σ H Q _ _ hy (.int i hi) (by show (acc ++ Str.ofString (toString i)).length + _ ≤ _; omega) q⟩
      | str z h2 h3 =>
        have hs := top_eq'
        have el := str_app_len acc z
        refine .inl ⟨z, rfl, by rw [sizeLine_eq]; omega, z, rfl, by omega, k _ σ H Q _ _ hy (.str z h2 h3) (by omega) q⟩
    · cases h1
where
  top_eq' : top = sizeLine := by rw [sizeLine_eq]; rfl
end

theorem pas_none {Pr : Program} {w : World} {X : Cx} : Passes (L2.CX Pr w) X (fun _ _ _ => False) := fun pins σ H s e s' I c => by
  obtain ⟨a, B, H', cls, d, _, _, _, _, _, _, _, z⟩ := c
  exact z.elim
theorem init_ok {Pr : Program} {w : World} {K : PySem.W.Frag} {mg : Str → Option Value} {base : Heap} {b : Eb} {C fI : Addr} {at_ : Str} {fl N : List Str} {name qual : Str} {params : Arguments} {body : List Stmt} {scope : Scope} {dV kV doc pm cdv ct oc : Value} {an od : Option Addr} {osl : Array (Option Value)}
    (lk : K.lookup fI = some ⟨oc, od, .func (PySem.W.fnOf name qual params body scope dV kV doc pm an cdv ct), osl⟩) (hcd : PySem.W.codeIn K cdv qual = true) (S : FnScope N N scope) (T : XcK K b C fI) (B : EbK K mg b)
    (hat : AtOk Pr w K mg base at_) (hf : ∀ f ∈ fl, PySem.W.takerIn K C f = some none)
    (hb : initB b at_ N scope body fl = true) :
    FnOk Pr w K mg base (L2.CX Pr w) 2 fI (PySem.W.fnOf name qual params body scope dV kV doc pm an cdv ct) N (spX C fl) := by
  match fl, hb, hf with
  | [], hb, _ =>
    rw [initB, Bool.and_eq_true, decide_eq_true_eq] at hb
    obtain ⟨hn, hb⟩ := hb
    unfold init0B at hb
    split at hb
    · rename_i x p1 m p2 s0 p3 pos p4
      simp only [Bool.and_eq_true, decide_eq_true_eq] at hb
      obtain ⟨⟨⟨⟨hl, hx⟩, hm⟩, hg⟩, hs0⟩ := hb
      subst hm
      refine fn_of lk hcd S (fun vs H Q E h => ?_) fun A outer s H vs Q E hr h => ?_
      · obtain ⟨a, l, rfl, _⟩ := h
        rw [hn]; rfl
      · obtain ⟨a, l, rfl, sa, q⟩ := h
        obtain ⟨g1, g2, g3⟩ := glob_ok (X := cxOf (L2.CX Pr w) Pr w K mg base N qual scope fI cdv A outer s H E) hg
        obtain ⟨n1, n2, n3, n4⟩ := visB0_ok hs0
        refine ⟨_, pss_to (pss_one (ps_expr (pe_xi hx g1 B (pa_cons (pe_var n1 n2 n3 n4) pa_nil) hl (by rfl)))) fun D σ H h => h, ?_⟩
        exact ⟨_, rfl, a, C, fI, [], rfl, by decide, T, sa.pt_get, q H sa⟩
    · cases hb
  | [f], hb, hf =>
    rw [initB, Bool.and_eq_true, decide_eq_true_eq] at hb
    obtain ⟨hn, hb⟩ := hb
    unfold init1B at hb
    split at hb
    · rename_i x p1 m p2 s0 p3 v1 v2 vs0 p4 pos p5 s1 p6 f' p7 g p8 y p9 p10 p11
      simp only [Bool.and_eq_true, decide_eq_true_eq] at hb
      obtain ⟨⟨⟨⟨⟨⟨⟨⟨⟨⟨⟨hl, hx⟩, hm⟩, hg⟩, hs0⟩, hps⟩, hlen⟩, hs1⟩, hf'⟩, hat'⟩, hgat⟩, hy⟩ := hb
      subst hm hf' hat'
      refine fn_of lk hcd S (fun vs H Q E h => ?_) fun A outer s H vs Q E hr h => ?_
      · obtain ⟨a, y, d, l, rfl, _⟩ := h
        rw [hn]; rfl
      · obtain ⟨a, z, d, l, rfl, az, sa, q⟩ := h
        obtain ⟨g1, g2, g3⟩ := glob_ok (X := cxOf (L2.CX Pr w) Pr w K mg base N qual scope fI cdv A outer s H E) hg
        obtain ⟨n1, n2, n3, n4⟩ := visB0_ok hs0
        obtain ⟨m1, m2, m3, m4⟩ := visB0_ok hs1
        obtain ⟨k1, k2, k3, k4⟩ := visB0_ok hy
        obtain ⟨e1, e2, e3⟩ := glob_ok (X := cxOf (L2.CX Pr w) Pr w K mg base N qual scope fI cdv A outer s H E) hgat
        obtain ⟨fa, fd, ps, ga, gk, gb, F⟩ := hat.ex
        obtain ⟨ts, pj, pk⟩ := parts_ok (X := cxOf (L2.CX Pr w) Pr w K mg base N qual scope fI cdv A outer s H E) rfl rfl hps
        refine ⟨_, pss_to (pss_cons (ps_expr (pe_xi hx g1 B (pa_cons (pe_var n1 n2 n3 n4) (pa_cons (pe_joined pj) pa_nil)) hl (by rfl)))
          (pss_one (ps_xs (pe_var m1 m2 m3 m4) (pe_gh (pe_call F hr e1 ga gk gb .nil pas_none (pa_cons (pe_var k1 k2 k3 k4) pa_nil) e2 rfl rfl))))) fun D σ H h => h, ?_⟩
        refine ⟨_, rfl, pk _ _ _ _ z d rfl az (by show 0 + _ ≤ _; rw [sizeLine_eq]; omega) fun out => ?_⟩
        refine ⟨a, C, fI, [_], rfl, by show 1 ≤ 1000; decide, T, sa.pt_get, ?_⟩
        refine ⟨_, rfl, z, d, _, rfl, az, sa, fun H1 sa1 => .now (.now ⟨_, rfl, b, a, C, fI, rfl, T, hf _ List.mem_cons_self, sa1.pt_get, fun dx hn hne => ?_⟩)⟩
        refine q dx _ ?_
        have s2 : Sa (upd H1 a (exo a C (some dx))) (pt a (exo a C (some dx)) :: l) := sa1.write fun z => z
        exact (s2.made (by rw [upd_ne hne]; exact hn) (show ¬ Stable (exd dx _) from fun w => w)).swap
    · cases hb
  | _ :: _ :: _, hb, _ => cases hb
end Ur
end
section
set_option linter.all false
set_option autoImplicit false
set_option maxRecDepth 100000
set_option maxHeartbeats 2000000
/-! UrX3: an error is made, as a value or to be raised. -/
namespace Ur
open PySem L2 PyProof.Rows

def XIn (fl : List Str) (vs : List V) (ds : List D) : Prop := (fl = [] ∧ vs = [] ∧ ds = []) ∨ ∃ f y d, fl = [f] ∧ vs = [y] ∧ ds = [d] ∧ Atom y d
def Made (H : Hp) (a C : Addr) (fl : List Str) (vs : List V) (ds : List D) (l : List Asn) : Prop :=
  (fl = [] ∧ vs = [] ∧ ds = [] ∧ Sa H (pt a (exo a C none) :: l)) ∨ ∃ f y d dx, fl = [f] ∧ vs = [y] ∧ ds = [d] ∧ Atom y d ∧ Sa H (pt a (exo a C (some dx)) :: pt dx (exd dx [(f, y)]) :: l)
def exF (fl : List Str) (ds : List D) : List (D × D) := (fl.map .str).zip ds
theorem Made.fz {K : PySem.W.Frag} {H : Hp} {a C : Addr} {fl : List Str} {vs : List V} {ds : List D} {l : List Asn} (m : Made H a C fl vs ds l) : Gh H fun H' => Kept H H' ∧ RD K H' (.ref a) (excD C (exF fl ds)) ∧ Sa H' l := by
  rcases m with ⟨rfl, rfl, rfl, s⟩ | ⟨f, y, d, dx, rfl, rfl, rfl, at_, s⟩
  · exact s.locked trivial fun od H1 e k1 s1 => .now ⟨k1, .exc (d := none) ⟨od, _, by rw [e, upd_same], .inl rfl⟩ (.inl ⟨rfl, rfl⟩), s1⟩
  · refine s.locked trivial fun od H1 e k1 s1 => s1.locked trivial fun od2 H2 e2 k2 s2 => .now ⟨k1.trans k2, .exc (d := some dx) ?_ (.inr ⟨dx, f, y, d, rfl, ?_, at_, rfl⟩), s2⟩
    · have h1 : XObj H1 a C (some dx) := ⟨od, _, by rw [e, upd_same], .inl rfl⟩
      exact h1.kept k2
    · exact .inr ⟨od2, by rw [e2, upd_same]⟩

section
variable {X : Cx} {pins : List (Addr × Obj)} {σ : L2.St} {H : Hp} {s : Shared} {a C fI : Addr} {b : Eb} {fl : List Str} {k : Nat} {fd : FuncData} {ps : List Str} {vs : List V} {us : List Value} {ds : List D} {l : List Asn}
/-- what is known of the call's end -/
theorem run_exc {R : Value → Shared → Prop} (T : XcK X.K b C fI) (F1 : FnOk X.prog X.w X.K X.mg X.base (L2.CX X.prog X.w) k fI fd ps (spX C fl)) (hr : Room (k + 1) X.A) (hb : Binds X.K fd ps []) (I : Inv X pins σ H s) (r : Vals vs us) (hin : XIn fl vs ds) (sa : Sa H l)
    (h : ∀ p H2 s', s.heap.get? p = none → Inv X pins σ H2 s' → Made H2 p C fl vs ds l → R (.ref p) s') : wpAny (model X.prog X.w) X.A (call (.ref C) us) R X.xe s := by
  obtain ⟨nm, N, qn, bs, bm, hd, sn, sub, ab, col, dd, k0, k1, k2, k3, k5, hC, hT⟩ := PySem.W.excInit_of I.kIn T.lay
  obtain ⟨hp, gn, dr, tk, os⟩ := s
  have big : hp.objs.size ≤ hp.objs.size + 1 := Nat.le_succ _
  have gone : H (hp.objs.size + 1) = none := I.hok.fresh big
  have sa2 := sa.made (o := exo (hp.objs.size + 1) C none) gone fun z => z
  have hq : spX C fl (.ref (hp.objs.size + 1) :: vs) (upd H (hp.objs.size + 1) (exo (hp.objs.size + 1) C none)) (fun v H2 => v = .non ∧ Made H2 (hp.objs.size + 1) C fl vs ds l) (fun _ _ _ => False) := by
    rcases hin with ⟨rfl, rfl, rfl⟩ | ⟨f, y, d, rfl, rfl, rfl, at_⟩
    · exact ⟨_, l, rfl, sa2, fun H' z => .now ⟨rfl, .inl ⟨rfl, rfl, rfl, z⟩⟩⟩
    · exact ⟨_, y, d, l, rfl, at_, sa2, fun dx H' z => .now ⟨rfl, .inr ⟨f, y, d, dx, rfl, rfl, rfl, at_, z⟩⟩⟩
  have keep : ∀ c o, hp.get? c = some o → ((hp.push (PySem.W.kdv_tup us)).push (PySem.HandSPX.excO C hp.objs.size)).get? c = some o := fun c o e => Heap.get?_push_of_some _ (Heap.get?_push_of_some _ e)
  have there : ((hp.push (PySem.W.kdv_tup us)).push (PySem.HandSPX.excO C hp.objs.size)).get? (hp.objs.size + 1) = some (PySem.HandSPX.excO C hp.objs.size) := by heap_get
  have I2 := I.laid (t' := tk) (a := hp.objs.size + 1) (o := exo (hp.objs.size + 1) C none) (h' := (hp.push (PySem.W.kdv_tup us)).push (PySem.HandSPX.excO C hp.objs.size)) keep big (exo_ok there)
  have r2 : Vals (V.ref (hp.objs.size + 1) :: vs) (Value.ref (hp.objs.size + 1) :: us) := .cons rfl r
  have lens : (Value.ref (hp.objs.size + 1) :: us ++ []).length = ps.length := by
    have e := r2.length
    rw [F1.len _ _ _ _ hq] at e
    rw [List.append_nil]
    exact e.symm
  have few : us.length ≤ sizeLine := by
    rw [← Paired.length r, sizeLine_eq]
    rcases hin with ⟨_, rfl, _⟩ | ⟨f, y, d, _, rfl, _⟩ <;> simp
  have b2 := hb _ (Value.ref (hp.objs.size + 1) :: us) I2.kIn lens
  rw [List.append_nil] at b2
  refine wpAny_call (PySem.HandSPX.call_own (ebF b) hT hC (PySem.W.looks_findIn I.kIn T.ini) (fun self => PySem.W.bind_fn I.kIn self T.tyI) few
    (codeAny_mono (F1.run _ X.stack _ _ ⟨Value.ref (hp.objs.size + 1) :: us, []⟩ (Value.ref (hp.objs.size + 1) :: us) _ _ (fun _ _ _ => False) (hr.make C us []) (I2.env0.make C us []) b2 r2 hq) fun q s' z => ?_))
  cases q with
  | error x => exact (pas_none (Pr := X.prog) (w := X.w) (X := X) pins σ _ _ x s' I2 z)
  | ok fl0 =>
    cases fl0 with
    | ret u =>
      obtain ⟨v, H2, J, rv, ev, m⟩ := I2.after z
      subst ev
      exact ⟨rv, h _ H2 s' (Heap.get?_none_of_le big) J m⟩
    | next => exact False.elim z
    | brk => exact False.elim z
    | cont => exact False.elim z
/-- a thing of ours that was not there at the entry is forgotten, with its object -/
theorem inv_drop {φ : Heap → Prop} (I : Inv X pins σ H s) (ha : H a = some (.ext φ)) (n0 : X.s_0.heap.get? a = none) : ∃ G : Heap, (∀ c o, G.get? c = some o → s.heap.get? c = some o) ∧ G.get? a = none ∧ Inv X pins σ (delH H a) { s with heap := G } := by
  obtain ⟨G, h1, h2⟩ := restrict s.heap fun c => decide (c ≠ a)
  have stay : ∀ {c : Addr} {o : Obj}, c ≠ a → s.heap.get? c = some o → G.get? c = some o := fun {c o} n e => (h1 c (decide_eq_true n)).trans e
  have none_a : G.get? a = none := h2 a (decide_eq_false fun z => z rfl)
  have from_ : ∀ c o, G.get? c = some o → s.heap.get? c = some o := fun c o e => by
    by_cases n : c = a
    · rw [n, none_a] at e; cases e
    · rw [← h1 c (decide_eq_true n)]; exact e
  have old : ∀ {c : Addr} {o : Obj}, X.s_0.heap.get? c = some o → c ≠ a := fun {c o} e z => by rw [z, n0] at e; cases e
  have free : ∀ {c : Addr}, H c = none → c ≠ a := fun {c} e z => by rw [z, ha] at e; cases e
  have other : ∀ {c : Addr} {u : HO}, H c = some u → u ≠ .ext φ → c ≠ a := fun {c u} e d z => by rw [z, ha] at e; exact d (Option.some.inj e).symm
  have cells : ∀ x c, X.env.cells.lookup x = some c → ∀ v, s.heap.IsCell c v → G.IsCell c v := fun x c e v ⟨o, e1, e2⟩ => ⟨o, stay (free (I.freeC x c e)) e1, e2⟩
  have dn : ∀ {c : Addr}, c ≠ a → delH H a c = H c := fun n => delH_ne n
  have un : Un X.fs X.ex X.H_0 (delH H a) X.s_0.heap G := by
    refine ⟨fun c o e n f x => stay (old e) (I.base.keep c o e n f x), fun c o e n f x => ?_, fun c o e n x => ?_, fun c o e x => ?_, fun c xs e => ?_, fun c o u e => ?_, fun c ps e => ?_⟩
    · obtain ⟨sl, q⟩ := I.base.slot c o e n f x
      exact ⟨sl, stay (old e) q⟩
    · rw [dn (old e)]; exact I.base.free c o e n x
    · obtain ⟨o2, q⟩ := I.base.there c o e x
      exact ⟨o2, stay (old e) q⟩
    · have q := I.base.tups c xs e
      rw [dn (other q (by intro z; cases z))]; exact q
    · have q := I.base.frzs c o u e
      rw [dn (other q (by intro z; cases z))]; exact q
    · obtain ⟨m, q⟩ := I.base.tbls c ps e
      exact ⟨m, by rw [dn (other q (by intro z; cases z))]; exact q⟩
  refine ⟨G, from_, none_a, I.ok, I.os, I.bare, un, ?_, fun x c e => ?_, ?_, fun x c e => ?_, fun p hp => ?_, fun c u e => ?_, I.len⟩
  · obtain ⟨m, ⟨o, es, ep, ho, r⟩, hl⟩ := I.loc
    refine ⟨m, ⟨o, es, ep, stay (free I.free) ho, r⟩, fun i x v e1 e2 e3 => ?_⟩
    obtain ⟨u, r', lk⟩ := hl i x v e1 e2 e3
    exact ⟨u, r', lk.imp id fun ⟨kd, c, ec, z⟩ => ⟨kd, c, ec, cells x c ec _ z⟩⟩
  · obtain ⟨v, z⟩ := I.cell x c e
    exact ⟨v, cells x c e v z⟩
  · rw [dn (free I.free)]; exact I.free
  · rw [dn (free (I.freeC x c e))]; exact I.freeC x c e
  · obtain ⟨e1, n, rest⟩ := I.pin p hp
    exact ⟨stay (free n) e1, by rw [dn (free n)]; exact n, rest⟩
  · have n : c ≠ a := fun z => by rw [z, delH_same] at e; cases e
    rw [dn n] at e
    refine (I.hok c u e).stay (fun c2 v w g => stay ?_ g) (fun c2 w => ?_) fun c2 xs w => ?_
    · rcases w with w | w
      · rw [w]; exact n
      · exact other w (by intro z; cases z)
    · rw [dn (other w (by intro z; cases z))]; exact w
    · rw [dn (other w (by intro z; cases z))]; exact w
theorem Sa.del {o : HO} (h : Sa H (pt a o :: l)) : Sa (delH H a) l := by
  obtain ⟨p, q, r, ⟨h1, h1', hq⟩, h2, h3, h4⟩ := h
  refine ⟨r, h2.loc fun c u e z => ?_⟩
  rw [delH_ne]
  · exact e
  · rintro rfl
    rcases z with z | z
    · exact h3 c ((hq c).2 rfl) z
    · rw [h1] at e; cases e; exact h1' z
/-- it is let go, to fly -/
theorem Made.fly (m : Made H a C fl vs ds l) (I : Inv X pins σ H s) (n0 : X.s_0.heap.get? a = none) :
    ∃ (G : Heap) (H' : Hp) (d : Option Addr) (t0 : Addr), (∀ c o, G.get? c = some o → s.heap.get? c = some o) ∧ G.get? a = none ∧ Inv X pins σ H' { s with heap := G } ∧ H' a = none ∧ XFields H' d (exF fl ds) ∧ Sa H' l ∧
      s.heap.get? a = some ({ cls := .ref C, dict := d, data := .fields #[.ref t0, .none, .none, .none, .bool false, .none] } : Obj) := by
  rcases m with ⟨rfl, rfl, rfl, sa⟩ | ⟨f, y, d, dx, rfl, rfl, rfl, at_, sa⟩
  · obtain ⟨t0, ho⟩ := exo_at I.hok sa.pt_get
    obtain ⟨G, g1, g2, J⟩ := inv_drop I sa.pt_get n0
    exact ⟨G, _, none, t0, g1, g2, J, delH_same, .inl ⟨rfl, rfl⟩, sa.del, ho⟩
  · obtain ⟨t0, ho⟩ := exo_at I.hok sa.pt_get
    obtain ⟨G, g1, g2, J⟩ := inv_drop I sa.pt_get n0
    have s1 := sa.del
    obtain ⟨od, J2⟩ := J.lock s1.pt_get trivial
    have ne : a ≠ dx := fun z => by
      have := s1.pt_get
      rw [← z, delH_same] at this
      cases this
    exact ⟨G, _, some dx, t0, g1, g2, J2, by rw [upd_ne ne, delH_same], .inr ⟨dx, f, y, d, rfl, .inr ⟨od, upd_same⟩, at_, rfl⟩, s1.drop, ho⟩
end

/-- what a class of errors does when it is called -/
structure XcOk (Pr : Program) (w : World) (K : PySem.W.Frag) (mg : Str → Option Value) (base : Heap) (e : Ec) : Prop where
  mak : ∃ fI fd ps, XcK K e.base e.adr fI ∧ FnOk Pr w K mg base (L2.CX Pr w) 2 fI fd ps (spX e.adr e.fields) ∧ Binds K fd ps [] ∧ ∀ f ∈ e.fields, ∀ (s : Shared) (a v : Value), BindsTo s fd ⟨[a], [(f, v)]⟩ (ps.zip [a, v])
  mg : mg e.name = some (.ref e.adr)
section
variable {X : Cx} {P : Prog} {cf : Cf} {W : WX} {XR : Hp → Value → Option Addr → D → Prop}
variable {H : Hp} {σ : L2.St} {st : Stt} {l : List Asn}
/-- C(..) as a value -/
def tMkX (C : Addr) (fl : List Str) (ta : TA) : TE := fun σ H Q => ta σ H fun vs H1 => ∃ l ds, XIn fl vs ds ∧ Sa H1 l ∧ ∀ a H2, Made H2 a C fl vs ds l → Q (.ref a) H2
def tRaX (C : Addr) (fl : List Str) (ta : TA) : L2.St → Hp → XK → Prop := fun σ H Q => ta σ H fun vs H1 => ∃ l ds, XIn fl vs ds ∧ Sa H1 l ∧ ∀ d H2, XFields H2 d (exF fl ds) → Sa H2 l → Q (.ref C) d H2
variable {e0 : Ec} {x : Str} {e' : Expr} {es' : List Expr} {ta : TA} {p pos : Pos}
theorem pe_mkX (hr : Room 3 X.A) (F : XcOk X.prog X.w X.K X.mg X.base e0) (hx : x = e0.name) (hg : glob X.env.scope x = true) (ha : PA X (e' :: es') ta) (hs : noStars (e' :: es') = true) : PE X (.Call (.Name x p) (e' :: es') [] pos) (tMkX e0.adr e0.fields ta) := by
  obtain ⟨g1, g2, g3⟩ := glob_ok hg
  subst hx
  obtain ⟨fI, fd, ps, T, F1, hb, _⟩ := F.mak
  rw [noStars, Bool.and_eq_true] at hs
  refine ⟨fun pins s σ H Q I h => ?_⟩
  refine wpAny_Call_Name_kw (ld_glob I g1 F.mg ?_ g2)
  refine PySem.W.callWith_K (h₀ := X.base) I.ok.mod.kin T.kpC (thn (ha.run pos pins s σ H _ I h) fun us s1 ⟨vs, H1, I1, r1, l, ds, hin, sa, q⟩ => ⟨I1.kIn, ?_⟩) (star_cons hs.1) (star_any hs.2)
  exact run_exc T F1 hr hb I1 r1 hin sa fun a H2 s' _ J m => ⟨.ref a, H2, J, rfl, q a H2 m⟩
theorem pe_mkX0 (hr : Room 3 X.A) (F : XcOk X.prog X.w X.K X.mg X.base e0) (hx : x = e0.name) (hg : glob X.env.scope x = true) : PE X (.Call (.Name x p) [] [] pos) (tMkX e0.adr e0.fields tNil) := by
  obtain ⟨g1, g2, g3⟩ := glob_ok hg
  subst hx
  obtain ⟨fI, fd, ps, T, F1, hb, _⟩ := F.mak
  refine ⟨fun pins s σ H Q I h => ?_⟩
  obtain ⟨l, ds, hin, sa, q⟩ := h
  refine wpAny_Call_Name_kw (ld_glob I g1 F.mg ?_ g2)
  exact PySem.W.callWith_K0 I.kIn T.kpC (run_exc (us := []) T F1 hr hb I .nil hin sa fun a H2 s' _ J m => ⟨.ref a, H2, J, rfl, q a H2 m⟩)
theorem new_old {pins : List (Addr × Obj)} {s : Shared} (I : Inv X pins σ H s) (hx : X.ex = []) {a : Addr} (n : s.heap.get? a = none) : X.s_0.heap.get? a = none := by
  cases e : X.s_0.heap.get? a with
  | none => rfl
  | some o =>
    obtain ⟨o2, q⟩ := I.base.there a o e (by rw [hx]; simp)
    rw [n] at q; cases q
theorem mkp_of {pins : List (Addr × Obj)} {s s' : Shared} {H1 H2 : Hp} {a C fI : Addr} {b : Eb} {fl : List Str} {vs : List V} {ds : List D} {Q : XK} (T : XcK X.K b C fI) (hx : X.ex = []) (I : Inv X pins σ H1 s) (n : s.heap.get? a = none) (J : Inv X pins σ H2 s') (m : Made H2 a C fl vs ds l)
    (q : ∀ d H2, XFields H2 d (exF fl ds) → Sa H2 l → Q (.ref C) d H2) : MkP X pins σ Q (.ref a) s' := by
  obtain ⟨G, H', d, t0, g1, g2, J2, na, hf, sa, ho⟩ := m.fly J (new_old I hx n)
  exact ⟨a, _, _, { s' with heap := G }, H', .ref C, d, rfl, J2, g1, g2, ho, ⟨rfl, rfl⟩, rfl, rfl, na, rfl, J.bare, raises_own T.exC T.tyC, q d H' hf sa⟩
theorem pmk_X (hr : Room 3 X.A) (hex : X.ex = []) (F : XcOk X.prog X.w X.K X.mg X.base e0) (hx : x = e0.name) (hg : glob X.env.scope x = true) (ha : PA X (e' :: es') ta) (hs : noStars (e' :: es') = true) : PMk X (.Call (.Name x p) (e' :: es') [] pos) (tRaX e0.adr e0.fields ta) := by
  obtain ⟨g1, g2, g3⟩ := glob_ok hg
  subst hx
  obtain ⟨fI, fd, ps, T, F1, hb, _⟩ := F.mak
  rw [noStars, Bool.and_eq_true] at hs
  intro pins s σ H Q I h
  refine wpAny_Call_Name_kw (ld_glob I g1 F.mg ?_ g2)
  refine PySem.W.callWith_K (h₀ := X.base) I.ok.mod.kin T.kpC (thn (ha.run pos pins s σ H _ I h) fun us s1 ⟨vs, H1, I1, r1, l, ds, hin, sa, q⟩ => ⟨I1.kIn, ?_⟩) (star_cons hs.1) (star_any hs.2)
  exact run_exc T F1 hr hb I1 r1 hin sa fun a H2 s' n J m => mkp_of T hex I1 n J m q
theorem pmk_X0 (hr : Room 3 X.A) (hex : X.ex = []) (F : XcOk X.prog X.w X.K X.mg X.base e0) (hx : x = e0.name) (hg : glob X.env.scope x = true) : PMk X (.Call (.Name x p) [] [] pos) (tRaX e0.adr e0.fields tNil) := by
  obtain ⟨g1, g2, g3⟩ := glob_ok hg
  subst hx
  obtain ⟨fI, fd, ps, T, F1, hb, _⟩ := F.mak
  intro pins s σ H Q I h
  obtain ⟨l, ds, hin, sa, q⟩ := h
  refine wpAny_Call_Name_kw (ld_glob I g1 F.mg ?_ g2)
  exact PySem.W.callWith_K0 I.kIn T.kpC (run_exc (us := []) T F1 hr hb I .nil hin sa fun a H2 s' n J m => mkp_of T hex I n J m q)
end
end Ur
end
section
set_option linter.all false
set_option autoImplicit false
set_option maxHeartbeats 1000000
/-! UrI1: which piece of the program is which piece of the small language. -/
namespace Ur
open PySem L2
def visB (N : List Str) (sc : Scope) (i : Nat) (x : Str) : Bool :=
  decide (N[i]? = some x) && (match sc.names.lookup x with | some .local => true | some .cell => true | some .free => true | _ => false) && !(x == ("__debug__" : Str)) && !(x == ("__classdict__" : Str))
def locB (N : List Str) (sc : Scope) (fn : Str → Bool) (i : Nat) (x : Str) : Bool :=
  decide (N[i]? = some x) && (match sc.names.lookup x with | some .local => true | some .cell => fn x | _ => false)
theorem visB_ok {N : List Str} {sc : Scope} {i : Nat} {x : Str} (h : visB N sc i x = true) : N[i]? = some x ∧ Vis sc x ∧ (x == ("__debug__" : Str)) = false ∧ (x == ("__classdict__" : Str)) = false := by
  unfold visB at h
  simp only [Bool.and_eq_true, decide_eq_true_eq, Bool.not_eq_true'] at h
  obtain ⟨⟨⟨h1, h2⟩, h3⟩, h4⟩ := h
  refine ⟨h1, ?_, h3, h4⟩
  split at h2
  · exact .inl ‹_›
  · exact .inr (.inl ‹_›)
  · exact .inr (.inr ‹_›)
  · cases h2
theorem locB_ok {N : List Str} {sc : Scope} {fn : Str → Bool} {i : Nat} {x : Str} (h : locB N sc fn i x = true) : N[i]? = some x ∧ Loc sc x ∧ (fn x = true ∨ sc.names.lookup x = some .local) := by
  unfold locB at h
  simp only [Bool.and_eq_true, decide_eq_true_eq] at h
  obtain ⟨h1, h2⟩ := h
  refine ⟨h1, ?_⟩
  split at h2
  · exact ⟨.inl ‹_›, .inr ‹_›⟩
  · exact ⟨.inr ‹_›, .inl h2⟩
  · cases h2
def namesT (N : List Str) (sc : Scope) (fn : Str → Bool) : List Nat → List Expr → Bool
  | [], [] => true
  | i :: is, .Name x _ :: r => locB N sc fn i x && namesT N sc fn is r
  | _, _ => false
def mTg (N : List Str) (sc : Scope) (fn : Str → Bool) : Tg → Expr → Bool
  | .nm i, .Name x _ => locB N sc fn i x
  | .tup is, .Tuple es _ _ => namesT N sc fn is es
  | _, _ => false
/-- no set is written there -/
def notSet : Expr → Bool
  | .Set .. => false
  | _ => true
theorem notSet_ok {e : Expr} {env : Env} (h : notSet e = true) : ∀ x, foldedSetIterable e env x = pure x := by
  intro x
  cases e <;> first | rfl | cases h
def isTup : Expr → Bool
  | .Tuple .. => true
  | _ => false
/-- tests that are their value's truth -/
def plainT : Expr → Bool
  | .UnaryOp .Not _ _ => false
  | .BoolOp .. => false
  | .IfExp .. => false
  | .Compare .. => false
  | _ => true
theorem plainT_ok {e : Expr} {env : Env} (h : plainT e = true) : ∀ whole, isTrue e env whole = (do let v ← whole; standAt e.pos; holding [v] (truthy v)) := by
  intro whole
  cases e <;> first | rfl | (exact absurd h Bool.false_ne_true) | skip
  rename_i op _ _
  cases op <;> first | rfl | (exact absurd h Bool.false_ne_true)
section
variable {X : Cx} {P : Prog} {cf : Cf} {W : WX} {XR : Hp → Value → Option Addr → D → Prop}
theorem names_pg {N : List Str} {sc : Scope} {fn : Str → Bool} (hN : X.N = N) (nd : N.Nodup) (hsc : X.env.scope = sc) (hfn : X.fn = fn) : ∀ {is : List Nat} {es : List Expr}, namesT N sc fn is es = true → PGs X es (gIs is) ∧ (assignEach es X.env).length = is.length ∧ (assignEach es X.env).findIdx? (·.1) = none ∧ ∀ i ∈ is, i < N.length
  | [], [], _ => ⟨pgs_nil, rfl, rfl, fun i h => by simp at h⟩
  | [], _ :: _, h => by simp [namesT] at h
  | i :: is, [], h => by simp [namesT] at h
  | i :: is, e :: es, h => by
    cases e <;> try (simp [namesT] at h; done)
    rename_i x p
    rw [namesT, Bool.and_eq_true] at h
    obtain ⟨h1, h2⟩ := h
    obtain ⟨a, b, c⟩ := locB_ok h1
    subst hN hsc hfn
    obtain ⟨g1, g2, g3, g4⟩ := names_pg rfl nd rfl rfl h2
    have hc : X.fn x = true ∨ X.env.scope.names.lookup x = some .local := c
    refine ⟨pgs_cons (pg_name nd a b c) g1 rfl, ?_, ?_, fun j hj => ?_⟩
    · show (assignEach es X.env).length + 1 = is.length + 1
      rw [g2]
    · show List.findIdx? (·.1) ((false, assign (.Name x p) X.env) :: assignEach es X.env) = none
      rw [List.findIdx?_cons, g3]
      rfl
    · rcases List.mem_cons.mp hj with rfl | hj
      · exact (List.getElem?_eq_some_iff.mp a).1
      · exact g4 j hj
theorem pg_or {e : Expr} {t t' : TG} (h : PG X e t) (h' : PG X e t') : PG X e (fun v σ H Q => t v σ H Q ∨ t' v σ H Q) := by
  refine ⟨fun pins s σ H v u Q I r q => ?_⟩
  rcases q with q | q
  · exact h.run pins s σ H v u Q I r q
  · exact h'.run pins s σ H v u Q I r q
theorem tg_pg {N : List Str} {sc : Scope} {fn : Str → Bool} (hN : X.N = N) (nd : N.Nodup) (hsc : X.env.scope = sc) (hfn : X.fn = fn) (hc : X.calm = true) {tg : Tg} {e : Expr} (h : mTg N sc fn tg e = true) : PG X e (gT X.K tg) ∧ ∀ i ∈ tg.slots, i < N.length := by
  cases tg with
  | nm i =>
    cases e <;> try (simp [mTg] at h; done)
    obtain ⟨a, b, c⟩ := locB_ok h
    subst hN hsc hfn
    refine ⟨pg_name nd a b c, fun j hj => ?_⟩
    have : j = i := by simpa [Tg.slots] using hj
    subst this
    exact (List.getElem?_eq_some_iff.mp a).1
  | tup is =>
    cases e <;> try (simp [mTg] at h; done)
    obtain ⟨g1, g2, g3, g4⟩ := names_pg hN nd hsc hfn h
    exact ⟨pg_or (pg_tup hc g1 g2 g3) (pg_lst hc g1 g2 g3), g4⟩
/-- a choice as a test -/
theorem rT_ite {c a b : E} {c' a' b' : Expr} {pos : Pos} (hc : PT X c' (tT X.K XR P cf W c)) (ha : PT X a' (tT X.K XR P cf W a)) (hb : PT X b' (tT X.K XR P cf W b)) : PT X (.IfExp c' a' b' pos) (tT X.K XR P cf W (.ite c a b)) := by
  refine ⟨fun pins s0 σ H Q I q => ?_⟩
  obtain ⟨st, l, s, h⟩ := q
  have h : Aft X.K XR W σ l (fun b st' => ∀ H', Sl X.K H' σ st' l → Gh H' (Q b)) (tst (bd (ev P cf c st) fun x s => match truD x.fz with
    | some true => ev P cf a s
    | some false => ev P cf b s
    | none => none)) := h
  rw [tst_bd] at h
  have h2 : Aft X.K XR W σ l (fun b st' => ∀ H', Sl X.K H' σ st' l → Gh H' (Q b)) (bd (tst (ev P cf c st)) fun t s => if t then tst (ev P cf a s) else tst (ev P cf b s)) := by
    refine cast ?_ h
    congr 1
    unfold tst bd
    cases ev P cf c st with
    | none => rfl
    | some p =>
      obtain ⟨r, s1⟩ := p
      cases r with
      | ex _ => rfl
      | ok x =>
        dsimp only
        cases truD x.fz with
        | none => rfl
        | some t => cases t <;> rfl
  show wpAny _ _ (do if ← isTrue c' X.env (eval c' X.env) then isTrue a' X.env (eval a' X.env) else isTrue b' X.env (eval b' X.env)) _ _ s0
  refine wpAny_bind (thn ((pt_gh hc).run pins s0 σ H (fun t H1 => if t = true then tT X.K XR P cf W a σ H1 Q else tT X.K XR P cf W b σ H1 Q) I ⟨st, l, s, aft_bd X.K XR h2 fun t st1 h3 H1 s1 => .now (.now ?_)⟩) fun t s1 ⟨H1, I1, q1⟩ => ?_)
  · cases t with
    | true => exact ⟨st1, l, s1, h3⟩
    | false => exact ⟨st1, l, s1, h3⟩
  · cases t with
    | true =>
      rw [if_pos rfl] at q1 ⊢
      exact ha.run pins s1 σ H1 Q I1 q1
    | false =>
      rw [if_neg (by simp)] at q1 ⊢
      exact hb.run pins s1 σ H1 Q I1 q1
end
end Ur
end
section
set_option linter.all false
set_option autoImplicit false
set_option maxRecDepth 100000
set_option maxHeartbeats 2000000
/-! UrX4: errors as values, raise, try. -/
namespace Ur
open PySem L2 PyProof.Rows

/-- what flies is an error of the program -/
def xr (ecs : List Ec) : Hp → Value → Option Addr → D → Prop := fun H cls d x => ∃ e ∈ ecs, ∃ fs, cls = .ref e.adr ∧ XFields H d fs ∧ x = excD e.adr fs
theorem xin_of {K : PySem.W.Frag} {H : Hp} {fl : List Str} {vs : List V} {ds : List D} (r : RDs K H vs ds) (e : fl.length = ds.length) (z : ds.length ≤ 1) (h : ds.all atomB = true) : XIn fl vs ds := by
  match ds, r, z with
  | [], .nil, _ => exact .inl ⟨List.length_eq_zero_iff.mp e, rfl, rfl⟩
  | [d], .cons h1 .nil, _ =>
    obtain ⟨f, rfl⟩ := List.length_eq_one_iff.mp (show fl.length = 1 from e)
    exact .inr ⟨f, _, d, rfl, rfl, rfl, .of h1 (by simpa using h)⟩
  | _ :: _ :: _, _, z => simp at z
theorem tyD_exc {ecs : List Ec} {c : Nat} {fs : List (D × D)} {ty : Ty} : tyD ecs (excD c fs) ty = tyD ecs (excD c []) ty := by cases ty <;> rfl
section
variable {X : Cx} {P : Prog} {cf : Cf} {W : WX} {fx : List Nat}
variable {H : Hp} {σ : L2.St} {st : Stt} {l : List Asn} {pins : List (Addr × Obj)} {s : Shared} {a : Addr}
theorem mkEx_ok {ecs : List Ec} {c : Nat} {e0 : Ec} {ks : List Str} {ds : List D} {d : D} (hc : ecs[c]? = some e0) (h : mkEx ecs c ks ds = some d) : e0.fields.length = ds.length ∧ ds.length ≤ 1 ∧ (ks = [] ∨ ks = e0.fields) ∧ ds.all atomB = true ∧ d = excD e0.adr (exF e0.fields ds) := by
  unfold mkEx at h
  rw [hc] at h
  dsimp only at h
  split at h
  · rename_i q
    exact ⟨q.1, q.2.1, q.2.2.1, q.2.2.2.1, (Option.some.inj h).symm⟩
  · cases h
theorem mkx_read {XR : Hp → Value → Option Addr → D → Prop} {c : Nat} {e0 : Ec} {x : Str} {ks : List Str} {es : Es} {Q : VK} (hc : P.ecs[c]? = some e0) (s : Sl X.K H σ st l)
    (h : Aft X.K XR W σ l (fun o st' => ∀ v H', Sl X.K H' σ st' (own X.K v o :: l) → Gh H' (Q v)) (ev P cf (.mkx x c ks es) st)) : tMkX e0.adr e0.fields (tEs X.K XR P cf W es) σ H fun v H' => Gh H' (Q v) := by
  have h : Aft X.K XR W σ l _ (bd (evs P cf es st) fun os s => lfd (mkEx P.ecs c ks (fzs os)) s) := h
  refine ⟨st, l, s, aft_bd X.K XR h fun os st1 h1 vs H1 hl s1 => (s1.fzs hl).imp fun H2 ⟨k2, r2, s2⟩ => ?_⟩
  obtain ⟨d, ed, h1⟩ := aft_lfd h1
  obtain ⟨q1, q2, _, q4, rfl⟩ := mkEx_ok hc ed
  exact ⟨_, Ur.fzs os, xin_of r2 q1 q2 q4, s2.sa, fun a H3 m => m.fz.bind fun H4 ⟨_, rd, sa⟩ => h1 _ H4 ((show Sl X.K H4 σ st1 l from ⟨s2.ok, sa⟩).dat rd)⟩
theorem r_mkx {XR : Hp → Value → Option Addr → D → Prop} {c : Nat} {e0 : Ec} {x : Str} {es : Es} {e' : Expr} {es' : List Expr} {p pos : Pos} (hr : Room 3 X.A) (F : XcOk X.prog X.w X.K X.mg X.base e0) (hc : P.ecs[c]? = some e0) (hx : x = e0.name) (hg : glob X.env.scope x = true)
    (ha : PA X (e' :: es') (tEs X.K XR P cf W es)) (hs : noStars (e' :: es') = true) : PE X (.Call (.Name x p) (e' :: es') [] pos) (tE X.K XR P cf W (.mkx x c [] es)) :=
  pe_to (pe_mkX hr F hx hg ha hs) fun σ H Q ⟨st, l, s, h⟩ => (mkx_read hc s h : _)
theorem r_mkx0 {XR : Hp → Value → Option Addr → D → Prop} {c : Nat} {e0 : Ec} {x : Str} {p pos : Pos} (hr : Room 3 X.A) (F : XcOk X.prog X.w X.K X.mg X.base e0) (hc : P.ecs[c]? = some e0) (hx : x = e0.name) (hg : glob X.env.scope x = true) :
    PE X (.Call (.Name x p) [] [] pos) (tE X.K XR P cf W (.mkx x c [] .nil)) :=
  pe_to (pe_mkX0 hr F hx hg) fun σ H Q ⟨st, l, s, h⟩ => by
    have h : Aft X.K XR W σ l _ (lfd (mkEx P.ecs c [] []) st) := h
    obtain ⟨d, ed, h1⟩ := aft_lfd h
    obtain ⟨q1, q2, _, q4, rfl⟩ := mkEx_ok hc ed
    refine ⟨_, [], xin_of (K := X.K) (H := H) .nil q1 q2 q4, s.sa, fun a H3 m => m.fz.bind fun H4 ⟨_, rd, sa⟩ => h1 _ H4 ((show Sl X.K H4 σ st l from ⟨s.ok, sa⟩).dat rd)⟩
/-! ### raise -/
theorem rs_rai {c : Nat} {e0 : Ec} {x : Str} {es : Es} {e' : Expr} {es' : List Expr} {p pos pos2 : Pos} (hcalm : X.calm = true) (tk : Takes X W) (hr : Room 3 X.A) (hex : X.ex = []) (F : XcOk X.prog X.w X.K X.mg X.base e0) (hc : P.ecs[c]? = some e0) (hx : x = e0.name) (hg : glob X.env.scope x = true)
    (ha : PA X (e' :: es') (tEs X.K (xr P.ecs) P cf W es)) (hs : noStars (e' :: es') = true) : PS X (.Raise (some (.Call (.Name x p) (e' :: es') [] pos)) none pos2) (tS X.K (xr P.ecs) P cf W fx (.rai x c es)) :=
  ps_to (ps_raise hcalm (takes_gh tk) (pmk_X hr hex F hx hg ha hs)) fun D σ H ⟨st, l, s, h⟩ => by
    have h : AftS X.K (xr P.ecs) W fx σ l D (bf (evs P cf es st) fun os s => match mkEx P.ecs c [] (fzs os) with
      | some x => some (.ex x, s)
      | none => none) := h
    refine ⟨st, l, s, aftS_bf h fun os st1 h1 vs H1 hl s1 => (s1.fzs hl).imp fun H2 ⟨k2, r2, s2⟩ => ?_⟩
    split at h1
    · rename_i d ed
      obtain ⟨q1, q2, _, q4, rfl⟩ := mkEx_ok hc ed
      refine ⟨_, Ur.fzs os, xin_of r2 q1 q2 q4, s2.sa, fun dd H3 xf sa => ?_⟩
      exact h1 σ H3 _ dd .refl ⟨e0, List.mem_of_getElem? hc, _, rfl, xf, rfl⟩ ⟨s2.ok, sa⟩
    · exact h1.elim
theorem rs_rai0 {c : Nat} {e0 : Ec} {x : Str} {p pos pos2 : Pos} (hcalm : X.calm = true) (tk : Takes X W) (hr : Room 3 X.A) (hex : X.ex = []) (F : XcOk X.prog X.w X.K X.mg X.base e0) (hc : P.ecs[c]? = some e0) (hx : x = e0.name) (hg : glob X.env.scope x = true) :
    PS X (.Raise (some (.Call (.Name x p) [] [] pos)) none pos2) (tS X.K (xr P.ecs) P cf W fx (.rai x c .nil)) :=
  ps_to (ps_raise hcalm (takes_gh tk) (pmk_X0 hr hex F hx hg)) fun D σ H ⟨st, l, s, h⟩ => by
    have h : AftS X.K (xr P.ecs) W fx σ l D (match mkEx P.ecs c [] [] with
      | some x => some (.ex x, st)
      | none => none) := h
    split at h
    · rename_i d ed
      obtain ⟨q1, q2, _, q4, rfl⟩ := mkEx_ok hc ed
      refine ⟨_, [], xin_of (K := X.K) (H := H) .nil q1 q2 q4, s.sa, fun dd H3 xf sa => ?_⟩
      exact h σ H3 _ dd .refl ⟨e0, List.mem_of_getElem? hc, _, rfl, xf, rfl⟩ ⟨s.ok, sa⟩
    · exact h.elim
/-! ### try -/
/-- an object that was not tracked is tracked from now on -/
theorem inv_track {o : HO} (I : Inv X pins σ H s) (na : H a = none) (n0 : X.s_0.heap.get? a = none) (nL : X.env.locals ≠ a) (nc : ∀ x c, X.env.cells.lookup x = some c → c ≠ a) (np : ∀ p ∈ X.pn ++ pins, p.1 ≠ a) (hok : ObjOk X.prog X.w (upd H a o) s.heap a o) : Inv X pins σ (upd H a o) s := by
  have old : ∀ {c : Addr} {ob : Obj}, X.s_0.heap.get? c = some ob → c ≠ a := fun {c ob} e z => by rw [z, n0] at e; cases e
  have any : ∀ {c : Addr} {u : HO}, H c = some u → c ≠ a := fun {c u} e => ne_of_none e na
  refine ⟨I.ok, I.os, I.bare, ⟨I.base.keep, I.base.slot, fun c ob e n x => ?_, I.base.there, fun c xs e => ?_, fun c ob u e => ?_, fun c ps e => ?_⟩, I.loc, I.cell, ?_, fun x c e => ?_, fun p hp => ?_, fun c u e => ?_, I.len⟩
  · rw [upd_ne (old e)]; exact I.base.free c ob e n x
  · have q := I.base.tups c xs e
    rw [upd_ne (any q)]; exact q
  · have q := I.base.frzs c ob u e
    rw [upd_ne (any q)]; exact q
  · obtain ⟨m, q⟩ := I.base.tbls c ps e
    exact ⟨m, by rw [upd_ne (any q)]; exact q⟩
  · rw [upd_ne nL]; exact I.free
  · rw [upd_ne (nc x c e)]; exact I.freeC x c e
  · obtain ⟨e1, n, rest⟩ := I.pin p hp
    exact ⟨e1, by rw [upd_ne (np p hp)]; exact n, rest⟩
  · by_cases hc : c = a
    · subst hc
      rw [upd_same] at e
      cases e
      exact hok
    · rw [upd_ne hc] at e
      refine (I.hok c u e).stay (fun _ _ _ g => g) (fun c2 w => ?_) fun c2 xs w => ?_
      · rw [upd_ne (any w)]; exact w
      · rw [upd_ne (any w)]; exact w
theorem slots_off {K : PySem.W.Frag} : ∀ (σ : L2.St) (st : Stt) (i : Nat), slots K (σ.set i none) (st.set i none) = slots K σ (st.set i none)
  | [], st, i => by simp
  | x :: σ, [], i => by cases i <;> cases x <;> rfl
  | x :: σ, y :: st, 0 => by
    rw [List.set_cons_zero, List.set_cons_zero, slots_none, slots_none]
  | x :: σ, y :: st, i + 1 => by
    have ih := slots_off (K := K) σ st i
    rw [List.set_cons_succ, List.set_cons_succ]
    cases x with
    | none => exact ih
    | some x =>
      cases y with
      | none => exact ih
      | some y => exact congrArg (own K x y :: ·) ih
theorem Sl.off {K : PySem.W.Frag} (s : Sl K H σ st l) (i : Nat) : Sl K H (σ.set i none) (st.set i none) l := by
  have s1 := s.forget i
  refine ⟨⟨by simpa using s.ok.len, fun j o e => ?_⟩, by rw [slots_off]; exact s1.sa⟩
  by_cases hj : i = j
  · subst hj
    rw [List.getElem?_set] at e
    split at e <;> simp_all
  · rw [List.getElem?_set_ne hj] at e ⊢
    exact s.ok.has j o e
theorem Fix.off {τ : L2.St} {i : Nat} (hi : i ∉ fx) (h : Fix fx σ τ) : Fix fx σ (τ.set i none) := h.trans (Fix.set hi)
/-- the clauses -/
inductive HsOk (X : Cx) (P : Prog) (cf : Cf) (fx : List Nat) : Hs → List ExceptHandler → Prop
  | nil : HsOk X P cf fx .nil []
  | one {ty : Ty} {x y : Str} {b : Ss} {r : Hs} {c : Value} {np pos' : Pos} {b₀ : Stmt} {su : List Stmt} {hds : List ExceptHandler} (hc : Names X y c) (hx : ∀ e ∈ P.ecs, PySem.W.exmOne X.K (.ref e.adr) c = some (tyD P.ecs (excD e.adr []) ty))
      (hs : ∀ (a : Addr) (pn : List (Addr × Obj)), PSs (X.suite a pn) (b₀ :: su) (tSs X.K (xr P.ecs) P cf (fun _ _ _ _ => False) fx b)) (hr : HsOk X P cf fx r hds) : HsOk X P cf fx (.cons ty x none b r) (.ExceptHandler (some (.Name y np)) none (b₀ :: su) pos' :: hds)
  | named {ty : Ty} {x y z : Str} {i : Nat} {b : Ss} {r : Hs} {c : Value} {np pos' : Pos} {b₀ : Stmt} {su : List Stmt} {hds : List ExceptHandler} (hc : Names X y c) (hx : ∀ e ∈ P.ecs, PySem.W.exmOne X.K (.ref e.adr) c = some (tyD P.ecs (excD e.adr []) ty))
      (hi : X.N[i]? = some z) (hl : X.env.kindOf z = some .local) (hfx : i ∉ fx)
      (hs : ∀ (a : Addr) (pn : List (Addr × Obj)), PSs (X.suite a pn) (b₀ :: su) (tSs X.K (xr P.ecs) P cf (fun _ _ _ _ => False) fx b)) (hr : HsOk X P cf fx r hds) : HsOk X P cf fx (.cons ty x (some i) b r) (.ExceptHandler (some (.Name y np)) (some z) (b₀ :: su) pos' :: hds)
theorem suite_in (I : Inv X pins σ H s) : Inv (X.suite a (X.pn ++ pins)) [] σ H s :=
  ⟨I.ok.suite _ _, I.os, I.bare, I.base, I.loc, I.cell, I.free, I.freeC, fun p hp => I.pin p (by simpa using hp), I.hok, I.len⟩
theorem suite_out {pn' : List (Addr × Obj)} (I : Inv (X.suite a (X.pn ++ pins)) pn' σ H s) (ok : X.Ok) : Inv X pins σ H s :=
  ⟨ok, I.os, I.bare, I.base, I.loc, I.cell, I.free, I.freeC, fun p hp => I.pin p (List.mem_append_left _ hp), I.hok, I.len⟩
theorem rs_try {b : Ss} {h : Hs} {body : List Stmt} {h₀ : ExceptHandler} {hds : List ExceptHandler} {pos : Pos} (hst : X.stack = X.env :: X.outer) (hf : X.env.frame = some X.env.locals) (hex : X.ex = []) (hN : X.N.Nodup) (tk : Takes X W)
    (hb : ∀ (W' : WX) (pn : List (Addr × Obj)) (xe : Value → Shared → Prop), Takes (X.tr pn xe) W' → PassesOwn (model X.prog X.w) X.A X.env xe → PSs (X.tr pn xe) body (tSs X.K (xr P.ecs) P cf W' fx b))
    (hh : HsOk X P cf fx h (h₀ :: hds)) : PS X (.Try body (h₀ :: hds) [] [] pos) (tS X.K (xr P.ecs) P cf W fx (.try_ b h)) := by
  refine ⟨fun pins s σ H D I hw => ?_⟩
  obtain ⟨st, l, sl, hA⟩ := hw
  have hA : AftS X.K (xr P.ecs) W fx σ l D (match exs P cf b st with
    | some (.ex x, s') => exh P cf h x s'
    | m => m) := hA
  have ok := I.ok
  have hfr : X.A.frames = some (X.env :: X.outer) := by rw [ok.frames, hst]
  obtain ⟨W', eW⟩ : ∃ W' : WX, W' = fun cls d τ H' => ∃ x s', xr P.ecs H' cls d x ∧ Sl X.K H' τ s' l ∧ AftS X.K (xr P.ecs) W fx τ l D (exh P cf h x s') := ⟨_, rfl⟩
  have hw' : tSs X.K (xr P.ecs) P cf (fun cls d τ H' => Gh H' (W' cls d τ)) fx b D σ H := by
    refine ⟨st, l, sl, ?_⟩
    generalize exs P cf b st = m at hA
    match m, hA with
    | none, hA => exact hA
    | some (.nx, _), hA => exact hA
    | some (.rt _, _), hA => exact hA
    | some (.bk, _), hA => exact hA
    | some (.ct, _), hA => exact hA
    | some (.ex x, s'), hA => exact fun τ H1 cls d f xq s1 => .now (.now (by rw [eW]; exact ⟨x, s', xq, s1, aftS_fix f hA⟩))
  refine wpAny_Try_except ?_
  refine wpAny_mono ((hb (fun cls d τ H' => Gh H' (W' cls d τ)) (X.pn ++ pins) (fun e s₁ => wpAny (model X.prog X.w) X.A (noteFrame e X.env) (fun _ s₂ => wpAny (model X.prog X.w) X.A (setFlight e none) (fun _ s₃ =>
    wpAny (model X.prog X.w) X.A (handleBy e X.env (h₀ :: hds)) (SP X pins D) X.xe s₃) X.xe s₂) X.xe s₁) (takes_gh fun u s' xx => ?_) PassesOwn.looking).run [] s σ H D (I.toTry _) hw') (fun fl s1 hsp => ?_) (fun _ _ z => z)
  · rw [eW] at xx
    obtain ⟨a, B, sI, pins', τ, H1, cls, d, rfl, J0, nb, up, sky, na, os, ag, x, st1, hxr, sl1, hA1⟩ := xx
    have J : Inv X pins τ H1 sI := J0.ofTry ok
    have sky1 : Sky B (X.env :: X.outer) a (Zc cls d) X.env.locals s'.heap := by rw [← hst]; exact sky
    show wpAny (model X.prog X.w) X.A (noteFrame (.ref a) X.env) _ _ _
    refine Sky.land Zc.steady hfr hf sky1 fun h3 fl3 up3 => ?_
    have J3 : Inv X pins τ H1 { s' with heap := h3 } := J.landed nb fl3.1 (up.trans up3) os ag
    obtain ⟨oe3, vs3, he3, hz3, hd3⟩ := fl3.there
    have noB : B.get? a = none := fl3.2.1
    have nfr : a ∉ frs (X.env :: X.outer) := fun hm => by
      obtain ⟨_, o2, e2, hnf⟩ := (show h3.FunFrames B (X.env :: X.outer) from fl3.2.2.1).mem hm
      rw [he3] at e2; cases e2
      exact hnf _ hd3
    have nL : a ≠ X.env.locals := fun z => nfr (List.mem_filterMap.mpr ⟨X.env, List.mem_cons_self, by rw [hf, z]⟩)
    have nF : a ∉ X.fs := fun hm => by
      obtain ⟨e, he, q⟩ := List.mem_filterMap.mp hm
      exact nfr (List.mem_filterMap.mpr ⟨e, List.mem_cons_of_mem _ he, q⟩)
    have nSt : ∀ {c : Addr} {o : Obj}, sI.heap.get? c = some o → c ∉ frs X.stack → c ≠ a := fun {c o} e n z => by
      have := nb c o e n
      rw [z, noB] at this; cases this
    have n0 : X.s_0.heap.get? a = none := by
      cases e : X.s_0.heap.get? a with
      | none => rfl
      | some o =>
        obtain ⟨o2, q⟩ := J.base.there a o e (by rw [hex]; simp)
        exact absurd rfl (nSt q (by rw [hst]; exact nfr))
    have npn : ∀ p ∈ X.pn ++ pins, p.1 ≠ a := fun p hp => by
      obtain ⟨e1, n, m1, m2, _⟩ := J.pin p hp
      exact nSt e1 fun hm => (List.mem_cons.mp (J.stkSub p.1 hm)).elim m1 m2
    have S3 := J3.suite he3 hd3 na nL nF
    obtain ⟨e0, he0, fs, rfl, hf0, rfl⟩ := id hxr
    have go : ∀ {hq : Hs} {hds2 : List ExceptHandler}, HsOk X P cf fx hq hds2 → AftS X.K (xr P.ecs) W fx τ l D (exh P cf hq (excD e0.adr fs) st1) →
        wpAny (model X.prog X.w) X.A (handleBy (.ref a) X.env hds2) (SP X pins D) X.xe { s' with heap := h3 } := by
      intro hq hds2 hk
      have test : ∀ {y : Str} {c : Value} {np : Pos} {Q : Value → Shared → Prop} {E : Value → Shared → Prop}, Names X y c → Q c { s' with heap := h3 } → wpAny (model X.prog X.w) (X.A.mark (some (.ref a))) (eval (.Name y np) X.env) Q E { s' with heap := h3 } := fun {y c np Q E} hc q => by
        obtain ⟨hg, hdbg, hm | ⟨hm, hv, hnn⟩⟩ := hc
        · exact ld_glob (X := X.suite a ((a, oe3) :: (X.pn ++ pins))) S3 hg hm q hdbg
        · exact ld_blt (X := X.suite a ((a, oe3) :: (X.pn ++ pins))) S3 hg hm hv q hnn hdbg
      have LT : PySem.W.Looks (model X.prog X.w) h3 (typeOf (.ref a)) (.ref e0.adr) := fun A Q E s k q => wpAny_typeOf_ref (k _ _ he3) (by rw [hz3.1]; exact q)
      induction hk with
      | nil =>
        intro hA2
        have hA2 : AftS X.K (xr P.ecs) W fx τ l D (some (.ex (excD e0.adr fs), st1)) := hA2
        refine wpAny_handleBy_nil ?_
        obtain ⟨k1, k2, k3, oe, vs, T, oT, ts', he, hz, hd, h1, hr⟩ := id fl3
        unfold PySem.passOn
        refine wpAny_bind (wpAny_field he hd h1 ?_)
        rw [if_neg (show ¬ ((Value.ref T == Value.none) = true) from by simp)]
        have fin : wpAny (model X.prog X.w) X.A (setFlight (.ref a) X.env.frame) (fun _ s4 => wpAny (model X.prog X.w) X.A (throw (.ref a) : Sem Flow) (SP X pins D) X.xe s4) X.xe { s' with heap := h3 } := by
          rw [hf]
          refine PySem.HandSPX.setFlight_upZ fl3 fun h4 hh4 up4 => wpAny_throw (takes_gh tk _ _ ?_)
          exact ⟨a, B, sI, pins, τ, H1, .ref e0.adr, d, rfl, J, nb, (up.trans up3).trans up4, .inr (.inr (by rw [hst]; exact hh4)), na, os, ag, hA2 τ H1 _ d .refl hxr sl1⟩
        first
          | exact wpAny_bind (wpAny_pure (wpAny_bind fin))
          | exact wpAny_bind fin
      | @one ty x y b r c np pos' b₀ su hds3 hc hx hs hr ih =>
        intro hA2
        have hA2 : AftS X.K (xr P.ecs) W fx τ l D (if tyD P.ecs (excD e0.adr fs) ty then (match exs P cf b st1 with
            | some (.ex _, _) => none
            | some (f, s') => some (f, s')
            | none => none) else exh P cf r (excD e0.adr fs) st1) := hA2
        rw [tyD_exc] at hA2
        refine wpAny_handleBy_cons (codeAny_handlers_test ?_) (by intro q; cases q)
        have LM := PySem.W.exm_one (M := model X.prog X.w) (J3.kIn) LT (hx e0 he0)
        refine test hc (LM.here ?_)
        cases hty : tyD P.ecs (excD e0.adr []) ty with
        | true =>
          rw [hty, if_pos rfl] at hA2
          refine codeAny_handlers_suite ?_
          refine PySem.HandSPX.lands_againZ fl3 fun h4 fl4 up4 => ?_
          have J4 : Inv X pins τ H1 { s' with heap := h4 } := J.landed nb fl4.1 ((up.trans up3).trans up4) os ag
          obtain ⟨oe4, vs4, he4, hz4, hd4⟩ := fl4.there
          have nc : ∀ x c, X.env.cells.lookup x = some c → c ≠ a := fun x c e z => by
            obtain ⟨v, o, e1, e2⟩ := J4.cell x c e
            rw [z] at e1
            rw [show h4.get? a = some oe4 from he4] at e1; cases e1; rw [hd4] at e2; cases e2
          have J5 := inv_track (o := .frz oe4 (exv a (.ref e0.adr) d)) J4 na n0 nL.symm nc npn ⟨he4, ⟨⟨oe4, vs4, he4, hz4, hd4⟩, ⟨oe4, he4⟩, fun h1 h2 ⟨o, v, q1, q2⟩ kk => ⟨o, v, kk o q1, q2⟩⟩⟩
          refine wpAny_mono ((hs a (X.pn ++ pins)).run [] _ τ _ D (suite_in J5) ⟨st1, l, sl1.new na, ?_⟩) (fun f s6 hsp => ?_) (fun _ _ z => False.elim z)
          · generalize exs P cf b st1 = m at hA2
            match m, hA2 with
            | none, hA2 => exact hA2
            | some (.nx, _), hA2 => exact hA2
            | some (.rt _, _), hA2 => exact hA2
            | some (.bk, _), hA2 => exact hA2
            | some (.ct, _), hA2 => exact hA2
            | some (.ex _, _), hA2 => exact hA2.elim
          · cases f with
            | next => obtain ⟨σ6, H6, S6, q6⟩ := hsp; exact ⟨_, _, suite_out S6 ok, q6⟩
            | brk => obtain ⟨σ6, H6, S6, q6⟩ := hsp; exact ⟨_, _, suite_out S6 ok, q6⟩
            | cont => obtain ⟨σ6, H6, S6, q6⟩ := hsp; exact ⟨_, _, suite_out S6 ok, q6⟩
            | ret u => obtain ⟨v6, σ6, H6, S6, r6, q6⟩ := hsp; exact ⟨_, _, _, suite_out S6 ok, r6, q6⟩
        | false =>
          rw [hty, if_neg (by simp)] at hA2
          show wpAny _ X.A (handleBy (.ref a) X.env hds3) _ _ _
          exact ih hA2
      | @named ty x y z i b r c np pos' b₀ su hds3 hc hx hi hln hfx hs hr ih =>
        intro hA2
        have hA2 : AftS X.K (xr P.ecs) W fx τ l D (if tyD P.ecs (excD e0.adr fs) ty then (match exs P cf b (Ur.put st1 i (.dat (excD e0.adr fs))) with
            | some (.ex _, _) => none
            | some (f, s') => some (f, s'.set i none)
            | none => none) else exh P cf r (excD e0.adr fs) st1) := hA2
        rw [tyD_exc] at hA2
        refine wpAny_handleBy_cons (codeAny_handlers_test ?_) (by intro q; cases q)
        have LM := PySem.W.exm_one (M := model X.prog X.w) (J3.kIn) LT (hx e0 he0)
        refine test hc (LM.here ?_)
        cases hty : tyD P.ecs (excD e0.adr []) ty with
        | true =>
          rw [hty, if_pos rfl] at hA2
          refine codeAny_handlers_suite_as ?_
          refine PySem.HandSPX.lands_againZ fl3 fun h4 fl4 up4 => ?_
          have J4 : Inv X pins τ H1 { s' with heap := h4 } := J.landed nb fl4.1 ((up.trans up3).trans up4) os ag
          obtain ⟨oe4, vs4, he4, hz4, hd4⟩ := fl4.there
          have nc : ∀ x c, X.env.cells.lookup x = some c → c ≠ a := fun x c e z => by
            obtain ⟨v, o, e1, e2⟩ := J4.cell x c e
            rw [z] at e1
            rw [show h4.get? a = some oe4 from he4] at e1; cases e1; rw [hd4] at e2; cases e2
          have J5 := inv_track (o := .frz oe4 (exv a (.ref e0.adr) d)) J4 na n0 nL.symm nc npn ⟨he4, ⟨⟨oe4, vs4, he4, hz4, hd4⟩, ⟨oe4, he4⟩, fun h1 h2 ⟨o, v, q1, q2⟩ kk => ⟨o, v, kk o q1, q2⟩⟩⟩
          have kp : Kept H1 (upd H1 a (.frz oe4 (exv a (.ref e0.adr) d))) := Sa.kept_new na
          have rd : RD X.K (upd H1 a (.frz oe4 (exv a (.ref e0.adr) d))) (.ref a) (excD e0.adr fs) := .exc ⟨oe4, _, upd_same, .inr rfl⟩ (hf0.kept kp)
          have ilt : i < τ.length := by rw [J.len]; exact (List.getElem?_eq_some_iff.mp hi).1
          have sl5 : Sl X.K (upd H1 a (.frz oe4 (exv a (.ref e0.adr) d))) (τ.set i (some (.ref a))) (Ur.put st1 i (.dat (excD e0.adr fs))) l := ((sl1.new na).dat rd).put ilt
          refine store_ok (X := X.suite a (X.pn ++ pins)) (v := .ref a) (suite_in J5) hN hi (.inl hln) rfl (fun s5 S5 => ?_) (.inr hln)
          refine wpAny_mono ((hs a (X.pn ++ pins)).run [] s5 _ _ ⟨fun σ' H' => D.nx (σ'.set i none) H', D.rt, fun σ' H' => D.bk (σ'.set i none) H', fun σ' H' => D.ct (σ'.set i none) H'⟩ S5 ⟨_, l, sl5, ?_⟩) (fun f s6 hsp => ?_) (fun _ _ z => False.elim z)
          · have fx0 : Fix fx τ (τ.set i (some (.ref a))) := Fix.set hfx
            generalize exs P cf b (Ur.put st1 i (.dat (excD e0.adr fs))) = m at hA2
            match m, hA2 with
            | none, hA2 => exact hA2
            | some (.nx, s7), hA2 =>
              have hA2 : ∀ ρ H', Fix fx τ ρ → Sl X.K H' ρ (s7.set i none) l → Gh H' (D.nx ρ) := hA2
              exact fun ρ H' f s => hA2 _ H' ((fx0.trans f).off hfx) (s.off i)
            | some (.bk, s7), hA2 =>
              have hA2 : ∀ ρ H', Fix fx τ ρ → Sl X.K H' ρ (s7.set i none) l → Gh H' (D.bk ρ) := hA2
              exact fun ρ H' f s => hA2 _ H' ((fx0.trans f).off hfx) (s.off i)
            | some (.ct, s7), hA2 =>
              have hA2 : ∀ ρ H', Fix fx τ ρ → Sl X.K H' ρ (s7.set i none) l → Gh H' (D.ct ρ) := hA2
              exact fun ρ H' f s => hA2 _ H' ((fx0.trans f).off hfx) (s.off i)
            | some (.rt o, s7), hA2 =>
              have hA2 : ∀ ρ H' v, Fix fx τ ρ → Sl X.K H' ρ (s7.set i none) (own X.K v o :: l) → Gh H' (D.rt v) := hA2
              exact fun ρ H' v f s => hA2 _ H' v ((fx0.trans f).off hfx) (s.off i)
            | some (.ex _, _), hA2 => exact hA2.elim
          · have end_ : ∀ {σ6 : L2.St} {H6 : Hp} {Q : Shared → Prop}, Inv (X.suite a (X.pn ++ pins)) [] σ6 H6 s6 → (∀ s7, Inv X pins (σ6.set i none) H6 s7 → Q s7) →
                wpAny (model X.prog X.w) X.A (do bindName X.env z .none; unbindBehindTheSuite X.env z pos') (fun _ s7 => Q s7) X.xe s6 := fun {σ6 H6 Q} S6 hq => gone_ok (suite_out S6 ok) hN hi hln hq
            cases f with
            | next => obtain ⟨σ6, H6, S6, q6⟩ := hsp; exact end_ S6 fun s7 J7 => ⟨_, _, J7, q6⟩
            | brk => obtain ⟨σ6, H6, S6, q6⟩ := hsp; exact end_ S6 fun s7 J7 => ⟨_, _, J7, q6⟩
            | cont => obtain ⟨σ6, H6, S6, q6⟩ := hsp; exact end_ S6 fun s7 J7 => ⟨_, _, J7, q6⟩
            | ret u => obtain ⟨v6, σ6, H6, S6, r6, q6⟩ := hsp; exact end_ S6 fun s7 J7 => ⟨_, _, _, J7, r6, q6⟩
        | false =>
          rw [hty, if_neg (by simp)] at hA2
          show wpAny _ X.A (handleBy (.ref a) X.env hds3) _ _ _
          exact ih hA2
    exact go hh hA1
  · cases fl with
    | next => obtain ⟨σ', H', J', q⟩ := hsp; exact wpAny_execs_nil ⟨σ', H', J'.ofTry ok, q⟩
    | brk => obtain ⟨σ', H', J', q⟩ := hsp; exact ⟨σ', H', J'.ofTry ok, q⟩
    | cont => obtain ⟨σ', H', J', q⟩ := hsp; exact ⟨σ', H', J'.ofTry ok, q⟩
    | ret u => obtain ⟨v, σ', H', J', r, q⟩ := hsp; exact ⟨v, σ', H', J'.ofTry ok, r, q⟩
end
end Ur
end
section
set_option linter.all false
set_option autoImplicit false
set_option maxRecDepth 100000
set_option maxHeartbeats 2000000
/-! UrX5: an error is made with its field named. -/
namespace Ur
open PySem PySem.Spec L2 Builtin.ObjectAttr Builtin PySem.HandSPX
section
variable {M : Model} {A : Around} {E : Value → Shared → Prop} {h : Heap} {g : Array GenState} {d : Drawn} {t : Nat} {os : OsState}
variable {nm q : Str} {C N : Addr} {bs bm bmB : List Value} {hdct : Bool} {sn : List Str} {sub : List Value} {ab : Bool} {col : Option Bool} {dd : Option Addr} {k0 k1 k2 k3 k5 : Option Value} {B newId initId : String} {f : Str} {v : Value}
theorem kw_tc {Q : Unit → Shared → Prop} (hC : h.get? C = some (excClassObj nm q C N bs bm hdct sn sub ab col dd k0 k1 k2 k3 k5 newId)) (hq : Q () ⟨h, g, d, t, os⟩) : wpAny M A (checkBuiltinCall "type.__call__" ⟨[.ref C], [(f, v)]⟩) Q E ⟨h, g, d, t, os⟩ := by
  have f3 := tc_sub
  have hT : (⟨h, g, d, t, os⟩ : Shared).TypeIs (.ref C) "type" := ⟨_, hC, rfl⟩
  simp only [checkBuiltinCall, tc_kind, tc_split]
  repeat (any_goals (first | assumption | with_reducible refine wpAny_loadPart_at hC ?_ | with_reducible refine wpAny_onRaise ?_ | with_reducible refine wpAny_map ?_ | wp_step))
theorem kw_chk (F : ExcBaseFacts B newId initId bmB) (hT : ∀ X : String, bm.contains (.type X) = bmB.contains (.type X)) {Q : Unit → Shared → Prop}
    (hC : h.get? C = some (excClassObj nm q C N bs bm hdct sn sub ab col dd k0 k1 k2 k3 k5 newId)) (hq : Q () ⟨h, g, d, t, os⟩) : wpAny M A (checkBuiltinCall newId ⟨[.ref C], [(f, v)]⟩) Q E ⟨h, g, d, t, os⟩ := by
  have hB : (Value.ref C :: bm).contains (.type B) = true := by rw [List.contains_cons, hT, F.hasB, Bool.or_true]
  have hstar := F.noStar
  simp only [checkBuiltinCall, F.newKind, F.newSplit, F.newRow]
  repeat (first | refine wpAny_loadPart_at hC ?_ | (refine wpAny_isSubtype_exc hC ?_; rw [hB]) | refine wpAny_staticBase_exc hC ?_ | refine wpAny_madeBy_exc hC ?_ | simp only [bne_self_eq_false, Bool.false_eq_true, if_false] | wp_step)
  exact hq
end
section
variable {prog : Program} {w : World} {A : Around} {E : Value → Shared → Prop} {R : Result → Shared → Prop} {h : Heap} {g : Array GenState} {d : Drawn} {t : Nat} {os : OsState}
variable {nm q : Str} {C N : Addr} {bs bm bmB : List Value} {hdct : Bool} {sn : List Str} {sub : List Value} {ab : Bool} {col : Option Bool} {dd : Option Addr} {k0 k1 k2 k3 k5 : Option Value} {B newId initId : String} {f : Str} {v : Value}
theorem kw_new (F : ExcBaseFacts B newId initId bmB) (hT : ∀ X : String, bm.contains (.type X) = bmB.contains (.type X)) (hC : h.get? C = some (excClassObj nm q C N bs bm hdct sn sub ab col dd k0 k1 k2 k3 k5 newId))
    (hq : R (.ok (.ret (.ref (h.objs.size + 1)))) ⟨(h.push (PySem.W.kdv_tup [])).push (excO C h.objs.size), g, d, t, os⟩) : codeAny (model prog w) A (.builtin newId ⟨[.ref C], [(f, v)]⟩) R ⟨h, g, d, t, os⟩ := by
  have ends := F.ends
  have c1 : (Value.ref C :: bm).contains (.type B) = true := by rw [List.contains_cons, hT, F.hasB, Bool.or_true]
  have c2 : (Value.ref C :: bm).contains (.type "AttributeError") = false := by rw [List.contains_cons, hT, F.noAttr]; rfl
  have c3 : (Value.ref C :: bm).contains (.type "NameError") = false := by rw [List.contains_cons, hT, F.noName]; rfl
  have few : ([] : List Value).length ≤ sizeLine := Nat.zero_le _
  refine codeAny_builtinAt F.entry ?_
  unfold Builtin.«BaseException.__new__»
  refine wpAt_bind ?_
  show wpAt _ _ _ (stack >>= _) _ _ _
  refine wpAt_bind (wpAt_stack fun p below => wpAt_of_wpAny ?_)
  wp_walk
  refine wpAt_of_wpAny ?_
  rw [F.owner]
  repeat (first | with_reducible refine wpAny_madeHere_exc F.canon hC ?_ | with_reducible refine wpAny_loadPart_at hC ?_ | (with_reducible refine wpAny_isSubtype_exc hC ?_; first | rw [c1] | rw [c2] | rw [c3]) | wp_step)
  show R _ _
  rw [Heap.size_push]
  exact hq
theorem kw_type (F : ExcBaseFacts B newId initId bmB) (hT : ∀ X : String, bm.contains (.type X) = bmB.contains (.type X)) {fI : Addr} {Q : Fin → Shared → Prop} (hC : h.get? C = some (excClassObj nm q C N bs bm hdct sn sub ab col dd k0 k1 k2 k3 k5 newId))
    (hi : PySem.W.Looks (model prog w) h (typeLookup (.ref C) "__init__") (some (.ref fI))) (hb : ∀ self, PySem.W.Looks (model prog w) h (bindSpecial (.ref fI) self) (.ref fI, [self]))
    (hq : codeAny (model prog w) A (.call (.ref fI) ⟨[.ref (h.objs.size + 1)], [(f, v)]⟩)
      (fun r s' => match r with | .ok (.ret z) => z = .none ∧ Q (.done (.ret (.ref (h.objs.size + 1)))) s' | .ok _ => False | .error e => E e s')
      ⟨(h.push (PySem.W.kdv_tup [])).push (excO C h.objs.size), g, d, t, os⟩) :
    wpAny (model prog w) A (Builtin.«type.__call__» ⟨[.ref C], [(f, v)]⟩) Q E ⟨h, g, d, t, os⟩ := by
  repeat (first | with_reducible refine wpAny_loadPart_at hC ?_ | with_reducible refine wpAny_madeBy_exc hC ?_ | wp_step)
  refine codeAny_call_builtin_code (Code.quiet_builtin _ F.quiet) (kw_chk F hT hC ?_)
  refine kw_new F hT hC ?_
  show wpAny _ _ _ _ _ _
  have keep : ∀ b o, h.get? b = some o → ((h.push (PySem.W.kdv_tup [])).push (excO C h.objs.size)).get? b = some o := fun b o e => Heap.get?_push_of_some _ (Heap.get?_push_of_some _ e)
  have hC1 := keep _ _ hC
  have there : ((h.push (PySem.W.kdv_tup [])).push (excO C h.objs.size)).get? (h.objs.size + 1) = some (excO C h.objs.size) := by heap_get
  have self_ : (Value.ref C :: bm).contains (.ref C) = true := by simp
  have i1 := hi.keeps keep
  have b1 := (hb (.ref (h.objs.size + 1))).keeps keep
  unfold isInstance
  repeat (first | with_reducible refine wpAny_loadPart_at there ?_ | (with_reducible refine wpAny_isSubtype_exc hC1 ?_; rw [self_]) | wp_step)
  show wpAny _ _ (typeLookup (.ref C) _) _ _ _
  refine i1.at ?_
  refine wpAny_holding (wpAny_bind (b1.at ?_))
  refine wpAny_bind (wpAny_call (codeAny_mono hq fun r s' z => ?_))
  rcases r with e | (u | _ | _ | _) <;> first | exact z | exact z.elim | skip
  obtain ⟨rfl, z⟩ := z
  first
    | exact wpAny_pure (wpAny_pure z)
    | (wp_walk; exact z)
theorem kw_call (F : ExcBaseFacts B newId initId bmB) (hT : ∀ X : String, bm.contains (.type X) = bmB.contains (.type X)) {fI : Addr} (hC : h.get? C = some (excClassObj nm q C N bs bm hdct sn sub ab col dd k0 k1 k2 k3 k5 newId))
    (hi : PySem.W.Looks (model prog w) h (typeLookup (.ref C) "__init__") (some (.ref fI))) (hb : ∀ self, PySem.W.Looks (model prog w) h (bindSpecial (.ref fI) self) (.ref fI, [self]))
    (hq : codeAny (model prog w) (A.under (.builtin "type.__call__" ⟨[.ref C], [(f, v)]⟩)) (.call (.ref fI) ⟨[.ref (h.objs.size + 1)], [(f, v)]⟩) (PySem.W.InitBack (h.objs.size + 1) R)
      ⟨(h.push (PySem.W.kdv_tup [])).push (excO C h.objs.size), g, d, t, os⟩) : codeAny (model prog w) A (.call (.ref C) ⟨[], [(f, v)]⟩) R ⟨h, g, d, t, os⟩ := by
  have f1 := tc_lookup
  have f2 := tc_bind (.ref C)
  have hTy : (⟨h, g, d, t, os⟩ : Shared).TypeIs (.ref C) "type" := ⟨_, hC, rfl⟩
  refine codeAny_of_tree ?_
  show wpAny _ _ (callAny (.ref C) _) _ _ _
  repeat (any_goals (first | assumption | with_reducible refine wpAny_loadPart_at hC ?_ | wp_step))
  refine ⟨rfl, ?_⟩
  refine codeAny_call_builtin_at (Code.quiet_builtin _ (by decide +kernel)) entry_typeCall (kw_tc hC (kw_type F hT hC hi hb ?_))
  refine codeAny_mono hq fun r s' z => ?_
  rcases r with e | (u | _ | _ | _) <;> exact z
end
end Ur
end
section
set_option linter.all false
set_option autoImplicit false
set_option maxRecDepth 100000
set_option maxHeartbeats 2000000
/-! UrX6: calls whose arguments are named. -/
namespace Ur
open PySem L2
theorem look_paired {α β : Type} {R : α → β → Prop} {n : Str} : ∀ {ks : List Str} {l : List α} {m : List β} {x : α}, Paired R l m → (ks.zip l).lookup n = some x → ∃ y, (ks.zip m).lookup n = some y ∧ R x y
  | [], _, _, _, _, h => by simp at h
  | _ :: _, _, _, _, .nil, h => by simp at h
  | k :: ks, _, _, x, .cons (a := a) (b := b) r t, h => by
    rw [List.zip_cons_cons, List.lookup_cons] at h ⊢
    cases e : (n == k) with
    | true =>
      rw [e] at h
      cases h
      exact ⟨b, rfl, r⟩
    | false =>
      rw [e] at h
      exact look_paired t h
theorem ordL_paired {α β : Type} {R : α → β → Prop} {ks : List Str} {l : List α} {m : List β} (h : Paired R l m) : ∀ {ps : List Str} {l' : List α}, ordL ps ks l = some l' → ∃ m', ordL ps ks m = some m' ∧ Paired R l' m'
  | [], l', e => by
    have : l' = [] := by simpa [ordL] using e.symm
    subst this
    exact ⟨[], rfl, .nil⟩
  | p :: ps, l', e => by
    unfold ordL at e
    rw [List.mapM_cons] at e
    obtain ⟨x, e1, e⟩ := Option.bind_eq_some_iff.mp e
    obtain ⟨r, e2, e⟩ := Option.bind_eq_some_iff.mp e
    obtain rfl := Option.some.inj e
    obtain ⟨y, h1, hr⟩ := look_paired h e1
    obtain ⟨m', h2, hp⟩ := ordL_paired h (show ordL ps ks l = some r from e2)
    refine ⟨y :: m', ?_, .cons hr hp⟩
    unfold ordL at h2 ⊢
    rw [List.mapM_cons, h1, h2]
    rfl
theorem RDs.paired {K : PySem.W.Frag} {H : Hp} : ∀ {vs : List V} {ds : List D}, RDs K H vs ds → Paired (fun (d : D) (v : V) => RD K H v d) ds vs
  | _, _, .nil => .nil
  | _, _, .cons h r => .cons h (RDs.paired r)
theorem RDs.of_paired {K : PySem.W.Frag} {H : Hp} : ∀ {vs : List V} {ds : List D}, Paired (fun (d : D) (v : V) => RD K H v d) ds vs → RDs K H vs ds
  | _, _, .nil => .nil
  | _, _, .cons h r => .cons h (RDs.of_paired r)
section
variable {X : Cx} {P : Prog} {cf : Cf} {W : WX} {XR : Hp → Value → Option Addr → D → Prop}
variable {H : Hp} {σ : L2.St} {st : Stt} {l : List Asn}
theorem pk_gh {kws : List Keyword} {t : TA} (h : PK X kws t) : PK X kws (fun σ H Q => t σ H fun v H' => Gh H' (Q v)) :=
  ⟨fun pos pins s σ H Q I hw => thn (h.run pos pins s σ H _ I hw) fun u s1 ⟨v, H1, I1, r1, g⟩ => let ⟨H2, I2, q⟩ := g.run I1; ⟨v, H2, I2, r1, q⟩⟩
theorem pk_to {kws : List Keyword} {t t' : TA} (h : PK X kws t) (w : ∀ σ H Q, t' σ H Q → t σ H fun v H' => Gh H' (Q v)) : PK X kws t' := ⟨fun pos pins s σ H Q I hw => (pk_gh h).run pos pins s σ H Q I (w σ H Q hw)⟩
theorem rk_nil : PK X [] (tEs X.K XR P cf W .nil) := pk_to pk_nil fun σ H Q ⟨st, l, s, a⟩ => a [] H rfl s
theorem rk_cons {e : E} {es : Es} {e' : Expr} {nm : Option Str} {kpos : Pos} {kws : List Keyword} (he : PE X e' (tE X.K XR P cf W e)) (hes : PK X kws (tEs X.K XR P cf W es)) : PK X (⟨nm, e', kpos⟩ :: kws) (tEs X.K XR P cf W (.cons e es)) :=
  pk_to (pk_cons he hes) fun σ H Q ⟨st, l, s, a⟩ => by
    have a : Aft X.K XR W σ l _ (bd (ev P cf e st) fun o s => bd (evs P cf es s) fun os s => some (.ok (o :: os), s)) := a
    refine t1 s a fun o st1 v H1 a1 s1 => .now ?_
    refine ⟨st1, _, s1, aft_more X.K XR (fun H st q => q.tail) (aft_bd X.K XR a1 fun os st2 a2 vs H2 hl s2 => .now ?_)⟩
    refine a2 (v :: vs) H2 (by simp [hl]) (s2.perm ?_)
    show (owns X.K vs os ++ own X.K v o :: l).Perm (own X.K v o :: (owns X.K vs os ++ l))
    exact List.perm_middle
/-- the names of the keywords, all given -/
def kwNames : List Str → List Keyword → Bool
  | [], [] => true
  | k :: ks, ⟨some n, _, _⟩ :: r => decide (n = k) && kwNames ks r
  | _, _ => false
theorem kwNames_ok {pos : Pos} {env : Env} : ∀ {ks : List Str} {kws : List Keyword}, kwNames ks kws = true → (backToKw pos (keywordEach kws env)).all (·.1.isSome) = true ∧ (backToKw pos (keywordEach kws env)).filterMap (·.1) = ks ∧ (backToKw pos (keywordEach kws env)).any (·.1.isNone) = false
  | [], [], _ => ⟨rfl, rfl, rfl⟩
  | [], _ :: _, h => by simp [kwNames] at h
  | k :: ks, [], h => by simp [kwNames] at h
  | k :: ks, ⟨none, _, _⟩ :: r, h => by simp [kwNames] at h
  | k :: ks, ⟨some n, e, p⟩ :: r, h => by
    simp only [kwNames, Bool.and_eq_true, decide_eq_true_eq] at h
    obtain ⟨rfl, h⟩ := h
    obtain ⟨h1, h2, h3⟩ := kwNames_ok (pos := pos) (env := env) h
    refine ⟨?_, ?_, ?_⟩
    · show (true && (backToKw pos (keywordEach r env)).all (·.1.isSome)) = true
      rw [h1]; rfl
    · show n :: (backToKw pos (keywordEach r env)).filterMap (·.1) = n :: ks
      rw [h2]
    · show (false || (backToKw pos (keywordEach r env)).any (·.1.isNone)) = false
      rw [h3]; rfl
theorem run_kw {k : Nat} {f : Addr} {fd : FuncData} {ps ks : List Str} {sp : Sp} {E : XK} {pins : List (Addr × Obj)} {s : Shared} {Q : VK} {ws us : List Value} {vs : List V} (F : FnOk X.prog X.w X.K X.mg X.base (L2.CX X.prog X.w) k f fd ps sp) (hr : Room k X.A) (hb : KwB fd ps ks) (hx : PassesAt (L2.CX X.prog X.w) X σ E)
    (I : Inv X pins σ H s) (ho : ordL ps ks ws = some us) (r : Vals vs us) (h : sp vs H Q E) : wpAny (model X.prog X.w) X.A (call (.ref f) [] (ks.zip ws)) (EP X pins σ Q) X.xe s := by
  refine wpAny_call (codeAny_mono (F.run X.A X.stack s H ⟨[], ks.zip ws⟩ us vs Q E hr I.env0 (hb s ws us ho) r h) fun r s' hq => ?_)
  cases r with
  | error e => exact hx pins H s e s' I hq
  | ok fl =>
    cases fl with
    | ret u => exact I.after hq
    | next => exact False.elim hq
    | brk => exact False.elim hq
    | cont => exact False.elim hq
theorem r_callK (tk : Takes X W) {k : Nat} (hr : Room k X.A) {f : Nat} {d : Df} {x : Str} {ks : List Str} {es : Es} {kws : List Keyword} {p pos : Pos} (hf : P.defs[f]? = some d) (hd : Dok X XR k d (cf f)) (hn : ∀ os, (cf f os).isSome = true → os.length = d.np) (hx : x = d.name) (hg : glob X.env.scope x = true)
    (hkn : kwNames ks kws = true) (hkw : PK X kws (tEs X.K XR P cf W es)) : PE X (.Call (.Name x p) [] kws pos) (tE X.K XR P cf W (.callK x f ks es)) := by
  obtain ⟨fa, fd, hm, hk, hb, hkb, F⟩ := hd.ok
  obtain ⟨g1, g2, g3⟩ := glob_ok hg
  subst hx
  obtain ⟨n1, n2, n3⟩ := kwNames_ok (pos := pos) (env := X.env) hkn
  refine pe_to (t := fun σ H Q => tEs X.K XR P cf W es σ H fun zs H1 => ks ∈ d.kws ∧ ∃ vs, ordL (d.names.take d.np) ks zs = some vs ∧ spF X.K XR (cf f) d.np vs H1 Q (WE W σ)) ⟨fun pins s σ H Q I h => ?_⟩ fun σ H Q ⟨st, l, s, h⟩ => ?_
  · refine wpAny_Call_Name_kw (ld_glob I g1 hm ?_ g2)
    refine PySem.W.callWith_KW0 (h₀ := X.base) I.ok.mod.kin hk n1 ?_ (by rw [n3]; rfl)
    refine thn (hkw.run pos pins s σ H _ I h) fun ws s2 ⟨zs, H2, I2, rz, hmem, vs, ho, q2⟩ => ⟨I2.kIn, ?_⟩
    rw [n2]
    obtain ⟨us, hu, rv⟩ := ordL_paired rz ho
    exact run_kw F hr (hkb ks hmem) (passAt tk σ) I2 hu rv q2
  · have h : Aft X.K XR W σ l _ (bd (evs P cf es st) fun os s => match P.defs[f]? with
      | some d => if ks ∈ d.kws then (match ordL (d.names.take d.np) ks (fzs os) with
        | some ds => callD cf f (ds.map .dat) (ds.map fun _ => none) s
        | none => none)
        else none
      | none => none) := h
    refine ⟨st, l, s, aft_bd X.K XR h fun os st1 h1 zs H1 hl s1 => (s1.fzs hl).imp fun H2 ⟨k2, r2, s2⟩ => ?_⟩
    rw [hf] at h1
    dsimp only at h1
    split at h1
    · rename_i hmem
      split at h1
      · rename_i ds hds
        obtain ⟨vs, hv, pv⟩ := ordL_paired r2.paired hds
        have rv := RDs.of_paired pv
        refine ⟨hmem, vs, hv, ?_⟩
        have e1 : ∀ ds : List D, (ds.map fun d => (Sum.inl (.dat d) : O ⊕ Nat)).map lentOf = ds.map fun _ => none := fun ds => by
          rw [List.map_map]; rfl
        have e2 : ∀ (ds : List D) (st : Stt), lend (ds.map fun d => (Sum.inl (.dat d) : O ⊕ Nat)) st = some (ds.map .dat, st) := fun ds st => by
          induction ds with
          | nil => rfl
          | cons d ds ih =>
            show (match lend (ds.map fun d => (Sum.inl (.dat d) : O ⊕ Nat)) st with
              | some (os, s') => some (O.dat d :: os, s')
              | none => none) = _
            rw [ih]; rfl
        have e3 : ∀ {vs : List V} {ds : List D}, RDs X.K H2 vs ds → Lent σ vs (ds.map fun d => (Sum.inl (.dat d) : O ⊕ Nat)) := by
          intro vs
          induction vs with
          | nil => intro ds r; cases r; trivial
          | cons v vs ih => intro ds r; cases r with | cons _ r => exact ih r
        have e4 : ∀ {vs : List V} {ds : List D}, RDs X.K H2 vs ds → Sl X.K H2 σ st1 (ownP X.K vs (ds.map fun d => (Sum.inl (.dat d) : O ⊕ Nat)) ++ l) := by
          intro vs
          induction vs with
          | nil => intro ds r; cases r; exact s2
          | cons v vs ih => intro ds r; cases r with | cons h r => exact (ih r).dat h
        refine call_sp (ps := ds.map fun d => (Sum.inl (.dat d) : O ⊕ Nat)) (e3 rv) (e4 rv) hn ?_
        rw [e2, e1]
        exact h1
      · exact h1.elim
    · exact h1.elim
end
/-! ### errors with their field named -/
section
variable {X : Cx} {P : Prog} {cf : Cf} {W : WX} {XR : Hp → Value → Option Addr → D → Prop}
variable {pins : List (Addr × Obj)} {σ : L2.St} {H : Hp} {s : Shared} {a C fI : Addr} {b : Eb} {f : Str} {k : Nat} {fd : FuncData} {ps : List Str} {l : List Asn}
theorem run_excK {R : Value → Shared → Prop} {y : V} {u : Value} {d : D} (T : XcK X.K b C fI) (F1 : FnOk X.prog X.w X.K X.mg X.base (L2.CX X.prog X.w) k fI fd ps (spX C [f])) (hr : Room (k + 1) X.A) (hb : ∀ (s : Shared) (a v : Value), BindsTo s fd ⟨[a], [(f, v)]⟩ (ps.zip [a, v])) (I : Inv X pins σ H s) (r : RelV y u) (at_ : Atom y d) (sa : Sa H l)
    (h : ∀ p H2 s', s.heap.get? p = none → Inv X pins σ H2 s' → Made H2 p C [f] [y] [d] l → R (.ref p) s') : wpAny (model X.prog X.w) X.A (call (.ref C) [] [(f, u)]) R X.xe s := by
  obtain ⟨nm, N, qn, bs, bm, hd, sn, sub, ab, col, dd, k0, k1, k2, k3, k5, hC, hT⟩ := PySem.W.excInit_of I.kIn T.lay
  obtain ⟨hp, gn, dr, tk, os⟩ := s
  have big : hp.objs.size ≤ hp.objs.size + 1 := Nat.le_succ _
  have gone : H (hp.objs.size + 1) = none := I.hok.fresh big
  have sa2 := sa.made (o := exo (hp.objs.size + 1) C none) gone fun z => z
  have hq : spX C [f] [.ref (hp.objs.size + 1), y] (upd H (hp.objs.size + 1) (exo (hp.objs.size + 1) C none)) (fun v H2 => v = .non ∧ Made H2 (hp.objs.size + 1) C [f] [y] [d] l) (fun _ _ _ => False) :=
    ⟨_, y, d, l, rfl, at_, sa2, fun dx H' z => .now ⟨rfl, .inr ⟨f, y, d, dx, rfl, rfl, rfl, at_, z⟩⟩⟩
  have keep : ∀ c o, hp.get? c = some o → ((hp.push (PySem.W.kdv_tup [])).push (PySem.HandSPX.excO C hp.objs.size)).get? c = some o := fun c o e => Heap.get?_push_of_some _ (Heap.get?_push_of_some _ e)
  have there : ((hp.push (PySem.W.kdv_tup [])).push (PySem.HandSPX.excO C hp.objs.size)).get? (hp.objs.size + 1) = some (PySem.HandSPX.excO C hp.objs.size) := by heap_get
  have I2 := I.laid (t' := tk) (a := hp.objs.size + 1) (o := exo (hp.objs.size + 1) C none) (h' := (hp.push (PySem.W.kdv_tup [])).push (PySem.HandSPX.excO C hp.objs.size)) keep big (exo_ok there)
  have r2 : Vals [V.ref (hp.objs.size + 1), y] [Value.ref (hp.objs.size + 1), u] := .cons rfl (.cons r .nil)
  refine wpAny_call (kw_call (ebF b) hT hC (PySem.W.looks_findIn I.kIn T.ini) (fun self => PySem.W.bind_fn I.kIn self T.tyI)
    (codeAny_mono (F1.run _ X.stack _ _ ⟨[Value.ref (hp.objs.size + 1)], [(f, u)]⟩ [Value.ref (hp.objs.size + 1), u] _ _ (fun _ _ _ => False) (hr.make C [] [(f, u)]) (I2.env0.make C [] [(f, u)]) (hb _ _ _) r2 hq) fun q s' z => ?_))
  cases q with
  | error x => exact (pas_none (Pr := X.prog) (w := X.w) (X := X) pins σ _ _ x s' I2 z)
  | ok fl0 =>
    cases fl0 with
    | ret u =>
      obtain ⟨v, H2, J, rv, ev, m⟩ := I2.after z
      subst ev
      exact ⟨rv, h _ H2 s' (Heap.get?_none_of_le big) J m⟩
    | next => exact False.elim z
    | brk => exact False.elim z
    | cont => exact False.elim z
theorem r_mkxK {c : Nat} {e0 : Ec} {x : Str} {e : E} {e' : Expr} {f : Str} {p kpos pos : Pos} (hr : Room 3 X.A) (F : XcOk X.prog X.w X.K X.mg X.base e0) (hc : P.ecs[c]? = some e0) (hx : x = e0.name) (hg : glob X.env.scope x = true)
    (ha : PE X e' (tE X.K XR P cf W e)) : PE X (.Call (.Name x p) [] [⟨some f, e', kpos⟩] pos) (tE X.K XR P cf W (.mkx x c [f] (.cons e .nil))) := by
  obtain ⟨g1, g2, g3⟩ := glob_ok hg
  subst hx
  obtain ⟨fI, fd, ps, T, F1, hb, hk⟩ := F.mak
  refine pe_to (t := fun σ H Q => tEs X.K XR P cf W (.cons e .nil) σ H fun vs H1 => e0.fields = [f] ∧ ∃ l y d, vs = [y] ∧ Atom y d ∧ Sa H1 l ∧ ∀ a H2, Made H2 a e0.adr [f] [y] [d] l → Q (.ref a) H2) ⟨fun pins s σ H Q I h => ?_⟩ fun σ H Q ⟨st, l, s, h⟩ => ?_
  · refine wpAny_Call_Name_kw (ld_glob I g1 F.mg ?_ g2)
    have hkn : kwNames [f] [⟨some f, e', kpos⟩] = true := by simp [kwNames]
    obtain ⟨n1, n2, n3⟩ := kwNames_ok (pos := pos) (env := X.env) hkn
    refine PySem.W.callWith_KW0 (h₀ := X.base) I.ok.mod.kin T.kpC n1 ?_ (by rw [n3]; rfl)
    refine thn ((rk_cons (nm := some f) (kpos := kpos) ha rk_nil).run pos pins s σ H _ I h) fun ws s2 ⟨zs, H2, I2, rz, hf, l, y, d, ez, at_, sa, q⟩ => ⟨I2.kIn, ?_⟩
    rw [n2]
    subst ez
    cases rz with
    | cons ru rn =>
      cases rn
      rw [hf] at F1 hk
      exact run_excK T F1 hr (hk f List.mem_cons_self) I2 ru at_ sa fun a H3 s' _ J m => ⟨.ref a, H3, J, rfl, q a H3 m⟩
  · have h : Aft X.K XR W σ l _ (bd (evs P cf (.cons e .nil) st) fun os s => lfd (mkEx P.ecs c [f] (fzs os)) s) := h
    refine ⟨st, l, s, aft_bd X.K XR h fun os st1 h1 vs H1 hl s1 => (s1.fzs hl).imp fun H2 ⟨k2, r2, s2⟩ => ?_⟩
    obtain ⟨dd, ed, h1⟩ := aft_lfd h1
    obtain ⟨q1, q2, q3, q4, rfl⟩ := mkEx_ok hc ed
    rcases q3 with q3 | q3
    · cases q3
    · rcases xin_of r2 q1 q2 q4 with ⟨z, _⟩ | ⟨f', y, d, e1, rfl, e3, at_⟩
      · rw [z] at q3; cases q3
      · refine ⟨q3.symm, _, y, d, rfl, at_, s2.sa, fun a H3 m => (m.fz (K := X.K)).bind fun H4 ⟨_, rd, sa⟩ => ?_⟩
        rw [e3] at h1
        rw [← q3] at h1
        exact h1 _ H4 ((show Sl X.K H4 σ st1 l from ⟨s2.ok, sa⟩).dat rd)
end
end Ur
end
section
set_option linter.all false
set_option autoImplicit false
set_option maxHeartbeats 2000000
/-! UrI2: the check of a piece of code, and what it says. -/
namespace Ur
open PySem L2
/-- a piece's surroundings -/
structure Mc where
  N : List Str
  sc : Scope
  fn : Str → Bool
def Mc.blk (m : Mc) (scope : Scope) : Mc := ⟨m.N, relS scope m.sc, fun x => scope.names.lookup x == some .cell⟩
def owOf (N : List Str) (vs : List Nat) : List (Str × Nat) := vs.map fun v => ((N[v]?).getD "", v)
theorem owOf_snd (N : List Str) (vs : List Nat) : (owOf N vs).map (·.2) = vs := by
  unfold owOf
  rw [List.map_map]
  exact List.map_id' vs
def slotsIn (tg : Tg) (vs : List Nat) : Bool := tg.slots.all fun i => decide (i ∈ vs)
def isBool : Expr → Bool
  | .BoolOp .. => true
  | _ => false
def ecN (ecs : List Ec) (c : Nat) (x : Str) : Bool := match ecs[c]? with
  | some e => decide (x = e.name)
  | none => false
/-- the classes that isinstance is asked for -/
def mTy (ecs : List Ec) (sc : Scope) (ts : List Ty) (y : Expr) : Bool :=
  match y with
  | .Tuple ys _ _ => (match ts.mapM tyN with
    | some ns => decide (ts.map tyN = ns.map some) && decide (ns.length ≤ top) && tyNames sc ns ys
    | none => false)
  | y => (match ts with
    | [.own c] => (match y with
      | .Name z _ => ecN ecs c z && glob sc z
      | _ => false)
    | [t] => (match tyN t with
      | some n => tyNames sc [n] [y]
      | none => false)
    | _ => false)
section
variable (P : Prog)
mutual
def mE : E → Mc → Expr → Bool
  | .lit d, m, e => match e with
    | .Constant c _ _ => constOk d c
    | _ => false
  | .var i, m, e => match e with
    | .Name x _ => visB m.N m.sc i x
    | _ => false
  | .glob g, m, e => match e with
    | .Name x _ => (match P.glos[g]? with | some ge => decide (x = ge.name) | none => false) && glob m.sc x
    | _ => false
  | .rvs a, m, e => match e with
    | .Subscript a' (.Slice none none (some (.UnaryOp .USub (.Constant (.int 1) _ _) _)) _) _ => mE a m a'
    | _ => false
  | .tup es, m, e => match e with
    | .Tuple es' _ _ => decide (es.len ≤ top) && mEs es m es'
    | _ => false
  | .lst es, m, e => match e with
    | .List es' _ => decide (es.len ≤ top) && mEs es m es'
    | _ => false
  | .bin op a b, m, e => match e with
    | .BinOp a' op' b' _ => decide (op' = pyB op) && mE a m a' && mE b m b'
    | _ => false
  | .neg a, m, e => match e with
    | .UnaryOp .USub a' _ => mE a m a'
    | _ => false
  | .nt a, m, e => match e with
    | .UnaryOp .Not a' _ => mE a m a'
    | _ => false
  | .cmp op a b, m, e => match e with
    | .Compare a' [op'] [b'] _ => decide (op' = pyC op) && !behindInMarks (pyC op) b' && mE a m a' && mE b m b'
    | _ => false
  | .inx neg a b, m, e => match e with
    | .Compare a' [op'] [b'] _ => decide (op' = pyI neg) && !behindInMarks (pyI neg) b' && mE a m a' && mE b m b'
    | _ => false
  | .and a b, m, e => match e with
    | .BoolOp .And (a' :: b' :: rest) pos => mE a m a' && (match rest with
      | [] => mE b m b'
      | _ => mE b m (.BoolOp .And (b' :: rest) pos))
    | _ => false
  | .or a b, m, e => match e with
    | .BoolOp .Or (a' :: b' :: rest) pos => mE a m a' && (match rest with
      | [] => mE b m b'
      | _ => mE b m (.BoolOp .Or (b' :: rest) pos))
    | _ => false
  | .ite c a b, m, e => match e with
    | .IfExp c' a' b' _ => mE c m c' && mE a m a' && mE b m b'
    | _ => false
  | .idx a i, m, e => match e with
    | .Subscript a' i' _ => plainIx i' && mE a m a' && mE i m i'
    | _ => false
  | .slc a l u, m, e => match e with
    | .Subscript a' (.Slice l' u' none _) _ => mE a m a' && mO l m l' && mO u m u'
    | _ => false
  | .call x f as, m, e => match e with
    | .Call (.Name x' _) es' [] _ => decide (x' = x) && (match P.defs[f]? with | some d => decide (x = d.name) | none => false) && glob m.sc x' && noStars es' && mA as m es'
    | _ => false
  | .bf f es, m, e => match e with
    | .Call (.Name x' _) (e' :: es') [] _ => decide (x' = nameB f) && bfHas f && glob m.sc x' && noStars (e' :: es') && mEs es m (e' :: es')
    | _ => false
  | .sset f a, m, e => match e with
    | .Call (.Name x _) [.Call (.Name y _) [a'] [] _] [] _ => (match f with
      | .sorted => decide (x = "sorted")
      | .len => decide (x = "len")
      | _ => false) && decide (y = "set") && glob m.sc x && glob m.sc y && noStar a' && mE a m a'
    | _ => false
  | .isi a ts, m, e => match e with
    | .Call (.Name x _) [a', y] [] _ => decide (x = "isinstance") && glob m.sc x && noStar a' && mE a m a' && mTy P.ecs m.sc ts y
    | _ => false
  | .callK x f ks es, m, e => match e with
    | .Call (.Name x' _) [] kws _ => decide (x' = x) && (match P.defs[f]? with | some d => decide (x = d.name) | none => false) && glob m.sc x' && kwNames ks kws && mK es m kws
    | _ => false
  | .mkx x c [f] (.cons a .nil), m, e => match e with
    | .Call (.Name x' _) [] [⟨some f', a', _⟩] _ => decide (x' = x) && ecN P.ecs c x && glob m.sc x' && decide (f' = f) && mE a m a'
    | _ => false
  | .attr a f, m, e => match e with
    | .Attribute a' f' _ => decide (f' = f) && noCall0 a' && mE a m a'
    | _ => false
  | .mkx x c [] es, m, e => match e with
    | .Call (.Name x' _) es' [] _ => decide (x' = x) && ecN P.ecs c x && glob m.sc x' && noStars es' && mEs es m es'
    | _ => false
  | .pk .idx i (.cons k .nil), m, e => match e with
    | .Subscript (.Name x _) k' _ => visB m.N m.sc i x && plainIx k' && mE k m k'
    | _ => false
  | .mut .append i .nil fz (.cons a .nil), m, e => match e with
    | .Call (.Attribute (.Name x _) nm apos) [e'] [] cpos => decide (nm = "append") && visB m.N m.sc i x && (apos.endLine == cpos.line) && noStar e' && mE a m e'
    | _ => false
  | .mut .extend i .nil fz (.cons a .nil), m, e => match e with
    | .Call (.Attribute (.Name x _) nm apos) [e'] [] cpos => decide (nm = "extend") && visB m.N m.sc i x && (apos.endLine == cpos.line) && noStar e' && mE a m e'
    | _ => false
  | .comp .lst vs tg it ifs gs, m, e => match e with
    | .ListComp elt [⟨tg', it', ifs', 0⟩] scope _ => mI it m tg' it' && notSet it' && blkC m.N m.sc scope (owOf m.N vs) && slotsIn tg vs && mTg m.N (m.blk scope).sc (m.blk scope).fn tg tg' && mC ifs (m.blk scope) ifs' && mL gs (m.blk scope) elt
    | .ListComp elt [⟨tg', it', ifs', 0⟩, ⟨tg1', it1', ifs1', 0⟩] scope _ => mI it m tg' it' && notSet it' && blkC m.N m.sc scope (owOf m.N vs) && slotsIn tg vs && mTg m.N (m.blk scope).sc (m.blk scope).fn tg tg' && mC ifs (m.blk scope) ifs' &&
        mG gs (m.blk scope) vs tg1' it1' ifs1' elt
    | _ => false
  | _, _, _ => false
def mEs : Es → Mc → List Expr → Bool
  | .nil, m, es' => es'.isEmpty
  | .cons e r, m, es' => match es' with
    | e' :: r' => noStar e' && mE e m e' && mEs r m r'
    | [] => false
def mK : Es → Mc → List Keyword → Bool
  | .nil, m, ks => ks.isEmpty
  | .cons e r, m, ks => match ks with
    | ⟨_, e', _⟩ :: r' => mE e m e' && mK r m r'
    | [] => false
def mO : Oe → Mc → Option Expr → Bool
  | .none, m, o => o.isNone
  | .some e, m, o => match o with
    | some e' => mE e m e'
    | none => false
def mA : As → Mc → List Expr → Bool
  | .nil, m, es' => es'.isEmpty
  | .val e r, m, es' => match es' with
    | e' :: r' => noStar e' && mE e m e' && mA r m r'
    | [] => false
  | .own e r, m, es' => match es' with
    | e' :: r' => noStar e' && mE e m e' && mA r m r'
    | [] => false
  | .ref i r, m, es' => match es' with
    | .Name x _ :: r' => visB m.N m.sc i x && mA r m r'
    | _ => false
def mI : It → Mc → Expr → Expr → Bool
  | .any e, m, tg, e' => mE e m e'
  | .rng es, m, tg, e' => match e' with
    | .Call (.Name x _) es' [] _ => decide (x = "range") && glob m.sc x && noStars es' && (decide (es'.length = 1) || decide (es'.length = 2) || decide (es'.length = 3)) && decide (es.len = es'.length) && mEs es m es'
    | _ => false
  | .enum e, m, tg, e' => match e' with
    | .Call (.Name x _) [a'] [] _ => isTup tg && decide (x = "enumerate") && glob m.sc x && noStar a' && mE e m a'
    | _ => false
  | .zip a b, m, tg, e' => match e' with
    | .Call (.Name x _) [a', b'] [] _ => isTup tg && decide (x = "zip") && glob m.sc x && noStar a' && noStar b' && mE a m a' && mE b m b'
    | _ => false
  | .rev e, m, tg, e' => match e' with
    | .Call (.Name x _) [a'] [] _ => decide (x = "reversed") && glob m.sc x && noStar a' && mE e m a'
    | _ => false
def mC : Es → Mc → List Expr → Bool
  | .nil, m, es' => es'.isEmpty
  | .cons c .nil, m, es' => match es' with
    | [c'] => mE c m c'
    | _ => false
  | _, _, _ => false
def mL : Gs → Mc → Expr → Bool
  | .last e, m, e' => mE e m e'
  | _, _, _ => false
def mG : Gs → Mc → List Nat → Expr → Expr → List Expr → Expr → Bool
  | .cons tg it ifs (.last e), m, vs, tg', it', ifs', elt => mI it m tg' it' && notSet it' && slotsIn tg vs && mTg m.N m.sc m.fn tg tg' && mC ifs m ifs' && mE e m elt
  | _, _, _, _, _, _, _ => false
end

/-! what stands in an except suite -/
mutual
def mU : E → Mc → Expr → Bool
  | .lit d, m, e => match e with
    | .Constant c _ _ => constOk d c
    | _ => false
  | .var i, m, e => match e with
    | .Name x _ => visB m.N m.sc i x
    | _ => false
  | .tup es, m, e => match e with
    | .Tuple es' _ _ => decide (es.len ≤ top) && mUs es m es'
    | _ => false
  | .lst es, m, e => match e with
    | .List es' _ => decide (es.len ≤ top) && mUs es m es'
    | _ => false
  | .isi a ts, m, e => match e with
    | .Call (.Name x _) [a', y] [] _ => decide (x = "isinstance") && glob m.sc x && noStar a' && mU a m a' && mTy P.ecs m.sc ts y
    | _ => false
  | .attr a f, m, e => match e with
    | .Attribute a' f' _ => decide (f' = f) && noCall0 a' && mU a m a'
    | _ => false
  | _, _, _ => false
def mUs : Es → Mc → List Expr → Bool
  | .nil, m, es' => es'.isEmpty
  | .cons e r, m, es' => match es' with
    | e' :: r' => noStar e' && mU e m e' && mUs r m r'
    | [] => false
end
end
end Ur
end
section
set_option linter.all false
set_option autoImplicit false
set_option maxHeartbeats 2000000
/-! UrI3: what is checked is so. -/
namespace Ur
open PySem L2
/-- the built-in names that are used: the module doesn't bind them -/
def bltNames : List Str := ["len", "int", "abs", "min", "max", "sum", "any", "all", "sorted", "set", "list", "tuple", "dict", "bool", "range", "enumerate", "zip", "reversed", "isinstance", "str", "ValueError", "LookupError", "KeyError", "IndexError"]
structure Ok (X : Cx) (P : Prog) (cf : Cf) (XR : Hp → Value → Option Addr → D → Prop) (k : Nat) (W : WX) (m : Mc) : Prop where
  N : X.N = m.N
  nd : m.N.Nodup
  sc : X.env.scope = m.sc
  kind : m.sc.kind = .function
  fn : X.fn = m.fn
  calm : X.calm = true
  room : Room k X.A
  k3 : P.ecs = [] ∨ 3 ≤ k
  reads : XReads X.K X.mg P.ecs
  exc : ∀ (c : Nat) (e : Ec), P.ecs[c]? = some e → XcOk X.prog X.w X.K X.mg X.base e
  takes : Takes X W
  glo : ∀ g ∈ P.glos, GloK X.K X.mg g
  blt : ∀ x ∈ bltNames, X.mg x = none
  defs : ∀ f d, P.defs[f]? = some d → Dok X XR k d (cf f) ∧ ∀ os, (cf f os).isSome = true → os.length = d.np
section
variable {X : Cx} {P : Prog} {cf : Cf} {W : WX} {XR : Hp → Value → Option Addr → D → Prop} {k : Nat} {m : Mc}
theorem Ok.r3 (o : Ok X P cf XR k W m) {c : Nat} {e : Ec} (h : P.ecs[c]? = some e) : Room 3 X.A := o.room.mono (o.k3.resolve_left fun z => by rw [z] at h; simp at h)
theorem Ok.ex (o : Ok X P cf XR k W m) : ∃ n, Room n X.A := ⟨k, o.room⟩
/-- within a comprehension -/
theorem Ok.blk (o : Ok X P cf XR k W m) {scope : Scope} {ow : List (Str × Nat)} (b : BlkOk m.N m.sc scope ow) (s : Shared) (H : Hp) (C : Addr) (cl : List (Str × Addr)) (fp : List Addr) :
    Ok (X.blk s H scope (compEnvC scope cl C X.env) fp) P cf XR k W0 (m.blk scope) where
  N := o.N
  nd := o.nd
  sc := by
    show relS scope X.env.scope = relS scope m.sc
    rw [o.sc]
  kind := b.kind
  fn := rfl
  calm := o.calm
  room := o.room
  k3 := o.k3
  reads := o.reads
  glo := o.glo
  exc := o.exc
  takes := fun u s' ⟨a, B, sI, pins, σ, H, cls, d, e, I, nb, up, sky, na, os, ag, w⟩ => w
  blt := o.blt
  defs := fun f d h => ⟨⟨(o.defs f d h).1.ok⟩, (o.defs f d h).2⟩
/-- what is said of an expression -/
structure Res (X : Cx) (P : Prog) (cf : Cf) (XR : Hp → Value → Option Addr → D → Prop) (W : WX) (e : E) (e' : Expr) : Prop where
  pe : PE X e' (tE X.K XR P cf W e)
  pt : PT X e' (tT X.K XR P cf W e)
  pw : isBool e' = true → PW X e' (tT X.K XR P cf W e)
theorem Res.of {e : E} {e' : Expr} (h : PE X e' (tE X.K XR P cf W e)) (p : plainT e' = true) : Res X P cf XR W e e' :=
  ⟨h, rT_val h (plainT_ok p), fun q => by cases e' <;> first | (exact absurd q Bool.false_ne_true) | (exact absurd p Bool.false_ne_true)⟩
theorem vis_of (o : Ok X P cf XR k W m) {i : Nat} {x : Str} (h : visB m.N m.sc i x = true) : X.N[i]? = some x ∧ Vis X.env.scope x ∧ (x == ("__debug__" : Str)) = false ∧ (x == ("__classdict__" : Str)) = false := by
  rw [o.N, o.sc]
  exact visB_ok h
theorem glob_of (o : Ok X P cf XR k W m) {x : Str} (h : glob m.sc x = true) : glob X.env.scope x = true := by rw [o.sc]; exact h
theorem blt_of (o : Ok X P cf XR k W m) {f : Bf} : X.mg (nameB f) = none := o.blt _ (by cases f <;> decide)
theorem slots_of {tg : Tg} {vs : List Nat} (h : slotsIn tg vs = true) : ∀ i ∈ tg.slots, i ∈ vs := fun i hi => by
  have := List.all_eq_true.mp h i hi
  simpa using this
theorem tg_of (o : Ok X P cf XR k W m) {tg : Tg} {e : Expr} (h : mTg m.N m.sc m.fn tg e = true) : PG X e (gT X.K tg) := (tg_pg o.N o.nd o.sc o.fn o.calm h).1
theorem bltX (h : ∀ x ∈ bltNames, X.mg x = none) : ∀ n ∈ tyNs, X.mg (Str.ofString n) = none := fun n hn => by
  simp only [tyNs, List.mem_cons, List.not_mem_nil, or_false] at hn
  rcases hn with rfl | rfl | rfl | rfl | rfl | rfl | rfl | rfl | rfl | rfl <;> exact h _ (by decide)
theorem ecN_ok {ecs : List Ec} {c : Nat} {x : Str} (h : ecN ecs c x = true) : ∃ e, ecs[c]? = some e ∧ x = e.name := by
  unfold ecN at h
  split at h
  · rename_i e he
    exact ⟨e, he, of_decide_eq_true h⟩
  · cases h
theorem isi_of {a : E} {a' y : Expr} {ts : List Ty} {x : Str} {p pos : Pos} (hX : XReads X.K X.mg P.ecs) (hm : ∀ n ∈ tyNs, X.mg (Str.ofString n) = none) (hi : X.mg "isinstance" = none) (hx : x = "isinstance") (hg : glob X.env.scope x = true)
    (ht : mTy P.ecs X.env.scope ts y = true) (ha : PE X a' (tE X.K XR P cf W a)) (hs : noStar a' = true) : PE X (.Call (.Name x p) [a', y] [] pos) (tE X.K XR P cf W (.isi a ts)) := by
  unfold mTy at ht
  split at ht
  · split at ht
    · simp only [Bool.and_eq_true, decide_eq_true_eq] at ht
      exact r_isiT hX hm hi hx hg ht.1.1 ht.2 ht.1.2 ha hs
    · cases ht
  · split at ht
    · split at ht
      · simp only [Bool.and_eq_true] at ht
        obtain ⟨e, he, hn⟩ := ecN_ok ht.1
        exact r_isiO hX hi hx hg he hn ht.2 ha hs
      · cases ht
    · split at ht
      · rename_i n hn
        exact r_isi1 hX hm hi hx hg hn ht ha hs
      · cases ht
    · cases ht
mutual
theorem sE : ∀ (e : E) {X : Cx} {W : WX} {m : Mc} (o : Ok X P cf XR k W m) {e' : Expr}, mE P e m e' = true → Res X P cf XR W e e'
  | .lit d, X, W, m, o, e', h => by
    cases e' <;> try (simp [mE] at h; done)
    exact .of (r_lit (by simpa [mE] using h)) rfl
  | .var i, X, W, m, o, e', h => by
    cases e' <;> try (simp [mE] at h; done)
    obtain ⟨a, b, c, d⟩ := vis_of o (by simpa [mE] using h)
    exact .of (r_var a b c d) rfl
  | .tup es, X, W, m, o, e', h => by
    cases e' <;> try (simp [mE] at h; done)
    simp only [mE, Bool.and_eq_true, decide_eq_true_eq] at h
    exact .of (r_tup (sEs es o h.2).1 h.1) rfl
  | .lst es, X, W, m, o, e', h => by
    cases e' <;> try (simp [mE] at h; done)
    simp only [mE, Bool.and_eq_true, decide_eq_true_eq] at h
    exact .of (r_lst (sEs es o h.2).1 h.1) rfl
  | .bin op a b, X, W, m, o, e', h => by
    cases e' <;> try (simp [mE] at h; done)
    simp only [mE, Bool.and_eq_true, decide_eq_true_eq] at h
    obtain ⟨⟨rfl, ha⟩, hb⟩ := h
    exact .of (r_bin (sE a o ha).pe (sE b o hb).pe) rfl
  | .neg a, X, W, m, o, e', h => by
    cases e' <;> try (simp [mE] at h; done)
    rename_i op a' pos
    cases op <;> try (simp [mE] at h; done)
    exact .of (r_neg (sE a o (by simpa [mE] using h)).pe) rfl
  | .nt a, X, W, m, o, e', h => by
    cases e' <;> try (simp [mE] at h; done)
    rename_i op a' pos
    cases op <;> try (simp [mE] at h; done)
    have r := sE a o (e' := a') (by simpa [mE] using h)
    exact ⟨r_not r.pe, rT_not r.pt, fun q => absurd q Bool.false_ne_true⟩
  | .cmp op a b, X, W, m, o, e', h => by
    cases e' <;> try (simp [mE] at h; done)
    rename_i a' ops bs pos
    match ops, bs, h with
    | [op'], [b'], h =>
      simp only [mE, Bool.and_eq_true, decide_eq_true_eq, Bool.not_eq_true'] at h
      obtain ⟨⟨⟨rfl, hm⟩, ha⟩, hb⟩ := h
      exact ⟨r_cmp o.ex (sE a o ha).pe (sE b o hb).pe hm, r_cmpT o.ex (sE a o ha).pe (sE b o hb).pe hm, fun q => absurd q Bool.false_ne_true⟩
    | [], _, h => simp [mE] at h
    | _ :: _ :: _, _, h => simp [mE] at h
    | [_], [], h => simp [mE] at h
  | .inx neg a b, X, W, m, o, e', h => by
    cases e' <;> try (simp [mE] at h; done)
    rename_i a' ops bs pos
    match ops, bs, h with
    | [op'], [b'], h =>
      simp only [mE, Bool.and_eq_true, decide_eq_true_eq, Bool.not_eq_true'] at h
      obtain ⟨⟨⟨rfl, hm⟩, ha⟩, hb⟩ := h
      exact ⟨r_inx o.ex o.reads (sE a o ha).pe (sE b o hb).pe hm, r_inxT o.ex o.reads (sE a o ha).pe (sE b o hb).pe hm, fun q => absurd q Bool.false_ne_true⟩
    | [], _, h => simp [mE] at h
    | _ :: _ :: _, _, h => simp [mE] at h
    | [_], [], h => simp [mE] at h
    | [_], _ :: _ :: _, h => simp [mE] at h
  | .and a b, X, W, m, o, e', h => by
    cases e' <;> try (simp [mE] at h; done)
    rename_i op vs pos
    cases op <;> try (simp [mE] at h; done)
    match vs, h with
    | a' :: b' :: rest, h =>
      simp only [mE, Bool.and_eq_true] at h
      have ra := sE a o h.1
      have rb : PE X (.BoolOp .And (b' :: rest) pos) (tE X.K XR P cf W b) ∧ PW X (.BoolOp .And (b' :: rest) pos) (tT X.K XR P cf W b) := by
        cases rest with
        | nil =>
          have rb := sE b o h.2
          exact ⟨r_one rb.pe, pw_and1 rb.pt⟩
        | cons c r =>
          have rb := sE b o h.2
          exact ⟨rb.pe, rb.pw rfl⟩
      have pw := rW_and ra.pt rb.2
      exact ⟨r_and ra.pe rb.1, pw.pt, fun _ => pw⟩
    | [], h => simp [mE] at h
    | [_], h => simp [mE] at h
  | .or a b, X, W, m, o, e', h => by
    cases e' <;> try (simp [mE] at h; done)
    rename_i op vs pos
    cases op <;> try (simp [mE] at h; done)
    match vs, h with
    | a' :: b' :: rest, h =>
      simp only [mE, Bool.and_eq_true] at h
      have ra := sE a o h.1
      have rb : PE X (.BoolOp .Or (b' :: rest) pos) (tE X.K XR P cf W b) ∧ PW X (.BoolOp .Or (b' :: rest) pos) (tT X.K XR P cf W b) := by
        cases rest with
        | nil =>
          have rb := sE b o h.2
          exact ⟨r_one rb.pe, pw_or1 rb.pt⟩
        | cons c r =>
          have rb := sE b o h.2
          exact ⟨rb.pe, rb.pw rfl⟩
      have pw := rW_or ra.pt rb.2
      exact ⟨r_or ra.pe rb.1, pw.pt, fun _ => pw⟩
    | [], h => simp [mE] at h
    | [_], h => simp [mE] at h
  | .ite c a b, X, W, m, o, e', h => by
    cases e' <;> try (simp [mE] at h; done)
    simp only [mE, Bool.and_eq_true] at h
    have rc := sE c o h.1.1
    have ra := sE a o h.1.2
    have rb := sE b o h.2
    exact ⟨r_ite rc.pt ra.pe rb.pe, rT_ite rc.pt ra.pt rb.pt, fun q => absurd q Bool.false_ne_true⟩
  | .idx a i, X, W, m, o, e', h => by
    cases e' <;> try (simp [mE] at h; done)
    simp only [mE, Bool.and_eq_true] at h
    exact .of (r_idx o.ex (sE a o h.1.2).pe (sE i o h.2).pe h.1.1) rfl
  | .slc a l u, X, W, m, o, e', h => by
    cases e' <;> try (simp [mE] at h; done)
    rename_i a' s' pos
    cases s' <;> try (simp [mE] at h; done)
    rename_i l' u' st' p2
    cases st' with
    | some _ => simp [mE] at h
    | none =>
      simp only [mE, Bool.and_eq_true] at h
      exact .of (r_slc (sE a o h.1.1).pe (sO l o h.1.2) (sO u o h.2)) rfl
  | .call x f as, X, W, m, o, e', h => by
    cases e' <;> try (simp [mE] at h; done)
    rename_i fn es' kws pos
    cases fn <;> try (simp [mE] at h; done)
    rename_i x' p
    cases kws with
    | cons _ _ => simp [mE] at h
    | nil =>
      simp only [mE, Bool.and_eq_true, decide_eq_true_eq] at h
      obtain ⟨⟨⟨⟨rfl, hd⟩, hg⟩, hs⟩, ha⟩ := h
      cases hf : P.defs[f]? with
      | none => rw [hf] at hd; cases hd
      | some d =>
        rw [hf] at hd
        have hx : x' = d.name := by simpa using hd
        obtain ⟨dk, dn⟩ := o.defs f d hf
        cases es' with
        | nil =>
          cases as with
          | nil => exact .of (r_call0 o.takes o.room dk dn hx (glob_of o hg)) rfl
          | val _ _ => simp [mA] at ha
          | own _ _ => simp [mA] at ha
          | ref _ _ => simp [mA] at ha
        | cons a r => exact .of (r_call o.takes o.room dk dn hx (glob_of o hg) (sA as o ha) hs) rfl
  | .bf f es, X, W, m, o, e', h => by
    cases e' <;> try (simp [mE] at h; done)
    rename_i fn es' kws pos
    cases fn <;> try (simp [mE] at h; done)
    rename_i x' p
    cases kws with
    | cons _ _ => cases es' <;> simp [mE] at h
    | nil =>
      cases es' with
      | nil => simp [mE] at h
      | cons a r =>
        simp only [mE, Bool.and_eq_true, decide_eq_true_eq] at h
        obtain ⟨⟨⟨⟨rfl, hf⟩, hg⟩, hs⟩, ha⟩ := h
        exact .of (r_bf o.ex o.calm hf rfl (glob_of o hg) (blt_of o) (sEs es o ha).1 hs) rfl
  | .pk p i es, X, W, m, o, e', h => by
    cases p <;> try (simp [mE] at h; done)
    cases es with
    | nil => simp [mE] at h
    | cons q r =>
      cases r with
      | cons _ _ => simp [mE] at h
      | nil =>
        cases e' <;> try (simp [mE] at h; done)
        rename_i a' k' pos
        cases a' <;> try (simp [mE] at h; done)
        simp only [mE, Bool.and_eq_true] at h
        obtain ⟨a, b, c, d⟩ := vis_of o h.1.1
        exact .of (r_pkIdx o.ex a b c d (sE q o h.2).pe h.1.2) rfl
  | .mut md i path fz es, X, W, m, o, e', h => by
    cases path with
    | cons _ _ => cases md <;> simp [mE] at h
    | nil =>
      cases es with
      | nil => cases md <;> simp [mE] at h
      | cons a r =>
        cases r with
        | cons _ _ => cases md <;> simp [mE] at h
        | nil =>
          cases md <;> try (simp [mE] at h; done)
          · cases e' <;> try (simp [mE] at h; done)
            rename_i fn es' kws pos
            cases fn <;> try (simp [mE] at h; done)
            rename_i ob nm apos
            cases ob <;> try (simp [mE] at h; done)
            match es', kws, h with
            | [e'], [], h =>
              simp only [mE, Bool.and_eq_true, decide_eq_true_eq] at h
              obtain ⟨⟨⟨⟨rfl, hv⟩, hl⟩, hs⟩, ha⟩ := h
              obtain ⟨a1, b1, c1, d1⟩ := vis_of o hv
              exact .of (r_append a1 b1 c1 d1 (r_cons (sE a o ha).pe r_nil (star_cons hs)) hl hs) rfl
            | [], _, h => simp [mE] at h
            | _ :: _ :: _, _, h => simp [mE] at h
            | [_], _ :: _, h => simp [mE] at h
          · cases e' <;> try (simp [mE] at h; done)
            rename_i fn es' kws pos
            cases fn <;> try (simp [mE] at h; done)
            rename_i ob nm apos
            cases ob <;> try (simp [mE] at h; done)
            match es', kws, h with
            | [e'], [], h =>
              simp only [mE, Bool.and_eq_true, decide_eq_true_eq] at h
              obtain ⟨⟨⟨⟨rfl, hv⟩, hl⟩, hs⟩, ha⟩ := h
              obtain ⟨a1, b1, c1, d1⟩ := vis_of o hv
              exact .of (r_extend a1 b1 c1 d1 (r_cons (sE a o ha).pe r_nil (star_cons hs)) hl hs) rfl
            | [], _, h => simp [mE] at h
            | _ :: _ :: _, _, h => simp [mE] at h
            | [_], _ :: _, h => simp [mE] at h
  | .comp kk vs tg it ifs gs, X, W, m, o, e', h => by
    cases kk <;> try (simp [mE] at h; done)
    simp only [mE] at h
    split at h
    · rename_i elt tg' it' ifs' scope pos
      simp only [Bool.and_eq_true] at h
      obtain ⟨⟨⟨⟨⟨⟨hi, hns⟩, hb⟩, hsl⟩, ht⟩, hc⟩, hl⟩ := h
      have bk : BlkOk X.N X.env.scope scope (owOf m.N vs) := by rw [o.N, o.sc]; exact blkOk_by hb
      have ob := fun s H C cl fp => o.blk (blkOk_by hb) (s := s) (H := H) (C := C) (cl := cl) (fp := fp)
      cases gs with
      | last e =>
        exact .of (r_lc o.calm (by rw [o.N]; exact o.nd) (sI it o hi) bk (owOf_snd _ _) (slots_of hsl) (fun s H C cl fp => tg_of (ob s H C cl fp) ht) (fun s H C cl fp => sC ifs (ob s H C cl fp) hc) (fun s H C cl fp => (sE e (ob s H C cl fp) (by simpa [mL] using hl)).pe) (notSet_ok hns)) rfl
      | last2 _ _ => simp [mL] at hl
      | cons _ _ _ _ => simp [mL] at hl
    · rename_i elt tg' it' ifs' tg1' it1' ifs1' scope pos
      simp only [Bool.and_eq_true] at h
      obtain ⟨⟨⟨⟨⟨⟨hi, hns⟩, hb⟩, hsl⟩, ht⟩, hc⟩, hl⟩ := h
      have bk : BlkOk X.N X.env.scope scope (owOf m.N vs) := by rw [o.N, o.sc]; exact blkOk_by hb
      have ob := fun s H C cl fp => o.blk (blkOk_by hb) (s := s) (H := H) (C := C) (cl := cl) (fp := fp)
      cases gs with
      | last e => simp [mG] at hl
      | last2 _ _ => simp [mG] at hl
      | cons tg1 it1 ifs1 r =>
        cases r with
        | last2 _ _ => simp [mG] at hl
        | cons _ _ _ _ => simp [mG] at hl
        | last e =>
          simp only [mG, Bool.and_eq_true] at hl
          obtain ⟨⟨⟨⟨⟨hi1, hns1⟩, hsl1⟩, ht1⟩, hc1⟩, he⟩ := hl
          exact .of (r_lc2 o.calm (by rw [o.N]; exact o.nd) (sI it o hi) bk (owOf_snd _ _) (slots_of hsl) (slots_of hsl1) (fun s H C cl fp => tg_of (ob s H C cl fp) ht) (fun s H C cl fp => sC ifs (ob s H C cl fp) hc)
            (fun s H C cl fp => sI it1 (ob s H C cl fp) hi1) (fun s H C cl fp => tg_of (ob s H C cl fp) ht1) (fun s H C cl fp => sC ifs1 (ob s H C cl fp) hc1) (fun s H C cl fp => (sE e (ob s H C cl fp) he).pe) (notSet_ok hns) (fun env => notSet_ok hns1)) rfl
    · cases h
  | .sset f a, X, W, m, o, e', h => by
    simp only [mE] at h
    split at h
    · rename_i x p y p2 a' q pos
      simp only [Bool.and_eq_true, decide_eq_true_eq] at h
      obtain ⟨⟨⟨⟨⟨hx, hy⟩, hg⟩, hg2⟩, hs⟩, ha⟩ := h
      subst hy
      cases f with
      | sorted =>
        have hx : x = "sorted" := of_decide_eq_true hx
        subst hx
        exact .of (r_sset o.room o.calm (glob_of o hg) (o.blt _ (by decide)) (glob_of o hg2) (o.blt _ (by decide)) (sE a o ha).pe hs) rfl
      | len =>
        have hx : x = "len" := of_decide_eq_true hx
        subst hx
        exact .of (r_lset o.room o.calm (glob_of o hg) (o.blt _ (by decide)) (glob_of o hg2) (o.blt _ (by decide)) (sE a o ha).pe hs) rfl
      | _ => cases hx
    · cases h
  | .glob g, X, W, m, o, e', h => by
    cases e' <;> try (simp [mE] at h; done)
    simp only [mE, Bool.and_eq_true] at h
    obtain ⟨h1, h2⟩ := h
    cases hg : P.glos[g]? with
    | none => rw [hg] at h1; cases h1
    | some ge =>
      rw [hg] at h1
      exact .of (r_glob hg (of_decide_eq_true h1) (glob_of o h2) (o.glo ge (List.mem_of_getElem? hg))) rfl
  | .dct _ _, X, W, m, o, e', h => by simp [mE] at h
  | .rvs a, X, W, m, o, e', h => by
    simp only [mE] at h
    split at h
    · exact .of (r_rvs (sE a o h).pe) rfl
    · cases h
  | .callK x f ks es, X, W, m, o, e', h => by
    cases e' <;> try (simp [mE] at h; done)
    rename_i fn es' kws pos
    cases fn <;> try (simp [mE] at h; done)
    cases es' with
    | cons _ _ => simp [mE] at h
    | nil =>
      simp only [mE, Bool.and_eq_true, decide_eq_true_eq] at h
      obtain ⟨⟨⟨⟨rfl, hd⟩, hg⟩, hk⟩, he⟩ := h
      cases hf : P.defs[f]? with
      | none => rw [hf] at hd; cases hd
      | some d =>
        rw [hf] at hd
        obtain ⟨dk, dn⟩ := o.defs f d hf
        exact .of (r_callK o.takes o.room hf dk dn (by simpa using hd) (glob_of o hg) hk (sK es o he)) rfl
  | .col _ _, X, W, m, o, e', h => by simp [mE] at h
  | .isi a ts, X, W, m, o, e', h => by
    simp only [mE] at h
    split at h
    · rename_i x p a' y pos
      simp only [Bool.and_eq_true, decide_eq_true_eq] at h
      obtain ⟨⟨⟨⟨hx, hg⟩, hs⟩, ha⟩, ht⟩ := h
      exact .of (isi_of o.reads (bltX o.blt) (o.blt _ (by decide)) hx (glob_of o hg) (by rw [o.sc]; exact ht) (sE a o ha).pe hs) rfl
    · cases h
  | .met _ _ _, X, W, m, o, e', h => by simp [mE] at h
  | .attr a f, X, W, m, o, e', h => by
    cases e' <;> try (simp [mE] at h; done)
    simp only [mE, Bool.and_eq_true, decide_eq_true_eq] at h
    obtain ⟨⟨rfl, hb⟩, ha⟩ := h
    exact .of (r_attr o.reads (sE a o ha).pe hb) rfl
  | .mkx x c ks es, X, W, m, o, e', h => by
    cases ks with
    | cons f r =>
      cases r with
      | cons _ _ => simp [mE] at h
      | nil =>
        match es, h with
        | .nil, h => simp [mE] at h
        | .cons _ (.cons _ _), h => simp [mE] at h
        | .cons a .nil, h =>
          simp only [mE] at h
          split at h
          · simp only [Bool.and_eq_true, decide_eq_true_eq] at h
            obtain ⟨⟨⟨⟨rfl, hc⟩, hg⟩, rfl⟩, ha⟩ := h
            obtain ⟨e0, hc, hn⟩ := ecN_ok hc
            exact .of (r_mkxK (o.r3 hc) (o.exc c e0 hc) hc hn (glob_of o hg) (sE a o ha).pe) rfl
          · cases h
    | nil =>
      cases e' <;> try (simp [mE] at h; done)
      rename_i fn es' kws pos
      cases fn <;> try (simp [mE] at h; done)
      cases kws with
      | cons _ _ => simp [mE] at h
      | nil =>
        simp only [mE, Bool.and_eq_true, decide_eq_true_eq] at h
        obtain ⟨⟨⟨⟨rfl, hc⟩, hg⟩, hs⟩, he⟩ := h
        obtain ⟨e0, hc, hn⟩ := ecN_ok hc
        cases es' with
        | nil =>
          cases es with
          | nil => exact .of (r_mkx0 (o.r3 hc) (o.exc c e0 hc) hc hn (glob_of o hg)) rfl
          | cons _ _ => simp [mEs] at he
        | cons a r => exact .of (r_mkx (o.r3 hc) (o.exc c e0 hc) hc hn (glob_of o hg) (sEs es o he).1 hs) rfl
theorem sEs : ∀ (es : Es) {X : Cx} {W : WX} {m : Mc} (o : Ok X P cf XR k W m) {es' : List Expr}, mEs P es m es' = true → PA X es' (tEs X.K XR P cf W es) ∧ noStars es' = true
  | .nil, X, W, m, o, es', h => by
    cases es' with
    | nil => exact ⟨r_nil, rfl⟩
    | cons _ _ => simp [mEs] at h
  | .cons e r, X, W, m, o, es', h => by
    cases es' with
    | nil => simp [mEs] at h
    | cons e' r' =>
      simp only [mEs, Bool.and_eq_true] at h
      obtain ⟨h1, h2⟩ := sEs r o h.2
      exact ⟨r_cons (sE e o h.1.2).pe h1 (star_cons h.1.1), by rw [noStars, h.1.1, h2]; rfl⟩
theorem sK : ∀ (es : Es) {X : Cx} {W : WX} {m : Mc} (o : Ok X P cf XR k W m) {ks : List Keyword}, mK P es m ks = true → PK X ks (tEs X.K XR P cf W es)
  | .nil, X, W, m, o, ks, h => by
    cases ks with
    | nil => exact rk_nil
    | cons _ _ => simp [mK] at h
  | .cons e r, X, W, m, o, ks, h => by
    match ks, h with
    | [], h => simp [mK] at h
    | ⟨nm, e', p⟩ :: r', h =>
      simp only [mK, Bool.and_eq_true] at h
      exact rk_cons (sE e o h.1).pe (sK r o h.2)
theorem sO : ∀ (x : Oe) {X : Cx} {W : WX} {m : Mc} (o : Ok X P cf XR k W m) {x' : Option Expr}, mO P x m x' = true → PO X x' (tO (X := X) P cf W XR x)
  | .none, X, W, m, o, x', h => by
    cases x' with
    | none => exact rO_none
    | some _ => simp [mO] at h
  | .some e, X, W, m, o, x', h => by
    cases x' with
    | none => simp [mO] at h
    | some e' => exact rO_some (sE e o (by simpa [mO] using h)).pe
theorem sA : ∀ (as : As) {X : Cx} {W : WX} {m : Mc} (o : Ok X P cf XR k W m) {es' : List Expr}, mA P as m es' = true → PA X es' (tAs (X := X) P cf W XR as)
  | .nil, X, W, m, o, es', h => by
    cases es' with
    | nil => exact rA_nil
    | cons _ _ => simp [mA] at h
  | .val e r, X, W, m, o, es', h => by
    cases es' with
    | nil => simp [mA] at h
    | cons e' r' =>
      simp only [mA, Bool.and_eq_true] at h
      exact rA_val (sE e o h.1.2).pe (sA r o h.2) h.1.1
  | .own e r, X, W, m, o, es', h => by
    cases es' with
    | nil => simp [mA] at h
    | cons e' r' =>
      simp only [mA, Bool.and_eq_true] at h
      exact rA_own (sE e o h.1.2).pe (sA r o h.2) h.1.1
  | .ref i r, X, W, m, o, es', h => by
    cases es' with
    | nil => simp [mA] at h
    | cons e' r' =>
      cases e' <;> try (simp [mA] at h; done)
      simp only [mA, Bool.and_eq_true] at h
      obtain ⟨a, b, c, d⟩ := vis_of o h.1
      exact rA_ref a b c d (sA r o h.2)
theorem sI : ∀ (it : It) {X : Cx} {W : WX} {m : Mc} (o : Ok X P cf XR k W m) {tg e' : Expr}, mI P it m tg e' = true → PI X tg e' (tI (X := X) P cf W XR it)
  | .any e, X, W, m, o, tg, e', h => r_any (sE e o (by simpa [mI] using h)).pe
  | .rng es, X, W, m, o, tg, e', h => by
    cases e' <;> try (simp [mI] at h; done)
    rename_i fn es' kws pos
    cases fn <;> try (simp [mI] at h; done)
    cases kws with
    | cons _ _ => simp [mI] at h
    | nil =>
      simp only [mI, Bool.and_eq_true, Bool.or_eq_true, decide_eq_true_eq] at h
      obtain ⟨⟨⟨⟨⟨hx, hg⟩, hs⟩, hn⟩, hl⟩, he⟩ := h
      exact r_rng hx (glob_of o hg) (o.blt _ (by decide)) (sEs es o he).1 hs (by rcases hn with (hn | hn) | hn <;> simp [hn]) hl
  | .enum e, X, W, m, o, tg, e', h => by
    cases e' <;> try (simp [mI] at h; done)
    rename_i fn es' kws pos
    cases fn <;> try (simp [mI] at h; done)
    match es', kws, h with
    | [a'], [], h =>
      simp only [mI, Bool.and_eq_true, decide_eq_true_eq] at h
      obtain ⟨⟨⟨⟨ht, hx⟩, hg⟩, hs⟩, he⟩ := h
      cases tg <;> try (exact absurd ht Bool.false_ne_true)
      exact r_enum hx (glob_of o hg) (o.blt _ (by decide)) (sE e o he).pe hs
    | [], _, h => simp [mI] at h
    | _ :: _ :: _, _, h => simp [mI] at h
    | [_], _ :: _, h => simp [mI] at h
  | .zip a b, X, W, m, o, tg, e', h => by
    cases e' <;> try (simp [mI] at h; done)
    rename_i fn es' kws pos
    cases fn <;> try (simp [mI] at h; done)
    match es', kws, h with
    | [a', b'], [], h =>
      simp only [mI, Bool.and_eq_true, decide_eq_true_eq] at h
      obtain ⟨⟨⟨⟨⟨⟨ht, hx⟩, hg⟩, hs⟩, hs2⟩, ha⟩, hb⟩ := h
      cases tg <;> try (exact absurd ht Bool.false_ne_true)
      exact r_zip hx (glob_of o hg) (o.blt _ (by decide)) (sE a o ha).pe (sE b o hb).pe hs hs2
    | [], _, h => simp [mI] at h
    | [_], _, h => simp [mI] at h
    | _ :: _ :: _ :: _, _, h => simp [mI] at h
    | [_, _], _ :: _, h => simp [mI] at h
  | .rev e, X, W, m, o, tg, e', h => by
    cases e' <;> try (simp [mI] at h; done)
    rename_i fn es' kws pos
    cases fn <;> try (simp [mI] at h; done)
    match es', kws, h with
    | [a'], [], h =>
      simp only [mI, Bool.and_eq_true, decide_eq_true_eq] at h
      obtain ⟨⟨⟨hx, hg⟩, hs⟩, he⟩ := h
      exact r_rev hx (glob_of o hg) (o.blt _ (by decide)) (sE e o he).pe hs
    | [], _, h => simp [mI] at h
    | _ :: _ :: _, _, h => simp [mI] at h
    | [_], _ :: _, h => simp [mI] at h
theorem sC : ∀ (ifs : Es) {X : Cx} {m : Mc} (o : Ok X P cf XR k W0 m) {es' : List Expr}, mC P ifs m es' = true → PTs X es' (tC P cf XR X.K ifs)
  | .nil, X, m, o, es', h => by
    cases es' with
    | nil => exact rC_nil
    | cons _ _ => simp [mC] at h
  | .cons c .nil, X, m, o, es', h => by
    match es', h with
    | [c'], h => exact rC_one (sE c o (by simpa [mC] using h)).pt
    | [], h => simp [mC] at h
    | _ :: _ :: _, h => simp [mC] at h
  | .cons c (.cons _ _), X, m, o, es', h => by simp [mC] at h
end
end

/-! ### except suites -/
structure OkU (X : Cx) (P : Prog) (m : Mc) : Prop where
  N : X.N = m.N
  nd : m.N.Nodup
  sc : X.env.scope = m.sc
  fn : X.fn = m.fn
  blt : ∀ x ∈ bltNames, X.mg x = none
  reads : XReads X.K X.mg P.ecs
section
variable {P : Prog} {cf : Cf} {XR : Hp → Value → Option Addr → D → Prop} {W : WX} {X : Cx} {m : Mc}
mutual
theorem sU (o : OkU X P m) : ∀ (e : E) {e' : Expr}, mU P e m e' = true → PE X e' (tE X.K XR P cf W e)
  | .lit d, e', h => by
    cases e' <;> try (simp [mU] at h; done)
    exact r_lit (by simpa [mU] using h)
  | .var i, e', h => by
    cases e' <;> try (simp [mU] at h; done)
    rename_i x p
    have h : visB m.N m.sc i x = true := by simpa [mU] using h
    rw [← o.N, ← o.sc] at h
    obtain ⟨a, b, c, d⟩ := visB_ok h
    exact r_var a b c d
  | .tup es, e', h => by
    cases e' <;> try (simp [mU] at h; done)
    simp only [mU, Bool.and_eq_true, decide_eq_true_eq] at h
    exact r_tup (sUs o es h.2).1 h.1
  | .lst es, e', h => by
    cases e' <;> try (simp [mU] at h; done)
    simp only [mU, Bool.and_eq_true, decide_eq_true_eq] at h
    exact r_lst (sUs o es h.2).1 h.1
  | .isi a ts, e', h => by
    simp only [mU] at h
    split at h
    · simp only [Bool.and_eq_true, decide_eq_true_eq] at h
      obtain ⟨⟨⟨⟨hx, hg⟩, hs⟩, ha⟩, ht⟩ := h
      exact isi_of o.reads (bltX o.blt) (o.blt _ (by decide)) hx (by rw [o.sc]; exact hg) (by rw [o.sc]; exact ht) (sU o a ha) hs
    · cases h
  | .attr a f, e', h => by
    cases e' <;> try (simp [mU] at h; done)
    simp only [mU, Bool.and_eq_true, decide_eq_true_eq] at h
    obtain ⟨⟨rfl, hb⟩, ha⟩ := h
    exact r_attr o.reads (sU o a ha) hb
  | .glob _, e', h => by simp [mU] at h
  | .dct _ _, e', h => by simp [mU] at h
  | .bin _ _ _, e', h => by simp [mU] at h
  | .neg _, e', h => by simp [mU] at h
  | .nt _, e', h => by simp [mU] at h
  | .cmp _ _ _, e', h => by simp [mU] at h
  | .inx _ _ _, e', h => by simp [mU] at h
  | .and _ _, e', h => by simp [mU] at h
  | .or _ _, e', h => by simp [mU] at h
  | .ite _ _ _, e', h => by simp [mU] at h
  | .idx _ _, e', h => by simp [mU] at h
  | .slc _ _ _, e', h => by simp [mU] at h
  | .rvs _, e', h => by simp [mU] at h
  | .call _ _ _, e', h => by simp [mU] at h
  | .callK _ _ _ _, e', h => by simp [mU] at h
  | .bf _ _, e', h => by simp [mU] at h
  | .sset _ _, e', h => by simp [mU] at h
  | .col _ _, e', h => by simp [mU] at h
  | .met _ _ _, e', h => by simp [mU] at h
  | .pk _ _ _, e', h => by simp [mU] at h
  | .mut _ _ _ _ _, e', h => by simp [mU] at h
  | .comp _ _ _ _ _ _, e', h => by simp [mU] at h
  | .mkx _ _ _ _, e', h => by simp [mU] at h
theorem sUs (o : OkU X P m) : ∀ (es : Es) {es' : List Expr}, mUs P es m es' = true → PA X es' (tEs X.K XR P cf W es) ∧ noStars es' = true
  | .nil, es', h => by
    cases es' with
    | nil => exact ⟨r_nil, rfl⟩
    | cons _ _ => simp [mUs] at h
  | .cons e r, es', h => by
    cases es' with
    | nil => simp [mUs] at h
    | cons e' r' =>
      simp only [mUs, Bool.and_eq_true] at h
      obtain ⟨h1, h2⟩ := sUs o r h.2
      exact ⟨r_cons (sU o e h.1.2) h1 (star_cons h.1.1), by rw [noStars, h.1.1, h2]; rfl⟩
end
end
end Ur
end
section
set_option linter.all false
set_option autoImplicit false
set_option maxHeartbeats 2000000
/-! UrI4: the check of statements. -/
namespace Ur
open PySem L2
def notComp : Expr → Bool
  | .ListComp .. => false
  | .SetComp .. => false
  | .DictComp .. => false
  | _ => true
theorem notComp_ok {e : Expr} {t : Option Expr} {n : Nat} {env : Env} (h : notComp e = true) : swapsWith e t n env = pure false := by
  cases e <;> first | rfl | (exact absurd h Bool.false_ne_true)
/-- does the comprehension take the name's place? -/
def swapB (sc : Scope) (x : Str) (p : Pos) : Expr → Bool
  | .ListComp _ _ s q => sc.names.lookup x == some .local && p.line == q.line && !(s.names.any fun (n, k) => n == x && (k == .local || k == .cell))
  | _ => false
theorem swapB_ok {env : Env} {x : Str} {p : Pos} {n : Nat} {elt : Expr} {gs : List Comprehension} {s : Scope} {q : Pos} (hb : env.scope.kind = .function) : swapsWith (.ListComp elt gs s q) (some (.Name x p)) n env = pure (swapB env.scope x p (.ListComp elt gs s q)) := by
  have : env.blockKind = .function := by unfold Env.blockKind; rw [hb]; rfl
  show (pure (env.blockKind == .function && env.kindOf x == some .local && p.line == q.line && !(s.names.any fun (n, k) => n == x && (k == .local || k == .cell))) : Sem Bool) = _
  rw [this]
  rfl
def nin (i : Nat) (fx : List Nat) : Bool := decide (i ∉ fx)
/-- the class that an except clause names -/
def clsN (ecs : List Ec) (ty : Ty) (y : Str) : Bool := match ty with
  | .own c => ecN ecs c y
  | .valueError => decide (y = "ValueError")
  | .lookupError => decide (y = "LookupError")
  | _ => false
/-- the statements of an except suite -/
def mUS (P : Prog) : Ss → Mc → List Nat → List Stmt → Bool
  | .nil, m, fx, ss => ss.isEmpty
  | .cons (.set i b e) r, m, fx, ss => match ss with
    | .Assign [.Name x p] e' _ :: r' => locB m.N m.sc m.fn i x && nin i fx && notComp e' && mU P e m e' && mUS P r m fx r'
    | _ => false
  | .cons (.ret e) r, m, fx, ss => match ss with
    | .Return (some e') _ :: r' => mU P e m e' && mUS P r m fx r'
    | _ => false
  | .cons _ _, _, _, _ => false
section
variable (P : Prog)
/-- several names at once -/
def parB1 (is : List Nat) (es : Es) (m : Mc) (fx : List Nat) (s : Stmt) : Bool := match s with
    | .Assign [.Tuple ts k p] (.Tuple vs _ _) _ => vs.all (foldedForSure 8) && namesT m.N m.sc m.fn is ts && is.all (fun i => nin i fx) && decide (es.len ≤ top) && mEs P es m vs
    | _ => false
def parB2 (i j : Nat) (es : Es) (m : Mc) (fx : List Nat) (s : Stmt) : Bool := match s with
    | .Assign [.Tuple [.Name x px, .Name y py] _ _] (.Tuple [a, b] _ _) _ => nin i fx && nin j fx && decide (i ≠ j) && decide (m.N[i]? = some x) && decide (m.N[j]? = some y) && decide (m.sc.names.lookup x = some .local) && decide (m.sc.names.lookup y = some .local) && decide (py.line = px.line) &&
        !([a, b].all (foldedForSure 8)) && !([a, b].all (constantsAlone 8)) && mEs P es m [a, b]
    | _ => false
def parB3 (i j u : Nat) (es : Es) (m : Mc) (fx : List Nat) (s : Stmt) : Bool := match s with
    | .Assign [.Tuple [.Name x px, .Name y py, .Name z pz] _ _] (.Tuple [a, b, c] _ _) _ => nin i fx && nin j fx && nin u fx && decide (i ≠ j) && decide (i ≠ u) && decide (j ≠ u) && decide (m.N[i]? = some x) && decide (m.N[j]? = some y) && decide (m.N[u]? = some z) &&
        decide (m.sc.names.lookup x = some .local) && decide (m.sc.names.lookup y = some .local) && decide (m.sc.names.lookup z = some .local) && decide (py.line = px.line) && decide (pz.line = px.line) &&
        !([a, b, c].all (foldedForSure 8)) && !([a, b, c].all (constantsAlone 8)) && mEs P es m [a, b, c]
    | _ => false
def parB (is : List Nat) (es : Es) (m : Mc) (fx : List Nat) (s : Stmt) : Bool := parB1 P is es m fx s || match is with
  | [i, j] => parB2 P i j es m fx s
  | [i, j, u] => parB3 P i j u es m fx s
  | _ => false
mutual
def mS : S → Mc → List Nat → Stmt → Bool
  | .exp e, m, fx, s => match s with
    | .Expr e' _ => notComp e' && mE P e m e'
    | _ => false
  | .set i b e, m, fx, s => match s with
    | .Assign [.Name x p] e' _ => locB m.N m.sc m.fn i x && nin i fx && (notComp e' || (match e' with | .ListComp _ [_] _ _ => true | .ListComp _ _ _ _ => !swapB m.sc x p e' | _ => false)) && mE P e m e'
    | _ => false
  | .par is bs es, m, fx, s => parB P is es m fx s
  | .unp is e, m, fx, s => match s with
    | .Assign [.Tuple es' k p] e' _ => !isTup e' && notComp e' && mTg m.N m.sc m.fn (.tup is) (.Tuple es' k p) && is.all (fun i => nin i fx) && mE P e m e'
    | _ => false
  | .sto i .nil fz k e, m, fx, s => match s with
    | .Assign [.Subscript (.Name x _) k' _] e' _ => visB m.N m.sc i x && plainIx k' && mE P k m k' && mE P e m e'
    | _ => false
  | .aug i op e, m, fx, s => match s with
    | .AugAssign (.Name x _) op' e' _ => decide (op' = pyB op) && (decide (op = .add) || decide (op = .sub)) && locB m.N m.sc m.fn i x && nin i fx && mE P e m e'
    | _ => false
  | .ife c a b, m, fx, s => match s with
    | .If c' a' b' _ => mE P c m c' && mSs a m fx a' && mSs b m fx b'
    | _ => false
  | .whl c b, m, fx, s => match s with
    | .While c' b' [] _ => mE P c m c' && mSs b m fx b'
    | _ => false
  | .for_ tg it b, m, fx, s => match s with
    | .For tg' it' b' [] _ => mI P it m tg' it' && notSet it' && mTg m.N m.sc m.fn tg tg' && tg.slots.all (fun i => nin i fx) && mSs b m fx b'
    | _ => false
  | .ret e, m, fx, s => match s with
    | .Return (some e') _ => mE P e m e'
    | _ => false
  | .retv i, m, fx, s => match s with
    | .Return (some (.Name x _)) _ => visB m.N m.sc i x
    | _ => false
  | .retN, m, fx, s => match s with
    | .Return none _ => true
    | _ => false
  | .brk, m, fx, s => match s with
    | .Break _ => true
    | _ => false
  | .cnt, m, fx, s => match s with
    | .Continue _ => true
    | _ => false
  | .pass, m, fx, s => match s with
    | .Pass _ => true
    | _ => false
  | .rai x c es, m, fx, s => match s with
    | .Raise (some (.Call (.Name x' _) es' [] _)) none _ => decide (x' = x) && ecN P.ecs c x && glob m.sc x' && noStars es' && mEs P es m es'
    | _ => false
  | .try_ b h, m, fx, s => match s with
    | .Try body (h0 :: hds) [] [] _ => mSs b m fx body && mHs h m fx (h0 :: hds)
    | _ => false
  | _, _, _, _ => false
def mHs : Hs → Mc → List Nat → List ExceptHandler → Bool
  | .nil, m, fx, hs => hs.isEmpty
  | .cons ty x n b r, m, fx, hs => match hs with
    | .ExceptHandler (some (.Name y _)) oy (b0 :: su) _ :: hds => clsN P.ecs ty y && glob m.sc y && (match n, oy with
      | none, none => true
      | some i, some z => decide (m.N[i]? = some z) && decide (m.sc.names.lookup z = some .local) && nin i fx
      | _, _ => false) && mUS P b m fx (b0 :: su) && mHs r m fx hds
    | _ => false
def mSs : Ss → Mc → List Nat → List Stmt → Bool
  | .nil, m, fx, ss => ss.isEmpty
  | .cons a r, m, fx, ss => match ss with
    | a' :: r' => mS a m fx a' && mSs r m fx r'
    | [] => false
end
end
section
variable {P : Prog} {cf : Cf} {k : Nat}
theorem nin_ok {i : Nat} {fx : List Nat} (h : nin i fx = true) : i ∉ fx := by simpa [nin] using h
theorem loc_of {X : Cx} {W : WX} {m : Mc} (o : Ok X P cf (xr P.ecs) k W m) {i : Nat} {x : Str} (h : locB m.N m.sc m.fn i x = true) : X.N[i]? = some x ∧ Loc X.env.scope x ∧ (X.fn x = true ∨ X.env.scope.names.lookup x = some .local) := by
  rw [o.N, o.sc, o.fn]
  exact locB_ok h
theorem ndX {X : Cx} {W : WX} {m : Mc} (o : Ok X P cf (xr P.ecs) k W m) : X.N.Nodup := by rw [o.N]; exact o.nd
theorem kdX {X : Cx} {W : WX} {m : Mc} (o : Ok X P cf (xr P.ecs) k W m) : X.env.scope.kind = .function := by rw [o.sc]; exact o.kind
theorem not_pk {p : Pk} {i : Nat} {es : Es} {m : Mc} {a : Expr} {gs : List Comprehension} {sc : Scope} {q : Pos} : mE P (.pk p i es) m (.ListComp a gs sc q) = false := by
  cases p <;> try (simp [mE]; done)
  cases es with
  | nil => simp [mE]
  | cons e r => cases r <;> simp [mE]
theorem not_mkx {x : Str} {c : Nat} {ks : List Str} {es : Es} {m : Mc} {a : Expr} {gs : List Comprehension} {sc : Scope} {q : Pos} : mE P (.mkx x c ks es) m (.ListComp a gs sc q) = false := by
  cases ks with
  | nil => simp [mE]
  | cons f r =>
    cases r with
    | cons _ _ => simp [mE]
    | nil =>
      match es with
      | .nil => simp [mE]
      | .cons _ (.cons _ _) => simp [mE]
      | .cons _ .nil => simp [mE]
theorem not_mut {p : Mm} {i : Nat} {ks es : Es} {fz : Bool} {m : Mc} {a : Expr} {gs : List Comprehension} {sc : Scope} {q : Pos} : mE P (.mut p i ks fz es) m (.ListComp a gs sc q) = false := by
  cases ks with
  | cons _ _ => cases p <;> simp [mE]
  | nil =>
    cases es with
    | nil => cases p <;> simp [mE]
    | cons e r => cases r <;> cases p <;> simp [mE]
structure Tp (X : Cx) : Prop where
  pas : PassesOwn (model X.prog X.w) X.A X.env X.xe
  stk : X.stack = X.env :: X.outer
  frm : X.env.frame = some X.env.locals
  ex : X.ex = []
theorem Ok.tr {X : Cx} {W W' : WX} {m : Mc} (o : Ok X P cf (xr P.ecs) k W m) {pn : List (Addr × Obj)} {xe : Value → Shared → Prop} (tk : Takes (X.tr pn xe) W') : Ok (X.tr pn xe) P cf (xr P.ecs) k W' m where
  N := o.N
  nd := o.nd
  sc := o.sc
  kind := o.kind
  fn := o.fn
  glo := o.glo
  calm := o.calm
  room := o.room
  k3 := o.k3
  reads := o.reads
  exc := fun c e h => o.exc c e h
  takes := tk
  blt := o.blt
  defs := fun f d h => ⟨⟨(o.defs f d h).1.ok⟩, (o.defs f d h).2⟩
theorem Ok.toU {X : Cx} {W : WX} {m : Mc} (o : Ok X P cf (xr P.ecs) k W m) (a : Addr) (pn : List (Addr × Obj)) : OkU (X.suite a pn) P m := ⟨o.N, o.nd, o.sc, o.fn, o.blt, o.reads⟩
theorem sUS {X : Cx} {W : WX} {m : Mc} {fx : List Nat} (o : OkU X P m) : ∀ (s : Ss) {ss : List Stmt}, mUS P s m fx ss = true → PSs X ss (tSs X.K (xr P.ecs) P cf W fx s)
  | .nil, ss, h => by
    cases ss with
    | nil => exact rs_nil
    | cons _ _ => simp [mUS] at h
  | .cons a r, ss, h => by
    cases a <;> try (simp [mUS] at h; done)
    · simp only [mUS] at h
      split at h
      · simp only [Bool.and_eq_true] at h
        obtain ⟨⟨⟨⟨hl, hn⟩, hc⟩, he⟩, hr⟩ := h
        rw [← o.N, ← o.sc, ← o.fn] at hl
        obtain ⟨a1, b1, c1⟩ := locB_ok hl
        exact rs_cons (rs_set (by rw [o.N]; exact o.nd) a1 b1 c1 (nin_ok hn) (sU o _ he) (notComp_ok hc)) (sUS o r hr)
      · cases h
    · simp only [mUS] at h
      split at h
      · simp only [Bool.and_eq_true] at h
        exact rs_cons (rs_ret (sU o _ h.1)) (sUS o r h.2)
      · cases h
theorem clsN_ok {X : Cx} {W : WX} {m : Mc} (o : Ok X P cf (xr P.ecs) k W m) {ty : Ty} {y : Str} (h : clsN P.ecs ty y = true) (hg : glob m.sc y = true) : ∃ c, Names X y c ∧ ∀ e ∈ P.ecs, PySem.W.exmOne X.K (.ref e.adr) c = some (tyD P.ecs (excD e.adr []) ty) := by
  obtain ⟨g1, g2, g3⟩ := glob_ok (glob_of o hg)
  have ex : ∀ c, excOf (excD c []) = some c := fun c => by simp [excOf, excD]
  unfold clsN at h
  split at h
  · rename_i c
    obtain ⟨e0, he, rfl⟩ := ecN_ok h
    have hm := List.mem_of_getElem? he
    refine ⟨.ref e0.adr, ⟨g1, g2, .inl (o.reads.mg e0 hm)⟩, fun e hm2 => ?_⟩
    rw [o.reads.xO e hm2 e0 hm]
    simp [tyD, ex, he]
  · rename_i hy
    have h := of_decide_eq_true h
    subst h
    refine ⟨.type "ValueError", ⟨g1, g2, .inr ⟨o.blt _ (by decide), by decide +kernel, g3⟩⟩, fun e hm => ?_⟩
    rw [o.reads.xT e hm _ (by simp)]
    simp only [tyD, ex, Option.bind_some, o.reads.base e hm]
    cases e.base <;> decide
  · have h := of_decide_eq_true h
    subst h
    refine ⟨.type "LookupError", ⟨g1, g2, .inr ⟨o.blt _ (by decide), by decide +kernel, g3⟩⟩, fun e hm => ?_⟩
    rw [o.reads.xT e hm _ (by simp)]
    simp only [tyD, ex, Option.bind_some, o.reads.base e hm]
    cases e.base <;> decide
  · cases h
theorem sHs {X : Cx} {W : WX} {m : Mc} {fx : List Nat} (o : Ok X P cf (xr P.ecs) k W m) : ∀ (h : Hs) {hs : List ExceptHandler}, mHs P h m fx hs = true → HsOk X P cf fx h hs
  | .nil, hs, q => by
    cases hs with
    | nil => exact .nil
    | cons _ _ => simp [mHs] at q
  | .cons ty x n b r, hs, q => by
    simp only [mHs] at q
    split at q
    · rename_i y np oy b0 su pos hds
      simp only [Bool.and_eq_true] at q
      obtain ⟨⟨⟨⟨h1, h2⟩, h3⟩, h4⟩, h5⟩ := q
      obtain ⟨c, hc, hx⟩ := clsN_ok o h1 h2
      split at h3
      · exact .one hc hx (fun a pn => sUS (o.toU a pn) b h4) (sHs o r h5)
      · simp only [Bool.and_eq_true, decide_eq_true_eq] at h3
        exact .named hc hx (by rw [o.N]; exact h3.1.1) (by show X.env.scope.names.lookup _ = _; rw [o.sc]; exact h3.1.2) (nin_ok h3.2) (fun a pn => sUS (o.toU a pn) b h4) (sHs o r h5)
      · cases h3
    · cases q
theorem par1_ok {is bs : List Nat} {es : Es} {X : Cx} {W : WX} {m : Mc} {fx : List Nat} (o : Ok X P cf (xr P.ecs) k W m) {s' : Stmt} (h : parB1 P is es m fx s' = true) : PS X s' (tS X.K (xr P.ecs) P cf W fx (.par is bs es)) := by
  unfold parB1 at h
  split at h
  · simp only [Bool.and_eq_true, decide_eq_true_eq] at h
    obtain ⟨⟨⟨⟨h1, h2⟩, h3⟩, h4⟩, h5⟩ := h
    obtain ⟨g1, g2, g3, g4⟩ := names_pg o.N o.nd o.sc o.fn h2
    exact rs_parG (swapFold h1) (pg_tup o.calm g1 g2 g3) (fun i hi => nin_ok (List.all_eq_true.mp h3 i hi)) h4 (sEs es o h5).1 rfl
  · cases h
theorem par2_ok {i j : Nat} {bs : List Nat} {es : Es} {X : Cx} {W : WX} {m : Mc} {fx : List Nat} (o : Ok X P cf (xr P.ecs) k W m) {s' : Stmt} (h : parB2 P i j es m fx s' = true) : PS X s' (tS X.K (xr P.ecs) P cf W fx (.par [i, j] bs es)) := by
  unfold parB2 at h
  split at h
  · rename_i x px y py k1 p1 a b k2 p2 pos
    simp only [Bool.and_eq_true, decide_eq_true_eq, Bool.not_eq_true'] at h
    obtain ⟨⟨⟨⟨⟨⟨⟨⟨⟨⟨h1, h2⟩, h3⟩, h4⟩, h5⟩, h6⟩, h7⟩, h8⟩, h9⟩, h10⟩, h11⟩ := h
    obtain ⟨pa, ns⟩ := sEs es o h11
    rw [noStars, noStars, Bool.and_eq_true, Bool.and_eq_true] at ns
    have hxy : x ≠ y := fun e => h3 (nodup_ix o.nd h4 (e ▸ h5))
    have bk : X.env.blockKind = .function := by unfold Env.blockKind; rw [kdX o]; rfl
    refine rs_par2 o.calm (ndX o) (by rw [o.N]; exact h4) (by rw [o.N]; exact h5) h3 (by rw [o.sc]; exact h6) (by rw [o.sc]; exact h7) (nin_ok h1) (nin_ok h2) pa ?_
    exact swap2 bk (by show X.env.scope.names.lookup x = _; rw [o.sc]; exact h6) (by show X.env.scope.names.lookup y = _; rw [o.sc]; exact h7) h8 hxy ns.1 ns.2.1 h9 h10
  · cases h
theorem par3_ok {i j u : Nat} {bs : List Nat} {es : Es} {X : Cx} {W : WX} {m : Mc} {fx : List Nat} (o : Ok X P cf (xr P.ecs) k W m) {s' : Stmt} (h : parB3 P i j u es m fx s' = true) : PS X s' (tS X.K (xr P.ecs) P cf W fx (.par [i, j, u] bs es)) := by
  unfold parB3 at h
  split at h
  · rename_i x px y py z pz k1 p1 a b c k2 p2 pos
    simp only [Bool.and_eq_true, decide_eq_true_eq, Bool.not_eq_true'] at h
    obtain ⟨⟨⟨⟨⟨⟨⟨⟨⟨⟨⟨⟨⟨⟨⟨⟨h1, h2⟩, h3⟩, h4⟩, h5⟩, h6⟩, h7⟩, h8⟩, h9⟩, h10⟩, h11⟩, h12⟩, h13⟩, h14⟩, h15⟩, h16⟩, h17⟩ := h
    obtain ⟨pa, ns⟩ := sEs es o h17
    rw [noStars, noStars, noStars, Bool.and_eq_true, Bool.and_eq_true, Bool.and_eq_true] at ns
    have hxy : x ≠ y := fun e => h4 (nodup_ix o.nd h7 (e ▸ h8))
    have hxz : x ≠ z := fun e => h5 (nodup_ix o.nd h7 (e ▸ h9))
    have hyz : y ≠ z := fun e => h6 (nodup_ix o.nd h8 (e ▸ h9))
    have bk : X.env.blockKind = .function := by unfold Env.blockKind; rw [kdX o]; rfl
    refine rs_par3 o.calm (ndX o) (by rw [o.N]; exact h7) (by rw [o.N]; exact h8) (by rw [o.N]; exact h9) h4 h5 h6 (by rw [o.sc]; exact h10) (by rw [o.sc]; exact h11) (by rw [o.sc]; exact h12) (nin_ok h1) (nin_ok h2) (nin_ok h3) pa ?_
    exact swap3 bk (by show X.env.scope.names.lookup x = _; rw [o.sc]; exact h10) (by show X.env.scope.names.lookup y = _; rw [o.sc]; exact h11) (by show X.env.scope.names.lookup z = _; rw [o.sc]; exact h12) h13 h14 hxy hxz hyz ns.1 ns.2.1 ns.2.2.1 h15 h16
  · cases h
theorem par_ok {is bs : List Nat} {es : Es} {X : Cx} {W : WX} {m : Mc} {fx : List Nat} (o : Ok X P cf (xr P.ecs) k W m) {s' : Stmt} (h : parB P is es m fx s' = true) : PS X s' (tS X.K (xr P.ecs) P cf W fx (.par is bs es)) := by
  unfold parB at h
  rw [Bool.or_eq_true] at h
  rcases h with h | h
  · exact par1_ok o h
  · match is, h with
    | [i, j], h => exact par2_ok o h
    | [i, j, u], h => exact par3_ok o h
    | [], h => cases h
    | [_], h => cases h
    | _ :: _ :: _ :: _ :: _, h => cases h
mutual
theorem sS : ∀ (s : S) {X : Cx} {W : WX} {m : Mc} {fx : List Nat} (o : Ok X P cf (xr P.ecs) k W m) (hp : Tp X) {s' : Stmt}, mS P s m fx s' = true → PS X s' (tS X.K (xr P.ecs) P cf W fx s)
  | .exp e, X, W, m, fx, o, hp, s', h => by
    cases s' <;> try (simp [mS] at h; done)
    simp only [mS, Bool.and_eq_true] at h
    exact rs_exp (sE e o h.2).pe (notComp_ok h.1)
  | .set i b e, X, W, m, fx, o, hp, s', h => by
    simp only [mS] at h
    split at h
    · rename_i x p e' pos
      simp only [Bool.and_eq_true, Bool.or_eq_true] at h
      obtain ⟨⟨⟨hl, hn⟩, hc⟩, he⟩ := h
      obtain ⟨a1, b1, c1⟩ := loc_of o hl
      rcases hc with hc | hc
      · exact rs_set (ndX o) a1 b1 c1 (nin_ok hn) (sE e o he).pe (notComp_ok hc)
      · split at hc
        · rename_i elt g scope q
          cases hsw : swapB X.env.scope x p (.ListComp elt [g] scope q) with
          | false => exact rs_set (ndX o) a1 b1 c1 (nin_ok hn) (sE e o he).pe (by rw [swapB_ok (kdX o), hsw])
          | true =>
            have hloc : X.env.scope.names.lookup x = some .local := by
              simp only [swapB, Bool.and_eq_true, beq_iff_eq] at hsw
              exact hsw.1.1
            cases e <;> first | (simp [mE] at he; done) | (rw [not_pk] at he; cases he; done) | (rw [not_mut] at he; cases he; done) | (rw [not_mkx] at he; cases he; done) | skip
            rename_i kk vs tg it ifs gs
            cases kk <;> try (simp [mE] at he; done)
            simp only [mE] at he
            split at he
            · rename_i elt' tg' it' ifs' scope' pos' heq
              injection heq with e1 e2 e3 e4
              injection e2 with e2 e5
              subst e1 e2 e3 e4
              simp only [Bool.and_eq_true] at he
              obtain ⟨⟨⟨⟨⟨⟨hi, hns⟩, hb⟩, hsl⟩, ht⟩, hc⟩, hl⟩ := he
              have bk : BlkOk X.N X.env.scope scope (owOf m.N vs) := by rw [o.N, o.sc]; exact blkOk_by hb
              have ob := fun s H C cl fp => o.blk (blkOk_by hb) (s := s) (H := H) (C := C) (cl := cl) (fp := fp)
              cases gs with
              | last e =>
                exact rs_setLc o.calm (ndX o) a1 hloc (nin_ok hn) (by rw [swapB_ok (kdX o), hsw]) (sI it o hi) bk (owOf_snd _ _) (slots_of hsl) (fun s H C cl fp => tg_of (ob s H C cl fp) ht) (fun s H C cl fp => sC ifs (ob s H C cl fp) hc) (fun s H C cl fp => (sE e (ob s H C cl fp) (by simpa [mL] using hl)).pe) (notSet_ok hns)
              | last2 _ _ => simp [mL] at hl
              | cons _ _ _ _ => simp [mL] at hl
            · rename_i heq
              injection heq with e1 e2 e3 e4
              injection e2 with e2 e5
              cases e5
            · cases he
        · rename_i elt gs scope q _
          have hsw : swapB X.env.scope x p (.ListComp elt gs scope q) = false := by rw [o.sc]; simpa using hc
          exact rs_set (ndX o) a1 b1 c1 (nin_ok hn) (sE e o he).pe (by rw [swapB_ok (kdX o), hsw])
        · cases hc
    · cases h
  | .par is bs es, X, W, m, fx, o, hp, s', h => par_ok o (by rw [mS] at h; exact h)
  | .unp is e, X, W, m, fx, o, hp, s', h => by
    simp only [mS] at h
    split at h
    · rename_i es' k1 p1 e' pos
      simp only [Bool.and_eq_true, Bool.not_eq_true'] at h
      obtain ⟨⟨⟨⟨h1, h2⟩, h3⟩, h4⟩, h5⟩ := h
      obtain ⟨g1, g2⟩ := tg_pg o.N o.nd o.sc o.fn o.calm h3
      refine rs_unp ?_ ?_ g1 (fun i hi => nin_ok (List.all_eq_true.mp h4 i hi)) (fun i hi => by rw [o.N]; exact g2 i hi) (sE e o h5).pe rfl
      · cases e' <;> first | rfl | (exact absurd h1 (by simp [isTup]))
      · show swapsWith e' (some (.Tuple es' k1 p1)) pos.line X.env = pure false
        exact notComp_ok h2
    · cases h
  | .sto i path fz q e, X, W, m, fx, o, hp, s', h => by
    cases path with
    | cons _ _ => simp [mS] at h
    | nil =>
      simp only [mS] at h
      split at h
      · simp only [Bool.and_eq_true] at h
        obtain ⟨⟨⟨hv, hpl⟩, hk⟩, he⟩ := h
        obtain ⟨a1, b1, c1, d1⟩ := vis_of o hv
        exact rs_sto o.ex a1 b1 c1 d1 hpl (sE q o hk).pe (sE e o he).pe
      · cases h
  | .aug i op e, X, W, m, fx, o, hp, s', h => by
    simp only [mS] at h
    split at h
    · simp only [Bool.and_eq_true, Bool.or_eq_true, decide_eq_true_eq] at h
      obtain ⟨⟨⟨⟨rfl, hop⟩, hl⟩, hn⟩, he⟩ := h
      obtain ⟨a1, b1, c1⟩ := loc_of o hl
      exact rs_aug (ndX o) a1 b1 c1 (nin_ok hn) hop (sE e o he).pe
    · cases h
  | .ife c a b, X, W, m, fx, o, hp, s', h => by
    cases s' <;> try (simp [mS] at h; done)
    simp only [mS, Bool.and_eq_true] at h
    exact rs_if (sE c o h.1.1).pt (sSs a o hp h.1.2) (sSs b o hp h.2)
  | .whl c b, X, W, m, fx, o, hp, s', h => by
    simp only [mS] at h
    split at h
    · simp only [Bool.and_eq_true] at h
      exact rs_while hp.pas (sE c o h.1).pt (sSs b o hp h.2)
    · cases h
  | .for_ tg it b, X, W, m, fx, o, hp, s', h => by
    simp only [mS] at h
    split at h
    · simp only [Bool.and_eq_true] at h
      obtain ⟨⟨⟨⟨hi, hs⟩, ht⟩, hf⟩, hb⟩ := h
      obtain ⟨g1, g2⟩ := tg_pg o.N o.nd o.sc o.fn o.calm ht
      exact rs_for hp.pas o.calm (sI it o hi) g1 (fun i hi => nin_ok (List.all_eq_true.mp hf i hi)) (fun i hi => by rw [o.N]; exact g2 i hi) (sSs b o hp hb) (notSet_ok hs)
    · cases h
  | .ret e, X, W, m, fx, o, hp, s', h => by
    simp only [mS] at h
    split at h
    · exact rs_ret (sE e o h).pe
    · cases h
  | .retv i, X, W, m, fx, o, hp, s', h => by
    simp only [mS] at h
    split at h
    · obtain ⟨a1, b1, c1, d1⟩ := vis_of o h
      exact rs_retv a1 b1 c1 d1
    · cases h
  | .retN, X, W, m, fx, o, hp, s', h => by
    simp only [mS] at h
    split at h
    · exact rs_retN
    · cases h
  | .brk, X, W, m, fx, o, hp, s', h => by
    simp only [mS] at h
    split at h
    · exact rs_brk
    · cases h
  | .cnt, X, W, m, fx, o, hp, s', h => by
    simp only [mS] at h
    split at h
    · exact rs_cnt
    · cases h
  | .pass, X, W, m, fx, o, hp, s', h => by
    simp only [mS] at h
    split at h
    · exact rs_pass
    · cases h
  | .augS _ _ _ _ _, X, W, m, fx, o, hp, s', h => by simp [mS] at h
  | .rai x c es, X, W, m, fx, o, hp, s', h => by
    simp only [mS] at h
    split at h
    · rename_i x' p es' pos pos2
      simp only [Bool.and_eq_true, decide_eq_true_eq] at h
      obtain ⟨⟨⟨⟨rfl, hc⟩, hg⟩, hs⟩, he⟩ := h
      obtain ⟨e0, hc, hn⟩ := ecN_ok hc
      cases es' with
      | nil =>
        cases es with
        | nil => exact rs_rai0 o.calm o.takes (o.r3 hc) hp.ex (o.exc c e0 hc) hc hn (glob_of o hg)
        | cons _ _ => simp [mEs] at he
      | cons a r => exact rs_rai o.calm o.takes (o.r3 hc) hp.ex (o.exc c e0 hc) hc hn (glob_of o hg) (sEs es o he).1 hs
    · cases h
  | .try_ b hh, X, W, m, fx, o, hp, s', h => by
    simp only [mS] at h
    split at h
    · simp only [Bool.and_eq_true] at h
      exact rs_try hp.stk hp.frm hp.ex (ndX o) o.takes (fun W' pn xe tk ps => sSs b (o.tr tk) ⟨ps, hp.stk, hp.frm, hp.ex⟩ h.1) (sHs o hh h.2)
    · cases h
theorem sSs : ∀ (s : Ss) {X : Cx} {W : WX} {m : Mc} {fx : List Nat} (o : Ok X P cf (xr P.ecs) k W m) (hp : Tp X) {ss : List Stmt}, mSs P s m fx ss = true → PSs X ss (tSs X.K (xr P.ecs) P cf W fx s)
  | .nil, X, W, m, fx, o, hp, ss, h => by
    cases ss with
    | nil => exact rs_nil
    | cons _ _ => simp [mSs] at h
  | .cons a r, X, W, m, fx, o, hp, ss, h => by
    cases ss with
    | nil => simp [mSs] at h
    | cons a' r' =>
      simp only [mSs, Bool.and_eq_true] at h
      exact rs_cons (sS a o hp h.1) (sSs r o hp h.2)
end
end
end Ur
end
section
set_option linter.all false
set_option autoImplicit false
set_option maxHeartbeats 1000000
/-! UrJ1: all defs of a program. -/
namespace Ur
open PySem L2
/-- a def as the module's top has laid it, at fa -/
structure FactD (K : PySem.W.Frag) (mg : Str → Option Value) (P : Prog) (d : Df) (fa : Addr) (fd : FuncData) : Prop where
  ex : ∃ (name qual : Str) (params : Arguments) (body : List Stmt) (scope : Scope) (dV kV doc pm cdv ct oc : Value) (an od : Option Addr) (osl : Array (Option Value)), fd = PySem.W.fnOf name qual params body scope dV kV doc pm an cdv ct ∧
    K.lookup fa = some ⟨oc, od, .func (PySem.W.fnOf name qual params body scope dV kV doc pm an cdv ct), osl⟩ ∧ PySem.W.codeIn K cdv qual = true ∧ FnScope d.names (d.names.take d.np) scope ∧ mSs P d.body ⟨d.names, scope, fun _ => true⟩ d.refs body = true
  mg : mg d.name = some (.ref fa)
  kp : PySem.W.keepIn K (.ref fa) = true
  be : ∀ us : List Value, us.length = (d.names.take d.np).length → bindArgs fd ⟨us, []⟩ = pure ((d.names.take d.np).zip us)
  kw : ∀ ks ∈ d.kws, KwB fd (d.names.take d.np) ks
  ns : d.names.length = d.ns
  np : d.np ≤ d.ns
  rf : ∀ j ∈ d.refs, j < d.np
theorem callF_len {P : Prog} {n f : Nat} {d : Df} {os : List O} (hd : P.defs[f]? = some d) (h : (callF P n f os).isSome = true) : os.length = d.np := by
  cases n with
  | zero => cases h
  | succ n =>
    have h : (match P.defs[f]? with
      | some d => if os.length = d.np then ends d (exs P (callF P n) d.body (Ur.start d os)) else none
      | none => none).isSome = true := h
    rw [hd] at h
    have h : (if os.length = d.np then ends d (exs P (callF P n) d.body (Ur.start d os)) else none).isSome = true := h
    by_cases e : os.length = d.np
    · exact e
    · rw [if_neg e] at h; cases h
/-- the program's classes of errors, at every place -/
structure XFacts (Pr : Program) (w : World) (K : PySem.W.Frag) (mg : Str → Option Value) (base : Heap) (ecs : List Ec) (gls : List Glo) : Prop where
  reads : XReads K mg ecs
  exc : ∀ (c : Nat) (e : Ec), ecs[c]? = some e → XcOk Pr w K mg base e
  glo : ∀ g ∈ gls, GloK K mg g
theorem prog_ok {Pr : Program} {w : World} {K : PySem.W.Frag} {mg : Str → Option Value} {base : Heap} {P : Prog} {sh : Nat} (hs : P.ecs = [] ∨ 3 ≤ sh) (hX : XFacts Pr w K mg base P.ecs P.glos) (hall : ∀ (f : Nat) (d : Df), P.defs[f]? = some d → ∃ fa fd, FactD K mg P d fa fd) (blt : ∀ x ∈ bltNames, mg x = none) :
    ∀ (n f : Nat) (d : Df), P.defs[f]? = some d → ∀ (fa : Addr) (fd : FuncData), FactD K mg P d fa fd → FnOk Pr w K mg base (L2.CX Pr w) (n + sh) fa fd (d.names.take d.np) (spF K (xr P.ecs) (callF P n f) d.np)
  | 0, f, d, hd, fa, fd, F => by
    have hps : (d.names.take d.np).length = d.np := by rw [List.length_take]; have := F.ns; have := F.np; omega
    exact ⟨fun vs H Q E ⟨os, l, e, _⟩ => by rw [e, hps], fun A outer s H args us vs Q E hr e0 hb r ⟨os, l, _, _, _, z⟩ => z.elim⟩
  | n + 1, f, d, hd, fa, fd, F => by
    obtain ⟨name, qual, params, body, scope, dV, kV, doc, pm, cdv, ct, oc, an, od, osl, rfl, h1, h2, h6, h7⟩ := F.ex
    rw [show n + 1 + sh = n + sh + 1 by omega]
    refine def_ok (k := n + sh) h1 h2 h6 F.ns F.np F.rf hd fun X E fr => ?_
    have o : Ok X P (callF P n) (xr P.ecs) (n + sh) (fun cls dd _ H => Gh H (E cls dd)) ⟨d.names, scope, fun _ => true⟩ := {
      N := fr.N
      nd := h6.nd
      sc := fr.scope
      kind := h6.kind
      fn := fr.fn
      calm := fr.calm
      room := fr.room
      k3 := hs.imp id fun h => by omega
      reads := by rw [fr.K, fr.mg]; exact hX.reads
      exc := by rw [fr.prog, fr.w, fr.K, fr.mg, fr.base]; exact hX.exc
      takes := fr.takes
      glo := by rw [fr.K, fr.mg]; exact hX.glo
      blt := fun x hx => by rw [fr.mg]; exact blt x hx
      defs := fun g d' hd' => ⟨⟨by
        obtain ⟨fa', fd', F'⟩ := hall g d' hd'
        have q := prog_ok (Pr := Pr) (w := w) (base := base) hs hX hall blt n g d' hd' fa' fd' F'
        rw [fr.prog, fr.w, fr.K, fr.mg, fr.base]
        exact ⟨fa', fd', F'.mg, F'.kp, Binds.all F'.be, F'.kw, q⟩⟩, fun os h => callF_len hd' h⟩ }
    exact sSs d.body o ⟨fr.passes, fr.stk, fr.frm, fr.ex⟩ h7
end Ur
end
section
set_option linter.all false
set_option autoImplicit false
set_option maxRecDepth 100000
set_option maxHeartbeats 1000000
/-! UrJ2: from what the module's top has laid to the law. -/
namespace Ur
open PySem L2
section
variable {Pr : Program} {w : World} {K : PySem.W.Frag} {mg : Str → Option Value} {base : Heap} {h : Heap} {P : Prog}
theorem fact_of {d : Df} {st : Stmt} {f : Addr} {fd : FuncData} (X : K.In h) (G : h.Ns mainGlobals mg) (a : PySem.W.nsIn K mainGlobals d.name = some (some (.ref f))) (F : Fun K d.name d.name st f fd)
    (hb : ∀ (kV doc pm : Value) (an : Option Addr) (cdv ct : Value) (us : List Value), us.length = (d.names.take d.np).length → bindArgs (PySem.W.fnOf d.name d.name (defArgs st) (defBody st) (defScope st) .none kV doc pm an cdv ct) ⟨us, []⟩ = pure ((d.names.take d.np).zip us))
    (hk : ∀ ks ∈ d.kws, ∀ (kV doc pm : Value) (an : Option Addr) (cdv ct : Value) (ws us : List Value), ordL (d.names.take d.np) ks ws = some us → bindArgs (PySem.W.fnOf d.name d.name (defArgs st) (defBody st) (defScope st) .none kV doc pm an cdv ct) ⟨[], ks.zip ws⟩ = pure ((d.names.take d.np).zip us))
    (S : FnScope d.names (d.names.take d.np) (defScope st)) (hm : mSs P d.body ⟨d.names, defScope st, fun _ => true⟩ d.refs (defBody st) = true) (hn : d.names.length = d.ns) (hp : d.np ≤ d.ns) (hr : ∀ j ∈ d.refs, j < d.np) : FactD K mg P d f fd := by
  have kp := F.kp
  obtain ⟨oc, od, kV, doc, pm, an, cdv, ct, osl, rfl, lk, hcd⟩ := F.ex
  exact ⟨⟨d.name, d.name, defArgs st, defBody st, defScope st, .none, kV, doc, pm, cdv, ct, oc, an, od, osl, rfl, lk, hcd, S, hm⟩, PySem.W.mg_of X G a, kp, hb kV doc pm an cdv ct, fun ks hks s ws us ho => .of_eq (hk ks hks kV doc pm an cdv ct ws us ho), hn, hp, hr⟩
/-- as_tuples alone is a program -/
theorem at_of {da : Df} {fa : Addr} {fd : FuncData} (hz : ∀ d, atomB d = true → callF ⟨[da], [], []⟩ 1 0 [.dat d] = some (.ok (.dat d), [none])) (hnp : da.np = 1) (F : FactD K mg ⟨[da], [], []⟩ da fa fd) (blt : ∀ x ∈ bltNames, mg x = none) : AtOk Pr w K mg base da.name := by
  have h4 := prog_ok (Pr := Pr) (w := w) (base := base) (P := ⟨[da], [], []⟩) (sh := 0) (.inl rfl) ⟨⟨by simp, by simp, by simp, by simp, by simp, by simp, by simp, by simp, by simp⟩, by simp, by simp⟩ (fun f d hd => by
    match f, hd with
    | 0, hd => cases hd; exact ⟨fa, fd, F⟩
    | _ + 1, hd => simp at hd) blt 1 0 da rfl fa fd F
  exact ⟨fa, fd, _, F.mg, F.kp, Binds.all F.be, h4.imp fun vs H Q E q => by
    rw [hnp]
    exact spAt_of hz q⟩
theorem xcOk_of {e : Ec} {sI : Stmt} {qual at_ : Str} {fI : Addr} {fd : FuncData} {N : List Str} (X : K.In h) (G : h.Ns mainGlobals mg) (aC : PySem.W.nsIn K mainGlobals e.name = some (some (.ref e.adr))) (F : Fun K "__init__" qual sI fI fd) (T : XcK K e.base e.adr fI) (B : EbK K mg e.base) (hat : AtOk Pr w K mg base at_)
    (tk : ∀ f ∈ e.fields, PySem.W.takerIn K e.adr f = some none) (S : FnScope N N (defScope sI)) (hb : initB e.base at_ N (defScope sI) (defBody sI) e.fields = true)
    (b1 : ∀ (kV doc pm : Value) (an : Option Addr) (cdv ct : Value) (us : List Value), us.length = N.length → bindArgs (PySem.W.fnOf "__init__" qual (defArgs sI) (defBody sI) (defScope sI) .none kV doc pm an cdv ct) ⟨us, []⟩ = pure (N.zip us))
    (b2 : ∀ f ∈ e.fields, ∀ (kV doc pm : Value) (an : Option Addr) (cdv ct a v : Value), bindArgs (PySem.W.fnOf "__init__" qual (defArgs sI) (defBody sI) (defScope sI) .none kV doc pm an cdv ct) ⟨[a], [(f, v)]⟩ = pure (N.zip [a, v])) : XcOk Pr w K mg base e := by
  obtain ⟨oc, od, kV, doc, pm, an, cdv, ct, osl, rfl, lk, hcd⟩ := F.ex
  exact ⟨⟨fI, _, N, T, init_ok lk hcd S T B hat tk hb, .all (b1 kV doc pm an cdv ct), fun f hf s a v => .of_eq (b2 f hf kV doc pm an cdv ct a v)⟩, PySem.W.mg_of X G aC⟩
/-- all that is read of the errors' classes, as one test -/
def readsB (K : PySem.W.Frag) (ecs : List Ec) : Bool := ecs.all fun e =>
  decide (PySem.W.findIn K (.ref e.adr) "__getattribute__" = some (some (.builtin "BaseException.__getattribute__"))) && decide (PySem.W.findIn K (.ref e.adr) "__getattr__" = some none) && decide (PySem.W.subIn K (.ref e.adr) (.type "BaseException") = some true) &&
  PySem.W.hasDictIn K e.adr && decide (PySem.W.findIn K (.ref e.adr) "__class__" = some (some (.builtin "object.__class__"))) && decide (PySem.W.specialIn K (.builtin "object.__class__") "__get__" = some (some (.builtin "getset_descriptor.__get__"))) &&
  decide (PySem.W.takesIn K (.builtin "object.__class__") = some true) && decide (PySem.W.mroIn K e.adr (.type "object") = some true) && decide (baseOf ecs e.adr = some e.base) && (e.fields.all fun f => decide (PySem.W.findIn K (.ref e.adr) f = some none)) &&
  (tyNs.all fun n => decide (PySem.W.kitOne K (.ref e.adr) (.type n) = some (decide (n = ebS e.base)))) && (ecs.all fun e' => decide (PySem.W.kitOne K (.ref e.adr) (.ref e'.adr) = some (decide (e.adr = e'.adr)))) &&
  (["ValueError", "LookupError"].all fun n => decide (PySem.W.exmOne K (.ref e.adr) (.type n) = some (decide (n = ebS e.base)))) && (ecs.all fun e' => decide (PySem.W.exmOne K (.ref e.adr) (.ref e'.adr) = some (decide (e.adr = e'.adr)))) &&
  (decide (PySem.W.findIn K (.ref e.adr) "__eq__" = some (some (.builtin "object.__eq__"))) && decide (PySem.W.subIn K (.ref e.adr) (.type "str") = some false))
theorem reads_of {ecs : List Ec} (hm : ∀ e ∈ ecs, mg e.name = some (.ref e.adr)) (h : readsB K ecs = true) : XReads K mg ecs := by
  unfold readsB at h
  have h := List.all_eq_true.mp h
  have g := fun e he => by
    have q := h e he
    simp only [Bool.and_eq_true, decide_eq_true_eq, List.all_eq_true] at q
    exact q
  exact {
    rd := fun e he => let ⟨⟨⟨⟨⟨⟨⟨⟨⟨⟨⟨⟨⟨⟨a1, a2⟩, a3⟩, a4⟩, a5⟩, a6⟩, a7⟩, a8⟩, _⟩, _⟩, _⟩, _⟩, _⟩, _⟩, _⟩ := g e he; ⟨a1, a2, a3, a4, a5, a6, a7, a8⟩
    base := fun e he => (g e he).1.1.1.1.1.1.2
    mg := hm
    nof := fun e he => (g e he).1.1.1.1.1.2
    kT := fun e he => (g e he).1.1.1.1.2
    kO := fun e he => (g e he).1.1.1.2
    xT := fun e he => (g e he).1.1.2
    xO := fun e he => (g e he).1.2
    eq := fun e he => let ⟨⟨⟨⟨⟨⟨⟨⟨⟨⟨⟨⟨⟨⟨a1, a2⟩, a3⟩, a4⟩, a5⟩, a6⟩, a7⟩, a8⟩, _⟩, _⟩, _⟩, _⟩, _⟩, _⟩, b1, b2⟩ := g e he; ⟨b1, a8, b2⟩ }
/-- a class's own facts, as one test -/
def xckB (K : PySem.W.Frag) (b : Eb) (C fI : Addr) (fl : List Str) : Bool :=
  PySem.W.excInitIn K C (ebM b) (ebN b) && PySem.W.excOver K C (ebM b) && PySem.W.hasDictIn K C && decide (PySem.W.findIn K (.ref C) "__setattr__" = some (some (.builtin "object.__setattr__"))) && decide (PySem.W.findIn K (.ref C) "__init__" = some (some (.ref fI))) &&
  decide (PySem.W.typeIn K (.ref fI) = some (.type "function")) && decide (PySem.W.subIn K (.ref C) (.type "BaseException") = some true) && decide (PySem.W.typeIn K (.ref C) = some (.type "type")) && PySem.W.keepIn K (.ref C) && (fl.all fun f => decide (PySem.W.takerIn K C f = some none))
theorem xck_of {b : Eb} {C fI : Addr} {fl : List Str} (h : xckB K b C fI fl = true) : XcK K b C fI ∧ ∀ f ∈ fl, PySem.W.takerIn K C f = some none := by
  unfold xckB at h
  simp only [Bool.and_eq_true, decide_eq_true_eq, List.all_eq_true] at h
  obtain ⟨⟨⟨⟨⟨⟨⟨⟨⟨a1, a2⟩, a3⟩, a4⟩, a5⟩, a6⟩, a7⟩, a8⟩, a9⟩, a10⟩ := h
  exact ⟨⟨a1, a2, a3, a4, a5, a6, a7, a8, a9⟩, a10⟩
def bltB (K : PySem.W.Frag) : Bool := bltNames.all fun x => decide (PySem.W.nsIn K mainGlobals x = some none)
theorem blt_all (X : K.In h) (G : h.Ns mainGlobals mg) (q : bltB K = true) : ∀ x ∈ bltNames, mg x = none := fun x hx => by
  have := List.all_eq_true.mp q x hx
  exact PySem.W.mg_none_of X G (of_decide_eq_true this)
def ebB (K : PySem.W.Frag) (b : Eb) : Bool := match PySem.W.findCls K (.type (ebS b)) (.type "type") "__init__" with
  | some (.val (.builtin i)) => decide (i = ebI b)
  | _ => false
theorem eb_of {b : Eb} (blt : ∀ x ∈ bltNames, mg x = none) (q : ebB K b = true) : EbK K mg b := ⟨by cases b <;> exact blt _ (by decide), by
  unfold ebB at q
  split at q
  · rename_i i e
    rw [e, of_decide_eq_true q]
  · cases q⟩
end
theorem rd_ints {K : PySem.W.Frag} {H : Hp} : ∀ ns : List Int, RDs K H (ns.map V.int) (ns.map .int)
  | [] => .nil
  | n :: ns => .cons (.int n) (rd_ints ns)
/-- the law's promise, from its plain reading -/
theorem law_of {l : PySem.W.OpenLaw} {q : Program} {loose : List Str} {XP : (Str → Option Value) → Heap → Prop} {YP : World → Heap → Prop} {d : DefRec} {K : Params → PySem.W.Frag} {P : Prog} {n sh ix : Nat} {dl : Df} {x : Str} (hm : l.most = some 63) (hdf : d.params.defaults = []) (hr : Room (n + sh) callerA) (hsh : P.ecs = [] ∨ 3 ≤ sh)
    (hY : ∀ (w : World) (h : Heap), YP w h → (K w.params).In h) (hix : P.defs[ix]? = some dl) (hnp : dl.np = 1) (hnm : dl.names.take dl.np = [x]) (hn : d.name = dl.name)
    (ev : ∀ ns : List Int, ns.length ≤ 63 → ∃ outs, callF P n ix [.dat (.list (ns.map .int))] = some (.ok (.dat (.bool true)), outs))
    (F : ∀ (w : World) (mg : Str → Option Value) (h : Heap), (K w.params).In h → h.Ns mainGlobals mg →
      (∀ x ∈ bltNames, mg x = none) ∧ (∀ base : Heap, XFacts l.prog w (K w.params) mg base P.ecs P.glos) ∧ ∀ (f : Nat) (d : Df), P.defs[f]? = some d → ∃ fa fd, FactD (K w.params) mg P d fa fd) :
    PySem.W.WalkO q loose XP YP l.row.toRowW d [] (fun f vs => PySem.call f vs) := by
  refine Att.attach_call hm hdf fun w s0 s1 mg mb fa o pm cd doc a vs ns G Y ho hd hcd hmg hobj hints hlen hg => ?_
  have KX := hY w _ Y
  obtain ⟨blt, hX, hall⟩ := F w mg _ KX G.T.g
  obtain ⟨fa', fd, FD⟩ := hall ix dl hix
  have efa : fa' = fa := by
    have e1 := FD.mg
    rw [← hn, hmg] at e1
    cases e1
    rfl
  subst efa
  refine law_call (x := x) (fd := fd) (CX := L2.CX l.prog w) (sp := spF (K w.params) (xr P.ecs) (callF P n ix) 1) KX G.T.g G.T.b G.T.builtins G.T.nolimit hg hobj hints (Nat.le_trans hlen (by decide)) hr (fun base _ _ => ?_) (fun s u => ?_) (fun H hO hS => ?_) fun H e s' hc => ?_
  · have := prog_ok (Pr := l.prog) (w := w) (base := base) hsh (hX base) hall blt n ix dl hix fa' fd FD
    rw [hnm, hnp] at this
    exact this
  · have := FD.be [u] (by rw [hnm]; rfl)
    rw [hnm] at this
    exact .of_eq this
  · obtain ⟨outs, e⟩ := ev ns hlen
    have fz : FzL (K w.params) H a (ns.map V.int) := by
      rcases hS with hS | ⟨o, its, n, hk, hc, hd, hs, hz, r⟩
      · rcases hS with hS | hS
        · rcases hO a with z | ⟨o, xs, z⟩
          · rw [hS] at z; cases z
          · rw [hS] at z; cases z
        · exact .inl hS
      · have e1 := KX a o hk
        rw [hobj] at e1
        cases e1
        refine .inr ⟨its.toList, n, ?_, by rw [Array.length_toList]; exact hz, r⟩
        rw [hk, ← hs]
    refine ⟨[.dat (.list (ns.map .int))], [], rfl, rfl, Sa.nil.dat (.lst fz (by rw [List.length_map]; exact Nat.le_trans hlen (by decide)) (rd_ints ns)), ?_⟩
    rw [e]
    intro v H' s
    have r := s.rd
    cases r
    exact .now rfl
  · obtain ⟨_, _, _, _, _, _, _, _, _, _, _, _, z⟩ := hc
    exact z
end Ur
end
section
set_option linter.all false
set_option autoImplicit false
set_option maxRecDepth 100000
/-! UrL1: what the laws' own small defs hand back. -/
namespace Ur
open PySem
theorem callF_eq {P : Prog} {n i : Nat} {d : Df} {os : List O} (h : P.defs[i]? = some d) (hl : os.length = d.np) : callF P (n + 1) i os = ends d (exs P (callF P n) d.body (start d os)) := by
  show (match P.defs[i]? with
    | some d => if os.length = d.np then ends d (exs P (callF P n) d.body (start d os)) else none
    | none => none) = _
  rw [h]
  show (if _ then _ else _) = _
  rw [if_pos hl]
/-- a def as the laws have it: all but its names -/
structure Shp (d : Df) (np ns : Nat) (refs : List Nat) (fz : Bool) (b : Ss) : Prop where
  np : d.np = np
  ns : d.ns = ns
  refs : d.refs = refs
  fz : d.fz = fz
  body : d.body = b
abbrev vr (i : Nat) : E := .var i
abbrev il (i : Int) : E := .lit (.int i)
abbrev pk0 (i : Nat) (k : E) : E := .pk .idx i (.cons k .nil)
abbrev bf1 (f : Bf) (e : E) : E := .bf f (.cons e .nil)
def takeB : Ss :=
    (.cons (.ife (.cmp .gt (.pk .idx 0 (.cons (.lit (.int 0)) .nil)) (.lit (.int 0))) (.cons (.set 2 1 (.bin .mod (.bf .int (.cons (.pk .idx 0 (.cons (.lit (.int 0)) .nil)) .nil)) (.var 1)))
    (.cons (.sto 0 .nil true (.lit (.int 0)) (.bin .fdiv (.pk .idx 0 (.cons (.lit (.int 0)) .nil)) (.var 1)))
    (.cons (.retv 2) .nil))) (.nil))
    (.cons (.sto 0 .nil true (.lit (.int 2)) (.bin .add (.pk .idx 0 (.cons (.lit (.int 2)) .nil)) (.lit (.int 1))))
    (.cons (.set 3 1 (.bin .mod (.bf .int (.cons (.bin .mul (.bin .add (.pk .idx 0 (.cons (.lit (.int 1)) .nil)) (.bin .mul (.lit (.int 48271)) (.pk .idx 0 (.cons (.lit (.int 2)) .nil)))) (.bin .add (.lit (.int 39373)) (.pk .idx 0 (.cons (.lit (.int 2)) .nil)))) .nil)) (.lit (.int 2147483647))))
    (.cons (.set 4 1 (.bin .add (.bin .mod (.bf .int (.cons (.var 3) .nil)) (.lit (.int 40009))) (.lit (.int 7))))
    (.cons (.set 5 1 (.bin .mod (.bf .int (.cons (.bin .mul (.bin .add (.bin .add (.var 3) (.pk .idx 0 (.cons (.lit (.int 2)) .nil))) (.bin .fdiv (.pk .idx 0 (.cons (.lit (.int 1)) .nil)) (.lit (.int 1000003)))) (.var 4)) .nil)) (.lit (.int 2147483629))))
    (.cons (.ret (.bin .mod (.bf .int (.cons (.bin .fdiv (.bin .mod (.bf .int (.cons (.bin .add (.bin .mul (.var 5) (.lit (.int 48271))) (.var 3)) .nil)) (.lit (.int 2147483587))) (.lit (.int 64))) .nil)) (.var 1))) .nil))))))
/-- a box of draws: it has been asked at most m times -/
def Box (o : O) (m : Int) : Prop := ∃ a b c : Int, o = .lst [.dat (.int a), .dat (.int b), .dat (.int c)] ∧ 0 ≤ c ∧ c ≤ m
theorem mulOk_r {i j : Int} (h1 : -18446744073709551616 < j) (h2 : j < 18446744073709551616) : mulOk i j = true := by
  unfold mulOk
  simp only [Bool.or_eq_true, Bool.and_eq_true, decide_eq_true_eq]
  exact .inr ⟨h1, h2⟩
theorem mulOk_l {i j : Int} (h1 : -18446744073709551616 < i) (h2 : i < 18446744073709551616) : mulOk i j = true := by
  unfold mulOk
  simp only [Bool.or_eq_true, Bool.and_eq_true, decide_eq_true_eq]
  exact .inl ⟨h1, h2⟩
section
variable {P : Prog} {cf : Cf}
theorem take_run {a b c r : Int} (hc : 0 ≤ c) (hc2 : c < 1099511627776) (h1 : 1 ≤ r) (h2 : r < 1073741824) :
    ∃ z a' c', 0 ≤ z ∧ z < r ∧ 0 ≤ c' ∧ c' ≤ c + 1 ∧ ∃ s, exs P cf takeB [some (.lst [.dat (.int a), .dat (.int b), .dat (.int c)]), some (.dat (.int r)), none, none, none, none] =
      some (.rt (.dat (.int z)), some (.lst [.dat (.int a'), .dat (.int b), .dat (.int c')]) :: s) := by
  by_cases ha : 0 < a
  · refine ⟨a % r, a / r, c, Int.emod_nonneg _ (by omega), Int.emod_lt_of_pos _ (by omega), hc, by omega, [some (.dat (.int r)), none, none, none, none], ?_⟩
    simp [exs, exS, ev, evs, evo, eva, getF, get, put, tst, truD, cmpD, ltD, noneD, PySem.W.alike, plainD, PyData.depth, PySem.W.dataLt_int, fzs, O.fz, pkO, peekO, childO, datO, ixN, lfd, lf, bd, bf, sq, rt, bfD, binD, O.frz, atPath, putO, dKey, takeB, ha, show (0 : Int) < r by omega, h2]
  · have m1 : mulOk 48271 (c + 1) = true := mulOk_l (by decide) (by decide)
    have m2 : ∀ i, mulOk i (39373 + (c + 1)) = true := fun i => mulOk_r (by omega) (by omega)
    have m3 : ∀ i j : Int, mulOk i (j % 40009 + 7) = true := fun i j => mulOk_r (by omega) (by omega)
    have m4 : ∀ i : Int, mulOk i 48271 = true := fun i => mulOk_r (by decide) (by decide)
    let once := ((b + 48271 * (c + 1)) * (39373 + (c + 1))) % 2147483647
    let tw := ((once + (c + 1) + b / 1000003) * (once % 40009 + 7)) % 2147483629
    refine ⟨(tw * 48271 + once) % 2147483587 / 64 % r, a, c + 1, Int.emod_nonneg _ (by omega), Int.emod_lt_of_pos _ (by omega), by omega, by omega,
      [some (.dat (.int r)), none, some (.dat (.int once)), some (.dat (.int (once % 40009 + 7))), some (.dat (.int tw))], ?_⟩
    simp [exs, exS, ev, evs, evo, eva, getF, get, put, tst, truD, cmpD, ltD, noneD, PySem.W.alike, plainD, PyData.depth, PySem.W.dataLt_int, fzs, O.fz, pkO, peekO, childO, datO, ixN, lfd, lf, bd, bf, sq, rt, bfD, binD, O.frz, atPath, putO, dKey, takeB, ha, show (0 : Int) < r by omega, h2, m1, m2, m3, m4, once, tw]

def boxB (c0 : Int) : Ss :=
    (.cons (.set 2 1 (.ite (.cmp .lt (.var 1) (.bf .len (.cons (.var 0) .nil))) (.idx (.var 0) (.var 1)) (.lit (.int 0))))
    (.cons (.ret (.lst (.cons (.bin .mul (.bf .abs (.cons (.var 2) .nil)) (.bf .int (.cons (.cmp .ge (.bf .abs (.cons (.var 2) .nil)) (.bin .pow (.lit (.int 10)) (.lit (.int 18)))) .nil))) (.cons (.bin .add (.bin .add (.bin .mod (.bf .int (.cons (.var 2) .nil)) (.lit (.int 2305843009213693951))) (.bin .mul (.lit (.int 39373)) (.var 1))) (.lit (.int c0))) (.cons (.lit (.int 0)) .nil))))) .nil))
theorem ixN_of {n : Nat} {i : Int} (h0 : 0 ≤ i) (h1 : i < n) : ixN n i = some i.toNat := by
  unfold ixN
  rw [if_pos h0, if_pos h1]
def iL (ms : List Int) : List D := ms.map .int
theorem iL_len (ms : List Int) : (iL ms).length = ms.length := by simp [iL]
theorem atD_iL {ms : List Int} {k : Int} (h0 : 0 ≤ k) (h1 : k < ms.length) : ∃ z, atD (iL ms) k = some (.int z) := by
  unfold atD
  rw [iL_len, ixN_of h0 h1]
  refine ⟨ms[k.toNat]'(by omega), ?_⟩
  simp [iL, show k.toNat < ms.length by omega]
theorem box_run {c0 k : Int} {ms : List Int} (h0 : 0 ≤ k) (h1 : k < ms.length) : ∃ o, Box o 0 ∧ (exs P cf (boxB c0) [some (.dat (.list (iL ms))), some (.dat (.int k)), none]).map (·.1) = some (.rt o) := by
  obtain ⟨z, hz⟩ := atD_iL h0 h1
  have hl := iL_len ms
  have m1 : ∀ i : Int, mulOk i 1 = true := fun i => mulOk_r (by decide) (by decide)
  have m2 : ∀ i : Int, mulOk i 0 = true := fun i => mulOk_r (by decide) (by decide)
  have m3 : mulOk 39373 k = true := mulOk_l (by decide) (by decide)
  have ab : ∃ w : Int, (if z < 0 then -z else z) = w := ⟨_, rfl⟩
  obtain ⟨w, hw⟩ := ab
  by_cases hg : w < 1000000000000000000
  · refine ⟨_, ⟨w * 0, z % 2305843009213693951 + 39373 * k + c0, 0, rfl, by omega, by omega⟩, ?_⟩
    simp [exs, exS, ev, evs, evo, eva, getF, get, put, tst, truD, cmpD, ltD, noneD, PySem.W.alike, plainD, PyData.depth, PySem.W.dataLt_int, fzs, O.fz, pkO, peekO, childO, datO, ixN, lfd, lf, bd, bf, sq, rt, bfD, binD, O.frz, atPath, putO, dKey, boxB, idxD, lenD, hl, hz, h1, m1, m2, m3, hw, hg]
  · refine ⟨_, ⟨w * 1, z % 2305843009213693951 + 39373 * k + c0, 0, rfl, by omega, by omega⟩, ?_⟩
    simp [exs, exS, ev, evs, evo, eva, getF, get, put, tst, truD, cmpD, ltD, noneD, PySem.W.alike, plainD, PyData.depth, PySem.W.dataLt_int, fzs, O.fz, pkO, peekO, childO, datO, ixN, lfd, lf, bd, bf, sq, rt, bfD, binD, O.frz, atPath, putO, dKey, boxB, idxD, lenD, hl, hz, h1, m1, m2, m3, hw, hg]
/-! ### the script's numbers -/
def cellsB : Ss :=
    (.cons (.set 2 2 (.or (.bf .list (.cons (.slc (.var 0) .none (.some (.var 1))) .nil)) (.lst (.cons (.lit (.int 0)) .nil))))
    (.cons (.for_ (.tup [3, 4]) (.enum (.slc (.var 0) (.some (.var 1)) (.some (.lit (.int 63))))) (.cons (.set 5 1 (.bin .mod (.bf .int (.cons (.var 3) .nil)) (.var 1)))
    (.cons (.sto 2 .nil true (.var 5) (.bin .add (.pk .idx 2 (.cons (.var 5) .nil)) (.bin .mul (.var 4) (.bin .add (.var 3) (.lit (.int 2)))))) .nil)))
    (.cons (.retv 2) .nil)))
def oL (ms : List Int) : List O := ms.map fun z => .dat (.int z)
theorem oL_len (ms : List Int) : (oL ms).length = ms.length := by simp [oL]
theorem fzs_oL (ms : List Int) : fzs (oL ms) = iL ms := by
  induction ms with
  | nil => rfl
  | cons m ms ih => exact congrArg (PyData.int m :: ·) ih
theorem cells_turn {s0 : Option O} {m k z : Int} {ms : List Int} {x5 : Option O} (hm : 1 ≤ m) (hl : (ms.length : Int) = m) (h0 : 0 ≤ k) (h1 : k < 1000000) : ∃ ms' : List Int, ms'.length = ms.length ∧
    exs P cf (.cons (.set 5 1 (.bin .mod (.bf .int (.cons (.var 3) .nil)) (.var 1))) (.cons (.sto 2 .nil true (.var 5) (.bin .add (.pk .idx 2 (.cons (.var 5) .nil)) (.bin .mul (.var 4) (.bin .add (.var 3) (.lit (.int 2)))))) .nil))
      [s0, some (.dat (.int m)), some (.lst (oL ms)), some (.dat (.int k)), some (.dat (.int z)), x5] = some (.nx, [s0, some (.dat (.int m)), some (.lst (oL ms')), some (.dat (.int k)), some (.dat (.int z)), some (.dat (.int (k % m)))]) := by
  have a1 : 0 ≤ k % m := Int.emod_nonneg _ (by omega)
  have a2 : k % m < m := Int.emod_lt_of_pos _ (by omega)
  have hj : (k % m).toNat < ms.length := by omega
  have e1 : (oL ms)[(k % m).toNat]? = some (.dat (.int (ms[(k % m).toNat]'hj))) := by simp [oL, hj]
  have e2 : mulOk z (k + 2) = true := mulOk_r (by omega) (by omega)
  have e3 : ∀ w : Int, (oL ms).set (k % m).toNat (.dat (.int w)) = oL (ms.set (k % m).toNat w) := fun w => by simp [oL, List.map_set]
  have e4 := oL_len ms
  have e5 : ∀ h, (oL ms)[(k % m).toNat]'h = .dat (.int (ms[(k % m).toNat]'hj)) := fun h => by simp [oL]
  refine ⟨ms.set (k % m).toNat (ms[(k % m).toNat]'hj + z * (k + 2)), by simp, ?_⟩
  simp [exs, exS, ev, evs, evo, eva, getF, get, put, tst, truD, cmpD, ltD, noneD, PySem.W.alike, plainD, PyData.depth, PySem.W.dataLt_int, fzs, O.fz, pkO, peekO, childO, datO, ixN, lfd, lf, bd, bf, sq, rt, bfD, binD, O.frz, atPath, putO, dKey, a1, e4, hl, a2, e1, e2, e3, e5, hj, show (0 : Int) < m by omega]
theorem eachG_cons {body : D → Stt → List O → Option (List O × Stt)} {d : D} {r : List D} {s s' : Stt} {acc acc' : List O} (h : body d s acc = some (acc', s')) : eachG body (d :: r) s acc = eachG body r s' acc' := by
  show (match body d s acc with
    | some (acc', s') => eachG body r s' acc'
    | none => none) = _
  rw [h]
/-- a turn of a comprehension -/
def compT (P : Prog) (cf : Cf) (vs : List Nat) (tg : Tg) (ifs : Es) (gs : Gs) : D → Stt → List O → Option (List O × Stt) := fun d s acc => match asg tg d (wipe vs s) with
        | none => none
        | some s1 => match evc P cf ifs s1 with
          | some (.ok true, s2) => evg P cf gs s2 acc
          | some (.ok false, s2) => some (acc, s2)
          | _ => none
theorem ev_comp {k : Ck} {vs : List Nat} {tg : Tg} {it : It} {ifs : Es} {gs : Gs} {s s1 s2 : Stt} {ds : List D} {os : List O} (h1 : evi P cf it s = some (.ok ds, s1)) (h2 : (vs.all fun v => isDat ((s1[v]?).join)) = true) (h3 : eachG (compT P cf vs tg ifs gs) ds s1 [] = some (os, s2)) :
    ev P cf (.comp k vs tg it ifs gs) s = lf (collect k os) (restore vs s1 s2) := by
  show (bd (evi P cf it s) fun ds s => if vs.all fun v => isDat ((s[v]?).join) then
      match eachG (compT P cf vs tg ifs gs) ds s [] with
      | some (os, s') => lf (collect k os) (restore vs s s')
      | none => none
    else none) = _
  rw [h1, bd_ok, if_pos h2, h3]
theorem forF_cons {tg : Tg} {b : Stt → Mf} {d : D} {r : List D} {s s1 : Stt} (h : asg tg d s = some s1) : forF tg b (d :: r) s = turn (b s1) (forF tg b r) := by
  show (match asg tg d s with
    | some s => turn (b s) (forF tg b r)
    | none => none) = _
  rw [h]
theorem cells_loop {s0 : Option O} {m : Int} (hm : 1 ≤ m) : ∀ (zs : List Int) (k : Int) (ms : List Int) (x3 x4 x5 : Option O), (ms.length : Int) = m → 0 ≤ k → k + zs.length < 1000000 → ∃ (ms' : List Int) (y3 y4 y5 : Option O), ms'.length = ms.length ∧
    forF (.tup [3, 4]) (fun s => exs P cf (.cons (.set 5 1 (.bin .mod (.bf .int (.cons (.var 3) .nil)) (.var 1))) (.cons (.sto 2 .nil true (.var 5) (.bin .add (.pk .idx 2 (.cons (.var 5) .nil)) (.bin .mul (.var 4) (.bin .add (.var 3) (.lit (.int 2)))))) .nil)) s) (enumFrom k (iL zs))
      [s0, some (.dat (.int m)), some (.lst (oL ms)), x3, x4, x5] = some (.nx, [s0, some (.dat (.int m)), some (.lst (oL ms')), y3, y4, y5])
  | [], k, ms, x3, x4, x5, hl, h0, hk => ⟨ms, x3, x4, x5, rfl, rfl⟩
  | z :: zs, k, ms, x3, x4, x5, hl, h0, hk => by
    rw [List.length_cons] at hk
    obtain ⟨ms1, l1, e1⟩ := cells_turn (P := P) (cf := cf) (s0 := s0) (z := z) (x5 := x5) hm hl h0 (by omega)
    obtain ⟨ms2, y3, y4, y5, l2, e2⟩ := cells_loop (s0 := s0) hm zs (k + 1) ms1 (some (.dat (.int k))) (some (.dat (.int z))) (some (.dat (.int (k % m)))) (by omega) (by omega) (by omega)
    refine ⟨ms2, y3, y4, y5, l2.trans l1, ?_⟩
    show forF _ _ (.tuple [.int k, .int z] :: enumFrom (k + 1) (iL zs)) _ = _
    rw [forF_cons (s1 := [s0, some (.dat (.int m)), some (.lst (oL ms)), some (.dat (.int k)), some (.dat (.int z)), x5]) rfl, e1]
    exact e2
theorem cutL_map {α β : Type} (f : α → β) (xs : List α) (l u : Option Int) : cutL (xs.map f) l u = (cutL xs l u).map f := by
  unfold cutL
  rw [List.length_map, List.map_take, List.map_drop]
theorem cutL_iL (ns : List Int) (l u : Option Int) : cutL (iL ns) l u = iL (cutL ns l u) := cutL_map _ _ _ _
theorem oL_dat (ms : List Int) : (iL ms).map O.dat = oL ms := by simp [iL, oL]
theorem fzO_oL (ms : List Int) : fzO (oL ms) = oL ms := by
  unfold fzO
  rw [fzs_oL, oL_dat]
theorem cells_run {m : Int} {ns : List Int} (hm : 1 ≤ m) (hm2 : m ≤ 63) (hn : ns.length ≤ 63) : ∃ ms : List Int, 1 ≤ ms.length ∧ (ms.length : Int) ≤ m ∧ (exs P cf cellsB [some (.dat (.list (iL ns))), some (.dat (.int m)), none, none, none, none]).map (·.1) = some (.rt (.lst (oL ms))) := by
  obtain ⟨zs, ez⟩ : ∃ zs, cutL ns (some m) (some 63) = zs := ⟨_, rfl⟩
  obtain ⟨fs, ef⟩ : ∃ fs, cutL ns none (some m) = fs := ⟨_, rfl⟩
  have hzs : zs.length ≤ 63 := by rw [← ez]; unfold cutL; simp; omega
  -- what stands in slot 2 ahead of the loop
  have first : ∃ ms : List Int, 1 ≤ ms.length ∧ (ms.length : Int) ≤ m ∧ ((ms.length : Int) = m ∨ zs = []) ∧
      exS P cf (.set 2 2 (.or (.bf .list (.cons (.slc (.var 0) .none (.some (.var 1))) .nil)) (.lst (.cons (.lit (.int 0)) .nil)))) [some (.dat (.list (iL ns))), some (.dat (.int m)), none, none, none, none] =
        some (.nx, [some (.dat (.list (iL ns))), some (.dat (.int m)), some (.lst (oL ms)), none, none, none]) := by
    cases ns with
    | nil =>
      refine ⟨[0], by decide, by simpa using hm, .inr (by rw [← ez]; simp [cutL]), ?_⟩
      simp [exs, exS, ev, evs, evo, eva, getF, get, put, tst, truD, cmpD, ltD, noneD, PySem.W.alike, plainD, PyData.depth, PySem.W.dataLt_int, fzs, O.fz, pkO, peekO, childO, datO, ixN, lfd, lf, bd, bf, sq, rt, bfD, binD, O.frz, atPath, putO, dKey, slcD, optI, cutL, iL, fzO, oL]
    | cons n ns =>
      have hlen : fs.length = min m.toNat (ns.length + 1) := by
        rw [← ef]; unfold cutL; simp [clip, show (0 : Int) ≤ m by omega]
      refine ⟨fs, by rw [hlen]; omega, by rw [hlen]; omega, ?_, ?_⟩
      · by_cases hc : (ns.length : Int) + 1 ≤ m
        · refine .inr ?_
          rw [← ez]
          unfold cutL
          have : min m.toNat (ns.length + 1) = ns.length + 1 := by omega
          simp [clip, show (0 : Int) ≤ m by omega, this]
        · refine .inl ?_
          rw [hlen]; omega
      · have hne : (iL fs).isEmpty = false := by
          cases hf : fs with
          | nil => rw [hf] at hlen; simp at hlen; omega
          | cons _ _ => rfl
        have e1 := cutL_iL (n :: ns) none (some m)
        rw [ef] at e1
        simp [exs, exS, ev, evs, evo, eva, getF, get, put, tst, truD, cmpD, ltD, noneD, PySem.W.alike, plainD, PyData.depth, PySem.W.dataLt_int, fzs, O.fz, pkO, peekO, childO, datO, ixN, lfd, lf, bd, bf, sq, rt, bfD, binD, O.frz, atPath, putO, dKey, slcD, optI, e1, oL_dat, fzs_oL, hne, fzO_oL]
  obtain ⟨ms, h1, h2, h3, e1⟩ := first
  have e2 := cutL_iL ns (some m) (some 63)
  rw [ez] at e2
  have loop : ∃ (ms' : List Int) (y3 y4 y5 : Option O), ms'.length = ms.length ∧
      forF (.tup [3, 4]) (fun s => exs P cf (.cons (.set 5 1 (.bin .mod (.bf .int (.cons (.var 3) .nil)) (.var 1))) (.cons (.sto 2 .nil true (.var 5) (.bin .add (.pk .idx 2 (.cons (.var 5) .nil)) (.bin .mul (.var 4) (.bin .add (.var 3) (.lit (.int 2)))))) .nil)) s) (enumFrom 0 (iL zs))
        [some (.dat (.list (iL ns))), some (.dat (.int m)), some (.lst (oL ms)), none, none, none] = some (.nx, [some (.dat (.list (iL ns))), some (.dat (.int m)), some (.lst (oL ms')), y3, y4, y5]) := by
    rcases h3 with h3 | h3
    · exact cells_loop hm zs 0 ms none none none h3 (by omega) (by omega)
    · subst h3; exact ⟨ms, none, none, none, rfl, rfl⟩
  obtain ⟨ms', y3, y4, y5, hl, e3⟩ := loop
  refine ⟨ms', by omega, by omega, ?_⟩
  have ei : evi P cf (.enum (.slc (.var 0) (.some (.var 1)) (.some (.lit (.int 63))))) [some (.dat (.list (iL ns))), some (.dat (.int m)), some (.lst (oL ms)), none, none, none] = some (.ok (enumFrom 0 (iL zs)), [some (.dat (.list (iL ns))), some (.dat (.int m)), some (.lst (oL ms)), none, none, none]) := by
    simp [exs, exS, ev, evs, evo, eva, getF, get, put, tst, truD, cmpD, ltD, noneD, PySem.W.alike, plainD, PyData.depth, PySem.W.dataLt_int, fzs, O.fz, pkO, peekO, childO, datO, ixN, lfd, lf, bd, bf, sq, rt, bfD, binD, O.frz, atPath, putO, dKey, evi, slcD, optI, e2, itS, oL_dat, fzs_oL]
  show (sq (exS P cf _ _) fun s => sq (bf (evi P cf _ s) fun ds s => forF _ _ ds s) fun s => exs P cf _ s).map (·.1) = _
  rw [e1, sq_nx, ei, bf_ok, e3, sq_nx]
  simp [exs, exS, ev, evs, evo, eva, getF, get, put, tst, truD, cmpD, ltD, noneD, PySem.W.alike, plainD, PyData.depth, PySem.W.dataLt_int, fzs, O.fz, pkO, peekO, childO, datO, ixN, lfd, lf, bd, bf, sq, rt, bfD, binD, O.frz, atPath, putO, dKey]
end
end Ur
end
section
set_option linter.all false
set_option autoImplicit false
set_option maxRecDepth 100000
/-! UrL2: more of the laws' own small defs. -/
namespace Ur
open PySem
section
variable {P : Prog} {n : Nat}
theorem ends_map {d : Df} {m : Mf} {o : O} (h : m.map (·.1) = some (.rt o)) (hr : d.refs = []) : ends d m = some (.ok (if d.fz then .dat o.fz else o), List.replicate d.np none) := by
  match m, h with
  | some (.rt o', s), h =>
    have e : o' = o := by simpa using h
    subst e
    show some (Rs.ok _, outs d.np d.refs s) = _
    rw [hr]
    have : outs d.np [] s = List.replicate d.np none := by
      unfold outs
      simp [List.map_const']
    rw [this]
  | some (.nx, _), h => simp at h
  | some (.bk, _), h => simp at h
  | some (.ct, _), h => simp at h
  | some (.ex _, _), h => simp at h
/-- a draw -/
theorem take_ok {i : Nat} {d : Df} {o : O} {m r : Int} (hd : P.defs[i]? = some d) (hs : Shp d 2 6 [0] true takeB) (hb : Box o m) (hm : m < 1099511627776) (h1 : 1 ≤ r) (h2 : r < 1073741824) :
    ∃ z o', 0 ≤ z ∧ z < r ∧ Box o' (m + 1) ∧ callF P (n + 1) i [o, .dat (.int r)] = some (.ok (.dat (.int z)), [some o', none]) := by
  obtain ⟨a, b, c, rfl, c0, c1⟩ := hb
  obtain ⟨z, a', c', z0, z1, d0, d1, s, e⟩ := take_run (P := P) (cf := callF P n) (a := a) (b := b) (r := r) c0 (by omega) h1 h2
  refine ⟨z, _, z0, z1, ⟨a', b, c', rfl, d0, by omega⟩, ?_⟩
  rw [callF_eq hd (by rw [hs.np]; rfl)]
  have es : start d [O.lst [.dat (.int a), .dat (.int b), .dat (.int c)], .dat (.int r)] = [some (.lst [.dat (.int a), .dat (.int b), .dat (.int c)]), some (.dat (.int r)), none, none, none, none] := by
    unfold start
    rw [hs.ns, hs.np]
    rfl
  rw [es, hs.body, e]
  show some (Rs.ok (if d.fz then _ else _), outs d.np d.refs _) = _
  rw [hs.fz, hs.np, hs.refs]
  rfl
theorem box_ok {i : Nat} {d : Df} {c0 k : Int} {ms : List Int} (hd : P.defs[i]? = some d) (hs : Shp d 2 3 [] false (boxB c0)) (h0 : 0 ≤ k) (h1 : k < ms.length) : ∃ o, Box o 0 ∧ callF P (n + 1) i [.dat (.list (iL ms)), .dat (.int k)] = some (.ok o, [none, none]) := by
  obtain ⟨o, hb, e⟩ := box_run (P := P) (cf := callF P n) (c0 := c0) h0 h1
  refine ⟨o, hb, ?_⟩
  rw [callF_eq hd (by rw [hs.np]; rfl)]
  have es : start d [O.dat (.list (iL ms)), .dat (.int k)] = [some (.dat (.list (iL ms))), some (.dat (.int k)), none] := by
    unfold start
    rw [hs.ns, hs.np]
    rfl
  rw [es, hs.body, ends_map e hs.refs, hs.fz, hs.np]
  rfl
theorem cells_ok {i : Nat} {d : Df} {m : Int} {ns : List Int} (hd : P.defs[i]? = some d) (hs : Shp d 2 6 [] true cellsB) (hm : 1 ≤ m) (hm2 : m ≤ 63) (hn : ns.length ≤ 63) :
    ∃ ms : List Int, 1 ≤ ms.length ∧ (ms.length : Int) ≤ m ∧ callF P (n + 1) i [.dat (.list (iL ns)), .dat (.int m)] = some (.ok (.dat (.list (iL ms))), [none, none]) := by
  obtain ⟨ms, h1, h2, e⟩ := cells_run (P := P) (cf := callF P n) hm hm2 hn
  refine ⟨ms, h1, h2, ?_⟩
  rw [callF_eq hd (by rw [hs.np]; rfl)]
  have es : start d [O.dat (.list (iL ns)), .dat (.int m)] = [some (.dat (.list (iL ns))), some (.dat (.int m)), none, none, none, none] := by
    unfold start
    rw [hs.ns, hs.np]
    rfl
  rw [es, hs.body, ends_map e hs.refs, hs.fz, hs.np]
  show some (Rs.ok (O.dat (O.lst (oL ms)).fz), _) = _
  rw [O.fz, fzs_oL]
  rfl
/-! ### one of a pool -/
def ofB (x : Str) (t : Nat) : Ss := .cons (.ret (.idx (.var 1) (.call x t (.ref 0 (.val (.bf .len (.cons (.var 1) .nil)) .nil))))) .nil
theorem ofB_run {cf : Cf} {x : Str} {t L : Nat} {o o' : O} {pool d : D} {z : Int} (hl : lenD pool = some L) (hc : cf t [o, .dat (.int L)] = some (.ok (.dat (.int z)), [some o', none])) (hi : idxD pool (.int z) = some d) :
    exs P cf (ofB x t) [some o, some (.dat pool)] = some (.rt (.dat d), [some o', some (.dat pool)]) := by
  simp [exs, exS, ev, evs, evo, eva, getF, get, put, tst, truD, cmpD, ltD, noneD, PySem.W.alike, plainD, PyData.depth, PySem.W.dataLt_int, fzs, O.fz, pkO, peekO, childO, datO, ixN, lfd, lf, bd, bf, sq, rt, bfD, binD, O.frz, atPath, putO, dKey, ofB, hl, lend, callD, hc, lentOf, back, hi]
theorem of_ok {i t : Nat} {df dt : Df} {x : Str} {o : O} {m : Int} {pool : D} {L : Nat} (hd : P.defs[i]? = some df) (hs : Shp df 2 2 [0] true (ofB x t)) (hdt : P.defs[t]? = some dt) (hst : Shp dt 2 6 [0] true takeB) (hb : Box o m) (hm : m < 1099511627776)
    (hl : lenD pool = some L) (h1 : 1 ≤ L) (h2 : L < 1073741824) : ∃ z o', 0 ≤ z ∧ z < (L : Int) ∧ Box o' (m + 1) ∧ ∀ d, idxD pool (.int z) = some d → callF P (n + 2) i [o, .dat pool] = some (.ok (.dat d), [some o', none]) := by
  obtain ⟨z, o', z0, z1, hb', e⟩ := take_ok (P := P) (n := n) (i := t) (r := (L : Int)) hdt hst hb hm (by omega) (by omega)
  refine ⟨z, o', z0, z1, hb', fun d hi => ?_⟩
  have e2 := ofB_run (P := P) (x := x) hl e hi
  rw [callF_eq hd (by rw [hs.np]; rfl)]
  have es : start df [o, .dat pool] = [some o, some (.dat pool)] := by
    unfold start
    rw [hs.ns, hs.np]
    rfl
  rw [es, hs.body, e2]
  show some (Rs.ok (if df.fz then _ else _), outs df.np df.refs _) = _
  rw [hs.fz, hs.np, hs.refs]
  rfl
/-! ### the same -/
/-- plain data of some depth at most -/
def sOk : Nat → D → Bool
  | 0, _ => false
  | _ + 1, .none => true
  | _ + 1, .bool _ => true
  | _ + 1, .int _ => true
  | _ + 1, .str _ => true
  | k + 1, .list ds => decide (ds.length < top) && ds.all (sOk k)
  | k + 1, .tuple ds => decide (ds.length < top) && ds.all (sOk k)
  | _ + 1, .dict _ => false
def sameB (x : Str) (i : Nat) : Ss :=
    (.cons (.ife (.isi (.var 1) [.list, .tuple]) (.cons (.ife (.or (.cmp .ne (.isi (.var 0) [.list]) (.isi (.var 1) [.list])) (.cmp .ne (.isi (.var 0) [.tuple]) (.isi (.var 1) [.tuple]))) (.cons (.ret (.lit (.bool false))) .nil) (.nil))
    (.cons (.ret (.and (.cmp .eq (.bf .len (.cons (.var 0) .nil)) (.bf .len (.cons (.var 1) .nil))) (.bf .all (.cons (.comp .lst [2, 3] (.tup [2, 3]) (.zip (.var 0) (.var 1)) .nil (.last (.call x i (.val (.var 2) (.val (.var 3) .nil))))) .nil)))) .nil)) (.nil))
    (.cons (.ife (.or (.cmp .is_ (.var 1) (.lit .none)) (.isi (.var 1) [.bool, .str])) (.cons (.ret (.and (.cmp .eq (.var 0) (.var 1)) (.and (.cmp .eq (.isi (.var 0) [.bool]) (.isi (.var 1) [.bool])) (.cmp .eq (.cmp .is_ (.var 0) (.lit .none)) (.cmp .is_ (.var 1) (.lit .none)))))) .nil) (.nil))
    (.cons (.ret (.and (.isi (.var 0) [.int]) (.and (.nt (.isi (.var 0) [.bool])) (.cmp .eq (.var 0) (.var 1))))) .nil)))
theorem eqv_refl_str (x : Str) : PyData.eqv (.str x) (.str x) = true := by simp [PyData.eqv]
/-- the walk over pairs that are the same -/
theorem same_walk {cf : Cf} {x : Str} {i : Nat} {s0 s1 : Option O} : ∀ (ds : List D) (acc : List O) (x2 x3 : Option O), acc.length + ds.length < top → (∀ d ∈ ds, cf i [.dat d, .dat d] = some (.ok (.dat (.bool true)), [none, none])) → ∃ y2 y3,
    eachG (compT P cf [2, 3] (.tup [2, 3]) .nil (.last (.call x i (.val (.var 2) (.val (.var 3) .nil))))) (zipD ds ds) [s0, s1, x2, x3] acc = some (acc ++ ds.map fun _ => .dat (.bool true), [s0, s1, y2, y3])
  | [], acc, x2, x3, _, _ => ⟨x2, x3, by simp [zipD, eachG]⟩
  | d :: ds, acc, x2, x3, hz, h => by
    rw [List.length_cons] at hz
    have hd := h d List.mem_cons_self
    obtain ⟨y2, y3, e⟩ := same_walk (x := x) (s0 := s0) (s1 := s1) ds (acc ++ [.dat (.bool true)]) (some (.dat d)) (some (.dat d)) (by simp; omega) fun d' h' => h d' (List.mem_cons_of_mem _ h')
    refine ⟨y2, y3, ?_⟩
    show eachG _ (.tuple [d, d] :: zipD ds ds) _ _ = _
    rw [eachG_cons (acc' := acc ++ [.dat (.bool true)]) (s' := [s0, s1, some (.dat d), some (.dat d)]), e]
    · simp
    · simp [exs, exS, ev, evs, evo, eva, getF, get, put, tst, truD, cmpD, ltD, noneD, PySem.W.alike, plainD, PyData.depth, PySem.W.dataLt_int, fzs, O.fz, pkO, peekO, childO, datO, ixN, lfd, lf, bd, bf, sq, rt, bfD, binD, O.frz, atPath, putO, dKey, compT, asg, wipe, evc, putsD, evg, lend, callD, hd, lentOf, back, show acc.length < top by omega]
theorem tests_true : ∀ ds : List D, tests (fzs (ds.map fun _ => O.dat (.bool true))) = some (ds.map fun _ => true)
  | [] => rfl
  | d :: ds => by
    show (tests (fzs (ds.map fun _ => O.dat (.bool true)))).map (true :: ·) = _
    rw [tests_true ds]
    rfl
theorem same_seq {cf : Cf} {x : Str} {i : Nat} {ds : List D} {d : D} (hd : d = .list ds ∨ d = .tuple ds) (hz : ds.length < top) (h : ∀ d ∈ ds, cf i [.dat d, .dat d] = some (.ok (.dat (.bool true)), [none, none])) :
    (exs P cf (sameB x i) [some (.dat d), some (.dat d), none, none]).map (·.1) = some (.rt (.dat (.bool true))) := by
  obtain ⟨y2, y3, e⟩ := same_walk (P := P) (x := x) (s0 := some (.dat d)) (s1 := some (.dat d)) ds [] none none (by simpa using hz) h
  have et := tests_true ds
  have hi : itS d = some ds := by rcases hd with rfl | rfl <;> rfl
  have e1 : evi P cf (.zip (.var 0) (.var 1)) [some (.dat d), some (.dat d), none, none] = some (.ok (zipD ds ds), [some (.dat d), some (.dat d), none, none]) := by simp [exs, exS, ev, evs, evo, eva, getF, get, put, tst, truD, cmpD, ltD, noneD, PySem.W.alike, plainD, PyData.depth, PySem.W.dataLt_int, fzs, O.fz, pkO, peekO, childO, datO, ixN, lfd, lf, bd, bf, sq, rt, bfD, binD, O.frz, atPath, putO, dKey, evi, hi]
  have e2 := ev_comp (k := .lst) (vs := [2, 3]) e1 (by simp [isDat]) e
  obtain ⟨ce, hce⟩ : ∃ ce, ce = E.comp .lst [2, 3] (.tup [2, 3]) (.zip (.var 0) (.var 1)) .nil (.last (.call x i (.val (.var 2) (.val (.var 3) .nil)))) := ⟨_, rfl⟩
  rw [← hce] at e2
  unfold sameB
  rw [← hce]
  rcases hd with rfl | rfl
  · simp [exs, exS, e2, ev, evs, tst, isiD, excOf, noOwn, tyD, getF, get, put, truD, cmpD, eqD, cmpOk, plainD, PyData.depth, fzs, O.fz, bd, bf, sq, rt, lfd, lf, bfD, lenD, PyData.eqv, et, collect, restore]
  · simp [exs, exS, e2, ev, evs, tst, isiD, excOf, noOwn, tyD, getF, get, put, truD, cmpD, eqD, cmpOk, plainD, PyData.depth, fzs, O.fz, bd, bf, sq, rt, lfd, lf, bfD, lenD, PyData.eqv, et, collect, restore]
theorem same_atom {cf : Cf} {x : Str} {i : Nat} {d : D} (hd : d = .none ∨ (∃ b, d = .bool b) ∨ (∃ z, d = .int z) ∨ ∃ y, d = .str y) :
    (exs P cf (sameB x i) [some (.dat d), some (.dat d), none, none]).map (·.1) = some (.rt (.dat (.bool true))) := by
  obtain ⟨ce, hce⟩ : ∃ ce, ce = E.comp .lst [2, 3] (.tup [2, 3]) (.zip (.var 0) (.var 1)) .nil (.last (.call x i (.val (.var 2) (.val (.var 3) .nil)))) := ⟨_, rfl⟩
  unfold sameB
  rw [← hce]
  rcases hd with rfl | ⟨b, rfl⟩ | ⟨z, rfl⟩ | ⟨y, rfl⟩ <;>
    simp [exs, exS, ev, evs, tst, isiD, excOf, noOwn, tyD, getF, get, put, truD, cmpD, eqD, cmpOk, plainD, PyData.depth, fzs, O.fz, bd, bf, sq, rt, lfd, lf, bfD, lenD, PyData.eqv, noneD]
theorem same_ok {i : Nat} {d0 : Df} {x : Str} (hd : P.defs[i]? = some d0) (hs : Shp d0 2 4 [] true (sameB x i)) : ∀ (k n : Nat) (d : D), sOk k d = true → k ≤ n → callF P n i [.dat d, .dat d] = some (.ok (.dat (.bool true)), [none, none]) := by
  have fin : ∀ {n : Nat} {d : D}, (exs P (callF P n) (sameB x i) [some (.dat d), some (.dat d), none, none]).map (·.1) = some (.rt (.dat (.bool true))) → callF P (n + 1) i [.dat d, .dat d] = some (.ok (.dat (.bool true)), [none, none]) := by
    intro n d e
    rw [callF_eq hd (by rw [hs.np]; rfl)]
    have es : start d0 [O.dat d, .dat d] = [some (.dat d), some (.dat d), none, none] := by
      unfold start
      rw [hs.ns, hs.np]
      rfl
    rw [es, hs.body, ends_map e hs.refs, hs.fz, hs.np]
    rfl
  intro k
  induction k with
  | zero => intro n d h; cases d <;> simp [sOk] at h
  | succ k ih =>
    intro n d h hn
    obtain ⟨m, rfl⟩ : ∃ m, n = m + 1 := ⟨n - 1, by omega⟩
    refine fin ?_
    cases d with
    | none => exact same_atom (.inl rfl)
    | bool b => exact same_atom (.inr (.inl ⟨b, rfl⟩))
    | int z => exact same_atom (.inr (.inr (.inl ⟨z, rfl⟩)))
    | str y => exact same_atom (.inr (.inr (.inr ⟨y, rfl⟩)))
    | dict _ => simp [sOk] at h
    | list ds =>
      simp only [sOk, Bool.and_eq_true, decide_eq_true_eq, List.all_eq_true] at h
      exact same_seq (.inl rfl) h.1 fun d hd => ih m d (h.2 d hd) (by omega)
    | tuple ds =>
      simp only [sOk, Bool.and_eq_true, decide_eq_true_eq, List.all_eq_true] at h
      exact same_seq (.inr rfl) h.1 fun d hd => ih m d (h.2 d hd) (by omega)
end
end Ur
end
section
set_option linter.all false
set_option autoImplicit false
set_option maxRecDepth 100000
/-! UrL3: mixing, bonds, patterns. -/
namespace Ur
open PySem
theorem fzs_dat : ∀ ds : List D, fzs (ds.map .dat) = ds
  | [] => rfl
  | d :: ds => congrArg (d :: ·) (fzs_dat ds)
theorem fzO_dat (ds : List D) : fzO (ds.map .dat) = ds.map .dat := by
  unfold fzO
  rw [fzs_dat]
def mixT (x : Str) (t : Nat) : Ss := .cons (.set 5 1 (.call x t (.ref 0 (.val (.bf .len (.cons (.var 2) .nil)) .nil))))
    (.cons (.exp (.mut .append 3 .nil true (.cons (.idx (.var 2) (.var 5)) .nil)))
    (.cons (.set 2 1 (.bin .add (.slc (.var 2) .none (.some (.var 5))) (.slc (.var 2) (.some (.bin .add (.var 5) (.lit (.int 1)))) .none))) .nil))
def mixedB (x : Str) (t : Nat) : Ss :=
    (.cons (.par [2, 3] [1, 2] (.cons (.bf .list (.cons (.var 1) .nil)) (.cons (.lst .nil) .nil)))
    (.cons (.for_ (.nm 4) (.rng (.cons (.bf .len (.cons (.var 1) .nil)) .nil)) (mixT x t))
    (.cons (.retv 3) .nil)))
theorem cut_lo {α : Type} (xs : List α) {z : Int} (h0 : 0 ≤ z) (h1 : z ≤ xs.length) : cutL xs none (some z) = xs.take z.toNat := by
  unfold cutL clip
  simp only [h0, if_true, List.drop_zero, Nat.sub_zero]
  rw [Nat.min_eq_left (by omega)]
theorem cut_hi {α : Type} (xs : List α) {z : Int} (h0 : 0 ≤ z) (h1 : z ≤ xs.length) : cutL xs (some z) none = xs.drop z.toNat := by
  unfold cutL clip
  simp only [h0, if_true]
  rw [Nat.min_eq_left (by omega), List.take_of_length_le (by rw [List.length_drop]; omega)]
theorem perm_out {α : Type} {xs : List α} {k : Nat} {x : α} (h : xs[k]? = some x) : (x :: (xs.take k ++ xs.drop (k + 1))).Perm xs := by
  obtain ⟨hl, e⟩ := List.getElem?_eq_some_iff.mp h
  have e1 : xs = xs.take k ++ x :: xs.drop (k + 1) := by
    rw [← e, List.getElem_cons_drop, List.take_append_drop]
  have p : (xs.take k ++ x :: xs.drop (k + 1)).Perm (x :: (xs.take k ++ xs.drop (k + 1))) := List.perm_middle
  rw [← e1] at p
  exact p.symm
section
variable {P : Prog} {n : Nat} {t : Nat} {dt : Df} {x : Str}
theorem mix_turn (hdt : P.defs[t]? = some dt) (hst : Shp dt 2 6 [0] true takeB) {o : O} {m : Int} (hb : Box o m) (hm : m < 1099511627776) {s1 x4 x5 : Option O} {rest found : List D} (hr : 1 ≤ rest.length) (hz : rest.length + found.length < 1000) :
    ∃ (o' : O) (k : Nat) (d : D), rest[k]? = some d ∧ Box o' (m + 1) ∧
      exs P (callF P (n + 1)) (mixT x t) [some o, s1, some (.dat (.list rest)), some (.lst (found.map .dat)), x4, x5] =
        some (.nx, [some o', s1, some (.dat (.list (rest.take k ++ rest.drop (k + 1)))), some (.lst ((found ++ [d]).map .dat)), x4, some (.dat (.int (k : Int)))]) := by
  obtain ⟨z, o', z0, z1, hb', e⟩ := take_ok (n := n) hdt hst hb hm (r := (rest.length : Int)) (by omega) (by omega)
  have hk : z.toNat < rest.length := by omega
  have ez : ((z.toNat : Nat) : Int) = z := by omega
  have hg : rest[z.toNat]? = some rest[z.toNat] := List.getElem?_eq_getElem hk
  refine ⟨o', z.toNat, rest[z.toNat], hg, hb', ?_⟩
  have i1 : idxD (.list rest) (.int z) = some rest[z.toNat] := by
    show atD rest z = _
    unfold atD
    rw [ixN_of z0 z1]
    exact hg
  have c1 := cut_lo rest z0 (by omega)
  have c2 := cut_hi rest (z := z + 1) (by omega) (by omega)
  have e3 : (z + 1).toNat = z.toNat + 1 := by omega
  rw [e3] at c2
  have l1 : (rest.take z.toNat).length + (rest.drop (z.toNat + 1)).length ≤ top := by
    rw [List.length_take, List.length_drop]; unfold top; omega
  have l2 : (found.map O.dat).length < top := by rw [List.length_map]; unfold top; omega
  have f1 : fzs (List.take z.toNat (List.map O.dat rest)) = rest.take z.toNat := by rw [← List.map_take, fzs_dat]
  have f2 : fzs (List.drop (z.toNat + 1) (List.map O.dat rest)) = rest.drop (z.toNat + 1) := by rw [← List.map_drop, fzs_dat]
  have f3 : fzs (List.take z.toNat (List.map O.dat rest) ++ List.drop (z.toNat + 1) (List.map O.dat rest)) = rest.take z.toNat ++ rest.drop (z.toNat + 1) := by rw [← List.map_take, ← List.map_drop, ← List.map_append, fzs_dat]
  have l3 : min z.toNat rest.length + (rest.length - (z.toNat + 1)) ≤ top := by unfold top; omega
  have l4 : found.length < top := by unfold top; omega
  rw [ez]
  simp [exs, exS, ev, evs, evo, eva, getF, get, put, tst, truD, cmpD, ltD, noneD, PySem.W.alike, plainD, PyData.depth, PySem.W.dataLt_int, fzs, O.fz, pkO, peekO, childO, datO, ixN, lfd, lf, bd, bf, sq, rt, bfD, binD, O.frz, atPath, putO, dKey, mixT, lenD, lend, callD, lentOf, back, e, i1, slcD, optI, c1, c2, fzs_dat, f1, f2, f3, l3, l4, isL, childP, mutO, fzO]
theorem mix_loop (hdt : P.defs[t]? = some dt) (hst : Shp dt 2 6 [0] true takeB) {s1 : Option O} : ∀ (ts rest found : List D) (o : O) (m : Int) (x4 x5 : Option O), ts.length = rest.length → rest.length + found.length < 1000 → Box o m → m + rest.length < 1099511627776 →
    ∃ (es : List D) (o' : O) (y4 y5 : Option O), es.Perm rest ∧ Box o' (m + rest.length) ∧
      forF (.nm 4) (fun s => exs P (callF P (n + 1)) (mixT x t) s) ts [some o, s1, some (.dat (.list rest)), some (.lst (found.map .dat)), x4, x5] = some (.nx, [some o', s1, some (.dat (.list [])), some (.lst ((found ++ es).map .dat)), y4, y5])
  | [], [], found, o, m, x4, x5, _, _, hb, _ => ⟨[], o, x4, x5, .refl _, by simpa using hb, by simp [forF]⟩
  | [], _ :: _, _, _, _, _, _, hl, _, _, _ => by simp at hl
  | _ :: _, [], _, _, _, _, _, hl, _, _, _ => by simp at hl
  | u :: ts, r :: rest, found, o, m, x4, x5, hl, hz, hb, hm => by
    obtain ⟨o1, k, d, hk, hb1, e1⟩ := mix_turn (n := n) (x := x) (s1 := s1) (x4 := some (.dat u)) (x5 := x5) (rest := r :: rest) (found := found) hdt hst hb (by omega) (by simp) hz
    have hp := perm_out hk
    have ll := hp.length_eq
    rw [List.length_cons] at ll
    have l2 : ((r :: rest).take k ++ (r :: rest).drop (k + 1)).length = rest.length := by simpa using ll
    obtain ⟨es, o2, y4, y5, p, hb2, e2⟩ := mix_loop hdt hst (s1 := s1) ts ((r :: rest).take k ++ (r :: rest).drop (k + 1)) (found ++ [d]) o1 (m + 1) (some (.dat u)) (some (.dat (.int (k : Int)))) (by rw [l2]; simpa using hl) (by rw [l2]; simp at hz ⊢; omega) hb1 (by rw [l2]; simp at hm; omega)
    refine ⟨d :: es, o2, y4, y5, (p.cons d).trans hp, ?_, ?_⟩
    · rw [l2] at hb2
      have : m + 1 + (rest.length : Int) = m + ((r :: rest).length : Int) := by simp; omega
      rw [← this]; exact hb2
    · rw [forF_cons (s1 := [some o, s1, some (.dat (.list (r :: rest))), some (.lst (found.map .dat)), some (.dat u), x5]) rfl, e1]
      show forF _ _ _ _ = _
      rw [e2]
      simp
/-- the rows in another order -/
theorem mixed_ok {i : Nat} {d : Df} (hd : P.defs[i]? = some d) (hs : Shp d 2 6 [0] true (mixedB x t)) (hdt : P.defs[t]? = some dt) (hst : Shp dt 2 6 [0] true takeB) {o : O} {m : Int} {ds : List D} {p : D} (hp : p = .list ds ∨ p = .tuple ds) (hb : Box o m) (hm : m + ds.length < 1099511627776) (hz : ds.length < 1000) :
    ∃ (es : List D) (o' : O), es.Perm ds ∧ Box o' (m + ds.length) ∧ callF P (n + 2) i [o, .dat p] = some (.ok (.dat (.list es)), [some o', none]) := by
  have hr : rangeOf [.int (ds.length : Int)] = some ((List.range ds.length).map fun (j : Nat) => .int (0 + (j : Int))) := by
    show rangeD 0 ds.length 1 = _
    unfold rangeD
    rw [if_pos rfl]
    have e : ((ds.length : Int) - 0).toNat = ds.length := by omega
    rw [e]
    exact if_pos ⟨by unfold top; omega, by omega, by omega, by omega, by omega⟩
  obtain ⟨es, o', y4, y5, pm, hb', e⟩ := mix_loop (n := n) (x := x) hdt hst (s1 := some (.dat p)) ((List.range ds.length).map fun (j : Nat) => .int (0 + (j : Int))) ds [] o m none none (by simp) (by simpa using hz) hb hm
  refine ⟨es, o', pm, hb', ?_⟩
  rw [callF_eq hd (by rw [hs.np]; rfl)]
  have e0 : start d [o, .dat p] = [some o, some (.dat p), none, none, none, none] := by
    unfold start
    rw [hs.ns, hs.np]
    rfl
  have ei : evi P (callF P (n + 1)) (.rng (.cons (.bf .len (.cons (.var 1) .nil)) .nil)) [some o, some (.dat p), some (.dat (.list ds)), some (.lst []), none, none] = some (.ok ((List.range ds.length).map fun (j : Nat) => .int (0 + (j : Int))), [some o, some (.dat p), some (.dat (.list ds)), some (.lst []), none, none]) := by
    rcases hp with rfl | rfl <;> simp [exs, exS, ev, evs, evo, eva, getF, get, put, tst, truD, cmpD, ltD, noneD, PySem.W.alike, plainD, PyData.depth, PySem.W.dataLt_int, fzs, O.fz, pkO, peekO, childO, datO, ixN, lfd, lf, bd, bf, sq, rt, bfD, binD, O.frz, atPath, putO, dKey, evi, lenD, hr]
  have e1 : exS P (callF P (n + 1)) (.par [2, 3] [1, 2] (.cons (.bf .list (.cons (.var 1) .nil)) (.cons (.lst .nil) .nil))) [some o, some (.dat p), none, none, none, none] = some (.nx, [some o, some (.dat p), some (.dat (.list ds)), some (.lst []), none, none]) := by
    rcases hp with rfl | rfl <;> simp [exs, exS, ev, evs, evo, eva, getF, get, put, tst, truD, cmpD, ltD, noneD, PySem.W.alike, plainD, PyData.depth, PySem.W.dataLt_int, fzs, O.fz, pkO, peekO, childO, datO, ixN, lfd, lf, bd, bf, sq, rt, bfD, binD, O.frz, atPath, putO, dKey, putAll, fzs_dat, fzO]
  rw [e0, hs.body]
  have go : exs P (callF P (n + 1)) (mixedB x t) [some o, some (.dat p), none, none, none, none] = some (.rt (.lst (es.map .dat)), [some o', some (.dat p), some (.dat (.list [])), none, y4, y5]) := by
    show sq (exS P (callF P (n + 1)) _ _) (fun s => sq (bf (evi P (callF P (n + 1)) _ s) fun ds s => forF _ _ ds s) fun s => exs P (callF P (n + 1)) _ s) = _
    rw [e1, sq_nx, ei, bf_ok]
    show sq (forF (.nm 4) (fun s => exs P (callF P (n + 1)) (mixT x t) s) _ _) _ = _
    rw [show ([] : List O) = ([] : List D).map O.dat from rfl, e, sq_nx]
    simp [exs, exS, ev, evs, evo, eva, getF, get, put, tst, truD, cmpD, ltD, noneD, PySem.W.alike, plainD, PyData.depth, PySem.W.dataLt_int, fzs, O.fz, pkO, peekO, childO, datO, ixN, lfd, lf, bd, bf, sq, rt, bfD, binD, O.frz, atPath, putO, dKey]
  rw [go]
  show some (Rs.ok (if d.fz then O.dat (O.lst (es.map .dat)).fz else _), outs d.np d.refs _) = _
  rw [hs.fz, hs.np, hs.refs]
  show some (Rs.ok (O.dat (.list (fzs (es.map .dat)))), _) = _
  rw [fzs_dat]
  rfl
end
end Ur
end
section
set_option linter.all false
set_option autoImplicit false
set_option maxRecDepth 100000
/-! UrL4: drawn bonds and patterns. -/
namespace Ur
open PySem
section
variable {P : Prog} {n : Nat}
def srP : D := .str ⟨#[115, 114]⟩
/-- s or r -/
theorem of_sr {i t : Nat} {df dt : Df} {x : Str} {o : O} {m : Int} (hd : P.defs[i]? = some df) (hs : Shp df 2 2 [0] true (ofB x t)) (hdt : P.defs[t]? = some dt) (hst : Shp dt 2 6 [0] true takeB) (hb : Box o m) (hm : m < 1099511627776) :
    ∃ (e : Nat) (o' : O), e ∈ [115, 114] ∧ Box o' (m + 1) ∧ callF P (n + 2) i [o, .dat srP] = some (.ok (.dat (sgn e)), [some o', none]) := by
  obtain ⟨z, o', z0, z1, hb', h⟩ := of_ok (n := n) (pool := srP) (L := 2) hd hs hdt hst hb hm rfl (by omega) (by omega)
  have hz : z = 0 ∨ z = 1 := by omega
  rcases hz with rfl | rfl
  · exact ⟨115, o', by simp, hb', h _ rfl⟩
  · exact ⟨114, o', by simp, hb', h _ rfl⟩
def bondB (x : Str) (i : Nat) (y : Str) (j : Nat) : Ss :=
    (.cons (.set 2 1 (.slc (.call x i (.ref 0 (.val (.bf .list (.cons (.var 1) .nil)) .nil))) .none (.some (.lit (.int 2)))))
    (.cons (.ret (.tup (.cons (.idx (.var 2) (.lit (.int 0))) (.cons (.call y j (.ref 0 (.val (.lit (.str ⟨#[115, 114]⟩)) .nil))) (.cons (.idx (.var 2) (.lit (.int 1))) (.cons (.call y j (.ref 0 (.val (.lit (.str ⟨#[115, 114]⟩)) .nil))) .nil)))))) .nil))
theorem bond_run {cf : Cf} {x y : Str} {i j : Nat} {o o1 o2 o3 : O} {p a b : D} {ds r : List D} {e f : D} (hl : bfD .list [p] = some (.lst (ds.map .dat))) (h1 : cf i [o, .dat (.list ds)] = some (.ok (.dat (.list (a :: b :: r))), [some o1, none])) (hz : (a :: b :: r).length ≤ top)
    (h2 : cf j [o1, .dat srP] = some (.ok (.dat e), [some o2, none])) (h3 : cf j [o2, .dat srP] = some (.ok (.dat f), [some o3, none])) :
    ∃ s, exs P cf (bondB x i y j) [some o, some (.dat p), none] = some (.rt (.dat (.tuple [a, e, b, f])), some o3 :: s) := by
  have c1 : cutL (a :: b :: r) none (some 2) = [a, b] := by simp [cutL, clip]
  have h2 : cf j [o1, .dat (.str ⟨#[115, 114]⟩)] = some (.ok (.dat e), [some o2, none]) := h2
  have h3 : cf j [o2, .dat (.str ⟨#[115, 114]⟩)] = some (.ok (.dat f), [some o3, none]) := h3
  have e1 : exS P cf (.set 2 1 (.slc (.call x i (.ref 0 (.val (.bf .list (.cons (.var 1) .nil)) .nil))) .none (.some (.lit (.int 2))))) [some o, some (.dat p), none] = some (.nx, [some o1, some (.dat p), some (.dat (.list [a, b]))]) := by
    simp [exS, ev, evs, evo, eva, getF, get, put, fzs, O.fz, lf, bd, bf, rt, hl, fzs_dat, lend, callD, lentOf, back, h1, slcD, optI, c1, O.frz]
  refine ⟨[some (.dat p), some (.dat (.list [a, b]))], ?_⟩
  show sq (exS P cf _ _) (fun s => exs P cf _ s) = _
  rw [e1, sq_nx]
  simp [exs, exS, ev, evs, evo, eva, getF, get, put, tst, truD, cmpD, ltD, noneD, PySem.W.alike, plainD, PyData.depth, PySem.W.dataLt_int, fzs, O.fz, pkO, peekO, childO, datO, ixN, lfd, lf, bd, bf, sq, rt, bfD, binD, O.frz, atPath, putO, dKey, lend, callD, lentOf, back, h2, h3, idxD, atD]
/-- a drawn bond -/
theorem bond_ok {i j k t : Nat} {db dm df dt : Df} {x y z : Str} {o : O} {m : Int} {p : D} {ds : List D} (hd : P.defs[k]? = some db) (hs : Shp db 2 3 [0] true (bondB x i y j)) (hdm : P.defs[i]? = some dm) (hsm : Shp dm 2 6 [0] true (mixedB z t)) (hdf : P.defs[j]? = some df) (hsf : Shp df 2 2 [0] true (ofB z t)) (hdt : P.defs[t]? = some dt) (hst : Shp dt 2 6 [0] true takeB)
    (hl : bfD .list [p] = some (.lst (ds.map .dat))) (h2 : 2 ≤ ds.length) (hz : ds.length < 1000) (hb : Box o m) (hm : m < 1000000000000) :
    ∃ (a b : D) (r : List D) (e f : Nat) (o' : O), (a :: b :: r).Perm ds ∧ e ∈ [115, 114] ∧ f ∈ [115, 114] ∧ Box o' (m + ds.length + 2) ∧ callF P (n + 3) k [o, .dat p] = some (.ok (.dat (.tuple [a, sgn e, b, sgn f])), [some o', none]) := by
  obtain ⟨es, o1, pm, hb1, c1⟩ := mixed_ok (n := n) (p := .list ds) hdm hsm hdt hst (.inl rfl) hb (by omega) hz
  have hle := pm.length_eq
  match es, hle, pm, c1 with
  | a :: b :: r, hle, pm, c1 =>
    obtain ⟨e, o2, he, hb2, c2⟩ := of_sr (n := n) hdf hsf hdt hst hb1 (by omega)
    obtain ⟨f, o3, hf, hb3, c3⟩ := of_sr (n := n) hdf hsf hdt hst hb2 (by omega)
    obtain ⟨s, e4⟩ := bond_run (P := P) (x := x) (y := y) hl c1 (by rw [hle]; unfold top; omega) c2 c3
    refine ⟨a, b, r, e, f, o3, pm, he, hf, ?_, ?_⟩
    · have : m + (ds.length : Int) + 1 + 1 = m + ds.length + 2 := by omega
      rw [← this]; exact hb3
    · rw [callF_eq hd (by rw [hs.np]; rfl)]
      have e0 : start db [o, .dat p] = [some o, some (.dat p), none] := by
        unfold start
        rw [hs.ns, hs.np]
        rfl
      rw [e0, hs.body, e4]
      show some (Rs.ok (if db.fz then _ else _), outs db.np db.refs _) = _
      rw [hs.fz, hs.np, hs.refs]
      rfl
  | [], hle, _, _ => simp at hle; omega
  | [_], hle, _, _ => simp at hle; omega
end
end Ur
end
section
set_option linter.all false
set_option autoImplicit false
set_option maxRecDepth 100000
/-! UrL5: drawn patterns. -/
namespace Ur
open PySem
/-- the letters a to h, as signs -/
def abc : List Nat := [97, 98, 99, 100, 101, 102, 103, 104]
/-- a bond as it is drawn -/
def BondP (d : D) : Prop := ∃ a e b f : Nat, d = .tuple [sgn a, sgn e, sgn b, sgn f] ∧ a ∈ abc ∧ b ∈ abc ∧ a ≠ b ∧ e ∈ [115, 114] ∧ f ∈ [115, 114]
theorem BondP.mem {d : D} (h : BondP d) : memOk d = true := by
  obtain ⟨a, e, b, f, rfl, _⟩ := h
  rfl
theorem BondP.tup {d : D} (h : BondP d) : tupAny d = true := by
  obtain ⟨a, e, b, f, rfl, _⟩ := h
  rfl
theorem BondP.ne {d : D} (h : BondP d) : tupNE d = true := by
  obtain ⟨a, e, b, f, rfl, _⟩ := h
  rfl
theorem BondP.depth {d : D} (h : BondP d) : d.depth = 1 := by
  obtain ⟨a, e, b, f, rfl, _⟩ := h
  simp [PyData.depth, PyData.depthAll, sgn]
theorem BondP.plain {d : D} (h : BondP d) : plainD d = true := by
  obtain ⟨a, e, b, f, rfl, _⟩ := h
  rfl
theorem BondP.alike {c d : D} (h : BondP c) (g : BondP d) : PySem.W.alike c d = true := by
  obtain ⟨a, e, b, f, rfl, _⟩ := h
  obtain ⟨a', e', b', f', rfl, _⟩ := g
  simp [PySem.W.alike, PySem.W.alikeAll, sgn]
theorem sgn_inj {a b : Nat} (h : sgn a = sgn b) : a = b := by
  simpa [sgn] using h
theorem alikeTo_of {x : D} : ∀ {l : List D}, (∀ y ∈ l, PySem.W.alike x y = true) → alikeTo x l = true
  | [], _ => rfl
  | y :: r, h => by rw [alikeTo, h y List.mem_cons_self, alikeTo_of fun z hz => h z (List.mem_cons_of_mem _ hz)]; rfl
theorem allAlike_by : ∀ {l : List D}, (∀ x ∈ l, ∀ y ∈ l, PySem.W.alike x y = true) → allAlike l = true
  | [], _ => rfl
  | x :: r, h => by
    rw [allAlike, h x List.mem_cons_self x List.mem_cons_self, alikeTo_of fun y hy => h x List.mem_cons_self y (List.mem_cons_of_mem _ hy), allAlike_by fun y hy z hz => h y (List.mem_cons_of_mem _ hy) z (List.mem_cons_of_mem _ hz)]; rfl
/-- sorted(set(xs)) of tuples -/
theorem sset_tups {ds : List D} (h1 : ∀ d ∈ ds, memOk d = true) (h2 : ∀ d ∈ ds, tupNE d = true) (h3 : ∀ d ∈ ds, d.depth ≤ 8) (h4 : ∀ c ∈ ds, ∀ d ∈ ds, PySem.W.alike c d = true) (hz : ds.length < 64) :
    (setOf (.list ds)).bind (fun d => bfD .sorted [d]) = some (.lst ((isort (dedup [] ds)).map .dat)) ∧ (setOf (.tuple ds)).bind (fun d => bfD .sorted [d]) = some (.lst ((isort (dedup [] ds)).map .dat)) := by
  obtain ⟨nd, hm⟩ := dedup_mem ds [] h1 (fun d h => by cases h) List.nodup_nil
  have sub : ∀ d, d ∈ dedup [] ds → d ∈ ds := fun d hd => by
    rcases (hm d).1 hd with z | z
    · cases z
    · exact z
  have ta : ∀ d ∈ ds, tupAny d = true := fun d hd => by
    have := h2 d hd
    cases d <;> first | rfl | (simp [tupNE] at this)
  have e1 : mkSet ds = some (setD (dedup [] ds)) := by
    unfold mkSet
    rw [if_pos]
    simp only [Bool.and_eq_true, Bool.or_eq_true, List.all_eq_true, decide_eq_true_eq]
    exact ⟨⟨⟨h1, .inl ta⟩, hz⟩, h3⟩
  have e2 : sortable (dedup [] ds) = true := by
    simp only [sortable, Bool.and_eq_true, Bool.or_eq_true, List.all_eq_true, decide_eq_true_eq]
    exact ⟨⟨allAlike_by fun x hx y hy => h4 x (sub x hx) y (sub y hy), .inl fun d hd => h2 d (sub d hd)⟩, fun d hd => ⟨Nat.le_trans (h3 d (sub d hd)) (by decide), plain_mem d (h1 d (sub d hd))⟩⟩
  have e3 : bfD .sorted [setD (dedup [] ds)] = some (.lst ((isort (dedup [] ds)).map .dat)) := by
    show (sortD (dedup [] ds)).map _ = _
    unfold sortD
    rw [if_pos e2]; rfl
  constructor
  · show (mkSet ds).bind _ = _
    rw [e1]; exact e3
  · show (mkSet ds).bind _ = _
    rw [e1]; exact e3
section
variable {P : Prog} {n : Nat}
theorem bonds_loop {cf : Cf} {x : Str} {k : Nat} {s1 s2 : Option O} {p : D} {step : Int} (hb : ∀ (o : O) (m : Int), Box o m → m < 100000000000 → ∃ (d : D) (o' : O), BondP d ∧ Box o' (m + step) ∧ cf k [o, .dat p] = some (.ok (.dat d), [some o', none])) (hs : 0 ≤ step) (hs2 : step ≤ 100) :
    ∀ (ts : List D) (o : O) (m : Int) (acc : List O) (x4 : Option O), Box o m → m + 100 * ts.length < 10000000000 → acc.length + ts.length < 1000 → ∃ (bs : List D) (o' : O) (y4 : Option O), bs.length = ts.length ∧ (∀ d ∈ bs, BondP d) ∧ Box o' (m + step * ts.length) ∧
      eachG (compT P cf [4] (.nm 4) .nil (.last (.call x k (.ref 0 (.val (.var 3) .nil))))) ts [some o, s1, s2, some (.dat p), x4] acc = some (acc ++ bs.map .dat, [some o', s1, s2, some (.dat p), y4])
  | [], o, m, acc, x4, hbx, _, _ => ⟨[], o, x4, rfl, fun d h => (by cases h), (by simpa using hbx), (by simp [eachG])⟩
  | u :: ts, o, m, acc, x4, hbx, hm, hz => by
    rw [List.length_cons] at hm hz
    obtain ⟨d, o1, hd, hb1, e1⟩ := hb o m hbx (by omega)
    obtain ⟨bs, o2, y4, hl, hbs, hb2, e2⟩ := bonds_loop (x := x) (s1 := s1) (s2 := s2) hb hs hs2 ts o1 (m + step) (acc ++ [.dat d]) (some (.dat u)) hb1 (by push_cast at hm; omega) (by simp; omega)
    refine ⟨d :: bs, o2, y4, by simp [hl], fun c hc => ?_, ?_, ?_⟩
    · rcases List.mem_cons.mp hc with z | z
      · rw [z]; exact hd
      · exact hbs c z
    · have e3 : m + step + step * (ts.length : Int) = m + step * ((u :: ts).length : Int) := by
        rw [List.length_cons]; push_cast; rw [Int.mul_add, Int.mul_one]; omega
      rw [← e3]; exact hb2
    · rw [eachG_cons (acc' := acc ++ [.dat d]) (s' := [some o1, s1, s2, some (.dat p), some (.dat u)]), e2]
      · simp
      · simp [exs, exS, ev, evs, evo, eva, getF, get, put, tst, truD, cmpD, ltD, noneD, PySem.W.alike, plainD, PyData.depth, PySem.W.dataLt_int, fzs, O.fz, pkO, peekO, childO, datO, ixN, lfd, lf, bd, bf, sq, rt, bfD, binD, O.frz, atPath, putO, dKey, compT, asg, wipe, evc, putsD, evg, lend, callD, e1, lentOf, back, show acc.length < top by unfold top; omega]
def patB (z : Str) (mi : Nat) (w : Str) (ti : Nat) (y : Str) (bi : Nat) : Ss :=
    (.cons (.set 3 1 (.slc (.call z mi (.ref 0 (.val (.bf .list (.cons (.lit (.str ⟨#[97, 98, 99, 100, 101, 102, 103, 104]⟩)) .nil)) .nil))) .none (.some (.var 1))))
    (.cons (.ret (.bf .tuple (.cons (.sset .sorted (.comp .lst [4] (.nm 4) (.rng (.cons (.bin .add (.lit (.int 1)) (.call w ti (.ref 0 (.val (.var 2) .nil)))) .nil)) .nil (.last (.call y bi (.ref 0 (.val (.var 3) .nil)))))) .nil))) .nil))
def abcD : List D := abc.map sgn
theorem range_up1 {z : Int} (h0 : 0 ≤ z) (h1 : z < 1000) : rangeOf [.int (1 + z)] = some ((List.range (z + 1).toNat).map fun (j : Nat) => .int (0 + (j : Int))) := by
  show rangeD 0 (1 + z) 1 = _
  unfold rangeD
  rw [if_pos rfl]
  have e : (1 + z - 0).toNat = (z + 1).toNat := by omega
  rw [e]
  exact if_pos ⟨by unfold top; omega, by omega, by omega, by omega, by omega⟩
theorem pat_run {cf : Cf} {z w y : Str} {mi ti bi : Nat} {o o1 o2 : O} {es : List D} {many r : Int} {c : Int} {m2 : Int} (hy : 0 ≤ many) (hy2 : many ≤ es.length)
    (h1 : cf mi [o, .dat (.list abcD)] = some (.ok (.dat (.list es)), [some o1, none])) (h2 : cf ti [o1, .dat (.int r)] = some (.ok (.dat (.int c)), [some o2, none])) (c0 : 0 ≤ c) (c1 : c < 63) (hbx : Box o2 m2) (hm : m2 < 1000000000) {step : Int} (hs : 0 ≤ step) (hs2 : step ≤ 100)
    (hb : ∀ (o : O) (m : Int), Box o m → m < 100000000000 → ∃ (d : D) (o' : O), BondP d ∧ Box o' (m + step) ∧ cf bi [o, .dat (.list (es.take many.toNat))] = some (.ok (.dat d), [some o', none])) :
    ∃ (bs : List D) (o3 : O) (s : Stt), (bs.length : Int) = c + 1 ∧ (∀ d ∈ bs, BondP d) ∧ Box o3 (m2 + step * (c + 1)) ∧
      exs P cf (patB z mi w ti y bi) [some o, some (.dat (.int many)), some (.dat (.int r)), none, none] = some (.rt (.dat (.tuple (isort (dedup [] bs)))), some o3 :: s) := by
  have ce := cut_lo es hy hy2
  have h1 : cf mi [o, .dat (.list [sgn 97, sgn 98, sgn 99, sgn 100, sgn 101, sgn 102, sgn 103, sgn 104])] = some (.ok (.dat (.list es)), [some o1, none]) := h1
  obtain ⟨bs, o3, y4, hl, hbs, hb3, e3⟩ := bonds_loop (P := P) (x := y) (s1 := some (.dat (.int many))) (s2 := some (.dat (.int r))) hb hs hs2 ((List.range (c + 1).toNat).map fun (j : Nat) => .int (0 + (j : Int))) o2 m2 [] none hbx (by simp; omega) (by simp; omega)
  have hl2 : (bs.length : Int) = c + 1 := by rw [hl]; simp; omega
  have hr := range_up1 c0 (by omega)
  have e1 : exS P cf (.set 3 1 (.slc (.call z mi (.ref 0 (.val (.bf .list (.cons (.lit (.str ⟨#[97, 98, 99, 100, 101, 102, 103, 104]⟩)) .nil)) .nil))) .none (.some (.var 1)))) [some o, some (.dat (.int many)), some (.dat (.int r)), none, none] = some (.nx, [some o1, some (.dat (.int many)), some (.dat (.int r)), some (.dat (.list (es.take many.toNat))), none]) := by
    simp [exS, ev, evs, evo, eva, getF, get, put, fzs, O.fz, lf, bd, bf, rt, bfD, signs, fzs_dat, lend, callD, lentOf, back, h1, slcD, optI, ce, O.frz]
    rw [← List.map_take, fzs_dat]
  have ei : evi P cf (.rng (.cons (.bin .add (.lit (.int 1)) (.call w ti (.ref 0 (.val (.var 2) .nil)))) .nil)) [some o1, some (.dat (.int many)), some (.dat (.int r)), some (.dat (.list (es.take many.toNat))), none] = some (.ok ((List.range (c + 1).toNat).map fun (j : Nat) => .int (0 + (j : Int))), [some o2, some (.dat (.int many)), some (.dat (.int r)), some (.dat (.list (es.take many.toNat))), none]) := by
    simp [exs, exS, ev, evs, evo, eva, getF, get, put, tst, truD, cmpD, ltD, noneD, PySem.W.alike, plainD, PyData.depth, PySem.W.dataLt_int, fzs, O.fz, pkO, peekO, childO, datO, ixN, lfd, lf, bd, bf, sq, rt, bfD, binD, O.frz, atPath, putO, dKey, evi, lend, callD, lentOf, back, h2, hr]
  have e2 := ev_comp (k := .lst) (vs := [4]) ei (by simp [isDat]) e3
  obtain ⟨ss1, ss2⟩ := sset_tups (ds := bs) (fun d hd => (hbs d hd).mem) (fun d hd => (hbs d hd).ne) (fun d hd => by rw [(hbs d hd).depth]; decide) (fun c hc d hd => (hbs c hc).alike (hbs d hd)) (by omega)
  refine ⟨bs, o3, [some (.dat (.int many)), some (.dat (.int r)), some (.dat (.list (es.take many.toNat))), none], hl2, hbs, ?_, ?_⟩
  · have : step * (((List.range (c + 1).toNat).map fun (j : Nat) => PyData.int (0 + (j : Int))).length : Int) = step * (c + 1) := by
      congr 1; simp; omega
    rw [this] at hb3
    exact hb3
  · show sq (exS P cf _ _) (fun s => exs P cf _ s) = _
    rw [e1, sq_nx]
    obtain ⟨ce, hce⟩ : ∃ ce, ce = E.comp .lst [4] (.nm 4) (.rng (.cons (.bin .add (.lit (.int 1)) (.call w ti (.ref 0 (.val (.var 2) .nil)))) .nil)) .nil (.last (.call y bi (.ref 0 (.val (.var 3) .nil)))) := ⟨_, rfl⟩
    rw [← hce] at e2 ⊢
    have bt : ∀ ds : List D, bfD .tuple [.list ds] = some (.dat (.tuple ds)) := fun _ => rfl
    simp [exs, exS, ev, evs, e2, collect, lf, bd, bf, rt, O.fz, fzs_dat, ss1, restore, fzs, bt, sq]
theorem Box.mono {o : O} {m m' : Int} (h : Box o m) (l : m ≤ m') : Box o m' := by
  obtain ⟨a, b, c, e, h0, h1⟩ := h
  exact ⟨a, b, c, e, h0, by omega⟩
theorem nodup_sgn : abcD.Nodup := by
  show (abc.map sgn).Pairwise (· ≠ ·)
  rw [List.pairwise_map]
  exact List.Pairwise.imp (fun h e => h (sgn_inj e)) (by decide : abc.Nodup)
/-- a bond of some of the names -/
theorem bondP_of {es : List D} {k : Nat} {a b : D} {r : List D} {e f : Nat} (pm : es.Perm abcD) (pb : (a :: b :: r).Perm (es.take k)) (he : e ∈ [115, 114]) (hf : f ∈ [115, 114]) : BondP (.tuple [a, sgn e, b, sgn f]) := by
  have nd : (a :: b :: r).Nodup := pb.nodup_iff.mpr ((List.take_sublist k es).nodup (pm.nodup_iff.mpr nodup_sgn))
  have mem : ∀ c, c ∈ a :: b :: r → ∃ x ∈ abc, sgn x = c := fun c hc => by
    have h1 : c ∈ es := List.mem_of_mem_take (pb.mem_iff.mp hc)
    exact List.mem_map.mp (pm.mem_iff.mp h1)
  obtain ⟨x, hx, rfl⟩ := mem a (by simp)
  obtain ⟨y, hy, rfl⟩ := mem b (by simp)
  refine ⟨x, e, y, f, rfl, hx, hy, fun z => ?_, he, hf⟩
  rw [List.nodup_cons] at nd
  exact nd.1 (by rw [z]; exact List.mem_cons_self)
/-- the laws' defs that draw -/
structure Draws (P : Prog) (t i j k q : Nat) (x y z w : Str) : Prop where
  tk : ∃ d, P.defs[t]? = some d ∧ Shp d 2 6 [0] true takeB
  mx : ∃ d, P.defs[i]? = some d ∧ Shp d 2 6 [0] true (mixedB x t)
  fn : ∃ d, P.defs[j]? = some d ∧ Shp d 2 2 [0] true (ofB x t)
  bd : ∃ d, P.defs[k]? = some d ∧ Shp d 2 3 [0] true (bondB y i z j)
  pt : ∃ d, P.defs[q]? = some d ∧ Shp d 3 5 [0] true (patB y i x t w k)
theorem pattern_ok {t i j k q : Nat} {x y z w : Str} (Dr : Draws P t i j k q x y z w) {o : O} {m many r : Int} (hb : Box o m) (hm : m < 100000000) (h1 : 2 ≤ many) (h2 : many ≤ 8) (h3 : 1 ≤ r) (h4 : r ≤ 62) :
    ∃ (bs : List D) (o' : O), 1 ≤ bs.length ∧ (bs.length : Int) ≤ r ∧ (∀ d ∈ bs, BondP d) ∧ Box o' (m + 1000) ∧ callF P (n + 4) q [o, .dat (.int many), .dat (.int r)] = some (.ok (.dat (.tuple (isort (dedup [] bs)))), [some o', none, none]) := by
  obtain ⟨dt, t1, t2⟩ := Dr.tk
  obtain ⟨dm, m1, m2⟩ := Dr.mx
  obtain ⟨df, f1, f2⟩ := Dr.fn
  obtain ⟨db, b1, b2⟩ := Dr.bd
  obtain ⟨dp, p1, p2⟩ := Dr.pt
  obtain ⟨es, o1, pm, hb1, c1⟩ := mixed_ok (n := n + 1) (p := .list abcD) m1 m2 t1 t2 (.inl rfl) hb (by rw [show abcD.length = 8 from rfl]; omega) (by decide)
  have l8 : es.length = 8 := pm.length_eq
  rw [show (abcD.length : Int) = 8 from rfl] at hb1
  obtain ⟨c, o2, c0, c2, hb2, c3⟩ := take_ok (n := n + 2) t1 t2 hb1 (by omega) h3 (by omega)
  have lt : (es.take many.toNat).length = many.toNat := by rw [List.length_take]; omega
  obtain ⟨bs, o3, s, hl, hbs, hb3, e⟩ := pat_run (P := P) (cf := callF P (n + 3)) (z := y) (w := x) (y := w) (mi := i) (ti := t) (bi := k) (o := o) (o1 := o1) (o2 := o2) (es := es) (many := many) (r := r) (c := c) (m2 := m + 8 + 1) (step := many + 2) (by omega) (by omega) c1 c3 c0 (by omega) hb2 (by omega) (by omega) (by omega) fun o m hb hm => by
    obtain ⟨a, b, r', e, f, o', pb, he, hf, hb', hc⟩ := bond_ok (n := n) (p := .list (es.take many.toNat)) (ds := es.take many.toNat) b1 b2 m1 m2 f1 f2 t1 t2 rfl (by omega) (by omega) hb (by omega)
    refine ⟨_, o', bondP_of pm pb he hf, ?_, hc⟩
    rw [lt] at hb'
    have : m + ((many.toNat : Nat) : Int) + 2 = m + (many + 2) := by omega
    rw [← this]; exact hb'
  have small : (many + 2) * (c + 1) ≤ 10 * 62 := by
    have a1 : (many + 2) * (c + 1) ≤ 10 * (c + 1) := Int.mul_le_mul_of_nonneg_right (by omega) (by omega)
    omega
  refine ⟨bs, o3, by omega, by omega, hbs, hb3.mono (by omega), ?_⟩
  rw [callF_eq p1 (by rw [p2.np]; rfl)]
  have e0 : start dp [o, .dat (.int many), .dat (.int r)] = [some o, some (.dat (.int many)), some (.dat (.int r)), none, none] := by
    unfold start
    rw [p2.ns, p2.np]
    rfl
  rw [e0, p2.body, e]
  show some (Rs.ok (if dp.fz then _ else _), outs dp.np dp.refs _) = _
  rw [p2.fz, p2.np, p2.refs]
  rfl
end
end Ur
end
section
set_option linter.all false
set_option autoImplicit false
set_option maxRecDepth 100000
/-! UrL6: what is a bond, a pattern, a wish: plainly. -/
namespace Ur
open PySem
def nmL : List D := abcD
def enL : List D := [sgn 115, sgn 114]
def inL (l : List D) (x : D) : Bool := l.any fun z => PyData.eqv z x
def bondD : D → Bool
  | .tuple [a, e, b, f] => inL nmL a && inL nmL b && !PyData.eqv a b && inL enL e && inL enL f
  | _ => false
theorem inL_sgn {l : List Nat} {x : D} : inL (l.map sgn) x = true ↔ ∃ c ∈ l, x = sgn c := by
  unfold inL
  rw [List.any_eq_true]
  constructor
  · rintro ⟨z, hz, e⟩
    obtain ⟨c, hc, rfl⟩ := List.mem_map.mp hz
    refine ⟨c, hc, ?_⟩
    cases x <;> simp [sgn, PyData.eqv] at e ⊢
    exact e.symm
  · rintro ⟨c, hc, rfl⟩
    exact ⟨sgn c, List.mem_map.mpr ⟨c, hc, rfl⟩, by simp [sgn, PyData.eqv]⟩
theorem eqv_sgn (a b : Nat) : PyData.eqv (sgn a) (sgn b) = decide (a = b) := by
  rw [Bool.eq_iff_iff, decide_eq_true_eq, eqv_mem _ _ rfl rfl]
  exact ⟨sgn_inj, fun e => by rw [e]⟩
theorem bondD_iff (d : D) : bondD d = true ↔ BondP d := by
  constructor
  · intro h
    unfold bondD at h
    split at h
    · rename_i a e b f
      simp only [Bool.and_eq_true, Bool.not_eq_true'] at h
      obtain ⟨⟨⟨⟨h1, h2⟩, h3⟩, h4⟩, h5⟩ := h
      obtain ⟨a, ha, rfl⟩ := inL_sgn.mp h1
      obtain ⟨b, hb, rfl⟩ := inL_sgn.mp h2
      obtain ⟨e, he, rfl⟩ := (inL_sgn (l := [115, 114])).mp h4
      obtain ⟨f, hf, rfl⟩ := (inL_sgn (l := [115, 114])).mp h5
      rw [eqv_sgn] at h3
      exact ⟨a, e, b, f, rfl, ha, hb, of_decide_eq_false h3, he, hf⟩
    · cases h
  · rintro ⟨a, e, b, f, rfl, ha, hb, hn, he, hf⟩
    show (inL nmL (sgn a) && inL nmL (sgn b) && !PyData.eqv (sgn a) (sgn b) && inL enL (sgn e) && inL enL (sgn f)) = true
    rw [show inL nmL (sgn a) = true from inL_sgn.mpr ⟨a, ha, rfl⟩, show inL nmL (sgn b) = true from inL_sgn.mpr ⟨b, hb, rfl⟩, show inL enL (sgn e) = true from (inL_sgn (l := [115, 114])).mpr ⟨e, he, rfl⟩, show inL enL (sgn f) = true from (inL_sgn (l := [115, 114])).mpr ⟨f, hf, rfl⟩, eqv_sgn, decide_eq_false hn]
    rfl
/-- strictly ascending, neighbour by neighbour -/
def ascD : List D → Bool
  | x :: y :: r => PySem.W.dataLt x y && ascD (y :: r)
  | _ => true
theorem lt_asym {x y : D} (h : PySem.W.dataLt x y = true) : PySem.W.dataLt y x = false := by
  have := leD_total.2 x y
  simp only [leD, Bool.or_eq_true, Bool.not_eq_true'] at this
  rcases this with z | z
  · exact z
  · rw [h] at z; cases z
theorem le_trans' {x y z : D} (h1 : leD x y = true) (h2 : leD y z = true) : leD x z = true := leD_total.1 x y z h1 h2
theorem asc_pair : ∀ {ds : List D}, ascD ds = true → ds.Pairwise fun a b => leD a b = true ∧ a ≠ b
  | [], _ => List.Pairwise.nil
  | [x], _ => List.pairwise_singleton _ _
  | x :: y :: r, h => by
    simp only [ascD, Bool.and_eq_true] at h
    obtain ⟨h1, h2⟩ := h
    have ih := asc_pair h2
    have h3 := lt_asym h1
    have lxy : leD x y = true := by unfold leD; rw [h3]; rfl
    have nxy : x ≠ y := fun e => by rw [e] at h1 h3; rw [h1] at h3; cases h3
    refine List.pairwise_cons.mpr ⟨fun z hz => ?_, ih⟩
    rcases List.mem_cons.mp hz with rfl | hz
    · exact ⟨lxy, nxy⟩
    · obtain ⟨l2, _⟩ := (List.pairwise_cons.mp ih).1 z hz
      refine ⟨le_trans' lxy l2, fun e => ?_⟩
      rw [← e] at l2
      unfold leD at l2
      rw [h1] at l2
      cases l2
theorem asc_of : ∀ {ds : List D}, (∀ d ∈ ds, memOk d = true) → (∀ c ∈ ds, ∀ d ∈ ds, PySem.W.alike c d = true) → ds.Pairwise (fun a b => leD a b = true) → ds.Nodup → ascD ds = true
  | [], _, _, _, _ => rfl
  | [_], _, _, _, _ => rfl
  | x :: y :: r, ok, al, p, nd => by
    obtain ⟨p1, p2⟩ := List.pairwise_cons.mp p
    rw [List.nodup_cons] at nd
    have h1 := p1 y List.mem_cons_self
    have ih := asc_of (ds := y :: r) (fun d h => ok d (List.mem_cons_of_mem _ h)) (fun c hc d hd => al c (List.mem_cons_of_mem _ hc) d (List.mem_cons_of_mem _ hd)) p2 nd.2
    have h2 : PySem.W.dataLt x y = true := by
      cases z : PySem.W.dataLt x y with
      | true => rfl
      | false =>
        exfalso
        simp only [leD, Bool.not_eq_true'] at h1
        exact nd.1 (by rw [tri x y (ok x List.mem_cons_self) (ok y (by simp)) (al x List.mem_cons_self y (by simp)) z h1]; exact List.mem_cons_self)
    rw [ascD, h2, ih]; rfl
/-- list(x) == sorted(set(x)) says the same -/
theorem asc_sorted {ds : List D} (ok : ∀ d ∈ ds, memOk d = true) (al : ∀ c ∈ ds, ∀ d ∈ ds, PySem.W.alike c d = true) : PyData.eqv (.list ds) (.list (isort (dedup [] ds))) = ascD ds := by
  obtain ⟨nd, hm⟩ := dedup_mem ds [] ok (fun d h => by cases h) List.nodup_nil
  have hm' : ∀ d, d ∈ dedup [] ds ↔ d ∈ ds := fun d => by rw [hm]; simp
  have perm := isort_perm (dedup [] ds)
  have okS : ∀ d ∈ isort (dedup [] ds), memOk d = true := fun d h => ok d ((hm' d).1 (perm.mem_iff.mp h))
  have m1 : memAll ds = true := by
    have gen : ∀ l : List D, (∀ d ∈ l, memOk d = true) → memAll l = true := fun l => by
      induction l with
      | nil => intro _; rfl
      | cons x r ih => intro h; rw [memAll, h x List.mem_cons_self, ih fun d hd => h d (List.mem_cons_of_mem _ hd)]; rfl
    exact gen ds ok
  have m2 : memAll (isort (dedup [] ds)) = true := by
    have gen : ∀ l : List D, (∀ d ∈ l, memOk d = true) → memAll l = true := fun l => by
      induction l with
      | nil => intro _; rfl
      | cons x r ih => intro h; rw [memAll, h x List.mem_cons_self, ih fun d hd => h d (List.mem_cons_of_mem _ hd)]; rfl
    exact gen _ okS
  rw [Bool.eq_iff_iff]
  show PyData.eqvAll ds (isort (dedup [] ds)) = true ↔ _
  rw [eqvAll_mem _ _ m1 m2]
  constructor
  · intro e
    have ps := isort_sorted (dedup [] ds)
    have nS := perm.nodup_iff.mpr nd
    rw [← e] at ps nS
    exact asc_of ok al ps nS
  · intro h
    have pp := asc_pair h
    have n1 : ds.Nodup := pp.imp fun h => h.2
    have s1 := pp.imp fun {a b} (h : leD a b = true ∧ a ≠ b) => h.1
    have pd : ds.Perm (isort (dedup [] ds)) := ((List.perm_ext_iff_of_nodup n1 nd).mpr fun d => (hm' d).symm).trans perm.symm
    exact sorted_uniq s1 (isort_sorted _) pd ok al
end Ur
end
set_option Elab.async false
set_option linter.all false
set_option maxRecDepth 100000
namespace Ur.k01
open Ur PySem L2
def d0 : Df :=
  ⟨"as_tuples", 1, 2, ["value", "part"], [], true, [],
    (.cons (.ife (.isi (.var 0) [.list, .tuple]) (.cons (.ret (.bf .tuple (.cons (.comp .lst [1] (.nm 1) (.any (.var 0)) .nil (.last (.call "as_tuples" 0 (.val (.var 1) .nil)))) .nil))) .nil) (.nil))
    (.cons (.retv 0) .nil))⟩
def d1 : Df :=
  ⟨"is_bond", 1, 5, ["thing", "one", "end", "other", "place"], [], true, [["thing"]],
    (.cons (.ife (.or (.nt (.isi (.var 0) [.tuple])) (.cmp .ne (.bf .len (.cons (.var 0) .nil)) (.lit (.int 4)))) (.cons (.ret (.lit (.bool false))) .nil) (.nil))
    (.cons (.unp [1, 2, 3, 4] (.var 0))
    (.cons (.ife (.or (.inx true (.var 1) (.glob 0)) (.or (.inx true (.var 3) (.glob 0)) (.cmp .eq (.var 1) (.var 3)))) (.cons (.ret (.lit (.bool false))) .nil) (.nil))
    (.cons (.ret (.and (.inx false (.var 2) (.glob 1)) (.inx false (.var 4) (.glob 1)))) .nil))))⟩
def d2 : Df :=
  ⟨"_is_ascending", 1, 3, ["members", "low", "high"], [], true, [],
    (.cons (.ret (.bf .all (.cons (.comp .lst [1, 2] (.tup [1, 2]) (.zip (.var 0) (.slc (.var 0) (.some (.lit (.int 1))) .none)) .nil (.last (.cmp .lt (.var 1) (.var 2)))) .nil))) .nil)⟩
def d3 : Df :=
  ⟨"is_pattern", 1, 2, ["thing", "member"], [], true, [["thing"]],
    (.cons (.ife (.or (.nt (.isi (.var 0) [.tuple])) (.cmp .eq (.bf .len (.cons (.var 0) .nil)) (.lit (.int 0)))) (.cons (.ret (.lit (.bool false))) .nil) (.nil))
    (.cons (.ret (.and (.bf .all (.cons (.comp .lst [1] (.nm 1) (.any (.var 0)) .nil (.last (.call "is_bond" 1 (.val (.var 1) .nil)))) .nil)) (.call "_is_ascending" 2 (.val (.var 0) .nil)))) .nil))⟩
def d4 : Df :=
  ⟨"is_wish", 1, 2, ["thing", "member"], [], true, [["thing"]],
    (.cons (.ife (.nt (.isi (.var 0) [.tuple])) (.cons (.ret (.lit (.bool false))) .nil) (.nil))
    (.cons (.ret (.and (.bf .all (.cons (.comp .lst [1] (.nm 1) (.any (.var 0)) .nil (.last (.call "is_pattern" 3 (.val (.var 1) .nil)))) .nil)) (.call "_is_ascending" 2 (.val (.var 0) .nil)))) .nil))⟩
def d5 : Df :=
  ⟨"names_of", 1, 3, ["pattern", "names", "bond"], [], true, [["pattern"]],
    (.cons (.set 1 1 (.bin .add (.comp .lst [2] (.nm 2) (.any (.var 0)) .nil (.last (.idx (.var 2) (.lit (.int 0))))) (.comp .lst [2] (.nm 2) (.any (.var 0)) .nil (.last (.idx (.var 2) (.lit (.int 2)))))))
    (.cons (.ret (.bf .tuple (.cons (.sset .sorted (.var 1)) .nil))) .nil))⟩
def d6 : Df :=
  ⟨"_law_box", 2, 3, ["_law_script", "_law_k", "_law_cell"], [], false, [],
    (.cons (.set 2 1 (.ite (.cmp .lt (.var 1) (.bf .len (.cons (.var 0) .nil))) (.idx (.var 0) (.var 1)) (.lit (.int 0))))
    (.cons (.ret (.lst (.cons (.bin .mul (.bf .abs (.cons (.var 2) .nil)) (.bf .int (.cons (.cmp .ge (.bf .abs (.cons (.var 2) .nil)) (.bin .pow (.lit (.int 10)) (.lit (.int 18)))) .nil))) (.cons (.bin .add (.bin .add (.bin .mod (.bf .int (.cons (.var 2) .nil)) (.lit (.int 2305843009213693951))) (.bin .mul (.lit (.int 39373)) (.var 1))) (.lit (.int 11537))) (.cons (.lit (.int 0)) .nil))))) .nil))⟩
def d7 : Df :=
  ⟨"_law_take", 2, 6, ["_law_box_here", "_law_below_so", "_law_drawn_so", "_law_once", "_law_far_so", "_law_twice_so"], [0], true, [],
    (.cons (.ife (.cmp .gt (.pk .idx 0 (.cons (.lit (.int 0)) .nil)) (.lit (.int 0))) (.cons (.set 2 1 (.bin .mod (.bf .int (.cons (.pk .idx 0 (.cons (.lit (.int 0)) .nil)) .nil)) (.var 1)))
    (.cons (.sto 0 .nil true (.lit (.int 0)) (.bin .fdiv (.pk .idx 0 (.cons (.lit (.int 0)) .nil)) (.var 1)))
    (.cons (.retv 2) .nil))) (.nil))
    (.cons (.sto 0 .nil true (.lit (.int 2)) (.bin .add (.pk .idx 0 (.cons (.lit (.int 2)) .nil)) (.lit (.int 1))))
    (.cons (.set 3 1 (.bin .mod (.bf .int (.cons (.bin .mul (.bin .add (.pk .idx 0 (.cons (.lit (.int 1)) .nil)) (.bin .mul (.lit (.int 48271)) (.pk .idx 0 (.cons (.lit (.int 2)) .nil)))) (.bin .add (.lit (.int 39373)) (.pk .idx 0 (.cons (.lit (.int 2)) .nil)))) .nil)) (.lit (.int 2147483647))))
    (.cons (.set 4 1 (.bin .add (.bin .mod (.bf .int (.cons (.var 3) .nil)) (.lit (.int 40009))) (.lit (.int 7))))
    (.cons (.set 5 1 (.bin .mod (.bf .int (.cons (.bin .mul (.bin .add (.bin .add (.var 3) (.pk .idx 0 (.cons (.lit (.int 2)) .nil))) (.bin .fdiv (.pk .idx 0 (.cons (.lit (.int 1)) .nil)) (.lit (.int 1000003)))) (.var 4)) .nil)) (.lit (.int 2147483629))))
    (.cons (.ret (.bin .mod (.bf .int (.cons (.bin .fdiv (.bin .mod (.bf .int (.cons (.bin .add (.bin .mul (.var 5) (.lit (.int 48271))) (.var 3)) .nil)) (.lit (.int 2147483587))) (.lit (.int 64))) .nil)) (.var 1))) .nil))))))⟩
def d8 : Df :=
  ⟨"_law_cells", 2, 6, ["_law_script", "_law_most_so", "_law_cells_here", "_law_k", "_law_cell", "_law_at_so"], [], true, [],
    (.cons (.set 2 2 (.or (.bf .list (.cons (.slc (.var 0) .none (.some (.var 1))) .nil)) (.lst (.cons (.lit (.int 0)) .nil))))
    (.cons (.for_ (.tup [3, 4]) (.enum (.slc (.var 0) (.some (.var 1)) (.some (.lit (.int 63))))) (.cons (.set 5 1 (.bin .mod (.bf .int (.cons (.var 3) .nil)) (.var 1)))
    (.cons (.sto 2 .nil true (.var 5) (.bin .add (.pk .idx 2 (.cons (.var 5) .nil)) (.bin .mul (.var 4) (.bin .add (.var 3) (.lit (.int 2)))))) .nil)))
    (.cons (.retv 2) .nil)))⟩
def d9 : Df :=
  ⟨"_law_of", 2, 2, ["_law_box_here", "_law_pool_so"], [0], true, [],
    (.cons (.ret (.idx (.var 1) (.call "_law_take" 7 (.ref 0 (.val (.bf .len (.cons (.var 1) .nil)) .nil))))) .nil)⟩
def d10 : Df :=
  ⟨"_law_lists", 1, 2, ["_law_matter", "_law_bit"], [], true, [],
    (.cons (.ret (.ite (.isi (.var 0) [.list, .tuple]) (.comp .lst [1] (.nm 1) (.any (.var 0)) .nil (.last (.call "_law_lists" 10 (.val (.var 1) .nil)))) (.var 0))) .nil)⟩
def d11 : Df :=
  ⟨"_law_same", 2, 4, ["_law_got", "_law_due_so", "_law_own", "_law_far"], [], true, [],
    (.cons (.ife (.isi (.var 1) [.list, .tuple]) (.cons (.ife (.or (.cmp .ne (.isi (.var 0) [.list]) (.isi (.var 1) [.list])) (.cmp .ne (.isi (.var 0) [.tuple]) (.isi (.var 1) [.tuple]))) (.cons (.ret (.lit (.bool false))) .nil) (.nil))
    (.cons (.ret (.and (.cmp .eq (.bf .len (.cons (.var 0) .nil)) (.bf .len (.cons (.var 1) .nil))) (.bf .all (.cons (.comp .lst [2, 3] (.tup [2, 3]) (.zip (.var 0) (.var 1)) .nil (.last (.call "_law_same" 11 (.val (.var 2) (.val (.var 3) .nil))))) .nil)))) .nil)) (.nil))
    (.cons (.ife (.or (.cmp .is_ (.var 1) (.lit .none)) (.isi (.var 1) [.bool, .str])) (.cons (.ret (.and (.cmp .eq (.var 0) (.var 1)) (.and (.cmp .eq (.isi (.var 0) [.bool]) (.isi (.var 1) [.bool])) (.cmp .eq (.cmp .is_ (.var 0) (.lit .none)) (.cmp .is_ (.var 1) (.lit .none)))))) .nil) (.nil))
    (.cons (.ret (.and (.isi (.var 0) [.int]) (.and (.nt (.isi (.var 0) [.bool])) (.cmp .eq (.var 0) (.var 1))))) .nil)))⟩
def d12 : Df :=
  ⟨"_law_mixed", 2, 6, ["_law_box_here", "_law_rows_so", "_law_rest_so", "_law_found", "_law_turn", "_law_at_so"], [0], true, [],
    (.cons (.par [2, 3] [1, 2] (.cons (.bf .list (.cons (.var 1) .nil)) (.cons (.lst .nil) .nil)))
    (.cons (.for_ (.nm 4) (.rng (.cons (.bf .len (.cons (.var 1) .nil)) .nil)) (.cons (.set 5 1 (.call "_law_take" 7 (.ref 0 (.val (.bf .len (.cons (.var 2) .nil)) .nil))))
    (.cons (.exp (.mut .append 3 .nil true (.cons (.idx (.var 2) (.var 5)) .nil)))
    (.cons (.set 2 1 (.bin .add (.slc (.var 2) .none (.some (.var 5))) (.slc (.var 2) (.some (.bin .add (.var 5) (.lit (.int 1)))) .none))) .nil))))
    (.cons (.retv 3) .nil)))⟩
def d13 : Df :=
  ⟨"_law_bond", 2, 3, ["_law_box_here", "_law_names_so", "_law_own"], [0], true, [],
    (.cons (.set 2 1 (.slc (.call "_law_mixed" 12 (.ref 0 (.val (.bf .list (.cons (.var 1) .nil)) .nil))) .none (.some (.lit (.int 2)))))
    (.cons (.ret (.tup (.cons (.idx (.var 2) (.lit (.int 0))) (.cons (.call "_law_of" 9 (.ref 0 (.val (.lit (.str ⟨#[115, 114]⟩)) .nil))) (.cons (.idx (.var 2) (.lit (.int 1))) (.cons (.call "_law_of" 9 (.ref 0 (.val (.lit (.str ⟨#[115, 114]⟩)) .nil))) .nil)))))) .nil))⟩
def d14 : Df :=
  ⟨"_law_pattern", 3, 5, ["_law_box_here", "_law_many_so", "_law_bonds_so", "_law_names_so", "_law_turn"], [0], true, [],
    (.cons (.set 3 1 (.slc (.call "_law_mixed" 12 (.ref 0 (.val (.bf .list (.cons (.lit (.str ⟨#[97, 98, 99, 100, 101, 102, 103, 104]⟩)) .nil)) .nil))) .none (.some (.var 1))))
    (.cons (.ret (.bf .tuple (.cons (.sset .sorted (.comp .lst [4] (.nm 4) (.rng (.cons (.bin .add (.lit (.int 1)) (.call "_law_take" 7 (.ref 0 (.val (.var 2) .nil)))) .nil)) .nil (.last (.call "_law_bond" 13 (.ref 0 (.val (.var 3) .nil)))))) .nil))) .nil))⟩
def d15 : Df :=
  ⟨"_law_pat_names", 1, 2, ["_law_pattern_so", "_law_own"], [], true, [],
    (.cons (.ret (.bf .tuple (.cons (.sset .sorted (.bin .add (.comp .lst [1] (.nm 1) (.any (.var 0)) .nil (.last (.idx (.var 1) (.lit (.int 0))))) (.comp .lst [1] (.nm 1) (.any (.var 0)) .nil (.last (.idx (.var 1) (.lit (.int 2))))))) .nil))) .nil)⟩
def d16 : Df :=
  ⟨"_law_is_bond", 1, 3, ["_law_matter", "_law_bad_so", "_law_own"], [], true, [],
    (.cons (.ife (.or (.nt (.isi (.var 0) [.tuple])) (.cmp .ne (.bf .len (.cons (.var 0) .nil)) (.lit (.int 4)))) (.cons (.ret (.lit (.bool false))) .nil) (.nil))
    (.cons (.set 1 1 (.comp .lst [2] (.nm 2) (.any (.var 0)) (.cons (.nt (.and (.isi (.var 2) [.str]) (.cmp .eq (.bf .len (.cons (.var 2) .nil)) (.lit (.int 1))))) .nil) (.last (.var 2))))
    (.cons (.ife (.cmp .ne (.var 1) (.lst .nil)) (.cons (.ret (.lit (.bool false))) .nil) (.nil))
    (.cons (.ife (.or (.cmp .notin (.idx (.var 0) (.lit (.int 0))) (.lit (.str ⟨#[97, 98, 99, 100, 101, 102, 103, 104]⟩))) (.or (.cmp .notin (.idx (.var 0) (.lit (.int 2))) (.lit (.str ⟨#[97, 98, 99, 100, 101, 102, 103, 104]⟩))) (.cmp .eq (.idx (.var 0) (.lit (.int 0))) (.idx (.var 0) (.lit (.int 2)))))) (.cons (.ret (.lit (.bool false))) .nil) (.nil))
    (.cons (.ret (.and (.cmp .in_ (.idx (.var 0) (.lit (.int 1))) (.lit (.str ⟨#[114, 115]⟩))) (.cmp .in_ (.idx (.var 0) (.lit (.int 3))) (.lit (.str ⟨#[114, 115]⟩))))) .nil)))))⟩
def d17 : Df :=
  ⟨"_law_is_pattern", 1, 2, ["_law_matter", "_law_own"], [], true, [],
    (.cons (.ife (.or (.nt (.isi (.var 0) [.tuple])) (.or (.cmp .eq (.var 0) (.tup .nil)) (.cmp .ne (.comp .lst [1] (.nm 1) (.any (.var 0)) (.cons (.nt (.call "_law_is_bond" 16 (.val (.var 1) .nil))) .nil) (.last (.var 1))) (.lst .nil)))) (.cons (.ret (.lit (.bool false))) .nil) (.nil))
    (.cons (.ret (.cmp .eq (.bf .list (.cons (.var 0) .nil)) (.sset .sorted (.var 0)))) .nil))⟩
def d18 : Df :=
  ⟨"_law_is_wish", 1, 2, ["_law_matter", "_law_own"], [], true, [],
    (.cons (.ife (.or (.nt (.isi (.var 0) [.tuple])) (.cmp .ne (.comp .lst [1] (.nm 1) (.any (.var 0)) (.cons (.nt (.call "_law_is_pattern" 17 (.val (.var 1) .nil))) .nil) (.last (.var 1))) (.lst .nil))) (.cons (.ret (.lit (.bool false))) .nil) (.nil))
    (.cons (.ret (.cmp .eq (.bf .list (.cons (.var 0) .nil)) (.sset .sorted (.var 0)))) .nil))⟩
def d19 : Df :=
  ⟨"_law_bent", 3, 6, ["_law_box_here", "_law_matter", "_law_deep_so", "_law_odd", "_law_at_so", "_law_sort_so"], [0], true, [],
    (.cons (.set 3 1 (.lst (.cons (.lit .none) (.cons (.lit (.bool true)) (.cons (.lit (.int 0)) (.cons (.lit (.int 1)) (.cons (.lit (.str ⟨#[]⟩)) (.cons (.lit (.str ⟨#[97]⟩)) (.cons (.lit (.str ⟨#[115]⟩)) (.cons (.lit (.str ⟨#[114]⟩)) (.cons (.lit (.str ⟨#[105]⟩)) (.cons (.lit (.str ⟨#[97, 115]⟩)) (.cons (.lit (.str ⟨#[115, 114]⟩)) (.cons (.tup .nil) (.cons (.lst .nil) (.cons (.tup (.cons (.lit (.str ⟨#[97]⟩)) (.cons (.lit (.str ⟨#[115]⟩)) (.cons (.lit (.str ⟨#[98]⟩)) (.cons (.lit (.str ⟨#[114]⟩)) .nil))))) (.cons (.tup (.cons (.lit (.str ⟨#[97]⟩)) (.cons (.lit (.str ⟨#[115]⟩)) (.cons (.lit (.str ⟨#[97]⟩)) (.cons (.lit (.str ⟨#[114]⟩)) .nil))))) (.cons (.tup (.cons (.tup (.cons (.lit (.str ⟨#[97]⟩)) (.cons (.lit (.str ⟨#[114]⟩)) (.cons (.lit (.str ⟨#[98]⟩)) (.cons (.lit (.str ⟨#[115]⟩)) .nil))))) .nil)) (.cons (.tup (.cons (.lit (.str ⟨#[115]⟩)) (.cons (.lit (.str ⟨#[97]⟩)) (.cons (.lit (.str ⟨#[114]⟩)) (.cons (.lit (.str ⟨#[98]⟩)) .nil))))) .nil)))))))))))))))))))
    (.cons (.ife (.or (.cmp .eq (.var 2) (.lit (.int 0))) (.or (.nt (.isi (.var 1) [.tuple])) (.or (.cmp .eq (.var 1) (.tup .nil)) (.cmp .eq (.call "_law_take" 7 (.ref 0 (.val (.lit (.int 6)) .nil))) (.lit (.int 0)))))) (.cons (.ret (.call "_law_of" 9 (.ref 0 (.val (.var 3) .nil)))) .nil) (.nil))
    (.cons (.par [4, 5] [1, 1] (.cons (.call "_law_take" 7 (.ref 0 (.val (.bf .len (.cons (.var 1) .nil)) .nil))) (.cons (.call "_law_take" 7 (.ref 0 (.val (.lit (.int 8)) .nil))) .nil)))
    (.cons (.ife (.cmp .eq (.var 5) (.lit (.int 0))) (.cons (.ret (.bin .add (.slc (.var 1) .none (.some (.var 4))) (.slc (.var 1) (.some (.bin .add (.var 4) (.lit (.int 1)))) .none))) .nil) (.nil))
    (.cons (.ife (.cmp .eq (.var 5) (.lit (.int 1))) (.cons (.ret (.bin .add (.slc (.var 1) .none (.some (.bin .add (.var 4) (.lit (.int 1))))) (.slc (.var 1) (.some (.var 4)) .none))) .nil) (.nil))
    (.cons (.ife (.cmp .eq (.var 5) (.lit (.int 2))) (.cons (.ret (.bf .list (.cons (.var 1) .nil))) .nil) (.nil))
    (.cons (.ife (.cmp .eq (.var 5) (.lit (.int 3))) (.cons (.ret (.rvs (.var 1))) .nil) (.nil))
    (.cons (.ret (.bin .add (.bin .add (.slc (.var 1) .none (.some (.var 4))) (.tup (.cons (.call "_law_bent" 19 (.ref 0 (.val (.idx (.var 1) (.var 4)) (.val (.bin .sub (.var 2) (.lit (.int 1))) .nil)))) .nil))) (.slc (.var 1) (.some (.bin .add (.var 4) (.lit (.int 1)))) .none))) .nil))))))))⟩
def d20 : Df :=
  ⟨"_law_fan", 2, 5, ["_law_near", "_law_end_so", "_law_others_so", "_law_found", "_law_far"], [], true, [],
    (.cons (.par [2, 3] [1, 1] (.cons (.comp .lst [4] (.nm 4) (.any (.lit (.str ⟨#[97, 98, 99, 100, 101, 102, 103, 104]⟩))) (.cons (.cmp .ne (.var 4) (.var 0)) .nil) (.last (.var 4))) (.cons (.lst .nil) .nil)))
    (.cons (.for_ (.nm 4) (.any (.var 2)) (.cons (.set 3 1 (.bin .add (.var 3) (.lst (.cons (.tup (.cons (.var 0) (.cons (.var 1) (.cons (.var 4) (.cons (.lit (.str ⟨#[114]⟩)) .nil))))) (.cons (.tup (.cons (.var 0) (.cons (.var 1) (.cons (.var 4) (.cons (.lit (.str ⟨#[115]⟩)) .nil))))) .nil))))) .nil))
    (.cons (.retv 3) .nil)))⟩
def d21 : Df :=
  ⟨"_law_by_hand_right", 0, 11, ["_law_own", "_law_odd", "_law_got", "_law_due_so", "_law_order_so", "_law_cross_so", "_law_wide_so", "_law_full_so", "_law_fine", "_law_far", "_law_bit"], [], true, [],
    (.cons (.set 0 1 (.tup (.cons (.lit (.str ⟨#[97]⟩)) (.cons (.lit (.str ⟨#[115]⟩)) (.cons (.lit (.str ⟨#[98]⟩)) (.cons (.lit (.str ⟨#[114]⟩)) .nil))))))
    (.cons (.set 1 1 (.lst (.cons (.tup (.cons (.lit (.str ⟨#[97]⟩)) (.cons (.lit (.str ⟨#[115]⟩)) (.cons (.lit (.str ⟨#[97]⟩)) (.cons (.lit (.str ⟨#[114]⟩)) .nil))))) (.cons (.bf .list (.cons (.var 0) .nil)) (.cons (.slc (.var 0) .none (.some (.lit (.int 3)))) (.cons (.bin .add (.var 0) (.tup (.cons (.lit (.str ⟨#[99]⟩)) .nil))) (.cons (.tup (.cons (.lit (.str ⟨#[97]⟩)) (.cons (.lit (.str ⟨#[115]⟩)) (.cons (.lit (.str ⟨#[105]⟩)) (.cons (.lit (.str ⟨#[114]⟩)) .nil))))) (.cons (.tup (.cons (.lit (.str ⟨#[97]⟩)) (.cons (.lit (.str ⟨#[116]⟩)) (.cons (.lit (.str ⟨#[98]⟩)) (.cons (.lit (.str ⟨#[114]⟩)) .nil))))) (.cons (.tup (.cons (.lit (.str ⟨#[97]⟩)) (.cons (.lit (.str ⟨#[115]⟩)) (.cons (.lit (.str ⟨#[98]⟩)) (.cons (.lit (.str ⟨#[83]⟩)) .nil))))) (.cons (.tup (.cons (.lit (.str ⟨#[65]⟩)) (.cons (.lit (.str ⟨#[115]⟩)) (.cons (.lit (.str ⟨#[98]⟩)) (.cons (.lit (.str ⟨#[114]⟩)) .nil))))) (.cons (.tup (.cons (.lit (.str ⟨#[115]⟩)) (.cons (.lit (.str ⟨#[97]⟩)) (.cons (.lit (.str ⟨#[114]⟩)) (.cons (.lit (.str ⟨#[98]⟩)) .nil))))) .nil)))))))))))
    (.cons (.set 1 1 (.bin .add (.var 1) (.lst (.cons (.tup (.cons (.lit (.str ⟨#[97, 98]⟩)) (.cons (.lit (.str ⟨#[115]⟩)) (.cons (.lit (.str ⟨#[99]⟩)) (.cons (.lit (.str ⟨#[114]⟩)) .nil))))) (.cons (.tup (.cons (.lit (.str ⟨#[97]⟩)) (.cons (.lit (.str ⟨#[115, 114]⟩)) (.cons (.lit (.str ⟨#[98]⟩)) (.cons (.lit (.str ⟨#[114]⟩)) .nil))))) (.cons (.tup (.cons (.lit (.str ⟨#[]⟩)) (.cons (.lit (.str ⟨#[115]⟩)) (.cons (.lit (.str ⟨#[98]⟩)) (.cons (.lit (.str ⟨#[114]⟩)) .nil))))) (.cons (.tup (.cons (.lit (.str ⟨#[97]⟩)) (.cons (.lit (.str ⟨#[]⟩)) (.cons (.lit (.str ⟨#[98]⟩)) (.cons (.lit (.str ⟨#[114]⟩)) .nil))))) (.cons (.tup (.cons (.lit (.int 0)) (.cons (.lit (.str ⟨#[115]⟩)) (.cons (.lit (.str ⟨#[98]⟩)) (.cons (.lit (.str ⟨#[114]⟩)) .nil))))) (.cons (.tup (.cons (.lit (.str ⟨#[97]⟩)) (.cons (.lit .none) (.cons (.lit (.str ⟨#[98]⟩)) (.cons (.lit (.str ⟨#[114]⟩)) .nil))))) (.cons (.tup (.cons (.lit (.str ⟨#[97]⟩)) (.cons (.lit (.str ⟨#[115]⟩)) (.cons (.tup (.cons (.lit (.str ⟨#[98]⟩)) .nil)) (.cons (.lit (.str ⟨#[114]⟩)) .nil))))) .nil))))))))))
    (.cons (.set 1 1 (.bin .add (.var 1) (.lst (.cons (.lit .none) (.cons (.lit (.int 4)) (.cons (.lit (.str ⟨#[97, 115, 98, 114]⟩)) (.cons (.lit (.bool true)) (.cons (.tup .nil) (.cons (.tup (.cons (.lit (.str ⟨#[97]⟩)) (.cons (.lit (.str ⟨#[115]⟩)) (.cons (.lit (.str ⟨#[98]⟩)) (.cons (.lst (.cons (.lit (.str ⟨#[114]⟩)) .nil)) .nil))))) (.cons (.tup (.cons (.var 0) .nil)) (.cons (.bin .mul (.tup (.cons (.lit .none) .nil)) (.lit (.int 4))) (.cons (.mkx "NoName" 0 [] (.cons (.lit (.str ⟨#[97]⟩)) .nil)) (.cons (.tup (.cons (.lit (.str ⟨#[97]⟩)) (.cons (.lit (.str ⟨#[115]⟩)) (.cons (.mkx "NoName" 0 [] (.cons (.lit (.str ⟨#[97]⟩)) .nil)) (.cons (.lit (.str ⟨#[114]⟩)) .nil))))) .nil)))))))))))))
    (.cons (.par [2, 3] [1, 1] (.cons (.lst (.cons (.comp .lst [9] (.nm 9) (.any (.bin .add (.lst (.cons (.var 0) (.cons (.tup (.cons (.lit (.str ⟨#[104]⟩)) (.cons (.lit (.str ⟨#[114]⟩)) (.cons (.lit (.str ⟨#[103]⟩)) (.cons (.lit (.str ⟨#[115]⟩)) .nil))))) (.cons (.bin .add (.slc (.tup (.cons (.lit (.str ⟨#[115]⟩)) (.cons (.lit (.str ⟨#[115]⟩)) (.cons (.lit (.str ⟨#[114]⟩)) (.cons (.lit (.str ⟨#[114]⟩)) .nil))))) .none (.some (.lit (.int 2)))) (.tup (.cons (.lit (.str ⟨#[104]⟩)) (.cons (.lit (.str ⟨#[114]⟩)) .nil)))) .nil)))) (.var 1))) .nil (.last (.call "is_bond" 1 (.val (.var 9) .nil)))) (.cons (.callK "is_bond" 1 ["thing"] (.cons (.var 0) .nil)) .nil))) (.cons (.lst (.cons (.bin .add (.lst (.cons (.lit (.bool true)) (.cons (.lit (.bool true)) (.cons (.lit (.bool false)) .nil)))) (.bin .mul (.lst (.cons (.lit (.bool false)) .nil)) (.bf .len (.cons (.var 1) .nil)))) (.cons (.lit (.bool true)) .nil))) .nil)))
    (.cons (.par [4, 5, 6] [1, 1, 1] (.cons (.tup (.cons (.tup (.cons (.lit (.str ⟨#[97]⟩)) (.cons (.lit (.str ⟨#[115]⟩)) (.cons (.lit (.str ⟨#[98]⟩)) (.cons (.lit (.str ⟨#[115]⟩)) .nil))))) (.cons (.tup (.cons (.lit (.str ⟨#[98]⟩)) (.cons (.lit (.str ⟨#[114]⟩)) (.cons (.lit (.str ⟨#[97]⟩)) (.cons (.lit (.str ⟨#[114]⟩)) .nil))))) .nil))) (.cons (.tup (.cons (.var 0) (.cons (.tup (.cons (.lit (.str ⟨#[98]⟩)) (.cons (.lit (.str ⟨#[115]⟩)) (.cons (.lit (.str ⟨#[97]⟩)) (.cons (.lit (.str ⟨#[114]⟩)) .nil))))) .nil))) (.cons (.bf .tuple (.cons (.bf .sorted (.cons (.bin .add (.call "_law_fan" 20 (.val (.lit (.str ⟨#[97]⟩)) (.val (.lit (.str ⟨#[114]⟩)) .nil))) (.call "_law_fan" 20 (.val (.lit (.str ⟨#[97]⟩)) (.val (.lit (.str ⟨#[115]⟩)) .nil)))) .nil)) .nil)) .nil))))
    (.cons (.set 7 1 (.bf .tuple (.cons (.bf .sorted (.cons (.bin .add (.bin .add (.call "_law_fan" 20 (.val (.lit (.str ⟨#[97]⟩)) (.val (.lit (.str ⟨#[114]⟩)) .nil))) (.call "_law_fan" 20 (.val (.lit (.str ⟨#[98]⟩)) (.val (.lit (.str ⟨#[115]⟩)) .nil)))) (.call "_law_fan" 20 (.val (.lit (.str ⟨#[99]⟩)) (.val (.lit (.str ⟨#[114]⟩)) .nil)))) .nil)) .nil)))
    (.cons (.set 8 1 (.lst (.cons (.var 4) (.cons (.var 5) (.cons (.tup (.cons (.var 0) .nil)) (.cons (.var 6) (.cons (.var 7) (.cons (.slc (.var 6) (.some (.lit (.int 3))) .none) .nil))))))))
    (.cons (.set 1 1 (.lst (.cons (.tup .nil) (.cons (.rvs (.var 4)) (.cons (.tup (.cons (.var 0) (.cons (.var 0) .nil))) (.cons (.bf .list (.cons (.var 4) .nil)) (.cons (.tup (.cons (.bf .list (.cons (.var 0) .nil)) .nil)) (.cons (.tup (.cons (.var 0) (.cons (.lit .none) .nil))) (.cons (.var 0) (.cons (.lit .none) (.cons (.lit (.int 0)) (.cons (.lit (.str ⟨#[112, 97, 116, 116, 101, 114, 110]⟩)) (.cons (.tup (.cons (.tup .nil) .nil)) (.cons (.tup (.cons (.tup (.cons (.var 0) .nil)) .nil)) (.cons (.tup (.cons (.tup (.cons (.lit (.str ⟨#[97]⟩)) (.cons (.lit (.str ⟨#[115]⟩)) (.cons (.lit (.str ⟨#[97]⟩)) (.cons (.lit (.str ⟨#[114]⟩)) .nil))))) .nil)) (.cons (.bin .add (.var 5) (.tup (.cons (.tup (.cons (.lit (.str ⟨#[98]⟩)) (.cons (.lit (.str ⟨#[115]⟩)) (.cons (.lit (.str ⟨#[97]⟩)) (.cons (.lit (.str ⟨#[114]⟩)) .nil))))) .nil))) (.cons (.bin .add (.var 4) (.tup (.cons (.var 0) .nil))) (.cons (.tup (.cons (.mkx "NoName" 0 [] (.cons (.lit (.str ⟨#[97]⟩)) .nil)) .nil)) .nil))))))))))))))))))
    (.cons (.set 2 1 (.bin .add (.var 2) (.lst (.cons (.comp .lst [9] (.nm 9) (.any (.bin .add (.var 8) (.var 1))) .nil (.last (.call "is_pattern" 3 (.val (.var 9) .nil)))) (.cons (.callK "is_pattern" 3 ["thing"] (.cons (.var 4) .nil)) .nil)))))
    (.cons (.set 3 1 (.bin .add (.var 3) (.lst (.cons (.bin .add (.bin .mul (.lst (.cons (.lit (.bool true)) .nil)) (.bf .len (.cons (.var 8) .nil))) (.bin .mul (.lst (.cons (.lit (.bool false)) .nil)) (.bf .len (.cons (.var 1) .nil)))) (.cons (.lit (.bool true)) .nil)))))
    (.cons (.set 8 1 (.lst (.cons (.tup .nil) (.cons (.tup (.cons (.var 4) .nil)) (.cons (.tup (.cons (.var 5) (.cons (.var 4) .nil))) (.cons (.tup (.cons (.var 6) (.cons (.tup (.cons (.var 0) .nil)) (.cons (.var 5) (.cons (.var 4) .nil))))) .nil))))))
    (.cons (.set 8 1 (.bin .add (.var 8) (.lst (.cons (.bf .tuple (.cons (.comp .lst [10] (.nm 10) (.any (.slc (.var 7) .none (.some (.lit (.int 7))))) .nil (.last (.tup (.cons (.var 10) .nil)))) .nil)) (.cons (.bf .tuple (.cons (.comp .lst [10] (.nm 10) (.any (.var 7)) .nil (.last (.tup (.cons (.var 10) .nil)))) .nil)) .nil)))))
    (.cons (.set 1 1 (.lst (.cons (.var 4) (.cons (.tup (.cons (.var 4) (.cons (.var 5) .nil))) (.cons (.tup (.cons (.var 4) (.cons (.var 4) .nil))) (.cons (.lst (.cons (.var 4) .nil)) (.cons (.tup (.cons (.bf .list (.cons (.var 4) .nil)) .nil)) (.cons (.tup (.cons (.tup .nil) .nil)) (.cons (.lit .none) (.cons (.lit (.int 0)) (.cons (.lit (.str ⟨#[]⟩)) (.cons (.lit (.bool true)) (.cons (.tup (.cons (.var 4) (.cons (.lit .none) .nil))) (.cons (.tup (.cons (.tup (.cons (.var 0) (.cons (.var 0) .nil))) .nil)) (.cons (.tup (.cons (.tup (.cons (.tup (.cons (.var 0) .nil)) .nil)) .nil)) (.cons (.tup (.cons (.var 4) (.cons (.mkx "NoName" 0 [] (.cons (.lit (.str ⟨#[97]⟩)) .nil)) .nil))) .nil))))))))))))))))
    (.cons (.set 2 1 (.bin .add (.var 2) (.lst (.cons (.comp .lst [9] (.nm 9) (.any (.bin .add (.var 8) (.var 1))) .nil (.last (.call "is_wish" 4 (.val (.var 9) .nil)))) (.cons (.callK "is_wish" 4 ["thing"] (.cons (.tup .nil) .nil)) .nil)))))
    (.cons (.set 3 1 (.bin .add (.var 3) (.lst (.cons (.bin .add (.bin .mul (.lst (.cons (.lit (.bool true)) .nil)) (.bf .len (.cons (.var 8) .nil))) (.bin .mul (.lst (.cons (.lit (.bool false)) .nil)) (.bf .len (.cons (.var 1) .nil)))) (.cons (.lit (.bool true)) .nil)))))
    (.cons (.set 2 1 (.bin .add (.var 2) (.lst (.cons (.call "names_of" 5 (.val (.var 4) .nil)) (.cons (.call "names_of" 5 (.val (.slc (.var 6) .none (.some (.lit (.int 14)))) .nil)) (.cons (.callK "names_of" 5 ["pattern"] (.cons (.lst (.cons (.lst (.cons (.lit (.str ⟨#[104]⟩)) (.cons (.lit (.str ⟨#[114]⟩)) (.cons (.lit (.str ⟨#[99]⟩)) (.cons (.lit (.str ⟨#[115]⟩)) .nil))))) .nil)) .nil)) (.cons (.call "names_of" 5 (.val (.tup (.cons (.tup (.cons (.lit (.str ⟨#[100]⟩)) (.cons (.lit (.str ⟨#[115]⟩)) (.cons (.lit (.str ⟨#[98]⟩)) (.cons (.lit (.str ⟨#[115]⟩)) .nil))))) (.cons (.tup (.cons (.lit (.str ⟨#[102]⟩)) (.cons (.lit (.str ⟨#[115]⟩)) (.cons (.lit (.str ⟨#[98]⟩)) (.cons (.lit (.str ⟨#[114]⟩)) .nil))))) .nil))) .nil)) .nil)))))))
    (.cons (.ret (.call "_law_same" 11 (.val (.var 2) (.val (.bin .add (.var 3) (.lst (.cons (.tup (.cons (.lit (.str ⟨#[97]⟩)) (.cons (.lit (.str ⟨#[98]⟩)) .nil))) (.cons (.bf .tuple (.cons (.lit (.str ⟨#[97, 98, 99, 100, 101, 102, 103, 104]⟩)) .nil)) (.cons (.tup (.cons (.lit (.str ⟨#[99]⟩)) (.cons (.lit (.str ⟨#[104]⟩)) .nil))) (.cons (.tup (.cons (.lit (.str ⟨#[98]⟩)) (.cons (.lit (.str ⟨#[100]⟩)) (.cons (.lit (.str ⟨#[102]⟩)) .nil)))) .nil)))))) .nil)))) .nil))))))))))))))))))⟩
def d22 : Df :=
  ⟨"_law_right", 1, 9, ["_law_box_here", "_law_turn", "_law_some", "_law_wish_so", "_law_things", "_law_got", "_law_soft_so", "_law_lap", "_law_own"], [0], true, [],
    (.cons (.for_ (.nm 1) (.rng (.cons (.lit (.int 12)) .nil)) (.cons (.set 2 1 (.comp .lst [7] (.nm 7) (.rng (.cons (.bin .add (.lit (.int 1)) (.call "_law_take" 7 (.ref 0 (.val (.lit (.int 3)) .nil)))) .nil)) .nil (.last (.call "_law_pattern" 14 (.ref 0 (.val (.bin .add (.lit (.int 2)) (.call "_law_take" 7 (.ref 0 (.val (.lit (.int 7)) .nil)))) (.val (.lit (.int 6)) .nil)))))))
    (.cons (.set 3 1 (.bf .tuple (.cons (.sset .sorted (.var 2)) .nil)))
    (.cons (.set 4 1 (.lst (.cons (.idx (.var 2) (.lit (.int 0))) (.cons (.idx (.idx (.var 2) (.lit (.int 0))) (.lit (.int 0))) (.cons (.var 3) (.cons (.call "_law_bent" 19 (.ref 0 (.val (.idx (.var 2) (.lit (.int 0))) (.val (.lit (.int 3)) .nil)))) (.cons (.call "_law_bent" 19 (.ref 0 (.val (.var 3) (.val (.lit (.int 4)) .nil)))) (.cons (.call "_law_bent" 19 (.ref 0 (.val (.idx (.idx (.var 2) (.lit (.int 0))) (.lit (.int 0))) (.val (.lit (.int 2)) .nil)))) (.cons (.call "_law_bent" 19 (.ref 0 (.val (.idx (.var 2) (.neg (.lit (.int 1)))) (.val (.lit (.int 2)) .nil)))) .nil)))))))))
    (.cons (.set 5 1 (.comp .lst [8] (.nm 8) (.any (.var 4)) .nil (.last (.lst (.cons (.call "is_bond" 1 (.val (.var 8) .nil)) (.cons (.call "is_pattern" 3 (.val (.var 8) .nil)) (.cons (.call "is_wish" 4 (.val (.var 8) .nil)) .nil)))))))
    (.cons (.ife (.nt (.call "_law_same" 11 (.val (.var 5) (.val (.comp .lst [8] (.nm 8) (.any (.var 4)) .nil (.last (.lst (.cons (.call "_law_is_bond" 16 (.val (.var 8) .nil)) (.cons (.call "_law_is_pattern" 17 (.val (.var 8) .nil)) (.cons (.call "_law_is_wish" 18 (.val (.var 8) .nil)) .nil)))))) .nil)))) (.cons (.ret (.lit (.bool false))) .nil) (.nil))
    (.cons (.set 6 1 (.call "_law_lists" 10 (.val (.idx (.var 2) (.lit (.int 0))) .nil)))
    (.cons (.ife (.nt (.call "_law_same" 11 (.val (.lst (.cons (.call "names_of" 5 (.val (.idx (.var 2) (.lit (.int 0))) .nil)) (.cons (.call "names_of" 5 (.val (.var 6) .nil)) (.cons (.var 6) .nil)))) (.val (.bin .add (.bin .mul (.lst (.cons (.call "_law_pat_names" 15 (.val (.idx (.var 2) (.lit (.int 0))) .nil)) .nil)) (.lit (.int 2))) (.lst (.cons (.call "_law_lists" 10 (.val (.idx (.var 2) (.lit (.int 0))) .nil)) .nil))) .nil)))) (.cons (.ret (.lit (.bool false))) .nil) (.nil)) .nil))))))))
    (.cons (.ret (.lit (.bool true))) .nil))⟩
def d23 : Df :=
  ⟨"law", 1, 3, ["_law_script", "_law_cells_here", "_law_k"], [], true, [],
    (.cons (.ife (.nt (.call "_law_by_hand_right" 21 .nil)) (.cons (.ret (.lit (.bool false))) .nil) (.nil))
    (.cons (.set 1 1 (.call "_law_cells" 8 (.val (.var 0) (.val (.lit (.int 3)) .nil))))
    (.cons (.ret (.bf .all (.cons (.comp .lst [2] (.nm 2) (.rng (.cons (.bf .len (.cons (.var 1) .nil)) .nil)) .nil (.last (.call "_law_right" 22 (.own (.call "_law_box" 6 (.val (.var 1) (.val (.var 2) .nil))) .nil)))) .nil))) .nil)))⟩
def P : Prog := ⟨[d0, d1, d2, d3, d4, d5, d6, d7, d8, d9, d10, d11, d12, d13, d14, d15, d16, d17, d18, d19, d20, d21, d22, d23],
  [⟨"NoName", .lookup, ["name"], 36⟩],
  [⟨"NAMES", (.tuple [(.str ⟨#[97]⟩), (.str ⟨#[98]⟩), (.str ⟨#[99]⟩), (.str ⟨#[100]⟩), (.str ⟨#[101]⟩), (.str ⟨#[102]⟩), (.str ⟨#[103]⟩), (.str ⟨#[104]⟩)])⟩, ⟨"ENDS", (.tuple [(.str ⟨#[115]⟩), (.str ⟨#[114]⟩)])⟩]⟩

def stm (i : Nat) : Stmt := PySem.Challenge.pw_barredcrossings_k01_bonds_patterns_wishe.main.body.getD i (.Pass ⟨0, 0, 0, 0⟩)
theorem sc0 : FnScope d0.names (d0.names.take d0.np) (defScope (stm 1)) := ⟨rfl, rfl, rfl, by decide +kernel, rfl, by decide +kernel, by decide +kernel⟩
theorem ms0 : mSs P d0.body ⟨d0.names, defScope (stm 1), fun _ => true⟩ d0.refs (defBody (stm 1)) = true := by kernel_rfl
theorem bi0 (kV doc pm : Value) (an : Option Addr) (cdv ct : Value) (us : List Value) (hl : us.length = (d0.names.take d0.np).length) : bindArgs (PySem.W.fnOf d0.name d0.name (defArgs (stm 1)) (defBody (stm 1)) (defScope (stm 1)) .none kV doc pm an cdv ct) ⟨us, []⟩ = pure ((d0.names.take d0.np).zip us) := match us, hl with | [_], _ => rfl
theorem kw0 : ∀ ks ∈ d0.kws, ∀ (kV doc pm : Value) (an : Option Addr) (cdv ct : Value) (ws us : List Value), ordL (d0.names.take d0.np) ks ws = some us → bindArgs (PySem.W.fnOf d0.name d0.name (defArgs (stm 1)) (defBody (stm 1)) (defScope (stm 1)) .none kV doc pm an cdv ct) ⟨[], ks.zip ws⟩ = pure ((d0.names.take d0.np).zip us) := fun _ h => absurd h List.not_mem_nil
theorem sc1 : FnScope d1.names (d1.names.take d1.np) (defScope (stm 7)) := ⟨rfl, rfl, rfl, by decide +kernel, rfl, by decide +kernel, by decide +kernel⟩
theorem ms1 : mSs P d1.body ⟨d1.names, defScope (stm 7), fun _ => true⟩ d1.refs (defBody (stm 7)) = true := by kernel_rfl
theorem bi1 (kV doc pm : Value) (an : Option Addr) (cdv ct : Value) (us : List Value) (hl : us.length = (d1.names.take d1.np).length) : bindArgs (PySem.W.fnOf d1.name d1.name (defArgs (stm 7)) (defBody (stm 7)) (defScope (stm 7)) .none kV doc pm an cdv ct) ⟨us, []⟩ = pure ((d1.names.take d1.np).zip us) := match us, hl with | [_], _ => rfl
theorem kw1 : ∀ ks ∈ d1.kws, ∀ (kV doc pm : Value) (an : Option Addr) (cdv ct : Value) (ws us : List Value), ordL (d1.names.take d1.np) ks ws = some us → bindArgs (PySem.W.fnOf d1.name d1.name (defArgs (stm 7)) (defBody (stm 7)) (defScope (stm 7)) .none kV doc pm an cdv ct) ⟨[], ks.zip ws⟩ = pure ((d1.names.take d1.np).zip us) := by
  intro ks hks kV doc pm an cdv ct ws us h
  simp only [d1, List.mem_cons, List.not_mem_nil, or_false] at hks
  rcases hks with rfl
  · match ws, h with
    | [], h => exact absurd (show none = some us from h) (by simp)
    | w0 :: _, h =>
      cases (show some [w0] = some us from h)
      rfl
theorem sc2 : FnScope d2.names (d2.names.take d2.np) (defScope (stm 8)) := ⟨rfl, rfl, rfl, by decide +kernel, rfl, by decide +kernel, by decide +kernel⟩
theorem ms2 : mSs P d2.body ⟨d2.names, defScope (stm 8), fun _ => true⟩ d2.refs (defBody (stm 8)) = true := by kernel_rfl
theorem bi2 (kV doc pm : Value) (an : Option Addr) (cdv ct : Value) (us : List Value) (hl : us.length = (d2.names.take d2.np).length) : bindArgs (PySem.W.fnOf d2.name d2.name (defArgs (stm 8)) (defBody (stm 8)) (defScope (stm 8)) .none kV doc pm an cdv ct) ⟨us, []⟩ = pure ((d2.names.take d2.np).zip us) := match us, hl with | [_], _ => rfl
theorem kw2 : ∀ ks ∈ d2.kws, ∀ (kV doc pm : Value) (an : Option Addr) (cdv ct : Value) (ws us : List Value), ordL (d2.names.take d2.np) ks ws = some us → bindArgs (PySem.W.fnOf d2.name d2.name (defArgs (stm 8)) (defBody (stm 8)) (defScope (stm 8)) .none kV doc pm an cdv ct) ⟨[], ks.zip ws⟩ = pure ((d2.names.take d2.np).zip us) := fun _ h => absurd h List.not_mem_nil
theorem sc3 : FnScope d3.names (d3.names.take d3.np) (defScope (stm 9)) := ⟨rfl, rfl, rfl, by decide +kernel, rfl, by decide +kernel, by decide +kernel⟩
theorem ms3 : mSs P d3.body ⟨d3.names, defScope (stm 9), fun _ => true⟩ d3.refs (defBody (stm 9)) = true := by kernel_rfl
theorem bi3 (kV doc pm : Value) (an : Option Addr) (cdv ct : Value) (us : List Value) (hl : us.length = (d3.names.take d3.np).length) : bindArgs (PySem.W.fnOf d3.name d3.name (defArgs (stm 9)) (defBody (stm 9)) (defScope (stm 9)) .none kV doc pm an cdv ct) ⟨us, []⟩ = pure ((d3.names.take d3.np).zip us) := match us, hl with | [_], _ => rfl
theorem kw3 : ∀ ks ∈ d3.kws, ∀ (kV doc pm : Value) (an : Option Addr) (cdv ct : Value) (ws us : List Value), ordL (d3.names.take d3.np) ks ws = some us → bindArgs (PySem.W.fnOf d3.name d3.name (defArgs (stm 9)) (defBody (stm 9)) (defScope (stm 9)) .none kV doc pm an cdv ct) ⟨[], ks.zip ws⟩ = pure ((d3.names.take d3.np).zip us) := by
  intro ks hks kV doc pm an cdv ct ws us h
  simp only [d3, List.mem_cons, List.not_mem_nil, or_false] at hks
  rcases hks with rfl
  · match ws, h with
    | [], h => exact absurd (show none = some us from h) (by simp)
    | w0 :: _, h =>
      cases (show some [w0] = some us from h)
      rfl
theorem sc4 : FnScope d4.names (d4.names.take d4.np) (defScope (stm 10)) := ⟨rfl, rfl, rfl, by decide +kernel, rfl, by decide +kernel, by decide +kernel⟩
theorem ms4 : mSs P d4.body ⟨d4.names, defScope (stm 10), fun _ => true⟩ d4.refs (defBody (stm 10)) = true := by kernel_rfl
theorem bi4 (kV doc pm : Value) (an : Option Addr) (cdv ct : Value) (us : List Value) (hl : us.length = (d4.names.take d4.np).length) : bindArgs (PySem.W.fnOf d4.name d4.name (defArgs (stm 10)) (defBody (stm 10)) (defScope (stm 10)) .none kV doc pm an cdv ct) ⟨us, []⟩ = pure ((d4.names.take d4.np).zip us) := match us, hl with | [_], _ => rfl
theorem kw4 : ∀ ks ∈ d4.kws, ∀ (kV doc pm : Value) (an : Option Addr) (cdv ct : Value) (ws us : List Value), ordL (d4.names.take d4.np) ks ws = some us → bindArgs (PySem.W.fnOf d4.name d4.name (defArgs (stm 10)) (defBody (stm 10)) (defScope (stm 10)) .none kV doc pm an cdv ct) ⟨[], ks.zip ws⟩ = pure ((d4.names.take d4.np).zip us) := by
  intro ks hks kV doc pm an cdv ct ws us h
  simp only [d4, List.mem_cons, List.not_mem_nil, or_false] at hks
  rcases hks with rfl
  · match ws, h with
    | [], h => exact absurd (show none = some us from h) (by simp)
    | w0 :: _, h =>
      cases (show some [w0] = some us from h)
      rfl
theorem sc5 : FnScope d5.names (d5.names.take d5.np) (defScope (stm 11)) := ⟨rfl, rfl, rfl, by decide +kernel, rfl, by decide +kernel, by decide +kernel⟩
theorem ms5 : mSs P d5.body ⟨d5.names, defScope (stm 11), fun _ => true⟩ d5.refs (defBody (stm 11)) = true := by kernel_rfl
theorem bi5 (kV doc pm : Value) (an : Option Addr) (cdv ct : Value) (us : List Value) (hl : us.length = (d5.names.take d5.np).length) : bindArgs (PySem.W.fnOf d5.name d5.name (defArgs (stm 11)) (defBody (stm 11)) (defScope (stm 11)) .none kV doc pm an cdv ct) ⟨us, []⟩ = pure ((d5.names.take d5.np).zip us) := match us, hl with | [_], _ => rfl
theorem kw5 : ∀ ks ∈ d5.kws, ∀ (kV doc pm : Value) (an : Option Addr) (cdv ct : Value) (ws us : List Value), ordL (d5.names.take d5.np) ks ws = some us → bindArgs (PySem.W.fnOf d5.name d5.name (defArgs (stm 11)) (defBody (stm 11)) (defScope (stm 11)) .none kV doc pm an cdv ct) ⟨[], ks.zip ws⟩ = pure ((d5.names.take d5.np).zip us) := by
  intro ks hks kV doc pm an cdv ct ws us h
  simp only [d5, List.mem_cons, List.not_mem_nil, or_false] at hks
  rcases hks with rfl
  · match ws, h with
    | [], h => exact absurd (show none = some us from h) (by simp)
    | w0 :: _, h =>
      cases (show some [w0] = some us from h)
      rfl
theorem sc6 : FnScope d6.names (d6.names.take d6.np) (defScope (stm 13)) := ⟨rfl, rfl, rfl, by decide +kernel, rfl, by decide +kernel, by decide +kernel⟩
theorem ms6 : mSs P d6.body ⟨d6.names, defScope (stm 13), fun _ => true⟩ d6.refs (defBody (stm 13)) = true := by kernel_rfl
theorem bi6 (kV doc pm : Value) (an : Option Addr) (cdv ct : Value) (us : List Value) (hl : us.length = (d6.names.take d6.np).length) : bindArgs (PySem.W.fnOf d6.name d6.name (defArgs (stm 13)) (defBody (stm 13)) (defScope (stm 13)) .none kV doc pm an cdv ct) ⟨us, []⟩ = pure ((d6.names.take d6.np).zip us) := match us, hl with | [_, _], _ => rfl
theorem kw6 : ∀ ks ∈ d6.kws, ∀ (kV doc pm : Value) (an : Option Addr) (cdv ct : Value) (ws us : List Value), ordL (d6.names.take d6.np) ks ws = some us → bindArgs (PySem.W.fnOf d6.name d6.name (defArgs (stm 13)) (defBody (stm 13)) (defScope (stm 13)) .none kV doc pm an cdv ct) ⟨[], ks.zip ws⟩ = pure ((d6.names.take d6.np).zip us) := fun _ h => absurd h List.not_mem_nil
theorem sc7 : FnScope d7.names (d7.names.take d7.np) (defScope (stm 14)) := ⟨rfl, rfl, rfl, by decide +kernel, rfl, by decide +kernel, by decide +kernel⟩
theorem ms7 : mSs P d7.body ⟨d7.names, defScope (stm 14), fun _ => true⟩ d7.refs (defBody (stm 14)) = true := by kernel_rfl
theorem bi7 (kV doc pm : Value) (an : Option Addr) (cdv ct : Value) (us : List Value) (hl : us.length = (d7.names.take d7.np).length) : bindArgs (PySem.W.fnOf d7.name d7.name (defArgs (stm 14)) (defBody (stm 14)) (defScope (stm 14)) .none kV doc pm an cdv ct) ⟨us, []⟩ = pure ((d7.names.take d7.np).zip us) := match us, hl with | [_, _], _ => rfl
theorem kw7 : ∀ ks ∈ d7.kws, ∀ (kV doc pm : Value) (an : Option Addr) (cdv ct : Value) (ws us : List Value), ordL (d7.names.take d7.np) ks ws = some us → bindArgs (PySem.W.fnOf d7.name d7.name (defArgs (stm 14)) (defBody (stm 14)) (defScope (stm 14)) .none kV doc pm an cdv ct) ⟨[], ks.zip ws⟩ = pure ((d7.names.take d7.np).zip us) := fun _ h => absurd h List.not_mem_nil
theorem sc8 : FnScope d8.names (d8.names.take d8.np) (defScope (stm 15)) := ⟨rfl, rfl, rfl, by decide +kernel, rfl, by decide +kernel, by decide +kernel⟩
theorem ms8 : mSs P d8.body ⟨d8.names, defScope (stm 15), fun _ => true⟩ d8.refs (defBody (stm 15)) = true := by kernel_rfl
theorem bi8 (kV doc pm : Value) (an : Option Addr) (cdv ct : Value) (us : List Value) (hl : us.length = (d8.names.take d8.np).length) : bindArgs (PySem.W.fnOf d8.name d8.name (defArgs (stm 15)) (defBody (stm 15)) (defScope (stm 15)) .none kV doc pm an cdv ct) ⟨us, []⟩ = pure ((d8.names.take d8.np).zip us) := match us, hl with | [_, _], _ => rfl
theorem kw8 : ∀ ks ∈ d8.kws, ∀ (kV doc pm : Value) (an : Option Addr) (cdv ct : Value) (ws us : List Value), ordL (d8.names.take d8.np) ks ws = some us → bindArgs (PySem.W.fnOf d8.name d8.name (defArgs (stm 15)) (defBody (stm 15)) (defScope (stm 15)) .none kV doc pm an cdv ct) ⟨[], ks.zip ws⟩ = pure ((d8.names.take d8.np).zip us) := fun _ h => absurd h List.not_mem_nil
theorem sc9 : FnScope d9.names (d9.names.take d9.np) (defScope (stm 16)) := ⟨rfl, rfl, rfl, by decide +kernel, rfl, by decide +kernel, by decide +kernel⟩
theorem ms9 : mSs P d9.body ⟨d9.names, defScope (stm 16), fun _ => true⟩ d9.refs (defBody (stm 16)) = true := by kernel_rfl
theorem bi9 (kV doc pm : Value) (an : Option Addr) (cdv ct : Value) (us : List Value) (hl : us.length = (d9.names.take d9.np).length) : bindArgs (PySem.W.fnOf d9.name d9.name (defArgs (stm 16)) (defBody (stm 16)) (defScope (stm 16)) .none kV doc pm an cdv ct) ⟨us, []⟩ = pure ((d9.names.take d9.np).zip us) := match us, hl with | [_, _], _ => rfl
theorem kw9 : ∀ ks ∈ d9.kws, ∀ (kV doc pm : Value) (an : Option Addr) (cdv ct : Value) (ws us : List Value), ordL (d9.names.take d9.np) ks ws = some us → bindArgs (PySem.W.fnOf d9.name d9.name (defArgs (stm 16)) (defBody (stm 16)) (defScope (stm 16)) .none kV doc pm an cdv ct) ⟨[], ks.zip ws⟩ = pure ((d9.names.take d9.np).zip us) := fun _ h => absurd h List.not_mem_nil
theorem sc10 : FnScope d10.names (d10.names.take d10.np) (defScope (stm 17)) := ⟨rfl, rfl, rfl, by decide +kernel, rfl, by decide +kernel, by decide +kernel⟩
theorem ms10 : mSs P d10.body ⟨d10.names, defScope (stm 17), fun _ => true⟩ d10.refs (defBody (stm 17)) = true := by kernel_rfl
theorem bi10 (kV doc pm : Value) (an : Option Addr) (cdv ct : Value) (us : List Value) (hl : us.length = (d10.names.take d10.np).length) : bindArgs (PySem.W.fnOf d10.name d10.name (defArgs (stm 17)) (defBody (stm 17)) (defScope (stm 17)) .none kV doc pm an cdv ct) ⟨us, []⟩ = pure ((d10.names.take d10.np).zip us) := match us, hl with | [_], _ => rfl
theorem kw10 : ∀ ks ∈ d10.kws, ∀ (kV doc pm : Value) (an : Option Addr) (cdv ct : Value) (ws us : List Value), ordL (d10.names.take d10.np) ks ws = some us → bindArgs (PySem.W.fnOf d10.name d10.name (defArgs (stm 17)) (defBody (stm 17)) (defScope (stm 17)) .none kV doc pm an cdv ct) ⟨[], ks.zip ws⟩ = pure ((d10.names.take d10.np).zip us) := fun _ h => absurd h List.not_mem_nil
theorem sc11 : FnScope d11.names (d11.names.take d11.np) (defScope (stm 18)) := ⟨rfl, rfl, rfl, by decide +kernel, rfl, by decide +kernel, by decide +kernel⟩
theorem ms11 : mSs P d11.body ⟨d11.names, defScope (stm 18), fun _ => true⟩ d11.refs (defBody (stm 18)) = true := by kernel_rfl
theorem bi11 (kV doc pm : Value) (an : Option Addr) (cdv ct : Value) (us : List Value) (hl : us.length = (d11.names.take d11.np).length) : bindArgs (PySem.W.fnOf d11.name d11.name (defArgs (stm 18)) (defBody (stm 18)) (defScope (stm 18)) .none kV doc pm an cdv ct) ⟨us, []⟩ = pure ((d11.names.take d11.np).zip us) := match us, hl with | [_, _], _ => rfl
theorem kw11 : ∀ ks ∈ d11.kws, ∀ (kV doc pm : Value) (an : Option Addr) (cdv ct : Value) (ws us : List Value), ordL (d11.names.take d11.np) ks ws = some us → bindArgs (PySem.W.fnOf d11.name d11.name (defArgs (stm 18)) (defBody (stm 18)) (defScope (stm 18)) .none kV doc pm an cdv ct) ⟨[], ks.zip ws⟩ = pure ((d11.names.take d11.np).zip us) := fun _ h => absurd h List.not_mem_nil
theorem sc12 : FnScope d12.names (d12.names.take d12.np) (defScope (stm 19)) := ⟨rfl, rfl, rfl, by decide +kernel, rfl, by decide +kernel, by decide +kernel⟩
theorem ms12 : mSs P d12.body ⟨d12.names, defScope (stm 19), fun _ => true⟩ d12.refs (defBody (stm 19)) = true := by kernel_rfl
theorem bi12 (kV doc pm : Value) (an : Option Addr) (cdv ct : Value) (us : List Value) (hl : us.length = (d12.names.take d12.np).length) : bindArgs (PySem.W.fnOf d12.name d12.name (defArgs (stm 19)) (defBody (stm 19)) (defScope (stm 19)) .none kV doc pm an cdv ct) ⟨us, []⟩ = pure ((d12.names.take d12.np).zip us) := match us, hl with | [_, _], _ => rfl
theorem kw12 : ∀ ks ∈ d12.kws, ∀ (kV doc pm : Value) (an : Option Addr) (cdv ct : Value) (ws us : List Value), ordL (d12.names.take d12.np) ks ws = some us → bindArgs (PySem.W.fnOf d12.name d12.name (defArgs (stm 19)) (defBody (stm 19)) (defScope (stm 19)) .none kV doc pm an cdv ct) ⟨[], ks.zip ws⟩ = pure ((d12.names.take d12.np).zip us) := fun _ h => absurd h List.not_mem_nil
theorem sc13 : FnScope d13.names (d13.names.take d13.np) (defScope (stm 20)) := ⟨rfl, rfl, rfl, by decide +kernel, rfl, by decide +kernel, by decide +kernel⟩
theorem ms13 : mSs P d13.body ⟨d13.names, defScope (stm 20), fun _ => true⟩ d13.refs (defBody (stm 20)) = true := by kernel_rfl
theorem bi13 (kV doc pm : Value) (an : Option Addr) (cdv ct : Value) (us : List Value) (hl : us.length = (d13.names.take d13.np).length) : bindArgs (PySem.W.fnOf d13.name d13.name (defArgs (stm 20)) (defBody (stm 20)) (defScope (stm 20)) .none kV doc pm an cdv ct) ⟨us, []⟩ = pure ((d13.names.take d13.np).zip us) := match us, hl with | [_, _], _ => rfl
theorem kw13 : ∀ ks ∈ d13.kws, ∀ (kV doc pm : Value) (an : Option Addr) (cdv ct : Value) (ws us : List Value), ordL (d13.names.take d13.np) ks ws = some us → bindArgs (PySem.W.fnOf d13.name d13.name (defArgs (stm 20)) (defBody (stm 20)) (defScope (stm 20)) .none kV doc pm an cdv ct) ⟨[], ks.zip ws⟩ = pure ((d13.names.take d13.np).zip us) := fun _ h => absurd h List.not_mem_nil
theorem sc14 : FnScope d14.names (d14.names.take d14.np) (defScope (stm 21)) := ⟨rfl, rfl, rfl, by decide +kernel, rfl, by decide +kernel, by decide +kernel⟩
theorem ms14 : mSs P d14.body ⟨d14.names, defScope (stm 21), fun _ => true⟩ d14.refs (defBody (stm 21)) = true := by kernel_rfl
theorem bi14 (kV doc pm : Value) (an : Option Addr) (cdv ct : Value) (us : List Value) (hl : us.length = (d14.names.take d14.np).length) : bindArgs (PySem.W.fnOf d14.name d14.name (defArgs (stm 21)) (defBody (stm 21)) (defScope (stm 21)) .none kV doc pm an cdv ct) ⟨us, []⟩ = pure ((d14.names.take d14.np).zip us) := match us, hl with | [_, _, _], _ => rfl
theorem kw14 : ∀ ks ∈ d14.kws, ∀ (kV doc pm : Value) (an : Option Addr) (cdv ct : Value) (ws us : List Value), ordL (d14.names.take d14.np) ks ws = some us → bindArgs (PySem.W.fnOf d14.name d14.name (defArgs (stm 21)) (defBody (stm 21)) (defScope (stm 21)) .none kV doc pm an cdv ct) ⟨[], ks.zip ws⟩ = pure ((d14.names.take d14.np).zip us) := fun _ h => absurd h List.not_mem_nil
theorem sc15 : FnScope d15.names (d15.names.take d15.np) (defScope (stm 22)) := ⟨rfl, rfl, rfl, by decide +kernel, rfl, by decide +kernel, by decide +kernel⟩
theorem ms15 : mSs P d15.body ⟨d15.names, defScope (stm 22), fun _ => true⟩ d15.refs (defBody (stm 22)) = true := by kernel_rfl
theorem bi15 (kV doc pm : Value) (an : Option Addr) (cdv ct : Value) (us : List Value) (hl : us.length = (d15.names.take d15.np).length) : bindArgs (PySem.W.fnOf d15.name d15.name (defArgs (stm 22)) (defBody (stm 22)) (defScope (stm 22)) .none kV doc pm an cdv ct) ⟨us, []⟩ = pure ((d15.names.take d15.np).zip us) := match us, hl with | [_], _ => rfl
theorem kw15 : ∀ ks ∈ d15.kws, ∀ (kV doc pm : Value) (an : Option Addr) (cdv ct : Value) (ws us : List Value), ordL (d15.names.take d15.np) ks ws = some us → bindArgs (PySem.W.fnOf d15.name d15.name (defArgs (stm 22)) (defBody (stm 22)) (defScope (stm 22)) .none kV doc pm an cdv ct) ⟨[], ks.zip ws⟩ = pure ((d15.names.take d15.np).zip us) := fun _ h => absurd h List.not_mem_nil
theorem sc16 : FnScope d16.names (d16.names.take d16.np) (defScope (stm 23)) := ⟨rfl, rfl, rfl, by decide +kernel, rfl, by decide +kernel, by decide +kernel⟩
theorem ms16 : mSs P d16.body ⟨d16.names, defScope (stm 23), fun _ => true⟩ d16.refs (defBody (stm 23)) = true := by kernel_rfl
theorem bi16 (kV doc pm : Value) (an : Option Addr) (cdv ct : Value) (us : List Value) (hl : us.length = (d16.names.take d16.np).length) : bindArgs (PySem.W.fnOf d16.name d16.name (defArgs (stm 23)) (defBody (stm 23)) (defScope (stm 23)) .none kV doc pm an cdv ct) ⟨us, []⟩ = pure ((d16.names.take d16.np).zip us) := match us, hl with | [_], _ => rfl
theorem kw16 : ∀ ks ∈ d16.kws, ∀ (kV doc pm : Value) (an : Option Addr) (cdv ct : Value) (ws us : List Value), ordL (d16.names.take d16.np) ks ws = some us → bindArgs (PySem.W.fnOf d16.name d16.name (defArgs (stm 23)) (defBody (stm 23)) (defScope (stm 23)) .none kV doc pm an cdv ct) ⟨[], ks.zip ws⟩ = pure ((d16.names.take d16.np).zip us) := fun _ h => absurd h List.not_mem_nil
theorem sc17 : FnScope d17.names (d17.names.take d17.np) (defScope (stm 24)) := ⟨rfl, rfl, rfl, by decide +kernel, rfl, by decide +kernel, by decide +kernel⟩
theorem ms17 : mSs P d17.body ⟨d17.names, defScope (stm 24), fun _ => true⟩ d17.refs (defBody (stm 24)) = true := by kernel_rfl
theorem bi17 (kV doc pm : Value) (an : Option Addr) (cdv ct : Value) (us : List Value) (hl : us.length = (d17.names.take d17.np).length) : bindArgs (PySem.W.fnOf d17.name d17.name (defArgs (stm 24)) (defBody (stm 24)) (defScope (stm 24)) .none kV doc pm an cdv ct) ⟨us, []⟩ = pure ((d17.names.take d17.np).zip us) := match us, hl with | [_], _ => rfl
theorem kw17 : ∀ ks ∈ d17.kws, ∀ (kV doc pm : Value) (an : Option Addr) (cdv ct : Value) (ws us : List Value), ordL (d17.names.take d17.np) ks ws = some us → bindArgs (PySem.W.fnOf d17.name d17.name (defArgs (stm 24)) (defBody (stm 24)) (defScope (stm 24)) .none kV doc pm an cdv ct) ⟨[], ks.zip ws⟩ = pure ((d17.names.take d17.np).zip us) := fun _ h => absurd h List.not_mem_nil
theorem sc18 : FnScope d18.names (d18.names.take d18.np) (defScope (stm 25)) := ⟨rfl, rfl, rfl, by decide +kernel, rfl, by decide +kernel, by decide +kernel⟩
theorem ms18 : mSs P d18.body ⟨d18.names, defScope (stm 25), fun _ => true⟩ d18.refs (defBody (stm 25)) = true := by kernel_rfl
theorem bi18 (kV doc pm : Value) (an : Option Addr) (cdv ct : Value) (us : List Value) (hl : us.length = (d18.names.take d18.np).length) : bindArgs (PySem.W.fnOf d18.name d18.name (defArgs (stm 25)) (defBody (stm 25)) (defScope (stm 25)) .none kV doc pm an cdv ct) ⟨us, []⟩ = pure ((d18.names.take d18.np).zip us) := match us, hl with | [_], _ => rfl
theorem kw18 : ∀ ks ∈ d18.kws, ∀ (kV doc pm : Value) (an : Option Addr) (cdv ct : Value) (ws us : List Value), ordL (d18.names.take d18.np) ks ws = some us → bindArgs (PySem.W.fnOf d18.name d18.name (defArgs (stm 25)) (defBody (stm 25)) (defScope (stm 25)) .none kV doc pm an cdv ct) ⟨[], ks.zip ws⟩ = pure ((d18.names.take d18.np).zip us) := fun _ h => absurd h List.not_mem_nil
theorem sc19 : FnScope d19.names (d19.names.take d19.np) (defScope (stm 26)) := ⟨rfl, rfl, rfl, by decide +kernel, rfl, by decide +kernel, by decide +kernel⟩
theorem ms19 : mSs P d19.body ⟨d19.names, defScope (stm 26), fun _ => true⟩ d19.refs (defBody (stm 26)) = true := by kernel_rfl
theorem bi19 (kV doc pm : Value) (an : Option Addr) (cdv ct : Value) (us : List Value) (hl : us.length = (d19.names.take d19.np).length) : bindArgs (PySem.W.fnOf d19.name d19.name (defArgs (stm 26)) (defBody (stm 26)) (defScope (stm 26)) .none kV doc pm an cdv ct) ⟨us, []⟩ = pure ((d19.names.take d19.np).zip us) := match us, hl with | [_, _, _], _ => rfl
theorem kw19 : ∀ ks ∈ d19.kws, ∀ (kV doc pm : Value) (an : Option Addr) (cdv ct : Value) (ws us : List Value), ordL (d19.names.take d19.np) ks ws = some us → bindArgs (PySem.W.fnOf d19.name d19.name (defArgs (stm 26)) (defBody (stm 26)) (defScope (stm 26)) .none kV doc pm an cdv ct) ⟨[], ks.zip ws⟩ = pure ((d19.names.take d19.np).zip us) := fun _ h => absurd h List.not_mem_nil
theorem sc20 : FnScope d20.names (d20.names.take d20.np) (defScope (stm 27)) := ⟨rfl, rfl, rfl, by decide +kernel, rfl, by decide +kernel, by decide +kernel⟩
theorem ms20 : mSs P d20.body ⟨d20.names, defScope (stm 27), fun _ => true⟩ d20.refs (defBody (stm 27)) = true := by kernel_rfl
theorem bi20 (kV doc pm : Value) (an : Option Addr) (cdv ct : Value) (us : List Value) (hl : us.length = (d20.names.take d20.np).length) : bindArgs (PySem.W.fnOf d20.name d20.name (defArgs (stm 27)) (defBody (stm 27)) (defScope (stm 27)) .none kV doc pm an cdv ct) ⟨us, []⟩ = pure ((d20.names.take d20.np).zip us) := match us, hl with | [_, _], _ => rfl
theorem kw20 : ∀ ks ∈ d20.kws, ∀ (kV doc pm : Value) (an : Option Addr) (cdv ct : Value) (ws us : List Value), ordL (d20.names.take d20.np) ks ws = some us → bindArgs (PySem.W.fnOf d20.name d20.name (defArgs (stm 27)) (defBody (stm 27)) (defScope (stm 27)) .none kV doc pm an cdv ct) ⟨[], ks.zip ws⟩ = pure ((d20.names.take d20.np).zip us) := fun _ h => absurd h List.not_mem_nil
theorem sc21 : FnScope d21.names (d21.names.take d21.np) (defScope (stm 28)) := ⟨rfl, rfl, rfl, by decide +kernel, rfl, by decide +kernel, by decide +kernel⟩
theorem ms21 : mSs P d21.body ⟨d21.names, defScope (stm 28), fun _ => true⟩ d21.refs (defBody (stm 28)) = true := by kernel_rfl
theorem bi21 (kV doc pm : Value) (an : Option Addr) (cdv ct : Value) (us : List Value) (hl : us.length = (d21.names.take d21.np).length) : bindArgs (PySem.W.fnOf d21.name d21.name (defArgs (stm 28)) (defBody (stm 28)) (defScope (stm 28)) .none kV doc pm an cdv ct) ⟨us, []⟩ = pure ((d21.names.take d21.np).zip us) := match us, hl with | [], _ => rfl
theorem kw21 : ∀ ks ∈ d21.kws, ∀ (kV doc pm : Value) (an : Option Addr) (cdv ct : Value) (ws us : List Value), ordL (d21.names.take d21.np) ks ws = some us → bindArgs (PySem.W.fnOf d21.name d21.name (defArgs (stm 28)) (defBody (stm 28)) (defScope (stm 28)) .none kV doc pm an cdv ct) ⟨[], ks.zip ws⟩ = pure ((d21.names.take d21.np).zip us) := fun _ h => absurd h List.not_mem_nil
theorem sc22 : FnScope d22.names (d22.names.take d22.np) (defScope (stm 29)) := ⟨rfl, rfl, rfl, by decide +kernel, rfl, by decide +kernel, by decide +kernel⟩
theorem ms22 : mSs P d22.body ⟨d22.names, defScope (stm 29), fun _ => true⟩ d22.refs (defBody (stm 29)) = true := by kernel_rfl
theorem bi22 (kV doc pm : Value) (an : Option Addr) (cdv ct : Value) (us : List Value) (hl : us.length = (d22.names.take d22.np).length) : bindArgs (PySem.W.fnOf d22.name d22.name (defArgs (stm 29)) (defBody (stm 29)) (defScope (stm 29)) .none kV doc pm an cdv ct) ⟨us, []⟩ = pure ((d22.names.take d22.np).zip us) := match us, hl with | [_], _ => rfl
theorem kw22 : ∀ ks ∈ d22.kws, ∀ (kV doc pm : Value) (an : Option Addr) (cdv ct : Value) (ws us : List Value), ordL (d22.names.take d22.np) ks ws = some us → bindArgs (PySem.W.fnOf d22.name d22.name (defArgs (stm 29)) (defBody (stm 29)) (defScope (stm 29)) .none kV doc pm an cdv ct) ⟨[], ks.zip ws⟩ = pure ((d22.names.take d22.np).zip us) := fun _ h => absurd h List.not_mem_nil
theorem sc23 : FnScope d23.names (d23.names.take d23.np) (defScope (stm 30)) := ⟨rfl, rfl, rfl, by decide +kernel, rfl, by decide +kernel, by decide +kernel⟩
theorem ms23 : mSs P d23.body ⟨d23.names, defScope (stm 30), fun _ => true⟩ d23.refs (defBody (stm 30)) = true := by kernel_rfl
theorem bi23 (kV doc pm : Value) (an : Option Addr) (cdv ct : Value) (us : List Value) (hl : us.length = (d23.names.take d23.np).length) : bindArgs (PySem.W.fnOf d23.name d23.name (defArgs (stm 30)) (defBody (stm 30)) (defScope (stm 30)) .none kV doc pm an cdv ct) ⟨us, []⟩ = pure ((d23.names.take d23.np).zip us) := match us, hl with | [_], _ => rfl
theorem kw23 : ∀ ks ∈ d23.kws, ∀ (kV doc pm : Value) (an : Option Addr) (cdv ct : Value) (ws us : List Value), ordL (d23.names.take d23.np) ks ws = some us → bindArgs (PySem.W.fnOf d23.name d23.name (defArgs (stm 30)) (defBody (stm 30)) (defScope (stm 30)) .none kV doc pm an cdv ct) ⟨[], ks.zip ws⟩ = pure ((d23.names.take d23.np).zip us) := fun _ h => absurd h List.not_mem_nil
/-- as_tuples alone -/
def PA : Prog := ⟨[d0], [], []⟩
theorem msA : mSs PA d0.body ⟨d0.names, defScope (stm 1), fun _ => true⟩ d0.refs (defBody (stm 1)) = true := by kernel_rfl
theorem at_z (d : D) (h : atomB d = true) : callF ⟨[d0], [], []⟩ 1 0 [.dat d] = some (.ok (.dat d), [none]) := by
  cases d <;> first | (simp [atomB] at h; done) | kernel_rfl
def e0 : Ec := ⟨"NoName", .lookup, ["name"], 36⟩
theorem iS0 : FnScope ["self", "name"] ["self", "name"] (defScope (inClass (stm 3) 0)) := ⟨rfl, rfl, rfl, by decide +kernel, rfl, by decide +kernel, by decide +kernel⟩
theorem iB0 : initB .lookup "as_tuples" ["self", "name"] (defScope (inClass (stm 3) 0)) (defBody (inClass (stm 3) 0)) ["name"] = true := by kernel_rfl
theorem iN0 (kV doc pm : Value) (an : Option Addr) (cdv ct : Value) (us : List Value) (hl : us.length = (["self", "name"] : List Str).length) : bindArgs (PySem.W.fnOf "__init__" "NoName.__init__" (defArgs (inClass (stm 3) 0)) (defBody (inClass (stm 3) 0)) (defScope (inClass (stm 3) 0)) .none kV doc pm an cdv ct) ⟨us, []⟩ = pure ((["self", "name"] : List Str).zip us) := match us, hl with | [_, _], _ => rfl
theorem iK0 : ∀ f ∈ (["name"] : List Str), ∀ (kV doc pm : Value) (an : Option Addr) (cdv ct a v : Value), bindArgs (PySem.W.fnOf "__init__" "NoName.__init__" (defArgs (inClass (stm 3) 0)) (defBody (inClass (stm 3) 0)) (defScope (inClass (stm 3) 0)) .none kV doc pm an cdv ct) ⟨[a], [(f, v)]⟩ = pure ((["self", "name"] : List Str).zip [a, v]) := fun f hf => by
  rw [List.mem_singleton.mp hf]
  exact fun _ _ _ _ _ _ _ _ => rfl
theorem all_mk {Pr : Program} {w : World} {K : PySem.W.Frag} {h : Heap} {mg : Str → Option Value} (X : K.In h) (G : h.Ns mainGlobals mg)
    {f0 : Addr} {od0 an0 : Option Addr} {sl0 : Array (Option Value)} {oc0 kV0 dc0 pm0 cd0 ct0 : Value}
    (a0 : PySem.W.nsIn K mainGlobals d0.name = some (some (.ref f0))) (l0 : K.lookup f0 = some ⟨oc0, od0, .func (PySem.W.fnOf d0.name d0.name (defArgs (stm 1)) (defBody (stm 1)) (defScope (stm 1)) .none kV0 dc0 pm0 an0 cd0 ct0), sl0⟩) (c0 : PySem.W.codeIn K cd0 d0.name = true) (k0 : PySem.W.keepIn K (.ref f0) = true)
    {f1 : Addr} {od1 an1 : Option Addr} {sl1 : Array (Option Value)} {oc1 kV1 dc1 pm1 cd1 ct1 : Value}
    (a1 : PySem.W.nsIn K mainGlobals d1.name = some (some (.ref f1))) (l1 : K.lookup f1 = some ⟨oc1, od1, .func (PySem.W.fnOf d1.name d1.name (defArgs (stm 7)) (defBody (stm 7)) (defScope (stm 7)) .none kV1 dc1 pm1 an1 cd1 ct1), sl1⟩) (c1 : PySem.W.codeIn K cd1 d1.name = true) (k1 : PySem.W.keepIn K (.ref f1) = true)
    {f2 : Addr} {od2 an2 : Option Addr} {sl2 : Array (Option Value)} {oc2 kV2 dc2 pm2 cd2 ct2 : Value}
    (a2 : PySem.W.nsIn K mainGlobals d2.name = some (some (.ref f2))) (l2 : K.lookup f2 = some ⟨oc2, od2, .func (PySem.W.fnOf d2.name d2.name (defArgs (stm 8)) (defBody (stm 8)) (defScope (stm 8)) .none kV2 dc2 pm2 an2 cd2 ct2), sl2⟩) (c2 : PySem.W.codeIn K cd2 d2.name = true) (k2 : PySem.W.keepIn K (.ref f2) = true)
    {f3 : Addr} {od3 an3 : Option Addr} {sl3 : Array (Option Value)} {oc3 kV3 dc3 pm3 cd3 ct3 : Value}
    (a3 : PySem.W.nsIn K mainGlobals d3.name = some (some (.ref f3))) (l3 : K.lookup f3 = some ⟨oc3, od3, .func (PySem.W.fnOf d3.name d3.name (defArgs (stm 9)) (defBody (stm 9)) (defScope (stm 9)) .none kV3 dc3 pm3 an3 cd3 ct3), sl3⟩) (c3 : PySem.W.codeIn K cd3 d3.name = true) (k3 : PySem.W.keepIn K (.ref f3) = true)
    {f4 : Addr} {od4 an4 : Option Addr} {sl4 : Array (Option Value)} {oc4 kV4 dc4 pm4 cd4 ct4 : Value}
    (a4 : PySem.W.nsIn K mainGlobals d4.name = some (some (.ref f4))) (l4 : K.lookup f4 = some ⟨oc4, od4, .func (PySem.W.fnOf d4.name d4.name (defArgs (stm 10)) (defBody (stm 10)) (defScope (stm 10)) .none kV4 dc4 pm4 an4 cd4 ct4), sl4⟩) (c4 : PySem.W.codeIn K cd4 d4.name = true) (k4 : PySem.W.keepIn K (.ref f4) = true)
    {f5 : Addr} {od5 an5 : Option Addr} {sl5 : Array (Option Value)} {oc5 kV5 dc5 pm5 cd5 ct5 : Value}
    (a5 : PySem.W.nsIn K mainGlobals d5.name = some (some (.ref f5))) (l5 : K.lookup f5 = some ⟨oc5, od5, .func (PySem.W.fnOf d5.name d5.name (defArgs (stm 11)) (defBody (stm 11)) (defScope (stm 11)) .none kV5 dc5 pm5 an5 cd5 ct5), sl5⟩) (c5 : PySem.W.codeIn K cd5 d5.name = true) (k5 : PySem.W.keepIn K (.ref f5) = true)
    {f6 : Addr} {od6 an6 : Option Addr} {sl6 : Array (Option Value)} {oc6 kV6 dc6 pm6 cd6 ct6 : Value}
    (a6 : PySem.W.nsIn K mainGlobals d6.name = some (some (.ref f6))) (l6 : K.lookup f6 = some ⟨oc6, od6, .func (PySem.W.fnOf d6.name d6.name (defArgs (stm 13)) (defBody (stm 13)) (defScope (stm 13)) .none kV6 dc6 pm6 an6 cd6 ct6), sl6⟩) (c6 : PySem.W.codeIn K cd6 d6.name = true) (k6 : PySem.W.keepIn K (.ref f6) = true)
    {f7 : Addr} {od7 an7 : Option Addr} {sl7 : Array (Option Value)} {oc7 kV7 dc7 pm7 cd7 ct7 : Value}
    (a7 : PySem.W.nsIn K mainGlobals d7.name = some (some (.ref f7))) (l7 : K.lookup f7 = some ⟨oc7, od7, .func (PySem.W.fnOf d7.name d7.name (defArgs (stm 14)) (defBody (stm 14)) (defScope (stm 14)) .none kV7 dc7 pm7 an7 cd7 ct7), sl7⟩) (c7 : PySem.W.codeIn K cd7 d7.name = true) (k7 : PySem.W.keepIn K (.ref f7) = true)
    {f8 : Addr} {od8 an8 : Option Addr} {sl8 : Array (Option Value)} {oc8 kV8 dc8 pm8 cd8 ct8 : Value}
    (a8 : PySem.W.nsIn K mainGlobals d8.name = some (some (.ref f8))) (l8 : K.lookup f8 = some ⟨oc8, od8, .func (PySem.W.fnOf d8.name d8.name (defArgs (stm 15)) (defBody (stm 15)) (defScope (stm 15)) .none kV8 dc8 pm8 an8 cd8 ct8), sl8⟩) (c8 : PySem.W.codeIn K cd8 d8.name = true) (k8 : PySem.W.keepIn K (.ref f8) = true)
    {f9 : Addr} {od9 an9 : Option Addr} {sl9 : Array (Option Value)} {oc9 kV9 dc9 pm9 cd9 ct9 : Value}
    (a9 : PySem.W.nsIn K mainGlobals d9.name = some (some (.ref f9))) (l9 : K.lookup f9 = some ⟨oc9, od9, .func (PySem.W.fnOf d9.name d9.name (defArgs (stm 16)) (defBody (stm 16)) (defScope (stm 16)) .none kV9 dc9 pm9 an9 cd9 ct9), sl9⟩) (c9 : PySem.W.codeIn K cd9 d9.name = true) (k9 : PySem.W.keepIn K (.ref f9) = true)
    {f10 : Addr} {od10 an10 : Option Addr} {sl10 : Array (Option Value)} {oc10 kV10 dc10 pm10 cd10 ct10 : Value}
    (a10 : PySem.W.nsIn K mainGlobals d10.name = some (some (.ref f10))) (l10 : K.lookup f10 = some ⟨oc10, od10, .func (PySem.W.fnOf d10.name d10.name (defArgs (stm 17)) (defBody (stm 17)) (defScope (stm 17)) .none kV10 dc10 pm10 an10 cd10 ct10), sl10⟩) (c10 : PySem.W.codeIn K cd10 d10.name = true) (k10 : PySem.W.keepIn K (.ref f10) = true)
    {f11 : Addr} {od11 an11 : Option Addr} {sl11 : Array (Option Value)} {oc11 kV11 dc11 pm11 cd11 ct11 : Value}
    (a11 : PySem.W.nsIn K mainGlobals d11.name = some (some (.ref f11))) (l11 : K.lookup f11 = some ⟨oc11, od11, .func (PySem.W.fnOf d11.name d11.name (defArgs (stm 18)) (defBody (stm 18)) (defScope (stm 18)) .none kV11 dc11 pm11 an11 cd11 ct11), sl11⟩) (c11 : PySem.W.codeIn K cd11 d11.name = true) (k11 : PySem.W.keepIn K (.ref f11) = true)
    {f12 : Addr} {od12 an12 : Option Addr} {sl12 : Array (Option Value)} {oc12 kV12 dc12 pm12 cd12 ct12 : Value}
    (a12 : PySem.W.nsIn K mainGlobals d12.name = some (some (.ref f12))) (l12 : K.lookup f12 = some ⟨oc12, od12, .func (PySem.W.fnOf d12.name d12.name (defArgs (stm 19)) (defBody (stm 19)) (defScope (stm 19)) .none kV12 dc12 pm12 an12 cd12 ct12), sl12⟩) (c12 : PySem.W.codeIn K cd12 d12.name = true) (k12 : PySem.W.keepIn K (.ref f12) = true)
    {f13 : Addr} {od13 an13 : Option Addr} {sl13 : Array (Option Value)} {oc13 kV13 dc13 pm13 cd13 ct13 : Value}
    (a13 : PySem.W.nsIn K mainGlobals d13.name = some (some (.ref f13))) (l13 : K.lookup f13 = some ⟨oc13, od13, .func (PySem.W.fnOf d13.name d13.name (defArgs (stm 20)) (defBody (stm 20)) (defScope (stm 20)) .none kV13 dc13 pm13 an13 cd13 ct13), sl13⟩) (c13 : PySem.W.codeIn K cd13 d13.name = true) (k13 : PySem.W.keepIn K (.ref f13) = true)
    {f14 : Addr} {od14 an14 : Option Addr} {sl14 : Array (Option Value)} {oc14 kV14 dc14 pm14 cd14 ct14 : Value}
    (a14 : PySem.W.nsIn K mainGlobals d14.name = some (some (.ref f14))) (l14 : K.lookup f14 = some ⟨oc14, od14, .func (PySem.W.fnOf d14.name d14.name (defArgs (stm 21)) (defBody (stm 21)) (defScope (stm 21)) .none kV14 dc14 pm14 an14 cd14 ct14), sl14⟩) (c14 : PySem.W.codeIn K cd14 d14.name = true) (k14 : PySem.W.keepIn K (.ref f14) = true)
    {f15 : Addr} {od15 an15 : Option Addr} {sl15 : Array (Option Value)} {oc15 kV15 dc15 pm15 cd15 ct15 : Value}
    (a15 : PySem.W.nsIn K mainGlobals d15.name = some (some (.ref f15))) (l15 : K.lookup f15 = some ⟨oc15, od15, .func (PySem.W.fnOf d15.name d15.name (defArgs (stm 22)) (defBody (stm 22)) (defScope (stm 22)) .none kV15 dc15 pm15 an15 cd15 ct15), sl15⟩) (c15 : PySem.W.codeIn K cd15 d15.name = true) (k15 : PySem.W.keepIn K (.ref f15) = true)
    {f16 : Addr} {od16 an16 : Option Addr} {sl16 : Array (Option Value)} {oc16 kV16 dc16 pm16 cd16 ct16 : Value}
    (a16 : PySem.W.nsIn K mainGlobals d16.name = some (some (.ref f16))) (l16 : K.lookup f16 = some ⟨oc16, od16, .func (PySem.W.fnOf d16.name d16.name (defArgs (stm 23)) (defBody (stm 23)) (defScope (stm 23)) .none kV16 dc16 pm16 an16 cd16 ct16), sl16⟩) (c16 : PySem.W.codeIn K cd16 d16.name = true) (k16 : PySem.W.keepIn K (.ref f16) = true)
    {f17 : Addr} {od17 an17 : Option Addr} {sl17 : Array (Option Value)} {oc17 kV17 dc17 pm17 cd17 ct17 : Value}
    (a17 : PySem.W.nsIn K mainGlobals d17.name = some (some (.ref f17))) (l17 : K.lookup f17 = some ⟨oc17, od17, .func (PySem.W.fnOf d17.name d17.name (defArgs (stm 24)) (defBody (stm 24)) (defScope (stm 24)) .none kV17 dc17 pm17 an17 cd17 ct17), sl17⟩) (c17 : PySem.W.codeIn K cd17 d17.name = true) (k17 : PySem.W.keepIn K (.ref f17) = true)
    {f18 : Addr} {od18 an18 : Option Addr} {sl18 : Array (Option Value)} {oc18 kV18 dc18 pm18 cd18 ct18 : Value}
    (a18 : PySem.W.nsIn K mainGlobals d18.name = some (some (.ref f18))) (l18 : K.lookup f18 = some ⟨oc18, od18, .func (PySem.W.fnOf d18.name d18.name (defArgs (stm 25)) (defBody (stm 25)) (defScope (stm 25)) .none kV18 dc18 pm18 an18 cd18 ct18), sl18⟩) (c18 : PySem.W.codeIn K cd18 d18.name = true) (k18 : PySem.W.keepIn K (.ref f18) = true)
    {f19 : Addr} {od19 an19 : Option Addr} {sl19 : Array (Option Value)} {oc19 kV19 dc19 pm19 cd19 ct19 : Value}
    (a19 : PySem.W.nsIn K mainGlobals d19.name = some (some (.ref f19))) (l19 : K.lookup f19 = some ⟨oc19, od19, .func (PySem.W.fnOf d19.name d19.name (defArgs (stm 26)) (defBody (stm 26)) (defScope (stm 26)) .none kV19 dc19 pm19 an19 cd19 ct19), sl19⟩) (c19 : PySem.W.codeIn K cd19 d19.name = true) (k19 : PySem.W.keepIn K (.ref f19) = true)
    {f20 : Addr} {od20 an20 : Option Addr} {sl20 : Array (Option Value)} {oc20 kV20 dc20 pm20 cd20 ct20 : Value}
    (a20 : PySem.W.nsIn K mainGlobals d20.name = some (some (.ref f20))) (l20 : K.lookup f20 = some ⟨oc20, od20, .func (PySem.W.fnOf d20.name d20.name (defArgs (stm 27)) (defBody (stm 27)) (defScope (stm 27)) .none kV20 dc20 pm20 an20 cd20 ct20), sl20⟩) (c20 : PySem.W.codeIn K cd20 d20.name = true) (k20 : PySem.W.keepIn K (.ref f20) = true)
    {f21 : Addr} {od21 an21 : Option Addr} {sl21 : Array (Option Value)} {oc21 kV21 dc21 pm21 cd21 ct21 : Value}
    (a21 : PySem.W.nsIn K mainGlobals d21.name = some (some (.ref f21))) (l21 : K.lookup f21 = some ⟨oc21, od21, .func (PySem.W.fnOf d21.name d21.name (defArgs (stm 28)) (defBody (stm 28)) (defScope (stm 28)) .none kV21 dc21 pm21 an21 cd21 ct21), sl21⟩) (c21 : PySem.W.codeIn K cd21 d21.name = true) (k21 : PySem.W.keepIn K (.ref f21) = true)
    {f22 : Addr} {od22 an22 : Option Addr} {sl22 : Array (Option Value)} {oc22 kV22 dc22 pm22 cd22 ct22 : Value}
    (a22 : PySem.W.nsIn K mainGlobals d22.name = some (some (.ref f22))) (l22 : K.lookup f22 = some ⟨oc22, od22, .func (PySem.W.fnOf d22.name d22.name (defArgs (stm 29)) (defBody (stm 29)) (defScope (stm 29)) .none kV22 dc22 pm22 an22 cd22 ct22), sl22⟩) (c22 : PySem.W.codeIn K cd22 d22.name = true) (k22 : PySem.W.keepIn K (.ref f22) = true)
    {f23 : Addr} {od23 an23 : Option Addr} {sl23 : Array (Option Value)} {oc23 kV23 dc23 pm23 cd23 ct23 : Value}
    (a23 : PySem.W.nsIn K mainGlobals d23.name = some (some (.ref f23))) (l23 : K.lookup f23 = some ⟨oc23, od23, .func (PySem.W.fnOf d23.name d23.name (defArgs (stm 30)) (defBody (stm 30)) (defScope (stm 30)) .none kV23 dc23 pm23 an23 cd23 ct23), sl23⟩) (c23 : PySem.W.codeIn K cd23 d23.name = true) (k23 : PySem.W.keepIn K (.ref f23) = true)
    {fi0 : Addr} {iod0 ian0 : Option Addr} {isl0 : Array (Option Value)} {ioc0 ikV0 idc0 ipm0 icd0 ict0 : Value}
    (ya0 : PySem.W.nsIn K mainGlobals "NoName" = some (some (.ref 36))) (yf0 : PySem.W.findIn K (.ref 36) "__init__" = some (some (.ref fi0))) (yl0 : K.lookup fi0 = some ⟨ioc0, iod0, .func (PySem.W.fnOf "__init__" "NoName.__init__" (defArgs (inClass (stm 3) 0)) (defBody (inClass (stm 3) 0)) (defScope (inClass (stm 3) 0)) .none ikV0 idc0 ipm0 ian0 icd0 ict0), isl0⟩) (yc0 : PySem.W.codeIn K icd0 "NoName.__init__" = true) (yk0 : PySem.W.keepIn K (.ref fi0) = true) (yx0 : xckB K .lookup 36 fi0 ["name"] = true)
    (rb : readsB K P.ecs = true) (gb : (P.glos.all fun g => gloB K g) = true) (bb : bltB K = true) (ev : ebB K .value = true) (el : ebB K .lookup = true) :
    (∀ x ∈ bltNames, mg x = none) ∧ (∀ base : Heap, XFacts Pr w K mg base P.ecs P.glos) ∧ ∀ (f : Nat) (d : Df), P.defs[f]? = some d → ∃ fa fd, FactD K mg P d fa fd := by
  have blt := blt_all X G bb
  have F0 := fact_of (P := P) X G a0 (fun_mk (st := stm 1) l0 c0 k0) bi0 kw0 sc0 ms0 rfl (by decide) (by decide)
  have F1 := fact_of (P := P) X G a1 (fun_mk (st := stm 7) l1 c1 k1) bi1 kw1 sc1 ms1 rfl (by decide) (by decide)
  have F2 := fact_of (P := P) X G a2 (fun_mk (st := stm 8) l2 c2 k2) bi2 kw2 sc2 ms2 rfl (by decide) (by decide)
  have F3 := fact_of (P := P) X G a3 (fun_mk (st := stm 9) l3 c3 k3) bi3 kw3 sc3 ms3 rfl (by decide) (by decide)
  have F4 := fact_of (P := P) X G a4 (fun_mk (st := stm 10) l4 c4 k4) bi4 kw4 sc4 ms4 rfl (by decide) (by decide)
  have F5 := fact_of (P := P) X G a5 (fun_mk (st := stm 11) l5 c5 k5) bi5 kw5 sc5 ms5 rfl (by decide) (by decide)
  have F6 := fact_of (P := P) X G a6 (fun_mk (st := stm 13) l6 c6 k6) bi6 kw6 sc6 ms6 rfl (by decide) (by decide)
  have F7 := fact_of (P := P) X G a7 (fun_mk (st := stm 14) l7 c7 k7) bi7 kw7 sc7 ms7 rfl (by decide) (by decide)
  have F8 := fact_of (P := P) X G a8 (fun_mk (st := stm 15) l8 c8 k8) bi8 kw8 sc8 ms8 rfl (by decide) (by decide)
  have F9 := fact_of (P := P) X G a9 (fun_mk (st := stm 16) l9 c9 k9) bi9 kw9 sc9 ms9 rfl (by decide) (by decide)
  have F10 := fact_of (P := P) X G a10 (fun_mk (st := stm 17) l10 c10 k10) bi10 kw10 sc10 ms10 rfl (by decide) (by decide)
  have F11 := fact_of (P := P) X G a11 (fun_mk (st := stm 18) l11 c11 k11) bi11 kw11 sc11 ms11 rfl (by decide) (by decide)
  have F12 := fact_of (P := P) X G a12 (fun_mk (st := stm 19) l12 c12 k12) bi12 kw12 sc12 ms12 rfl (by decide) (by decide)
  have F13 := fact_of (P := P) X G a13 (fun_mk (st := stm 20) l13 c13 k13) bi13 kw13 sc13 ms13 rfl (by decide) (by decide)
  have F14 := fact_of (P := P) X G a14 (fun_mk (st := stm 21) l14 c14 k14) bi14 kw14 sc14 ms14 rfl (by decide) (by decide)
  have F15 := fact_of (P := P) X G a15 (fun_mk (st := stm 22) l15 c15 k15) bi15 kw15 sc15 ms15 rfl (by decide) (by decide)
  have F16 := fact_of (P := P) X G a16 (fun_mk (st := stm 23) l16 c16 k16) bi16 kw16 sc16 ms16 rfl (by decide) (by decide)
  have F17 := fact_of (P := P) X G a17 (fun_mk (st := stm 24) l17 c17 k17) bi17 kw17 sc17 ms17 rfl (by decide) (by decide)
  have F18 := fact_of (P := P) X G a18 (fun_mk (st := stm 25) l18 c18 k18) bi18 kw18 sc18 ms18 rfl (by decide) (by decide)
  have F19 := fact_of (P := P) X G a19 (fun_mk (st := stm 26) l19 c19 k19) bi19 kw19 sc19 ms19 rfl (by decide) (by decide)
  have F20 := fact_of (P := P) X G a20 (fun_mk (st := stm 27) l20 c20 k20) bi20 kw20 sc20 ms20 rfl (by decide) (by decide)
  have F21 := fact_of (P := P) X G a21 (fun_mk (st := stm 28) l21 c21 k21) bi21 kw21 sc21 ms21 rfl (by decide) (by decide)
  have F22 := fact_of (P := P) X G a22 (fun_mk (st := stm 29) l22 c22 k22) bi22 kw22 sc22 ms22 rfl (by decide) (by decide)
  have F23 := fact_of (P := P) X G a23 (fun_mk (st := stm 30) l23 c23 k23) bi23 kw23 sc23 ms23 rfl (by decide) (by decide)
  have FA := fact_of (P := PA) X G a0 (fun_mk (st := stm 1) l0 c0 k0) bi0 kw0 sc0 msA rfl (by decide) (by decide)
  have hat := fun base : Heap => at_of (Pr := Pr) (w := w) (base := base) (da := d0) at_z rfl FA blt
  obtain ⟨T0, tk0⟩ := xck_of yx0
  have C0 := fun base : Heap => xcOk_of (e := e0) (Pr := Pr) (w := w) (base := base) X G ya0 (fun_mk (st := inClass (stm 3) 0) yl0 yc0 yk0) T0 (eb_of blt el) (hat base) tk0 iS0 iB0 iN0 iK0
  refine ⟨blt, fun base => ⟨reads_of ?_ rb, ?_, fun g hg => glo_of X G (List.all_eq_true.mp gb g hg)⟩, fun f d hd => ?_⟩
  · intro e he
    have he : e ∈ [e0] := he
    simp only [List.mem_cons, List.not_mem_nil, or_false] at he
    rcases he with rfl
    · exact (C0 h).mg
  · intro c e hc
    match c, hc with
    | 0, hc => cases (show some e0 = some e from hc); exact C0 base
    | c + 1, hc => cases (show none = some e from hc)
  · match f, hd with
    | 0, hd => cases (show some d0 = some d from hd); exact ⟨_, _, F0⟩
    | 1, hd => cases (show some d1 = some d from hd); exact ⟨_, _, F1⟩
    | 2, hd => cases (show some d2 = some d from hd); exact ⟨_, _, F2⟩
    | 3, hd => cases (show some d3 = some d from hd); exact ⟨_, _, F3⟩
    | 4, hd => cases (show some d4 = some d from hd); exact ⟨_, _, F4⟩
    | 5, hd => cases (show some d5 = some d from hd); exact ⟨_, _, F5⟩
    | 6, hd => cases (show some d6 = some d from hd); exact ⟨_, _, F6⟩
    | 7, hd => cases (show some d7 = some d from hd); exact ⟨_, _, F7⟩
    | 8, hd => cases (show some d8 = some d from hd); exact ⟨_, _, F8⟩
    | 9, hd => cases (show some d9 = some d from hd); exact ⟨_, _, F9⟩
    | 10, hd => cases (show some d10 = some d from hd); exact ⟨_, _, F10⟩
    | 11, hd => cases (show some d11 = some d from hd); exact ⟨_, _, F11⟩
    | 12, hd => cases (show some d12 = some d from hd); exact ⟨_, _, F12⟩
    | 13, hd => cases (show some d13 = some d from hd); exact ⟨_, _, F13⟩
    | 14, hd => cases (show some d14 = some d from hd); exact ⟨_, _, F14⟩
    | 15, hd => cases (show some d15 = some d from hd); exact ⟨_, _, F15⟩
    | 16, hd => cases (show some d16 = some d from hd); exact ⟨_, _, F16⟩
    | 17, hd => cases (show some d17 = some d from hd); exact ⟨_, _, F17⟩
    | 18, hd => cases (show some d18 = some d from hd); exact ⟨_, _, F18⟩
    | 19, hd => cases (show some d19 = some d from hd); exact ⟨_, _, F19⟩
    | 20, hd => cases (show some d20 = some d from hd); exact ⟨_, _, F20⟩
    | 21, hd => cases (show some d21 = some d from hd); exact ⟨_, _, F21⟩
    | 22, hd => cases (show some d22 = some d from hd); exact ⟨_, _, F22⟩
    | 23, hd => cases (show some d23 = some d from hd); exact ⟨_, _, F23⟩
    | f + 24, hd => cases (show none = some d from hd)
theorem nmG : P.glos[0]? = some ⟨"NAMES", .tuple nmL⟩ := rfl
theorem enG : P.glos[1]? = some ⟨"ENDS", .tuple enL⟩ := rfl
/-- data that the law meets: no dicts, small -/
def gO : Nat → D → Bool
  | 0, _ => false
  | _ + 1, .none => true
  | _ + 1, .bool _ => true
  | _ + 1, .int _ => true
  | _ + 1, .str _ => true
  | k + 1, .list ds => decide (ds.length ≤ 60) && ds.all (gO k)
  | k + 1, .tuple ds => decide (ds.length ≤ 60) && ds.all (gO k)
  | _ + 1, .dict _ => false
theorem gO_noExc {k : Nat} {d : D} (h : gO k d = true) : excOf d = none := by
  cases k with
  | zero => cases d <;> simp [gO] at h
  | succ k => cases d <;> first | rfl | (simp [gO] at h)
theorem gO_cmp : ∀ (k : Nat) {d : D}, gO k d = true → plainD d = true ∧ d.depth ≤ k
  | 0, d, h => by cases d <;> simp [gO] at h
  | k + 1, d, h => by
    have seq : ∀ ds : List D, ds.all (gO k) = true → plainAll ds = true ∧ PyData.depthAll ds ≤ k := fun ds => by
      induction ds with
      | nil => intro _; exact ⟨rfl, by simp [PyData.depthAll]⟩
      | cons x r ih =>
        intro h
        rw [List.all_cons, Bool.and_eq_true] at h
        obtain ⟨a, b⟩ := gO_cmp k h.1
        obtain ⟨c, e⟩ := ih h.2
        refine ⟨by rw [plainAll, a, c]; rfl, ?_⟩
        rw [PyData.depthAll]
        omega
    cases d with
    | list ds =>
      simp only [gO, Bool.and_eq_true] at h
      obtain ⟨a, b⟩ := seq ds h.2
      exact ⟨a, by rw [PyData.depth]; omega⟩
    | tuple ds =>
      simp only [gO, Bool.and_eq_true] at h
      obtain ⟨a, b⟩ := seq ds h.2
      exact ⟨a, by rw [PyData.depth]; omega⟩
    | dict _ => simp [gO] at h
    | _ => exact ⟨rfl, by simp [PyData.depth]⟩
theorem gO_ok {k : Nat} {d : D} (h : gO k d = true) (hk : k ≤ 60) : cmpOk d = true := by
  obtain ⟨a, b⟩ := gO_cmp k h
  unfold cmpOk
  rw [a, decide_eq_true (by omega)]; rfl
theorem nm_ok : cmpOk (.tuple nmL) = true := by decide
theorem en_ok : cmpOk (.tuple enL) = true := by decide
theorem inx_nm {k : Nat} {d : D} (h : gO k d = true) (hk : k ≤ 60) : inX P.ecs true d (.tuple nmL) = some (!inL nmL d) := by
  have e : exK P.ecs d = false := by unfold exK; rw [gO_noExc h]
  unfold inX
  rw [e]
  show (inD d (.tuple nmL)).map (!·) = _
  show (if cmpOk d && cmpOk (.tuple nmL) then some (nmL.any fun z => PyData.eqv z d) else none).map (!·) = _
  rw [gO_ok h hk, nm_ok]; rfl
theorem inx_en {k : Nat} {d : D} (h : gO k d = true) (hk : k ≤ 60) : inX P.ecs false d (.tuple enL) = some (inL enL d) := by
  have e : exK P.ecs d = false := by unfold exK; rw [gO_noExc h]
  unfold inX
  rw [e]
  show inD d (.tuple enL) = _
  show (if cmpOk d && cmpOk (.tuple enL) then some (enL.any fun z => PyData.eqv z d) else none) = _
  rw [gO_ok h hk, en_ok]; rfl
theorem eq_ok {k : Nat} {c d : D} (h : gO k c = true) (g : gO k d = true) (hk : k ≤ 60) : eqD c d = some (PyData.eqv c d) := by
  unfold eqD
  rw [gO_ok h hk, gO_ok g hk]; rfl
theorem isi_of {k : Nat} {d : D} (h : gO k d = true) (ts : List Ty) (ht : ts.all noOwn = true) : isiD P.ecs d ts = some (ts.any (tyD P.ecs d)) := by
  unfold isiD
  rw [gO_noExc h]
  simp only [ht, if_true]
section
variable {cf : Cf}
theorem bond_four {k : Nat} {a e b f : D} (ha : gO k a = true) (he : gO k e = true) (hb : gO k b = true) (hf : gO k f = true) (hk : k ≤ 60) :
    (exs P cf d1.body [some (.dat (.tuple [a, e, b, f])), none, none, none, none]).map (·.1) = some (.rt (.dat (.bool (bondD (.tuple [a, e, b, f]))))) := by
  have i1 := inx_nm ha hk
  have i2 := inx_nm hb hk
  have i3 := inx_en he hk
  have i4 := inx_en hf hk
  have i5 := eq_ok ha hb hk
  have g0 := nmG
  have g1 := enG
  have it : isiD P.ecs (.tuple [a, e, b, f]) [.tuple] = some true := by
    unfold isiD
    simp [excOf, noOwn, tyD]
  obtain ⟨u1, hu1⟩ : ∃ u, u = inL nmL a := ⟨_, rfl⟩
  obtain ⟨u2, hu2⟩ : ∃ u, u = inL nmL b := ⟨_, rfl⟩
  obtain ⟨u3, hu3⟩ : ∃ u, u = inL enL e := ⟨_, rfl⟩
  obtain ⟨u4, hu4⟩ : ∃ u, u = inL enL f := ⟨_, rfl⟩
  obtain ⟨u5, hu5⟩ : ∃ u, u = PyData.eqv a b := ⟨_, rfl⟩
  have eb : bondD (.tuple [a, e, b, f]) = (u1 && u2 && !u5 && u3 && u4) := by rw [hu1, hu2, hu3, hu4, hu5]; rfl
  rw [eb]
  rw [← hu1] at i1
  rw [← hu2] at i2
  rw [← hu3] at i3
  rw [← hu4] at i4
  rw [← hu5] at i5
  have l4 : lenD (.tuple [a, e, b, f]) = some 4 := rfl
  have c4 : eqD (.int 4) (.int 4) = some true := by decide
  cases u1 <;> cases u2 <;> cases u5 <;> cases u3 <;> cases u4 <;>
    simp [d1, exs, exS, ev, evs, tst, getF, get, put, truD, cmpD, bd, bf, sq, rt, lf, lfd, fzs, O.fz, bfD, it, l4, asg, putsD, g0, g1, i1, i2, i3, i4, i5, c4]
end
theorem isT {k : Nat} {d : D} (h : gO k d = true) : isiD P.ecs d [.tuple] = some (tupAny d) := by
  rw [isi_of h [.tuple] rfl]
  cases d <;> rfl
section
variable {cf : Cf} {n : Nat}
theorem bond_not {s : Stt} {d : D} (h : isiD P.ecs d [.tuple] = some false) : (exs P cf d1.body [some (.dat d), none, none, none, none]).map (·.1) = some (.rt (.dat (.bool false))) := by
  simp [d1, exs, exS, ev, evs, tst, getF, get, put, truD, cmpD, bd, bf, sq, rt, lf, lfd, fzs, O.fz, bfD, h]
theorem ne_four {m : Nat} (h : m ≠ 4) : eqD (.int (m : Int)) (.int 4) = some false := by
  unfold eqD
  rw [if_pos (by simp [cmpOk, plainD, PyData.depth])]
  simp [PyData.eqv]
  omega
theorem bond_len {ds : List D} (hl : ds.length ≠ 4) (h : isiD P.ecs (.tuple ds) [.tuple] = some true) : (exs P cf d1.body [some (.dat (.tuple ds)), none, none, none, none]).map (·.1) = some (.rt (.dat (.bool false))) := by
  have e := ne_four hl
  simp [d1, exs, exS, ev, evs, tst, getF, get, put, truD, cmpD, bd, bf, sq, rt, lf, lfd, fzs, O.fz, bfD, h, lenD, e]
theorem bondD_len {ds : List D} (hl : ds.length ≠ 4) : bondD (.tuple ds) = false := by
  cases h : bondD (.tuple ds) with
  | false => rfl
  | true =>
    obtain ⟨a, e, b, f, q, _⟩ := (bondD_iff _).1 h
    cases q
    exact absurd rfl hl
theorem bondD_not {d : D} (h : tupAny d = false) : bondD d = false := by
  cases d <;> first | rfl | (simp [tupAny] at h)
theorem gO_items {k : Nat} {ds : List D} (h : gO (k + 1) (.tuple ds) = true) : ds.length ≤ 60 ∧ ∀ d ∈ ds, gO k d = true := by
  simp only [gO, Bool.and_eq_true, decide_eq_true_eq, List.all_eq_true] at h
  exact h
theorem gO_pos {k : Nat} {d : D} (h : gO k d = true) : ∃ m, k = m + 1 := by
  cases k with
  | zero => cases d <;> simp [gO] at h
  | succ m => exact ⟨m, rfl⟩
theorem four_or (ds : List D) : (∃ a e b f, ds = [a, e, b, f]) ∨ ds.length ≠ 4 := by
  match ds with
  | [a, e, b, f] => exact .inl ⟨a, e, b, f, rfl⟩
  | [] => exact .inr (by simp)
  | [_] => exact .inr (by simp)
  | [_, _] => exact .inr (by simp)
  | [_, _, _] => exact .inr (by simp)
  | _ :: _ :: _ :: _ :: _ :: _ => exact .inr (by simp)
theorem bond_all {k : Nat} {d : D} (h : gO k d = true) (hk : k ≤ 60) : (exs P cf d1.body [some (.dat d), none, none, none, none]).map (·.1) = some (.rt (.dat (.bool (bondD d)))) := by
  have it := isT h
  cases d with
  | tuple ds =>
    obtain ⟨m, rfl⟩ := gO_pos h
    obtain ⟨_, hi⟩ := gO_items h
    rcases four_or ds with ⟨a, e, b, f, rfl⟩ | hl
    · exact bond_four (hi a (by simp)) (hi e (by simp)) (hi b (by simp)) (hi f (by simp)) (by omega)
    · rw [bondD_len hl]
      exact bond_len hl it
  | none => exact bond_not (s := []) it
  | bool _ => exact bond_not (s := []) it
  | int _ => exact bond_not (s := []) it
  | str _ => exact bond_not (s := []) it
  | list _ => exact bond_not (s := []) it
  | dict _ => exact bond_not (s := []) it
theorem call_of {i : Nat} {df : Df} {m : Nat} {d r : D} (hd : P.defs[i]? = some df) (hn : df.np = 1) (hs : df.ns - 1 = m) (hr : df.refs = []) (hf : df.fz = true) (e : (exs P (callF P n) df.body (some (.dat d) :: List.replicate m none)).map (·.1) = some (.rt (.dat r))) :
    callF P (n + 1) i [.dat d] = some (.ok (.dat r), [none]) := by
  rw [callF_eq hd (by rw [hn]; rfl)]
  have es : start df [O.dat d] = some (.dat d) :: List.replicate m none := by
    unfold start
    rw [hn, hs]
    rfl
  rw [es, ends_map e hr, hf, hn]
  rfl
theorem is_bond_ok {k : Nat} {d : D} (h : gO k d = true) (hk : k ≤ 60) : callF P (n + 1) 1 [.dat d] = some (.ok (.dat (.bool (bondD d))), [none]) :=
  call_of (df := d1) (m := 4) rfl rfl rfl rfl rfl (bond_all h hk)
/-! the law's own look at a bond -/
def isS1 : D → Bool
  | .str x => decide (x.length = 1)
  | _ => false
theorem isS1_iff {d : D} : isS1 d = true ↔ ∃ c, d = sgn c := by
  constructor
  · intro h
    cases d <;> simp [isS1] at h
    rename_i x
    obtain ⟨⟨l⟩⟩ := x
    have h : l.length = 1 := h
    match l, h with
    | [c], _ => exact ⟨c, rfl⟩
  · rintro ⟨c, rfl⟩
    rfl
abbrev ifS1 : Es := .cons (.nt (.and (.isi (.var 2) [.str]) (.cmp .eq (.bf .len (.cons (.var 2) .nil)) (.lit (.int 1))))) .nil
theorem s1_loop {s0 s1 : Option O} : ∀ (ds : List D) (acc : List O) (x2 : Option O), (∀ d ∈ ds, ∃ k, gO k d = true) → acc.length + ds.length < 1000 → ∃ y2,
    eachG (compT P cf [2] (.nm 2) ifS1 (.last (.var 2))) ds [s0, s1, x2] acc = some (acc ++ (ds.filter fun d => !isS1 d).map .dat, [s0, s1, y2])
  | [], acc, x2, _, _ => ⟨x2, by simp [eachG]⟩
  | d :: ds, acc, x2, h, hz => by
    rw [List.length_cons] at hz
    obtain ⟨k, hk⟩ := h d List.mem_cons_self
    have it := isi_of hk [.str] rfl
    have more := fun acc' x2' hz' => s1_loop (s0 := s0) (s1 := s1) ds acc' x2' (fun d' h' => h d' (List.mem_cons_of_mem _ h')) hz'
    by_cases hs : isS1 d = true
    · obtain ⟨c, rfl⟩ := isS1_iff.mp hs
      obtain ⟨y2, e⟩ := more acc (some (.dat (sgn c))) (by omega)
      refine ⟨y2, ?_⟩
      have e1 : eqD (.int 1) (.int 1) = some true := by decide
      have l1 : lenD (sgn c) = some 1 := rfl
      have it2 : isiD P.ecs (sgn c) [.str] = some true := it
      rw [eachG_cons (acc' := acc) (s' := [s0, s1, some (.dat (sgn c))]), e]
      · simp [hs]
      · simp [compT, asg, wipe, evc, evg, ev, evs, tst, getF, get, put, truD, cmpD, bd, rt, lf, lfd, fzs, O.fz, bfD, it2, l1, e1]
    · have hs' : isS1 d = false := by simpa using hs
      obtain ⟨y2, e⟩ := more (acc ++ [.dat d]) (some (.dat d)) (by simp; omega)
      refine ⟨y2, ?_⟩
      have tl : acc.length < top := by unfold top; omega
      rw [eachG_cons (acc' := acc ++ [.dat d]) (s' := [s0, s1, some (.dat d)]), e]
      · simp [hs']
      · cases d with
        | str x =>
          have it2 : isiD P.ecs (.str x) [.str] = some true := it
          have nl : x.length ≠ 1 := by simpa [isS1] using hs'
          have e1 : eqD (.int (x.length : Int)) (.int 1) = some false := by
            unfold eqD
            rw [if_pos (by simp [cmpOk, plainD, PyData.depth])]
            simp [PyData.eqv]
            omega
          simp [compT, asg, wipe, evc, evg, ev, evs, tst, getF, get, put, truD, cmpD, bd, rt, lf, lfd, fzs, O.fz, bfD, it2, lenD, e1, tl]
        | _ =>
          have it2 := it
          simp only [List.any_cons, List.any_nil, tyD, Bool.or_false] at it2
          simp [compT, asg, wipe, evc, evg, ev, evs, tst, getF, get, put, truD, cmpD, bd, rt, lf, lfd, fzs, O.fz, bfD, it2, tl]
end
def D_ (ds : List D) : D := .tuple ds
theorem exs_cons {cf : Cf} {a : S} {r : Ss} {s : Stt} : exs P cf (.cons a r) s = sq (exS P cf a s) fun s => exs P cf r s := rfl
theorem cmp_list {ds : List D} {k : Nat} (h : ∀ d ∈ ds, gO k d = true) (hk : k ≤ 60) : cmpOk (.list ds) = true ∧ cmpOk (.tuple ds) = true := by
  have hp : plainAll ds = true ∧ PyData.depthAll ds ≤ k := by
    induction ds with
    | nil => exact ⟨rfl, by simp [PyData.depthAll]⟩
    | cons x r ih =>
      obtain ⟨a, b⟩ := gO_cmp k (h x List.mem_cons_self)
      obtain ⟨c, e⟩ := ih fun d hd => h d (List.mem_cons_of_mem _ hd)
      refine ⟨by rw [plainAll, a, c]; rfl, ?_⟩
      rw [PyData.depthAll]
      omega
  constructor
  · unfold cmpOk
    rw [show plainD (.list ds) = plainAll ds from rfl, hp.1, decide_eq_true (by rw [PyData.depth]; omega)]; rfl
  · unfold cmpOk
    rw [show plainD (.tuple ds) = plainAll ds from rfl, hp.1, decide_eq_true (by rw [PyData.depth]; omega)]; rfl
theorem eq_nil {ds : List D} (h : cmpOk (.list ds) = true) : eqD (.list ds) (.list []) = some ds.isEmpty := by
  unfold eqD
  rw [h]
  cases ds <;> simp [PyData.eqv, PyData.eqvAll, cmpOk, plainD, plainAll, PyData.depth, PyData.depthAll]
theorem in_abc (c : Nat) (l : List Nat) : inD (sgn c) (.str ⟨l.toArray⟩) = some (decide (c ∈ l)) := by
  show (if (⟨#[c]⟩ : Str).length = 1 then some (decide ((⟨#[c]⟩ : Str).cps.toList.headD 0 ∈ l.toArray.toList)) else none) = _
  rw [if_pos (show (⟨#[c]⟩ : Str).length = 1 from rfl)]
  simp
theorem in_rs (c : Nat) : inD (sgn c) (.str ⟨#[114, 115]⟩) = some (decide (c ∈ [115, 114])) := by
  have e : decide (c ∈ [114, 115]) = decide (c ∈ [115, 114]) := decide_eq_decide.mpr (by simp only [List.mem_cons, List.not_mem_nil, or_false]; exact Or.comm)
  rw [← e]
  exact in_abc c [114, 115]
theorem inL_dec (c : Nat) (l : List Nat) : inL (l.map sgn) (sgn c) = decide (c ∈ l) := by
  rw [Bool.eq_iff_iff, inL_sgn, decide_eq_true_eq]
  constructor
  · rintro ⟨x, hx, e⟩
    rw [sgn_inj e]; exact hx
  · intro h
    exact ⟨c, h, rfl⟩
section
variable {cf : Cf} {n : Nat}
theorem lbond_not {d : D} (h : isiD P.ecs d [.tuple] = some false) : (exs P cf d16.body [some (.dat d), none, none]).map (·.1) = some (.rt (.dat (.bool false))) := by
  simp [d16, exs, exS, ev, evs, tst, getF, get, put, truD, cmpD, bd, bf, sq, rt, lf, lfd, fzs, O.fz, bfD, h]
theorem lbond_len {ds : List D} (hl : ds.length ≠ 4) (h : isiD P.ecs (.tuple ds) [.tuple] = some true) : (exs P cf d16.body [some (.dat (.tuple ds)), none, none]).map (·.1) = some (.rt (.dat (.bool false))) := by
  have e := ne_four hl
  simp [d16, exs, exS, ev, evs, tst, getF, get, put, truD, cmpD, bd, bf, sq, rt, lf, lfd, fzs, O.fz, bfD, h, lenD, e]
theorem lbond_four {k : Nat} {a e b f : D} (ha : gO k a = true) (he : gO k e = true) (hb : gO k b = true) (hf : gO k f = true) (hk : k ≤ 60) (it : isiD P.ecs (.tuple [a, e, b, f]) [.tuple] = some true) :
    (exs P cf d16.body [some (.dat (.tuple [a, e, b, f])), none, none]).map (·.1) = some (.rt (.dat (.bool (bondD (.tuple [a, e, b, f]))))) := by
  have all4 : ∀ d ∈ [a, e, b, f], gO k d = true := by simp [ha, he, hb, hf]
  obtain ⟨y2, el⟩ := s1_loop (cf := cf) (s0 := some (.dat (.tuple [a, e, b, f]))) (s1 := none) [a, e, b, f] [] none (fun d hd => ⟨k, all4 d hd⟩) (by simp)
  obtain ⟨fs, hfs⟩ : ∃ fs, fs = [a, e, b, f].filter fun d => !isS1 d := ⟨_, rfl⟩
  rw [← hfs] at el
  have ei : evi P cf (.any (.var 0)) [some (.dat (.tuple [a, e, b, f])), none, none] = some (.ok [a, e, b, f], [some (.dat (.tuple [a, e, b, f])), none, none]) := by
    simp [evi, ev, getF, get, bd, O.fz, itD]
  have ec := ev_comp (k := .lst) (vs := [2]) ei (by simp [isDat]) el
  have c4 : eqD (.int 4) (.int 4) = some true := by decide
  have hfm : ∀ d ∈ fs, gO k d = true := fun d hd => all4 d (by rw [hfs] at hd; exact (List.mem_filter.mp hd).1)
  have en := eq_nil (cmp_list hfm hk).1
  obtain ⟨cc, hcc⟩ : ∃ cc, cc = E.comp .lst [2] (.nm 2) (.any (.var 0)) ifS1 (.last (.var 2)) := ⟨_, rfl⟩
  have hb16 : d16.body = (.cons (.ife (.or (.nt (.isi (.var 0) [.tuple])) (.cmp .ne (.bf .len (.cons (.var 0) .nil)) (.lit (.int 4)))) (.cons (.ret (.lit (.bool false))) .nil) (.nil))
    (.cons (.set 1 1 cc)
    (.cons (.ife (.cmp .ne (.var 1) (.lst .nil)) (.cons (.ret (.lit (.bool false))) .nil) (.nil))
    (.cons (.ife (.or (.cmp .notin (.idx (.var 0) (.lit (.int 0))) (.lit (.str ⟨#[97, 98, 99, 100, 101, 102, 103, 104]⟩))) (.or (.cmp .notin (.idx (.var 0) (.lit (.int 2))) (.lit (.str ⟨#[97, 98, 99, 100, 101, 102, 103, 104]⟩))) (.cmp .eq (.idx (.var 0) (.lit (.int 0))) (.idx (.var 0) (.lit (.int 2)))))) (.cons (.ret (.lit (.bool false))) .nil) (.nil))
    (.cons (.ret (.and (.cmp .in_ (.idx (.var 0) (.lit (.int 1))) (.lit (.str ⟨#[114, 115]⟩))) (.cmp .in_ (.idx (.var 0) (.lit (.int 3))) (.lit (.str ⟨#[114, 115]⟩))))) .nil))))) := by rw [hcc]; rfl
  rw [← hcc] at ec
  rw [hb16]
  have l4 : lenD (.tuple [a, e, b, f]) = some 4 := rfl
  cases hne : fs with
  | cons g r =>
    have bf0 : bondD (.tuple [a, e, b, f]) = false := by
      cases hB : bondD (.tuple [a, e, b, f]) with
      | false => rfl
      | true =>
        exfalso
        obtain ⟨a', e', b', f', q, _⟩ := (bondD_iff _).1 hB
        simp only [PyData.tuple.injEq, List.cons.injEq, and_true] at q
        obtain ⟨rfl, rfl, rfl, rfl⟩ := q
        have : fs = [] := by rw [hfs]; simp [isS1, sgn, Str.length]
        rw [this] at hne; cases hne
    rw [hne] at ec en
    simp only [List.isEmpty_cons] at en
    simp [exs, exS, ev, evs, tst, getF, get, put, truD, cmpD, bd, bf, sq, rt, lf, lfd, fzs, O.fz, O.frz, bfD, it, l4, c4, ec, collect, restore, fzs_dat, en, bf0]
  | nil =>
    rw [hne] at ec en
    have s1 : ∀ d ∈ [a, e, b, f], isS1 d = true := fun d hd => by
      cases z : isS1 d with
      | true => rfl
      | false =>
        have : d ∈ fs := by rw [hfs]; exact List.mem_filter.mpr ⟨hd, by rw [z]; rfl⟩
        rw [hne] at this; cases this
    obtain ⟨a, rfl⟩ := isS1_iff.mp (s1 a (by simp))
    obtain ⟨e, rfl⟩ := isS1_iff.mp (s1 e (by simp))
    obtain ⟨b, rfl⟩ := isS1_iff.mp (s1 b (by simp))
    obtain ⟨f, rfl⟩ := isS1_iff.mp (s1 f (by simp))
    have i1 := in_abc a abc
    have i2 := in_abc b abc
    have i3 := in_rs e
    have i4 := in_rs f
    have i5 : eqD (sgn a) (sgn b) = some (decide (a = b)) := by
      rw [eq_ok ha hb hk, eqv_sgn]
    have eb : bondD (.tuple [sgn a, sgn e, sgn b, sgn f]) = (decide (a ∈ abc) && decide (b ∈ abc) && !decide (a = b) && decide (e ∈ [115, 114]) && decide (f ∈ [115, 114])) := by
      show (inL (abc.map sgn) (sgn a) && inL (abc.map sgn) (sgn b) && !PyData.eqv (sgn a) (sgn b) && inL ([115, 114].map sgn) (sgn e) && inL ([115, 114].map sgn) (sgn f)) = _
      rw [inL_dec, inL_dec, inL_dec, inL_dec, eqv_sgn]
    rw [eb]
    generalize decide (a ∈ abc) = u1 at i1 ⊢
    generalize decide (b ∈ abc) = u2 at i2 ⊢
    generalize decide (a = b) = u5 at i5 ⊢
    generalize decide (e ∈ [115, 114]) = u3 at i3 ⊢
    generalize decide (f ∈ [115, 114]) = u4 at i4 ⊢
    have i1 : inD (sgn a) (.str ⟨#[97, 98, 99, 100, 101, 102, 103, 104]⟩) = some u1 := i1
    have i2 : inD (sgn b) (.str ⟨#[97, 98, 99, 100, 101, 102, 103, 104]⟩) = some u2 := i2
    have x0 : idxD (.tuple [sgn a, sgn e, sgn b, sgn f]) (.int 0) = some (sgn a) := rfl
    have x1 : idxD (.tuple [sgn a, sgn e, sgn b, sgn f]) (.int 1) = some (sgn e) := rfl
    have x2 : idxD (.tuple [sgn a, sgn e, sgn b, sgn f]) (.int 2) = some (sgn b) := rfl
    have x3 : idxD (.tuple [sgn a, sgn e, sgn b, sgn f]) (.int 3) = some (sgn f) := rfl
    simp only [List.isEmpty_nil] at en
    obtain ⟨T4, hT4⟩ : ∃ T, T = D_ [sgn a, sgn e, sgn b, sgn f] := ⟨_, rfl⟩
    have hT4' : PyData.tuple [sgn a, sgn e, sgn b, sgn f] = T4 := hT4.symm
    rw [hT4'] at it l4 x0 x1 x2 x3 ec ⊢
    have h1 : exS P cf (.ife (.or (.nt (.isi (.var 0) [.tuple])) (.cmp .ne (.bf .len (.cons (.var 0) .nil)) (.lit (.int 4)))) (.cons (.ret (.lit (.bool false))) .nil) (.nil)) [some (.dat T4), none, none] = some (.nx, [some (.dat T4), none, none]) := by
      simp [exs, exS, ev, evs, tst, getF, get, put, truD, cmpD, bd, bf, rt, lf, lfd, fzs, O.fz, bfD, it, l4, c4]
    have h2 : exS P cf (.set 1 1 cc) [some (.dat T4), none, none] = some (.nx, [some (.dat T4), some (.dat (.list [])), none]) := by
      simp [exS, ec, collect, restore, lf, bf, put, O.frz, O.fz, fzs]
    have h3 : exS P cf (.ife (.cmp .ne (.var 1) (.lst .nil)) (.cons (.ret (.lit (.bool false))) .nil) (.nil)) [some (.dat T4), some (.dat (.list [])), none] = some (.nx, [some (.dat T4), some (.dat (.list [])), none]) := by
      simp [exs, exS, ev, evs, tst, getF, get, truD, cmpD, bd, bf, rt, lf, lfd, fzs, O.fz, en]
    rw [exs_cons, h1, sq_nx, exs_cons, h2, sq_nx, exs_cons, h3, sq_nx]
    cases u1 <;> cases u2 <;> cases u5 <;> (try cases u3) <;> (try cases u4) <;>
      simp [exs, exS, ev, evs, tst, getF, get, put, truD, cmpD, bd, bf, sq, rt, lf, lfd, O.fz, i1, i2, i3, i4, i5, x0, x1, x2, x3]
theorem lbond_all {k : Nat} {d : D} (h : gO k d = true) (hk : k ≤ 60) : (exs P cf d16.body [some (.dat d), none, none]).map (·.1) = some (.rt (.dat (.bool (bondD d)))) := by
  have it := isT h
  cases d with
  | tuple ds =>
    obtain ⟨m, rfl⟩ := gO_pos h
    obtain ⟨_, hi⟩ := gO_items h
    rcases four_or ds with ⟨a, e, b, f, rfl⟩ | hl
    · exact lbond_four (hi a (by simp)) (hi e (by simp)) (hi b (by simp)) (hi f (by simp)) (by omega) it
    · rw [bondD_len hl]
      exact lbond_len hl it
  | none => exact lbond_not it
  | bool _ => exact lbond_not it
  | int _ => exact lbond_not it
  | str _ => exact lbond_not it
  | list _ => exact lbond_not it
  | dict _ => exact lbond_not it
theorem law_is_bond_ok {k : Nat} {d : D} (h : gO k d = true) (hk : k ≤ 60) : callF P (n + 1) 16 [.dat d] = some (.ok (.dat (.bool (bondD d))), [none]) :=
  call_of (df := d16) (m := 2) rfl rfl rfl rfl rfl (lbond_all h hk)
end
section
variable {cf : Cf} {n : Nat}
theorem all_loop {x : Str} {i : Nat} {g : D → Bool} {s0 : Option O} : ∀ (ds : List D) (acc : List O) (x1 : Option O), (∀ d ∈ ds, cf i [.dat d] = some (.ok (.dat (.bool (g d))), [none])) → acc.length + ds.length < 1000 → ∃ y1,
    eachG (compT P cf [1] (.nm 1) .nil (.last (.call x i (.val (.var 1) .nil)))) ds [s0, x1] acc = some (acc ++ ds.map (fun d => .dat (.bool (g d))), [s0, y1])
  | [], acc, x1, _, _ => ⟨x1, by simp [eachG]⟩
  | d :: ds, acc, x1, h, hz => by
    rw [List.length_cons] at hz
    have hd := h d List.mem_cons_self
    obtain ⟨y1, e⟩ := all_loop (x := x) (s0 := s0) ds (acc ++ [.dat (.bool (g d))]) (some (.dat d)) (fun d' h' => h d' (List.mem_cons_of_mem _ h')) (by simp; omega)
    refine ⟨y1, ?_⟩
    rw [eachG_cons (acc' := acc ++ [.dat (.bool (g d))]) (s' := [s0, some (.dat d)]), e]
    · simp
    · simp [compT, asg, wipe, evc, evg, ev, eva, getF, get, put, bd, rt, O.fz, lend, callD, lentOf, back, hd, show acc.length < top by unfold top; omega]
theorem tests_map {α : Type} (g : α → Bool) : ∀ ds : List α, tests (fzs (ds.map fun d => O.dat (.bool (g d)))) = some (ds.map g)
  | [] => rfl
  | d :: ds => by
    show (tests (fzs (ds.map fun d => O.dat (.bool (g d))))).map (g d :: ·) = _
    rw [tests_map g ds]; rfl
theorem not_loop {x : Str} {i : Nat} {g : D → Bool} {s0 : Option O} : ∀ (ds : List D) (acc : List O) (x1 : Option O), (∀ d ∈ ds, cf i [.dat d] = some (.ok (.dat (.bool (g d))), [none])) → acc.length + ds.length < 1000 → ∃ y1,
    eachG (compT P cf [1] (.nm 1) (.cons (.nt (.call x i (.val (.var 1) .nil))) .nil) (.last (.var 1))) ds [s0, x1] acc = some (acc ++ (ds.filter fun d => !g d).map .dat, [s0, y1])
  | [], acc, x1, _, _ => ⟨x1, by simp [eachG]⟩
  | d :: ds, acc, x1, h, hz => by
    rw [List.length_cons] at hz
    have hd := h d List.mem_cons_self
    cases hg : g d with
    | true =>
      obtain ⟨y1, e⟩ := not_loop (x := x) (s0 := s0) ds acc (some (.dat d)) (fun d' h' => h d' (List.mem_cons_of_mem _ h')) (by omega)
      refine ⟨y1, ?_⟩
      rw [hg] at hd
      rw [eachG_cons (acc' := acc) (s' := [s0, some (.dat d)]), e]
      · simp [hg]
      · simp [compT, asg, wipe, evc, evg, ev, eva, tst, truD, getF, get, put, bd, rt, lfd, O.fz, lend, callD, lentOf, back, hd]
    | false =>
      obtain ⟨y1, e⟩ := not_loop (x := x) (s0 := s0) ds (acc ++ [.dat d]) (some (.dat d)) (fun d' h' => h d' (List.mem_cons_of_mem _ h')) (by simp; omega)
      refine ⟨y1, ?_⟩
      rw [hg] at hd
      rw [eachG_cons (acc' := acc ++ [.dat d]) (s' := [s0, some (.dat d)]), e]
      · simp [hg]
      · simp [compT, asg, wipe, evc, evg, ev, eva, tst, truD, getF, get, put, bd, rt, lfd, O.fz, lend, callD, lentOf, back, hd, show acc.length < top by unfold top; omega]
/-! ascending -/
def adjL : List D → List Bool
  | x :: y :: r => PySem.W.dataLt x y :: adjL (y :: r)
  | _ => []
theorem adj_all : ∀ ds : List D, (adjL ds).all id = ascD ds
  | [] => rfl
  | [_] => rfl
  | x :: y :: r => by
    show (PySem.W.dataLt x y && (adjL (y :: r)).all id) = _
    rw [adj_all (y :: r)]; rfl
theorem adj_loop {s0 : Option O} : ∀ (ds : List D) (acc : List O) (x1 x2 : Option O), (∀ c ∈ ds, ∀ d ∈ ds, ltD c d = some (PySem.W.dataLt c d)) → acc.length + ds.length < 1000 → ∃ y1 y2,
    eachG (compT P cf [1, 2] (.tup [1, 2]) .nil (.last (.cmp .lt (.var 1) (.var 2)))) (zipD ds (ds.drop 1)) [s0, x1, x2] acc = some (acc ++ (adjL ds).map (fun b => .dat (.bool b)), [s0, y1, y2])
  | [], acc, x1, x2, _, _ => ⟨x1, x2, by simp [zipD, eachG, adjL]⟩
  | [d], acc, x1, x2, _, _ => ⟨x1, x2, by simp [zipD, eachG, adjL]⟩
  | c :: d :: r, acc, x1, x2, h, hz => by
    rw [List.length_cons] at hz
    have hl := h c (by simp) d (by simp)
    obtain ⟨y1, y2, e⟩ := adj_loop (s0 := s0) (d :: r) (acc ++ [.dat (.bool (PySem.W.dataLt c d))]) (some (.dat c)) (some (.dat d)) (fun a ha b hb => h a (List.mem_cons_of_mem _ ha) b (List.mem_cons_of_mem _ hb)) (by simp at hz ⊢; omega)
    refine ⟨y1, y2, ?_⟩
    show eachG _ (.tuple [c, d] :: zipD (d :: r) r) _ _ = _
    have e' : eachG (compT P cf [1, 2] (.tup [1, 2]) .nil (.last (.cmp .lt (.var 1) (.var 2)))) (zipD (d :: r) r) [s0, some (.dat c), some (.dat d)] (acc ++ [.dat (.bool (PySem.W.dataLt c d))]) = _ := e
    rw [eachG_cons (acc' := acc ++ [.dat (.bool (PySem.W.dataLt c d))]) (s' := [s0, some (.dat c), some (.dat d)]), e']
    · simp [adjL]
    · simp [compT, asg, wipe, putsD, evc, evg, ev, getF, get, put, bd, rt, lfd, O.fz, cmpD, hl, show acc.length < top by unfold top; omega]
theorem asc_ok {ds : List D} (h : ∀ c ∈ ds, ∀ d ∈ ds, ltD c d = some (PySem.W.dataLt c d)) (hz : ds.length ≤ 60) : callF P (n + 1) 2 [.dat (.tuple ds)] = some (.ok (.dat (.bool (ascD ds))), [none]) := by
  refine call_of (df := d2) (m := 2) rfl rfl rfl rfl rfl ?_
  obtain ⟨y1, y2, e⟩ := adj_loop (cf := callF P n) (s0 := some (.dat (.tuple ds))) ds [] none none h (by simp; omega)
  have ce : cutL ds (some 1) none = ds.drop 1 := by
    cases ds with
    | nil => rfl
    | cons x r => exact cut_hi (x :: r) (z := 1) (by omega) (by simp only [List.length_cons]; omega)
  have ei : evi P (callF P n) (.zip (.var 0) (.slc (.var 0) (.some (.lit (.int 1))) .none)) [some (.dat (.tuple ds)), none, none] = some (.ok (zipD ds (ds.drop 1)), [some (.dat (.tuple ds)), none, none]) := by
    simp [evi, ev, evo, getF, get, bd, rt, O.fz, lf, slcD, optI, ce, itS]
  have e2 := ev_comp (k := .lst) (vs := [1, 2]) ei (by simp [isDat]) e
  have et := tests_map (fun b : Bool => b) (adjL ds)
  have ea := adj_all ds
  obtain ⟨cc, hcc⟩ : ∃ cc, cc = E.comp .lst [1, 2] (.tup [1, 2]) (.zip (.var 0) (.slc (.var 0) (.some (.lit (.int 1))) .none)) .nil (.last (.cmp .lt (.var 1) (.var 2))) := ⟨_, rfl⟩
  have hb2 : d2.body = (.cons (.ret (.bf .all (.cons cc .nil))) .nil) := by rw [hcc]; rfl
  rw [← hcc] at e2
  rw [hb2]
  have bt : bfD .all [.list (fzs ((adjL ds).map fun b => O.dat (.bool b)))] = some (.dat (.bool (ascD ds))) := by
    show (tests _).map _ = _
    rw [et, ← ea]; simp
  simp [exs, exS, ev, evs, bd, bf, sq, rt, lf, e2, collect, restore, fzs, O.fz, bt]
end
def patD : D → Bool
  | .tuple ds => !ds.isEmpty && ds.all bondD && ascD ds
  | _ => false
def wishD : D → Bool
  | .tuple ds => ds.all patD && ascD ds
  | _ => false
theorem lt_okD {c d : D} (h1 : PySem.W.alike c d = true) (h2 : noneD c = false) (h3 : c.depth ≤ 64) (h4 : plainD c = true) (h5 : plainD d = true) : ltD c d = some (PySem.W.dataLt c d) := by
  unfold ltD
  rw [h1, h2, h4, h5, decide_eq_true h3]; rfl
theorem bond_lt {c d : D} (h : bondD c = true) (g : bondD d = true) : ltD c d = some (PySem.W.dataLt c d) := by
  have a := (bondD_iff c).1 h
  have b := (bondD_iff d).1 g
  refine lt_okD (a.alike b) ?_ (by rw [a.depth]; decide) a.plain b.plain
  obtain ⟨_, _, _, _, rfl, _⟩ := a
  rfl
/-- what a pattern is like -/
theorem pat_shape {d : D} (h : patD d = true) : ∃ ds, d = .tuple ds ∧ ds ≠ [] ∧ (∀ c ∈ ds, bondD c = true) ∧ ascD ds = true := by
  cases d <;> simp [patD] at h
  rename_i ds
  exact ⟨ds, rfl, h.1.1, h.1.2, h.2⟩
theorem memAll_of : ∀ {l : List D}, (∀ d ∈ l, memOk d = true) → memAll l = true
  | [], _ => rfl
  | x :: r, h => by rw [memAll, h x List.mem_cons_self, memAll_of fun d hd => h d (List.mem_cons_of_mem _ hd)]; rfl
theorem alikeAll_of : ∀ {l m : List D}, (∀ c ∈ l, ∀ d ∈ m, PySem.W.alike c d = true) → PySem.W.alikeAll l m = true
  | [], _, _ => by cases ‹List D› <;> rfl
  | _ :: _, [], _ => rfl
  | x :: l, y :: m, h => by
    rw [PySem.W.alikeAll, h x List.mem_cons_self y List.mem_cons_self, alikeAll_of fun c hc d hd => h c (List.mem_cons_of_mem _ hc) d (List.mem_cons_of_mem _ hd)]; rfl
theorem depthAll_of {m : Nat} : ∀ {l : List D}, (∀ d ∈ l, d.depth ≤ m) → PyData.depthAll l ≤ m
  | [], _ => by simp [PyData.depthAll]
  | x :: r, h => by
    rw [PyData.depthAll]
    have a := h x List.mem_cons_self
    have b := depthAll_of fun d hd => h d (List.mem_cons_of_mem _ hd)
    omega
theorem pat_facts {d : D} (h : patD d = true) : memOk d = true ∧ tupNE d = true ∧ d.depth ≤ 2 ∧ plainD d = true ∧ noneD d = false := by
  obtain ⟨ds, rfl, hne, hb, _⟩ := pat_shape h
  have hm : memOk (.tuple ds) = true := by
    show memAll ds = true
    exact memAll_of fun d hd => ((bondD_iff d).1 (hb d hd)).mem
  refine ⟨hm, ?_, ?_, plain_mem _ hm, rfl⟩
  · cases ds with
    | nil => exact absurd rfl hne
    | cons _ _ => rfl
  · rw [PyData.depth]
    have := depthAll_of (m := 1) fun d hd => Nat.le_of_eq ((bondD_iff d).1 (hb d hd)).depth
    omega
theorem pat_alike {c d : D} (h : patD c = true) (g : patD d = true) : PySem.W.alike c d = true := by
  obtain ⟨cs, rfl, _, hc, _⟩ := pat_shape h
  obtain ⟨ds, rfl, _, hd, _⟩ := pat_shape g
  show PySem.W.alikeAll cs ds = true
  exact alikeAll_of fun a ha b hb => ((bondD_iff a).1 (hc a ha)).alike ((bondD_iff b).1 (hd b hb))
theorem pat_lt {c d : D} (h : patD c = true) (g : patD d = true) : ltD c d = some (PySem.W.dataLt c d) := by
  obtain ⟨_, _, a3, a4, a5⟩ := pat_facts h
  obtain ⟨_, _, _, b4, _⟩ := pat_facts g
  exact lt_okD (pat_alike h g) a5 (by omega) a4 b4
section
variable {n : Nat}
theorem all_id {α : Type} (g : α → Bool) : ∀ ds : List α, (ds.map g).all id = ds.all g
  | [] => rfl
  | d :: ds => by rw [List.map_cons, List.all_cons, List.all_cons, all_id g ds]; rfl
/-- all(f(m) for m in thing) and ascending: a tuple -/
theorem both_run {i : Nat} {x : Str} {g : D → Bool} {ds : List D} (hg : ∀ d ∈ ds, callF P (n + 1) i [.dat d] = some (.ok (.dat (.bool (g d))), [none])) (hl : ∀ c ∈ ds, ∀ d ∈ ds, g c = true → g d = true → ltD c d = some (PySem.W.dataLt c d)) (hz : ds.length ≤ 60) :
    (exs P (callF P (n + 1)) (.cons (.ret (.and (.bf .all (.cons (.comp .lst [1] (.nm 1) (.any (.var 0)) .nil (.last (.call x i (.val (.var 1) .nil)))) .nil)) (.call "_is_ascending" 2 (.val (.var 0) .nil)))) .nil) [some (.dat (.tuple ds)), none]).map (·.1) = some (.rt (.dat (.bool (ds.all g && ascD ds)))) := by
  obtain ⟨y1, e⟩ := all_loop (cf := callF P (n + 1)) (x := x) (s0 := some (.dat (.tuple ds))) ds [] none hg (by simp; omega)
  have ei : evi P (callF P (n + 1)) (.any (.var 0)) [some (.dat (.tuple ds)), none] = some (.ok ds, [some (.dat (.tuple ds)), none]) := by
    simp [evi, ev, getF, get, bd, O.fz, itD]
  have e2 := ev_comp (k := .lst) (vs := [1]) ei (by simp [isDat]) e
  have et := tests_map g ds
  obtain ⟨cc, hcc⟩ : ∃ cc, cc = E.comp .lst [1] (.nm 1) (.any (.var 0)) .nil (.last (.call x i (.val (.var 1) .nil))) := ⟨_, rfl⟩
  rw [← hcc] at e2 ⊢
  have bt : bfD .all [.list (fzs (ds.map fun d => O.dat (.bool (g d))))] = some (.dat (.bool (ds.all g))) := by
    show (tests _).map _ = _
    rw [et, ← all_id]; rfl
  cases ha : ds.all g with
  | false =>
    rw [ha] at bt
    simp [exs, exS, ev, evs, bd, bf, sq, rt, lf, e2, collect, restore, fzs, O.fz, bt, truD]
  | true =>
    rw [ha] at bt
    have ca := asc_ok (n := n) (fun c hc d hd => hl c hc d hd (List.all_eq_true.mp ha c hc) (List.all_eq_true.mp ha d hd)) hz
    simp [exs, exS, ev, evs, eva, bd, bf, sq, rt, lf, e2, collect, restore, fzs, O.fz, bt, truD, getF, get, lend, callD, lentOf, back, ca]
theorem eq_zero (m : Nat) : eqD (.int (m : Int)) (.int 0) = some (decide (m = 0)) := by
  unfold eqD
  rw [if_pos (by simp [cmpOk, plainD, PyData.depth])]
  simp [PyData.eqv]
  rw [Bool.eq_iff_iff]
  simp
theorem is_pattern_ok {k : Nat} {d : D} (h : gO k d = true) (hk : k ≤ 60) : callF P (n + 2) 3 [.dat d] = some (.ok (.dat (.bool (patD d))), [none]) := by
  have it := isT h
  refine call_of (df := d3) (m := 1) rfl rfl rfl rfl rfl ?_
  cases d with
  | tuple ds =>
    obtain ⟨m, rfl⟩ := gO_pos h
    obtain ⟨hz, hi⟩ := gO_items h
    have br := both_run (n := n) (x := "is_bond") (i := 1) (g := bondD) (fun d hd => is_bond_ok (n := n) (hi d hd) (by omega)) (fun c hc d hd a b => bond_lt a b) hz
    have z0 := eq_zero ds.length
    have it2 : isiD P.ecs (.tuple ds) [.tuple] = some true := it
    have h1 : exS P (callF P (n + 1)) (.ife (.or (.nt (.isi (.var 0) [.tuple])) (.cmp .eq (.bf .len (.cons (.var 0) .nil)) (.lit (.int 0)))) (.cons (.ret (.lit (.bool false))) .nil) (.nil)) [some (.dat (.tuple ds)), none] =
        if ds.length = 0 then some (.rt (.dat (.bool false)), [some (.dat (.tuple ds)), none]) else some (.nx, [some (.dat (.tuple ds)), none]) := by
      by_cases e0 : ds.length = 0
      · rw [decide_eq_true e0] at z0
        rw [if_pos e0]
        have z1 : eqD (.int 0) (.int 0) = some true := by decide
        simp [exs, exS, ev, evs, tst, getF, get, truD, cmpD, bd, bf, sq, rt, lf, lfd, fzs, O.fz, bfD, it2, lenD, e0, z1]
      · rw [decide_eq_false e0] at z0
        rw [if_neg e0]
        simp [exs, exS, ev, evs, tst, getF, get, truD, cmpD, bd, bf, sq, rt, lf, lfd, fzs, O.fz, bfD, it2, lenD, z0]
    show (sq (exS P (callF P (n + 1)) _ [some (.dat (.tuple ds)), none]) fun s => exs P (callF P (n + 1)) _ s).map (·.1) = _
    rw [h1]
    by_cases e0 : ds.length = 0
    · rw [if_pos e0]
      have : ds = [] := List.length_eq_zero_iff.mp e0
      subst this
      rfl
    · rw [if_neg e0, sq_nx]
      have hp : patD (.tuple ds) = (ds.all bondD && ascD ds) := by
        cases ds with
        | nil => exact absurd rfl e0
        | cons _ _ => simp [patD]
      rw [hp]
      exact br
  | none => simp [d3, exs, exS, ev, evs, tst, getF, get, truD, bd, bf, sq, rt, lf, lfd, fzs, O.fz, it, tupAny, patD]
  | bool _ => simp [d3, exs, exS, ev, evs, tst, getF, get, truD, bd, bf, sq, rt, lf, lfd, fzs, O.fz, it, tupAny, patD]
  | int _ => simp [d3, exs, exS, ev, evs, tst, getF, get, truD, bd, bf, sq, rt, lf, lfd, fzs, O.fz, it, tupAny, patD]
  | str _ => simp [d3, exs, exS, ev, evs, tst, getF, get, truD, bd, bf, sq, rt, lf, lfd, fzs, O.fz, it, tupAny, patD]
  | list _ => simp [d3, exs, exS, ev, evs, tst, getF, get, truD, bd, bf, sq, rt, lf, lfd, fzs, O.fz, it, tupAny, patD]
  | dict _ => simp [d3, exs, exS, ev, evs, tst, getF, get, truD, bd, bf, sq, rt, lf, lfd, fzs, O.fz, it, tupAny, patD]
theorem is_wish_ok {k : Nat} {d : D} (h : gO k d = true) (hk : k ≤ 60) : callF P (n + 3) 4 [.dat d] = some (.ok (.dat (.bool (wishD d))), [none]) := by
  have it := isT h
  refine call_of (df := d4) (m := 1) rfl rfl rfl rfl rfl ?_
  cases d with
  | tuple ds =>
    obtain ⟨m, rfl⟩ := gO_pos h
    obtain ⟨hz, hi⟩ := gO_items h
    have br := both_run (n := n + 1) (x := "is_pattern") (i := 3) (g := patD) (fun d hd => is_pattern_ok (n := n) (hi d hd) (by omega)) (fun c hc d hd a b => pat_lt a b) hz
    have it2 : isiD P.ecs (.tuple ds) [.tuple] = some true := it
    have h1 : exS P (callF P (n + 2)) (.ife (.nt (.isi (.var 0) [.tuple])) (.cons (.ret (.lit (.bool false))) .nil) (.nil)) [some (.dat (.tuple ds)), none] = some (.nx, [some (.dat (.tuple ds)), none]) := by
      simp [exs, exS, ev, evs, tst, getF, get, truD, bd, bf, sq, rt, lf, lfd, fzs, O.fz, it2]
    show (sq (exS P (callF P (n + 2)) _ [some (.dat (.tuple ds)), none]) fun s => exs P (callF P (n + 2)) _ s).map (·.1) = _
    rw [h1, sq_nx]
    exact br
  | none => simp [d4, exs, exS, ev, evs, tst, getF, get, truD, bd, bf, sq, rt, lf, lfd, fzs, O.fz, it, tupAny, wishD]
  | bool _ => simp [d4, exs, exS, ev, evs, tst, getF, get, truD, bd, bf, sq, rt, lf, lfd, fzs, O.fz, it, tupAny, wishD]
  | int _ => simp [d4, exs, exS, ev, evs, tst, getF, get, truD, bd, bf, sq, rt, lf, lfd, fzs, O.fz, it, tupAny, wishD]
  | str _ => simp [d4, exs, exS, ev, evs, tst, getF, get, truD, bd, bf, sq, rt, lf, lfd, fzs, O.fz, it, tupAny, wishD]
  | list _ => simp [d4, exs, exS, ev, evs, tst, getF, get, truD, bd, bf, sq, rt, lf, lfd, fzs, O.fz, it, tupAny, wishD]
  | dict _ => simp [d4, exs, exS, ev, evs, tst, getF, get, truD, bd, bf, sq, rt, lf, lfd, fzs, O.fz, it, tupAny, wishD]
end
section
variable {n : Nat}
/-- list(x) == sorted(set(x)) -/
theorem srt_run {cf : Cf} {ds : List D} (h1 : ∀ d ∈ ds, memOk d = true) (h2 : ∀ d ∈ ds, tupNE d = true) (h3 : ∀ d ∈ ds, d.depth ≤ 8) (h4 : ∀ c ∈ ds, ∀ d ∈ ds, PySem.W.alike c d = true) (hz : ds.length < 64) {r : Option O} :
    exs P cf (.cons (.ret (.cmp .eq (.bf .list (.cons (.var 0) .nil)) (.sset .sorted (.var 0)))) .nil) [some (.dat (.tuple ds)), r] = some (.rt (.dat (.bool (ascD ds))), [some (.dat (.tuple ds)), r]) := by
  obtain ⟨_, ss⟩ := sset_tups h1 h2 h3 h4 hz
  have sub : ∀ d ∈ isort (dedup [] ds), d ∈ ds := fun d hd => by
    obtain ⟨_, hm⟩ := dedup_mem ds [] h1 (fun d h => by cases h) List.nodup_nil
    have := (hm d).1 ((isort_perm _).mem_iff.mp hd)
    simpa using this
  have ck : ∀ l : List D, (∀ d ∈ l, d ∈ ds) → cmpOk (.list l) = true := fun l hl => by
    have m : memOk (.tuple l) = true := memAll_of fun d hd => h1 d (hl d hd)
    have p := plain_mem _ m
    have dp := depthAll_of (m := 8) fun d hd => h3 d (hl d hd)
    unfold cmpOk
    rw [show plainD (.list l) = plainD (.tuple l) from rfl, p, decide_eq_true (by rw [PyData.depth]; omega)]; rfl
  have e : eqD (.list ds) (.list (isort (dedup [] ds))) = some (ascD ds) := by
    unfold eqD
    rw [ck ds fun d hd => hd, ck _ sub, asc_sorted h1 h4]; rfl
  have bl : bfD .list [.tuple ds] = some (.lst (ds.map .dat)) := rfl
  simp [exs, exS, ev, evs, getF, get, bd, bf, sq, rt, lf, lfd, fzs, O.fz, bl, ss, cmpD, fzs_dat, e]
theorem filt_nil {g : D → Bool} {ds : List D} : (ds.filter fun d => !g d).isEmpty = ds.all g := by
  induction ds with
  | nil => rfl
  | cons x r ih =>
    rw [List.filter_cons, List.all_cons]
    cases hx : g x with
    | true => simp only [Bool.not_true, Bool.false_eq_true, if_false, Bool.true_and]; exact ih
    | false => simp
theorem filt_run {cf : Cf} {i : Nat} {x : Str} {g : D → Bool} {ds : List D} {k : Nat} (hg : ∀ d ∈ ds, cf i [.dat d] = some (.ok (.dat (.bool (g d))), [none])) (hi : ∀ d ∈ ds, gO k d = true) (hk : k ≤ 60) (hz : ds.length ≤ 60) :
    ev P cf (.cmp .ne (.comp .lst [1] (.nm 1) (.any (.var 0)) (.cons (.nt (.call x i (.val (.var 1) .nil))) .nil) (.last (.var 1))) (.lst .nil)) [some (.dat (.tuple ds)), none] = some (.ok (.dat (.bool (!ds.all g))), [some (.dat (.tuple ds)), none]) := by
  obtain ⟨y1, e⟩ := not_loop (cf := cf) (x := x) (s0 := some (.dat (.tuple ds))) ds [] none hg (by simp; omega)
  have ei : evi P cf (.any (.var 0)) [some (.dat (.tuple ds)), none] = some (.ok ds, [some (.dat (.tuple ds)), none]) := by
    simp [evi, ev, getF, get, bd, O.fz, itD]
  have e2 := ev_comp (k := .lst) (vs := [1]) ei (by simp [isDat]) e
  obtain ⟨cc, hcc⟩ : ∃ cc, cc = E.comp .lst [1] (.nm 1) (.any (.var 0)) (.cons (.nt (.call x i (.val (.var 1) .nil))) .nil) (.last (.var 1)) := ⟨_, rfl⟩
  rw [← hcc] at e2 ⊢
  have en := eq_nil (cmp_list (ds := ds.filter fun d => !g d) (fun d hd => hi d (List.mem_filter.mp hd).1) hk).1
  rw [filt_nil] at en
  simp [ev, evs, e2, collect, restore, lf, lfd, bd, rt, O.fz, fzs, fzs_dat, cmpD, en]
theorem law_is_pattern_ok {k : Nat} {d : D} (h : gO k d = true) (hk : k ≤ 60) : callF P (n + 2) 17 [.dat d] = some (.ok (.dat (.bool (patD d))), [none]) := by
  have it := isT h
  refine call_of (df := d17) (m := 1) rfl rfl rfl rfl rfl ?_
  cases d with
  | tuple ds =>
    obtain ⟨m, rfl⟩ := gO_pos h
    obtain ⟨hz, hi⟩ := gO_items h
    have it2 : isiD P.ecs (.tuple ds) [.tuple] = some true := it
    have fr := filt_run (cf := callF P (n + 1)) (x := "_law_is_bond") (i := 16) (g := bondD) (fun d hd => law_is_bond_ok (n := n) (hi d hd) (by omega)) hi (by omega) hz
    obtain ⟨cc, hcc⟩ : ∃ cc, cc = E.cmp .ne (.comp .lst [1] (.nm 1) (.any (.var 0)) (.cons (.nt (.call "_law_is_bond" 16 (.val (.var 1) .nil))) .nil) (.last (.var 1))) (.lst .nil) := ⟨_, rfl⟩
    rw [← hcc] at fr
    have e0 : eqD (.tuple ds) (.tuple []) = some ds.isEmpty := by
      unfold eqD
      rw [(cmp_list hi (by omega)).2]
      cases ds <;> simp [PyData.eqv, PyData.eqvAll, cmpOk, plainD, plainAll, PyData.depth, PyData.depthAll]
    have h1 : exS P (callF P (n + 1)) (.ife (.or (.nt (.isi (.var 0) [.tuple])) (.or (.cmp .eq (.var 0) (.tup .nil)) cc)) (.cons (.ret (.lit (.bool false))) .nil) (.nil)) [some (.dat (.tuple ds)), none] =
        if (!ds.isEmpty && ds.all bondD) = true then some (.nx, [some (.dat (.tuple ds)), none]) else some (.rt (.dat (.bool false)), [some (.dat (.tuple ds)), none]) := by
      cases he : ds.isEmpty with
      | true =>
        rw [he] at e0
        simp [exs, exS, ev, evs, tst, getF, get, truD, cmpD, bd, bf, sq, rt, lf, lfd, fzs, O.fz, it2, e0]
      | false =>
        rw [he] at e0
        cases hb : ds.all bondD with
        | true =>
          rw [hb] at fr
          simp [exs, exS, ev, evs, tst, getF, get, truD, cmpD, bd, bf, sq, rt, lf, lfd, fzs, O.fz, it2, e0, fr]
        | false =>
          rw [hb] at fr
          simp [exs, exS, ev, evs, tst, getF, get, truD, cmpD, bd, bf, sq, rt, lf, lfd, fzs, O.fz, it2, e0, fr]
    have hb17 : d17.body = (.cons (.ife (.or (.nt (.isi (.var 0) [.tuple])) (.or (.cmp .eq (.var 0) (.tup .nil)) cc)) (.cons (.ret (.lit (.bool false))) .nil) (.nil)) (.cons (.ret (.cmp .eq (.bf .list (.cons (.var 0) .nil)) (.sset .sorted (.var 0)))) .nil)) := by rw [hcc]; rfl
    rw [hb17]
    show (sq (exS P (callF P (n + 1)) _ [some (.dat (.tuple ds)), none]) fun s => exs P (callF P (n + 1)) _ s).map (·.1) = _
    rw [h1]
    cases hb : (!ds.isEmpty && ds.all bondD) with
    | true =>
      rw [if_pos rfl, sq_nx]
      have ha : ∀ d ∈ ds, bondD d = true := List.all_eq_true.mp (by simp only [Bool.and_eq_true] at hb; exact hb.2)
      have bp := fun d hd => (bondD_iff d).1 (ha d hd)
      rw [srt_run (fun d hd => (bp d hd).mem) (fun d hd => (bp d hd).ne) (fun d hd => by rw [(bp d hd).depth]; decide) (fun c hc d hd => (bp c hc).alike (bp d hd)) (by omega)]
      have : patD (.tuple ds) = ascD ds := by show (!ds.isEmpty && ds.all bondD && ascD ds) = _; rw [hb]; rfl
      rw [this]; rfl
    | false =>
      rw [if_neg (by decide)]
      have : patD (.tuple ds) = false := by show (!ds.isEmpty && ds.all bondD && ascD ds) = _; rw [hb]; rfl
      rw [this]; rfl
  | none => simp [d17, exs, exS, ev, evs, tst, getF, get, truD, bd, bf, sq, rt, lf, lfd, fzs, O.fz, it, tupAny, patD]
  | bool _ => simp [d17, exs, exS, ev, evs, tst, getF, get, truD, bd, bf, sq, rt, lf, lfd, fzs, O.fz, it, tupAny, patD]
  | int _ => simp [d17, exs, exS, ev, evs, tst, getF, get, truD, bd, bf, sq, rt, lf, lfd, fzs, O.fz, it, tupAny, patD]
  | str _ => simp [d17, exs, exS, ev, evs, tst, getF, get, truD, bd, bf, sq, rt, lf, lfd, fzs, O.fz, it, tupAny, patD]
  | list _ => simp [d17, exs, exS, ev, evs, tst, getF, get, truD, bd, bf, sq, rt, lf, lfd, fzs, O.fz, it, tupAny, patD]
  | dict _ => simp [d17, exs, exS, ev, evs, tst, getF, get, truD, bd, bf, sq, rt, lf, lfd, fzs, O.fz, it, tupAny, patD]
theorem law_is_wish_ok {k : Nat} {d : D} (h : gO k d = true) (hk : k ≤ 60) : callF P (n + 3) 18 [.dat d] = some (.ok (.dat (.bool (wishD d))), [none]) := by
  have it := isT h
  refine call_of (df := d18) (m := 1) rfl rfl rfl rfl rfl ?_
  cases d with
  | tuple ds =>
    obtain ⟨m, rfl⟩ := gO_pos h
    obtain ⟨hz, hi⟩ := gO_items h
    have it2 : isiD P.ecs (.tuple ds) [.tuple] = some true := it
    have fr := filt_run (cf := callF P (n + 2)) (x := "_law_is_pattern") (i := 17) (g := patD) (fun d hd => law_is_pattern_ok (n := n) (hi d hd) (by omega)) hi (by omega) hz
    obtain ⟨cc, hcc⟩ : ∃ cc, cc = E.cmp .ne (.comp .lst [1] (.nm 1) (.any (.var 0)) (.cons (.nt (.call "_law_is_pattern" 17 (.val (.var 1) .nil))) .nil) (.last (.var 1))) (.lst .nil) := ⟨_, rfl⟩
    rw [← hcc] at fr
    have h1 : exS P (callF P (n + 2)) (.ife (.or (.nt (.isi (.var 0) [.tuple])) cc) (.cons (.ret (.lit (.bool false))) .nil) (.nil)) [some (.dat (.tuple ds)), none] =
        if ds.all patD = true then some (.nx, [some (.dat (.tuple ds)), none]) else some (.rt (.dat (.bool false)), [some (.dat (.tuple ds)), none]) := by
      cases hb : ds.all patD with
      | true =>
        rw [hb] at fr
        simp [exs, exS, ev, evs, tst, getF, get, truD, bd, bf, sq, rt, lf, lfd, fzs, O.fz, it2, fr]
      | false =>
        rw [hb] at fr
        simp [exs, exS, ev, evs, tst, getF, get, truD, bd, bf, sq, rt, lf, lfd, fzs, O.fz, it2, fr]
    have hb18 : d18.body = (.cons (.ife (.or (.nt (.isi (.var 0) [.tuple])) cc) (.cons (.ret (.lit (.bool false))) .nil) (.nil)) (.cons (.ret (.cmp .eq (.bf .list (.cons (.var 0) .nil)) (.sset .sorted (.var 0)))) .nil)) := by rw [hcc]; rfl
    rw [hb18]
    show (sq (exS P (callF P (n + 2)) _ [some (.dat (.tuple ds)), none]) fun s => exs P (callF P (n + 2)) _ s).map (·.1) = _
    rw [h1]
    cases hb : ds.all patD with
    | true =>
      rw [if_pos rfl, sq_nx]
      have ha : ∀ d ∈ ds, patD d = true := List.all_eq_true.mp hb
      rw [srt_run (fun d hd => (pat_facts (ha d hd)).1) (fun d hd => (pat_facts (ha d hd)).2.1) (fun d hd => Nat.le_trans (pat_facts (ha d hd)).2.2.1 (by decide)) (fun c hc d hd => pat_alike (ha c hc) (ha d hd)) (by omega)]
      have : wishD (.tuple ds) = ascD ds := by show (ds.all patD && ascD ds) = _; rw [hb]; rfl
      rw [this]; rfl
    | false =>
      rw [if_neg (by decide)]
      have : wishD (.tuple ds) = false := by show (ds.all patD && ascD ds) = _; rw [hb]; rfl
      rw [this]; rfl
  | none => simp [d18, exs, exS, ev, evs, tst, getF, get, truD, bd, bf, sq, rt, lf, lfd, fzs, O.fz, it, tupAny, wishD]
  | bool _ => simp [d18, exs, exS, ev, evs, tst, getF, get, truD, bd, bf, sq, rt, lf, lfd, fzs, O.fz, it, tupAny, wishD]
  | int _ => simp [d18, exs, exS, ev, evs, tst, getF, get, truD, bd, bf, sq, rt, lf, lfd, fzs, O.fz, it, tupAny, wishD]
  | str _ => simp [d18, exs, exS, ev, evs, tst, getF, get, truD, bd, bf, sq, rt, lf, lfd, fzs, O.fz, it, tupAny, wishD]
  | list _ => simp [d18, exs, exS, ev, evs, tst, getF, get, truD, bd, bf, sq, rt, lf, lfd, fzs, O.fz, it, tupAny, wishD]
  | dict _ => simp [d18, exs, exS, ev, evs, tst, getF, get, truD, bd, bf, sq, rt, lf, lfd, fzs, O.fz, it, tupAny, wishD]
end
mutual
def listsD : D → D
  | .list xs => .list (listsDs xs)
  | .tuple xs => .list (listsDs xs)
  | d => d
def listsDs : List D → List D
  | [] => []
  | x :: r => listsD x :: listsDs r
end
theorem listsDs_map : ∀ ds : List D, listsDs ds = ds.map listsD
  | [] => rfl
  | x :: r => by rw [listsDs, listsDs_map r]; rfl
section
variable {cf : Cf} {n : Nat}
theorem map_loop {x : Str} {i : Nat} {g : D → D} {s0 : Option O} : ∀ (ds : List D) (acc : List O) (x1 : Option O), (∀ d ∈ ds, cf i [.dat d] = some (.ok (.dat (g d)), [none])) → acc.length + ds.length < 1000 → ∃ y1,
    eachG (compT P cf [1] (.nm 1) .nil (.last (.call x i (.val (.var 1) .nil)))) ds [s0, x1] acc = some (acc ++ (ds.map g).map .dat, [s0, y1])
  | [], acc, x1, _, _ => ⟨x1, by simp [eachG]⟩
  | d :: ds, acc, x1, h, hz => by
    rw [List.length_cons] at hz
    have hd := h d List.mem_cons_self
    obtain ⟨y1, e⟩ := map_loop (x := x) (s0 := s0) ds (acc ++ [.dat (g d)]) (some (.dat d)) (fun d' h' => h d' (List.mem_cons_of_mem _ h')) (by simp; omega)
    refine ⟨y1, ?_⟩
    rw [eachG_cons (acc' := acc ++ [.dat (g d)]) (s' := [s0, some (.dat d)]), e]
    · simp
    · simp [compT, asg, wipe, evc, evg, ev, eva, getF, get, put, bd, rt, O.fz, lend, callD, lentOf, back, hd, show acc.length < top by unfold top; omega]
theorem lists_ok : ∀ (k n : Nat) (d : D), gO k d = true → k ≤ n → callF P n 10 [.dat d] = some (.ok (.dat (listsD d)), [none]) := by
  intro k
  induction k with
  | zero => intro n d h; cases d <;> simp [gO] at h
  | succ k ih =>
    intro n d h hn
    obtain ⟨m, rfl⟩ : ∃ m, n = m + 1 := ⟨n - 1, by omega⟩
    have isl := isi_of h [.list, .tuple] rfl
    have seq : ∀ ds : List D, ds.length ≤ 60 → (∀ c ∈ ds, gO k c = true) → itD d = some ds → isiD P.ecs d [.list, .tuple] = some true → callF P (m + 1) 10 [.dat d] = some (.ok (.dat (.list (ds.map listsD))), [none]) := fun ds hz hc hi ht => by
      rw [callF_eq (d := d10) rfl rfl]
      have e0 : start d10 [O.dat d] = [some (.dat d), none] := rfl
      obtain ⟨y1, e⟩ := map_loop (cf := callF P m) (x := "_law_lists") (i := 10) (g := listsD) (s0 := some (.dat d)) ds [] none (fun c h => ih m c (hc c h) (by omega)) (by simp; omega)
      have ei : evi P (callF P m) (.any (.var 0)) [some (.dat d), none] = some (.ok ds, [some (.dat d), none]) := by
        simp [evi, ev, getF, get, bd, O.fz, hi]
      have e2 := ev_comp (k := .lst) (vs := [1]) ei (by simp [isDat]) e
      obtain ⟨cc, hcc⟩ : ∃ cc, cc = E.comp .lst [1] (.nm 1) (.any (.var 0)) .nil (.last (.call "_law_lists" 10 (.val (.var 1) .nil))) := ⟨_, rfl⟩
      have hb : d10.body = (.cons (.ret (.ite (.isi (.var 0) [.list, .tuple]) cc (.var 0))) .nil) := by rw [hcc]; rfl
      rw [← hcc] at e2
      rw [e0, hb]
      have er : exs P (callF P m) (.cons (.ret (.ite (.isi (.var 0) [.list, .tuple]) cc (.var 0))) .nil) [some (.dat d), none] = some (.rt (.lst ((ds.map listsD).map .dat)), [some (.dat d), none]) := by
        simp [exs, exS, ev, getF, get, truD, bd, bf, sq, rt, lf, lfd, O.fz, ht, e2, collect, restore]
      rw [er]
      show some (Rs.ok (O.dat (.list (fzs ((ds.map listsD).map .dat)))), _) = _
      rw [fzs_dat]
      rfl
    have atom : isiD P.ecs d [.list, .tuple] = some false → listsD d = d → callF P (m + 1) 10 [.dat d] = some (.ok (.dat (listsD d)), [none]) := fun ht hl => by
      rw [hl]
      refine call_of (df := d10) (m := 1) rfl rfl rfl rfl rfl ?_
      obtain ⟨cc, hcc⟩ : ∃ cc, cc = E.comp .lst [1] (.nm 1) (.any (.var 0)) .nil (.last (.call "_law_lists" 10 (.val (.var 1) .nil))) := ⟨_, rfl⟩
      have hb : d10.body = (.cons (.ret (.ite (.isi (.var 0) [.list, .tuple]) cc (.var 0))) .nil) := by rw [hcc]; rfl
      rw [hb]
      simp [exs, exS, ev, getF, get, truD, bd, bf, sq, rt, lf, lfd, O.fz, ht]
    cases d with
    | list ds =>
      simp only [gO, Bool.and_eq_true, decide_eq_true_eq, List.all_eq_true] at h
      have := seq ds h.1 h.2 rfl isl
      rw [show listsD (.list ds) = .list (ds.map listsD) by rw [listsD, listsDs_map]]
      exact this
    | tuple ds =>
      obtain ⟨h1, h2⟩ := gO_items h
      have := seq ds h1 h2 rfl isl
      rw [show listsD (.tuple ds) = .list (ds.map listsD) by rw [listsD, listsDs_map]]
      exact this
    | dict _ => simp [gO] at h
    | none => exact atom isl rfl
    | bool _ => exact atom isl rfl
    | int _ => exact atom isl rfl
    | str _ => exact atom isl rfl
/-! names -/
def at0 : D → D
  | .tuple (a :: _) => a
  | .list (a :: _) => a
  | d => d
def at2 : D → D
  | .tuple (_ :: _ :: b :: _) => b
  | .list (_ :: _ :: b :: _) => b
  | d => d
theorem idx_loop3 {s0 s1 : Option O} {f : D → D} {z : Int} : ∀ (ds : List D) (acc : List O) (x2 : Option O), (∀ d ∈ ds, idxD d (.int z) = some (f d)) → acc.length + ds.length < 1000 → ∃ y2,
    eachG (compT P cf [2] (.nm 2) .nil (.last (.idx (.var 2) (.lit (.int z))))) ds [s0, s1, x2] acc = some (acc ++ (ds.map f).map .dat, [s0, s1, y2])
  | [], acc, x2, _, _ => ⟨x2, by simp [eachG]⟩
  | d :: ds, acc, x2, h, hz => by
    rw [List.length_cons] at hz
    have hd := h d List.mem_cons_self
    obtain ⟨y2, e⟩ := idx_loop3 (s0 := s0) (s1 := s1) ds (acc ++ [.dat (f d)]) (some (.dat d)) (fun d' h' => h d' (List.mem_cons_of_mem _ h')) (by simp; omega)
    refine ⟨y2, ?_⟩
    rw [eachG_cons (acc' := acc ++ [.dat (f d)]) (s' := [s0, s1, some (.dat d)]), e]
    · simp
    · simp [compT, asg, wipe, evc, evg, ev, getF, get, put, bd, rt, lfd, O.fz, hd, show acc.length < top by unfold top; omega]
theorem idx_loop2 {s0 : Option O} {f : D → D} {z : Int} : ∀ (ds : List D) (acc : List O) (x2 : Option O), (∀ d ∈ ds, idxD d (.int z) = some (f d)) → acc.length + ds.length < 1000 → ∃ y2,
    eachG (compT P cf [1] (.nm 1) .nil (.last (.idx (.var 1) (.lit (.int z))))) ds [s0, x2] acc = some (acc ++ (ds.map f).map .dat, [s0, y2])
  | [], acc, x2, _, _ => ⟨x2, by simp [eachG]⟩
  | d :: ds, acc, x2, h, hz => by
    rw [List.length_cons] at hz
    have hd := h d List.mem_cons_self
    obtain ⟨y2, e⟩ := idx_loop2 (s0 := s0) ds (acc ++ [.dat (f d)]) (some (.dat d)) (fun d' h' => h d' (List.mem_cons_of_mem _ h')) (by simp; omega)
    refine ⟨y2, ?_⟩
    rw [eachG_cons (acc' := acc ++ [.dat (f d)]) (s' := [s0, some (.dat d)]), e]
    · simp
    · simp [compT, asg, wipe, evc, evg, ev, getF, get, put, bd, rt, lfd, O.fz, hd, show acc.length < top by unfold top; omega]
end
def BL (d : D) : Prop := ∃ a e b f : Nat, d = .tuple [sgn a, sgn e, sgn b, sgn f] ∨ d = .list [sgn a, sgn e, sgn b, sgn f]
def namesV (ds : List D) : List D := isort (dedup [] (ds.map at0 ++ ds.map at2))
theorem BL.i0 {d : D} (h : BL d) : idxD d (.int 0) = some (at0 d) ∧ ∃ c, at0 d = sgn c := by
  obtain ⟨a, e, b, f, rfl | rfl⟩ := h <;> exact ⟨rfl, a, rfl⟩
theorem BL.i2 {d : D} (h : BL d) : idxD d (.int 2) = some (at2 d) ∧ ∃ c, at2 d = sgn c := by
  obtain ⟨a, e, b, f, rfl | rfl⟩ := h <;> exact ⟨rfl, b, rfl⟩
theorem sset_sgns {ns : List D} (h : ∀ d ∈ ns, ∃ c, d = sgn c) (hz : ns.length < 64) : (setOf (.list ns)).bind (fun d => bfD .sorted [d]) = some (.lst ((isort (dedup [] ns)).map .dat)) := by
  have mo : ∀ d ∈ ns, memOk d = true := fun d hd => by obtain ⟨c, rfl⟩ := h d hd; rfl
  obtain ⟨nd, hm⟩ := dedup_mem ns [] mo (fun d h => by cases h) List.nodup_nil
  have sub : ∀ d, d ∈ dedup [] ns → d ∈ ns := fun d hd => by simpa using (hm d).1 hd
  have e1 : mkSet ns = some (setD (dedup [] ns)) := by
    unfold mkSet
    rw [if_pos]
    simp only [Bool.and_eq_true, Bool.or_eq_true, List.all_eq_true, decide_eq_true_eq]
    exact ⟨⟨⟨mo, .inr fun d hd => by obtain ⟨c, rfl⟩ := h d hd; rfl⟩, hz⟩, fun d hd => by obtain ⟨c, rfl⟩ := h d hd; simp [sgn, PyData.depth]⟩
  have e2 : sortable (dedup [] ns) = true := by
    simp only [sortable, Bool.and_eq_true, Bool.or_eq_true, List.all_eq_true, decide_eq_true_eq]
    refine ⟨⟨allAlike_by fun x hx y hy => ?_, .inr fun d hd => ?_⟩, fun d hd => ?_⟩
    · obtain ⟨c, rfl⟩ := h x (sub x hx)
      obtain ⟨c', rfl⟩ := h y (sub y hy)
      rfl
    · obtain ⟨c, rfl⟩ := h d (sub d hd)
      exact ⟨rfl, rfl⟩
    · obtain ⟨c, rfl⟩ := h d (sub d hd)
      simp [sgn, PyData.depth, plainD]
  show (mkSet ns).bind _ = _
  rw [e1]
  show (sortD (dedup [] ns)).map _ = _
  unfold sortD
  rw [if_pos e2]; rfl
section
variable {n : Nat}
theorem names_ok {p : D} {ds : List D} (hi : itD p = some ds) (hb : ∀ d ∈ ds, BL d) (hz : ds.length ≤ 30) : callF P (n + 1) 5 [.dat p] = some (.ok (.dat (.tuple (namesV ds))), [none]) := by
  refine call_of (df := d5) (m := 2) rfl rfl rfl rfl rfl ?_
  obtain ⟨y0, e0⟩ := idx_loop3 (cf := callF P n) (s0 := some (.dat p)) (s1 := none) (z := 0) ds [] none (fun d hd => (hb d hd).i0.1) (by simp; omega)
  obtain ⟨y2, e2⟩ := idx_loop3 (cf := callF P n) (s0 := some (.dat p)) (s1 := none) (z := 2) ds [] none (fun d hd => (hb d hd).i2.1) (by simp; omega)
  have ei : evi P (callF P n) (.any (.var 0)) [some (.dat p), none, none] = some (.ok ds, [some (.dat p), none, none]) := by
    simp [evi, ev, getF, get, bd, O.fz, hi]
  have c0 := ev_comp (k := .lst) (vs := [2]) ei (by simp [isDat]) e0
  have c2 := ev_comp (k := .lst) (vs := [2]) ei (by simp [isDat]) e2
  obtain ⟨A, hA⟩ : ∃ A, A = E.comp .lst [2] (.nm 2) (.any (.var 0)) .nil (.last (.idx (.var 2) (.lit (.int 0)))) := ⟨_, rfl⟩
  obtain ⟨B, hB⟩ : ∃ A, A = E.comp .lst [2] (.nm 2) (.any (.var 0)) .nil (.last (.idx (.var 2) (.lit (.int 2)))) := ⟨_, rfl⟩
  have hb5 : d5.body = (.cons (.set 1 1 (.bin .add A B)) (.cons (.ret (.bf .tuple (.cons (.sset .sorted (.var 1)) .nil))) .nil)) := by rw [hA, hB]; rfl
  rw [← hA] at c0
  rw [← hB] at c2
  rw [hb5]
  have hs : ∀ d ∈ ds.map at0 ++ ds.map at2, ∃ c, d = sgn c := fun d hd => by
    rcases List.mem_append.mp hd with h | h
    · obtain ⟨x, hx, rfl⟩ := List.mem_map.mp h
      exact (hb x hx).i0.2
    · obtain ⟨x, hx, rfl⟩ := List.mem_map.mp h
      exact (hb x hx).i2.2
  have ss := sset_sgns hs (by simp; omega)
  have ba : binD .add (.list (ds.map at0)) (.list (ds.map at2)) = some (.lst ((ds.map at0 ++ ds.map at2).map .dat)) := by
    show (if _ then _ else _) = _
    rw [if_pos (by simp; unfold top; omega)]
  have bt : ∀ l : List D, bfD .tuple [.list l] = some (.dat (.tuple l)) := fun _ => rfl
  have f0 : fzs ((ds.map at0).map O.dat) = ds.map at0 := fzs_dat _
  have f2 : fzs ((ds.map at2).map O.dat) = ds.map at2 := fzs_dat _
  have f3 : fzs ((ds.map at0 ++ ds.map at2).map O.dat) = ds.map at0 ++ ds.map at2 := fzs_dat _
  have f4 := fzs_dat (isort (dedup [] (ds.map at0 ++ ds.map at2)))
  simp only [List.nil_append] at c0 c2
  have r0 : ev P (callF P n) A [some (.dat p), none, none] = some (.ok (.lst ((ds.map at0).map .dat)), [some (.dat p), none, none]) := by rw [c0]; rfl
  have r2 : ev P (callF P n) B [some (.dat p), none, none] = some (.ok (.lst ((ds.map at2).map .dat)), [some (.dat p), none, none]) := by rw [c2]; rfl
  have h1 : exS P (callF P n) (.set 1 1 (.bin .add A B)) [some (.dat p), none, none] = some (.nx, [some (.dat p), some (.dat (.list (ds.map at0 ++ ds.map at2))), none]) := by
    show bf (bd (ev P (callF P n) A _) fun x s => bd (ev P (callF P n) B s) fun y s => lf (binD .add x.fz y.fz) s) _ = _
    rw [r0, bd_ok, r2, bd_ok]
    show bf (lf (binD .add (.list (fzs _)) (.list (fzs _))) _) _ = _
    rw [f0, f2, ba]
    show some (Fl.nx, put _ 1 (O.dat (.list (fzs _)))) = _
    rw [f3]; rfl
  show (sq (exS P (callF P n) _ [some (.dat p), none, none]) fun s => exs P (callF P n) _ s).map (·.1) = _
  rw [h1, sq_nx]
  unfold namesV
  simp only [exs, exS, ev, evs, getF, get, bd, bf, sq, rt, lf, fzs, O.fz, ss, bt, f4, List.getElem?_cons_zero, List.getElem?_cons_succ, Option.join_some, Option.map_some]
theorem pat_names_ok {ds : List D} (hb : ∀ d ∈ ds, BL d) (hz : ds.length ≤ 30) : callF P (n + 1) 15 [.dat (.tuple ds)] = some (.ok (.dat (.tuple (namesV ds))), [none]) := by
  refine call_of (df := d15) (m := 1) rfl rfl rfl rfl rfl ?_
  obtain ⟨y0, e0⟩ := idx_loop2 (cf := callF P n) (s0 := some (.dat (.tuple ds))) (z := 0) ds [] none (fun d hd => (hb d hd).i0.1) (by simp; omega)
  obtain ⟨y2, e2⟩ := idx_loop2 (cf := callF P n) (s0 := some (.dat (.tuple ds))) (z := 2) ds [] none (fun d hd => (hb d hd).i2.1) (by simp; omega)
  have ei : evi P (callF P n) (.any (.var 0)) [some (.dat (.tuple ds)), none] = some (.ok ds, [some (.dat (.tuple ds)), none]) := by
    simp [evi, ev, getF, get, bd, O.fz, itD]
  have c0 := ev_comp (k := .lst) (vs := [1]) ei (by simp [isDat]) e0
  have c2 := ev_comp (k := .lst) (vs := [1]) ei (by simp [isDat]) e2
  obtain ⟨A, hA⟩ : ∃ A, A = E.comp .lst [1] (.nm 1) (.any (.var 0)) .nil (.last (.idx (.var 1) (.lit (.int 0)))) := ⟨_, rfl⟩
  obtain ⟨B, hB⟩ : ∃ A, A = E.comp .lst [1] (.nm 1) (.any (.var 0)) .nil (.last (.idx (.var 1) (.lit (.int 2)))) := ⟨_, rfl⟩
  have hb5 : d15.body = (.cons (.ret (.bf .tuple (.cons (.sset .sorted (.bin .add A B)) .nil))) .nil) := by rw [hA, hB]; rfl
  rw [← hA] at c0
  rw [← hB] at c2
  rw [hb5]
  have hs : ∀ d ∈ ds.map at0 ++ ds.map at2, ∃ c, d = sgn c := fun d hd => by
    rcases List.mem_append.mp hd with h | h
    · obtain ⟨x, hx, rfl⟩ := List.mem_map.mp h
      exact (hb x hx).i0.2
    · obtain ⟨x, hx, rfl⟩ := List.mem_map.mp h
      exact (hb x hx).i2.2
  have ss := sset_sgns hs (by simp; omega)
  have ba : binD .add (.list (ds.map at0)) (.list (ds.map at2)) = some (.lst ((ds.map at0 ++ ds.map at2).map .dat)) := by
    show (if _ then _ else _) = _
    rw [if_pos (by simp; unfold top; omega)]
  have bt : ∀ l : List D, bfD .tuple [.list l] = some (.dat (.tuple l)) := fun _ => rfl
  have f0 : fzs ((ds.map at0).map O.dat) = ds.map at0 := fzs_dat _
  have f2 : fzs ((ds.map at2).map O.dat) = ds.map at2 := fzs_dat _
  have f3 : fzs ((ds.map at0 ++ ds.map at2).map O.dat) = ds.map at0 ++ ds.map at2 := fzs_dat _
  have f4 := fzs_dat (isort (dedup [] (ds.map at0 ++ ds.map at2)))
  simp only [List.nil_append] at c0 c2
  have r0 : ev P (callF P n) A [some (.dat (.tuple ds)), none] = some (.ok (.lst ((ds.map at0).map .dat)), [some (.dat (.tuple ds)), none]) := by rw [c0]; rfl
  have r2 : ev P (callF P n) B [some (.dat (.tuple ds)), none] = some (.ok (.lst ((ds.map at2).map .dat)), [some (.dat (.tuple ds)), none]) := by rw [c2]; rfl
  have h1 : ev P (callF P n) (.bin .add A B) [some (.dat (.tuple ds)), none] = some (.ok (.lst ((ds.map at0 ++ ds.map at2).map .dat)), [some (.dat (.tuple ds)), none]) := by
    show (bd (ev P (callF P n) A _) fun x s => bd (ev P (callF P n) B s) fun y s => lf (binD .add x.fz y.fz) s) = _
    rw [r0, bd_ok, r2, bd_ok]
    show lf (binD .add (.list (fzs _)) (.list (fzs _))) _ = _
    rw [f0, f2, ba]; rfl
  obtain ⟨C, hC⟩ : ∃ C, C = E.bin .add A B := ⟨_, rfl⟩
  rw [← hC] at h1 ⊢
  unfold namesV
  show (exs P (callF P n) _ [some (.dat (.tuple ds)), none]).map (·.1) = _
  simp only [exs, exS, ev, evs, bd, bf, sq, rt, lf, fzs, O.fz, h1, f3, ss, bt, f4, Option.map_some]
end
def gB (L : Nat) : Nat → D → Bool
  | 0, _ => false
  | _ + 1, .none => true
  | _ + 1, .bool _ => true
  | _ + 1, .int _ => true
  | _ + 1, .str _ => true
  | k + 1, .list ds => decide (ds.length ≤ L) && ds.all (gB L k)
  | k + 1, .tuple ds => decide (ds.length ≤ L) && ds.all (gB L k)
  | _ + 1, .dict _ => false
theorem gB_mono {L L' : Nat} (hL : L ≤ L') : ∀ (k k' : Nat) (d : D), k ≤ k' → gB L k d = true → gB L' k' d = true
  | 0, _, d, _, h => by cases d <;> simp [gB] at h
  | k + 1, 0, _, hk, _ => by omega
  | k + 1, k' + 1, d, hk, h => by
    cases d with
    | list ds =>
      simp only [gB, Bool.and_eq_true, decide_eq_true_eq, List.all_eq_true] at h ⊢
      exact ⟨by omega, fun d hd => gB_mono hL k k' d (by omega) (h.2 d hd)⟩
    | tuple ds =>
      simp only [gB, Bool.and_eq_true, decide_eq_true_eq, List.all_eq_true] at h ⊢
      exact ⟨by omega, fun d hd => gB_mono hL k k' d (by omega) (h.2 d hd)⟩
    | dict _ => simp [gB] at h
    | _ => rfl
theorem gB_gO {L : Nat} (hL : L ≤ 60) : ∀ (k : Nat) (d : D), gB L k d = true → gO k d = true
  | 0, d, h => by cases d <;> simp [gB] at h
  | k + 1, d, h => by
    cases d with
    | list ds =>
      simp only [gB, gO, Bool.and_eq_true, decide_eq_true_eq, List.all_eq_true] at h ⊢
      exact ⟨by omega, fun d hd => gB_gO hL k d (h.2 d hd)⟩
    | tuple ds =>
      simp only [gB, gO, Bool.and_eq_true, decide_eq_true_eq, List.all_eq_true] at h ⊢
      exact ⟨by omega, fun d hd => gB_gO hL k d (h.2 d hd)⟩
    | dict _ => simp [gB] at h
    | _ => rfl
theorem gB_tup {L k : Nat} {ds : List D} (hz : ds.length ≤ L) (h : ∀ d ∈ ds, gB L k d = true) : gB L (k + 1) (.tuple ds) = true := by
  simp only [gB, Bool.and_eq_true, decide_eq_true_eq, List.all_eq_true]
  exact ⟨hz, h⟩
def oddL : List D := [.none, .bool true, .int 0, .int 1, .str ⟨#[]⟩, sgn 97, sgn 115, sgn 114, sgn 105, .str ⟨#[97, 115]⟩, .str ⟨#[115, 114]⟩, .tuple [], .list [], .tuple [sgn 97, sgn 115, sgn 98, sgn 114], .tuple [sgn 97, sgn 115, sgn 97, sgn 114], .tuple [.tuple [sgn 97, sgn 114, sgn 98, sgn 115]], .tuple [sgn 115, sgn 97, sgn 114, sgn 98]]
theorem odd_good : oddL.all (gB 4 3) = true := by decide
theorem hTake : Shp d7 2 6 [0] true takeB := ⟨rfl, rfl, rfl, rfl, rfl⟩
theorem hOf : Shp d9 2 2 [0] true (ofB "_law_take" 7) := ⟨rfl, rfl, rfl, rfl, rfl⟩
theorem take1 {n : Nat} {o : O} {m r : Int} (hb : Box o m) (hm : m < 1099511627776) (h1 : 1 ≤ r) (h2 : r < 1073741824) : ∃ z o', 0 ≤ z ∧ z < r ∧ Box o' (m + 1) ∧ callF P (n + 1) 7 [o, .dat (.int r)] = some (.ok (.dat (.int z)), [some o', none]) := take_ok rfl hTake hb hm h1 h2
theorem of_odd {n : Nat} {o : O} {m : Int} (hb : Box o m) (hm : m < 1099511627776) : ∃ d o', d ∈ oddL ∧ Box o' (m + 1) ∧ callF P (n + 2) 9 [o, .dat (.list oddL)] = some (.ok (.dat d), [some o', none]) := by
  obtain ⟨z, o', z0, z1, hb', h⟩ := of_ok (P := P) (n := n) (i := 9) (pool := .list oddL) (L := 17) rfl hOf rfl hTake hb hm rfl (by omega) (by omega)
  have hk : z.toNat < oddL.length := by show z.toNat < 17; omega
  refine ⟨oddL[z.toNat], o', List.getElem_mem hk, hb', h _ ?_⟩
  show atD oddL z = _
  unfold atD
  rw [ixN_of z0 (by show z < 17; omega)]
  exact List.getElem?_eq_getElem hk
def e19 : Ss → S
  | .cons a _ => a
  | .nil => .pass
def t19 : Ss → Ss
  | .cons _ r => r
  | .nil => .nil
theorem odd_set {cf : Cf} {s0 s1 s2 s4 s5 : Option O} : exS P cf (e19 d19.body) [s0, s1, s2, none, s4, s5] = some (.nx, [s0, s1, s2, some (.dat (.list oddL)), s4, s5]) := rfl
theorem odd_ret {n : Nat} {o : O} {m : Int} (hb : Box o m) (hm : m < 1099511627776) {s1 s2 s4 s5 : Option O} : ∃ d o' s, d ∈ oddL ∧ Box o' (m + 1) ∧ exs P (callF P (n + 2)) (.cons (.ret (.call "_law_of" 9 (.ref 0 (.val (.var 3) .nil)))) .nil) [some o, s1, s2, some (.dat (.list oddL)), s4, s5] = some (.rt (.dat d), some o' :: s) := by
  obtain ⟨d, o', hd, hb', e⟩ := of_odd (n := n) hb hm
  refine ⟨d, o', [s1, s2, some (.dat (.list oddL)), s4, s5], hd, hb', ?_⟩
  simp [exs, exS, ev, eva, getF, get, bd, bf, sq, O.fz, lend, callD, lentOf, back, e]
theorem eq_int (a b : Int) : eqD (.int a) (.int b) = some (decide (a = b)) := by
  unfold eqD
  rw [if_pos (by simp [cmpOk, plainD, PyData.depth])]
  simp [PyData.eqv]
  rfl
/-- the first look: is it let be? -/
theorem look19 {n : Nat} {o : O} {m : Int} {k deep : Nat} {d : D} (hg : gO k d = true) (hk : k ≤ 60) (hb : Box o m) (hm : m < 1099511627775) :
    (∃ c o' s, c ∈ oddL ∧ Box o' (m + 2) ∧ exS P (callF P (n + 2)) (e19 (t19 d19.body)) [some o, some (.dat d), some (.dat (.int (deep : Int))), some (.dat (.list oddL)), none, none] = some (.rt (.dat c), some o' :: s)) ∨
    (∃ ds o' j, deep = j + 1 ∧ d = .tuple ds ∧ ds ≠ [] ∧ Box o' (m + 1) ∧ exS P (callF P (n + 2)) (e19 (t19 d19.body)) [some o, some (.dat d), some (.dat (.int (deep : Int))), some (.dat (.list oddL)), none, none] = some (.nx, [some o', some (.dat d), some (.dat (.int (deep : Int))), some (.dat (.list oddL)), none, none])) := by
  have hb2 : e19 (t19 d19.body) = .ife (.or (.cmp .eq (.var 2) (.lit (.int 0))) (.or (.nt (.isi (.var 1) [.tuple])) (.or (.cmp .eq (.var 1) (.tup .nil)) (.cmp .eq (.call "_law_take" 7 (.ref 0 (.val (.lit (.int 6)) .nil))) (.lit (.int 0)))))) (.cons (.ret (.call "_law_of" 9 (.ref 0 (.val (.var 3) .nil)))) .nil) (.nil) := rfl
  rw [hb2]
  obtain ⟨R, hR⟩ : ∃ R, R = Ss.cons (.ret (.call "_law_of" 9 (.ref 0 (.val (.var 3) .nil)))) .nil := ⟨_, rfl⟩
  have it := isT hg
  by_cases h0 : deep = 0
  · left
    subst h0
    obtain ⟨c, o', s, hc, hb', e⟩ := odd_ret (n := n) hb (by omega) (s1 := some (.dat d)) (s2 := some (.dat (.int 0))) (s4 := none) (s5 := none)
    refine ⟨c, o', s, hc, hb'.mono (by omega), ?_⟩
    have q : eqD (.int 0) (.int 0) = some true := by decide
    rw [← hR] at e ⊢
    simp [exS, ev, tst, getF, get, bd, bf, rt, lfd, O.fz, cmpD, q, truD, e]
  · have q0 : eqD (.int (deep : Int)) (.int 0) = some false := by rw [eq_int, decide_eq_false (by omega)]
    cases ht : tupAny d with
    | false =>
      left
      rw [ht] at it
      obtain ⟨c, o', s, hc, hb', e⟩ := odd_ret (n := n) hb (by omega) (s1 := some (.dat d)) (s2 := some (.dat (.int (deep : Int)))) (s4 := none) (s5 := none)
      refine ⟨c, o', s, hc, hb'.mono (by omega), ?_⟩
      rw [← hR] at e ⊢
      simp [exS, ev, tst, getF, get, bd, bf, rt, lfd, O.fz, cmpD, q0, truD, it, e]
    | true =>
      rw [ht] at it
      obtain ⟨ds, rfl⟩ : ∃ ds, d = .tuple ds := by cases d <;> first | exact ⟨_, rfl⟩ | (simp [tupAny] at ht)
      have e0 : eqD (.tuple ds) (.tuple []) = some ds.isEmpty := by
        unfold eqD
        rw [gO_ok hg hk]
        cases ds <;> simp [PyData.eqv, PyData.eqvAll, cmpOk, plainD, plainAll, PyData.depth, PyData.depthAll]
      cases hds : ds.isEmpty with
      | true =>
        left
        rw [hds] at e0
        obtain ⟨c, o', s, hc, hb', e⟩ := odd_ret (n := n) hb (by omega) (s1 := some (.dat (.tuple ds))) (s2 := some (.dat (.int (deep : Int)))) (s4 := none) (s5 := none)
        refine ⟨c, o', s, hc, hb'.mono (by omega), ?_⟩
        rw [← hR] at e ⊢
        simp [exS, ev, evs, tst, getF, get, bd, bf, rt, lfd, O.fz, fzs, cmpD, q0, truD, it, e0, e]
      | false =>
        rw [hds] at e0
        obtain ⟨z, o1, z0, z1, hb1, ct⟩ := take1 (n := n + 1) (r := 6) hb (by omega) (by omega) (by omega)
        have qz := eq_int z 0
        by_cases hz : z = 0
        · left
          rw [decide_eq_true hz] at qz
          obtain ⟨c, o', s, hc, hb', e⟩ := odd_ret (n := n) hb1 (by omega) (s1 := some (.dat (.tuple ds))) (s2 := some (.dat (.int (deep : Int)))) (s4 := none) (s5 := none)
          refine ⟨c, o', s, hc, hb'.mono (by omega), ?_⟩
          rw [← hR] at e ⊢
          simp [exS, ev, evs, eva, tst, getF, get, bd, bf, rt, lfd, O.fz, fzs, cmpD, q0, truD, it, e0, lend, callD, lentOf, back, ct, qz, e]
        · right
          rw [decide_eq_false hz] at qz
          refine ⟨ds, o1, deep - 1, by omega, rfl, by rintro rfl; simp at hds, hb1, ?_⟩
          rw [← hR]
          simp [exs, exS, ev, evs, eva, tst, getF, get, bd, bf, rt, lfd, O.fz, fzs, cmpD, q0, truD, it, e0, lend, callD, lentOf, back, ct, qz]
section
variable {cf : Cf} {n : Nat}
def r19 : Ss := t19 (t19 (t19 d19.body))
theorem adds {cs ds : List D} (h : cs.length + ds.length ≤ 1000) : binD .add (.tuple cs) (.tuple ds) = some (.dat (.tuple (cs ++ ds))) := by
  show (if _ then _ else _) = _
  rw [if_pos (by unfold top; omega)]
theorem par19 {n : Nat} {o : O} {m : Int} {ds : List D} (hne : ds ≠ []) (hz : ds.length ≤ 60) (hb : Box o m) (hm : m < 1099511627775) {s2 s3 : Option O} :
    ∃ (a : Nat) (z : Int) (o' : O), a < ds.length ∧ 0 ≤ z ∧ z < 8 ∧ Box o' (m + 2) ∧ exS P (callF P (n + 1)) (e19 (t19 (t19 d19.body))) [some o, some (.dat (.tuple ds)), s2, s3, none, none] = some (.nx, [some o', some (.dat (.tuple ds)), s2, s3, some (.dat (.int (a : Int))), some (.dat (.int z))]) := by
  have hp : 1 ≤ ds.length := by cases ds with | nil => exact absurd rfl hne | cons _ _ => simp
  obtain ⟨a, o1, a0, a1, hb1, c1⟩ := take1 (n := n) (r := (ds.length : Int)) hb (by omega) (by omega) (by omega)
  obtain ⟨z, o2, z0, z1, hb2, c2⟩ := take1 (n := n) (r := 8) hb1 (by omega) (by omega) (by omega)
  refine ⟨a.toNat, z, o2, by omega, z0, z1, ?_, ?_⟩
  · have : m + 1 + 1 = m + 2 := by omega
    rw [← this]; exact hb2
  · have e : ((a.toNat : Nat) : Int) = a := by omega
    rw [e]
    have hb3 : e19 (t19 (t19 d19.body)) = .par [4, 5] [1, 1] (.cons (.call "_law_take" 7 (.ref 0 (.val (.bf .len (.cons (.var 1) .nil)) .nil))) (.cons (.call "_law_take" 7 (.ref 0 (.val (.lit (.int 8)) .nil))) .nil)) := rfl
    rw [hb3]
    simp [exS, ev, evs, eva, getF, get, put, bd, bf, rt, lf, O.fz, O.frz, fzs, bfD, lenD, lend, callD, lentOf, back, c1, c2, putAll]
theorem rest19 {n : Nat} {cf : Cf} {o : O} {ds : List D} {a : Nat} {z : Int} {c : D} {o' : O} {deep : Int} (ha : a < ds.length) (hz : ds.length ≤ 60) (hd : ds[a]? = some c) {b : D} (hc : cf 19 [o, .dat c, .dat (.int (deep - 1))] = some (.ok (.dat b), [some o', none, none])) {s3 : Option O} :
    ∃ r q s, (r = .tuple (ds.take a ++ ds.drop (a + 1)) ∨ r = .tuple (ds.take (a + 1) ++ ds.drop a) ∨ r = .list ds ∨ r = .tuple ds.reverse ∨ r = .tuple (ds.take a ++ [b] ++ ds.drop (a + 1))) ∧ (q = o ∨ q = o') ∧
      (exs P cf r19 [some o, some (.dat (.tuple ds)), some (.dat (.int deep)), s3, some (.dat (.int (a : Int))), some (.dat (.int z))]).map (fun x => (match x.1 with | .rt v => Fl.rt (.dat v.fz) | f => f, x.2)) = some (.rt (.dat r), some q :: s) := by
  have l1 := cut_lo ds (z := (a : Int)) (by omega) (by omega)
  have l2 := cut_hi ds (z := (a : Int) + 1) (by omega) (by omega)
  have l3 := cut_lo ds (z := (a : Int) + 1) (by omega) (by omega)
  have l4 := cut_hi ds (z := (a : Int)) (by omega) (by omega)
  have e1 : ((a : Int) + 1).toNat = a + 1 := by omega
  rw [e1] at l2 l3
  rw [Int.toNat_natCast] at l1 l4
  have lt1 : (ds.take a).length + (ds.drop (a + 1)).length ≤ 1000 := by rw [List.length_take, List.length_drop]; omega
  have lt2 : (ds.take (a + 1)).length + (ds.drop a).length ≤ 1000 := by rw [List.length_take, List.length_drop]; omega
  have lt3 : (ds.take a).length + ([b] : List D).length ≤ 1000 := by rw [List.length_take]; simp; omega
  have lt4 : (ds.take a ++ [b]).length + (ds.drop (a + 1)).length ≤ 1000 := by rw [List.length_append, List.length_take, List.length_drop]; simp; omega
  have b1 := adds lt1
  have b2 := adds lt2
  have b3 := adds lt3
  have b4 := adds lt4
  have q0 := eq_int z 0
  have q1 := eq_int z 1
  have q2 := eq_int z 2
  have q3 := eq_int z 3
  have hb4 : r19 = (.cons (.ife (.cmp .eq (.var 5) (.lit (.int 0))) (.cons (.ret (.bin .add (.slc (.var 1) .none (.some (.var 4))) (.slc (.var 1) (.some (.bin .add (.var 4) (.lit (.int 1)))) .none))) .nil) (.nil))
    (.cons (.ife (.cmp .eq (.var 5) (.lit (.int 1))) (.cons (.ret (.bin .add (.slc (.var 1) .none (.some (.bin .add (.var 4) (.lit (.int 1))))) (.slc (.var 1) (.some (.var 4)) .none))) .nil) (.nil))
    (.cons (.ife (.cmp .eq (.var 5) (.lit (.int 2))) (.cons (.ret (.bf .list (.cons (.var 1) .nil))) .nil) (.nil))
    (.cons (.ife (.cmp .eq (.var 5) (.lit (.int 3))) (.cons (.ret (.rvs (.var 1))) .nil) (.nil))
    (.cons (.ret (.bin .add (.bin .add (.slc (.var 1) .none (.some (.var 4))) (.tup (.cons (.call "_law_bent" 19 (.ref 0 (.val (.idx (.var 1) (.var 4)) (.val (.bin .sub (.var 2) (.lit (.int 1))) .nil)))) .nil))) (.slc (.var 1) (.some (.bin .add (.var 4) (.lit (.int 1)))) .none))) .nil))))) := rfl
  rw [hb4]
  have bi : binD .add (.int (a : Int)) (.int 1) = some (.dat (.int ((a : Int) + 1))) := rfl
  have bs : binD .sub (.int deep) (.int 1) = some (.dat (.int (deep - 1))) := rfl
  have bl : bfD .list [.tuple ds] = some (.lst (ds.map .dat)) := rfl
  have x1 : idxD (.tuple ds) (.int (a : Int)) = some c := by
    show atD ds a = _
    unfold atD
    rw [ixN_of (by omega) (by omega)]
    simpa using hd
  by_cases h0 : z = 0
  · rw [decide_eq_true h0] at q0
    refine ⟨_, o, [some (.dat (.tuple ds)), some (.dat (.int deep)), s3, some (.dat (.int (a : Int))), some (.dat (.int z))], .inl rfl, .inl rfl, ?_⟩
    simp [exs, exS, ev, evo, tst, getF, get, bd, bf, sq, rt, lf, lfd, O.fz, cmpD, truD, q0, slcD, optI, l1, l2, bi, b1]
  · rw [decide_eq_false h0] at q0
    by_cases h1 : z = 1
    · rw [decide_eq_true h1] at q1
      refine ⟨_, o, [some (.dat (.tuple ds)), some (.dat (.int deep)), s3, some (.dat (.int (a : Int))), some (.dat (.int z))], .inr (.inl rfl), .inl rfl, ?_⟩
      simp [exs, exS, ev, evo, tst, getF, get, bd, bf, sq, rt, lf, lfd, O.fz, cmpD, truD, q0, q1, slcD, optI, l3, l4, bi, b2]
    · rw [decide_eq_false h1] at q1
      by_cases h2 : z = 2
      · rw [decide_eq_true h2] at q2
        refine ⟨_, o, [some (.dat (.tuple ds)), some (.dat (.int deep)), s3, some (.dat (.int (a : Int))), some (.dat (.int z))], .inr (.inr (.inl rfl)), .inl rfl, ?_⟩
        simp [exs, exS, ev, evs, tst, getF, get, bd, bf, sq, rt, lf, lfd, O.fz, fzs, cmpD, truD, q0, q1, q2, bl, fzs_dat]
      · rw [decide_eq_false h2] at q2
        by_cases h3 : z = 3
        · rw [decide_eq_true h3] at q3
          refine ⟨_, o, [some (.dat (.tuple ds)), some (.dat (.int deep)), s3, some (.dat (.int (a : Int))), some (.dat (.int z))], .inr (.inr (.inr (.inl rfl))), .inl rfl, ?_⟩
          simp [exs, exS, ev, evs, tst, getF, get, bd, bf, sq, rt, lf, lfd, O.fz, fzs, cmpD, truD, q0, q1, q2, q3, rvsD]
        · rw [decide_eq_false h3] at q3
          refine ⟨_, o', [some (.dat (.tuple ds)), some (.dat (.int deep)), s3, some (.dat (.int (a : Int))), some (.dat (.int z))], .inr (.inr (.inr (.inr rfl))), .inr rfl, ?_⟩
          simp [exs, exS, ev, evs, evo, eva, tst, getF, get, bd, bf, sq, rt, lf, lfd, O.fz, fzs, cmpD, truD, q0, q1, q2, q3, slcD, optI, l1, l2, bi, bs, x1, lend, callD, lentOf, back, hc, b3, b4]
theorem ends19 {m : Mf} {r : D} {q : O} {s : Stt} (h : m.map (fun x => (match x.1 with | .rt v => Fl.rt (O.dat v.fz) | f => f, x.2)) = some (Fl.rt (O.dat r), some q :: s)) : ends d19 m = some (.ok (.dat r), [some q, none, none]) := by
  match m, h with
  | some (.rt v, t), h =>
    simp at h
    obtain ⟨h1, h2⟩ := h
    subst h2
    show some (Rs.ok (O.dat v.fz), outs 3 [0] (some q :: s)) = _
    rw [h1]
    rfl
  | some (.nx, _), h => simp at h
  | some (.bk, _), h => simp at h
  | some (.ct, _), h => simp at h
  | some (.ex _, _), h => simp at h
theorem body19 : d19.body = .cons (e19 d19.body) (.cons (e19 (t19 d19.body)) (.cons (e19 (t19 (t19 d19.body))) r19)) := rfl
theorem bent_ok {L : Nat} (hL : 3 ≤ L) (hL2 : L ≤ 59) : ∀ (deep n k : Nat) (o : O) (m : Int) (d : D), gB L k d = true → 3 + deep ≤ k → k ≤ 60 → Box o m → m + 100 * (deep + 1) < 1000000000 →
    ∃ r o', gB (L + 1) k r = true ∧ Box o' (m + 4 * (deep + 1)) ∧ callF P (n + deep + 3) 19 [o, .dat d, .dat (.int (deep : Int))] = some (.ok (.dat r), [some o', none, none]) := by
  intro deep
  induction deep with
  | zero =>
    intro n k o m d hg hk hk2 hb hm
    rw [callF_eq (d := d19) (n := n + 2) rfl rfl]
    show ∃ r o', _ ∧ _ ∧ ends d19 (exs P (callF P (n + 2)) d19.body [some o, some (.dat d), some (.dat (.int ((0 : Nat) : Int))), none, none, none]) = _
    rw [body19, exs_cons, odd_set, sq_nx, exs_cons]
    rcases look19 (n := n) (deep := 0) (gB_gO (by omega) k d hg) hk2 hb (by omega) with ⟨c, o', s, hc, hb', e⟩ | ⟨ds, o', j, hj, _⟩
    · refine ⟨c, o', ?_, hb'.mono (by omega), ?_⟩
      · exact gB_mono (by omega) 3 k c (by omega) (List.all_eq_true.mp odd_good c hc)
      · rw [e]; rfl
    · omega
  | succ j ih =>
    intro n k o m d hg hk hk2 hb hm
    rw [show n + (j + 1) + 3 = n + j + 3 + 1 by omega, callF_eq (d := d19) (n := n + j + 3) rfl rfl]
    show ∃ r o', _ ∧ _ ∧ ends d19 (exs P (callF P (n + j + 3)) d19.body [some o, some (.dat d), some (.dat (.int ((j + 1 : Nat) : Int))), none, none, none]) = _
    rw [body19, exs_cons, odd_set, sq_nx, exs_cons]
    rcases look19 (n := n + j + 1) (deep := j + 1) (gB_gO (by omega) k d hg) hk2 hb (by omega) with ⟨c, o', s, hc, hb', e⟩ | ⟨ds, o1, j', hj, rfl, hne, hb1, e⟩
    · refine ⟨c, o', ?_, hb'.mono (by omega), ?_⟩
      · exact gB_mono (by omega) 3 k c (by omega) (List.all_eq_true.mp odd_good c hc)
      · rw [e]; rfl
    · rw [e, sq_nx, exs_cons]
      obtain ⟨k', rfl⟩ : ∃ k', k = k' + 1 := ⟨k - 1, by omega⟩
      have hg2 := hg
      simp only [gB, Bool.and_eq_true, decide_eq_true_eq, List.all_eq_true] at hg2
      obtain ⟨hz, hi⟩ := hg2
      obtain ⟨a, z, o2, ha, z0, z1, hb2, e2⟩ := par19 (n := n + j + 2) (ds := ds) hne (by omega) hb1 (by omega) (s2 := some (.dat (.int ((j + 1 : Nat) : Int)))) (s3 := some (.dat (.list oddL)))
      rw [e2, sq_nx]
      obtain ⟨c, hc⟩ : ∃ c, ds[a]? = some c := ⟨_, List.getElem?_eq_getElem ha⟩
      have hcm : c ∈ ds := List.mem_of_getElem? hc
      obtain ⟨b, o3, hgb, hb3, e3⟩ := ih n k' o2 _ c (hi c hcm) (by omega) (by omega) hb2 (by omega)
      have ej : (((j + 1 : Nat) : Int) - 1) = (j : Int) := by omega
      obtain ⟨r, q, s, hr, hq, e4⟩ := rest19 (n := 0) (cf := callF P (n + j + 3)) (z := z) (deep := ((j + 1 : Nat) : Int)) (s3 := some (.dat (.list oddL))) ha (by omega) hc (by rw [ej]; exact e3)
      refine ⟨r, q, ?_, ?_, ends19 e4⟩
      · have mem : ∀ x ∈ ds, gB (L + 1) k' x = true := fun x hx => gB_mono (by omega) k' k' x (by omega) (hi x hx)
        rcases hr with rfl | rfl | rfl | rfl | rfl
        · refine gB_tup ?_ fun x hx => ?_
          · rw [List.length_append, List.length_take, List.length_drop]; omega
          · rcases List.mem_append.mp hx with h | h
            · exact mem x (List.mem_of_mem_take h)
            · exact mem x (List.mem_of_mem_drop h)
        · refine gB_tup ?_ fun x hx => ?_
          · rw [List.length_append, List.length_take, List.length_drop]; omega
          · rcases List.mem_append.mp hx with h | h
            · exact mem x (List.mem_of_mem_take h)
            · exact mem x (List.mem_of_mem_drop h)
        · simp only [gB, Bool.and_eq_true, decide_eq_true_eq, List.all_eq_true]
          exact ⟨by omega, mem⟩
        · refine gB_tup ?_ fun x hx => mem x (List.mem_reverse.mp hx)
          rw [List.length_reverse]; omega
        · refine gB_tup ?_ fun x hx => ?_
          · rw [List.length_append, List.length_append, List.length_take, List.length_drop]; simp; omega
          · rcases List.mem_append.mp hx with h | h
            · rcases List.mem_append.mp h with h | h
              · exact mem x (List.mem_of_mem_take h)
              · rw [List.mem_singleton.mp h]; exact hgb
            · exact mem x (List.mem_of_mem_drop h)
      · rcases hq with rfl | rfl
        · exact hb2.mono (by omega)
        · exact hb3.mono (by omega)
end
def PatP (d : D) : Prop := ∃ ds, d = .tuple ds ∧ ds ≠ [] ∧ ds.length ≤ 6 ∧ ∀ c ∈ ds, BondP c
theorem dedup_length : ∀ (l acc : List D), (dedup acc l).length ≤ acc.length + l.length
  | [], acc => by simp [dedup]
  | x :: r, acc => by
    rw [dedup, List.length_cons]
    refine Nat.le_trans (dedup_length r _) ?_
    split
    · omega
    · simp; omega
theorem patP_of {bs : List D} (h1 : 1 ≤ bs.length) (h2 : (bs.length : Int) ≤ 6) (h : ∀ d ∈ bs, BondP d) : PatP (.tuple (isort (dedup [] bs))) := by
  obtain ⟨nd, hm⟩ := dedup_mem bs [] (fun d hd => (h d hd).mem) (fun d h => by cases h) List.nodup_nil
  have hl := dedup_length bs []
  refine ⟨_, rfl, ?_, ?_, fun c hc => ?_⟩
  · intro he
    have l0 : (isort (dedup [] bs)).length = 0 := by rw [he]; rfl
    rw [isort_length] at l0
    cases bs with
    | nil => simp at h1
    | cons b r =>
      have : b ∈ dedup [] (b :: r) := (hm b).2 (.inr List.mem_cons_self)
      rw [List.eq_nil_of_length_eq_zero l0] at this
      cases this
  · rw [isort_length]; simp at hl; omega
  · have := (isort_perm _).mem_iff.mp hc
    rcases (hm c).1 this with z | z
    · cases z
    · exact h c z
theorem bondP_good {d : D} (h : BondP d) : gB 6 2 d = true := by
  obtain ⟨a, e, b, f, rfl, _⟩ := h
  rfl
theorem PatP.good {d : D} (h : PatP d) : gB 6 3 d = true := by
  obtain ⟨ds, rfl, _, hz, hb⟩ := h
  exact gB_tup hz fun c hc => bondP_good (hb c hc)
theorem PatP.facts {d : D} (h : PatP d) : memOk d = true ∧ tupNE d = true ∧ d.depth ≤ 2 := by
  obtain ⟨ds, rfl, hne, _, hb⟩ := h
  refine ⟨?_, ?_, ?_⟩
  · show memAll ds = true
    exact memAll_of fun d hd => (hb d hd).mem
  · cases ds with
    | nil => exact absurd rfl hne
    | cons _ _ => rfl
  · rw [PyData.depth]
    have := depthAll_of (m := 1) fun d hd => Nat.le_of_eq (hb d hd).depth
    omega
theorem PatP.alike {c d : D} (h : PatP c) (g : PatP d) : PySem.W.alike c d = true := by
  obtain ⟨cs, rfl, _, _, hc⟩ := h
  obtain ⟨ds, rfl, _, _, hd⟩ := g
  show PySem.W.alikeAll cs ds = true
  exact alikeAll_of fun a ha b hb => (hc a ha).alike (hd b hb)
theorem wish_of {ps : List D} (h : ∀ d ∈ ps, PatP d) (hz : ps.length ≤ 3) : (setOf (.list ps)).bind (fun d => bfD .sorted [d]) = some (.lst ((isort (dedup [] ps)).map .dat)) ∧ gB 6 4 (.tuple (isort (dedup [] ps))) = true := by
  obtain ⟨nd, hm⟩ := dedup_mem ps [] (fun d hd => (h d hd).facts.1) (fun d h => by cases h) List.nodup_nil
  have hl := dedup_length ps []
  refine ⟨(sset_tups (fun d hd => (h d hd).facts.1) (fun d hd => (h d hd).facts.2.1) (fun d hd => by have := (h d hd).facts.2.2; omega) (fun c hc d hd => (h c hc).alike (h d hd)) (by omega)).1, ?_⟩
  refine gB_tup ?_ fun c hc => ?_
  · rw [isort_length]; simp at hl; omega
  · have := (isort_perm _).mem_iff.mp hc
    rcases (hm c).1 this with z | z
    · cases z
    · exact (h c z).good
theorem dr : Draws P 7 12 9 13 14 "_law_take" "_law_mixed" "_law_of" "_law_bond" := ⟨⟨d7, rfl, rfl, rfl, rfl, rfl, rfl⟩, ⟨d12, rfl, rfl, rfl, rfl, rfl, rfl⟩, ⟨d9, rfl, rfl, rfl, rfl, rfl, rfl⟩, ⟨d13, rfl, rfl, rfl, rfl, rfl, rfl⟩, ⟨d14, rfl, rfl, rfl, rfl, rfl, rfl⟩⟩
def b22 : Ss := match d22.body with
  | .cons (.for_ _ _ b) _ => b
  | _ => .nil
def k22 (i : Nat) : Ss := match i with
  | 0 => b22
  | i + 1 => t19 (k22 i)
/-- the laps of the first row -/
theorem some_loop {s1 s2 s3 s4 s5 s6 s8 : Option O} : ∀ (ts : List D) (o : O) (m : Int) (acc : List O) (x7 : Option O), Box o m → m + 2000 * ts.length < 90000000 → acc.length + ts.length < 1000 → ∃ (ps : List D) (o' : O) (y7 : Option O), ps.length = ts.length ∧ (∀ d ∈ ps, PatP d) ∧ Box o' (m + 2000 * ts.length) ∧
    eachG (compT P (callF P 28) [7] (.nm 7) .nil (.last (.call "_law_pattern" 14 (.ref 0 (.val (.bin .add (.lit (.int 2)) (.call "_law_take" 7 (.ref 0 (.val (.lit (.int 7)) .nil)))) (.val (.lit (.int 6)) .nil)))))) ts [some o, s1, s2, s3, s4, s5, s6, x7, s8] acc = some (acc ++ ps.map .dat, [some o', s1, s2, s3, s4, s5, s6, y7, s8])
  | [], o, m, acc, x7, hb, _, _ => ⟨[], o, x7, rfl, fun d h => (by cases h), (by simpa using hb), (by simp [eachG])⟩
  | u :: ts, o, m, acc, x7, hb, hm, hz => by
    rw [List.length_cons] at hm hz
    obtain ⟨z, o1, z0, z1, hb1, c1⟩ := take1 (n := 27) (r := 7) hb (by omega) (by omega) (by omega)
    obtain ⟨bs, o2, l1, l2, hbs, hb2, c2⟩ := pattern_ok (n := 24) dr hb1 (by omega) (many := 2 + z) (r := 6) (by omega) (by omega) (by omega) (by omega)
    obtain ⟨ps, o3, y7, hl, hps, hb3, e⟩ := some_loop (s1 := s1) (s2 := s2) (s3 := s3) (s4 := s4) (s5 := s5) (s6 := s6) (s8 := s8) ts o2 (m + 2000) (acc ++ [.dat (.tuple (isort (dedup [] bs)))]) (some (.dat u)) (hb2.mono (by omega)) (by push_cast at hm; omega) (by simp; omega)
    refine ⟨.tuple (isort (dedup [] bs)) :: ps, o3, y7, by simp [hl], fun d hd => ?_, hb3.mono (by rw [List.length_cons]; push_cast; omega), ?_⟩
    rotate_left
    · rw [eachG_cons (acc' := acc ++ [.dat (.tuple (isort (dedup [] bs)))]) (s' := [some o2, s1, s2, s3, s4, s5, s6, some (.dat u), s8]), e]
      · simp
      · have bi : binD .add (.int 2) (.int z) = some (.dat (.int (2 + z))) := rfl
        simp [compT, asg, wipe, evc, evg, ev, eva, getF, get, put, bd, rt, lf, O.fz, lend, callD, lentOf, back, c1, bi, c2, show acc.length < top by unfold top; omega]
    · rcases List.mem_cons.mp hd with h | h
      · rw [h]; exact patP_of l1 l2 hbs
      · exact hps d h
theorem some_ok {o : O} {m : Int} (hb : Box o m) (hm : m < 1000000) {s1 s2 s3 s4 s5 s6 s8 : Option O} : ∃ (ps : List D) (o' : O), ps ≠ [] ∧ ps.length ≤ 3 ∧ (∀ d ∈ ps, PatP d) ∧ Box o' (m + 10000) ∧
    exS P (callF P 28) (e19 (k22 0)) [some o, s1, s2, s3, s4, s5, s6, none, s8] = some (.nx, [some o', s1, some (.dat (.list ps)), s3, s4, s5, s6, none, s8]) := by
  obtain ⟨z, o1, z0, z1, hb1, c1⟩ := take1 (n := 27) (r := 3) hb (by omega) (by omega) (by omega)
  have hr := range_up1 z0 (by omega)
  obtain ⟨ps, o2, y7, hl, hps, hb2, e⟩ := some_loop (s1 := s1) (s2 := s2) (s3 := s3) (s4 := s4) (s5 := s5) (s6 := s6) (s8 := s8) ((List.range (z + 1).toNat).map fun (j : Nat) => .int (0 + (j : Int))) o1 (m + 1) [] none hb1 (by simp; omega) (by simp; omega)
  have hl2 : ps.length = (z + 1).toNat := by rw [hl]; simp
  have bi : binD .add (.int 1) (.int z) = some (.dat (.int (1 + z))) := rfl
  have ei : evi P (callF P 28) (.rng (.cons (.bin .add (.lit (.int 1)) (.call "_law_take" 7 (.ref 0 (.val (.lit (.int 3)) .nil)))) .nil)) [some o, s1, s2, s3, s4, s5, s6, none, s8] = some (.ok ((List.range (z + 1).toNat).map fun (j : Nat) => .int (0 + (j : Int))), [some o1, s1, s2, s3, s4, s5, s6, none, s8]) := by
    simp [evi, ev, evs, eva, getF, get, put, bd, rt, lf, O.fz, fzs, lend, callD, lentOf, back, c1, bi, hr]
  have e2 := ev_comp (k := .lst) (vs := [7]) ei (by simp [isDat]) e
  obtain ⟨cc, hcc⟩ : ∃ cc, cc = E.comp .lst [7] (.nm 7) (.rng (.cons (.bin .add (.lit (.int 1)) (.call "_law_take" 7 (.ref 0 (.val (.lit (.int 3)) .nil)))) .nil)) .nil (.last (.call "_law_pattern" 14 (.ref 0 (.val (.bin .add (.lit (.int 2)) (.call "_law_take" 7 (.ref 0 (.val (.lit (.int 7)) .nil)))) (.val (.lit (.int 6)) .nil))))) := ⟨_, rfl⟩
  have hk : e19 (k22 0) = .set 2 1 cc := by rw [hcc]; rfl
  rw [← hcc] at e2
  refine ⟨ps, o2, fun h => ?_, by omega, hps, hb2.mono (by simp; omega), ?_⟩
  · rw [h] at hl2; simp at hl2; omega
  · rw [hk]
    simp [exS, e2, bf, lf, rt, collect, restore, put, O.frz, O.fz, fzs_dat]
section
variable {cf : Cf}
theorem wish_run {ps : List D} (h : ∀ d ∈ ps, PatP d) (hz : ps.length ≤ 3) {s0 s1 s3 s4 s5 s6 s7 s8 : Option O} : exS P cf (e19 (k22 1)) [s0, s1, some (.dat (.list ps)), s3, s4, s5, s6, s7, s8] = some (.nx, [s0, s1, some (.dat (.list ps)), some (.dat (.tuple (isort (dedup [] ps)))), s4, s5, s6, s7, s8]) := by
  have w := (wish_of h hz).1
  have hk : e19 (k22 1) = .set 3 1 (.bf .tuple (.cons (.sset .sorted (.var 2)) .nil)) := rfl
  have bt : ∀ ds : List D, bfD .tuple [.list ds] = some (.dat (.tuple ds)) := fun _ => rfl
  rw [hk]
  simp [exS, ev, evs, getF, get, put, bd, bf, lf, rt, O.fz, fzs, w, fzs_dat, bt, O.frz]
theorem last_at {ps : List D} (h : ps ≠ []) : ∃ p, p ∈ ps ∧ idxD (.list ps) (.int (-1)) = some p := by
  have hl : ps.length ≠ 0 := fun e => h (List.eq_nil_of_length_eq_zero e)
  have hk : ps.length - 1 < ps.length := by omega
  refine ⟨ps[ps.length - 1], List.getElem_mem hk, ?_⟩
  show atD ps (-1) = _
  unfold atD
  have e : ixN ps.length (-1) = some (ps.length - 1) := by
    unfold ixN
    simp
    omega
  rw [e]
  exact List.getElem?_eq_getElem hk
theorem head_at (p : D) (r : List D) : idxD (.list (p :: r)) (.int 0) = some p ∧ idxD (.tuple (p :: r)) (.int 0) = some p := by
  have e : atD (p :: r) 0 = some p := by
    unfold atD
    rw [ixN_of (by omega) (by simp)]
    rfl
  exact ⟨e, e⟩
theorem things_run {o : O} {m : Int} (hb : Box o m) (hm : m < 1000000) {ps : List D} (hne : ps ≠ []) (hp : ∀ d ∈ ps, PatP d) {w : D} (hw : gB 6 4 w = true) {s1 s4 s5 s6 s7 s8 : Option O} : ∃ (p : D) (ts : List D) (o' : O), ps[0]? = some p ∧ PatP p ∧ ts.length = 7 ∧ (∀ d ∈ ts, gB 7 8 d = true) ∧ Box o' (m + 100) ∧
    exS P (callF P 28) (e19 (k22 2)) [some o, s1, some (.dat (.list ps)), some (.dat w), s4, s5, s6, s7, s8] = some (.nx, [some o', s1, some (.dat (.list ps)), some (.dat w), some (.dat (.list ts)), s5, s6, s7, s8]) := by
  obtain ⟨p, r, rfl⟩ : ∃ p r, ps = p :: r := by
    cases ps with
    | nil => exact absurd rfl hne
    | cons p r => exact ⟨p, r, rfl⟩
  have hpp := hp p List.mem_cons_self
  have hpp2 := hpp
  obtain ⟨ds, hds, hdn, hdz, hdb⟩ := hpp2
  obtain ⟨b, r2, rfl⟩ : ∃ b r, ds = b :: r := by
    cases ds with
    | nil => exact absurd rfl hdn
    | cons p r => exact ⟨p, r, rfl⟩
  obtain ⟨q, hq, eq⟩ := last_at hne
  have gp := hpp.good
  have gb := bondP_good (hdb b List.mem_cons_self)
  have gq := (hp q hq).good
  obtain ⟨t1, o1, g1, hb1, c1⟩ := bent_ok (L := 6) (by decide) (by decide) 3 22 8 o m p (gB_mono (by decide) 3 8 p (by decide) gp) (by decide) (by decide) hb (by omega)
  obtain ⟨t2, o2, g2, hb2, c2⟩ := bent_ok (L := 6) (by decide) (by decide) 4 21 8 o1 _ w (gB_mono (by decide) 4 8 w (by decide) hw) (by decide) (by decide) hb1 (by omega)
  obtain ⟨t3, o3, g3, hb3, c3⟩ := bent_ok (L := 6) (by decide) (by decide) 2 23 8 o2 _ b (gB_mono (by decide) 2 8 b (by decide) gb) (by decide) (by decide) hb2 (by omega)
  obtain ⟨t4, o4, g4, hb4, c4⟩ := bent_ok (L := 6) (by decide) (by decide) 2 23 8 o3 _ q (gB_mono (by decide) 3 8 q (by decide) gq) (by decide) (by decide) hb3 (by omega)
  refine ⟨p, [p, b, w, t1, t2, t3, t4], o4, rfl, hpp, rfl, fun d hd => ?_, hb4.mono (by omega), ?_⟩
  · simp only [List.mem_cons, List.not_mem_nil, or_false] at hd
    rcases hd with rfl | rfl | rfl | rfl | rfl | rfl | rfl
    · exact gB_mono (by decide) 3 8 _ (by decide) gp
    · exact gB_mono (by decide) 2 8 _ (by decide) gb
    · exact gB_mono (by decide) 4 8 _ (by decide) hw
    · exact g1
    · exact g2
    · exact g3
    · exact g4
  · have i0 : idxD (.list (p :: r)) (.int 0) = some p := (head_at p r).1
    have i1 : idxD p (.int 0) = some b := by rw [hds]; exact (head_at b r2).2
    have hk : e19 (k22 2) = .set 4 1 (.lst (.cons (.idx (.var 2) (.lit (.int 0))) (.cons (.idx (.idx (.var 2) (.lit (.int 0))) (.lit (.int 0))) (.cons (.var 3) (.cons (.call "_law_bent" 19 (.ref 0 (.val (.idx (.var 2) (.lit (.int 0))) (.val (.lit (.int 3)) .nil)))) (.cons (.call "_law_bent" 19 (.ref 0 (.val (.var 3) (.val (.lit (.int 4)) .nil)))) (.cons (.call "_law_bent" 19 (.ref 0 (.val (.idx (.idx (.var 2) (.lit (.int 0))) (.lit (.int 0))) (.val (.lit (.int 2)) .nil)))) (.cons (.call "_law_bent" 19 (.ref 0 (.val (.idx (.var 2) (.neg (.lit (.int 1)))) (.val (.lit (.int 2)) .nil)))) .nil)))))))) := rfl
    have c1 : callF P 28 19 [o, .dat p, .dat (.int 3)] = some (.ok (.dat t1), [some o1, none, none]) := c1
    have c2 : callF P 28 19 [o1, .dat w, .dat (.int 4)] = some (.ok (.dat t2), [some o2, none, none]) := c2
    have c3 : callF P 28 19 [o2, .dat b, .dat (.int 2)] = some (.ok (.dat t3), [some o3, none, none]) := c3
    have c4 : callF P 28 19 [o3, .dat q, .dat (.int 2)] = some (.ok (.dat t4), [some o4, none, none]) := c4
    have en : (-(1 : Int)) = -1 := rfl
    rw [hk]
    simp [exS, ev, evs, eva, getF, get, put, bd, bf, lf, lfd, rt, O.fz, fzs, i0, i1, eq, lend, callD, lentOf, back, c1, c2, c3, c4, O.frz]
def F3 (d : D) : D := .list [.bool (bondD d), .bool (patD d), .bool (wishD d)]
def T3 (d : D) : O := .lst [.dat (.bool (bondD d)), .dat (.bool (patD d)), .dat (.bool (wishD d))]
theorem fzs_T3 : ∀ ts : List D, fzs (ts.map T3) = ts.map F3
  | [] => rfl
  | t :: ts => by
    show (T3 t).fz :: fzs (ts.map T3) = _
    rw [fzs_T3 ts]; rfl
theorem three_loop {x y z : Str} {i j k : Nat} {s0 s1 s2 s3 s4 s5 s6 s7 : Option O} : ∀ (ts : List D) (acc : List O) (x8 : Option O), (∀ d ∈ ts, cf i [.dat d] = some (.ok (.dat (.bool (bondD d))), [none]) ∧ cf j [.dat d] = some (.ok (.dat (.bool (patD d))), [none]) ∧ cf k [.dat d] = some (.ok (.dat (.bool (wishD d))), [none])) → acc.length + ts.length < 1000 → ∃ y8,
    eachG (compT P cf [8] (.nm 8) .nil (.last (.lst (.cons (.call x i (.val (.var 8) .nil)) (.cons (.call y j (.val (.var 8) .nil)) (.cons (.call z k (.val (.var 8) .nil)) .nil)))))) ts [s0, s1, s2, s3, s4, s5, s6, s7, x8] acc = some (acc ++ ts.map T3, [s0, s1, s2, s3, s4, s5, s6, s7, y8])
  | [], acc, x8, _, _ => ⟨x8, by simp [eachG]⟩
  | t :: ts, acc, x8, h, hz => by
    rw [List.length_cons] at hz
    obtain ⟨h1, h2, h3⟩ := h t List.mem_cons_self
    obtain ⟨y8, e⟩ := three_loop (x := x) (y := y) (z := z) (s0 := s0) (s1 := s1) (s2 := s2) (s3 := s3) (s4 := s4) (s5 := s5) (s6 := s6) (s7 := s7) ts (acc ++ [T3 t]) (some (.dat t)) (fun d' h' => h d' (List.mem_cons_of_mem _ h')) (by simp; omega)
    refine ⟨y8, ?_⟩
    rw [eachG_cons (acc' := acc ++ [T3 t]) (s' := [s0, s1, s2, s3, s4, s5, s6, s7, some (.dat t)]), e]
    · simp
    · simp [compT, asg, wipe, evc, evg, ev, evs, eva, getF, get, put, bd, rt, lf, O.fz, lend, callD, lentOf, back, h1, h2, h3, T3, show acc.length < top by unfold top; omega]
theorem three_ev {x y z : Str} {i j k : Nat} {s0 s1 s2 s3 s5 s6 s7 : Option O} {ts : List D} (h : ∀ d ∈ ts, cf i [.dat d] = some (.ok (.dat (.bool (bondD d))), [none]) ∧ cf j [.dat d] = some (.ok (.dat (.bool (patD d))), [none]) ∧ cf k [.dat d] = some (.ok (.dat (.bool (wishD d))), [none])) (hz : ts.length < 1000) :
    ev P cf (.comp .lst [8] (.nm 8) (.any (.var 4)) .nil (.last (.lst (.cons (.call x i (.val (.var 8) .nil)) (.cons (.call y j (.val (.var 8) .nil)) (.cons (.call z k (.val (.var 8) .nil)) .nil)))))) [s0, s1, s2, s3, some (.dat (.list ts)), s5, s6, s7, none] = some (.ok (.lst (ts.map T3)), [s0, s1, s2, s3, some (.dat (.list ts)), s5, s6, s7, none]) := by
  obtain ⟨y8, e⟩ := three_loop (x := x) (y := y) (z := z) (s0 := s0) (s1 := s1) (s2 := s2) (s3 := s3) (s4 := some (.dat (.list ts))) (s5 := s5) (s6 := s6) (s7 := s7) ts [] none h (by simpa using hz)
  have ei : evi P cf (.any (.var 4)) [s0, s1, s2, s3, some (.dat (.list ts)), s5, s6, s7, none] = some (.ok ts, [s0, s1, s2, s3, some (.dat (.list ts)), s5, s6, s7, none]) := by
    simp [evi, ev, getF, get, bd, O.fz, itD]
  rw [ev_comp (k := .lst) (vs := [8]) ei (by simp [isDat]) e]
  simp [lf, rt, collect, restore]
theorem fz_T3 (ts : List D) : (O.lst (ts.map T3)).fz = .list (ts.map F3) := by
  show PyData.list (fzs (ts.map T3)) = _
  rw [fzs_T3]
theorem got_run {i j k : Nat} {s0 s1 s2 s3 s5 s6 s7 : Option O} {ts : List D} (h : ∀ d ∈ ts, cf 1 [.dat d] = some (.ok (.dat (.bool (bondD d))), [none]) ∧ cf 3 [.dat d] = some (.ok (.dat (.bool (patD d))), [none]) ∧ cf 4 [.dat d] = some (.ok (.dat (.bool (wishD d))), [none])) (hz : ts.length < 1000) :
    exS P cf (e19 (k22 3)) [s0, s1, s2, s3, some (.dat (.list ts)), s5, s6, s7, none] = some (.nx, [s0, s1, s2, s3, some (.dat (.list ts)), some (.dat (.list (ts.map F3))), s6, s7, none]) := by
  have e := three_ev (x := "is_bond") (y := "is_pattern") (z := "is_wish") (s0 := s0) (s1 := s1) (s2 := s2) (s3 := s3) (s5 := s5) (s6 := s6) (s7 := s7) h hz
  obtain ⟨cc, hcc⟩ : ∃ cc, cc = E.comp .lst [8] (.nm 8) (.any (.var 4)) .nil (.last (.lst (.cons (.call "is_bond" 1 (.val (.var 8) .nil)) (.cons (.call "is_pattern" 3 (.val (.var 8) .nil)) (.cons (.call "is_wish" 4 (.val (.var 8) .nil)) .nil))))) := ⟨_, rfl⟩
  have hk : e19 (k22 3) = .set 5 1 cc := by rw [hcc]; rfl
  rw [← hcc] at e
  rw [hk]
  simp [exS, e, bf, put, O.frz, fz_T3]
theorem due_run {s0 s1 s2 s3 s6 s7 : Option O} {ts : List D} (h : ∀ d ∈ ts, cf 16 [.dat d] = some (.ok (.dat (.bool (bondD d))), [none]) ∧ cf 17 [.dat d] = some (.ok (.dat (.bool (patD d))), [none]) ∧ cf 18 [.dat d] = some (.ok (.dat (.bool (wishD d))), [none])) (hz : ts.length < 1000)
    (hs : cf 11 [.dat (.list (ts.map F3)), .dat (.list (ts.map F3))] = some (.ok (.dat (.bool true)), [none, none])) :
    exS P cf (e19 (k22 4)) [s0, s1, s2, s3, some (.dat (.list ts)), some (.dat (.list (ts.map F3))), s6, s7, none] = some (.nx, [s0, s1, s2, s3, some (.dat (.list ts)), some (.dat (.list (ts.map F3))), s6, s7, none]) := by
  have e := three_ev (x := "_law_is_bond") (y := "_law_is_pattern") (z := "_law_is_wish") (s0 := s0) (s1 := s1) (s2 := s2) (s3 := s3) (s5 := some (.dat (.list (ts.map F3)))) (s6 := s6) (s7 := s7) h hz
  obtain ⟨cc, hcc⟩ : ∃ cc, cc = E.comp .lst [8] (.nm 8) (.any (.var 4)) .nil (.last (.lst (.cons (.call "_law_is_bond" 16 (.val (.var 8) .nil)) (.cons (.call "_law_is_pattern" 17 (.val (.var 8) .nil)) (.cons (.call "_law_is_wish" 18 (.val (.var 8) .nil)) .nil))))) := ⟨_, rfl⟩
  have hk : e19 (k22 4) = .ife (.nt (.call "_law_same" 11 (.val (.var 5) (.val cc .nil)))) (.cons (.ret (.lit (.bool false))) .nil) .nil := by rw [hcc]; rfl
  rw [← hcc] at e
  rw [hk]
  simp [exS, exs, ev, eva, tst, getF, get, e, bd, bf, rt, lf, lfd, lend, callD, lentOf, back, O.fz, fzs_T3, hs, truD]
theorem soft_run {s0 s1 s3 s4 s5 s6 s7 s8 : Option O} {ps : List D} {p r : D} (hp : ps[0]? = some p) (hc : cf 10 [.dat p] = some (.ok (.dat r), [none])) :
    exS P cf (e19 (k22 5)) [s0, s1, some (.dat (.list ps)), s3, s4, s5, s6, s7, s8] = some (.nx, [s0, s1, some (.dat (.list ps)), s3, s4, s5, some (.dat r), s7, s8]) := by
  have i0 : idxD (.list ps) (.int 0) = some p := by
    cases ps with
    | nil => cases hp
    | cons q r2 =>
      have hq : q = p := by simpa using hp
      rw [hq]
      exact (head_at p r2).1
  have hk : e19 (k22 5) = .set 6 1 (.call "_law_lists" 10 (.val (.idx (.var 2) (.lit (.int 0))) .nil)) := rfl
  rw [hk]
  simp [exS, ev, eva, getF, get, put, bd, bf, rt, lf, lfd, lend, callD, lentOf, back, O.fz, i0, hc, O.frz]
theorem names_run {s0 s1 s3 s4 s5 s7 s8 : Option O} {ps : List D} {p r nm : D} (hp : ps[0]? = some p) (h1 : cf 5 [.dat p] = some (.ok (.dat nm), [none])) (h2 : cf 5 [.dat r] = some (.ok (.dat nm), [none])) (h3 : cf 15 [.dat p] = some (.ok (.dat nm), [none])) (h4 : cf 10 [.dat p] = some (.ok (.dat r), [none]))
    (hs : cf 11 [.dat (.list [nm, nm, r]), .dat (.list [nm, nm, r])] = some (.ok (.dat (.bool true)), [none, none])) :
    exS P cf (e19 (k22 6)) [s0, s1, some (.dat (.list ps)), s3, s4, s5, some (.dat r), s7, s8] = some (.nx, [s0, s1, some (.dat (.list ps)), s3, s4, s5, some (.dat r), s7, s8]) := by
  have i0 : idxD (.list ps) (.int 0) = some p := by
    cases ps with
    | nil => cases hp
    | cons q r2 =>
      have hq : q = p := by simpa using hp
      rw [hq]
      exact (head_at p r2).1
  have hk : e19 (k22 6) = .ife (.nt (.call "_law_same" 11 (.val (.lst (.cons (.call "names_of" 5 (.val (.idx (.var 2) (.lit (.int 0))) .nil)) (.cons (.call "names_of" 5 (.val (.var 6) .nil)) (.cons (.var 6) .nil)))) (.val (.bin .add (.bin .mul (.lst (.cons (.call "_law_pat_names" 15 (.val (.idx (.var 2) (.lit (.int 0))) .nil)) .nil)) (.lit (.int 2))) (.lst (.cons (.call "_law_lists" 10 (.val (.idx (.var 2) (.lit (.int 0))) .nil)) .nil))) .nil)))) (.cons (.ret (.lit (.bool false))) .nil) (.nil) := rfl
  have bm : binD .mul (.list [nm]) (.int 2) = some (.lst [.dat nm, .dat nm]) := rfl
  have ba : binD .add (.list [nm, nm]) (.list [r]) = some (.lst [.dat nm, .dat nm, .dat r]) := rfl
  rw [hk]
  simp [exS, exs, ev, evs, eva, tst, getF, get, put, bd, bf, rt, lf, lfd, lend, callD, lentOf, back, O.fz, fzs, i0, h1, h2, h3, h4, bm, ba, hs, truD]
theorem body22 : b22 = .cons (e19 (k22 0)) (.cons (e19 (k22 1)) (.cons (e19 (k22 2)) (.cons (e19 (k22 3)) (.cons (e19 (k22 4)) (.cons (e19 (k22 5)) (.cons (e19 (k22 6)) .nil)))))) := rfl
theorem same11 (d : D) (h : sOk 20 d = true) : callF P 28 11 [.dat d, .dat d] = some (.ok (.dat (.bool true)), [none, none]) := same_ok (P := P) (i := 11) (d0 := d11) (x := "_law_same") rfl ⟨rfl, rfl, rfl, rfl, rfl⟩ 20 28 d h (by decide)
theorem at_lists {d : D} (h : BondP d) : BL d ∧ BL (listsD d) ∧ at0 (listsD d) = at0 d ∧ at2 (listsD d) = at2 d ∧ sOk 4 (listsD d) = true := by
  obtain ⟨a, e, b, f, rfl, _⟩ := h
  exact ⟨⟨a, e, b, f, .inl rfl⟩, ⟨a, e, b, f, .inr rfl⟩, rfl, rfl, rfl⟩
theorem namesV_len (ds : List D) : (namesV ds).length ≤ ds.length + ds.length := by
  unfold namesV
  rw [isort_length]
  have := dedup_length (ds.map at0 ++ ds.map at2) []
  simpa using this
theorem namesV_sgn {ds : List D} (h : ∀ d ∈ ds, BL d) : ∀ x ∈ namesV ds, ∃ c, x = sgn c := by
  intro x hx
  have mo : ∀ d ∈ ds.map at0 ++ ds.map at2, ∃ c, d = sgn c := fun d hd => by
    rcases List.mem_append.mp hd with z | z
    · obtain ⟨y, hy, rfl⟩ := List.mem_map.mp z; exact (h y hy).i0.2
    · obtain ⟨y, hy, rfl⟩ := List.mem_map.mp z; exact (h y hy).i2.2
  obtain ⟨_, hm⟩ := dedup_mem (ds.map at0 ++ ds.map at2) [] (fun d hd => by obtain ⟨c, rfl⟩ := mo d hd; rfl) (fun d h => by cases h) List.nodup_nil
  rcases (hm x).1 ((isort_perm _).mem_iff.mp hx) with z | z
  · cases z
  · exact mo x z
theorem sOk_mono : ∀ (k k' : Nat) (d : D), k ≤ k' → sOk k d = true → sOk k' d = true
  | 0, _, d, _, h => by cases d <;> simp [sOk] at h
  | k + 1, 0, _, hk, _ => by omega
  | k + 1, k' + 1, d, hk, h => by
    cases d with
    | list ds =>
      simp only [sOk, Bool.and_eq_true, decide_eq_true_eq, List.all_eq_true] at h ⊢
      exact ⟨h.1, fun d hd => sOk_mono k k' d (by omega) (h.2 d hd)⟩
    | tuple ds =>
      simp only [sOk, Bool.and_eq_true, decide_eq_true_eq, List.all_eq_true] at h ⊢
      exact ⟨h.1, fun d hd => sOk_mono k k' d (by omega) (h.2 d hd)⟩
    | dict _ => simp [sOk] at h
    | _ => rfl
theorem sOk_seq {k : Nat} {ds : List D} (hz : ds.length < 1000) (h : ∀ d ∈ ds, sOk k d = true) : sOk (k + 1) (.list ds) = true ∧ sOk (k + 1) (.tuple ds) = true := by
  simp only [sOk, Bool.and_eq_true, decide_eq_true_eq, List.all_eq_true]
  exact ⟨⟨by unfold top; omega, h⟩, ⟨by unfold top; omega, h⟩⟩
theorem turn_ok {o : O} {m : Int} (hb : Box o m) (hm : m < 500000) {s1 s2 s3 s4 s5 s6 : Option O} : ∃ o' s2' s3' s4' s5' s6', Box o' (m + 20000) ∧ exs P (callF P 28) b22 [some o, s1, s2, s3, s4, s5, s6, none, none] = some (.nx, [some o', s1, s2', s3', s4', s5', s6', none, none]) := by
  obtain ⟨ps, o1, hne, hz, hp, hb1, e1⟩ := some_ok hb (by omega) (s1 := s1) (s2 := s2) (s3 := s3) (s4 := s4) (s5 := s5) (s6 := s6) (s8 := none)
  have e2 := wish_run (cf := callF P 28) hp hz (s0 := some o1) (s1 := s1) (s3 := s3) (s4 := s4) (s5 := s5) (s6 := s6) (s7 := none) (s8 := none)
  obtain ⟨p, ts, o2, h0, hpp, hl, hg, hb2, e3⟩ := things_run hb1 (by omega) hne hp (wish_of hp hz).2 (s1 := s1) (s4 := s4) (s5 := s5) (s6 := s6) (s7 := none) (s8 := none)
  have gO8 : ∀ d ∈ ts, gO 8 d = true := fun d hd => gB_gO (by decide) 8 d (hg d hd)
  have e4 := got_run (i := 0) (j := 0) (k := 0) (cf := callF P 28) (ts := ts) (s0 := some o2) (s1 := s1) (s2 := some (.dat (.list ps))) (s3 := some (.dat (.tuple (isort (dedup [] ps))))) (s5 := s5) (s6 := s6) (s7 := none) (fun d hd => ⟨is_bond_ok (gO8 d hd) (by decide), is_pattern_ok (gO8 d hd) (by decide), is_wish_ok (gO8 d hd) (by decide)⟩) (by omega)
  have e5 := due_run (cf := callF P 28) (ts := ts) (s0 := some o2) (s1 := s1) (s2 := some (.dat (.list ps))) (s3 := some (.dat (.tuple (isort (dedup [] ps))))) (s6 := s6) (s7 := none) (fun d hd => ⟨law_is_bond_ok (gO8 d hd) (by decide), law_is_pattern_ok (gO8 d hd) (by decide), law_is_wish_ok (gO8 d hd) (by decide)⟩) (by omega) (same11 _ (sOk_mono 3 20 _ (by decide) (sOk_seq (by simp; omega) fun d hd => by
    obtain ⟨t, _, rfl⟩ := List.mem_map.mp hd
    rfl).1))
  have hp0 : p ∈ ps := List.mem_of_getElem? h0
  have hl1 := lists_ok 3 28 p (gB_gO (by decide) 3 p hpp.good) (by decide)
  have e6 := soft_run (cf := callF P 28) (s0 := some o2) (s1 := s1) (s3 := some (.dat (.tuple (isort (dedup [] ps))))) (s4 := some (.dat (.list ts))) (s5 := some (.dat (.list (ts.map F3)))) (s6 := s6) (s7 := none) (s8 := none) h0 hl1
  obtain ⟨ds, hds, hdn, hdz, hdb⟩ := hpp
  subst hds
  have hB : ∀ d ∈ ds, BL d := fun d hd => (at_lists (hdb d hd)).1
  have hls : listsD (.tuple ds) = .list (ds.map listsD) := by rw [listsD, listsDs_map]
  have n1 := names_ok (n := 27) (p := .tuple ds) (ds := ds) rfl hB (by omega)
  have n2 := names_ok (n := 27) (p := .list (ds.map listsD)) (ds := ds.map listsD) rfl (fun d hd => by
    obtain ⟨t, ht, rfl⟩ := List.mem_map.mp hd
    exact (at_lists (hdb t ht)).2.1) (by simp; omega)
  have n3 := pat_names_ok (n := 27) hB (by omega)
  have nn : namesV (ds.map listsD) = namesV ds := by
    unfold namesV
    rw [List.map_map, List.map_map]
    congr 2
    congr 1
    · exact List.map_congr_left fun d hd => (at_lists (hdb d hd)).2.2.1
    · exact List.map_congr_left fun d hd => (at_lists (hdb d hd)).2.2.2.1
  rw [nn] at n2
  rw [hls] at e6 hl1
  have sn : sOk 5 (.tuple (namesV ds)) = true := (sOk_seq (by have := namesV_len ds; omega) fun x hx => by
    obtain ⟨c, rfl⟩ := namesV_sgn hB x hx
    rfl).2
  have sl : sOk 5 (.list (ds.map listsD)) = true := (sOk_seq (by simp; omega) fun x hx => by
    obtain ⟨t, ht, rfl⟩ := List.mem_map.mp hx
    exact (at_lists (hdb t ht)).2.2.2.2).1
  have ss : sOk 6 (.list [.tuple (namesV ds), .tuple (namesV ds), .list (ds.map listsD)]) = true := (sOk_seq (by simp) fun x hx => by
    simp only [List.mem_cons, List.not_mem_nil, or_false] at hx
    rcases hx with rfl | rfl | rfl
    · exact sn
    · exact sn
    · exact sl).1
  have e7 := names_run (cf := callF P 28) (s0 := some o2) (s1 := s1) (s3 := some (.dat (.tuple (isort (dedup [] ps))))) (s4 := some (.dat (.list ts))) (s5 := some (.dat (.list (ts.map F3)))) (s7 := none) (s8 := none) h0 n1 n2 n3 hl1 (same11 _ (sOk_mono 6 20 _ (by decide) ss))
  refine ⟨o2, some (.dat (.list ps)), some (.dat (.tuple (isort (dedup [] ps)))), some (.dat (.list ts)), some (.dat (.list (ts.map F3))), some (.dat (.list (ds.map listsD))), hb2.mono (by omega), ?_⟩
  rw [body22, exs_cons, e1, sq_nx, exs_cons, e2, sq_nx, exs_cons, e3, sq_nx, exs_cons, e4, sq_nx, exs_cons, e5, sq_nx, exs_cons, e6, sq_nx, exs_cons, e7, sq_nx]
  rfl
end
theorem turns_loop : ∀ (js : List D) (o : O) (m : Int) (s1 s2 s3 s4 s5 s6 : Option O), Box o m → m + 20000 * js.length < 500000 → ∃ o' s1' s2' s3' s4' s5' s6',
    forF (.nm 1) (fun s => exs P (callF P 28) b22 s) js [some o, s1, s2, s3, s4, s5, s6, none, none] = some (.nx, [some o', s1', s2', s3', s4', s5', s6', none, none])
  | [], o, m, s1, s2, s3, s4, s5, s6, _, _ => ⟨o, s1, s2, s3, s4, s5, s6, rfl⟩
  | j :: js, o, m, s1, s2, s3, s4, s5, s6, hb, hm => by
    rw [List.length_cons] at hm
    push_cast at hm
    obtain ⟨o1, t2, t3, t4, t5, t6, hb1, e1⟩ := turn_ok hb (by omega) (s1 := some (.dat j)) (s2 := s2) (s3 := s3) (s4 := s4) (s5 := s5) (s6 := s6)
    obtain ⟨o', u1, u2, u3, u4, u5, u6, e2⟩ := turns_loop js o1 (m + 20000) (some (.dat j)) t2 t3 t4 t5 t6 hb1 (by omega)
    refine ⟨o', u1, u2, u3, u4, u5, u6, ?_⟩
    rw [forF_cons (s1 := [some o, some (.dat j), s2, s3, s4, s5, s6, none, none]) rfl, e1]
    exact e2
theorem rangeOf12 : rangeOf [.int 12] = some ((List.range 12).map fun (j : Nat) => .int (0 + (j : Int))) := rfl
theorem right_ok {o : O} (hb : Box o 0) : ∃ o', callF P 29 22 [o] = some (.ok (.dat (.bool true)), [some o']) := by
  obtain ⟨o', u1, u2, u3, u4, u5, u6, e⟩ := turns_loop ((List.range 12).map fun (j : Nat) => .int (0 + (j : Int))) o 0 none none none none none none hb (by simp)
  refine ⟨o', ?_⟩
  rw [callF_eq (d := d22) rfl rfl]
  show ends d22 (exs P (callF P 28) d22.body [some o, none, none, none, none, none, none, none, none]) = _
  obtain ⟨bb, hbb⟩ : ∃ bb, bb = b22 := ⟨_, rfl⟩
  have ebd : d22.body = .cons (.for_ (.nm 1) (.rng (.cons (.lit (.int 12)) .nil)) bb) (.cons (.ret (.lit (.bool true))) .nil) := by rw [hbb]; rfl
  rw [← hbb] at e
  have er : exs P (callF P 28) d22.body [some o, none, none, none, none, none, none, none, none] = some (.rt (.dat (.bool true)), [some o', u1, u2, u3, u4, u5, u6, none, none]) := by
    rw [ebd, exs_cons]
    have e1 : exS P (callF P 28) (.for_ (.nm 1) (.rng (.cons (.lit (.int 12)) .nil)) bb) [some o, none, none, none, none, none, none, none, none] = some (.nx, [some o', u1, u2, u3, u4, u5, u6, none, none]) := by
      have ei : evi P (callF P 28) (.rng (.cons (.lit (.int 12)) .nil)) [some o, none, none, none, none, none, none, none, none] = some (.ok ((List.range 12).map fun (j : Nat) => .int (0 + (j : Int))), [some o, none, none, none, none, none, none, none, none]) := by
        simp only [evi, evs, ev, rt, bd, fzs, O.fz, rangeOf12]
      simp only [exS]
      rw [ei, bf_ok]
      exact e
    rw [e1, sq_nx]
    rfl
  rw [er]
  rfl
theorem hCells : Shp d8 2 6 [] true cellsB := ⟨rfl, rfl, rfl, rfl, rfl⟩
theorem hBox : Shp d6 2 3 [] false (boxB 11537) := ⟨rfl, rfl, rfl, rfl, rfl⟩
theorem by_hand : callF P 29 21 [] = some (.ok (.dat (.bool true)), []) := by kernel_rfl
theorem law_walk {s0 : Option O} {ms : List Int} : ∀ (js : List Int) (acc : List O) (x2 : Option O), acc.length + js.length < Ur.top → (∀ j ∈ js, 0 ≤ j ∧ j < ms.length) → ∃ y2,
    eachG (compT P (callF P 29) [2] (.nm 2) .nil (.last (.call "_law_right" 22 (.own (.call "_law_box" 6 (.val (.var 1) (.val (.var 2) .nil))) .nil)))) (iL js) [s0, some (.dat (.list (iL ms))), x2] acc = some (acc ++ (iL js).map fun _ => .dat (.bool true), [s0, some (.dat (.list (iL ms))), y2])
  | [], acc, x2, _, _ => ⟨x2, by simp [iL, eachG]⟩
  | j :: js, acc, x2, hz, h => by
    rw [List.length_cons] at hz
    obtain ⟨j0, j1⟩ := h j List.mem_cons_self
    obtain ⟨o, hb, e1⟩ := box_ok (P := P) (n := 28) (i := 6) (d := d6) rfl hBox j0 j1
    obtain ⟨o', e2⟩ := right_ok hb
    obtain ⟨y2, e⟩ := law_walk (s0 := s0) (ms := ms) js (acc ++ [.dat (.bool true)]) (some (.dat (.int j))) (by simp; omega) fun j' h' => h j' (List.mem_cons_of_mem _ h')
    refine ⟨y2, ?_⟩
    show eachG _ (.int j :: iL js) _ _ = _
    rw [eachG_cons (acc' := acc ++ [.dat (.bool true)]) (s' := [s0, some (.dat (.list (iL ms))), some (.dat (.int j))]), e]
    · simp [iL]
    · simp [exs, exS, ev, evs, evo, eva, getF, get, put, tst, truD, cmpD, ltD, noneD, PySem.W.alike, plainD, PyData.depth, PySem.W.dataLt_int, fzs, O.fz, pkO, peekO, childO, datO, ixN, lfd, lf, bd, bf, sq, rt, bfD, binD, O.frz, atPath, putO, dKey, compT, asg, wipe, evc, evg, lend, callD, e1, e2, lentOf, back, show acc.length < Ur.top by omega]
theorem law_true (ns : List Int) (h : ns.length ≤ 63) : ∃ outs, callF P 30 23 [.dat (.list (ns.map .int))] = some (.ok (.dat (.bool true)), outs) := by
  obtain ⟨ms, m1, m2, ec⟩ := cells_ok (P := P) (n := 28) (i := 8) (d := d8) (m := 3) (ns := ns) rfl hCells (by decide) (by decide) h
  refine ⟨[none], ?_⟩
  obtain ⟨y2, e⟩ := law_walk (s0 := some (.dat (.list (iL ns)))) (ms := ms) ((List.range ms.length).map fun (j : Nat) => (j : Int)) [] none (by simp [Ur.top]; omega) (fun j hj => by
    obtain ⟨k, hk, rfl⟩ := List.mem_map.mp hj
    have := List.mem_range.mp hk
    omega)
  have hr : rangeOf [.int (ms.length : Int)] = some (iL ((List.range ms.length).map fun (j : Nat) => (j : Int))) := by
    show rangeD 0 _ 1 = _
    unfold rangeD
    rw [if_pos rfl]
    dsimp only
    rw [if_pos ⟨by simp [Ur.top]; omega, by decide, by decide, by omega, by omega⟩]
    simp [iL]
  have et := tests_true (iL ((List.range ms.length).map fun (j : Nat) => (j : Int)))
  have hl := iL_len ms
  have hi : evi P (callF P 29) (.rng (.cons (.bf .len (.cons (.var 1) .nil)) .nil)) [some (.dat (.list (iL ns))), some (.dat (.list (iL ms))), none] = some (.ok (iL ((List.range ms.length).map fun (j : Nat) => (j : Int))), [some (.dat (.list (iL ns))), some (.dat (.list (iL ms))), none]) := by
    simp [exs, exS, ev, evs, evo, eva, getF, get, put, tst, truD, cmpD, ltD, noneD, PySem.W.alike, plainD, PyData.depth, PySem.W.dataLt_int, fzs, O.fz, pkO, peekO, childO, datO, ixN, lfd, lf, bd, bf, sq, rt, bfD, binD, O.frz, atPath, putO, dKey, evi, lenD, hl, hr]
  have e2 := ev_comp (k := .lst) (vs := [2]) hi (by simp [isDat]) e
  obtain ⟨ce, hce⟩ : ∃ ce, ce = E.comp .lst [2] (.nm 2) (.rng (.cons (.bf .len (.cons (.var 1) .nil)) .nil)) .nil (.last (.call "_law_right" 22 (.own (.call "_law_box" 6 (.val (.var 1) (.val (.var 2) .nil))) .nil))) := ⟨_, rfl⟩
  rw [← hce] at e2
  rw [callF_eq (d := d23) rfl rfl]
  have eb : d23.body = (.cons (.ife (.nt (.call "_law_by_hand_right" 21 .nil)) (.cons (.ret (.lit (.bool false))) .nil) (.nil)) (.cons (.set 1 1 (.call "_law_cells" 8 (.val (.var 0) (.val (.lit (.int 3)) .nil)))) (.cons (.ret (.bf .all (.cons ce .nil))) .nil))) := by rw [hce]; rfl
  show ends d23 (exs P (callF P 29) d23.body [some (.dat (.list (iL ns))), none, none]) = _
  rw [eb]
  have e3 : (exs P (callF P 29) (.cons (.ife (.nt (.call "_law_by_hand_right" 21 .nil)) (.cons (.ret (.lit (.bool false))) .nil) (.nil)) (.cons (.set 1 1 (.call "_law_cells" 8 (.val (.var 0) (.val (.lit (.int 3)) .nil)))) (.cons (.ret (.bf .all (.cons ce .nil))) .nil))) [some (.dat (.list (iL ns))), none, none]).map (·.1) = some (.rt (.dat (.bool true))) := by
    simp [exs, exS, ev, evs, evo, eva, getF, get, put, tst, truD, cmpD, ltD, noneD, PySem.W.alike, plainD, PyData.depth, PySem.W.dataLt_int, fzs, O.fz, pkO, peekO, childO, datO, ixN, lfd, lf, bd, bf, sq, rt, bfD, binD, O.frz, atPath, putO, dKey, lend, callD, lentOf, back, by_hand, ec, e2, et, collect, restore]
  rw [ends_map e3 rfl]
  rfl
end Ur.k01
open PySem PySem.W PyProof.Rows
set_option maxRecDepth 100000 in
set_option maxHeartbeats 0 in
theorem PySem.Challenge.cw_barredcrossings_k01_bonds_patterns_wishe_holds : PySem.Challenge.rw_barredcrossings_k01_bonds_patterns_wishe.Holds := by
  w_on; o_law; k_head; (case hw => w_witness2)
  k_fill
  refine Ur.law_of (l := PySem.Challenge.rw_barredcrossings_k01_bonds_patterns_wishe) (P := Ur.k01.P) (n := 30) (sh := 3) (ix := 23) (dl := Ur.k01.d23) (x := "_law_script") rfl rfl ⟨rfl, by decide, by decide⟩ (.inr (by decide)) (fun w h Y => PySem.W.kIn_of Y) rfl rfl rfl rfl Ur.k01.law_true ?F
  case F =>
    intro w mg h KX G
    refine' Ur.k01.all_mk KX G ?a0 ?l0 ?c0 ?k0 ?a1 ?l1 ?c1 ?k1 ?a2 ?l2 ?c2 ?k2 ?a3 ?l3 ?c3 ?k3 ?a4 ?l4 ?c4 ?k4 ?a5 ?l5 ?c5 ?k5 ?a6 ?l6 ?c6 ?k6 ?a7 ?l7 ?c7 ?k7 ?a8 ?l8 ?c8 ?k8 ?a9 ?l9 ?c9 ?k9 ?a10 ?l10 ?c10 ?k10 ?a11 ?l11 ?c11 ?k11 ?a12 ?l12 ?c12 ?k12 ?a13 ?l13 ?c13 ?k13 ?a14 ?l14 ?c14 ?k14 ?a15 ?l15 ?c15 ?k15 ?a16 ?l16 ?c16 ?k16 ?a17 ?l17 ?c17 ?k17 ?a18 ?l18 ?c18 ?k18 ?a19 ?l19 ?c19 ?k19 ?a20 ?l20 ?c20 ?k20 ?a21 ?l21 ?c21 ?k21 ?a22 ?l22 ?c22 ?k22 ?a23 ?l23 ?c23 ?k23 ?ya0 ?yf0 ?yl0 ?yc0 ?yk0 ?yx0 ?rb ?gb ?bb ?ev ?el
    (case a0 => k_is)
    (case l0 => k_is)
    (case c0 => k_is)
    (case k0 => k_is)
    (case a1 => k_is)
    (case l1 => k_is)
    (case c1 => k_is)
    (case k1 => k_is)
    (case a2 => k_is)
    (case l2 => k_is)
    (case c2 => k_is)
    (case k2 => k_is)
    (case a3 => k_is)
    (case l3 => k_is)
    (case c3 => k_is)
    (case k3 => k_is)
    (case a4 => k_is)
    (case l4 => k_is)
    (case c4 => k_is)
    (case k4 => k_is)
    (case a5 => k_is)
    (case l5 => k_is)
    (case c5 => k_is)
    (case k5 => k_is)
    (case a6 => k_is)
    (case l6 => k_is)
    (case c6 => k_is)
    (case k6 => k_is)
    (case a7 => k_is)
    (case l7 => k_is)
    (case c7 => k_is)
    (case k7 => k_is)
    (case a8 => k_is)
    (case l8 => k_is)
    (case c8 => k_is)
    (case k8 => k_is)
    (case a9 => k_is)
    (case l9 => k_is)
    (case c9 => k_is)
    (case k9 => k_is)
    (case a10 => k_is)
    (case l10 => k_is)
    (case c10 => k_is)
    (case k10 => k_is)
    (case a11 => k_is)
    (case l11 => k_is)
    (case c11 => k_is)
    (case k11 => k_is)
    (case a12 => k_is)
    (case l12 => k_is)
    (case c12 => k_is)
    (case k12 => k_is)
    (case a13 => k_is)
    (case l13 => k_is)
    (case c13 => k_is)
    (case k13 => k_is)
    (case a14 => k_is)
    (case l14 => k_is)
    (case c14 => k_is)
    (case k14 => k_is)
    (case a15 => k_is)
    (case l15 => k_is)
    (case c15 => k_is)
    (case k15 => k_is)
    (case a16 => k_is)
    (case l16 => k_is)
    (case c16 => k_is)
    (case k16 => k_is)
    (case a17 => k_is)
    (case l17 => k_is)
    (case c17 => k_is)
    (case k17 => k_is)
    (case a18 => k_is)
    (case l18 => k_is)
    (case c18 => k_is)
    (case k18 => k_is)
    (case a19 => k_is)
    (case l19 => k_is)
    (case c19 => k_is)
    (case k19 => k_is)
    (case a20 => k_is)
    (case l20 => k_is)
    (case c20 => k_is)
    (case k20 => k_is)
    (case a21 => k_is)
    (case l21 => k_is)
    (case c21 => k_is)
    (case k21 => k_is)
    (case a22 => k_is)
    (case l22 => k_is)
    (case c22 => k_is)
    (case k22 => k_is)
    (case a23 => k_is)
    (case l23 => k_is)
    (case c23 => k_is)
    (case k23 => k_is)
    (case ya0 => k_is)
    (case yf0 => k_is)
    (case yl0 => k_is)
    (case yc0 => k_is)
    (case yk0 => k_is)
    (case yx0 => kernel_rfl)
    (case rb => kernel_rfl)
    (case gb => kernel_rfl)
    (case bb => kernel_rfl)
    (case ev => kernel_rfl)
    (case el => kernel_rfl)
