import PyProof.Rows.All
import HandS.Base
import HandS.Call
import HandS.List
import HandS.Wide
import HandS.Flow
import HandS.Comp
import HandS.Words
import HandS.Text
import HandS.IsInst
import HandS.TupAny
import HandS.Style
import HandS.NoneIn
import HandS.SortInts
import HandS.SortRule
import HandS.Defaults
import KE.KStateDown
import HandS.Ends
import HandS.More
import HandS.WordsExc
import HandS.Head0
import HandS.Head1
import HandS.Head2
import HandS.HeadEnd
import HandS.HeadHook1
import HandS.HeadHook2
import KE.IntTextLaws
import PySem.Challenge.RW_roomtables_k12_either
section SPvA
set_option Elab.async false
set_option linter.all false
/-! Pv: a small evaluator of Python texts over plain data: values, a store of mutable objects, expressions, statements. -/
namespace Pv
open PySem (Str Operator CmpOp PyData sizeLine)

/-- a value: tuples by what they hold, mutable objects by their place in the store -/
inductive Val where
  | non | bl (b : Bool) | int (i : Int) | str (s : Str) | tup (vs : List Val) | ref (l : Nat) | fn (f : Str) | ty (n : String) | tab (x : Str) | rl (vs : List Val)
  deriving Inhabited
/-- a mutable object: a list, a dict, an instance -/
inductive Ob where
  | lst (vs : List Val) | dct (kvs : List (Val × Val)) | ins (c : Str) (fs : List (Str × Val))
  deriving Inhabited
abbrev Mem := List Ob
abbrev En := List (Option Val)
inductive Rs (α : Type) where
  | ok (a : α) (m : Mem) | exc (e : Val) (m : Mem) | bad
def Rs.bind {α β : Type} (r : Rs α) (f : α → Mem → Rs β) : Rs β := match r with
  | .ok a m => f a m
  | .exc e m => .exc e m
  | .bad => .bad
@[simp] theorem Rs.bind_ok {α β : Type} (a : α) (m : Mem) (f : α → Mem → Rs β) : (Rs.ok a m).bind f = f a m := rfl
@[simp] theorem Rs.bind_exc {α β : Type} (e : Val) (m : Mem) (f : α → Mem → Rs β) : (Rs.exc e m : Rs α).bind f = .exc e m := rfl
@[simp] theorem Rs.bind_bad {α β : Type} (f : α → Mem → Rs β) : (Rs.bad : Rs α).bind f = .bad := rfl
theorem Rs.bind_eq_ok {α β : Type} {r : Rs α} {f : α → Mem → Rs β} {b : β} {m' : Mem} (h : r.bind f = .ok b m') : ∃ a m, r = .ok a m ∧ f a m = .ok b m' := by
  cases r with
  | ok a m => exact ⟨a, m, rfl, h⟩
  | exc e m => cases h
  | bad => cases h

/-- what stands in a list, if it is one: one of the store, or one that is only read -/
def lsOf (m : Mem) : Val → Option (List Val)
  | .ref l => (match m[l]? with
    | some (.lst vs) => some vs
    | _ => none)
  | .rl vs => some vs
  | _ => none
def truth (m : Mem) : Val → Option Bool
  | .non => some false
  | .bl b => some b
  | .int i => some (i != 0)
  | .str s => if s.length ≤ sizeLine then some ((s.length : Int) != 0) else none
  | .tup vs => some (!vs.isEmpty)
  | .ref l => (lsOf m (.ref l)).map fun vs => !vs.isEmpty
  | .rl vs => some (!vs.isEmpty)
  | _ => none
def allD (f : Val → Option PyData) : List Val → Option (List PyData)
  | [] => some []
  | v :: vs => (f v).bind fun d => (allD f vs).map (d :: ·)
/-- plain data, of a nesting below n -/
def toD (m : Mem) : Nat → Val → Option PyData
  | 0, _ => none
  | _ + 1, .non => some .none
  | _ + 1, .bl b => some (.bool b)
  | _ + 1, .int i => some (.int i)
  | _ + 1, .str s => some (.str s)
  | n + 1, .tup vs => (allD (toD m n) vs).map .tuple
  | n + 1, .ref l => (lsOf m (.ref l)).bind fun vs => (allD (toD m n) vs).map .list
  | n + 1, .rl vs => (allD (toD m n) vs).map .list
  | _ + 1, _ => none
def eqV (m : Mem) (x y : Val) : Option Bool := match toD m 64 x, toD m 64 y with
  | some d, some e => if PySem.SeqAt.shaped d && PySem.SeqAt.shaped e then some (PyData.eqv d e) else none
  | _, _ => none
/-- a value's own type -/
def tyOf (m : Mem) : Val → Option String
  | .non => some "NoneType"
  | .bl _ => some "bool"
  | .int _ => some "int"
  | .str _ => some "str"
  | .tup _ => some "tuple"
  | .ref l => (match m[l]? with
    | some (.lst _) => some "list"
    | some (.dct _) => some "dict"
    | _ => none)
  | .rl _ => some "list"
  | _ => none
def isSub (a b : String) : Bool := a == b || (a == "bool" && b == "int")

/-! ### operators -/
def addV : Val → Val → Mem → Rs Val
  | .int i, .int j, m => .ok (.int (i + j)) m
  | .str a, .str b, m => if a.length + b.length ≤ sizeLine then .ok (.str (a ++ b)) m else .bad
  | .tup a, .tup b, m => if a.length + b.length ≤ sizeLine then .ok (.tup (a ++ b)) m else .bad
  | .ref a, .ref b, m => (match m[a]?, m[b]? with
    | some (.lst u), some (.lst v) => if u.length + v.length ≤ sizeLine then .ok (.ref m.length) (m ++ [.lst (u ++ v)]) else .bad
    | _, _ => .bad)
  | _, _, _ => .bad
def subV : Val → Val → Mem → Rs Val
  | .int i, .int j, m => .ok (.int (i - j)) m
  | _, _, _ => .bad
def mulV : Val → Val → Mem → Rs Val
  | .int i, .int j, m => if decide (i.natAbs < 18446744073709551616) || decide (j.natAbs < 18446744073709551616) || decide (i.natAbs.log2 + j.natAbs.log2 < 1000000) then .ok (.int (i * j)) m else .bad
  | .str a, .int k, m => if decide (0 ≤ k) && decide (k ≤ 1000000) && decide (a.length ≤ 10) then .ok (.str (PySem.Txt.mul a k)) m else .bad
  | .ref a, .int k, m => (match m[a]? with
    | some (.lst u) => if decide (-(2 ^ 63) ≤ k) && decide (k < 2 ^ 63) && decide (u.length * k.toNat ≤ sizeLine) then .ok (.ref m.length) (m ++ [.lst (List.replicate k.toNat u).flatten]) else .bad
    | _ => .bad)
  | _, _, _ => .bad
def fdivV : Val → Val → Mem → Rs Val
  | .int i, .int j, m => if decide (0 < j) && decide (j.natAbs.log2 < 9000) then .ok (.int (i / j)) m else .bad
  | _, _, _ => .bad
def modV : Val → Val → Mem → Rs Val
  | .int i, .int j, m => if 0 < j then .ok (.int (i % j)) m else .bad
  | _, _, _ => .bad
def powV : Val → Val → Mem → Rs Val
  | .int i, .int j, m => if decide (0 ≤ j) && decide (j ≤ 1000000) && decide (i.natAbs < 2 ^ 64) then .ok (.int (i ^ j.toNat)) m else .bad
  | _, _, _ => .bad
def shlV : Val → Val → Mem → Rs Val
  | .int i, .int j, m => if decide (0 ≤ j) && decide (j ≤ 1000000) && decide (i.natAbs < 2 ^ 64) then .ok (.int (i * 2 ^ j.toNat)) m else .bad
  | _, _, _ => .bad
def shrV : Val → Val → Mem → Rs Val
  | .int i, .int j, m => if 0 ≤ j then .ok (.int (i / 2 ^ j.toNat)) m else .bad
  | _, _, _ => .bad
def andV : Val → Val → Mem → Rs Val
  | .int i, .int j, m => .ok (.int (PySem.Builtin.bitAnd i j)) m
  | _, _, _ => .bad
def orV : Val → Val → Mem → Rs Val
  | .int i, .int j, m => .ok (.int (PySem.Builtin.bitOr i j)) m
  | _, _, _ => .bad
def binV : Operator → Val → Val → Mem → Rs Val
  | .Add => addV
  | .Sub => subV
  | .Mult => mulV
  | .FloorDiv => fdivV
  | .Mod => modV
  | .Pow => powV
  | .LShift => shlV
  | .RShift => shrV
  | .BitAnd => andV
  | .BitOr => orV
  | _ => fun _ _ _ => .bad

/-! ### comparisons -/
def flat : Val → Bool
  | .non => true
  | .bl _ => true
  | .int _ => true
  | .str _ => true
  | _ => false
def ofB (b : Option Bool) (m : Mem) : Rs Val := match b with
  | some b => .ok (.bl b) m
  | none => .bad
/-- plain values compared: not ints with truths -/
def feq : Val → Val → Bool
  | .non, .non => true
  | .bl a, .bl b => a == b
  | .bl a, .int j => (if a then 1 else 0) == j
  | .int i, .bl b => i == (if b then 1 else 0)
  | .int i, .int j => i == j
  | .str x, .str y => x == y
  | _, _ => false
def inV (m : Mem) (x y : Val) : Option Bool := match y with
  | .tup vs => if flat x && vs.all flat then some (vs.any fun y => feq y x) else none
  | .ref l => (lsOf m (.ref l)).bind fun vs => if flat x && vs.all flat then some (vs.any fun y => feq y x) else none
  | .rl vs => if flat x && vs.all flat then some (vs.any fun y => feq y x) else none
  | .str z => (match x with
    | .str y => (match y.cps.toList with
      | [c] => some (decide (c ∈ z.cps.toList))
      | _ => none)
    | _ => none)
  | _ => none
def isV (x y : Val) : Option Bool := match y with
  | .non => (match x with
    | .non => some true
    | _ => some false)
  | .bl b => (match x with
    | .bl a => some (decide (a = b))
    | _ => none)
  | _ => none
def ltV (x y : Val) : Option Bool := match x, y with
  | .int i, .int j => some (decide (i < j))
  | _, _ => none
def leV (x y : Val) : Option Bool := match x, y with
  | .int i, .int j => some (decide (i ≤ j))
  | _, _ => none
def cmpV : CmpOp → Val → Val → Mem → Rs Val
  | .Eq, x, y, m => ofB (eqV m x y) m
  | .NotEq, x, y, m => ofB ((eqV m x y).map not) m
  | .Lt, x, y, m => ofB (ltV x y) m
  | .LtE, x, y, m => ofB (leV x y) m
  | .Gt, x, y, m => ofB (ltV y x) m
  | .GtE, x, y, m => ofB (leV y x) m
  | .In, x, y, m => ofB (inV m x y) m
  | .NotIn, x, y, m => ofB ((inV m x y).map not) m
  | .Is, x, y, m => ofB (isV x y) m
  | .IsNot, x, y, m => ofB ((isV x y).map not) m

/-! ### items, slices -/
def ixV (x y : Val) (m : Mem) : Rs Val := match x, y with
  | .tup vs, .int i => (match L2.atI vs i with
    | some v => .ok v m
    | none => .bad)
  | .ref l, .int i => (match lsOf m (.ref l) with
    | some vs => (match L2.atI vs i with
      | some v => .ok v m
      | none => .bad)
    | none => .bad)
  | .rl vs, .int i => (match L2.atI vs i with
    | some v => .ok v m
    | none => .bad)
  | .str z, .int i => (match L2.atI z.cps.toList i with
    | some c => if z.length ≤ sizeLine then .ok (.str ⟨#[c]⟩) m else .bad
    | none => .bad)
  | _, _ => .bad
def part : Val → Option (Option Int)
  | .non => some none
  | .int i => some (some i)
  | _ => none
def cut {α : Type} (xs : List α) (lo hi : Option Int) : List α := (xs.drop (HT.sIx xs.length 0 lo)).take (HT.sIx xs.length xs.length hi - HT.sIx xs.length 0 lo)
def slV (x lo hi : Val) (m : Mem) : Rs Val := match part lo, part hi with
  | some a, some b => (match x with
    | .tup vs => .ok (.tup (cut vs a b)) m
    | x => (match lsOf m x with
      | some vs => .ok (.ref m.length) (m ++ [.lst (cut vs a b)])
      | none => .bad))
  | _, _ => .bad
/-- a store x[i] = v -/
def setV (x i v : Val) (m : Mem) : Option Mem := match x, i with
  | .ref l, .int k => (match m[l]? with
    | some (.lst vs) => (L2.ixN vs.length k).map fun j => m.set l (.lst (vs.set j v))
    | _ => none)
  | _, _ => none

/-! ### built-in functions -/
def absV : List Val → Mem → Rs Val
  | [.int i], m => .ok (.int (if i < 0 then -i else i)) m
  | _, _ => .bad
def lenV : List Val → Mem → Rs Val
  | [.tup vs], m => .ok (.int vs.length) m
  | [.str z], m => if z.length ≤ sizeLine then .ok (.int z.length) m else .bad
  | [x], m => (match lsOf m x with
    | some vs => .ok (.int vs.length) m
    | none => .bad)
  | _, _ => .bad
def intsOf : List Val → Option (List Int)
  | [] => some []
  | .int i :: vs => (intsOf vs).map (i :: ·)
  | _ :: _ => none
def maxL : List Int → Int
  | [] => 0
  | [i] => i
  | i :: is => if i < maxL is then maxL is else i
def maxV : List Val → Mem → Rs Val
  | [.int i, .int j], m => .ok (.int (if j > i then j else i)) m
  | [x], m => (match (lsOf m x).bind intsOf with
    | some (i :: is) => .ok (.int (maxL (i :: is))) m
    | _ => .bad)
  | _, _ => .bad
def minV : List Val → Mem → Rs Val
  | [.int i, .int j], m => .ok (.int (if j < i then j else i)) m
  | _, _ => .bad
def intV : List Val → Mem → Rs Val
  | [.int i], m => .ok (.int i) m
  | [.bl b], m => .ok (.int (if b then 1 else 0)) m
  | [.str a], m => if a.length ≤ 640 then (match PySem.intText? a with
    | some n => .ok (.int n) m
    | none => .bad) else .bad
  | _, _ => .bad
def listV : List Val → Mem → Rs Val
  | [.tup vs], m => .ok (.ref m.length) (m ++ [.lst vs])
  | [x], m => (match lsOf m x with
    | some vs => .ok (.ref m.length) (m ++ [.lst vs])
    | none => .bad)
  | _, _ => .bad
def tupleV : List Val → Mem → Rs Val
  | [.tup vs], m => .ok (.tup vs) m
  | [x], m => (match lsOf m x with
    | some vs => .ok (.tup vs) m
    | none => .bad)
  | _, _ => .bad
def insB {α : Type} (le : α → α → Bool) (x : α) : List α → List α
  | [] => [x]
  | y :: t => if le x y then x :: y :: t else y :: insB le x t
def sortB {α : Type} (le : α → α → Bool) : List α → List α
  | [] => []
  | x :: t => insB le x (sortB le t)
def leI (a b : Int) : Bool := decide (a ≤ b)
def leP (a b : Int × Int) : Bool := decide (a.1 < b.1) || (decide (a.1 = b.1) && decide (a.2 ≤ b.2))
def pairsOf : List Val → Option (List (Int × Int))
  | [] => some []
  | .tup [.int i, .int j] :: vs => (pairsOf vs).map ((i, j) :: ·)
  | _ :: _ => none
def pairV (p : Int × Int) : Val := .tup [.int p.1, .int p.2]
def sortedV : List Val → Mem → Rs Val
  | [x], m => (match lsOf m x with
    | some vs => (match intsOf vs with
      | some ns => .ok (.ref m.length) (m ++ [.lst ((sortB leI ns).map .int)])
      | none => (match pairsOf vs with
        | some ps => .ok (.ref m.length) (m ++ [.lst ((sortB leP ps).map pairV)])
        | none => .bad))
    | none => .bad)
  | _, _ => .bad
inductive Bi where
  | abs | len | max | min | int | list | tuple | sorted
  deriving DecidableEq
def biV : Bi → List Val → Mem → Rs Val
  | .abs => absV
  | .len => lenV
  | .max => maxV
  | .min => minV
  | .int => intV
  | .list => listV
  | .tuple => tupleV
  | .sorted => sortedV
def isiV (m : Mem) (x : Val) (ts : List String) : Option Bool := (tyOf m x).map fun t => ts.any (isSub t)

/-! ### what a loop walks -/
inductive Sr where
  | vals (vs : List Val) | lst (l : Nat)
def Sr.at (s : Sr) (m : Mem) (i : Nat) : Option (Option Val) := match s with
  | .vals vs => some vs[i]?
  | .lst l => (lsOf m (.ref l)).map fun vs => vs[i]?
inductive Ik where
  | val | rng1 | rng2
  deriving DecidableEq
def rangeL (lo : Int) (n : Nat) : List Val := (List.range n).map fun (k : Nat) => .int (lo + (k : Int))
def srVal : List Val → Mem → Option (Sr × Nat)
  | [.tup vs], _ => some (.vals vs, vs.length)
  | [.rl vs], _ => some (.vals vs, vs.length)
  | [.ref l], m => (lsOf m (.ref l)).map fun vs => (.lst l, vs.length)
  | _, _ => none
def srR1 : List Val → Option (Sr × Nat)
  | [.int j] => if decide (-(2 ^ 62) ≤ j) && decide (j < 2 ^ 62) then some (.vals (rangeL 0 j.toNat), j.toNat) else none
  | _ => none
def srR2 : List Val → Option (Sr × Nat)
  | [.int i, .int j] => if decide (-(2 ^ 62) ≤ i) && decide (i < 2 ^ 62) && decide (-(2 ^ 62) ≤ j) && decide (j < 2 ^ 62) then some (.vals (rangeL i (j - i).toNat), (j - i).toNat) else none
  | _ => none
/-- the source, and how many turns at most -/
def srV (k : Ik) (vs : List Val) (m : Mem) : Option (Sr × Nat) := match k with
  | .val => srVal vs m
  | .rng1 => srR1 vs
  | .rng2 => srR2 vs
inductive Tg where
  | nm (i : Nat) | tp (is : List Nat)
def setAll : List Nat → List Val → En → Option En
  | [], [], ρ => some ρ
  | i :: is, v :: vs, ρ => setAll is vs (ρ.set i (some v))
  | _, _, _ => none
def bindT (t : Tg) (v : Val) (ρ : En) (m : Mem) : Option En := match t, v with
  | .nm i, v => some (ρ.set i (some v))
  | .tp is, .tup vs => setAll is vs ρ
  | .tp is, .ref l => (lsOf m (.ref l)).bind fun vs => setAll is vs ρ
  | _, _ => none
def Tg.slots : Tg → List Nat
  | .nm i => [i]
  | .tp is => is
/-- these slots forgotten -/
def wipeR (ρ : En) : List Nat → En
  | [] => ρ
  | v :: vs => (wipeR ρ vs).set v none
def getS (ρ : En) (i : Nat) (m : Mem) : Rs Val := match ρ[i]? with
  | some (some v) => .ok v m
  | _ => .bad

/-! ### expressions -/
mutual
inductive Ex where
  | var (i : Nat) | lit (v : Val) | glb (x : Str)
  | tup (es : Exs) | lst (es : Exs)
  | bin (op : Operator) (a b : Ex) | neg (a : Ex) | nt (a : Ex)
  | and (a b : Ex) | or (a b : Ex) | cmp (op : CmpOp) (a b : Ex) | chn (o1 o2 : CmpOp) (a b c : Ex)
  | ite (c a b : Ex) | ix (a b : Ex) | sl (a lo hi : Ex)
  | call (f : Str) (es : Exs) | bi (f : Bi) (es : Exs) | isi (a : Ex) (ts : List String)
  | comp (elt : Ex) (tg : Tg) (k : Ik) (it : Exs) (cs : Exs) | chk (a : Ex)
inductive Exs where
  | nil | cons (e : Ex) (es : Exs)
end

def tryB (m : Mem) (v : Val) (f : Bool → Rs Val) : Rs Val := match truth m v with
  | some b => f b
  | none => .bad
/-- the items of a comprehension -/
def compGo (s : Sr) (bd : Val → Mem → Option En) (cond : En → Mem → Rs Bool) (elt : En → Mem → Rs Val) : Nat → Nat → List Val → Mem → Rs (List Val)
  | 0, i, acc, m => (match s.at m i with
    | some none => .ok acc m
    | _ => .bad)
  | n + 1, i, acc, m => (match s.at m i with
    | some none => .ok acc m
    | some (some v) => (match bd v m with
      | some ρ => (cond ρ m).bind fun b m1 => if b then (elt ρ m1).bind fun x m2 => if acc.length < sizeLine then compGo s bd cond elt n (i + 1) (acc ++ [x]) m2 else .bad else compGo s bd cond elt n (i + 1) acc m1
      | none => .bad)
    | none => .bad)
section
variable (G : Str → Option Val) (call : Str → List Val → Mem → Rs Val)
mutual
def evE : Ex → En → Mem → Rs Val
  | .var i, ρ, m => getS ρ i m
  | .lit v, _, m => .ok v m
  | .glb x, _, m => (match G x with
    | some v => .ok v m
    | none => .bad)
  | .tup es, ρ, m => (evEs es ρ m).bind fun vs m1 => if vs.length ≤ sizeLine then .ok (.tup vs) m1 else .bad
  | .lst es, ρ, m => (evEs es ρ m).bind fun vs m1 => if vs.length ≤ sizeLine then .ok (.ref m1.length) (m1 ++ [.lst vs]) else .bad
  | .bin op a b, ρ, m => (evE a ρ m).bind fun x m1 => (evE b ρ m1).bind fun y m2 => binV op x y m2
  | .neg a, ρ, m => (evE a ρ m).bind fun x m1 => (match x with
    | .int i => .ok (.int (-i)) m1
    | _ => .bad)
  | .nt a, ρ, m => (evE a ρ m).bind fun x m1 => tryB m1 x fun b => .ok (.bl (!b)) m1
  | .and a b, ρ, m => (evE a ρ m).bind fun x m1 => tryB m1 x fun k => if k then evE b ρ m1 else .ok x m1
  | .or a b, ρ, m => (evE a ρ m).bind fun x m1 => tryB m1 x fun k => if k then .ok x m1 else evE b ρ m1
  | .cmp op a b, ρ, m => (evE a ρ m).bind fun x m1 => (evE b ρ m1).bind fun y m2 => cmpV op x y m2
  | .chn o1 o2 a b c, ρ, m => (evE a ρ m).bind fun x m1 => (evE b ρ m1).bind fun y m2 => (cmpV o1 x y m2).bind fun r m3 => (match r with
    | .bl true => (evE c ρ m3).bind fun z m4 => cmpV o2 y z m4
    | .bl false => .ok (.bl false) m3
    | _ => .bad)
  | .ite c a b, ρ, m => (evE c ρ m).bind fun x m1 => tryB m1 x fun k => if k then evE a ρ m1 else evE b ρ m1
  | .ix a b, ρ, m => (evE a ρ m).bind fun x m1 => (evE b ρ m1).bind fun y m2 => ixV x y m2
  | .sl a lo hi, ρ, m => (evE a ρ m).bind fun x m1 => (evE lo ρ m1).bind fun y m2 => (evE hi ρ m2).bind fun z m3 => slV x y z m3
  | .call f es, ρ, m => (evEs es ρ m).bind fun vs m1 => call f vs m1
  | .bi f es, ρ, m => (evEs es ρ m).bind fun vs m1 => biV f vs m1
  | .isi a ts, ρ, m => (evE a ρ m).bind fun x m1 => ofB (isiV m1 x ts) m1
  | .comp elt tg k it cs, ρ, m => (evEs it ρ m).bind fun vs m1 => (match srV k vs m1 with
    | some (s, n) => (compGo s (fun v m => bindT tg v (wipeR ρ tg.slots) m) (fun ρ m => evCs cs ρ m) (fun ρ m => evE elt ρ m) n 0 [] m1).bind fun xs m2 => .ok (.ref m2.length) (m2 ++ [.lst xs])
    | none => .bad)
  | .chk a, ρ, m => (evE a ρ m).bind fun v m1 => (match v with
    | .int i => .ok (.int i) m1
    | _ => .bad)
def evEs : Exs → En → Mem → Rs (List Val)
  | .nil, _, m => .ok [] m
  | .cons e es, ρ, m => (evE e ρ m).bind fun v m1 => (evEs es ρ m1).bind fun vs m2 => .ok (v :: vs) m2
/-- tests, all of them (none or one) -/
def evCs : Exs → En → Mem → Rs Bool
  | .nil, _, m => .ok true m
  | .cons e es, ρ, m => (evE e ρ m).bind fun v m1 => (match truth m1 v with
    | some true => evCs es ρ m1
    | some false => .ok false m1
    | none => .bad)
end
end

/-! ### statements -/
inductive Fl where
  | nx | bk | ct | rt (v : Val)
mutual
inductive Sm where
  | ret (e : Ex) | exp (e : Ex) | asg (t : Tg) (e : Ex) | put (o i e : Ex) | aug (i : Nat) (op : Operator) (e : Ex)
  | ite (c : Ex) (a b : Sms) | lup (t : Tg) (k : Ik) (it : Exs) (body : Sms) | whl (c : Ex) (body : Sms) | brk | cnt | pss
inductive Sms where
  | nil | cons (s : Sm) (ss : Sms)
end
def forGo (s : Sr) (bd : Val → En → Mem → Option En) (body : En → Mem → Rs (Fl × En)) : Nat → Nat → En → Mem → Rs (Fl × En)
  | 0, i, ρ, m => (match s.at m i with
    | some none => .ok (.nx, ρ) m
    | _ => .bad)
  | n + 1, i, ρ, m => (match s.at m i with
    | some none => .ok (.nx, ρ) m
    | some (some v) => (match bd v ρ m with
      | some ρ1 => (body ρ1 m).bind fun r m2 => (match r.1 with
        | .nx => forGo s bd body n (i + 1) r.2 m2
        | .ct => forGo s bd body n (i + 1) r.2 m2
        | .bk => .ok (.nx, r.2) m2
        | .rt v => .ok (.rt v, r.2) m2)
      | none => .bad)
    | none => .bad)
def whGo (c : En → Mem → Rs Val) (body : En → Mem → Rs (Fl × En)) : Nat → En → Mem → Rs (Fl × En)
  | 0, _, _ => .bad
  | n + 1, ρ, m => (c ρ m).bind fun x m1 => (match truth m1 x with
    | some true => (body ρ m1).bind fun r m2 => (match r.1 with
      | .nx => whGo c body n r.2 m2
      | .ct => whGo c body n r.2 m2
      | .bk => .ok (.nx, r.2) m2
      | .rt v => .ok (.rt v, r.2) m2)
    | some false => .ok (.nx, ρ) m1
    | none => .bad)
section
variable (G : Str → Option Val) (call : Str → List Val → Mem → Rs Val)
/-- turns of a while, at most -/
def whMost : Nat := 1000000
mutual
def evS : Sm → En → Mem → Rs (Fl × En)
  | .ret e, ρ, m => (evE G call e ρ m).bind fun v m1 => .ok (.rt v, ρ) m1
  | .exp e, ρ, m => (evE G call e ρ m).bind fun _ m1 => .ok (.nx, ρ) m1
  | .asg t e, ρ, m => (evE G call e ρ m).bind fun v m1 => (match bindT t v ρ m1 with
    | some ρ1 => .ok (.nx, ρ1) m1
    | none => .bad)
  | .put o i e, ρ, m => (evE G call e ρ m).bind fun v m1 => (evE G call o ρ m1).bind fun x m2 => (evE G call i ρ m2).bind fun y m3 => (match setV x y v m3 with
    | some m4 => .ok (.nx, ρ) m4
    | none => .bad)
  | .aug i op e, ρ, m => (getS ρ i m).bind fun x _ => (evE G call e ρ m).bind fun y m1 => (match x, y with
    | .int _, .int _ => (binV op x y m1).bind fun z m2 => .ok (.nx, ρ.set i (some z)) m2
    | _, _ => .bad)
  | .ite c a b, ρ, m => (evE G call c ρ m).bind fun x m1 => (match truth m1 x with
    | some true => evSs a ρ m1
    | some false => evSs b ρ m1
    | none => .bad)
  | .lup t k it body, ρ, m => (evEs G call it ρ m).bind fun vs m1 => (match srV k vs m1 with
    | some (s, n) => forGo s (fun v ρ m => bindT t v ρ m) (fun ρ m => evSs body ρ m) n 0 ρ m1
    | none => .bad)
  | .whl c body, ρ, m => whGo (fun ρ m => evE G call c ρ m) (fun ρ m => evSs body ρ m) whMost ρ m
  | .brk, ρ, m => .ok (.bk, ρ) m
  | .cnt, ρ, m => .ok (.ct, ρ) m
  | .pss, ρ, m => .ok (.nx, ρ) m
def evSs : Sms → En → Mem → Rs (Fl × En)
  | .nil, ρ, m => .ok (.nx, ρ) m
  | .cons s ss, ρ, m => (evS s ρ m).bind fun r m1 => (match r.1 with
    | .nx => evSs ss r.2 m1
    | .bk => .ok r m1
    | .ct => .ok r m1
    | .rt _ => .ok r m1)
end
end

/-! ### defs -/
structure Df where
  ps : Nat
  ns : Nat
  body : Sms
def start (n : Nat) (vs : List Val) : En := vs.map some ++ List.replicate (n - vs.length) none
def runD (G : Str → Option Val) (call : Str → List Val → Mem → Rs Val) (d : Df) (vs : List Val) (m : Mem) : Rs Val :=
  if vs.length = d.ps then (evSs G call d.body (start d.ns vs) m).bind fun r m1 => (match r.1 with
    | .nx => .ok .non m1
    | .rt v => .ok v m1
    | _ => .bad) else .bad
def callF (G : Str → Option Val) (D : Str → Option Df) : Nat → Str → List Val → Mem → Rs Val
  | 0, _, _, _ => .bad
  | n + 1, f, vs, m => (match D f with
    | some d => runD G (callF G D n) d vs m
    | none => .bad)
end Pv
end SPvA

section SPvB
set_option Elab.async false
set_option linter.all false
set_option maxRecDepth 100000
set_option maxHeartbeats 2000000
/-! Pv: plain data and the model's heap: what stands for what, and what a step may change. -/
namespace Pv
open PySem PySem.Spec PyProof.Rows L2

/-- a list that is only read: locked, or of the written part -/
def RoL (K : PySem.W.Frag) (H : Hp) (a : Addr) (vs : List V) : Prop :=
  (∃ o, H a = some (.frz o (.lst vs))) ∨ ∃ (o : Obj) (its : Array Value) (n : Nat), K.lookup a = some o ∧ o.cls = .type "list" ∧ o.dict = none ∧ o.data = .seq its n ∧ its.size ≤ sizeLine ∧ Vals vs its.toList
theorem RoL.sq {K : PySem.W.Frag} {H : Hp} {a : Addr} {vs : List V} (h : RoL K H a vs) : SqL K H a vs := by
  rcases h with ⟨o, h⟩ | h
  · exact .inl (.inr ⟨o, h⟩)
  · exact .inr h
mutual
inductive Rep (K : PySem.W.Frag) (mg : Str → Option Value) (as : List Addr) (H : Hp) : Val → V → Prop
  | non : Rep K mg as H .non .non
  | bl (b : Bool) : Rep K mg as H (.bl b) (.bl b)
  | int (i : Int) : Rep K mg as H (.int i) (.int i)
  | str (x : Str) : Rep K mg as H (.str x) (.str x)
  | tup {a : Addr} {vs : List V} {ds : List Val} : SqT K H a vs → Reps K mg as H ds vs → Rep K mg as H (.tup ds) (.ref a)
  | ref {l : Nat} {a : Addr} : as[l]? = some a → Rep K mg as H (.ref l) (.ref a)
  | fn {f : Str} {a : Addr} : mg f = some (.ref a) → Rep K mg as H (.fn f) (.ref a)
  | ty (n : String) : Rep K mg as H (.ty n) (.ty n)
  | tab {x : Str} {a : Addr} : mg x = some (.ref a) → Rep K mg as H (.tab x) (.ref a)
  | rl {a : Addr} {vs : List V} {ds : List Val} : RoL K H a vs → Reps K mg as H ds vs → Rep K mg as H (.rl ds) (.ref a)
inductive Reps (K : PySem.W.Frag) (mg : Str → Option Value) (as : List Addr) (H : Hp) : List Val → List V → Prop
  | nil : Reps K mg as H [] []
  | cons {d : Val} {ds : List Val} {v : V} {vs : List V} : Rep K mg as H d v → Reps K mg as H ds vs → Reps K mg as H (d :: ds) (v :: vs)
end
def ObR (K : PySem.W.Frag) (mg : Str → Option Value) (as : List Addr) (H : Hp) (a : Addr) : Ob → Prop
  | .lst ds => ∃ vs, H a = some (.lst vs) ∧ Reps K mg as H ds vs
  | _ => False
structure MRel (K : PySem.W.Frag) (mg : Str → Option Value) (as : List Addr) (H : Hp) (M : Mem) : Prop where
  len : as.length = M.length
  nd : as.Nodup
  ob : ∀ (l : Nat) (a : Addr) (o : Ob), as[l]? = some a → M[l]? = some o → ObR K mg as H a o
/-- a step: the store may grow, what is not of the store stays -/
structure Nx (as : List Addr) (H : Hp) (as' : List Addr) (H' : Hp) : Prop where
  ex : ∃ ns, as' = as ++ ns ∧ ∀ a ∈ ns, H a = none
  fr : ∀ a o, a ∉ as → H a = some o → H' a = some o
  lv : ∀ a, H' a = none → H a = none
structure EnR (K : PySem.W.Frag) (mg : Str → Option Value) (as : List Addr) (H : Hp) (ρ : En) (σ : L2.St) : Prop where
  len : σ.length = ρ.length
  at_ : ∀ (i : Nat) (d : Val), ρ[i]? = some (some d) → ∃ v, σ[i]? = some (some v) ∧ Rep K mg as H d v
section
variable {K : PySem.W.Frag} {mg : Str → Option Value} {as as1 as2 as' : List Addr} {H H1 H2 H' : Hp} {M M1 : Mem}
theorem Nx.refl : Nx as H as H := ⟨⟨[], by simp, by simp⟩, fun _ _ _ h => h, fun _ h => h⟩
theorem Nx.trans (x : Nx as H as1 H1) (y : Nx as1 H1 as2 H2) : Nx as H as2 H2 := by
  obtain ⟨ns, e1, f1⟩ := x.ex
  obtain ⟨ms, e2, f2⟩ := y.ex
  refine ⟨⟨ns ++ ms, by rw [e2, e1, List.append_assoc], fun a ha => ?_⟩, fun a o hn h => ?_, fun a h => x.lv a (y.lv a h)⟩
  · rcases List.mem_append.mp ha with z | z
    · exact f1 a z
    · exact x.lv a (f2 a z)
  · refine y.fr a o (fun z => ?_) (x.fr a o hn h)
    rw [e1] at z
    rcases List.mem_append.mp z with z | z
    · exact hn z
    · rw [f1 a z] at h
      cases h
theorem Nx.at_ (x : Nx as H as' H') {l : Nat} {a : Addr} (h : as[l]? = some a) : as'[l]? = some a := by
  obtain ⟨ns, e, _⟩ := x.ex
  rw [e, List.getElem?_append_left (List.getElem?_eq_some_iff.mp h).1]
  exact h
/-- an address of the store: a list stands there -/
theorem MRel.lst (m : MRel K mg as H M) {a : Addr} (h : a ∈ as) : ∃ vs, H a = some (.lst vs) := by
  obtain ⟨l, hl, e⟩ := List.mem_iff_getElem.mp h
  have h1 : as[l]? = some a := by rw [List.getElem?_eq_getElem hl, e]
  have h2 : l < M.length := by rw [← m.len]; exact hl
  have := m.ob l a M[l] h1 (List.getElem?_eq_getElem h2)
  cases q : M[l] with
  | lst ds =>
    rw [q] at this
    obtain ⟨vs, h, _⟩ := this
    exact ⟨vs, h⟩
  | dct kvs => rw [q] at this; exact this.elim
  | ins c fs => rw [q] at this; exact this.elim
theorem MRel.tup (m : MRel K mg as H M) {a : Addr} {vs : List V} (x : Nx as H as' H') (h : SqT K H a vs) : SqT K H' a vs := by
  rcases h with (h | ⟨o, h⟩) | h
  · refine .inl (.inl (x.fr a _ (fun z => ?_) h))
    obtain ⟨ws, q⟩ := m.lst z
    rw [q] at h; cases h
  · refine .inl (.inr ⟨o, x.fr a _ (fun z => ?_) h⟩)
    obtain ⟨ws, q⟩ := m.lst z
    rw [q] at h; cases h
  · exact .inr h
theorem MRel.ro (m : MRel K mg as H M) {a : Addr} {vs : List V} (x : Nx as H as' H') (h : RoL K H a vs) : RoL K H' a vs := by
  rcases h with ⟨o, h⟩ | h
  · refine .inl ⟨o, x.fr a _ (fun z => ?_) h⟩
    obtain ⟨ws, q⟩ := m.lst z
    rw [q] at h; cases h
  · exact .inr h
mutual
theorem Rep.mono (m : MRel K mg as H M) (x : Nx as H as' H') : ∀ {d : Val} {v : V}, Rep K mg as H d v → Rep K mg as' H' d v
  | _, _, .non => .non
  | _, _, .bl b => .bl b
  | _, _, .int i => .int i
  | _, _, .str z => .str z
  | _, _, .tup h r => .tup (m.tup x h) (Reps.mono m x r)
  | _, _, .ref h => .ref (x.at_ h)
  | _, _, .fn h => .fn h
  | _, _, .ty n => .ty n
  | _, _, .tab h => .tab h
  | _, _, .rl h r => .rl (m.ro x h) (Reps.mono m x r)
theorem Reps.mono (m : MRel K mg as H M) (x : Nx as H as' H') : ∀ {d : List Val} {v : List V}, Reps K mg as H d v → Reps K mg as' H' d v
  | _, _, .nil => .nil
  | _, _, .cons r t => .cons (Rep.mono m x r) (Reps.mono m x t)
end
theorem EnR.mono {ρ : En} {σ : L2.St} (e : EnR K mg as H ρ σ) (m : MRel K mg as H M) (x : Nx as H as' H') : EnR K mg as' H' ρ σ :=
  ⟨e.len, fun i d h => let ⟨v, h1, h2⟩ := e.at_ i d h; ⟨v, h1, h2.mono m x⟩⟩
theorem EnR.set {ρ : En} {σ : L2.St} (e : EnR K mg as H ρ σ) {d : Val} {v : V} (r : Rep K mg as H d v) (i : Nat) : EnR K mg as H (ρ.set i (some d)) (σ.set i (some v)) := by
  refine ⟨by simp [e.len], fun j d' h => ?_⟩
  by_cases hj : j = i
  · subst hj
    have hl : j < ρ.length := by
      have := (List.getElem?_eq_some_iff.mp h).1
      simpa using this
    rw [List.getElem?_set_self hl] at h
    cases h
    exact ⟨v, List.getElem?_set_self (by rw [e.len]; exact hl), r⟩
  · rw [List.getElem?_set_ne (Ne.symm hj)] at h
    obtain ⟨w, h1, h2⟩ := e.at_ j d' h
    exact ⟨w, by rw [List.getElem?_set_ne (Ne.symm hj)]; exact h1, h2⟩
theorem Reps.length : ∀ {ds : List Val} {vs : List V}, Reps K mg as H ds vs → ds.length = vs.length
  | _, _, .nil => rfl
  | _, _, .cons _ t => by rw [List.length_cons, List.length_cons, Reps.length t]
theorem Reps.get : ∀ {ds : List Val} {vs : List V} {i : Nat} {d : Val}, Reps K mg as H ds vs → ds[i]? = some d → ∃ v, vs[i]? = some v ∧ Rep K mg as H d v
  | _, _, _, _, .nil, h => by simp at h
  | _, _, 0, _, .cons r _, h => by simp at h; subst h; exact ⟨_, rfl, r⟩
  | _, _, i + 1, _, .cons _ t, h => by simp at h; obtain ⟨v, h1, h2⟩ := Reps.get t h; exact ⟨v, by simpa using h1, h2⟩
theorem Reps.app : ∀ {ds es : List Val} {vs ws : List V}, Reps K mg as H ds vs → Reps K mg as H es ws → Reps K mg as H (ds ++ es) (vs ++ ws)
  | _, _, _, _, .nil, s => s
  | _, _, _, _, .cons r t, s => .cons r (Reps.app t s)
theorem Reps.take : ∀ {ds : List Val} {vs : List V} (n : Nat), Reps K mg as H ds vs → Reps K mg as H (ds.take n) (vs.take n)
  | _, _, 0, _ => .nil
  | _, _, _ + 1, .nil => .nil
  | _, _, n + 1, .cons r t => .cons r (Reps.take n t)
theorem Reps.drop : ∀ {ds : List Val} {vs : List V} (n : Nat), Reps K mg as H ds vs → Reps K mg as H (ds.drop n) (vs.drop n)
  | _, _, 0, r => r
  | _, _, _ + 1, .nil => .nil
  | _, _, n + 1, .cons _ t => Reps.drop n t
theorem Reps.set {d : Val} {v : V} (r : Rep K mg as H d v) : ∀ {ds : List Val} {vs : List V} (i : Nat), Reps K mg as H ds vs → Reps K mg as H (ds.set i d) (vs.set i v)
  | _, _, _, .nil => .nil
  | _, _, 0, .cons _ t => .cons r t
  | _, _, i + 1, .cons q t => .cons q (Reps.set r i t)
theorem Reps.rep {ds : List Val} {vs : List V} (r : Reps K mg as H ds vs) : ∀ k : Nat, Reps K mg as H (List.replicate k ds).flatten (List.replicate k vs).flatten
  | 0 => .nil
  | k + 1 => by rw [List.replicate_succ, List.replicate_succ, List.flatten_cons, List.flatten_cons]; exact r.app (Reps.rep r k)

/-- a new tuple -/
theorem new_tup (m : MRel K mg as H M) {p : Addr} {ds : List Val} {vs : List V} (hp : H p = none) (r : Reps K mg as H ds vs) :
    Nx as H as (upd H p (.tup vs)) ∧ MRel K mg as (upd H p (.tup vs)) M ∧ Rep K mg as (upd H p (.tup vs)) (.tup ds) (.ref p) := by
  have x : Nx as H as (upd H p (.tup vs)) := ⟨⟨[], by simp, by simp⟩, fun a o _ h => by rw [upd_ne (ne_of_none h hp)]; exact h, fun a h => by
    by_cases e : a = p
    · rw [e]; exact hp
    · rw [upd_ne e] at h; exact h⟩
  refine ⟨x, ⟨m.len, m.nd, fun l a o h1 h2 => ?_⟩, .tup (.inl (.inl upd_same)) (r.mono m x)⟩
  have q := m.ob l a o h1 h2
  cases o with
  | lst ds => obtain ⟨ws, h, t⟩ := q; exact ⟨ws, by rw [upd_ne (ne_of_none h hp)]; exact h, t.mono m x⟩
  | dct kvs => exact q.elim
  | ins c fs => exact q.elim
/-- a new list -/
theorem new_lst (m : MRel K mg as H M) {p : Addr} {ds : List Val} {vs : List V} (hp : H p = none) (r : Reps K mg as H ds vs) :
    Nx as H (as ++ [p]) (upd H p (.lst vs)) ∧ MRel K mg (as ++ [p]) (upd H p (.lst vs)) (M ++ [.lst ds]) ∧ Rep K mg (as ++ [p]) (upd H p (.lst vs)) (.ref M.length) (.ref p) := by
  have x : Nx as H (as ++ [p]) (upd H p (.lst vs)) := ⟨⟨[p], rfl, by simp [hp]⟩, fun a o _ h => by rw [upd_ne (ne_of_none h hp)]; exact h, fun a h => by
    by_cases e : a = p
    · rw [e]; exact hp
    · rw [upd_ne e] at h; exact h⟩
  have hpa : p ∉ as := fun z => by obtain ⟨ws, q⟩ := m.lst z; rw [hp] at q; cases q
  have hl : (as ++ [p])[M.length]? = some p := by rw [← m.len, List.getElem?_append_right (Nat.le_refl _)]; simp
  refine ⟨x, ⟨by simp [m.len], ?_, fun l a o h1 h2 => ?_⟩, .ref hl⟩
  · rw [List.nodup_append]
    exact ⟨m.nd, by simp, fun a ha b hb e => by simp at hb; subst hb; subst e; exact hpa ha⟩
  · by_cases hlt : l < M.length
    · rw [List.getElem?_append_left (by rw [m.len]; exact hlt)] at h1
      rw [List.getElem?_append_left hlt] at h2
      have q := m.ob l a o h1 h2
      cases o with
      | lst ds => obtain ⟨ws, h, t⟩ := q; exact ⟨ws, by rw [upd_ne (ne_of_none h hp)]; exact h, t.mono m x⟩
      | dct kvs => exact q.elim
      | ins c fs => exact q.elim
    · have hlt' : l = M.length := by
        have := (List.getElem?_eq_some_iff.mp h2).1
        simp at this
        omega
      subst hlt'
      rw [hl] at h1
      rw [List.getElem?_append_right (Nat.le_refl _)] at h2
      simp at h1 h2
      subst h1; subst h2
      exact ⟨vs, upd_same, r.mono m x⟩
/-- a list changed -/
theorem set_lst (m : MRel K mg as H M) {l : Nat} {a : Addr} {ds es : List Val} {ws : List V} (h1 : as[l]? = some a) (h2 : M[l]? = some (.lst ds)) (r : Reps K mg as H es ws) :
    Nx as H as (upd H a (.lst ws)) ∧ MRel K mg as (upd H a (.lst ws)) (M.set l (.lst es)) := by
  have hm : a ∈ as := List.mem_of_getElem? h1
  have x : Nx as H as (upd H a (.lst ws)) := ⟨⟨[], by simp, by simp⟩, fun b o hn h => by rw [upd_ne (fun e => hn (by rw [e]; exact hm))]; exact h, fun b h => by
    by_cases e : b = a
    · rw [e, upd_same] at h; cases h
    · rw [upd_ne e] at h; exact h⟩
  refine ⟨x, ⟨by simp [m.len], m.nd, fun l' b o g1 g2 => ?_⟩⟩
  by_cases e : l' = l
  · subst e
    rw [h1] at g1; cases g1
    rw [List.getElem?_set_self (List.getElem?_eq_some_iff.mp h2).1] at g2
    cases g2
    exact ⟨ws, upd_same, r.mono m x⟩
  · rw [List.getElem?_set_ne (Ne.symm e)] at g2
    have hb : b ≠ a := fun z => by
      subst z
      obtain ⟨k1, e1⟩ := List.getElem?_eq_some_iff.mp h1
      obtain ⟨k2, e2⟩ := List.getElem?_eq_some_iff.mp g1
      have pw := List.pairwise_iff_getElem.mp m.nd
      rcases Nat.lt_or_gt_of_ne e with z | z
      · exact pw l' l k2 k1 z (e2.trans e1.symm)
      · exact pw l l' k1 k2 z (e1.trans e2.symm)
    have q := m.ob l' b o g1 g2
    cases o with
    | lst ds => obtain ⟨us, h, t⟩ := q; exact ⟨us, by rw [upd_ne hb]; exact h, t.mono m x⟩
    | dct kvs => exact q.elim
    | ins c fs => exact q.elim
/-- a list that is read -/
theorem read_lst (m : MRel K mg as H M) {x : Val} {v : V} {ds : List Val} (r : Rep K mg as H x v) (h : lsOf M x = some ds) : ∃ a vs, v = .ref a ∧ SqL K H a vs ∧ Reps K mg as H ds vs := by
  cases r with
  | @ref l a e =>
    dsimp only [lsOf] at h
    cases q : M[l]? with
    | none => rw [q] at h; cases h
    | some o =>
      rw [q] at h
      cases o with
      | lst es =>
        cases h
        obtain ⟨vs, h1, h2⟩ := m.ob l a _ e q
        exact ⟨a, vs, rfl, .inl (.inl h1), h2⟩
      | dct kvs => cases h
      | ins c fs => cases h
  | rl e t => cases h; exact ⟨_, _, rfl, e.sq, t⟩
  | _ => cases h
/-- a list of the store -/
theorem own_lst (m : MRel K mg as H M) {l : Nat} {v : V} {ds : List Val} (r : Rep K mg as H (.ref l) v) (h : M[l]? = some (.lst ds)) : ∃ a vs, v = .ref a ∧ as[l]? = some a ∧ H a = some (.lst vs) ∧ Reps K mg as H ds vs := by
  cases r with
  | @ref l a e =>
    obtain ⟨vs, h1, h2⟩ := m.ob l a _ e h
    exact ⟨a, vs, rfl, e, h1, h2⟩
end

/-! ### readings -/
section
variable (K : PySem.W.Frag) (mg : Str → Option Value)
/-- what is wanted behind an expression's step -/
def Post (as : List Addr) (H : Hp) (M' : Mem) (d : Val) (Q : VK) : Prop := ∀ v H' as', Nx as H as' H' → MRel K mg as' H' M' → Rep K mg as' H' d v → Q v H'
def tE (f : En → Mem → Rs Val) : TE := fun σ H Q => ∃ ρ M as d M', EnR K mg as H ρ σ ∧ MRel K mg as H M ∧ f ρ M = .ok d M' ∧ Post K mg as H M' d Q
def tA (f : En → Mem → Rs (List Val)) : TA := fun σ H Q => ∃ ρ M as ds M', EnR K mg as H ρ σ ∧ MRel K mg as H M ∧ f ρ M = .ok ds M' ∧ ∀ vs H' as', Nx as H as' H' → MRel K mg as' H' M' → Reps K mg as' H' ds vs → Q vs H'
def tT (f : En → Mem → Rs Val) : TT := fun σ H Q => ∃ ρ M as d M' b, EnR K mg as H ρ σ ∧ MRel K mg as H M ∧ f ρ M = .ok d M' ∧ truth M' d = some b ∧ ∀ H' as', Nx as H as' H' → MRel K mg as' H' M' → Q b H'
/-- what is wanted behind a statement -/
def PostS (as : List Addr) (H : Hp) (M' : Mem) (r : Fl × En) (D : Ends) : Prop := ∀ σ' H' as', Nx as H as' H' → MRel K mg as' H' M' → EnR K mg as' H' r.2 σ' → match r.1 with
  | .nx => D.nx σ' H'
  | .bk => D.bk σ' H'
  | .ct => D.ct σ' H'
  | .rt d => ∀ v, Rep K mg as' H' d v → D.rt v H'
def tS (f : En → Mem → Rs (Fl × En)) : TS := fun D σ H => ∃ ρ M as r M', EnR K mg as H ρ σ ∧ MRel K mg as H M ∧ f ρ M = .ok r M' ∧ PostS K mg as H M' r D
end
section
variable {X : Cx} {e : Expr}
theorem PE.imp {t t' : TE} (h : PE X e t) (k : ∀ σ H Q, t' σ H Q → t σ H Q) : PE X e t' := ⟨fun pins s σ H Q I q => h.run pins s σ H Q I (k σ H Q q)⟩
theorem PT.imp {t t' : TT} (h : PT X e t) (k : ∀ σ H Q, t' σ H Q → t σ H Q) : PT X e t' := ⟨fun pins s σ H Q I q => h.run pins s σ H Q I (k σ H Q q)⟩
theorem PA.imp {es : List Expr} {t t' : TA} (h : PA X es t) (k : ∀ σ H Q, t' σ H Q → t σ H Q) : PA X es t' := ⟨fun pos pins s σ H Q I q => h.run pos pins s σ H Q I (k σ H Q q)⟩
theorem PS.imp {st : Stmt} {t t' : TS} (h : PS X st t) (k : ∀ D σ H, t' D σ H → t D σ H) : PS X st t' := ⟨fun pins s σ H D I q => h.run pins s σ H D I (k D σ H q)⟩
theorem PSs.imp {st : List Stmt} {t t' : TS} (h : PSs X st t) (k : ∀ D σ H, t' D σ H → t D σ H) : PSs X st t' := ⟨fun pins s σ H D I q => h.run pins s σ H D I (k D σ H q)⟩
theorem PW.imp {t t' : TT} (h : PW X e t) (k : ∀ σ H Q, t' σ H Q → t σ H Q) : PW X e t' := ⟨fun whole pins s σ H Q I q => h.run whole pins s σ H Q I (k σ H Q q)⟩
end
end Pv
end SPvB

section SPvC
set_option Elab.async false
set_option linter.all false
set_option maxRecDepth 100000
set_option maxHeartbeats 2000000
/-! Pv: expressions. -/
namespace Pv
open PySem PySem.Spec PyProof.Rows L2

def isStar : Expr → Bool
  | .Starred _ _ => true
  | _ => false
theorem starEach_cons {e : Expr} {es : List Expr} {env : Env} (h : isStar e = false) : starEach (e :: es) env = (false, eval e env) :: starEach es env := by
  cases e <;> first | rfl | cases h
theorem noStar {env : Env} {pos : Pos} : ∀ {es : List Expr}, es.all (fun e => !isStar e) = true → (backTo pos (starEach es env)).any (·.1) = false
  | [], _ => rfl
  | e :: es, h => by
    rw [List.all_cons, Bool.and_eq_true] at h
    have h1 : isStar e = false := by
      have := h.1
      cases q : isStar e
      · rfl
      · rw [q] at this; cases this
    rw [starEach_cons h1]
    show (false || (backTo pos (starEach es env)).any (·.1)) = false
    rw [noStar h.2]
    rfl
section
variable {X : Cx}
theorem e_var {x : Str} {pos : Pos} {i : Nat} (hN : X.N[i]? = some x) (hv : Vis X.env.scope x) (hd : (x == ("__debug__" : Str)) = false) (hcd : (x == ("__classdict__" : Str)) = false) : PE X (.Name x pos) (tE X.K X.mg fun ρ m => getS ρ i m) := by
  refine PE.imp (pe_var hN hv hd hcd) fun σ H Q ⟨ρ, M, as, d, M', he, hm, e, k⟩ => ?_
  simp only [getS] at e
  split at e
  · rename_i v q
    cases e
    obtain ⟨w, h1, r⟩ := he.at_ i _ q
    exact ⟨w, h1, k w H as .refl hm r⟩
  · cases e
theorem e_lit {e : Expr} {d : Val} {w : V} (h : PE X e (tC w)) (r : ∀ as H, Rep X.K X.mg as H d w) : PE X e (tE X.K X.mg fun _ m => .ok d m) := by
  refine PE.imp h fun σ H Q ⟨ρ, M, as, d', M', he, hm, e, k⟩ => ?_
  cases e
  exact k w H as .refl hm (r as H)
theorem a_nil : PA X [] (tA X.K X.mg fun _ m => .ok [] m) := by
  refine PA.imp pa_nil fun σ H Q ⟨ρ, M, as, d', M', he, hm, e, k⟩ => ?_
  cases e
  exact k [] H as .refl hm .nil
theorem a_cons {e : Expr} {es : List Expr} {f : En → Mem → Rs Val} {g : En → Mem → Rs (List Val)} (h : PE X e (tE X.K X.mg f)) (t : PA X es (tA X.K X.mg g)) (hs : isStar e = false) :
    PA X (e :: es) (tA X.K X.mg fun ρ m => (f ρ m).bind fun v m1 => (g ρ m1).bind fun vs m2 => .ok (v :: vs) m2) := by
  refine PA.imp (pa_cons h t (starEach_cons hs)) fun σ H Q ⟨ρ, M, as, d, M', he, hm, e, k⟩ => ?_
  obtain ⟨x, M1, e1, e⟩ := Rs.bind_eq_ok e
  obtain ⟨xs, M2, e2, e⟩ := Rs.bind_eq_ok e
  cases e
  exact ⟨ρ, M, as, x, M1, he, hm, e1, fun v H1 as1 n1 m1 r1 => ⟨ρ, M1, as1, xs, M', he.mono hm n1, m1, e2, fun vs H2 as2 n2 m2 r2 => k _ _ _ (n1.trans n2) m2 (.cons (r1.mono m1 n2) r2)⟩⟩
theorem e_tup {es : List Expr} {k' : Nat} {pos : Pos} {g : En → Mem → Rs (List Val)} (t : PA X es (tA X.K X.mg g)) :
    PE X (.Tuple es k' pos) (tE X.K X.mg fun ρ m => (g ρ m).bind fun vs m1 => if vs.length ≤ sizeLine then .ok (.tup vs) m1 else .bad) := by
  refine PE.imp (pe_tup t) fun σ H Q ⟨ρ, M, as, d, M', he, hm, e, k⟩ => ?_
  obtain ⟨xs, M1, e1, e⟩ := Rs.bind_eq_ok e
  split at e
  · rename_i hz
    cases e
    refine ⟨ρ, M, as, xs, M', he, hm, e1, fun vs H1 as1 n1 m1 r1 => ⟨by rw [← r1.length]; exact hz, fun p hp => ?_⟩⟩
    obtain ⟨n2, m2, r2⟩ := new_tup m1 hp r1
    exact k _ _ _ (n1.trans n2) m2 r2
  · cases e
theorem e_lst {es : List Expr} {pos : Pos} {g : En → Mem → Rs (List Val)} (t : PA X es (tA X.K X.mg g)) :
    PE X (.List es pos) (tE X.K X.mg fun ρ m => (g ρ m).bind fun vs m1 => if vs.length ≤ sizeLine then .ok (.ref m1.length) (m1 ++ [.lst vs]) else .bad) := by
  refine PE.imp (pe_lst t) fun σ H Q ⟨ρ, M, as, d, M', he, hm, e, k⟩ => ?_
  obtain ⟨xs, M1, e1, e⟩ := Rs.bind_eq_ok e
  split at e
  · rename_i hz
    cases e
    refine ⟨ρ, M, as, xs, M1, he, hm, e1, fun vs H1 as1 n1 m1 r1 => ⟨by rw [← r1.length]; exact hz, fun p hp => ?_⟩⟩
    obtain ⟨n2, m2, r2⟩ := new_lst m1 hp r1
    exact k _ _ _ (n1.trans n2) m2 r2
  · cases e

/-! ### operators -/
/-- a rule of two values does what g says -/
def Brg (X : Cx) (r : R2) (g : Val → Val → Mem → Rs Val) : Prop :=
  ∀ x y v w as H M d M' (Q : VK), MRel X.K X.mg as H M → Rep X.K X.mg as H x v → Rep X.K X.mg as H y w → g x y M = .ok d M' → Post X.K X.mg as H M' d Q → r v w H Q
def BinOK (X : Cx) (f : Value → Value → Sem Value) (g : Val → Val → Mem → Rs Val) : Prop := ∃ r, OpR X f r ∧ Brg X r g
theorem op2 {a b : Expr} {fa fb : En → Mem → Rs Val} {g : Val → Val → Mem → Rs Val} {r : R2} (hr : Brg X r g) {σ : L2.St} {H : Hp} {Q : VK}
    (h : tE X.K X.mg (fun ρ m => (fa ρ m).bind fun x m1 => (fb ρ m1).bind fun y m2 => g x y m2) σ H Q) : tOp r (tE X.K X.mg fa) (tE X.K X.mg fb) σ H Q := by
  obtain ⟨ρ, M, as, d, M', he, hm, e, k⟩ := h
  obtain ⟨x, M1, e1, e⟩ := Rs.bind_eq_ok e
  obtain ⟨y, M2, e2, e⟩ := Rs.bind_eq_ok e
  exact ⟨ρ, M, as, x, M1, he, hm, e1, fun v H1 as1 n1 m1 r1 => ⟨ρ, M1, as1, y, M2, he.mono hm n1, m1, e2, fun w H2 as2 n2 m2 r2 =>
    hr x y v w as2 H2 M2 d M' Q m2 (r1.mono m1 n2) r2 e fun v' H' as' n3 m3 r3 => k v' H' as' (n1.trans (n2.trans n3)) m3 r3⟩⟩
theorem e_bin {op : Operator} {a b : Expr} {pos : Pos} {fa fb : En → Mem → Rs Val} {g : Val → Val → Mem → Rs Val} (h : BinOK X (binaryOp op) g) (ha : PE X a (tE X.K X.mg fa)) (hb : PE X b (tE X.K X.mg fb)) :
    PE X (.BinOp a op b pos) (tE X.K X.mg fun ρ m => (fa ρ m).bind fun x m1 => (fb ρ m1).bind fun y m2 => g x y m2) := by
  obtain ⟨r, ho, hr⟩ := h
  exact PE.imp (pe_op ho ha hb) fun σ H Q q => op2 (a := a) (b := b) hr q
theorem add_ok : BinOK X (binaryOp .Add) addV := by
  refine ⟨_, op_add.or (op_add_str.or (op_catA.or op_cat)), fun x y v w as H M d M' Q hm rx ry e k => ?_⟩
  unfold addV at e
  split at e
  · cases e; cases rx; cases ry
    exact .inl ⟨_, _, rfl, rfl, k _ _ _ .refl hm (.int _)⟩
  · split at e
    · rename_i hz
      cases e; cases rx; cases ry
      exact .inr (.inl ⟨_, _, rfl, rfl, hz, k _ _ _ .refl hm (.str _)⟩)
    · cases e
  · split at e
    · rename_i hz
      cases e
      cases rx with
      | tup h1 r1 =>
        cases ry with
        | tup h2 r2 =>
          refine .inr (.inr (.inl ⟨_, _, _, _, rfl, rfl, h1, h2, by rw [← r1.length, ← r2.length]; exact hz, fun z => ?_, fun z z2 => ?_, fun z z2 p hp => ?_⟩))
          · subst z
            cases r1
            exact k _ _ _ .refl hm (.tup h2 r2)
          · subst z2
            cases r2
            exact k _ _ _ .refl hm (by rw [List.append_nil]; exact .tup h1 r1)
          · obtain ⟨n2, m2, q2⟩ := new_tup hm hp (r1.app r2)
            exact k _ _ _ n2 m2 q2
    · cases e
  · rename_i a b
    split at e
    · rename_i u z e1 e2
      split at e
      · rename_i hz
        cases e
        obtain ⟨pa, vs, rfl, i1, h1, r1⟩ := own_lst hm rx e1
        obtain ⟨pb, ws, rfl, i2, h2, r2⟩ := own_lst hm ry e2
        refine .inr (.inr (.inr ⟨_, _, _, _, rfl, rfl, h1, h2, by rw [← r1.length, ← r2.length]; exact hz, fun p hp => ?_⟩))
        obtain ⟨n2, m2, q2⟩ := new_lst hm hp (r1.app r2)
        exact k _ _ _ n2 m2 q2
      · cases e
    · cases e
  · cases e
theorem sub_ok : BinOK X (binaryOp .Sub) subV := by
  refine ⟨_, op_sub, fun x y v w as H M d M' Q hm rx ry e k => ?_⟩
  unfold subV at e
  split at e
  · cases e; cases rx; cases ry
    exact ⟨_, _, rfl, rfl, k _ _ _ .refl hm (.int _)⟩
  · cases e
theorem fdiv_ok : BinOK X (binaryOp .FloorDiv) fdivV := by
  refine ⟨_, op_fdivW, fun x y v w as H M d M' Q hm rx ry e k => ?_⟩
  unfold fdivV at e
  split at e
  · split at e
    · rename_i hz
      rw [Bool.and_eq_true, decide_eq_true_eq, decide_eq_true_eq] at hz
      cases e; cases rx; cases ry
      exact ⟨_, _, rfl, rfl, hz, k _ _ _ .refl hm (.int _)⟩
    · cases e
  · cases e
theorem mod_ok : BinOK X (binaryOp .Mod) modV := by
  refine ⟨_, op_mod, fun x y v w as H M d M' Q hm rx ry e k => ?_⟩
  unfold modV at e
  split at e
  · split at e
    · rename_i hz
      cases e; cases rx; cases ry
      exact ⟨_, _, rfl, rfl, hz, k _ _ _ .refl hm (.int _)⟩
    · cases e
  · cases e
theorem pow_ok : BinOK X (binaryOp .Pow) powV := by
  refine ⟨_, op_pow, fun x y v w as H M d M' Q hm rx ry e k => ?_⟩
  unfold powV at e
  split at e
  · split at e
    · rename_i hz
      rw [Bool.and_eq_true, Bool.and_eq_true, decide_eq_true_eq, decide_eq_true_eq, decide_eq_true_eq] at hz
      cases e; cases rx; cases ry
      exact ⟨_, _, rfl, rfl, ⟨hz.1.1, hz.1.2, hz.2⟩, k _ _ _ .refl hm (.int _)⟩
    · cases e
  · cases e
theorem shl_ok : BinOK X (binaryOp .LShift) shlV := by
  refine ⟨_, op_shl, fun x y v w as H M d M' Q hm rx ry e k => ?_⟩
  unfold shlV at e
  split at e
  · split at e
    · rename_i hz
      rw [Bool.and_eq_true, Bool.and_eq_true, decide_eq_true_eq, decide_eq_true_eq, decide_eq_true_eq] at hz
      cases e; cases rx; cases ry
      exact ⟨_, _, rfl, rfl, ⟨hz.1.1, hz.1.2, hz.2⟩, k _ _ _ .refl hm (.int _)⟩
    · cases e
  · cases e
theorem shr_ok : BinOK X (binaryOp .RShift) shrV := by
  refine ⟨_, op_shr, fun x y v w as H M d M' Q hm rx ry e k => ?_⟩
  unfold shrV at e
  split at e
  · split at e
    · rename_i hz
      cases e; cases rx; cases ry
      exact ⟨_, _, rfl, rfl, hz, k _ _ _ .refl hm (.int _)⟩
    · cases e
  · cases e
theorem and_ok : BinOK X (binaryOp .BitAnd) andV := by
  refine ⟨_, op_and, fun x y v w as H M d M' Q hm rx ry e k => ?_⟩
  unfold andV at e
  split at e
  · cases e; cases rx; cases ry
    exact ⟨_, _, rfl, rfl, k _ _ _ .refl hm (.int _)⟩
  · cases e
theorem or_ok : BinOK X (binaryOp .BitOr) orV := by
  refine ⟨_, op_or, fun x y v w as H M d M' Q hm rx ry e k => ?_⟩
  unfold orV at e
  split at e
  · cases e; cases rx; cases ry
    exact ⟨_, _, rfl, rfl, k _ _ _ .refl hm (.int _)⟩
  · cases e
theorem op_mul_str : OpR X (binaryOp .Mult) (fun x y H Q => ∃ a n, x = .str a ∧ y = .int n ∧ MulOk a n ∧ Q (.str (Txt.mul a n)) H) := by
  intro pins s σ H x y v u Q I rx ry h
  obtain ⟨a, n, rfl, rfl, hok, q⟩ := h
  obtain ⟨t, rfl⟩ := rx
  obtain ⟨t', rfl⟩ := ry
  exact SB.mul hok fun t' k => ⟨.str _, H, I.tok k, ⟨_, rfl⟩, q⟩
theorem mulOk_small {a : Str} {n : Int} (h0 : 0 ≤ n) (h1 : n ≤ 1000000) (h2 : a.length ≤ 10) : MulOk a n := by
  have hm : a.length * n.toNat ≤ 10 * 1000000 := Nat.mul_le_mul h2 (by omega)
  refine ⟨?_, fun hn _ => ?_, fun hn _ => ?_⟩
  · rw [decide_eq_false (by omega), decide_eq_false (by omega)]; rfl
  · have hd : (10 : Int) ≤ (2 ^ 63 - 1) / n := by
      rw [Int.le_ediv_iff_mul_le (by omega)]
      omega
    omega
  · have hs : sizeLine = 16777216 := sizeLine_eq
    unfold Builtin.Str.tooLong
    simp only [decide_eq_false_iff_not]
    omega
theorem mul_ok : BinOK X (binaryOp .Mult) mulV := by
  refine ⟨_, (op_mul.or op_mulW).or (op_mul_str.or op_rep), fun x y v w as H M d M' Q hm rx ry e k => ?_⟩
  unfold mulV at e
  split at e
  · split at e
    · rename_i hz
      rw [Bool.or_eq_true, Bool.or_eq_true, decide_eq_true_eq, decide_eq_true_eq, decide_eq_true_eq] at hz
      cases e; cases rx; cases ry
      rcases hz with (hz | hz) | hz
      · exact .inl (.inl ⟨_, _, rfl, rfl, .inl ⟨by omega, by omega⟩, k _ _ _ .refl hm (.int _)⟩)
      · exact .inl (.inl ⟨_, _, rfl, rfl, .inr ⟨by omega, by omega⟩, k _ _ _ .refl hm (.int _)⟩)
      · exact .inl (.inr ⟨_, _, rfl, rfl, hz, k _ _ _ .refl hm (.int _)⟩)
    · cases e
  · split at e
    · rename_i hz
      rw [Bool.and_eq_true, Bool.and_eq_true, decide_eq_true_eq, decide_eq_true_eq, decide_eq_true_eq] at hz
      cases e; cases rx; cases ry
      exact .inr (.inl ⟨_, _, rfl, rfl, mulOk_small hz.1.1 hz.1.2 hz.2, k _ _ _ .refl hm (.str _)⟩)
    · cases e
  · split at e
    · rename_i u e1
      split at e
      · rename_i hz
        rw [Bool.and_eq_true, Bool.and_eq_true, decide_eq_true_eq, decide_eq_true_eq, decide_eq_true_eq] at hz
        cases e
        obtain ⟨pa, vs, rfl, i1, h1, r1⟩ := own_lst hm rx e1
        cases ry
        refine .inr (.inr ⟨_, _, _, rfl, rfl, h1, hz.1.1, hz.1.2, by rw [← r1.length]; exact hz.2, fun p hp => ?_⟩)
        obtain ⟨n2, m2, q2⟩ := new_lst hm hp (r1.rep _)
        exact k _ _ _ n2 m2 q2
      · cases e
    · cases e
  · cases e
theorem bin_ok {op : Operator} {g : Val → Val → Mem → Rs Val} (hg : g = binV op) (h : (match op with | .Add | .Sub | .Mult | .FloorDiv | .Mod | .Pow | .LShift | .RShift | .BitAnd | .BitOr => true | _ => false) = true) : BinOK X (binaryOp op) g := by
  subst hg
  cases op <;> first
    | exact add_ok
    | exact sub_ok
    | exact mul_ok
    | exact fdiv_ok
    | exact mod_ok
    | exact pow_ok
    | exact shl_ok
    | exact shr_ok
    | exact and_ok
    | exact or_ok
    | cases h
theorem e_neg {a : Expr} {pos : Pos} {fa : En → Mem → Rs Val} (ha : PE X a (tE X.K X.mg fa)) :
    PE X (.UnaryOp .USub a pos) (tE X.K X.mg fun ρ m => (fa ρ m).bind fun x m1 => (match x with | .int i => .ok (.int (-i)) m1 | _ => .bad)) := by
  refine PE.imp (pe_un un_neg ha) fun σ H Q ⟨ρ, M, as, d, M', he, hm, e, k⟩ => ?_
  obtain ⟨x, M1, e1, e⟩ := Rs.bind_eq_ok e
  split at e
  · cases e
    refine ⟨ρ, M, as, _, _, he, hm, e1, fun v H1 as1 n1 m1 r1 => ?_⟩
    cases r1
    exact ⟨_, rfl, k _ _ _ n1 m1 (.int _)⟩
  · cases e

/-! ### truth -/
theorem tru_rep {as : List Addr} {H : Hp} {M : Mem} {d : Val} {v : V} {b : Bool} (hm : MRel X.K X.mg as H M) (r : Rep X.K X.mg as H d v) (h : truth M d = some b) : TruV X.K v H b := by
  cases r with
  | non => cases h; rfl
  | bl c => cases h; rfl
  | int i => cases h; rfl
  | str x =>
    dsimp only [truth] at h
    split at h
    · rename_i hz
      cases h
      exact ⟨hz, rfl⟩
    · cases h
  | tup hs t =>
    cases h
    refine .inr (.inl ⟨_, hs, ?_⟩)
    cases t <;> rfl
  | @ref l a e =>
    dsimp only [truth] at h
    cases q : lsOf M (.ref l) with
    | none => rw [q] at h; cases h
    | some ds =>
      rw [q] at h
      cases h
      obtain ⟨a', vs, e', hs, t⟩ := read_lst hm (.ref e) q
      cases e'
      refine .inl ⟨_, hs, ?_⟩
      cases t <;> rfl
  | rl hs t =>
    cases h
    refine .inl ⟨_, hs.sq, ?_⟩
    cases t <;> rfl
  | fn _ => cases h
  | ty _ => cases h
  | tab _ => cases h
/-- an expression that is a test by its value -/
def plainTest : Expr → Bool
  | .UnaryOp .Not _ _ => false
  | .BoolOp _ _ _ => false
  | .IfExp _ _ _ _ => false
  | .Compare _ _ _ _ => false
  | _ => true
theorem isTrue_of {e : Expr} {env : Env} (h : plainTest e = true) (whole : Sem Value) : isTrue e env whole = (do let v ← whole; standAt e.pos; holding [v] (truthy v)) := by
  cases e <;> first
    | rfl
    | cases h
    | (rename_i op _ _; cases op <;> first | rfl | cases h)
theorem t_plain {e : Expr} {f : En → Mem → Rs Val} (h : PE X e (tE X.K X.mg f)) (hp : plainTest e = true) : PT X e (tT X.K X.mg f) := by
  refine PT.imp (pt_truth h fun whole => isTrue_of hp whole) fun σ H Q ⟨ρ, M, as, d, M', b, he, hm, e, ht, k⟩ => ?_
  exact ⟨ρ, M, as, d, M', he, hm, e, fun v H' as' n m r => ⟨b, tru_rep m r ht, k H' as' n m⟩⟩
theorem e_not {a : Expr} {pos : Pos} {fa : En → Mem → Rs Val} (ha : PE X a (tE X.K X.mg fa)) :
    PE X (.UnaryOp .Not a pos) (tE X.K X.mg fun ρ m => (fa ρ m).bind fun x m1 => tryB m1 x fun b => .ok (.bl (!b)) m1) := by
  refine PE.imp (pe_notT ha) fun σ H Q ⟨ρ, M, as, d, M', he, hm, e, k⟩ => ?_
  obtain ⟨x, M1, e1, e⟩ := Rs.bind_eq_ok e
  unfold tryB at e
  split at e
  · rename_i b hb
    cases e
    exact ⟨ρ, M, as, x, M', he, hm, e1, fun v H1 as1 n1 m1 r1 => ⟨b, tru_rep m1 r1 hb, k _ _ _ n1 m1 (.bl _)⟩⟩
  · cases e
theorem t_not {a : Expr} {pos : Pos} {fa : En → Mem → Rs Val} (ha : PT X a (tT X.K X.mg fa)) :
    PT X (.UnaryOp .Not a pos) (tT X.K X.mg fun ρ m => (fa ρ m).bind fun x m1 => tryB m1 x fun b => .ok (.bl (!b)) m1) := by
  refine PT.imp (pt_not ha) fun σ H Q ⟨ρ, M, as, d, M', b, he, hm, e, ht, k⟩ => ?_
  obtain ⟨x, M1, e1, e⟩ := Rs.bind_eq_ok e
  unfold tryB at e
  split at e
  · rename_i c hb
    cases e
    cases ht
    exact ⟨ρ, M, as, x, M', c, he, hm, e1, hb, k⟩
  · cases e
end
end Pv
end SPvC

section SPvD
set_option Elab.async false
set_option linter.all false
set_option maxRecDepth 100000
set_option maxHeartbeats 2000000
/-! Pv: tests, comparisons, items, built-in functions. -/
namespace Pv
open PySem PySem.Spec PyProof.Rows L2
section
variable {X : Cx}
/-! ### and, or -/
def andE (fa fb : En → Mem → Rs Val) : En → Mem → Rs Val := fun ρ m => (fa ρ m).bind fun x m1 => tryB m1 x fun k => if k then fb ρ m1 else .ok x m1
def orE (fa fb : En → Mem → Rs Val) : En → Mem → Rs Val := fun ρ m => (fa ρ m).bind fun x m1 => tryB m1 x fun k => if k then .ok x m1 else fb ρ m1
theorem e_and {a b : Expr} {rest : List Expr} {pos : Pos} {fa fb : En → Mem → Rs Val} (ha : PE X a (tE X.K X.mg fa)) (hb : PE X (.BoolOp .And (b :: rest) pos) (tE X.K X.mg fb)) :
    PE X (.BoolOp .And (a :: b :: rest) pos) (tE X.K X.mg (andE fa fb)) := by
  refine PE.imp (pe_andT ha hb) fun σ H Q ⟨ρ, M, as, d, M', he, hm, e, k⟩ => ?_
  obtain ⟨x, M1, e1, e⟩ := Rs.bind_eq_ok e
  unfold tryB at e
  split at e
  · rename_i c hc
    refine ⟨ρ, M, as, x, M1, he, hm, e1, fun v H1 as1 n1 m1 r1 => ⟨c, tru_rep m1 r1 hc, ?_⟩⟩
    cases c with
    | true =>
      rw [if_pos rfl]
      dsimp only at e
      rw [if_pos rfl] at e
      exact ⟨ρ, M1, as1, d, M', he.mono hm n1, m1, e, fun w H2 as2 n2 m2 r2 => k w H2 as2 (n1.trans n2) m2 r2⟩
    | false =>
      rw [if_neg Bool.false_ne_true]
      dsimp only at e
      rw [if_neg Bool.false_ne_true] at e
      cases e
      exact k v H1 as1 n1 m1 r1
  · cases e
theorem e_or {a b : Expr} {rest : List Expr} {pos : Pos} {fa fb : En → Mem → Rs Val} (ha : PE X a (tE X.K X.mg fa)) (hb : PE X (.BoolOp .Or (b :: rest) pos) (tE X.K X.mg fb)) :
    PE X (.BoolOp .Or (a :: b :: rest) pos) (tE X.K X.mg (orE fa fb)) := by
  refine PE.imp (pe_orT ha hb) fun σ H Q ⟨ρ, M, as, d, M', he, hm, e, k⟩ => ?_
  obtain ⟨x, M1, e1, e⟩ := Rs.bind_eq_ok e
  unfold tryB at e
  split at e
  · rename_i c hc
    refine ⟨ρ, M, as, x, M1, he, hm, e1, fun v H1 as1 n1 m1 r1 => ⟨c, tru_rep m1 r1 hc, ?_⟩⟩
    cases c with
    | true =>
      rw [if_pos rfl]
      dsimp only at e
      rw [if_pos rfl] at e
      cases e
      exact k v H1 as1 n1 m1 r1
    | false =>
      rw [if_neg Bool.false_ne_true]
      dsimp only at e
      rw [if_neg Bool.false_ne_true] at e
      exact ⟨ρ, M1, as1, d, M', he.mono hm n1, m1, e, fun w H2 as2 n2 m2 r2 => k w H2 as2 (n1.trans n2) m2 r2⟩
  · cases e
theorem w_and {a b : Expr} {rest : List Expr} {pos : Pos} {fa fb : En → Mem → Rs Val} (ha : PT X a (tT X.K X.mg fa)) (hb : PW X (.BoolOp .And (b :: rest) pos) (tT X.K X.mg fb)) :
    PW X (.BoolOp .And (a :: b :: rest) pos) (tT X.K X.mg (andE fa fb)) := by
  refine PW.imp (pw_and ha hb) fun σ H Q ⟨ρ, M, as, d, M', b', he, hm, e, ht, k⟩ => ?_
  obtain ⟨x, M1, e1, e⟩ := Rs.bind_eq_ok e
  unfold tryB at e
  split at e
  · rename_i c hc
    refine ⟨ρ, M, as, x, M1, c, he, hm, e1, hc, fun H1 as1 n1 m1 => ?_⟩
    cases c with
    | true =>
      rw [if_pos rfl]
      dsimp only at e
      rw [if_pos rfl] at e
      exact ⟨ρ, M1, as1, d, M', b', he.mono hm n1, m1, e, ht, fun H2 as2 n2 m2 => k H2 as2 (n1.trans n2) m2⟩
    | false =>
      rw [if_neg Bool.false_ne_true]
      dsimp only at e
      rw [if_neg Bool.false_ne_true] at e
      cases e
      rw [hc] at ht
      cases ht
      exact k H1 as1 n1 m1
  · cases e
theorem w_or {a b : Expr} {rest : List Expr} {pos : Pos} {fa fb : En → Mem → Rs Val} (ha : PT X a (tT X.K X.mg fa)) (hb : PW X (.BoolOp .Or (b :: rest) pos) (tT X.K X.mg fb)) :
    PW X (.BoolOp .Or (a :: b :: rest) pos) (tT X.K X.mg (orE fa fb)) := by
  refine PW.imp (pw_or ha hb) fun σ H Q ⟨ρ, M, as, d, M', b', he, hm, e, ht, k⟩ => ?_
  obtain ⟨x, M1, e1, e⟩ := Rs.bind_eq_ok e
  unfold tryB at e
  split at e
  · rename_i c hc
    refine ⟨ρ, M, as, x, M1, c, he, hm, e1, hc, fun H1 as1 n1 m1 => ?_⟩
    cases c with
    | true =>
      rw [if_pos rfl]
      dsimp only at e
      rw [if_pos rfl] at e
      cases e
      rw [hc] at ht
      cases ht
      exact k H1 as1 n1 m1
    | false =>
      rw [if_neg Bool.false_ne_true]
      dsimp only at e
      rw [if_neg Bool.false_ne_true] at e
      exact ⟨ρ, M1, as1, d, M', b', he.mono hm n1, m1, e, ht, fun H2 as2 n2 m2 => k H2 as2 (n1.trans n2) m2⟩
  · cases e
theorem e_one {a : Expr} {op : BoolOp} {pos : Pos} {fa : En → Mem → Rs Val} (ha : PE X a (tE X.K X.mg fa)) : PE X (.BoolOp op [a] pos) (tE X.K X.mg fa) := pe_one ha
theorem e_ite {c a b : Expr} {pos : Pos} {fc fa fb : En → Mem → Rs Val} (hc : PT X c (tT X.K X.mg fc)) (ha : PE X a (tE X.K X.mg fa)) (hb : PE X b (tE X.K X.mg fb)) :
    PE X (.IfExp c a b pos) (tE X.K X.mg fun ρ m => (fc ρ m).bind fun x m1 => tryB m1 x fun k => if k then fa ρ m1 else fb ρ m1) := by
  refine PE.imp (pe_ifExp hc ha hb) fun σ H Q ⟨ρ, M, as, d, M', he, hm, e, k⟩ => ?_
  obtain ⟨x, M1, e1, e⟩ := Rs.bind_eq_ok e
  unfold tryB at e
  split at e
  · rename_i c hc
    refine ⟨ρ, M, as, x, M1, c, he, hm, e1, hc, fun H1 as1 n1 m1 => ?_⟩
    cases c with
    | true =>
      rw [if_pos rfl]
      dsimp only at e
      rw [if_pos rfl] at e
      exact ⟨ρ, M1, as1, d, M', he.mono hm n1, m1, e, fun w H2 as2 n2 m2 r2 => k w H2 as2 (n1.trans n2) m2 r2⟩
    | false =>
      rw [if_neg Bool.false_ne_true]
      dsimp only at e
      rw [if_neg Bool.false_ne_true] at e
      exact ⟨ρ, M1, as1, d, M', he.mono hm n1, m1, e, fun w H2 as2 n2 m2 r2 => k w H2 as2 (n1.trans n2) m2 r2⟩
  · cases e

/-! ### comparisons -/
mutual
theorem dp_of {as : List Addr} {H : Hp} {M : Mem} (hm : MRel X.K X.mg as H M) : ∀ (n : Nat) {d : Val} {v : V} {p : PyData}, Rep X.K X.mg as H d v → toD M n d = some p → Dp X.K H v p
  | 0, _, _, _, _, h => by cases h
  | n + 1, _, _, _, .non, h => by cases h; exact .non
  | n + 1, _, _, _, .bl b, h => by cases h; exact .bl b
  | n + 1, _, _, _, .int b, h => by cases h; exact .int b
  | n + 1, _, _, _, .str b, h => by cases h; exact .str b
  | n + 1, _, _, _, .tup (ds := ds) hs t, h => by
    dsimp only [toD] at h
    cases q : allD (toD M n) ds with
    | none => rw [q] at h; cases h
    | some ps => rw [q] at h; cases h; exact .tup hs (dps_of hm n t q)
  | n + 1, _, _, _, .ref (l := l) e, h => by
    dsimp only [toD] at h
    cases q : lsOf M (.ref l) with
    | none => rw [q] at h; cases h
    | some ds =>
      rw [q] at h
      obtain ⟨a', vs, e', hs, t⟩ := read_lst hm (.ref e) q
      cases e'
      have h : (allD (toD M n) ds).map PyData.list = some _ := h
      cases q2 : allD (toD M n) ds with
      | none => rw [q2] at h; cases h
      | some ps => rw [q2] at h; cases h; exact .lst hs (dps_of hm n t q2)
  | n + 1, _, _, _, .rl (ds := ds) hs t, h => by
    dsimp only [toD] at h
    cases q : allD (toD M n) ds with
    | none => rw [q] at h; cases h
    | some ps => rw [q] at h; cases h; exact .lst hs.sq (dps_of hm n t q)
  | n + 1, _, _, _, .fn _, h => by cases h
  | n + 1, _, _, _, .ty _, h => by cases h
  | n + 1, _, _, _, .tab _, h => by cases h
theorem dps_of {as : List Addr} {H : Hp} {M : Mem} (hm : MRel X.K X.mg as H M) : ∀ (n : Nat) {d : List Val} {v : List V} {p : List PyData}, Reps X.K X.mg as H d v → allD (toD M n) d = some p → DpAll X.K H v p
  | n, _, _, _, .nil, h => by cases h; exact .nil
  | n, _, _, _, .cons (d := d) (ds := ds) r t, h => by
    dsimp only [allD] at h
    cases q : toD M n d with
    | none => rw [q] at h; cases h
    | some p =>
      rw [q] at h
      have h : (allD (toD M n) ds).map (p :: ·) = some _ := h
      cases q2 : allD (toD M n) ds with
      | none => rw [q2] at h; cases h
      | some ps => rw [q2] at h; cases h; exact .cons (dp_of hm n r q) (dps_of hm n t q2)
end
theorem flat_rep {as : List Addr} {H : Hp} {d : Val} {v : V} (r : Rep X.K X.mg as H d v) (h : flat d = true) : flatV v = true := by
  cases r <;> first | rfl | cases h
theorem flats_rep {as : List Addr} {H : Hp} : ∀ {d : List Val} {v : List V}, Reps X.K X.mg as H d v → d.all flat = true → v.all flatV = true
  | _, _, .nil, _ => rfl
  | _, _, .cons r t, h => by
    rw [List.all_cons, Bool.and_eq_true] at h
    rw [List.all_cons, flat_rep r h.1, flats_rep t h.2]
    rfl
theorem feq_rep {as : List Addr} {H : Hp} {d e : Val} {v w : V} (r : Rep X.K X.mg as H d v) (q : Rep X.K X.mg as H e w) (h1 : flat d = true) (h2 : flat e = true) : L2.eqV v w = feq d e := by
  cases r <;> first
    | cases h1; done
    | (cases q <;> first
        | rfl
        | cases h2)
theorem any_rep {as : List Addr} {H : Hp} {e : Val} {w : V} (q : Rep X.K X.mg as H e w) (h2 : flat e = true) : ∀ {d : List Val} {v : List V}, Reps X.K X.mg as H d v → d.all flat = true → L2.inV w v = d.any fun y => feq y e
  | _, _, .nil, _ => rfl
  | _, _, .cons r t, h => by
    rw [List.all_cons, Bool.and_eq_true] at h
    have i := any_rep q h2 t h.2
    unfold L2.inV at i ⊢
    rw [List.any_cons, List.any_cons, i, feq_rep r q h.1 h2]
/-- a comparison gives a truth; its rule -/
def CmpOK (X : Cx) (op : CmpOp) : Prop := BinOK X (compareOp op) (cmpV op)
theorem ofB_ok {b : Option Bool} {M M' : Mem} {d : Val} (h : ofB b M = .ok d M') : ∃ k, b = some k ∧ d = .bl k ∧ M = M' := by
  cases b with
  | none => cases h
  | some k => cases h; exact ⟨k, rfl, rfl, rfl⟩
theorem eqV_some {M : Mem} {x y : Val} {k : Bool} (h : eqV M x y = some k) : ∃ d e, toD M 64 x = some d ∧ toD M 64 y = some e ∧ SeqAt.shaped d = true ∧ SeqAt.shaped e = true ∧ k = PyData.eqv d e := by
  unfold eqV at h
  split at h
  · rename_i d e h1 h2
    split at h
    · rename_i hs
      rw [Bool.and_eq_true] at hs
      cases h
      exact ⟨d, e, h1, h2, hs.1, hs.2, rfl⟩
    · cases h
  · cases h
theorem c_eq (hu : X.A.units + 64 < cLine) : CmpOK X .Eq := by
  refine ⟨_, op_eqD hu, fun x y v w as H M d M' Q hm rx ry e k => ?_⟩
  obtain ⟨b, h, rfl, rfl⟩ := ofB_ok e
  obtain ⟨p, q, h1, h2, s1, s2, rfl⟩ := eqV_some h
  exact ⟨p, q, dp_of hm 64 rx h1, dp_of hm 64 ry h2, s1, s2, k _ _ _ .refl hm (.bl _)⟩
theorem c_ne (hu : X.A.units + 64 < cLine) : CmpOK X .NotEq := by
  refine ⟨_, op_neD hu, fun x y v w as H M d M' Q hm rx ry e k => ?_⟩
  obtain ⟨b, h, rfl, rfl⟩ := ofB_ok e
  cases q0 : eqV M x y with
  | none => rw [q0] at h; cases h
  | some c =>
    rw [q0] at h
    cases h
    obtain ⟨p, q, h1, h2, s1, s2, rfl⟩ := eqV_some q0
    exact ⟨p, q, dp_of hm 64 rx h1, dp_of hm 64 ry h2, s1, s2, k _ _ _ .refl hm (.bl _)⟩
theorem c_lt : CmpOK X .Lt := by
  refine ⟨_, op_lt, fun x y v w as H M d M' Q hm rx ry e k => ?_⟩
  obtain ⟨b, h, rfl, rfl⟩ := ofB_ok e
  unfold ltV at h
  split at h
  · cases h; cases rx; cases ry
    exact ⟨_, _, rfl, rfl, k _ _ _ .refl hm (.bl _)⟩
  · cases h
theorem c_le : CmpOK X .LtE := by
  refine ⟨_, op_le, fun x y v w as H M d M' Q hm rx ry e k => ?_⟩
  obtain ⟨b, h, rfl, rfl⟩ := ofB_ok e
  unfold leV at h
  split at h
  · cases h; cases rx; cases ry
    exact ⟨_, _, rfl, rfl, k _ _ _ .refl hm (.bl _)⟩
  · cases h
theorem c_gt : CmpOK X .Gt := by
  refine ⟨_, op_gt, fun x y v w as H M d M' Q hm rx ry e k => ?_⟩
  obtain ⟨b, h, rfl, rfl⟩ := ofB_ok e
  unfold ltV at h
  split at h
  · cases h; cases rx; cases ry
    exact ⟨_, _, rfl, rfl, k _ _ _ .refl hm (.bl _)⟩
  · cases h
theorem c_ge : CmpOK X .GtE := by
  refine ⟨_, op_ge, fun x y v w as H M d M' Q hm rx ry e k => ?_⟩
  obtain ⟨b, h, rfl, rfl⟩ := ofB_ok e
  unfold leV at h
  split at h
  · cases h; cases rx; cases ry
    exact ⟨_, _, rfl, rfl, k _ _ _ .refl hm (.bl _)⟩
  · cases h
theorem in_inv {as : List Addr} {H : Hp} {M : Mem} {x y : Val} {v w : V} {b : Bool} (hm : MRel X.K X.mg as H M) (rx : Rep X.K X.mg as H x v) (ry : Rep X.K X.mg as H y w) (h : inV M x y = some b) :
    (∃ p xs, w = .ref p ∧ (SqL X.K H p xs ∨ SqT X.K H p xs) ∧ flatV v = true ∧ xs.all flatV = true ∧ b = L2.inV v xs) ∨ ∃ (c : Nat) (z : Str), v = .str ⟨#[c]⟩ ∧ w = .str z ∧ b = decide (c ∈ z.cps.toList) := by
  have seq : ∀ (ds : List Val), (if (flat x && ds.all flat) = true then some (ds.any fun y => feq y x) else none) = some b → ∀ p xs, w = .ref p → (SqL X.K H p xs ∨ SqT X.K H p xs) → Reps X.K X.mg as H ds xs →
      ∃ p xs, w = .ref p ∧ (SqL X.K H p xs ∨ SqT X.K H p xs) ∧ flatV v = true ∧ xs.all flatV = true ∧ b = L2.inV v xs := fun ds h p xs e hs t => by
    split at h
    · rename_i hz
      rw [Bool.and_eq_true] at hz
      cases h
      exact ⟨p, xs, e, hs, flat_rep rx hz.1, flats_rep t hz.2, (any_rep rx hz.1 t hz.2).symm⟩
    · cases h
  cases ry with
  | tup hs t => exact .inl (seq _ h _ _ rfl (.inr hs) t)
  | rl hs t => exact .inl (seq _ h _ _ rfl (.inl hs.sq) t)
  | @ref l a e =>
    dsimp only [inV] at h
    cases q : lsOf M (.ref l) with
    | none => rw [q] at h; cases h
    | some ds =>
      rw [q] at h
      obtain ⟨a', vs, e', hs, t⟩ := read_lst hm (.ref e) q
      cases e'
      exact .inl (seq ds h _ _ rfl (.inl hs) t)
  | str z =>
    cases rx with
    | str y =>
      dsimp only [inV] at h
      split at h
      · rename_i c hc
        cases h
        refine .inr ⟨c, z, ?_, rfl, rfl⟩
        have : y = ⟨#[c]⟩ := by
          obtain ⟨arr⟩ := y
          have : arr = #[c] := by
            apply Array.toList_inj.mp
            exact hc
          rw [this]
        rw [this]
      · cases h
    | _ => cases h
  | _ => cases h
theorem c_in : CmpOK X .In := by
  refine ⟨_, op_in_seq.or op_in_sign, fun x y v w as H M d M' Q hm rx ry e k => ?_⟩
  obtain ⟨b, h, rfl, rfl⟩ := ofB_ok e
  rcases in_inv hm rx ry h with ⟨p, xs, e1, hs, f1, f2, rfl⟩ | ⟨c, z, e1, e2, rfl⟩
  · exact .inl ⟨p, xs, e1, hs, f1, f2, k _ _ _ .refl hm (.bl _)⟩
  · exact .inr ⟨c, z, e1, e2, k _ _ _ .refl hm (.bl _)⟩
theorem c_notin : CmpOK X .NotIn := by
  refine ⟨_, op_notIn_seq.or op_notIn_sign, fun x y v w as H M d M' Q hm rx ry e k => ?_⟩
  obtain ⟨b, h, rfl, rfl⟩ := ofB_ok e
  cases q0 : inV M x y with
  | none => rw [q0] at h; cases h
  | some c =>
    rw [q0] at h
    cases h
    rcases in_inv hm rx ry q0 with ⟨p, xs, e1, hs, f1, f2, rfl⟩ | ⟨c, z, e1, e2, rfl⟩
    · exact .inl ⟨p, xs, e1, hs, f1, f2, k _ _ _ .refl hm (.bl _)⟩
    · exact .inr ⟨c, z, e1, e2, k _ _ _ .refl hm (.bl _)⟩
theorem is_inv {as : List Addr} {H : Hp} {x y : Val} {v w : V} {b : Bool} (rx : Rep X.K X.mg as H x v) (ry : Rep X.K X.mg as H y w) (h : isV x y = some b) :
    (w = .non ∧ b = decide (v = .non)) ∨ ∃ a c, v = .bl a ∧ w = .bl c ∧ b = decide (a = c) := by
  unfold isV at h
  split at h
  · cases ry
    refine .inl ⟨rfl, ?_⟩
    split at h
    · cases h; cases rx; rfl
    · rename_i hne
      cases h
      cases rx <;> first
        | rfl
        | exact absurd rfl hne
        | (symm; exact decide_eq_false (fun z => nomatch z))
  · cases ry
    split at h
    · cases h; cases rx; exact .inr ⟨_, _, rfl, rfl, rfl⟩
    · cases h
  · cases h
theorem c_is : CmpOK X .Is := by
  refine ⟨_, op_isN.or op_isBl, fun x y v w as H M d M' Q hm rx ry e k => ?_⟩
  obtain ⟨b, h, rfl, rfl⟩ := ofB_ok e
  rcases is_inv rx ry h with ⟨e1, rfl⟩ | ⟨a, c, e1, e2, rfl⟩
  · exact .inl ⟨e1, k _ _ _ .refl hm (.bl _)⟩
  · exact .inr ⟨a, c, e1, e2, k _ _ _ .refl hm (.bl _)⟩
theorem c_isnot : CmpOK X .IsNot := by
  refine ⟨_, op_notN.or op_notBl, fun x y v w as H M d M' Q hm rx ry e k => ?_⟩
  obtain ⟨b, h, rfl, rfl⟩ := ofB_ok e
  cases q0 : isV x y with
  | none => rw [q0] at h; cases h
  | some c =>
    rw [q0] at h
    cases h
    rcases is_inv rx ry q0 with ⟨e1, rfl⟩ | ⟨a, c, e1, e2, rfl⟩
    · exact .inl ⟨e1, k _ _ _ .refl hm (.bl _)⟩
    · exact .inr ⟨a, c, e1, e2, k _ _ _ .refl hm (.bl _)⟩
theorem cmp_ok (hu : X.A.units + 64 < cLine) (op : CmpOp) : CmpOK X op := by
  cases op
  · exact c_eq hu
  · exact c_ne hu
  · exact c_lt
  · exact c_le
  · exact c_gt
  · exact c_ge
  · exact c_is
  · exact c_isnot
  · exact c_in
  · exact c_notin
theorem cmp_bl {op : CmpOp} {x y : Val} {M M' : Mem} {d : Val} (h : cmpV op x y M = .ok d M') : ∃ k, d = .bl k ∧ M' = M := by
  cases op <;> (obtain ⟨k, _, h1, h2⟩ := ofB_ok h; exact ⟨k, h1, h2.symm⟩)
def cmpE (op : CmpOp) (fa fb : En → Mem → Rs Val) : En → Mem → Rs Val := fun ρ m => (fa ρ m).bind fun x m1 => (fb ρ m1).bind fun y m2 => cmpV op x y m2
theorem e_cmp (hu : X.A.units + 64 < cLine) {op : CmpOp} {a b : Expr} {pos : Pos} {fa fb : En → Mem → Rs Val} (ha : PE X a (tE X.K X.mg fa)) (hb : PE X b (tE X.K X.mg fb)) (hm : behindInMarks op b = false) :
    PE X (.Compare a [op] [b] pos) (tE X.K X.mg (cmpE op fa fb)) := by
  obtain ⟨r, ho, hr⟩ := cmp_ok hu op
  exact PE.imp (pe_cmpR ho ha hb hm) fun σ H Q q => op2 (a := a) (b := b) hr q
theorem t_cmp (hu : X.A.units + 64 < cLine) {op : CmpOp} {a b : Expr} {pos : Pos} {fa fb : En → Mem → Rs Val} (ha : PE X a (tE X.K X.mg fa)) (hb : PE X b (tE X.K X.mg fb)) (hm : behindInMarks op b = false) :
    PT X (.Compare a [op] [b] pos) (tT X.K X.mg (cmpE op fa fb)) := by
  obtain ⟨r, ho, hr⟩ := cmp_ok hu op
  refine PT.imp (pt_cmpR ho ha hb hm) fun σ H Q ⟨ρ, M, as, d, M', b', he, hm, e, ht, k⟩ => ?_
  refine op2 (a := a) (b := b) hr ⟨ρ, M, as, d, M', he, hm, e, fun v H' as' n m r => ?_⟩
  obtain ⟨x, M1, e1, e⟩ := Rs.bind_eq_ok e
  obtain ⟨y, M2, e2, e⟩ := Rs.bind_eq_ok e
  obtain ⟨c, rfl, _⟩ := cmp_bl e
  cases ht
  cases r
  exact ⟨_, rfl, k _ _ n m⟩
def chnE (o1 o2 : CmpOp) (fa fb fc : En → Mem → Rs Val) : En → Mem → Rs Val := fun ρ m => (fa ρ m).bind fun x m1 => (fb ρ m1).bind fun y m2 => (cmpV o1 x y m2).bind fun r m3 => (match r with
    | .bl true => (fc ρ m3).bind fun z m4 => cmpV o2 y z m4
    | .bl false => .ok (.bl false) m3
    | _ => .bad)
theorem e_chn (hu : X.A.units + 64 < cLine) {o1 o2 : CmpOp} {a b c : Expr} {pos : Pos} {fa fb fc : En → Mem → Rs Val} (ha : PE X a (tE X.K X.mg fa)) (hb : PE X b (tE X.K X.mg fb)) (hc : PE X c (tE X.K X.mg fc)) (hl : lastMarks [o1, o2] [b, c] = false) :
    PE X (.Compare a [o1, o2] [b, c] pos) (tE X.K X.mg (chnE o1 o2 fa fb fc)) := by
  obtain ⟨r, ho, hr⟩ := cmp_ok hu o1
  obtain ⟨r', ho', hr'⟩ := cmp_ok hu o2
  refine PE.imp (pe_chain ho ho' ha hb hc hl) fun σ H Q ⟨ρ, M, as, d, M', he, hm, e, k⟩ => ?_
  obtain ⟨x, M1, e1, e⟩ := Rs.bind_eq_ok e
  obtain ⟨y, M2, e2, e⟩ := Rs.bind_eq_ok e
  obtain ⟨z, M3, e3, e⟩ := Rs.bind_eq_ok e
  refine ⟨ρ, M, as, x, M1, he, hm, e1, fun v H1 as1 n1 m1 r1 => ⟨ρ, M1, as1, y, M2, he.mono hm n1, m1, e2, fun w H2 as2 n2 m2 r2 =>
    hr x y v w as2 H2 M2 z M3 _ m2 (r1.mono m1 n2) r2 e3 fun v' H3 as3 n3 m3 r3 => ?_⟩⟩
  have n13 := n1.trans (n2.trans n3)
  split at e
  · cases r3
    refine ⟨true, rfl, ?_⟩
    rw [if_pos rfl]
    obtain ⟨u, M4, e4, e⟩ := Rs.bind_eq_ok e
    exact ⟨ρ, M3, as3, u, M4, he.mono hm n13, m3, e4, fun w' H4 as4 n4 m4 r4 => hr' y u w w' as4 H4 M4 d M' Q m4 (r2.mono m2 (n3.trans n4)) r4 e fun v' H' as' n5 m5 r5 => k v' H' as' (n13.trans (n4.trans n5)) m5 r5⟩
  · cases r3
    refine ⟨false, rfl, ?_⟩
    rw [if_neg Bool.false_ne_true]
    cases e
    exact k _ _ _ n13 m3 (.bl _)
  · cases e
theorem t_chn (hu : X.A.units + 64 < cLine) {o1 o2 : CmpOp} {a b c : Expr} {pos : Pos} {fa fb fc : En → Mem → Rs Val} (ha : PE X a (tE X.K X.mg fa)) (hb : PE X b (tE X.K X.mg fb)) (hc : PE X c (tE X.K X.mg fc)) (hl : lastMarks [o1, o2] [b, c] = false) :
    PT X (.Compare a [o1, o2] [b, c] pos) (tT X.K X.mg (chnE o1 o2 fa fb fc)) := by
  obtain ⟨r, ho, hr⟩ := cmp_ok hu o1
  obtain ⟨r', ho', hr'⟩ := cmp_ok hu o2
  refine PT.imp (pt_chain ho ho' ha hb hc hl) fun σ H Q ⟨ρ, M, as, d, M', bb, he, hm, e, ht, k⟩ => ?_
  obtain ⟨x, M1, e1, e⟩ := Rs.bind_eq_ok e
  obtain ⟨y, M2, e2, e⟩ := Rs.bind_eq_ok e
  obtain ⟨z, M3, e3, e⟩ := Rs.bind_eq_ok e
  refine ⟨ρ, M, as, x, M1, he, hm, e1, fun v H1 as1 n1 m1 r1 => ⟨ρ, M1, as1, y, M2, he.mono hm n1, m1, e2, fun w H2 as2 n2 m2 r2 =>
    hr x y v w as2 H2 M2 z M3 _ m2 (r1.mono m1 n2) r2 e3 fun v' H3 as3 n3 m3 r3 => ?_⟩⟩
  have n13 := n1.trans (n2.trans n3)
  split at e
  · cases r3
    refine ⟨true, rfl, ?_⟩
    rw [if_pos rfl]
    obtain ⟨u, M4, e4, e⟩ := Rs.bind_eq_ok e
    obtain ⟨c', rfl, _⟩ := cmp_bl e
    cases ht
    refine ⟨ρ, M3, as3, u, M4, he.mono hm n13, m3, e4, fun w' H4 as4 n4 m4 r4 => hr' y u w w' as4 H4 M4 _ M' _ m4 (r2.mono m2 (n3.trans n4)) r4 e fun v' H' as' n5 m5 r5 => ?_⟩
    cases r5
    exact ⟨_, rfl, k _ _ (n13.trans (n4.trans n5)) m5⟩
  · cases r3
    refine ⟨false, rfl, ?_⟩
    rw [if_neg Bool.false_ne_true]
    cases e
    cases ht
    exact ⟨_, rfl, k _ _ n13 m3⟩
  · cases e

/-! ### items and slices -/
def plainIx : Expr → Bool
  | .Slice _ _ _ _ => false
  | _ => true
theorem plainIx_ok {b : Expr} (h : plainIx b = true) : PlainIx b := fun o i => by
  cases b <;> first | rfl | cases h
theorem at_rep {as : List Addr} {H : Hp} {ds : List Val} {vs : List V} {i : Int} {d : Val} (r : Reps X.K X.mg as H ds vs) (h : atI ds i = some d) : ∃ v, atI vs i = some v ∧ Rep X.K X.mg as H d v := by
  unfold atI at h ⊢
  rw [← r.length]
  cases q : ixN ds.length i with
  | none => rw [q] at h; cases h
  | some j =>
    rw [q] at h
    have h : ds[j]? = some d := h
    obtain ⟨v, h1, h2⟩ := r.get h
    exact ⟨v, h1, h2⟩
theorem ix_brg : Brg X (rIx X.K) ixV := fun x y v w as H M d M' Q hm rx ry e k => by
  unfold ixV at e
  split at e
  · split at e
    · rename_i hv
      cases e
      cases ry
      cases rx with
      | tup hs t =>
        obtain ⟨u, h1, h2⟩ := at_rep t hv
        exact .inr (.inl ⟨_, _, _, _, rfl, rfl, hs, h1, k _ _ _ .refl hm h2⟩)
    · cases e
  · split at e
    · rename_i hl
      split at e
      · rename_i hv
        cases e
        cases ry
        obtain ⟨a, vs, rfl, hs, t⟩ := read_lst hm rx hl
        obtain ⟨u, h1, h2⟩ := at_rep t hv
        exact .inl ⟨_, _, _, _, rfl, rfl, hs, h1, k _ _ _ .refl hm h2⟩
      · cases e
    · cases e
  · split at e
    · rename_i hv
      cases e
      cases ry
      cases rx with
      | rl hs t =>
        obtain ⟨u, h1, h2⟩ := at_rep t hv
        exact .inl ⟨_, _, _, _, rfl, rfl, hs.sq, h1, k _ _ _ .refl hm h2⟩
    · cases e
  · split at e
    · rename_i hv
      split at e
      · rename_i hz
        cases e; cases rx; cases ry
        exact .inr (.inr ⟨_, _, _, rfl, rfl, hz, hv, k _ _ _ .refl hm (.str _)⟩)
      · cases e
    · cases e
  · cases e
theorem e_ix {a b : Expr} {pos : Pos} {fa fb : En → Mem → Rs Val} (ha : PE X a (tE X.K X.mg fa)) (hb : PE X b (tE X.K X.mg fb)) (hp : plainIx b = true) :
    PE X (.Subscript a b pos) (tE X.K X.mg fun ρ m => (fa ρ m).bind fun x m1 => (fb ρ m1).bind fun y m2 => ixV x y m2) :=
  PE.imp (pe_ix ix_seq ha hb (plainIx_ok hp)) fun σ H Q q => op2 (a := a) (b := b) ix_brg q
theorem cut_rep {as : List Addr} {H : Hp} {ds : List Val} {vs : List V} (r : Reps X.K X.mg as H ds vs) (lo hi : Option Int) : Reps X.K X.mg as H (cut ds lo hi) (cutV vs lo hi) := by
  unfold cut cutV
  rw [← r.length]
  exact (r.drop _).take _
/-- a part of a slice: written, or not there -/
def PartOK (X : Cx) (e : Option Expr) (f : En → Mem → Rs Val) : Prop := PO X e (fun σ H Q => ∃ ρ M as d M' o, EnR X.K X.mg as H ρ σ ∧ MRel X.K X.mg as H M ∧ f ρ M = .ok d M' ∧ part d = some o ∧ ∀ H' as', Nx as H as' H' → MRel X.K X.mg as' H' M' → Q o H')
theorem part_none : PartOK X none (fun _ m => .ok .non m) := by
  refine ⟨fun pins s σ H Q I h => ?_⟩
  obtain ⟨ρ, M, as, d, M', o, he, hm, e, hp, k⟩ := h
  cases e
  cases hp
  exact po_none.run pins s σ H Q I (k H as .refl hm)
theorem part_some {e : Expr} {f : En → Mem → Rs Val} (h : PE X e (tE X.K X.mg f)) : PartOK X (some e) (fun ρ m => (f ρ m).bind fun v m1 => (match v with | .int i => .ok (.int i) m1 | _ => .bad)) := by
  refine ⟨fun pins s σ H Q I q => ?_⟩
  obtain ⟨ρ, M, as, d, M', o, he, hm, e, hp, k⟩ := q
  obtain ⟨x, M1, e1, e⟩ := Rs.bind_eq_ok e
  split at e
  · cases e
    cases hp
    refine (po_some h).run pins s σ H Q I ⟨ρ, M, as, _, _, he, hm, e1, fun v H1 as1 n1 m1 r1 => ?_⟩
    cases r1
    exact ⟨_, rfl, k _ _ n1 m1⟩
  · cases e
theorem e_sl {a : Expr} {lo hi : Option Expr} {pos p2 : Pos} {fa fl fh : En → Mem → Rs Val} (ha : PE X a (tE X.K X.mg fa)) (hl : PartOK X lo fl) (hh : PartOK X hi fh) :
    PE X (.Subscript a (.Slice lo hi none p2) pos) (tE X.K X.mg fun ρ m => (fa ρ m).bind fun x m1 => (fl ρ m1).bind fun y m2 => (fh ρ m2).bind fun z m3 => slV x y z m3) := by
  refine PE.imp (pe_slice (sl_tupA.or sl_list) ha hl hh) fun σ H Q ⟨ρ, M, as, d, M', he, hm, e, k⟩ => ?_
  obtain ⟨x, M1, e1, e⟩ := Rs.bind_eq_ok e
  obtain ⟨y, M2, e2, e⟩ := Rs.bind_eq_ok e
  obtain ⟨z, M3, e3, e⟩ := Rs.bind_eq_ok e
  unfold slV at e
  split at e
  · rename_i p q hp hq
    refine ⟨ρ, M, as, x, M1, he, hm, e1, fun v H1 as1 n1 m1 r1 => ⟨ρ, M1, as1, y, M2, p, he.mono hm n1, m1, e2, hp, fun H2 as2 n2 m2 => ⟨ρ, M2, as2, z, M3, q, (he.mono hm n1).mono m1 n2, m2, e3, hq, fun H3 as3 n3 m3 => ?_⟩⟩⟩
    have rx := (r1.mono m1 n2).mono m2 n3
    have n13 := n1.trans (n2.trans n3)
    split at e
    · cases e
      cases rx with
      | @tup a0 vs0 ds0 hs t =>
        refine .inl ⟨_, _, rfl, hs, fun hw => ?_, fun _ p' hp' => ?_⟩
        · refine k _ _ _ n13 m3 ?_
          have ec := cut_rep t p q
          have e2 : cutV vs0 p q = vs0 := by
            unfold cutV
            rw [hw.1, hw.2, List.drop_zero, Nat.sub_zero, List.take_length]
          rw [e2] at ec
          exact .tup hs ec
        · obtain ⟨n4, m4, r4⟩ := new_tup m3 hp' (cut_rep t p q)
          exact k _ _ _ (n13.trans n4) m4 r4
    · split at e
      · rename_i hl
        cases e
        obtain ⟨a, vs, rfl, hs, t⟩ := read_lst m3 rx hl
        refine .inr ⟨_, _, rfl, hs, fun p' hp' => ?_⟩
        obtain ⟨n4, m4, r4⟩ := new_lst m3 hp' (cut_rep t p q)
        exact k _ _ _ (n13.trans n4) m4 r4
      · cases e
  · cases e
end
end Pv
end SPvD

section SPvE
set_option Elab.async false
set_option linter.all false
set_option maxRecDepth 100000
set_option maxHeartbeats 2000000
/-! Pv: calls. -/
namespace Pv
open PySem PySem.Spec PyProof.Rows L2
section
variable {X : Cx}
def CalOK (X : Cx) (f : Value) (g : List Val → Mem → Rs Val) : Prop := ∃ r, CallR X f r ∧ ∀ xs vs as H M d M' (Q : VK), MRel X.K X.mg as H M → Reps X.K X.mg as H xs vs → g xs M = .ok d M' → Post X.K X.mg as H M' d Q → r vs H Q
theorem reps1 {as : List Addr} {H : Hp} {d : Val} {vs : List V} (r : Reps X.K X.mg as H [d] vs) : ∃ v, vs = [v] ∧ Rep X.K X.mg as H d v := by
  cases r with
  | cons r t => cases t; exact ⟨_, rfl, r⟩
theorem reps2 {as : List Addr} {H : Hp} {d e : Val} {vs : List V} (r : Reps X.K X.mg as H [d, e] vs) : ∃ v w, vs = [v, w] ∧ Rep X.K X.mg as H d v ∧ Rep X.K X.mg as H e w := by
  cases r with
  | cons r t =>
    cases t with
    | cons r2 t2 => cases t2; exact ⟨_, _, rfl, r, r2⟩
theorem abs_ok : CalOK X (.builtin "abs") absV := by
  refine ⟨_, call_abs, fun xs vs as H M d M' Q hm r e k => ?_⟩
  unfold absV at e
  split at e
  · cases e
    obtain ⟨v, rfl, q1⟩ := reps1 r
    cases q1
    exact ⟨_, rfl, k _ _ _ .refl hm (.int _)⟩
  · cases e
theorem len_ok : CalOK X (.builtin "len") lenV := by
  refine ⟨_, call_len_seq.or call_len_str, fun xs vs as H M d M' Q hm r e k => ?_⟩
  unfold lenV at e
  split at e
  · cases e
    obtain ⟨v, rfl, q1⟩ := reps1 r
    cases q1 with
    | tup hs t => exact .inl ⟨_, _, rfl, .inr hs, by rw [← t.length]; exact k _ _ _ .refl hm (.int _)⟩
  · split at e
    · rename_i hz
      cases e
      obtain ⟨v, rfl, q1⟩ := reps1 r
      cases q1
      exact .inr ⟨_, rfl, hz, k _ _ _ .refl hm (.int _)⟩
    · cases e
  · split at e
    · rename_i hl
      cases e
      obtain ⟨v, rfl, q1⟩ := reps1 r
      obtain ⟨a, vs, rfl, hs, t⟩ := read_lst hm q1 hl
      exact .inl ⟨_, _, rfl, .inl hs, by rw [← t.length]; exact k _ _ _ .refl hm (.int _)⟩
    · cases e
  · cases e
theorem ints_rep {as : List Addr} {H : Hp} : ∀ {ds : List Val} {vs : List V} {ns : List Int}, Reps X.K X.mg as H ds vs → intsOf ds = some ns → vs = ns.map V.int
  | _, _, _, .nil, h => by cases h; rfl
  | _, _, _, .cons (d := d) (ds := ds) r t, h => by
    cases d with
    | int i =>
      dsimp only [intsOf] at h
      cases q : intsOf ds with
      | none => rw [q] at h; cases h
      | some ms => rw [q] at h; cases h; cases r; rw [ints_rep t q]; rfl
    | _ => cases h
theorem maxL_mem : ∀ (i : Int) (is : List Int), maxL (i :: is) ∈ i :: is ∧ ∀ y ∈ i :: is, y ≤ maxL (i :: is)
  | i, [] => by simp [maxL]
  | i, j :: is => by
    have ih := maxL_mem j is
    show (if i < maxL (j :: is) then maxL (j :: is) else i) ∈ i :: j :: is ∧ ∀ y ∈ i :: j :: is, y ≤ (if i < maxL (j :: is) then maxL (j :: is) else i)
    split
    · rename_i hlt
      refine ⟨List.mem_cons_of_mem _ ih.1, fun y hy => ?_⟩
      rcases List.mem_cons.mp hy with e | hy
      · omega
      · exact ih.2 y hy
    · rename_i hlt
      refine ⟨List.mem_cons_self, fun y hy => ?_⟩
      rcases List.mem_cons.mp hy with e | hy
      · omega
      · have := ih.2 y hy; omega
theorem max_ok (hc : X.calm = true) : CalOK X (.builtin "max") maxV := by
  refine ⟨_, (call_max2 hc).or (cr_max hc), fun xs vs as H M d M' Q hm r e k => ?_⟩
  unfold maxV at e
  split at e
  · cases e
    obtain ⟨v, w, rfl, q1, q2⟩ := reps2 r
    cases q1; cases q2
    exact .inl ⟨_, _, rfl, k _ _ _ .refl hm (.int _)⟩
  · split at e
    · rename_i x _ i is hl
      cases e
      obtain ⟨v, rfl, q1⟩ := reps1 r
      cases q : lsOf M x with
      | none => rw [q] at hl; cases hl
      | some ds =>
        rw [q] at hl
        obtain ⟨a, vs, rfl, hs, t⟩ := read_lst hm q1 q
        have e2 := ints_rep t hl
        subst e2
        refine .inr ⟨a, i :: is, rfl, hs, Nat.succ_pos _, fun m h1 h2 => ?_⟩
        have w2 := maxL_mem i is
        have e3 : m = maxL (i :: is) := by
          have u1 := w2.2 m h1
          have u2 := h2 _ w2.1
          omega
        subst e3
        exact k _ _ _ .refl hm (.int _)
    · cases e
  · cases e
theorem min_ok (hc : X.calm = true) : CalOK X (.builtin "min") minV := by
  refine ⟨_, call_min2 hc, fun xs vs as H M d M' Q hm r e k => ?_⟩
  unfold minV at e
  split at e
  · cases e
    obtain ⟨v, w, rfl, q1, q2⟩ := reps2 r
    cases q1; cases q2
    exact ⟨_, _, rfl, k _ _ _ .refl hm (.int _)⟩
  · cases e
theorem int_ok : CalOK X (.type "int") intV := by
  refine ⟨_, call_int1.or call_int_str, fun xs vs as H M d M' Q hm r e k => ?_⟩
  unfold intV at e
  split at e
  · cases e
    obtain ⟨v, rfl, q1⟩ := reps1 r
    cases q1
    exact .inl (.inl ⟨_, rfl, k _ _ _ .refl hm (.int _)⟩)
  · cases e
    obtain ⟨v, rfl, q1⟩ := reps1 r
    cases q1
    exact .inl (.inr ⟨_, rfl, k _ _ _ .refl hm (.int _)⟩)
  · split at e
    · rename_i hz
      split at e
      · rename_i hn
        cases e
        obtain ⟨v, rfl, q1⟩ := reps1 r
        cases q1
        exact .inr ⟨_, _, rfl, hn, hz, k _ _ _ .refl hm (.int _)⟩
      · cases e
    · cases e
  · cases e
theorem list_ok : CalOK X (.type "list") listV := by
  refine ⟨_, call_list_of, fun xs vs as H M d M' Q hm r e k => ?_⟩
  unfold listV at e
  split at e
  · cases e
    obtain ⟨v, rfl, q1⟩ := reps1 r
    cases q1 with
    | tup hs t =>
      refine ⟨_, _, rfl, .inr hs, fun p hp => ?_⟩
      obtain ⟨n, m, r⟩ := new_lst hm hp t
      exact k _ _ _ n m r
  · split at e
    · rename_i hl
      cases e
      obtain ⟨v, rfl, q1⟩ := reps1 r
      obtain ⟨a, vs, rfl, hs, t⟩ := read_lst hm q1 hl
      refine ⟨_, _, rfl, .inl hs, fun p hp => ?_⟩
      obtain ⟨n, m, r⟩ := new_lst hm hp t
      exact k _ _ _ n m r
    · cases e
  · cases e
theorem tuple_ok : CalOK X (.type "tuple") tupleV := by
  refine ⟨_, call_tuple_of, fun xs vs as H M d M' Q hm r e k => ?_⟩
  unfold tupleV at e
  split at e
  · cases e
    obtain ⟨v, rfl, q1⟩ := reps1 r
    cases q1 with
    | tup hs t => exact ⟨_, _, rfl, .inr ⟨hs, k _ _ _ .refl hm (.tup hs t)⟩⟩
  · split at e
    · rename_i hl
      cases e
      obtain ⟨v, rfl, q1⟩ := reps1 r
      obtain ⟨a, vs, rfl, hs, t⟩ := read_lst hm q1 hl
      refine ⟨_, _, rfl, .inl ⟨hs, fun p hp => ?_⟩⟩
      obtain ⟨n, m, r⟩ := new_tup hm hp t
      exact k _ _ _ n m r
    · cases e
  · cases e
/-! ### sorted -/
theorem insB_perm {α : Type} (le : α → α → Bool) (x : α) : ∀ l : List α, (insB le x l).Perm (x :: l)
  | [] => .refl _
  | y :: t => by
    unfold insB
    split
    · exact .refl _
    · exact ((insB_perm le x t).cons y).trans (List.Perm.swap x y t)
theorem sortB_perm {α : Type} (le : α → α → Bool) : ∀ l : List α, (sortB le l).Perm l
  | [] => .refl _
  | x :: t => (insB_perm le x _).trans ((sortB_perm le t).cons x)
theorem insB_srt {α : Type} {le : α → α → Bool} (tot : ∀ a b, le a b = true ∨ le b a = true) (tr : ∀ a b c, le a b = true → le b c = true → le a c = true) (x : α) : ∀ l : List α, l.Pairwise (fun a b => le a b = true) → (insB le x l).Pairwise (fun a b => le a b = true)
  | [], _ => by simp [insB]
  | y :: t, h => by
    rw [List.pairwise_cons] at h
    unfold insB
    split
    · rename_i q
      rw [List.pairwise_cons]
      refine ⟨fun z hz => ?_, by rw [List.pairwise_cons]; exact h⟩
      rcases List.mem_cons.mp hz with rfl | hz
      · exact q
      · exact tr _ _ _ q (h.1 z hz)
    · rename_i q
      rw [List.pairwise_cons]
      refine ⟨fun z hz => ?_, insB_srt tot tr x t h.2⟩
      rcases List.mem_cons.mp ((insB_perm le x t).mem_iff.mp hz) with rfl | hz
      · exact (tot _ _).resolve_left q
      · exact h.1 z hz
theorem sortB_srt {α : Type} {le : α → α → Bool} (tot : ∀ a b, le a b = true ∨ le b a = true) (tr : ∀ a b c, le a b = true → le b c = true → le a c = true) : ∀ l : List α, (sortB le l).Pairwise (fun a b => le a b = true)
  | [] => .nil
  | x :: t => insB_srt tot tr x _ (sortB_srt tot tr t)
theorem srt_uniq {α : Type} {le : α → α → Bool} (anti : ∀ a b, le a b = true → le b a = true → a = b) : ∀ {l m : List α}, l.Perm m → l.Pairwise (fun a b => le a b = true) → m.Pairwise (fun a b => le a b = true) → l = m
  | [], m, p, _, _ => (List.Perm.eq_nil p.symm).symm
  | x :: l, [], p, _, _ => absurd p.length_eq (by simp)
  | x :: l, y :: m, p, hl, hm => by
    rw [List.pairwise_cons] at hl hm
    have e : x = y := by
      rcases List.mem_cons.mp (p.mem_iff.mp (List.mem_cons_self (a := x) (l := l))) with e | hx
      · exact e
      · rcases List.mem_cons.mp (p.mem_iff.mpr (List.mem_cons_self (a := y) (l := m))) with e | hy
        · exact e.symm
        · exact anti _ _ (hl.1 y hy) (hm.1 x hx)
    subst e
    rw [srt_uniq anti p.cons_inv hl.2 hm.2]
theorem leI_tot (a b : Int) : leI a b = true ∨ leI b a = true := by unfold leI; simp only [decide_eq_true_eq]; omega
theorem leI_tr (a b c : Int) : leI a b = true → leI b c = true → leI a c = true := by unfold leI; simp only [decide_eq_true_eq]; omega
theorem leI_anti (a b : Int) : leI a b = true → leI b a = true → a = b := by unfold leI; simp only [decide_eq_true_eq]; omega
theorem leP_iff (a b : Int × Int) : leP a b = true ↔ a.1 < b.1 ∨ (a.1 = b.1 ∧ a.2 ≤ b.2) := by unfold leP; simp only [Bool.or_eq_true, Bool.and_eq_true, decide_eq_true_eq]
theorem leP_tot (a b : Int × Int) : leP a b = true ∨ leP b a = true := by rw [leP_iff, leP_iff]; omega
theorem leP_tr (a b c : Int × Int) : leP a b = true → leP b c = true → leP a c = true := by rw [leP_iff, leP_iff, leP_iff]; omega
theorem leP_anti (a b : Int × Int) : leP a b = true → leP b a = true → a = b := by
  rw [leP_iff, leP_iff]
  intro h1 h2
  have : a.1 = b.1 ∧ a.2 = b.2 := by omega
  exact Prod.ext this.1 this.2
/-- a pair of ints at x -/
def PairAt (K : PySem.W.Frag) (H : Hp) (x : V) (p : Int × Int) : Prop := ∃ t, x = .ref t ∧ SqT K H t [.int p.1, .int p.2]
def rSortPairs (K : PySem.W.Frag) : List V → Hp → VK → Prop := fun vs H Q => ∃ (a : Addr) (xs : List V) (ps : List (Int × Int)), vs = [V.ref a] ∧ SqL K H a xs ∧ Paired (PairAt K H) xs ps ∧
  ∀ ys p, Paired (PairAt K H) ys (sortB leP ps) → H p = none → Q (.ref p) (upd H p (.lst ys))
theorem paired_at {α β : Type} {F : α → β → Prop} : ∀ {l : List α} {m : List β}, Paired F l m → ∀ x ∈ l, ∃ y ∈ m, F x y
  | _, _, .nil, x, h => by cases h
  | _, _, .cons r t, x, h => by
    rcases List.mem_cons.mp h with rfl | h
    · exact ⟨_, List.mem_cons_self, r⟩
    · obtain ⟨y, h1, h2⟩ := paired_at t x h
      exact ⟨y, List.mem_cons_of_mem _ h1, h2⟩
theorem paired_map {α β : Type} {F : α → β → Prop} (k : α → β) (hk : ∀ x y, F x y → k x = y) : ∀ {l : List α} {m : List β}, Paired F l m → l.map k = m
  | _, _, .nil => rfl
  | _, _, .cons r t => by rw [List.map_cons, hk _ _ r, paired_map k hk t]
theorem paired_of {α β : Type} {F : α → β → Prop} (k : α → β) : ∀ (l : List α), (∀ x ∈ l, F x (k x)) → Paired F l (l.map k)
  | [], _ => .nil
  | x :: l, h => .cons (h x List.mem_cons_self) (paired_of k l fun y hy => h y (List.mem_cons_of_mem _ hy))
open Classical in
theorem cr_sortPairs : CallR X (.builtin "sorted") (rSortPairs X.K) := by
  intro pins s σ H vs us Q I r h
  obtain ⟨a, xs, ps, rfl, hs, hx, q⟩ := h
  obtain ⟨its, rv, hl, hz⟩ := I.list hs
  obtain ⟨u, rfl, ru⟩ := vals1 r
  obtain rfl : u = Value.ref a := ru
  have un : ∀ x p p', PairAt X.K H x p → PairAt X.K H x p' → p = p' := by
    rintro x p p' ⟨t, rfl, h1⟩ ⟨t', e, h2⟩
    cases e
    obtain ⟨i1, v1, t1, _⟩ := I.tuple h1
    obtain ⟨i2, v2, t2, _⟩ := I.tuple h2
    obtain ⟨a1, b1, rfl, ⟨_, rfl⟩, ⟨_, rfl⟩⟩ := vals2 v1
    obtain ⟨a2, b2, rfl, ⟨_, rfl⟩, ⟨_, rfl⟩⟩ := vals2 v2
    obtain ⟨o1, e1, c1, n1, d1⟩ := t1
    obtain ⟨o2, e2, c2, n2, d2⟩ := t2
    rw [e1] at e2
    cases e2
    rw [d1] at d2
    injection d2 with d2
    injection d2 with d2
    injection d2 with d2 d3
    injection d2 with d2
    injection d3 with d3
    injection d3 with d3
    exact Prod.ext d2 d3
  let k : V → Int × Int := fun x => if h : ∃ p, PairAt X.K H x p then h.choose else (0, 0)
  have hk : ∀ x p, PairAt X.K H x p → k x = p := fun x p h => by
    have ex : ∃ p, PairAt X.K H x p := ⟨p, h⟩
    show (if h : ∃ p, PairAt X.K H x p then h.choose else (0, 0)) = p
    rw [dif_pos ex]
    exact un x _ _ ex.choose_spec h
  have hall : ∀ x ∈ xs, PairAt X.K H x (k x) := fun x m => by
    obtain ⟨p, _, h⟩ := paired_at hx x m
    rw [hk x p h]
    exact h
  have e0 : xs.map k = ps := paired_map k hk hx
  obtain ⟨e1, e2⟩ := refs_back rv fun x m => by
    obtain ⟨t, e, _⟩ := hall x m
    exact ⟨t, e⟩
  refine SrtO.sorted_pairsO (k := fun u => k (backV u)) hl.isList (by rw [← rv.length]; exact hz) (fun v hv => ?_) fun h' d out h1 h2 kp hd hn => ?_
  · obtain ⟨t, rfl⟩ := e2 v hv
    have hm : V.ref t ∈ xs := by rw [e1]; exact List.mem_map.mpr ⟨_, hv, rfl⟩
    obtain ⟨t', e, ht⟩ := hall _ hm
    cases e
    obtain ⟨its2, r2, ⟨o, ho, hc, n, hd⟩, _⟩ := I.tuple ht
    obtain ⟨u1, u2, rfl, ri, rj⟩ := vals2 r2
    obtain ⟨t1, rfl⟩ := ri
    obtain ⟨t2, rfl⟩ := rj
    exact ⟨t, o, t1, t2, n, rfl, ho, hc, hd⟩
  · have h3 : ∀ u ∈ out, ∃ a, u = Value.ref a := fun u hu => e2 u (h2.perm.mem_iff.mp hu)
    obtain ⟨n, hn⟩ := hn
    have hperm : (out.map backV).Perm xs := by rw [e1]; exact h2.perm.map backV
    have hsort : (out.map backV).map k = sortB leP ps := by
      refine srt_uniq leP_anti ?_ ?_ (sortB_srt leP_tot leP_tr ps)
      · exact (hperm.map k).trans (by rw [e0]; exact (sortB_perm leP ps).symm)
      · rw [List.map_map, List.pairwise_map]
        refine h1.imp ?_
        intro v u hvu
        have hvu := SrtO.lexB_no.mp hvu
        rw [leP_iff]
        simp only [Function.comp]
        omega
    refine ⟨.ref d, upd H d (.lst (out.map backV)), I.laid (t' := s.toks) kp hd ⟨?_, out, n, vals_back h3, hn⟩, rfl, q _ d ?_ (I.hok.fresh hd)⟩
    · rw [hperm.length_eq]
      exact hz
    · rw [← hsort]
      exact paired_of k _ fun x m => hall x (hperm.mem_iff.mp m)
theorem opt_map' {α β : Type} {o : Option α} {f : α → β} {b : β} (h : o.map f = some b) : ∃ a, o = some a ∧ f a = b := Option.map_eq_some_iff.mp h
theorem pairs_rep {as : List Addr} {H : Hp} : ∀ {ds : List Val} {vs : List V} {ps : List (Int × Int)}, Reps X.K X.mg as H ds vs → pairsOf ds = some ps → Paired (PairAt X.K H) vs ps
  | _, _, _, .nil, h => by cases h; exact .nil
  | _, _, _, .cons (d := d) (ds := ds) r t, h => by
    unfold pairsOf at h
    split at h
    · rename_i z; cases z
    · rename_i i j vs' z
      cases z
      obtain ⟨qs, q, rfl⟩ := opt_map' h
      refine .cons ?_ (pairs_rep t q)
      cases r with
      | tup hs rr =>
        obtain ⟨v, w, rfl, r1, r2⟩ := reps2 rr
        cases r1; cases r2
        exact ⟨_, rfl, hs⟩
    · cases h
theorem rep_pairs {as : List Addr} {H : Hp} : ∀ {vs : List V} {ps : List (Int × Int)}, Paired (PairAt X.K H) vs ps → Reps X.K X.mg as H (ps.map pairV) vs
  | _, _, .nil => .nil
  | _, _, .cons ⟨t, e, h⟩ r => by subst e; exact .cons (.tup h (.cons (.int _) (.cons (.int _) .nil))) (rep_pairs r)
theorem rep_ints {as : List Addr} {H : Hp} : ∀ ns : List Int, Reps X.K X.mg as H (ns.map Val.int) (ns.map V.int)
  | [] => .nil
  | i :: ns => .cons (.int i) (rep_ints ns)
theorem sorted_ok : CalOK X (.builtin "sorted") sortedV := by
  refine ⟨_, cr_sortedI.or cr_sortPairs, fun xs vs as H M d M' Q hm r e k => ?_⟩
  unfold sortedV at e
  split at e
  · obtain ⟨v, rfl, q1⟩ := reps1 r
    split at e
    · rename_i ws hl
      obtain ⟨a, us, rfl, hs, t⟩ := read_lst hm q1 hl
      split at e
      · rename_i ns hn
        cases e
        have ev := ints_rep t hn
        subst ev
        refine .inl ⟨a, ns, rfl, hs, fun ns' p hp hw np => ?_⟩
        have en : ns' = sortB leI ns := srt_uniq leI_anti (hp.trans (sortB_perm leI ns).symm) (hw.imp fun h => decide_eq_true h) (sortB_srt leI_tot leI_tr ns)
        subst en
        obtain ⟨n2, m2, r2⟩ := new_lst hm np (rep_ints (X := X) (as := as) (H := H) (sortB leI ns))
        exact k _ _ _ n2 m2 r2
      · split at e
        · rename_i ps hp
          cases e
          refine .inr ⟨a, us, ps, rfl, hs, pairs_rep t hp, fun ys p hy np => ?_⟩
          obtain ⟨n2, m2, r2⟩ := new_lst hm np (rep_pairs (X := X) (as := as) hy)
          exact k _ _ _ n2 m2 r2
        · cases e
    · cases e
  · cases e
/-- a built-in's name -/
def biName : Bi → Str
  | .abs => "abs"
  | .len => "len"
  | .max => "max"
  | .min => "min"
  | .int => "int"
  | .list => "list"
  | .tuple => "tuple"
  | .sorted => "sorted"
theorem e_bi (hc : X.calm = true) {b : Bi} {e : Expr} {es : List Expr} {p pos : Pos} {g : En → Mem → Rs (List Val)} (hg : Gl X (biName b)) (hm : X.mg (biName b) = none) (ha : PA X (e :: es) (tA X.K X.mg g)) (hs : (e :: es).all (fun e => !isStar e) = true) :
    PE X (.Call (.Name (biName b) p) (e :: es) [] pos) (tE X.K X.mg fun ρ m => (g ρ m).bind fun vs m1 => biV b vs m1) := by
  have h1 : isStar e = false := by
    rw [List.all_cons, Bool.and_eq_true] at hs
    have := hs.1
    cases q : isStar e
    · rfl
    · rw [q] at this; cases this
  have h2 : es.all (fun e => !isStar e) = true := by
    rw [List.all_cons, Bool.and_eq_true] at hs
    exact hs.2
  have go : ∀ {r : List V → Hp → VK → Prop}, (∀ xs vs as H M d M' (Q : VK), MRel X.K X.mg as H M → Reps X.K X.mg as H xs vs → biV b xs M = .ok d M' → Post X.K X.mg as H M' d Q → r vs H Q) → ∀ σ H Q, tE X.K X.mg (fun ρ m => (g ρ m).bind fun vs m1 => biV b vs m1) σ H Q → tCB r (tA X.K X.mg g) σ H Q := by
    rintro r hr σ H Q ⟨ρ, M, as, d, M', he, hm, e, k⟩
    obtain ⟨x, M1, e1, e⟩ := Rs.bind_eq_ok e
    exact ⟨ρ, M, as, x, M1, he, hm, e1, fun vs H1 as1 n1 m1 r1 => hr x vs as1 H1 M1 d M' Q m1 r1 e fun v' H' as' n2 m2 r2 => k v' H' as' (n1.trans n2) m2 r2⟩
  cases b with
  | abs =>
    obtain ⟨r, h, hr⟩ := abs_ok (X := X)
    exact PE.imp (pe_callB h hg hm (by decide +kernel) ha (by decide) (by decide) (starEach_cons h1) (noStar h2)) (go hr)
  | len =>
    obtain ⟨r, h, hr⟩ := len_ok (X := X)
    exact PE.imp (pe_callB h hg hm (by decide +kernel) ha (by decide) (by decide) (starEach_cons h1) (noStar h2)) (go hr)
  | max =>
    obtain ⟨r, h, hr⟩ := max_ok hc
    exact PE.imp (pe_callB h hg hm (by decide +kernel) ha (by decide) (by decide) (starEach_cons h1) (noStar h2)) (go hr)
  | min =>
    obtain ⟨r, h, hr⟩ := min_ok hc
    exact PE.imp (pe_callB h hg hm (by decide +kernel) ha (by decide) (by decide) (starEach_cons h1) (noStar h2)) (go hr)
  | int =>
    obtain ⟨r, h, hr⟩ := int_ok (X := X)
    exact PE.imp (pe_callTy h hg hm (by decide +kernel) ha (by decide) (by decide) (starEach_cons h1) (noStar h2)) (go hr)
  | list =>
    obtain ⟨r, h, hr⟩ := list_ok (X := X)
    exact PE.imp (pe_callTy h hg hm (by decide +kernel) ha (by decide) (by decide) (starEach_cons h1) (noStar h2)) (go hr)
  | tuple =>
    obtain ⟨r, h, hr⟩ := tuple_ok (X := X)
    exact PE.imp (pe_callTy h hg hm (by decide +kernel) ha (by decide) (by decide) (starEach_cons h1) (noStar h2)) (go hr)
  | sorted =>
    obtain ⟨r, h, hr⟩ := sorted_ok (X := X)
    exact PE.imp (pe_callB h hg hm (by decide +kernel) ha (by decide) (by decide) (starEach_cons h1) (noStar h2)) (go hr)

/-! ### isinstance -/
def tyNames : List String := ["int", "bool", "str", "tuple", "list", "dict"]
theorem kit_all : ∀ a ∈ ["NoneType", "bool", "int", "str", "tuple", "list", "dict"], ∀ b ∈ tyNames, kitB a b = some (isSub a b) := by decide +kernel
theorem tyx_of {as : List Addr} {H : Hp} {M : Mem} {d : Val} {v : V} {t : String} (hm : MRel X.K X.mg as H M) (r : Rep X.K X.mg as H d v) (h : tyOf M d = some t) : TyX X.K H v (.type t) ∧ t ∈ ["NoneType", "bool", "int", "str", "tuple", "list", "dict"] := by
  cases r with
  | non => cases h; exact ⟨.base .non, by simp⟩
  | bl b => cases h; exact ⟨.base (.bl b), by simp⟩
  | int b => cases h; exact ⟨.base (.int b), by simp⟩
  | str b => cases h; exact ⟨.base (.str b), by simp⟩
  | tup hs t =>
    cases h
    refine ⟨?_, by simp⟩
    rcases hs with (hs | ⟨o, hs⟩) | ⟨o, its, n, h1, h2, _⟩
    · exact .base (.tup hs)
    · exact .fTuple hs
    · exact .kTuple h1 h2
  | @ref l a e =>
    dsimp only [tyOf] at h
    cases q : M[l]? with
    | none => rw [q] at h; cases h
    | some o =>
      rw [q] at h
      cases o with
      | lst ds =>
        cases h
        obtain ⟨vs, h1, _⟩ := hm.ob l a _ e q
        exact ⟨.base (.lst h1), by simp⟩
      | dct kvs => exact (hm.ob l a _ e q).elim
      | ins c fs => cases h
  | rl hs t =>
    cases h
    refine ⟨?_, by simp⟩
    rcases hs with ⟨o, hs⟩ | ⟨o, its, n, h1, h2, _⟩
    · exact .base (.frz hs)
    · exact .kList h1 h2
  | _ => cases h
theorem isi_one {as : List Addr} {H : Hp} {M : Mem} {d : Val} {v : V} {t : String} {k : Bool} (hm : MRel X.K X.mg as H M) (r : Rep X.K X.mg as H d v) (ht : t ∈ tyNames) (h : isiV M d [t] = some k) :
    ∃ u, TyX X.K H v u ∧ PySem.W.kitOne X.K u (.type t) = some k := by
  unfold isiV at h
  cases q : tyOf M d with
  | none => rw [q] at h; cases h
  | some s =>
    rw [q] at h
    obtain ⟨h1, h2⟩ := tyx_of hm r q
    refine ⟨_, h1, kit_ty ?_⟩
    rw [kit_all s h2 t ht]
    have h : some ([t].any (isSub s)) = some k := h
    rw [← h]
    simp
theorem isi_many {as : List Addr} {H : Hp} {M : Mem} {d : Val} {v : V} {ts : List String} {k : Bool} (hm : MRel X.K X.mg as H M) (r : Rep X.K X.mg as H d v) (ht : ∀ t ∈ ts, t ∈ tyNames) (h : isiV M d ts = some k) :
    ∃ u, TyX X.K H v u ∧ PySem.W.kitAny X.K u (ts.map Value.type) = some k := by
  unfold isiV at h
  cases q : tyOf M d with
  | none => rw [q] at h; cases h
  | some s =>
    rw [q] at h
    obtain ⟨h1, h2⟩ := tyx_of hm r q
    refine ⟨_, h1, ?_⟩
    have h' : ts.any (isSub s) = k := Option.some.inj h
    rw [← h']
    clear h' h
    induction ts with
    | nil => rfl
    | cons t ts ih =>
      refine kitAny_cons (b := isSub s t) (kit_ty (kit_all s h2 t (ht t List.mem_cons_self))) (fun hb => ?_) fun hb => ?_
      · rw [ih fun u hu => ht u (List.mem_cons_of_mem _ hu), List.any_cons, hb, Bool.false_or]
      · rw [List.any_cons, hb, Bool.true_or]
/-- a type's name as a value -/
def TyName (X : Cx) (e : Expr) (t : String) : Prop := ∃ p, e = .Name (Str.ofString t) p ∧ Gl X (Str.ofString t) ∧ X.mg (Str.ofString t) = none ∧ t ∈ tyNames
theorem boot_ty : ∀ t ∈ tyNames, bootBuiltins (Str.ofString t) = some (.type t) ∧ (Str.ofString t ≠ ("__name__" : Str)) ∧ (Str.ofString t == ("__debug__" : Str)) = false := by decide +kernel
theorem pe_ty {e : Expr} {t : String} (h : TyName X e t) : PE X e (tC (.ty t)) := by
  obtain ⟨p, rfl, hg, hm, ht⟩ := h
  obtain ⟨b1, b2, b3⟩ := boot_ty t ht
  exact pe_bltn hg hm b1 rfl b2 b3
def isiE (ts : List String) (fa : En → Mem → Rs Val) : En → Mem → Rs Val := fun ρ m => (fa ρ m).bind fun x m1 => ofB (isiV m1 x ts) m1
theorem isi_boot : bootBuiltins "isinstance" = some (.builtin "isinstance") := by decide +kernel
theorem e_isi1 {a c : Expr} {t : String} {p pos : Pos} {fa : En → Mem → Rs Val} (hg : Gl X "isinstance") (hm : X.mg "isinstance" = none) (ha : PE X a (tE X.K X.mg fa)) (hs : isStar a = false) (hc : TyName X c t) :
    PE X (.Call (.Name "isinstance" p) [a, c] [] pos) (tE X.K X.mg (isiE [t] fa)) := by
  have hc' := hc
  obtain ⟨pc, rfl, _, _, ht⟩ := hc'
  refine PE.imp (pe_callB call_isi hg hm isi_boot (pa_cons ha (pa_cons (pe_ty hc) pa_nil) (starEach_cons hs)) (by decide) (by decide) (starEach_cons hs) rfl) fun σ H Q ⟨ρ, M, as, d, M', he, hm, e, k⟩ => ?_
  obtain ⟨x, M1, e1, e⟩ := Rs.bind_eq_ok e
  obtain ⟨b, h, rfl, rfl⟩ := ofB_ok e
  refine ⟨ρ, M, as, x, M1, he, hm, e1, fun v H1 as1 n1 m1 r1 => ?_⟩
  obtain ⟨u, h1, h2⟩ := isi_one m1 r1 ht h
  exact ⟨v, .ty t, u, .type t, b, rfl, .ty t, h1, h2, k _ _ _ n1 m1 (.bl _)⟩
/-- a tuple of type names -/
inductive TyNames (X : Cx) : List Expr → List String → Prop
  | nil : TyNames X [] []
  | cons {e : Expr} {es : List Expr} {t : String} {ts : List String} : TyName X e t → TyNames X es ts → TyNames X (e :: es) (t :: ts)
theorem TyNames.pa : ∀ {es : List Expr} {ts : List String}, TyNames X es ts → PA X es (fun _ H Q => Q (ts.map V.ty) H)
  | _, _, .nil => PA.imp pa_nil fun _ _ _ h => h
  | _, _, .cons h t => by
    obtain ⟨p, rfl, _⟩ := id h
    exact PA.imp (pa_cons (pe_ty h) (TyNames.pa t)) fun _ _ _ h => h
theorem TyNames.mem : ∀ {es : List Expr} {ts : List String}, TyNames X es ts → ∀ t ∈ ts, t ∈ tyNames
  | _, _, .nil, _, h => by cases h
  | _, _, .cons h t, u, hu => by
    rcases List.mem_cons.mp hu with e | e
    · subst e; obtain ⟨_, _, _, _, ht⟩ := h; exact ht
    · exact TyNames.mem t u e
theorem clsV_all : ∀ ts : List String, Paired ClsV (ts.map V.ty) (ts.map Value.type)
  | [] => .nil
  | t :: ts => .cons (.ty t) (clsV_all ts)
theorem e_isiT {a : Expr} {cs : List Expr} {ts : List String} {kk : Nat} {p pos tp : Pos} {fa : En → Mem → Rs Val} (hg : Gl X "isinstance") (hm : X.mg "isinstance" = none) (ha : PE X a (tE X.K X.mg fa)) (hs : isStar a = false) (hc : TyNames X cs ts) (hz : ts.length ≤ 100) :
    PE X (.Call (.Name "isinstance" p) [a, .Tuple cs kk tp] [] pos) (tE X.K X.mg (isiE ts fa)) := by
  refine PE.imp (pe_callB call_isiT hg hm isi_boot (pa_cons ha (pa_cons (pe_tup hc.pa) pa_nil) (starEach_cons hs)) (by decide) (by decide) (starEach_cons hs) rfl) fun σ H Q ⟨ρ, M, as, d, M', he, hm, e, k⟩ => ?_
  obtain ⟨x, M1, e1, e⟩ := Rs.bind_eq_ok e
  obtain ⟨b, h, rfl, rfl⟩ := ofB_ok e
  refine ⟨ρ, M, as, x, M1, he, hm, e1, fun v H1 as1 n1 m1 r1 => ⟨by rw [List.length_map, sizeLine_eq]; omega, fun tp htp => ?_⟩⟩
  obtain ⟨n2, m2, _⟩ := new_tup (ds := ts.map Val.ty) m1 htp (vs := ts.map V.ty) (by
    have go : ∀ l : List String, Reps X.K X.mg as1 H1 (l.map Val.ty) (l.map V.ty) := fun l => by
      induction l with
      | nil => exact .nil
      | cons t l ih => exact .cons (.ty t) ih
    exact go ts)
  obtain ⟨u, h1, h2⟩ := isi_many m2 (r1.mono m1 n2) hc.mem h
  exact ⟨v, tp, ts.map V.ty, u, ts.map Value.type, b, rfl, upd_same, clsV_all ts, h1, h2, k _ _ _ (n1.trans n2) m2 (.bl _)⟩

/-! ### defs -/
def spF (K : PySem.W.Frag) (mg : Str → Option Value) (n : Nat) (g : List Val → Mem → Rs Val) : Sp := fun vs H Q _ => vs.length = n ∧ ∃ ds M as d M', Reps K mg as H ds vs ∧ MRel K mg as H M ∧ g ds M = .ok d M' ∧ Post K mg as H M' d Q
/-- the def named f does what g says -/
structure DefOK (X : Cx) (f : Str) (n : Nat) (g : List Val → Mem → Rs Val) : Prop where
  ex : ∃ (k : Nat) (a : Addr) (fd : FuncData) (ps : List Str), X.mg f = some (.ref a) ∧ PySem.W.keepIn X.K (.ref a) = true ∧ FnOk X.prog X.w X.K X.mg X.base CX0 k a fd ps (spF X.K X.mg n g) ∧ Binds X.K fd ps [] ∧ Room k X.A
  len : ∀ ds M d M', g ds M = .ok d M' → ds.length = n
theorem e_call {f : Str} {n : Nat} {e : Expr} {es : List Expr} {p pos : Pos} {h : List Val → Mem → Rs Val} {g : En → Mem → Rs (List Val)} (hd : DefOK X f n h) (hg : Gl X f) (hdb : (f == ("__debug__" : Str)) = false) (ha : PA X (e :: es) (tA X.K X.mg g)) (hs : (e :: es).all (fun e => !isStar e) = true) :
    PE X (.Call (.Name f p) (e :: es) [] pos) (tE X.K X.mg fun ρ m => (g ρ m).bind fun vs m1 => h vs m1) := by
  have h1 : isStar e = false := by
    rw [List.all_cons, Bool.and_eq_true] at hs
    have := hs.1
    cases q : isStar e
    · rfl
    · rw [q] at this; cases this
  have h2 : es.all (fun e => !isStar e) = true := by
    rw [List.all_cons, Bool.and_eq_true] at hs
    exact hs.2
  obtain ⟨⟨k, a, fd, ps, hmg, hk, F, hb, hr⟩, hl⟩ := hd
  refine PE.imp (pe_call F hr hg hmg hk hb .nil pass0 ha hdb (starEach_cons h1) (noStar h2)) fun σ H Q ⟨ρ, M, as, d, M', he, hm, e, k⟩ => ?_
  obtain ⟨x, M1, e1, e⟩ := Rs.bind_eq_ok e
  refine ⟨ρ, M, as, x, M1, he, hm, e1, fun vs H1 as1 n1 m1 r1 => ?_⟩
  show spF X.K X.mg n h (vs ++ []) H1 Q E0
  rw [List.append_nil]
  exact ⟨by rw [← r1.length]; exact hl _ _ _ _ e, x, M1, as1, d, M', r1, m1, e, fun v' H' as' n2 m2 r2 => k v' H' as' (n1.trans n2) m2 r2⟩
theorem e_call0 {f : Str} {n : Nat} {p pos : Pos} {h : List Val → Mem → Rs Val} (hd : DefOK X f n h) (hg : Gl X f) (hdb : (f == ("__debug__" : Str)) = false) :
    PE X (.Call (.Name f p) [] [] pos) (tE X.K X.mg fun ρ m => h [] m) := by
  obtain ⟨⟨k, a, fd, ps, hmg, hk, F, hb, hr⟩, hl⟩ := hd
  refine PE.imp (pe_call0 F hr hg hmg hk hb .nil pass0 hdb) fun σ H Q ⟨ρ, M, as, d, M', he, hm, e, k⟩ => ?_
  exact ⟨hl _ _ _ _ e, [], M, as, d, M', .nil, hm, e, k⟩
end
end Pv
end SPvE

section SPvF
set_option Elab.async false
set_option linter.all false
set_option maxRecDepth 100000
set_option maxHeartbeats 2000000
/-! Pv: targets, loops, comprehensions, statements. -/
namespace Pv
open PySem PySem.Spec PyProof.Rows L2
def setA : List Nat → List V → L2.St → L2.St
  | i :: is, v :: vs, σ => setA is vs (σ.set i (some v))
  | _, _, σ => σ
section
variable {X : Cx}
theorem PG.imp {e : Expr} {t t' : TG} (h : PG X e t) (k : ∀ v σ H Q, t' v σ H Q → t v σ H Q) : PG X e t' := ⟨fun pins s σ H v u Q I r q => h.run pins s σ H v u Q I r (k v σ H Q q)⟩
theorem PGs.imp {e : List Expr} {t t' : TGs} (h : PGs X e t) (k : ∀ v σ H Q, t' v σ H Q → t v σ H Q) : PGs X e t' := ⟨fun pins s σ H v u Q I r q => h.run pins s σ H v u Q I r (k v σ H Q q)⟩
theorem PI.imp {tg e : Expr} {t t' : TI} (h : PI X tg e t) (k : ∀ σ H R, t' σ H R → t σ H R) : PI X tg e t' := ⟨fun pins s σ H R I q => h.run pins s σ H R I (k σ H R q)⟩
/-! ### targets -/
/-- a local name in the slot i -/
def NmOK (X : Cx) (e : Expr) (i : Nat) : Prop := ∃ x pos, e = .Name x pos ∧ X.N[i]? = some x ∧ Loc X.env.scope x ∧ (X.fn x = true ∨ X.env.scope.names.lookup x = some .local)
inductive NmsOK (X : Cx) : List Expr → List Nat → Prop
  | nil : NmsOK X [] []
  | cons {e : Expr} {es : List Expr} {i : Nat} {is : List Nat} : NmOK X e i → NmsOK X es is → NmsOK X (e :: es) (i :: is)
def gSet (is : List Nat) : TGs := fun vs σ H Q => vs.length = is.length ∧ Q (setA is vs σ) H
theorem NmsOK.pgs (hN : X.N.Nodup) : ∀ {es : List Expr} {is : List Nat}, NmsOK X es is → PGs X es (gSet is)
  | _, _, .nil => PGs.imp pgs_nil fun vs σ H Q ⟨h1, h2⟩ => by
    cases vs with
    | nil => exact ⟨rfl, h2⟩
    | cons _ _ => cases h1
  | _, _, .cons (i := i) (is := is) h t => by
    obtain ⟨x, pos, rfl, hi, hl, hf⟩ := h
    refine PGs.imp (pgs_cons (pg_name hN hi hl hf) (NmsOK.pgs hN t)) fun vs σ H Q ⟨h1, h2⟩ => ?_
    cases vs with
    | nil => cases h1
    | cons v vs => exact ⟨v, vs, rfl, by simpa using h1, h2⟩
theorem NmsOK.len : ∀ {es : List Expr} {is : List Nat}, NmsOK X es is → (assignEach es X.env).length = is.length ∧ (assignEach es X.env).findIdx? (·.1) = none
  | _, _, .nil => ⟨rfl, rfl⟩
  | _, _, .cons h t => by
    obtain ⟨x, pos, rfl, _⟩ := h
    have ih := NmsOK.len t
    refine ⟨?_, ?_⟩
    · show (assignEach _ X.env).length + 1 = _ + 1
      rw [ih.1]
    · show (List.findIdx? (·.1) ((false, _) :: assignEach _ X.env)) = none
      rw [List.findIdx?_cons, ih.2]
      rfl
def gT (K : PySem.W.Frag) : Tg → TG
  | .nm i => gName i
  | .tp is => fun v σ H Q => ∃ a xs, v = .ref a ∧ (SqT K H a xs ∨ SqL K H a xs) ∧ xs.length = is.length ∧ Q (setA is xs σ) H
inductive TgOK (X : Cx) : Expr → Tg → Prop
  | nm {e : Expr} {i : Nat} : NmOK X e i → TgOK X e (.nm i)
  | tp {es : List Expr} {is : List Nat} {k : Nat} {pos : Pos} : NmsOK X es is → TgOK X (.Tuple es k pos) (.tp is)
theorem TgOK.pg (hc : X.calm = true) (hN : X.N.Nodup) {e : Expr} {t : Tg} (h : TgOK X e t) : PG X e (gT X.K t) := by
  cases h with
  | nm h =>
    obtain ⟨x, pos, rfl, hi, hl, hf⟩ := h
    exact pg_name hN hi hl hf
  | tp h =>
    obtain ⟨l1, l2⟩ := h.len
    refine ⟨fun pins s σ H v u Q I r q => ?_⟩
    obtain ⟨a, xs, rfl, hs, hl, q⟩ := q
    rcases hs with hs | hs
    · exact (pg_tup hc (h.pgs hN) l1 l2).run pins s σ H _ u Q I r ⟨a, xs, rfl, hs, hl, hl, q⟩
    · exact (pg_unl hc (h.pgs hN) l1 l2).run pins s σ H _ u Q I r ⟨a, xs, rfl, hs, hl, hl, q⟩
theorem setA_ok {as : List Addr} {H : Hp} : ∀ {is : List Nat} {ds : List Val} {vs : List V} {ρ ρ' : En} {σ : L2.St}, EnR X.K X.mg as H ρ σ → Reps X.K X.mg as H ds vs → setAll is ds ρ = some ρ' → vs.length = is.length ∧ EnR X.K X.mg as H ρ' (setA is vs σ)
  | [], _, _, _, _, _, he, .nil, h => by cases h; exact ⟨rfl, he⟩
  | [], _, _, _, _, _, he, .cons _ _, h => by cases h
  | i :: is, _, _, _, _, _, he, .nil, h => by cases h
  | i :: is, _, _, _, _, _, he, .cons r t, h => by
    obtain ⟨h1, h2⟩ := setA_ok (he.set r i) t h
    exact ⟨by simp [h1], h2⟩
/-- wiping forgets these slots alone -/
theorem wipe_at (σ : L2.St) : ∀ (vs : List Nat) (j : Nat), (wipe σ vs)[j]? = if j ∈ vs then (σ[j]?).map (fun _ => none) else σ[j]?
  | [], j => by simp [wipe]
  | v :: vs, j => by
    unfold wipe
    by_cases e : j = v
    · subst e
      rw [if_pos List.mem_cons_self]
      by_cases hl : j < σ.length
      · rw [List.getElem?_set_self (by rw [wipe_length]; exact hl), List.getElem?_eq_getElem hl]; rfl
      · rw [List.getElem?_eq_none (by simpa [wipe_length] using hl), List.getElem?_eq_none (by simpa using hl)]; rfl
    · rw [List.getElem?_set_ne (Ne.symm e), wipe_at σ vs j]
      by_cases hm : j ∈ vs
      · rw [if_pos hm, if_pos (List.mem_cons_of_mem _ hm)]
      · rw [if_neg hm, if_neg (by simp [e, hm])]
theorem wipeR_at (σ : En) : ∀ (vs : List Nat) (j : Nat), (wipeR σ vs)[j]? = if j ∈ vs then (σ[j]?).map (fun _ => none) else σ[j]?
  | [], j => by simp [wipeR]
  | v :: vs, j => by
    have hlen : ∀ vs : List Nat, (wipeR σ vs).length = σ.length := fun vs => by
      induction vs with
      | nil => rfl
      | cons v vs ih => unfold wipeR; rw [List.length_set, ih]
    unfold wipeR
    by_cases e : j = v
    · subst e
      rw [if_pos List.mem_cons_self]
      by_cases hl : j < σ.length
      · rw [List.getElem?_set_self (by rw [hlen]; exact hl), List.getElem?_eq_getElem hl]; rfl
      · rw [List.getElem?_eq_none (by simpa [hlen] using hl), List.getElem?_eq_none (by simpa using hl)]; rfl
    · rw [List.getElem?_set_ne (Ne.symm e), wipeR_at σ vs j]
      by_cases hm : j ∈ vs
      · rw [if_pos hm, if_pos (List.mem_cons_of_mem _ hm)]
      · rw [if_neg hm, if_neg (by simp [e, hm])]
theorem wipeR_length (σ : En) : ∀ vs : List Nat, (wipeR σ vs).length = σ.length
  | [] => rfl
  | v :: vs => by unfold wipeR; rw [List.length_set, wipeR_length σ vs]
theorem EnR.wipe {as : List Addr} {H : Hp} {ρ : En} {σ : L2.St} (he : EnR X.K X.mg as H ρ σ) (vs : List Nat) : EnR X.K X.mg as H (wipeR ρ vs) (L2.wipe σ vs) := by
  refine ⟨by rw [wipe_length, wipeR_length, he.len], fun i d h => ?_⟩
  rw [wipeR_at] at h
  rw [wipe_at]
  by_cases hm : i ∈ vs
  · rw [if_pos hm] at h
    cases q : ρ[i]? with
    | none => rw [q] at h; cases h
    | some o => rw [q] at h; cases h
  · rw [if_neg hm] at h ⊢
    exact he.at_ i d h
theorem wipe_set (σ : L2.St) (vs : List Nat) (i : Nat) (x : Option V) (h : i ∈ vs) : wipe (σ.set i x) vs = wipe σ vs := by
  apply List.ext_getElem?
  intro j
  rw [wipe_at, wipe_at]
  by_cases hj : j ∈ vs
  · rw [if_pos hj, if_pos hj]
    by_cases e : j = i
    · subst e
      by_cases hl : j < σ.length
      · rw [List.getElem?_set_self hl, List.getElem?_eq_getElem hl]; rfl
      · rw [List.getElem?_eq_none (by simpa using hl), List.getElem?_eq_none (by simpa using hl)]
    · rw [List.getElem?_set_ne (Ne.symm e)]
  · rw [if_neg hj, if_neg hj, List.getElem?_set_ne (fun e => hj (by rw [← e]; exact h))]
theorem wipe_setA (vs : List Nat) : ∀ (is : List Nat) (ws : List V) (σ : L2.St), (∀ i ∈ is, i ∈ vs) → wipe (setA is ws σ) vs = wipe σ vs
  | [], _, _, _ => rfl
  | _ :: _, [], _, _ => rfl
  | i :: is, w :: ws, σ, h => by
    show wipe (setA is ws (σ.set i (some w))) vs = _
    rw [wipe_setA vs is ws _ fun j hj => h j (List.mem_cons_of_mem _ hj), wipe_set _ _ _ _ (h i List.mem_cons_self)]
theorem wipe_wipe (σ : L2.St) (vs : List Nat) : wipe (wipe σ vs) vs = wipe σ vs := by
  apply List.ext_getElem?
  intro j
  rw [wipe_at, wipe_at]
  by_cases hj : j ∈ vs
  · rw [if_pos hj, if_pos hj]
    cases σ[j]? <;> rfl
  · rw [if_neg hj, if_neg hj]
theorem gT_ok {as : List Addr} {H : Hp} {M : Mem} {t : Tg} {d : Val} {v : V} {ρ ρ' : En} {σ : L2.St} {Q : L2.St → Hp → Prop} (he : EnR X.K X.mg as H ρ σ) (hm : MRel X.K X.mg as H M) (r : Rep X.K X.mg as H d v) (hb : bindT t d ρ M = some ρ')
    (k : ∀ σ', EnR X.K X.mg as H ρ' σ' → wipe σ' t.slots = wipe σ t.slots → Q σ' H) : gT X.K t v σ H Q := by
  unfold bindT at hb
  split at hb
  · cases hb
    exact k _ (he.set r _) (wipe_set _ _ _ _ (by simp [Tg.slots]))
  · cases r with
    | tup hs t =>
      obtain ⟨h1, h2⟩ := setA_ok he t hb
      exact ⟨_, _, rfl, .inl hs, h1, k _ h2 (wipe_setA _ _ _ _ fun _ h => h)⟩
  · rename_i is l
    cases q : lsOf M (.ref l) with
    | none => rw [q] at hb; cases hb
    | some ds =>
      rw [q] at hb
      obtain ⟨a, vs, rfl, hs, t⟩ := read_lst hm r q
      obtain ⟨h1, h2⟩ := setA_ok he t hb
      exact ⟨_, _, rfl, .inr hs, h1, k _ h2 (wipe_setA _ _ _ _ fun _ h => h)⟩
  · cases hb

/-! ### what is walked -/
/-- the iterator J goes as the source s says, from (as1, H1) on -/
def JR (X : Cx) (J : It) (s : Sr) (as1 : List Addr) (H1 : Hp) : Prop := ∀ (i : Nat) (as2 : List Addr) (H2 : Hp) (M2 : Mem), Nx as1 H1 as2 H2 → MRel X.K X.mg as2 H2 M2 →
  (s.at M2 i = some none → J.stop i H2) ∧ ∀ d, s.at M2 i = some (some d) → J.go i H2 ∧ ∀ x H', J.yld i H2 x H' → Nx as2 H2 as2 H' ∧ MRel X.K X.mg as2 H' M2 ∧ Rep X.K X.mg as2 H' d x
def tI (X : Cx) (k : Ik) (g : En → Mem → Rs (List Val)) : TI := fun σ H R => ∃ ρ M as ds M' s n, EnR X.K X.mg as H ρ σ ∧ MRel X.K X.mg as H M ∧ g ρ M = .ok ds M' ∧ srV k ds M' = some (s, n) ∧
  ∀ J H' as', Nx as H as' H' → MRel X.K X.mg as' H' M' → JR X J s as' H' → R J H'
theorem jr_tup {a : Addr} {ds : List Val} {vs : List V} {as : List Addr} {H : Hp} {M : Mem} (hm : MRel X.K X.mg as H M) (hs : SqT X.K H a vs) (t : Reps X.K X.mg as H ds vs) : JR X (Itt X.K a) (.vals ds) as H := fun i as2 H2 M2 n m2 => by
  have hs2 := hm.tup n hs
  have t2 := t.mono hm n
  refine ⟨fun h => ⟨vs, hs2, ?_⟩, fun d h => ?_⟩
  · have h : ds[i]? = none := Option.some.inj h
    rw [List.getElem?_eq_none_iff, t.length] at h
    exact h
  · have h : ds[i]? = some d := Option.some.inj h
    obtain ⟨v, h1, h2⟩ := t2.get h
    refine ⟨⟨vs, v, hs2, h1⟩, fun x H' hy => ?_⟩
    obtain ⟨rfl, hy⟩ := hy
    have := hy vs hs2
    rw [h1] at this
    cases this
    exact ⟨.refl, m2, h2⟩
theorem jr_rl {a : Addr} {ds : List Val} {vs : List V} {as : List Addr} {H : Hp} {M : Mem} (hm : MRel X.K X.mg as H M) (hs : RoL X.K H a vs) (t : Reps X.K X.mg as H ds vs) : JR X (Itl X.K a) (.vals ds) as H := fun i as2 H2 M2 n m2 => by
  have hs2 := (hm.ro n hs).sq
  have t2 := t.mono hm n
  refine ⟨fun h => ⟨vs, hs2, ?_⟩, fun d h => ?_⟩
  · have h : ds[i]? = none := Option.some.inj h
    rw [List.getElem?_eq_none_iff, t.length] at h
    exact h
  · have h : ds[i]? = some d := Option.some.inj h
    obtain ⟨v, h1, h2⟩ := t2.get h
    refine ⟨⟨vs, v, hs2, h1⟩, fun x H' hy => ?_⟩
    obtain ⟨rfl, hy⟩ := hy
    have := hy vs hs2
    rw [h1] at this
    cases this
    exact ⟨.refl, m2, h2⟩
theorem jr_lst {a : Addr} {l : Nat} {as : List Addr} {H : Hp} (ha : as[l]? = some a) : JR X (Itl X.K a) (.lst l) as H := fun i as2 H2 M2 n m2 => by
  have ha2 := n.at_ ha
  have rd : ∀ {ds : List Val}, lsOf M2 (.ref l) = some ds → ∃ vs, SqL X.K H2 a vs ∧ Reps X.K X.mg as2 H2 ds vs := fun {ds} q => by
    obtain ⟨a', vs, e, h1, h2⟩ := read_lst m2 (.ref ha2) q
    cases e
    exact ⟨vs, h1, h2⟩
  refine ⟨fun h => ?_, fun d h => ?_⟩
  · have h : (lsOf M2 (.ref l)).map (fun vs => vs[i]?) = some none := h
    cases q : lsOf M2 (.ref l) with
    | none => rw [q] at h; cases h
    | some ds =>
      rw [q] at h
      have h : ds[i]? = none := Option.some.inj h
      obtain ⟨vs, h1, h2⟩ := rd q
      rw [List.getElem?_eq_none_iff, h2.length] at h
      exact ⟨vs, h1, h⟩
  · have h : (lsOf M2 (.ref l)).map (fun vs => vs[i]?) = some (some d) := h
    cases q : lsOf M2 (.ref l) with
    | none => rw [q] at h; cases h
    | some ds =>
      rw [q] at h
      have h : ds[i]? = some d := Option.some.inj h
      obtain ⟨vs, h1, h2⟩ := rd q
      obtain ⟨v, g1, g2⟩ := h2.get h
      refine ⟨⟨vs, v, h1, g1⟩, fun x H' hy => ?_⟩
      obtain ⟨rfl, hy⟩ := hy
      have := hy vs h1
      rw [g1] at this
      cases this
      exact ⟨.refl, m2, g2⟩
theorem range_at (lo : Int) (n i : Nat) : (rangeL lo n)[i]? = if i < n then some (.int (lo + (i : Int))) else none := by
  unfold rangeL
  rw [List.getElem?_map]
  by_cases h : i < n
  · rw [if_pos h, List.getElem?_range h]; rfl
  · rw [if_neg h, List.getElem?_eq_none (by simpa using h)]; rfl
theorem jr_rng {lo : Int} {n : Nat} {as : List Addr} {H : Hp} : JR X (Itr lo n) (.vals (rangeL lo n)) as H := fun i as2 H2 M2 nx m2 => by
  refine ⟨fun h => ?_, fun d h => ?_⟩
  · have h : (rangeL lo n)[i]? = none := Option.some.inj h
    rw [range_at] at h
    split at h
    · cases h
    · rename_i hn
      exact Nat.le_of_not_lt hn
  · have h : (rangeL lo n)[i]? = some d := Option.some.inj h
    rw [range_at] at h
    split at h
    · rename_i hn
      cases h
      refine ⟨hn, fun x H' hy => ?_⟩
      obtain ⟨rfl, rfl⟩ := hy
      exact ⟨.refl, m2, .int _⟩
    · cases h
theorem i_val {tg ee : Expr} {f : En → Mem → Rs Val} (h : PE X ee (tE X.K X.mg f)) : PI X tg ee (tI X .val fun ρ m => (f ρ m).bind fun v m1 => .ok [v] m1) := by
  refine ⟨fun pins s σ H R I q => ?_⟩
  obtain ⟨ρ, M, as, ds, M', sr, n, he, hm, e, hsr, k⟩ := q
  obtain ⟨x, M1, e1, e⟩ := Rs.bind_eq_ok e
  cases e
  have lst : (∃ a' : Unit, ∀ v H1 as1, Nx as H as1 H1 → MRel X.K X.mg as1 H1 M' → Rep X.K X.mg as1 H1 x v → ∃ a, v = .ref a ∧ (∃ xs, SqL X.K H1 a xs) ∧ R (Itl X.K a) H1) → wpAny (model X.prog X.w) X.A (eval ee X.env) (fun v s1 => wpAny (model X.prog X.w) X.A (pyIter v) (PIE X pins σ tg R) X.xe s1) X.xe s := by
    rintro ⟨_, hq⟩
    exact (pi_list h).run pins s σ H R I ⟨ρ, M, as, x, M', he, hm, e1, hq⟩
  have hsr : srVal [x] M' = some (sr, n) := hsr
  cases x with
  | tup vs =>
    cases hsr
    refine (pi_tup h).run pins s σ H R I ⟨ρ, M, as, _, M', he, hm, e1, fun v H1 as1 n1 m1 r1 => ?_⟩
    cases r1 with
    | tup hs t => exact ⟨_, rfl, ⟨_, hs⟩, k _ _ _ n1 m1 (jr_tup m1 hs t)⟩
  | rl vs =>
    cases hsr
    refine lst ⟨(), fun v H1 as1 n1 m1 r1 => ?_⟩
    cases r1 with
    | rl hs t => exact ⟨_, rfl, ⟨_, hs.sq⟩, k _ _ _ n1 m1 (jr_rl m1 hs t)⟩
  | ref l =>
    dsimp only [srVal] at hsr
    cases q : lsOf M' (.ref l) with
    | none => rw [q] at hsr; cases hsr
    | some ds =>
      rw [q] at hsr
      cases hsr
      refine lst ⟨(), fun v H1 as1 n1 m1 r1 => ?_⟩
      cases r1 with
      | ref ha =>
        obtain ⟨a', vs, e', hs, t⟩ := read_lst m1 (.ref ha) q
        cases e'
        exact ⟨_, rfl, ⟨_, hs⟩, k _ _ _ n1 m1 (jr_lst ha)⟩
  | _ => cases hsr
theorem i_range1 {tg a : Expr} {p pos : Pos} {g : En → Mem → Rs (List Val)} (hg : Gl X "range") (hm : X.mg "range" = none) (ha : PA X [a] (tA X.K X.mg g)) (hs : isStar a = false) : PI X tg (.Call (.Name "range" p) [a] [] pos) (tI X .rng1 g) := by
  refine PI.imp (pi_range1 hg hm ha (starEach_cons hs)) fun σ H R q => ?_
  obtain ⟨ρ, M, as, ds, M', sr, n, he, hm, e, hsr, k⟩ := q
  refine ⟨ρ, M, as, ds, M', he, hm, e, fun vs H1 as1 n1 m1 r1 => ?_⟩
  have hsr : srR1 ds = some (sr, n) := hsr
  unfold srR1 at hsr
  split at hsr
  · split at hsr
    · rename_i hz
      rw [Bool.and_eq_true, decide_eq_true_eq, decide_eq_true_eq] at hz
      cases hsr
      obtain ⟨v, rfl, q1⟩ := reps1 r1
      cases q1
      exact ⟨_, rfl, hz.1, hz.2, k _ _ _ n1 m1 jr_rng⟩
    · cases hsr
  · cases hsr
theorem i_range2 {tg a b : Expr} {p pos : Pos} {g : En → Mem → Rs (List Val)} (hg : Gl X "range") (hm : X.mg "range" = none) (ha : PA X [a, b] (tA X.K X.mg g)) (hs : isStar a = false) (hs2 : isStar b = false) : PI X tg (.Call (.Name "range" p) [a, b] [] pos) (tI X .rng2 g) := by
  refine PI.imp (pi_range2 hg hm ha (by rw [starEach_cons hs, starEach_cons hs2]; rfl) (by rw [starEach_cons hs2]; rfl)) fun σ H R q => ?_
  obtain ⟨ρ, M, as, ds, M', sr, n, he, hm, e, hsr, k⟩ := q
  refine ⟨ρ, M, as, ds, M', he, hm, e, fun vs H1 as1 n1 m1 r1 => ?_⟩
  have hsr : srR2 ds = some (sr, n) := hsr
  unfold srR2 at hsr
  split at hsr
  · split at hsr
    · rename_i hz
      rw [Bool.and_eq_true, Bool.and_eq_true, Bool.and_eq_true, decide_eq_true_eq, decide_eq_true_eq, decide_eq_true_eq, decide_eq_true_eq] at hz
      cases hsr
      obtain ⟨v, w, rfl, q1, q2⟩ := reps2 r1
      cases q1; cases q2
      exact ⟨_, _, rfl, ⟨hz.1.1.1, hz.1.1.2, hz.1.2, hz.2⟩, k _ _ _ n1 m1 jr_rng⟩
    · cases hsr
  · cases hsr

/-! ### statements -/
theorem ss_nil : PSs X [] (tS X.K X.mg fun ρ m => .ok (.nx, ρ) m) := by
  refine PSs.imp pss_nil fun D σ H ⟨ρ, M, as, r, M', he, hm, e, k⟩ => ?_
  cases e
  exact k σ H as .refl hm he
theorem ss_cons {st : Stmt} {sts : List Stmt} {f g : En → Mem → Rs (Fl × En)} (h : PS X st (tS X.K X.mg f)) (t : PSs X sts (tS X.K X.mg g)) :
    PSs X (st :: sts) (tS X.K X.mg fun ρ m => (f ρ m).bind fun r m1 => (match r.1 with | .nx => g r.2 m1 | .bk => .ok r m1 | .ct => .ok r m1 | .rt _ => .ok r m1)) := by
  refine PSs.imp (pss_cons h t) fun D σ H ⟨ρ, M, as, r, M', he, hm, e, k⟩ => ?_
  obtain ⟨⟨fl, ρ1⟩, M1, e1, e⟩ := Rs.bind_eq_ok e
  refine ⟨ρ, M, as, _, M1, he, hm, e1, fun σ1 H1 as1 n1 m1 r1 => ?_⟩
  cases fl with
  | nx => exact ⟨ρ1, M1, as1, r, M', r1, m1, e, fun σ2 H2 as2 n2 m2 r2 => k σ2 H2 as2 (n1.trans n2) m2 r2⟩
  | bk => cases e; exact k σ1 H1 as1 n1 m1 r1
  | ct => cases e; exact k σ1 H1 as1 n1 m1 r1
  | rt d => cases e; exact k σ1 H1 as1 n1 m1 r1
theorem s_ret {ee : Expr} {pos : Pos} {f : En → Mem → Rs Val} (h : PE X ee (tE X.K X.mg f)) : PS X (.Return (some ee) pos) (tS X.K X.mg fun ρ m => (f ρ m).bind fun v m1 => .ok (.rt v, ρ) m1) := by
  refine PS.imp (ps_ret h) fun D σ H ⟨ρ, M, as, r, M', he, hm, e, k⟩ => ?_
  obtain ⟨x, M1, e1, e⟩ := Rs.bind_eq_ok e
  cases e
  exact ⟨ρ, M, as, x, M', he, hm, e1, fun v H1 as1 n1 m1 r1 => k σ H1 as1 n1 m1 (he.mono hm n1) v r1⟩
theorem s_retN {pos : Pos} : PS X (.Return none pos) (tS X.K X.mg fun ρ m => .ok (.rt .non, ρ) m) := by
  refine PS.imp ps_retN fun D σ H ⟨ρ, M, as, r, M', he, hm, e, k⟩ => ?_
  cases e
  exact k σ H as .refl hm he .non .non
def noComp : Expr → Bool
  | .ListComp _ _ _ _ => false
  | .SetComp _ _ _ _ => false
  | .DictComp _ _ _ _ _ => false
  | _ => true
theorem swaps_no {ee : Expr} {t : Option Expr} {l : Nat} {env : Env} (h : noComp ee = true) : swapsWith ee t l env = pure false := by
  cases ee <;> first | rfl | cases h
theorem s_exp {ee : Expr} {pos : Pos} {f : En → Mem → Rs Val} (h : PE X ee (tE X.K X.mg f)) (hn : noComp ee = true) : PS X (.Expr ee pos) (tS X.K X.mg fun ρ m => (f ρ m).bind fun _ m1 => .ok (.nx, ρ) m1) := by
  refine PS.imp (ps_expr h (swaps_no hn)) fun D σ H ⟨ρ, M, as, r, M', he, hm, e, k⟩ => ?_
  obtain ⟨x, M1, e1, e⟩ := Rs.bind_eq_ok e
  cases e
  exact ⟨ρ, M, as, x, M', he, hm, e1, fun v H1 as1 n1 m1 r1 => k σ H1 as1 n1 m1 (he.mono hm n1)⟩
def asgE (t : Tg) (f : En → Mem → Rs Val) : En → Mem → Rs (Fl × En) := fun ρ m => (f ρ m).bind fun v m1 => (match bindT t v ρ m1 with
    | some ρ1 => .ok (.nx, ρ1) m1
    | none => .bad)
theorem asg_rd {t : Tg} {f : En → Mem → Rs Val} {D : Ends} {σ : L2.St} {H : Hp} (h : tS X.K X.mg (asgE t f) D σ H) : tAsg (tE X.K X.mg f) (gT X.K t) D σ H := by
  obtain ⟨ρ, M, as, r, M', he, hm, e, k⟩ := h
  obtain ⟨x, M1, e1, e⟩ := Rs.bind_eq_ok e
  split at e
  · rename_i ρ1 hb
    cases e
    exact ⟨ρ, M, as, x, M', he, hm, e1, fun v H1 as1 n1 m1 r1 => gT_ok (he.mono hm n1) m1 r1 hb fun σ' e2 _ => k σ' H1 as1 n1 m1 e2⟩
  · cases e
/-- neither a comprehension nor, for several targets, a tuple -/
def plainVal (t : Tg) (e : Expr) : Bool := noComp e && (match t with
  | .nm _ => true
  | .tp _ => (match e with
    | .Tuple _ _ _ => false
    | _ => true))
theorem s_asg (hc : X.calm = true) (hN : X.N.Nodup) {tg ee : Expr} {t : Tg} {pos : Pos} {f : En → Mem → Rs Val} (ht : TgOK X tg t) (h : PE X ee (tE X.K X.mg f)) (hp : plainVal t ee = true) : PS X (.Assign [tg] ee pos) (tS X.K X.mg (asgE t f)) := by
  unfold plainVal at hp
  rw [Bool.and_eq_true] at hp
  refine PS.imp (ps_asg h (ht.pg hc hN) (swaps_no hp.1) ?_ ?_) fun D σ H q => asg_rd q
  · cases ht with
    | nm h =>
      obtain ⟨x, p, rfl, _⟩ := h
      rfl
    | tp h =>
      have h2 := hp.2
      cases ee <;> first | rfl | cases h2
  · cases ht with
    | nm h =>
      obtain ⟨x, p, rfl, _⟩ := h
      rfl
    | tp h => rfl
theorem s_put {o i ee : Expr} {p pos : Pos} {f fo fi : En → Mem → Rs Val} (h : PE X ee (tE X.K X.mg f)) (ho : PE X o (tE X.K X.mg fo)) (hi : PE X i (tE X.K X.mg fi)) (hn : noComp ee = true) (hpi : plainIx i = true) :
    PS X (.Assign [.Subscript o i p] ee pos) (tS X.K X.mg fun ρ m => (f ρ m).bind fun v m1 => (fo ρ m1).bind fun x m2 => (fi ρ m2).bind fun y m3 => (match setV x y v m3 with
    | some m4 => .ok (.nx, ρ) m4
    | none => .bad)) := by
  have ha : ∀ v, assign (.Subscript o i p) X.env v = (do
      let ov ← holding [v] (eval o X.env)
      let iv ← holding [v, ov] (eval i X.env)
      standAt p
      holding [v, ov, iv] (setItem ov iv v)
      release [v, ov, iv] []) := fun v => by
    cases i <;> first | rfl | cases hpi
  refine PS.imp (ps_asg h (pg_sub ho hi set_list ha) (show swapsWith ee (some (.Subscript o i p)) pos.line X.env = pure false from swaps_no hn) (by cases ee <;> rfl) rfl) fun D σ H ⟨ρ, M, as, r, M', he, hm, e, k⟩ => ?_
  obtain ⟨d, M1, e1, e⟩ := Rs.bind_eq_ok e
  obtain ⟨x, M2, e2, e⟩ := Rs.bind_eq_ok e
  obtain ⟨y, M3, e3, e⟩ := Rs.bind_eq_ok e
  refine ⟨ρ, M, as, d, M1, he, hm, e1, fun v H1 as1 n1 m1 r1 => ⟨ρ, M1, as1, x, M2, he.mono hm n1, m1, e2, fun ov H2 as2 n2 m2 r2 => ⟨ρ, M2, as2, y, M3, (he.mono hm n1).mono m1 n2, m2, e3, fun iv H3 as3 n3 m3 r3 => ?_⟩⟩⟩
  have n13 := n1.trans (n2.trans n3)
  split at e
  · rename_i M4 hs
    cases e
    unfold setV at hs
    split at hs
    · rename_i l kk
      split at hs
      · rename_i ds hl
        cases q : ixN ds.length kk with
        | none => rw [q] at hs; cases hs
        | some j =>
          rw [q] at hs
          cases hs
          obtain ⟨a, ws, rfl, i1, h1, t⟩ := own_lst m3 (r2.mono m2 n3) hl
          cases r3
          refine ⟨a, ws, kk, j, rfl, rfl, h1, by rw [← t.length]; exact q, ?_⟩
          obtain ⟨n4, m4⟩ := set_lst m3 i1 hl (t.set ((r1.mono m1 n2).mono m2 n3) j)
          exact k σ _ as3 (n13.trans n4) m4 (he.mono hm (n13.trans n4))
      · cases hs
    · cases hs
  · cases e
theorem s_aug (hN : X.N.Nodup) {tg ee : Expr} {i : Nat} {op : Operator} {pos : Pos} {f : En → Mem → Rs Val} (ht : NmOK X tg i) (h : PE X ee (tE X.K X.mg f)) (ho : op = .Add ∨ op = .Sub) :
    PS X (.AugAssign tg op ee pos) (tS X.K X.mg fun ρ m => (getS ρ i m).bind fun x _ => (f ρ m).bind fun y m1 => (match x, y with
    | .int _, .int _ => (binV op x y m1).bind fun z m2 => .ok (.nx, ρ.set i (some z)) m2
    | _, _ => .bad)) := by
  obtain ⟨x, p, rfl, hi, hl, hf⟩ := ht
  have go : ∀ {g : Int → Int → Int}, (∀ a b m, binV op (.int a) (.int b) m = .ok (.int (g a b)) m) → PIp X op (ipI g) → PS X (.AugAssign (.Name x p) op ee pos) (tS X.K X.mg fun ρ m => (getS ρ i m).bind fun x _ => (f ρ m).bind fun y m1 => (match x, y with
    | .int _, .int _ => (binV op x y m1).bind fun z m2 => .ok (.nx, ρ.set i (some z)) m2
    | _, _ => .bad)) := fun {g} hg hip => by
    refine PS.imp (ps_aug hN hi hl h hip hf) fun D σ H ⟨ρ, M, as, r, M', he, hm, e, k⟩ => ?_
    obtain ⟨d, M1, e1, e⟩ := Rs.bind_eq_ok e
    obtain ⟨y, M2, e2, e⟩ := Rs.bind_eq_ok e
    unfold getS at e1
    split at e1
    · rename_i v0 q
      cases e1
      obtain ⟨w, h1, r0⟩ := he.at_ i _ q
      split at e
      · rw [hg] at e
        cases e
        cases r0
        refine ⟨_, h1, ρ, _, as, _, M', he, hm, e2, fun v H1 as1 n1 m1 r1 => ?_⟩
        cases r1
        exact ⟨_, _, rfl, rfl, k _ H1 as1 n1 m1 ((he.mono hm n1).set (.int _) i)⟩
      · cases e
    · cases e1
  rcases ho with rfl | rfl
  · exact go (fun _ _ _ => rfl) ip_add
  · exact go (fun _ _ _ => rfl) ip_sub
theorem s_ite {c : Expr} {a b : List Stmt} {pos : Pos} {fc : En → Mem → Rs Val} {fa fb : En → Mem → Rs (Fl × En)} (hc : PT X c (tT X.K X.mg fc)) (ha : PSs X a (tS X.K X.mg fa)) (hb : PSs X b (tS X.K X.mg fb)) :
    PS X (.If c a b pos) (tS X.K X.mg fun ρ m => (fc ρ m).bind fun x m1 => (match truth m1 x with
    | some true => fa ρ m1
    | some false => fb ρ m1
    | none => .bad)) := by
  refine PS.imp (ps_if hc ha hb) fun D σ H ⟨ρ, M, as, r, M', he, hm, e, k⟩ => ?_
  obtain ⟨x, M1, e1, e⟩ := Rs.bind_eq_ok e
  split at e
  · rename_i ht
    exact ⟨ρ, M, as, x, M1, true, he, hm, e1, ht, fun H1 as1 n1 m1 => by
      dsimp only
      rw [if_pos rfl]
      exact ⟨ρ, M1, as1, r, M', he.mono hm n1, m1, e, fun σ2 H2 as2 n2 m2 r2 => k σ2 H2 as2 (n1.trans n2) m2 r2⟩⟩
  · rename_i ht
    exact ⟨ρ, M, as, x, M1, false, he, hm, e1, ht, fun H1 as1 n1 m1 => by
      dsimp only
      rw [if_neg Bool.false_ne_true]
      exact ⟨ρ, M1, as1, r, M', he.mono hm n1, m1, e, fun σ2 H2 as2 n2 m2 r2 => k σ2 H2 as2 (n1.trans n2) m2 r2⟩⟩
  · cases e
theorem s_pass {pos : Pos} : PS X (.Pass pos) (tS X.K X.mg fun ρ m => .ok (.nx, ρ) m) := by
  refine PS.imp ps_pass fun D σ H ⟨ρ, M, as, r, M', he, hm, e, k⟩ => ?_
  cases e
  exact k σ H as .refl hm he
theorem s_brk {pos : Pos} : PS X (.Break pos) (tS X.K X.mg fun ρ m => .ok (.bk, ρ) m) := by
  refine PS.imp ps_break fun D σ H ⟨ρ, M, as, r, M', he, hm, e, k⟩ => ?_
  cases e
  exact k σ H as .refl hm he
theorem s_cnt {pos : Pos} : PS X (.Continue pos) (tS X.K X.mg fun ρ m => .ok (.ct, ρ) m) := by
  refine PS.imp ps_continue fun D σ H ⟨ρ, M, as, r, M', he, hm, e, k⟩ => ?_
  cases e
  exact k σ H as .refl hm he
def noSet : Expr → Bool
  | .Set _ _ _ => false
  | _ => true
theorem fold_no {it : Expr} {env : Env} (h : noSet it = true) (x : Value) : foldedSetIterable it env x = pure x := by
  cases it <;> first | rfl | cases h
theorem s_for (hp : PassesOwn (model X.prog X.w) X.A X.env X.xe) (hc : X.calm = true) (hN : X.N.Nodup) {tg it : Expr} {t : Tg} {kk : Ik} {body : List Stmt} {pos : Pos} {g : En → Mem → Rs (List Val)} {fb : En → Mem → Rs (Fl × En)}
    (ht : TgOK X tg t) (hi : PI X tg it (tI X kk g)) (hb : PSs X body (tS X.K X.mg fb)) (hs : noSet it = true) :
    PS X (.For tg it body [] pos) (tS X.K X.mg fun ρ m => (g ρ m).bind fun vs m1 => (match srV kk vs m1 with
    | some (s, n) => forGo s (fun v ρ m => bindT t v ρ m) fb n 0 ρ m1
    | none => .bad)) := by
  refine PS.imp (ps_for hp hc hi (ht.pg hc hN) hb (fold_no hs)) fun D σ H ⟨ρ, M, as, r, M', he, hm, e, k⟩ => ?_
  obtain ⟨ds, M1, e1, e⟩ := Rs.bind_eq_ok e
  split at e
  · rename_i s n hsr
    refine ⟨ρ, M, as, ds, M1, s, n, he, hm, e1, hsr, fun J H1 as1 n1 m1 jr => ?_⟩
    refine ⟨fun i m σ H => ∃ ρ2 M2 as2, Nx as1 H1 as2 H ∧ EnR X.K X.mg as2 H ρ2 σ ∧ MRel X.K X.mg as2 H M2 ∧ forGo s (fun v ρ m => bindT t v ρ m) fb m i ρ2 M2 = .ok r M', ⟨n, ρ, M1, as1, .refl, he.mono hm n1, m1, e⟩, ?_⟩
    rintro i m σ2 H2 ⟨ρ2, M2, as2, n2, he2, m2, e2⟩
    have fin : s.at M2 i = some none → r = (.nx, ρ2) → M' = M2 → J.stop i H2 ∧ D.nx σ2 H2 := fun h1 h2 h3 => by
      subst h2 h3
      exact ⟨(jr i as2 H2 _ n2 m2).1 h1, k σ2 H2 as2 (n1.trans n2) m2 he2⟩
    cases m with
    | zero =>
      unfold forGo at e2
      split at e2
      · rename_i h1
        cases e2
        exact .inl (fin h1 rfl rfl)
      · cases e2
    | succ m =>
      unfold forGo at e2
      split at e2
      · rename_i h1
        cases e2
        exact .inl (fin h1 rfl rfl)
      · rename_i d h1
        split at e2
        · rename_i ρ3 hb3
          obtain ⟨⟨fl, ρ4⟩, M4, e4, e2⟩ := Rs.bind_eq_ok e2
          obtain ⟨go, hy⟩ := (jr i as2 H2 M2 n2 m2).2 d h1
          refine .inr ⟨go, fun σ' H' => ∃ ρ5 M5 as5, Nx as1 H1 as5 H' ∧ EnR X.K X.mg as5 H' ρ5 σ' ∧ MRel X.K X.mg as5 H' M5 ∧ forGo s (fun v ρ m => bindT t v ρ m) fb m (i + 1) ρ5 M5 = .ok r M', fun σ' H' h => ⟨m, Nat.lt_succ_self m, h⟩, fun x H' y => ?_⟩
          obtain ⟨n3, m3, r3⟩ := hy x H' y
          refine gT_ok (he2.mono m2 n3) m3 r3 hb3 fun σ3 he3 _ => ?_
          refine ⟨ρ3, M2, as2, (fl, ρ4), M4, he3, m3, e4, fun σ4 H4 as4 n4 m4 he4 => ?_⟩
          have n14 := n2.trans (n3.trans n4)
          cases fl with
          | nx => exact ⟨ρ4, M4, as4, n14, he4, m4, e2⟩
          | ct => exact ⟨ρ4, M4, as4, n14, he4, m4, e2⟩
          | bk =>
            cases e2
            exact k σ4 H4 as4 (n1.trans n14) m4 he4
          | rt v =>
            cases e2
            exact k σ4 H4 as4 (n1.trans n14) m4 he4
        · cases e2
      · cases e2
  · cases e
theorem s_whl (hp : PassesOwn (model X.prog X.w) X.A X.env X.xe) {c : Expr} {body : List Stmt} {pos : Pos} {fc : En → Mem → Rs Val} {fb : En → Mem → Rs (Fl × En)} (hc : PT X c (tT X.K X.mg fc)) (hb : PSs X body (tS X.K X.mg fb)) (n : Nat) :
    PS X (.While c body [] pos) (tS X.K X.mg fun ρ m => whGo fc fb n ρ m) := by
  refine PS.imp (ps_while hp hc hb) fun D σ H ⟨ρ, M, as, r, M', he, hm, e, k⟩ => ?_
  refine ⟨fun m σ H2 => ∃ ρ2 M2 as2, Nx as H as2 H2 ∧ EnR X.K X.mg as2 H2 ρ2 σ ∧ MRel X.K X.mg as2 H2 M2 ∧ whGo fc fb m ρ2 M2 = .ok r M', ⟨n, ρ, M, as, .refl, he, hm, e⟩, ?_⟩
  rintro m σ2 H2 ⟨ρ2, M2, as2, n2, he2, m2, e2⟩
  cases m with
  | zero => cases e2
  | succ m =>
    unfold whGo at e2
    obtain ⟨x, M3, e3, e2⟩ := Rs.bind_eq_ok e2
    split at e2
    · rename_i ht
      obtain ⟨⟨fl, ρ4⟩, M4, e4, e2⟩ := Rs.bind_eq_ok e2
      refine ⟨ρ2, M2, as2, x, M3, true, he2, m2, e3, ht, fun H3 as3 n3 m3 => ?_⟩
      dsimp only
      rw [if_pos rfl]
      refine ⟨fun σ' H' => ∃ ρ5 M5 as5, Nx as H as5 H' ∧ EnR X.K X.mg as5 H' ρ5 σ' ∧ MRel X.K X.mg as5 H' M5 ∧ whGo fc fb m ρ5 M5 = .ok r M', fun σ' H' h => ⟨m, Nat.lt_succ_self m, h⟩, ?_⟩
      refine ⟨ρ2, M3, as3, (fl, ρ4), M4, he2.mono m2 n3, m3, e4, fun σ4 H4 as4 n4 m4 he4 => ?_⟩
      have n14 := n2.trans (n3.trans n4)
      cases fl with
      | nx => exact ⟨ρ4, M4, as4, n14, he4, m4, e2⟩
      | ct => exact ⟨ρ4, M4, as4, n14, he4, m4, e2⟩
      | bk =>
        cases e2
        exact k σ4 H4 as4 n14 m4 he4
      | rt v =>
        cases e2
        exact k σ4 H4 as4 n14 m4 he4
    · rename_i ht
      refine ⟨ρ2, M2, as2, x, M3, false, he2, m2, e3, ht, fun H3 as3 n3 m3 => ?_⟩
      dsimp only
      rw [if_neg Bool.false_ne_true]
      cases e2
      exact k σ2 H3 as3 (n2.trans n3) m3 (he2.mono m2 n3)
    · cases e2
end
end Pv
end SPvF

section SPvG
set_option Elab.async false
set_option linter.all false
set_option maxRecDepth 100000
set_option maxHeartbeats 2000000
/-! Pv: comprehensions. -/
namespace Pv
open PySem PySem.Spec PyProof.Rows L2
section
variable {X : Cx}
theorem t_ite {c a b : Expr} {pos : Pos} {fc fa fb : En → Mem → Rs Val} (hc : PT X c (tT X.K X.mg fc)) (ha : PT X a (tT X.K X.mg fa)) (hb : PT X b (tT X.K X.mg fb)) :
    PT X (.IfExp c a b pos) (tT X.K X.mg fun ρ m => (fc ρ m).bind fun x m1 => tryB m1 x fun k => if k then fa ρ m1 else fb ρ m1) := by
  refine ⟨fun pins s σ H Q I q => ?_⟩
  obtain ⟨ρ, M, as, d, M', b', he, hm, e, ht, k⟩ := q
  obtain ⟨x, M1, e1, e⟩ := Rs.bind_eq_ok e
  unfold tryB at e
  split at e
  · rename_i c' hc'
    refine isTrue_IfExp (thn (hc.run pins s σ H (fun b H1 => b = c' ∧ ∃ as1, Nx as H as1 H1 ∧ MRel X.K X.mg as1 H1 M1) I ⟨ρ, M, as, x, M1, c', he, hm, e1, hc', fun H1 as1 n1 m1 => ⟨rfl, as1, n1, m1⟩⟩) fun b s1 ⟨H1, I1, eb, as1, n1, m1⟩ => ?_)
    subst eb
    cases b with
    | true => exact ha.run pins s1 σ H1 Q I1 ⟨ρ, M1, as1, d, M', b', he.mono hm n1, m1, e, ht, fun H2 as2 n2 m2 => k H2 as2 (n1.trans n2) m2⟩
    | false => exact hb.run pins s1 σ H1 Q I1 ⟨ρ, M1, as1, d, M', b', he.mono hm n1, m1, e, ht, fun H2 as2 n2 m2 => k H2 as2 (n1.trans n2) m2⟩
  · cases e
/-! ### a list that is not of the store, changed -/
theorem Nx.out {as as' : List Addr} {H H' : Hp} (n : Nx as H as' H') {D : Addr} {o : HO} (h1 : D ∉ as) (h2 : H D = some o) : D ∉ as' ∧ H' D = some o := by
  refine ⟨fun z => ?_, n.fr D o h1 h2⟩
  obtain ⟨ns, e, f⟩ := n.ex
  rw [e] at z
  rcases List.mem_append.mp z with z | z
  · exact h1 z
  · rw [f D z] at h2; cases h2
section
variable {K : PySem.W.Frag} {mg : Str → Option Value} {as : List Addr} {H : Hp} {M : Mem} {D : Addr} {ws : List V}
theorem sq_out {a : Addr} {vs : List V} (hD : H D = some (.lst ws)) (ys : List V) (h : SqT K H a vs) : SqT K (upd H D (.lst ys)) a vs := by
  rcases h with (h | ⟨o, h⟩) | h
  · exact .inl (.inl (by rw [upd_ne (ne_of h hD (by intro z; cases z))]; exact h))
  · exact .inl (.inr ⟨o, by rw [upd_ne (ne_of h hD (by intro z; cases z))]; exact h⟩)
  · exact .inr h
theorem ro_out {a : Addr} {vs : List V} (hD : H D = some (.lst ws)) (ys : List V) (h : RoL K H a vs) : RoL K (upd H D (.lst ys)) a vs := by
  rcases h with ⟨o, h⟩ | h
  · exact .inl ⟨o, by rw [upd_ne (ne_of h hD (by intro z; cases z))]; exact h⟩
  · exact .inr h
mutual
theorem Rep.out (hD : H D = some (.lst ws)) (ys : List V) : ∀ {d : Val} {v : V}, Rep K mg as H d v → Rep K mg as (upd H D (.lst ys)) d v
  | _, _, .non => .non
  | _, _, .bl b => .bl b
  | _, _, .int i => .int i
  | _, _, .str z => .str z
  | _, _, .tup h r => .tup (sq_out hD ys h) (Reps.out hD ys r)
  | _, _, .ref h => .ref h
  | _, _, .fn h => .fn h
  | _, _, .ty n => .ty n
  | _, _, .tab h => .tab h
  | _, _, .rl h r => .rl (ro_out hD ys h) (Reps.out hD ys r)
theorem Reps.out (hD : H D = some (.lst ws)) (ys : List V) : ∀ {d : List Val} {v : List V}, Reps K mg as H d v → Reps K mg as (upd H D (.lst ys)) d v
  | _, _, .nil => .nil
  | _, _, .cons r t => .cons (Rep.out hD ys r) (Reps.out hD ys t)
end
theorem MRel.out (hm : MRel K mg as H M) (h1 : D ∉ as) (hD : H D = some (.lst ws)) (ys : List V) : MRel K mg as (upd H D (.lst ys)) M := by
  refine ⟨hm.len, hm.nd, fun l a o g1 g2 => ?_⟩
  have q := hm.ob l a o g1 g2
  have hne : a ≠ D := fun z => h1 (z ▸ List.mem_of_getElem? g1)
  cases o with
  | lst ds => obtain ⟨us, h, t⟩ := q; exact ⟨us, by rw [upd_ne hne]; exact h, t.out hD ys⟩
  | dct kvs => exact q.elim
  | ins c fs => exact q.elim
/-- it becomes one of the store -/
theorem MRel.take (hm : MRel K mg as H M) {ds : List Val} (h1 : D ∉ as) (hD : H D = some (.lst ws)) (t : Reps K mg as H ds ws) : MRel K mg (as ++ [D]) H (M ++ [.lst ds]) ∧ Rep K mg (as ++ [D]) H (.ref M.length) (.ref D) := by
  have grow : ∀ {d : Val} {v : V}, Rep K mg as H d v → Rep K mg (as ++ [D]) H d v := fun {d v} r => by
    have x : Nx as H (as ++ []) H := by rw [List.append_nil]; exact .refl
    exact Rep.rec (motive_1 := fun d v _ => Rep K mg (as ++ [D]) H d v) (motive_2 := fun d v _ => Reps K mg (as ++ [D]) H d v) .non (fun b => .bl b) (fun i => .int i) (fun z => .str z) (fun h _ r => .tup h r)
      (fun h => .ref (by rw [List.getElem?_append_left (List.getElem?_eq_some_iff.mp h).1]; exact h)) (fun h => .fn h) (fun n => .ty n) (fun h => .tab h) (fun h _ r => .rl h r) .nil (fun _ _ r t => .cons r t) r
  have grows : ∀ {d : List Val} {v : List V}, Reps K mg as H d v → Reps K mg (as ++ [D]) H d v := fun {d v} r => by
    induction d generalizing v with
    | nil => cases r; exact .nil
    | cons d ds ih =>
      cases r with
      | cons r t => exact .cons (grow r) (ih t)
  have hl : (as ++ [D])[M.length]? = some D := by rw [← hm.len, List.getElem?_append_right (Nat.le_refl _)]; simp
  refine ⟨⟨by simp [hm.len], ?_, fun l a o g1 g2 => ?_⟩, .ref hl⟩
  · rw [List.nodup_append]
    exact ⟨hm.nd, by simp, fun a ha b hb e => by simp at hb; subst hb; subst e; exact h1 ha⟩
  · by_cases hlt : l < M.length
    · rw [List.getElem?_append_left (by rw [hm.len]; exact hlt)] at g1
      rw [List.getElem?_append_left hlt] at g2
      have q := hm.ob l a o g1 g2
      cases o with
      | lst ds => obtain ⟨us, h, t⟩ := q; exact ⟨us, h, grows t⟩
      | dct kvs => exact q.elim
      | ins c fs => exact q.elim
    · have hlt' : l = M.length := by
        have := (List.getElem?_eq_some_iff.mp g2).1
        simp at this
        omega
      subst hlt'
      rw [hl] at g1
      rw [List.getElem?_append_right (Nat.le_refl _)] at g2
      simp at g1 g2
      subst g1; subst g2
      exact ⟨ws, hD, grows t⟩
end
/-! ### a comprehension -/
def tCs (K : PySem.W.Frag) (mg : Str → Option Value) (f : En → Mem → Rs Bool) : TT := fun σ H Q => ∃ ρ M as b M', EnR K mg as H ρ σ ∧ MRel K mg as H M ∧ f ρ M = .ok b M' ∧ ∀ H' as', Nx as H as' H' → MRel K mg as' H' M' → Q b H'
theorem cs_nil : PTs X [] (tCs X.K X.mg fun _ m => .ok true m) := by
  refine ⟨fun pins s σ H Q I h => ?_⟩
  obtain ⟨ρ, M, as, b, M', he, hm, e, k⟩ := h
  cases e
  exact pts_nil.run pins s σ H Q I (k H as .refl hm)
theorem cs_one {c : Expr} {f : En → Mem → Rs Val} (h : PT X c (tT X.K X.mg f)) : PTs X [c] (tCs X.K X.mg fun ρ m => (f ρ m).bind fun v m1 => (match truth m1 v with
    | some true => .ok true m1
    | some false => .ok false m1
    | none => .bad)) := by
  refine ⟨fun pins s σ H Q I q => ?_⟩
  obtain ⟨ρ, M, as, b, M', he, hm, e, k⟩ := q
  obtain ⟨x, M1, e1, e⟩ := Rs.bind_eq_ok e
  refine (pts_one h).run pins s σ H Q I ?_
  split at e
  · rename_i ht; cases e; exact ⟨ρ, M, as, x, M', true, he, hm, e1, ht, k⟩
  · rename_i ht; cases e; exact ⟨ρ, M, as, x, M', false, he, hm, e1, ht, k⟩
  · cases e
/-- the parts of a comprehension -/
structure LcOK (X : Cx) (elt tg iter : Expr) (ifs : List Expr) (scope : Scope) (own : List (Str × Nat)) (t : Tg) (kk : Ik) (g : En → Mem → Rs (List Val)) (fc : En → Mem → Rs Bool) (fe : En → Mem → Rs Val) : Prop where
  calm : X.calm = true
  nd : X.N.Nodup
  hi : PI X tg iter (tI X kk g)
  blk : BlkOk X.N X.env.scope scope own
  slots : own.map (·.2) = t.slots
  hg : ∀ (s : Shared) (H : Hp) (C : Addr) (cl : List (Str × Addr)) (fp : List Addr), PG (X.blk s H scope (compEnvC scope cl C X.env) fp) tg (gT X.K t)
  ht : ∀ (s : Shared) (H : Hp) (C : Addr) (cl : List (Str × Addr)) (fp : List Addr), PTs (X.blk s H scope (compEnvC scope cl C X.env) fp) ifs (tCs X.K X.mg fc)
  he : ∀ (s : Shared) (H : Hp) (C : Addr) (cl : List (Str × Addr)) (fp : List Addr), PE (X.blk s H scope (compEnvC scope cl C X.env) fp) elt (tE X.K X.mg fe)
  hs : noSet iter = true
def compE' (t : Tg) (kk : Ik) (g : En → Mem → Rs (List Val)) (fc : En → Mem → Rs Bool) (fe : En → Mem → Rs Val) : En → Mem → Rs Val := fun ρ m => (g ρ m).bind fun vs m1 => (match srV kk vs m1 with
    | some (s, n) => (compGo s (fun v m => bindT t v (wipeR ρ t.slots) m) fc fe n 0 [] m1).bind fun xs m2 => .ok (.ref m2.length) (m2 ++ [.lst xs])
    | none => .bad)
theorem lc_rd {elt tg iter : Expr} {ifs : List Expr} {scope : Scope} {own : List (Str × Nat)} {t : Tg} {kk : Ik} {g : En → Mem → Rs (List Val)} {fc : En → Mem → Rs Bool} {fe : En → Mem → Rs Val} (L : LcOK X elt tg iter ifs scope own t kk g fc fe)
    {σ : L2.St} {H : Hp} {Q : VK} (h : tE X.K X.mg (compE' t kk g fc fe) σ H Q) : tLc (tI X kk g) (gT X.K t) (tCs X.K X.mg fc) (tE X.K X.mg fe) (own.map (·.2)) σ H Q := by
  obtain ⟨ρ, M, as, d, M', he, hm, e, k⟩ := h
  obtain ⟨ds, M1, e1, e⟩ := Rs.bind_eq_ok e
  rw [L.slots]
  split at e
  · rename_i s n hsr
    obtain ⟨xs, M2, e2, e⟩ := Rs.bind_eq_ok e
    cases e
    refine ⟨ρ, M, as, ds, M1, s, n, he, hm, e1, hsr, fun J H1 as1 n1 m1 jr D hD => ?_⟩
    have he1 := he.mono hm n1
    refine ⟨fun i m H2 => ∃ M3 as3 acc ws, Nx as1 H1 as3 H2 ∧ MRel X.K X.mg as3 H2 M3 ∧ D ∉ as3 ∧ H2 D = some (.lst ws) ∧ Reps X.K X.mg as3 H2 acc ws ∧
      compGo s (fun v m => bindT t v (wipeR ρ t.slots) m) fc fe m i acc M3 = .ok xs M2, ⟨n, M1, as1, [], [], ?_, ?_, ?_, upd_same, .nil, e2⟩, ?_⟩
    · refine ⟨⟨[], by simp, by simp⟩, fun a o _ h => by rw [upd_ne (ne_of_none h hD)]; exact h, fun a h => ?_⟩
      by_cases ea : a = D
      · rw [ea]; exact hD
      · rw [upd_ne ea] at h; exact h
    · have hDn : D ∉ as1 := fun z => by obtain ⟨us, q⟩ := m1.lst z; rw [hD] at q; cases q
      refine ⟨m1.len, m1.nd, fun l a o g1 g2 => ?_⟩
      have nn : Nx as1 H1 as1 (upd H1 D (.lst [])) := by
        refine ⟨⟨[], by simp, by simp⟩, fun a o _ h => by rw [upd_ne (ne_of_none h hD)]; exact h, fun a h => ?_⟩
        by_cases ea : a = D
        · rw [ea]; exact hD
        · rw [upd_ne ea] at h; exact h
      have q := m1.ob l a o g1 g2
      cases o with
      | lst ds => obtain ⟨us, h, t⟩ := q; exact ⟨us, by rw [upd_ne (ne_of_none h hD)]; exact h, t.mono m1 nn⟩
      | dct kvs => exact q.elim
      | ins c fs => exact q.elim
    · intro z
      obtain ⟨us, q⟩ := m1.lst z
      rw [hD] at q; cases q
    · rintro i m H2 ⟨M3, as3, acc, ws, n3, m3, d3, h3, r3, e3⟩
      have he3 := he1.mono m1 n3
      have fin : s.at M3 i = some none → xs = acc → M2 = M3 → J.stop i H2 ∧ Q (.ref D) H2 := fun h1 h2 hM => by
        subst h2 hM
        refine ⟨(jr i as3 H2 _ n3 m3).1 h1, ?_⟩
        obtain ⟨mt, rt⟩ := m3.take d3 h3 r3
        have n4 : Nx as1 H1 (as3 ++ [D]) H2 := by
          obtain ⟨ns, ee, f⟩ := n3.ex
          exact ⟨⟨ns ++ [D], by rw [ee, List.append_assoc], fun a ha => by
            rcases List.mem_append.mp ha with z | z
            · exact f a z
            · simp at z; subst z; exact hD⟩, n3.fr, n3.lv⟩
        exact k _ _ _ (n1.trans n4) mt rt
      cases m with
      | zero =>
        unfold compGo at e3
        split at e3
        · rename_i h1
          cases e3
          exact .inl (fin h1 rfl rfl)
        · cases e3
      | succ m =>
        unfold compGo at e3
        split at e3
        · rename_i h1
          cases e3
          exact .inl (fin h1 rfl rfl)
        · rename_i dv h1
          split at e3
          · rename_i ρ4 hb
            obtain ⟨b, M5, e5, e3⟩ := Rs.bind_eq_ok e3
            obtain ⟨go, hy⟩ := (jr i as3 H2 M3 n3 m3).2 dv h1
            refine .inr ⟨go, fun H' => ∃ M6 as6 acc6 ws6, Nx as1 H1 as6 H' ∧ MRel X.K X.mg as6 H' M6 ∧ D ∉ as6 ∧ H' D = some (.lst ws6) ∧ Reps X.K X.mg as6 H' acc6 ws6 ∧
              compGo s (fun v m => bindT t v (wipeR ρ t.slots) m) fc fe m (i + 1) acc6 M6 = .ok xs M2, fun H' h => ⟨m, Nat.lt_succ_self m, h⟩, fun x H' y => ?_⟩
            obtain ⟨n4, m4, r4⟩ := hy x H' y
            obtain ⟨d4, h4⟩ := n4.out d3 h3
            refine gT_ok ((he3.mono m3 n4).wipe t.slots) m4 r4 hb fun σ4 he4 w4 => ⟨by rw [w4, wipe_wipe], ?_⟩
            refine ⟨ρ4, M3, as3, b, M5, he4, m4, e5, fun H5 as5 n5 m5 => ?_⟩
            obtain ⟨d5, h5⟩ := n5.out d4 h4
            have n15 := n3.trans (n4.trans n5)
            have r5 := (r3.mono m3 n4).mono m4 n5
            cases b with
            | false =>
              rw [if_neg Bool.false_ne_true]
              exact ⟨M5, as5, acc, ws, n15, m5, d5, h5, r5, e3⟩
            | true =>
              rw [if_pos rfl]
              obtain ⟨xv, M6, e6, e3⟩ := Rs.bind_eq_ok e3
              split at e3
              · rename_i hz
                refine ⟨ρ4, M5, as5, xv, M6, he4.mono m4 n5, m5, e6, fun yv H6 as6 n6 m6 r6 => ?_⟩
                obtain ⟨d6, h6⟩ := n6.out d5 h5
                have r7 := r5.mono m5 n6
                refine ⟨ws, h6, by rw [← r3.length]; exact hz, M6, as6, acc ++ [xv], ws ++ [yv], ?_, m6.out d6 h6 _, d6, upd_same, (r7.out h6 _).app (.cons (r6.out h6 _) .nil), e3⟩
                have n16 := n15.trans n6
                refine ⟨n16.ex, fun a o ha h => ?_, fun a h => ?_⟩
                · have := n16.fr a o ha h
                  by_cases ea : a = D
                  · subst ea; rw [hD] at h; cases h
                  · rw [upd_ne ea]; exact this
                · by_cases ea : a = D
                  · subst ea; exact hD
                  · rw [upd_ne ea] at h; exact n16.lv a h
              · cases e3
          · cases e3
        · cases e3
  · cases e
theorem e_comp {elt tg iter : Expr} {ifs : List Expr} {scope : Scope} {own : List (Str × Nat)} {t : Tg} {kk : Ik} {pos : Pos} {g : En → Mem → Rs (List Val)} {fc : En → Mem → Rs Bool} {fe : En → Mem → Rs Val} (L : LcOK X elt tg iter ifs scope own t kk g fc fe) :
    PE X (.ListComp elt [⟨tg, iter, ifs, 0⟩] scope pos) (tE X.K X.mg (compE' t kk g fc fe)) :=
  PE.imp (pe_lc L.calm L.nd L.hi L.blk L.hg L.ht L.he (fold_no L.hs)) fun σ H Q h => lc_rd L h
theorem sw_gen {elt : Expr} {gs : List Comprehension} {scope : Scope} {pos py : Pos} {y : Str} {l : Nat} {env : Env} (hk : env.scope.kind = .function) :
    swapsWith (.ListComp elt gs scope pos) (some (.Name y py)) l env = pure (env.kindOf y == some .local && py.line == pos.line && !(scope.names.any fun (n, k) => n == y && (k == .local || k == .cell))) := by
  have hb : env.blockKind = .function := by unfold Env.blockKind; rw [hk]; rfl
  unfold swapsWith
  simp only [hb, Expr.pos]
  rfl
theorem s_asgLc {elt tg iter : Expr} {ifs : List Expr} {scope : Scope} {own : List (Str × Nat)} {t : Tg} {kk : Ik} {pos spos py : Pos} {y : Str} {i : Nat} {g : En → Mem → Rs (List Val)} {fc : En → Mem → Rs Bool} {fe : En → Mem → Rs Val} (L : LcOK X elt tg iter ifs scope own t kk g fc fe)
    (hk : X.env.scope.kind = .function) (hy : X.N[i]? = some y) (hl : Loc X.env.scope y) (hf : X.fn y = true ∨ X.env.scope.names.lookup y = some .local) :
    PS X (.Assign [.Name y py] (.ListComp elt [⟨tg, iter, ifs, 0⟩] scope pos) spos) (tS X.K X.mg (asgE (.nm i) (compE' t kk g fc fe))) := by
  have sg := sw_gen (elt := elt) (gs := [⟨tg, iter, ifs, 0⟩]) (scope := scope) (pos := pos) (py := py) (y := y) (l := spos.line) hk
  cases hB : (X.env.kindOf y == some .local && py.line == pos.line && !(scope.names.any fun (n, k) => n == y && (k == .local || k == .cell))) with
  | false =>
    rw [hB] at sg
    exact PS.imp (ps_set L.nd hy hl (e_comp L) sg hf) fun D σ H q => asg_rd q
  | true =>
    rw [hB] at sg
    have hyl : X.env.scope.names.lookup y = some .local := by
      rw [Bool.and_eq_true, Bool.and_eq_true] at hB
      exact beq_iff_eq.mp hB.1.1
    refine PS.imp (ps_setLc L.calm L.nd hy hyl sg L.hi L.blk L.hg L.ht L.he (fold_no L.hs)) fun D σ H q => ?_
    have q2 : tAsg (tE X.K X.mg (compE' t kk g fc fe)) (gName i) D σ H := asg_rd (t := .nm i) q
    exact lc_rd L q2
end
end Pv
end SPvG

section SPvH
set_option Elab.async false
set_option linter.all false
set_option maxRecDepth 100000
set_option maxHeartbeats 4000000
/-! Pv: from the model's syntax to Pv's, and that what Pv says is what the model does. -/
namespace Pv
open PySem PySem.Spec PyProof.Rows L2
/-! ### binding of arguments -/
theorem look_zip : ∀ {ps : List Str} {us : List Value}, ps.Nodup → us.length = ps.length → ∀ {i : Nat} {p : Str} {u : Value}, ps[i]? = some p → us[i]? = some u → (ps.zip us).lookup p = some u
  | [], _, _, _, _, _, _, h, _ => by simp at h
  | p :: ps, [], _, h, _, _, _, _, _ => by simp at h
  | p :: ps, u :: us, hn, hl, 0, q, w, h1, h2 => by
    simp at h1 h2; subst h1; subst h2
    simp [List.lookup]
  | p :: ps, u :: us, hn, hl, i + 1, q, w, h1, h2 => by
    simp at h1 h2
    have hne : (q == p) = false := by
      rw [beq_eq_false_iff_ne]
      rintro rfl
      exact (List.nodup_cons.mp hn).1 (List.mem_of_getElem? h1)
    rw [List.zip_cons_cons, List.lookup_cons, hne]
    exact look_zip (List.nodup_cons.mp hn).2 (by simpa using hl) h1 h2
theorem zip_filter {ps : List Str} {us : List Value} (hn : ps.Nodup) (hl : us.length = ps.length) : ∀ (k : Nat), (ps.drop k).filterMap (fun n => ((ps.zip us).lookup n).map (n, ·)) = (ps.drop k).zip (us.drop k) := by
  have key : ∀ (j k : Nat), ps.length - k = j → (ps.drop k).filterMap (fun n => ((ps.zip us).lookup n).map (n, ·)) = (ps.drop k).zip (us.drop k) := by
    intro j
    induction j with
    | zero =>
      intro k hk
      rw [List.drop_eq_nil_of_le (by omega)]
      rfl
    | succ j ih =>
      intro k hk
      have h1 : k < ps.length := by omega
      have h2 : k < us.length := by omega
      rw [List.drop_eq_getElem_cons h1, List.drop_eq_getElem_cons h2, List.filterMap_cons, look_zip hn hl (i := k) (List.getElem?_eq_getElem h1) (List.getElem?_eq_getElem h2)]
      show _ :: _ = _
      rw [ih (k + 1) (by omega)]
      rfl
  exact fun k => key _ k rfl
theorem miss_none {ps : List Str} {us : List Value} (hn : ps.Nodup) (hl : us.length = ps.length) : ps.filter (fun n => ((ps.zip us).lookup n).isNone) = [] := by
  rw [List.filter_eq_nil_iff]
  intro p hp
  obtain ⟨i, hi, e⟩ := List.mem_iff_getElem.mp hp
  have h2 : i < us.length := by omega
  rw [look_zip hn hl (i := i) (by rw [List.getElem?_eq_getElem hi, e]) (List.getElem?_eq_getElem h2)]
  simp
def plainA (p : Arguments) : Bool := p.posonlyargs.isEmpty && p.vararg.isNone && p.kwonlyargs.isEmpty && p.kwarg.isNone
theorem binds_gen {x qual : Str} {params : Arguments} {body scope kV doc pm an cdv ct} (hp : plainA params = true) (hn : (params.args.map (·.arg)).Nodup) (us : List Value) (hl : us.length = (params.args.map (·.arg)).length) :
    bindArgs (PySem.W.fnOf x qual params body scope .none kV doc pm an cdv ct) ⟨us, []⟩ = pure ((params.args.map (·.arg)).zip us) := by
  obtain ⟨po, ar, va, ko, kd, ka, df⟩ := params
  unfold plainA at hp
  simp only [Bool.and_eq_true, List.isEmpty_iff, Option.isNone_iff_eq_none] at hp
  obtain ⟨⟨⟨rfl, rfl⟩, rfl⟩, rfl⟩ := hp
  simp only at hn hl
  have hm := miss_none hn hl
  have hz := zip_filter hn hl 0
  rw [List.drop_zero, List.drop_zero] at hz
  have e1 : seqItems? Value.none = pure none := rfl
  have e2 : (Option.getD (none : Option (Array Value)) #[]).toList = [] := rfl
  unfold bindArgs PySem.W.fnOf
  simp only [e1, e2, List.map_nil, List.nil_append, List.append_nil, pure_bind, List.forIn_nil]
  simp only [List.length_nil, List.drop_nil, Nat.sub_zero, List.take_length, hm, List.isEmpty_nil, Bool.not_true, Bool.false_eq_true, if_false, ↓reduceIte, List.drop_length, List.zip_nil_left, List.forIn_nil, pure_bind, hz, hl, Nat.lt_irrefl, gt_iff_lt, decide_false, Bool.false_and, Option.isNone_none, Bool.and_true, decide_eq_true_eq]

/-! ### the text turned -/
/-- what is known of the names: slots of the def, defs of the module with their number of parameters, built-in names that the module leaves alone -/
structure Nm where
  N : List Str
  dn : List (Str × Nat)
  bn : List Str
def ixOf : List Str → Str → Option Nat
  | [], _ => none
  | y :: ys, x => if y = x then some 0 else (ixOf ys x).map (· + 1)
theorem ixOf_ok : ∀ {N : List Str} {x : Str} {i : Nat}, ixOf N x = some i → N[i]? = some x
  | [], _, _, h => by cases h
  | y :: ys, x, i, h => by
    unfold ixOf at h
    split at h
    · rename_i e; cases h; simp [e]
    · cases q : ixOf ys x with
      | none => rw [q] at h; cases h
      | some j => rw [q] at h; cases h; simpa using ixOf_ok q
def visB (sc : Scope) (x : Str) : Bool := match sc.names.lookup x with
  | some .local => true
  | some .cell => true
  | some .free => true
  | _ => false
def locB (sc : Scope) (top : Bool) (x : Str) : Bool := match sc.names.lookup x with
  | some .local => true
  | some .cell => top
  | _ => false
def glB (sc : Scope) (x : Str) : Bool := decide (sc.names.lookup x = some .globalImplicit)
def okN (x : Str) : Bool := !(x == ("__debug__" : Str)) && !(x == ("__classdict__" : Str))
def tyN (x : Str) : Option String := tyNames.find? fun t => decide (Str.ofString t = x)
def biN (x : Str) : Option Bi := [Bi.abs, .len, .max, .min, .int, .list, .tuple, .sorted].find? fun b => decide (biName b = x)
section
variable (nm : Nm) (G : Str → Option Val)
def nameC (sc : Scope) (x : Str) : Option Ex :=
  if okN x then
    if visB sc x then (ixOf nm.N x).map .var
    else if glB sc x then (if (G x).isSome then some (.glb x) else none)
    else none
  else none
def nmC (sc : Scope) (top : Bool) : Expr → Option Nat
  | .Name x _ => if locB sc top x then ixOf nm.N x else none
  | _ => none
def nmsC (sc : Scope) (top : Bool) : List Expr → Option (List Nat)
  | [] => some []
  | e :: es => (nmC nm sc top e).bind fun i => (nmsC sc top es).map (i :: ·)
def tgC (sc : Scope) (top : Bool) : Expr → Option Tg
  | .Tuple es _ _ => (nmsC nm sc top es).map .tp
  | e => (nmC nm sc top e).map .nm
def ownC : Expr → List Str
  | .Name x _ => [x]
  | .Tuple es _ _ => es.filterMap fun | .Name x _ => some x | _ => none
  | _ => []
def tyC (sc : Scope) : Expr → Option String
  | .Name x _ => if glB sc x && decide (x ∈ nm.bn) then tyN x else none
  | _ => none
def tysC (sc : Scope) : List Expr → Option (List String)
  | [] => some []
  | e :: es => (tyC nm sc e).bind fun i => (tysC sc es).map (i :: ·)
def lsC (f : Expr → Option Ex) : List Expr → Option Exs
  | [] => some .nil
  | e :: es => if isStar e then none else (f e).bind fun a => (lsC f es).map (.cons a)
def andC (f : Expr → Option Ex) : List Expr → Option Ex
  | [] => none
  | [e] => f e
  | e :: es => (f e).bind fun a => (andC f es).map (.and a)
def orC (f : Expr → Option Ex) : List Expr → Option Ex
  | [] => none
  | [e] => f e
  | e :: es => (f e).bind fun a => (orC f es).map (.or a)
def partC (f : Expr → Option Ex) : Option Expr → Option Ex
  | none => some (.lit .non)
  | some e => (f e).map .chk
def itC (f : Expr → Option Ex) (sc : Scope) : Expr → Option (Ik × Exs)
  | .Call (.Name x p) [a] [] pos => if x = ("range" : Str) then (if glB sc x && decide (x ∈ nm.bn) then (lsC f [a]).map (Ik.rng1, ·) else none) else (f (.Call (.Name x p) [a] [] pos)).map fun e => (Ik.val, .cons e .nil)
  | .Call (.Name x p) [a, b] [] pos => if x = ("range" : Str) then (if glB sc x && decide (x ∈ nm.bn) then (lsC f [a, b]).map (Ik.rng2, ·) else none) else (f (.Call (.Name x p) [a, b] [] pos)).map fun e => (Ik.val, .cons e .nil)
  | e => if noSet e then (f e).map fun e => (Ik.val, .cons e .nil) else none
def constC : Const → Option Val
  | .none => some .non
  | .bool b => some (.bl b)
  | .int i => some (.int i)
  | .str s => some (.str s)
  | _ => none
def opC : Operator → Bool
  | .Add | .Sub | .Mult | .FloorDiv | .Mod | .Pow | .LShift | .RShift | .BitAnd | .BitOr => true
  | _ => false
def isiC (f : Expr → Option Ex) (sc : Scope) : List Expr → Option Ex
  | [a, .Tuple cs _ _] => if isStar a then none else (tysC nm sc cs).bind fun ts => if ts.length ≤ 100 then (f a).map fun a => .isi a ts else none
  | [a, c] => if isStar a then none else (tyC nm sc c).bind fun t => (f a).map fun a => .isi a [t]
  | _ => none
def callC (f : Expr → Option Ex) (sc : Scope) (x : Str) (args : List Expr) : Option Ex :=
  if glB sc x && okN x then
    (match nm.dn.lookup x with
    | some _ => (lsC f args).map (.call x)
    | none => if decide (x ∈ nm.bn) then
        (if x = ("isinstance" : Str) then isiC nm f sc args
        else (match biN x, args with
          | some b, _ :: _ => (lsC f args).map (.bi b)
          | _, _ => none))
      else none)
  else none
def stepE (f : Scope → Bool → Expr → Option Ex) (sc : Scope) (top : Bool) : Expr → Option Ex
  | .Name x _ => nameC nm G sc x
  | .Constant c _ _ => (constC c).map .lit
  | .Tuple es _ _ => (lsC (f sc top) es).map .tup
  | .List es _ => (lsC (f sc top) es).map .lst
  | .BinOp a op b _ => if opC op then (f sc top a).bind fun a => (f sc top b).map (.bin op a) else none
  | .UnaryOp .USub a _ => (f sc top a).map .neg
  | .UnaryOp .Not a _ => (f sc top a).map .nt
  | .BoolOp .And es _ => andC (f sc top) es
  | .BoolOp .Or es _ => orC (f sc top) es
  | .Compare a [op] [b] _ => if behindInMarks op b then none else (f sc top a).bind fun a => (f sc top b).map (.cmp op a)
  | .Compare a [o1, o2] [b, c] _ => if lastMarks [o1, o2] [b, c] then none else (f sc top a).bind fun a => (f sc top b).bind fun b => (f sc top c).map (.chn o1 o2 a b)
  | .IfExp c a b _ => (f sc top c).bind fun c => (f sc top a).bind fun a => (f sc top b).map (.ite c a)
  | .Subscript a (.Slice lo hi none _) _ => (f sc top a).bind fun a => (partC (f sc top) lo).bind fun lo => (partC (f sc top) hi).map (.sl a lo)
  | .Subscript a b _ => if plainIx b then (f sc top a).bind fun a => (f sc top b).map (.ix a) else none
  | .Call (.Name x _) args [] _ => callC nm (f sc top) sc x args
  | .ListComp elt [⟨tg, iter, ifs, 0⟩] scope _ => (tgC nm (relS scope sc) false tg).bind fun t => (itC nm (f sc top) sc iter).bind fun it => if noSet iter && (blkC nm.N sc scope ((ownC tg).zip t.slots)) && decide ((ownC tg).length = t.slots.length) then
      (match ifs with
      | [] => (f (relS scope sc) false elt).map fun e => .comp e t it.1 it.2 .nil
      | [c] => (f (relS scope sc) false c).bind fun c => (f (relS scope sc) false elt).map fun e => .comp e t it.1 it.2 (.cons c .nil)
      | _ => none) else none
  | _ => none
def cE : Nat → Scope → Bool → Expr → Option Ex
  | 0, _, _, _ => none
  | n + 1, sc, top, e => stepE nm G (cE n) sc top e
end
end Pv
end SPvH

section SPvI
set_option Elab.async false
set_option linter.all false
set_option maxRecDepth 100000
set_option maxHeartbeats 4000000
/-! Pv: what is turned says what the model does: expressions. -/
namespace Pv
open PySem PySem.Spec PyProof.Rows L2
/-- a context in which a def's body (top), or a comprehension's block, is read -/
structure Cok (nm : Nm) (G : Str → Option Val) (call : Str → List Val → Mem → Rs Val) (X : Cx) (sc : Scope) (top : Bool) : Prop where
  sc_ : X.env.scope = sc
  kind : sc.kind = .function
  N : X.N = nm.N
  nd : nm.N.Nodup
  calm : X.calm = true
  units : X.A.units + 64 < cLine
  fn : top = true → ∀ x, X.fn x = true
  defs : ∀ f n, nm.dn.lookup f = some n → DefOK X f n (call f)
  glob : ∀ x v, G x = some v → ∃ u w, X.mg x = some u ∧ RelV w u ∧ ∀ as H, Rep X.K X.mg as H v w
  free : ∀ x, x ∈ nm.bn → X.mg x = none
def Snd (G : Str → Option Val) (call : Str → List Val → Mem → Rs Val) (X : Cx) (e : Expr) (m : Ex) : Prop := PE X e (tE X.K X.mg (evE G call m)) ∧ PT X e (tT X.K X.mg (evE G call m))
section
variable {nm : Nm} {G : Str → Option Val} {call : Str → List Val → Mem → Rs Val} {X : Cx} {sc : Scope} {top : Bool}
theorem Cok.vis (C : Cok nm G call X sc top) {x : Str} (h : visB sc x = true) : Vis X.env.scope x := by
  rw [C.sc_]
  unfold visB at h
  unfold Vis
  split at h
  · rename_i q; exact .inl q
  · rename_i q; exact .inr (.inl q)
  · rename_i q; exact .inr (.inr q)
  · cases h
theorem Cok.gl (C : Cok nm G call X sc top) {x : Str} (h : glB sc x = true) : Gl X x := by
  unfold glB at h
  show X.env.scope.names.lookup x = _
  rw [C.sc_]
  exact of_decide_eq_true h
theorem Cok.loc (C : Cok nm G call X sc top) {x : Str} (h : locB sc top x = true) : L2.Loc X.env.scope x ∧ (X.fn x = true ∨ X.env.scope.names.lookup x = some .local) := by
  rw [C.sc_]
  unfold locB at h
  unfold L2.Loc
  split at h
  · rename_i q; exact ⟨.inl q, .inr q⟩
  · rename_i q; exact ⟨.inr q, .inl (C.fn h x)⟩
  · cases h
theorem Cok.nam (C : Cok nm G call X sc top) {e : Expr} {i : Nat} (h : nmC nm sc top e = some i) : NmOK X e i := by
  cases e with
  | Name x p =>
    dsimp only [nmC] at h
    split at h
    · rename_i hl
      obtain ⟨h1, h2⟩ := C.loc hl
      exact ⟨x, p, rfl, by rw [C.N]; exact ixOf_ok h, h1, h2⟩
    · cases h
  | _ => cases h
theorem Cok.nms (C : Cok nm G call X sc top) : ∀ {es : List Expr} {is : List Nat}, nmsC nm sc top es = some is → NmsOK X es is
  | [], _, h => by cases h; exact .nil
  | e :: es, is, h => by
    unfold nmsC at h
    cases q : nmC nm sc top e with
    | none => rw [q] at h; cases h
    | some i =>
      rw [q] at h
      have h : (nmsC nm sc top es).map (i :: ·) = some is := h
      cases q2 : nmsC nm sc top es with
      | none => rw [q2] at h; cases h
      | some js => rw [q2] at h; cases h; exact .cons (C.nam q) (Cok.nms C q2)
theorem Cok.tg (C : Cok nm G call X sc top) {e : Expr} {t : Tg} (h : tgC nm sc top e = some t) : TgOK X e t := by
  unfold tgC at h
  split at h
  · rename_i es k p
    cases q : nmsC nm sc top es with
    | none => rw [q] at h; cases h
    | some is => rw [q] at h; cases h; exact .tp (C.nms q)
  · cases q : nmC nm sc top e with
    | none => rw [q] at h; cases h
    | some i => rw [q] at h; cases h; exact .nm (C.nam q)
theorem Cok.ty (C : Cok nm G call X sc top) {e : Expr} {t : String} (h : tyC nm sc e = some t) : TyName X e t := by
  cases e with
  | Name x p =>
    dsimp only [tyC] at h
    split at h
    · rename_i hc
      rw [Bool.and_eq_true, decide_eq_true_eq] at hc
      unfold tyN at h
      have z := List.find?_some h
      have e1 : Str.ofString t = x := of_decide_eq_true z
      have e2 := List.mem_of_find?_eq_some h
      subst e1
      exact ⟨p, rfl, C.gl hc.1, C.free _ hc.2, e2⟩
    · cases h
  | _ => cases h
theorem Cok.tys (C : Cok nm G call X sc top) : ∀ {es : List Expr} {ts : List String}, tysC nm sc es = some ts → TyNames X es ts
  | [], _, h => by cases h; exact .nil
  | e :: es, is, h => by
    unfold tysC at h
    cases q : tyC nm sc e with
    | none => rw [q] at h; cases h
    | some i =>
      rw [q] at h
      have h : (tysC nm sc es).map (i :: ·) = some is := h
      cases q2 : tysC nm sc es with
      | none => rw [q2] at h; cases h
      | some js => rw [q2] at h; cases h; exact .cons (C.ty q) (Cok.tys C q2)
/-- what f says of expressions is right here -/
def Fok (G : Str → Option Val) (call : Str → List Val → Mem → Rs Val) (X : Cx) (f : Expr → Option Ex) : Prop := ∀ e m, f e = some m → Snd G call X e m
theorem ls_ok {f : Expr → Option Ex} (F : Fok G call X f) : ∀ {es : List Expr} {ms : Exs}, lsC f es = some ms → PA X es (tA X.K X.mg (evEs G call ms)) ∧ es.all (fun e => !isStar e) = true
  | [], _, h => by cases h; exact ⟨a_nil, rfl⟩
  | e :: es, ms, h => by
    unfold lsC at h
    split at h
    · cases h
    · rename_i hs
      have hs : isStar e = false := by simpa using hs
      cases q : f e with
      | none => rw [q] at h; cases h
      | some a =>
        rw [q] at h
        have h : (lsC f es).map (.cons a) = some ms := h
        cases q2 : lsC f es with
        | none => rw [q2] at h; cases h
        | some bs =>
          rw [q2] at h; cases h
          obtain ⟨h1, h2⟩ := ls_ok F q2
          exact ⟨a_cons (F e a q).1 h1 hs, by rw [List.all_cons, hs, h2]; rfl⟩
theorem and_ok' {f : Expr → Option Ex} (F : Fok G call X f) {pos : Pos} : ∀ {es : List Expr} {m : Ex}, andC f es = some m → PE X (.BoolOp .And es pos) (tE X.K X.mg (evE G call m)) ∧ PW X (.BoolOp .And es pos) (tT X.K X.mg (evE G call m))
  | [], _, h => by cases h
  | [e], m, h => by
    have q := F e m h
    exact ⟨e_one q.1, pw_and1 q.2⟩
  | e :: e2 :: es, m, h => by
    have h : (f e).bind (fun a => (andC f (e2 :: es)).map (.and a)) = some m := h
    cases q : f e with
    | none => rw [q] at h; cases h
    | some a =>
      rw [q] at h
      have h : (andC f (e2 :: es)).map (Ex.and a) = some m := h
      cases q2 : andC f (e2 :: es) with
      | none => rw [q2] at h; cases h
      | some b =>
        rw [q2] at h; cases h
        have i1 := F e a q
        have i2 := and_ok' F (pos := pos) q2
        exact ⟨e_and i1.1 i2.1, w_and i1.2 i2.2⟩
theorem or_ok' {f : Expr → Option Ex} (F : Fok G call X f) {pos : Pos} : ∀ {es : List Expr} {m : Ex}, orC f es = some m → PE X (.BoolOp .Or es pos) (tE X.K X.mg (evE G call m)) ∧ PW X (.BoolOp .Or es pos) (tT X.K X.mg (evE G call m))
  | [], _, h => by cases h
  | [e], m, h => by
    have q := F e m h
    exact ⟨e_one q.1, pw_or1 q.2⟩
  | e :: e2 :: es, m, h => by
    have h : (f e).bind (fun a => (orC f (e2 :: es)).map (.or a)) = some m := h
    cases q : f e with
    | none => rw [q] at h; cases h
    | some a =>
      rw [q] at h
      have h : (orC f (e2 :: es)).map (Ex.or a) = some m := h
      cases q2 : orC f (e2 :: es) with
      | none => rw [q2] at h; cases h
      | some b =>
        rw [q2] at h; cases h
        have i1 := F e a q
        have i2 := or_ok' F (pos := pos) q2
        exact ⟨e_or i1.1 i2.1, w_or i1.2 i2.2⟩
theorem part_ok {f : Expr → Option Ex} (F : Fok G call X f) {e : Option Expr} {m : Ex} (h : partC f e = some m) : PartOK X e (evE G call m) := by
  cases e with
  | none => cases h; exact part_none
  | some e =>
    have h : (f e).map .chk = some m := h
    cases q : f e with
    | none => rw [q] at h; cases h
    | some a => rw [q] at h; cases h; exact part_some (F e a q).1
theorem val_it {f : Expr → Option Ex} (F : Fok G call X f) {e : Expr} {k : Ik} {ms : Exs} {tg : Expr} (h : (f e).map (fun e => (Ik.val, Exs.cons e .nil)) = some (k, ms)) : PI X tg e (tI X k (evEs G call ms)) := by
  cases q : f e with
  | none => rw [q] at h; cases h
  | some a => rw [q] at h; cases h; exact i_val (F e a q).1
theorem it_ok (C : Cok nm G call X sc top) {f : Expr → Option Ex} (F : Fok G call X f) {e : Expr} {k : Ik} {ms : Exs} {tg : Expr} (h : itC nm f sc e = some (k, ms)) : PI X tg e (tI X k (evEs G call ms)) := by
  unfold itC at h
  split at h
  · rename_i x p a pos
    split at h
    · rename_i hx
      subst hx
      split at h
      · rename_i hc
        rw [Bool.and_eq_true, decide_eq_true_eq] at hc
        cases q : lsC f [a] with
        | none => rw [q] at h; cases h
        | some as =>
          rw [q] at h; cases h
          obtain ⟨h1, h2⟩ := ls_ok F q
          exact i_range1 (C.gl hc.1) (C.free _ hc.2) h1 (by simpa using h2)
      · cases h
    · exact val_it F h
  · rename_i x p a b pos
    split at h
    · rename_i hx
      subst hx
      split at h
      · rename_i hc
        rw [Bool.and_eq_true, decide_eq_true_eq] at hc
        cases q : lsC f [a, b] with
        | none => rw [q] at h; cases h
        | some as =>
          rw [q] at h; cases h
          obtain ⟨h1, h2⟩ := ls_ok F q
          simp at h2
          exact i_range2 (C.gl hc.1) (C.free _ hc.2) h1 h2.1 h2.2
      · cases h
    · exact val_it F h
  · split at h
    · exact val_it F h
    · cases h
theorem const_ok {c : Const} {v : Val} {k : Nat} {pos : Pos} (h : constC c = some v) : Snd G call X (.Constant c k pos) (.lit v) := by
  have go : ∀ {w : V}, PE X (.Constant c k pos) (tC w) → (∀ as H, Rep X.K X.mg as H v w) → Snd G call X (.Constant c k pos) (.lit v) := fun h1 h2 => ⟨e_lit h1 h2, t_plain (e_lit h1 h2) rfl⟩
  cases c with
  | none => cases h; exact go pe_non fun _ _ => .non
  | bool b => cases h; exact go pe_bl fun _ _ => .bl b
  | int b => cases h; exact go pe_int fun _ _ => .int b
  | str b => cases h; exact go pe_str fun _ _ => .str b
  | _ => cases h
theorem okN_ok {x : Str} (h : okN x = true) : (x == ("__debug__" : Str)) = false ∧ (x == ("__classdict__" : Str)) = false := by
  unfold okN at h
  rw [Bool.and_eq_true] at h
  exact ⟨by simpa using h.1, by simpa using h.2⟩
theorem name_ok (C : Cok nm G call X sc top) {x : Str} {pos : Pos} {m : Ex} (h : nameC nm G sc x = some m) : Snd G call X (.Name x pos) m := by
  have key : PE X (.Name x pos) (tE X.K X.mg (evE G call m)) := by
    unfold nameC at h
    split at h
    · rename_i ho
      obtain ⟨o1, o2⟩ := okN_ok ho
      split at h
      · rename_i hv
        cases q : ixOf nm.N x with
        | none => rw [q] at h; cases h
        | some i => rw [q] at h; cases h; exact e_var (by rw [C.N]; exact ixOf_ok q) (C.vis hv) o1 o2
      · split at h
        · rename_i hg
          split at h
          · rename_i hs
            cases h
            cases q : G x with
            | none => rw [q] at hs; cases hs
            | some v =>
              obtain ⟨u, w, h1, h2, h3⟩ := C.glob x v q
              have e : evE G call (.glb x) = fun _ m => .ok v m := by
                funext ρ m
                show (match G x with | some v => Rs.ok v m | none => .bad) = _
                rw [q]
              rw [e]
              exact e_lit (pe_glob (C.gl hg) h1 h2 o1) h3
          · cases h
        · cases h
    · cases h
  exact ⟨key, t_plain key rfl⟩
theorem isi_ok (C : Cok nm G call X sc top) {f : Expr → Option Ex} (F : Fok G call X f) {args : List Expr} {m : Ex} {p pos : Pos} (hg : Gl X "isinstance") (hm : X.mg "isinstance" = none) (h : isiC nm f sc args = some m) :
    PE X (.Call (.Name "isinstance" p) args [] pos) (tE X.K X.mg (evE G call m)) := by
  unfold isiC at h
  split at h
  · rename_i a cs kk tp
    split at h
    · cases h
    · rename_i hs
      have hs : isStar a = false := by simpa using hs
      cases q : tysC nm sc cs with
      | none => rw [q] at h; cases h
      | some ts =>
        rw [q] at h
        have h : (if ts.length ≤ 100 then (f a).map fun a => Ex.isi a ts else none) = some m := h
        split at h
        · rename_i hz
          cases q2 : f a with
          | none => rw [q2] at h; cases h
          | some b => rw [q2] at h; cases h; exact e_isiT hg hm (F a b q2).1 hs (C.tys q) hz
        · cases h
  · rename_i a c _
    split at h
    · cases h
    · rename_i hs
      have hs : isStar a = false := by simpa using hs
      cases q : tyC nm sc c with
      | none => rw [q] at h; cases h
      | some t =>
        rw [q] at h
        have h : ((f a).map fun a => Ex.isi a [t]) = some m := h
        cases q2 : f a with
        | none => rw [q2] at h; cases h
        | some b => rw [q2] at h; cases h; exact e_isi1 hg hm (F a b q2).1 hs (C.ty q)
  · cases h
theorem call_ok (C : Cok nm G call X sc top) {f : Expr → Option Ex} (F : Fok G call X f) {x : Str} {args : List Expr} {m : Ex} {p pos : Pos} (h : callC nm f sc x args = some m) :
    Snd G call X (.Call (.Name x p) args [] pos) m := by
  have key : PE X (.Call (.Name x p) args [] pos) (tE X.K X.mg (evE G call m)) := by
    unfold callC at h
    split at h
    · rename_i hc
      rw [Bool.and_eq_true] at hc
      obtain ⟨o1, o2⟩ := okN_ok hc.2
      split at h
      · rename_i n hd
        cases q : lsC f args with
        | none => rw [q] at h; cases h
        | some as =>
          rw [q] at h; cases h
          obtain ⟨h1, h2⟩ := ls_ok F q
          cases args with
          | nil =>
            cases q
            exact e_call0 (C.defs x n hd) (C.gl hc.1) o1
          | cons e es => exact e_call (C.defs x n hd) (C.gl hc.1) o1 h1 h2
      · split at h
        · rename_i hf
          have hf := of_decide_eq_true hf
          split at h
          · rename_i hx
            subst hx
            exact isi_ok C F (C.gl hc.1) (C.free _ hf) h
          · split at h
            · rename_i b e es hb
              have e1 : biName b = x := by
                unfold biN at hb
                have z := List.find?_some hb
                exact of_decide_eq_true z
              subst e1
              cases q : lsC f (e :: es) with
              | none => rw [q] at h; cases h
              | some as =>
                rw [q] at h; cases h
                obtain ⟨h1, h2⟩ := ls_ok F q
                exact e_bi C.calm (C.gl hc.1) (C.free _ hf) h1 h2
            · cases h
        · cases h
    · cases h
  exact ⟨key, t_plain key rfl⟩
theorem blk_cok (C : Cok nm G call X sc top) (scope : Scope) (s : Shared) (H : Hp) (cenv : Addr) (cl : List (Str × Addr)) (fp : List Addr) (hk : scope.kind = .function) :
    Cok nm G call (X.blk s H scope (compEnvC scope cl cenv X.env) fp) (relS scope sc) false := by
  refine ⟨?_, ?_, C.N, C.nd, C.calm, C.units, (fun h => by cases h), fun f n h => ?_, C.glob, C.free⟩
  · show PySem.relabel scope X.env = _
    rw [← C.sc_]
    rfl
  · exact hk
  · obtain ⟨h1, h2⟩ := C.defs f n h
    exact ⟨h1, h2⟩
theorem own_slots (C : Cok nm G call X sc top) {scope : Scope} {tg : Expr} {t : Tg} (hl : (ownC tg).length = t.slots.length) : ((ownC tg).zip t.slots).map (·.2) = t.slots := by
  rw [List.map_snd_zip (by omega)]
def lcC (nm : Nm) (f : Scope → Bool → Expr → Option Ex) (sc : Scope) (top : Bool) (elt tg iter : Expr) (ifs : List Expr) (scope : Scope) : Option Ex :=
  (tgC nm (relS scope sc) false tg).bind fun t => (itC nm (f sc top) sc iter).bind fun it => if noSet iter && (blkC nm.N sc scope ((ownC tg).zip t.slots)) && decide ((ownC tg).length = t.slots.length) then
      (match ifs with
      | [] => (f (relS scope sc) false elt).map fun e => .comp e t it.1 it.2 .nil
      | [c] => (f (relS scope sc) false c).bind fun c => (f (relS scope sc) false elt).map fun e => .comp e t it.1 it.2 (.cons c .nil)
      | _ => none) else none
theorem lc_of (f : Scope → Bool → Expr → Option Ex) (IH : ∀ (X : Cx) (sc : Scope) (top : Bool), Cok nm G call X sc top → Fok G call X (f sc top)) (C : Cok nm G call X sc top) {elt tg iter : Expr} {ifs : List Expr} {scope : Scope} {m : Ex} (h : lcC nm f sc top elt tg iter ifs scope = some m) :
    ∃ t kk g fc fe own, LcOK X elt tg iter ifs scope own t kk g fc fe ∧ evE G call m = compE' t kk g fc fe := by
  have F := IH X sc top C
  unfold lcC at h
  cases q : tgC nm (relS scope sc) false tg with
  | none => rw [q] at h; cases h
  | some t =>
    rw [q] at h
    dsimp only [Option.bind] at h
    cases q2 : itC nm (f sc top) sc iter with
    | none => rw [q2] at h; cases h
    | some it =>
      rw [q2] at h
      dsimp only at h
      split at h
      · rename_i hc
        rw [Bool.and_eq_true, Bool.and_eq_true, decide_eq_true_eq] at hc
        obtain ⟨⟨hc1, hc2⟩, hc3⟩ := hc
        have B := blkOk_by hc2
        have CB := fun (s : Shared) (H : Hp) (cenv : Addr) (cl : List (Str × Addr)) (fp : List Addr) => blk_cok C scope s H cenv cl fp B.kind
        have FB := fun (s : Shared) (H : Hp) (cenv : Addr) (cl : List (Str × Addr)) (fp : List Addr) => IH _ _ _ (CB s H cenv cl fp)
        have mk : ∀ {cs : Exs} {e' : Ex}, f (relS scope sc) false elt = some e' → (∀ (s : Shared) (H : Hp) (C : Addr) (cl : List (Str × Addr)) (fp : List Addr), PTs (X.blk s H scope (compEnvC scope cl C X.env) fp) ifs (tCs X.K X.mg (evCs G call cs))) →
            LcOK X elt tg iter ifs scope ((ownC tg).zip t.slots) t it.1 (evEs G call it.2) (evCs G call cs) (evE G call e') := fun {cs e'} qe hcs =>
          ⟨C.calm, by rw [C.N]; exact C.nd, it_ok C F q2, by rw [C.N, C.sc_]; exact B, by rw [List.map_snd_zip (by omega)], fun s H cenv cl fp => TgOK.pg (CB s H cenv cl fp).calm (by rw [(CB s H cenv cl fp).N]; exact C.nd) ((CB s H cenv cl fp).tg q), hcs, fun s H cenv cl fp => (FB s H cenv cl fp elt e' qe).1, hc1⟩
        split at h
        · cases qe : f (relS scope sc) false elt with
          | none => rw [qe] at h; cases h
          | some e' =>
            rw [qe] at h; cases h
            exact ⟨_, _, _, _, _, _, mk (cs := .nil) qe fun s H cenv cl fp => cs_nil, rfl⟩
        · rename_i c
          cases qc : f (relS scope sc) false c with
          | none => rw [qc] at h; cases h
          | some c' =>
            rw [qc] at h
            dsimp only at h
            cases qe : f (relS scope sc) false elt with
            | none => rw [qe] at h; cases h
            | some e' =>
              rw [qe] at h; cases h
              exact ⟨_, _, _, _, _, _, mk (cs := .cons c' .nil) qe fun s H cenv cl fp => cs_one (FB s H cenv cl fp c c' qc).2, rfl⟩
        · cases h
      · cases h
theorem step_ok (f : Scope → Bool → Expr → Option Ex) (IH : ∀ (X : Cx) (sc : Scope) (top : Bool), Cok nm G call X sc top → Fok G call X (f sc top)) (C : Cok nm G call X sc top) {e : Expr} {m : Ex} (h : stepE nm G f sc top e = some m) : Snd G call X e m := by
  have F := IH X sc top C
  unfold stepE at h
  split at h
  · exact name_ok C h
  · rename_i c k pos
    cases q : constC c with
    | none => rw [q] at h; cases h
    | some v => rw [q] at h; cases h; exact const_ok q
  · rename_i es k pos
    cases q : lsC (f sc top) es with
    | none => rw [q] at h; cases h
    | some ms =>
      rw [q] at h; cases h
      have key := e_tup (k' := k) (pos := pos) (ls_ok F q).1
      exact ⟨key, t_plain key rfl⟩
  · rename_i es pos
    cases q : lsC (f sc top) es with
    | none => rw [q] at h; cases h
    | some ms =>
      rw [q] at h; cases h
      have key := e_lst (pos := pos) (ls_ok F q).1
      exact ⟨key, t_plain key rfl⟩
  · rename_i a op b pos
    split at h
    · rename_i ho
      cases q : f sc top a with
      | none => rw [q] at h; cases h
      | some a' =>
        rw [q] at h
        have h : (f sc top b).map (.bin op a') = some m := h
        cases q2 : f sc top b with
        | none => rw [q2] at h; cases h
        | some b' =>
          rw [q2] at h; cases h
          have key := e_bin (pos := pos) (bin_ok (X := X) (op := op) rfl (by cases op <;> first | rfl | cases ho)) (F _ _ q).1 (F _ _ q2).1
          exact ⟨key, t_plain key rfl⟩
    · cases h
  · rename_i a pos
    cases q : f sc top a with
    | none => rw [q] at h; cases h
    | some a' =>
      rw [q] at h; cases h
      have key := e_neg (pos := pos) (F _ _ q).1
      exact ⟨key, t_plain key rfl⟩
  · rename_i a pos
    cases q : f sc top a with
    | none => rw [q] at h; cases h
    | some a' =>
      rw [q] at h; cases h
      exact ⟨e_not (F _ _ q).1, t_not (F _ _ q).2⟩
  · rename_i es pos
    have q := and_ok' F (pos := pos) h
    exact ⟨q.1, q.2.pt⟩
  · rename_i es pos
    have q := or_ok' F (pos := pos) h
    exact ⟨q.1, q.2.pt⟩
  · rename_i a op b pos
    split at h
    · cases h
    · rename_i hb
      have hb : behindInMarks op b = false := by simpa using hb
      cases q : f sc top a with
      | none => rw [q] at h; cases h
      | some a' =>
        rw [q] at h
        have h : (f sc top b).map (.cmp op a') = some m := h
        cases q2 : f sc top b with
        | none => rw [q2] at h; cases h
        | some b' =>
          rw [q2] at h; cases h
          exact ⟨e_cmp C.units (F _ _ q).1 (F _ _ q2).1 hb, t_cmp C.units (F _ _ q).1 (F _ _ q2).1 hb⟩
  · rename_i a o1 o2 b c pos
    split at h
    · cases h
    · rename_i hb
      have hb : lastMarks [o1, o2] [b, c] = false := by simpa using hb
      cases q : f sc top a with
      | none => rw [q] at h; cases h
      | some a' =>
        rw [q] at h
        have h : ((f sc top b).bind fun b' => (f sc top c).map (.chn o1 o2 a' b')) = some m := h
        cases q2 : f sc top b with
        | none => rw [q2] at h; cases h
        | some b' =>
          rw [q2] at h
          have h : (f sc top c).map (.chn o1 o2 a' b') = some m := h
          cases q3 : f sc top c with
          | none => rw [q3] at h; cases h
          | some c' =>
            rw [q3] at h; cases h
            exact ⟨e_chn C.units (F _ _ q).1 (F _ _ q2).1 (F _ _ q3).1 hb, t_chn C.units (F _ _ q).1 (F _ _ q2).1 (F _ _ q3).1 hb⟩
  · rename_i c a b pos
    cases q : f sc top c with
    | none => rw [q] at h; cases h
    | some c' =>
      rw [q] at h
      have h : ((f sc top a).bind fun b' => (f sc top b).map (.ite c' b')) = some m := h
      cases q2 : f sc top a with
      | none => rw [q2] at h; cases h
      | some a' =>
        rw [q2] at h
        have h : (f sc top b).map (.ite c' a') = some m := h
        cases q3 : f sc top b with
        | none => rw [q3] at h; cases h
        | some b' =>
          rw [q3] at h; cases h
          exact ⟨e_ite (F _ _ q).2 (F _ _ q2).1 (F _ _ q3).1, t_ite (F _ _ q).2 (F _ _ q2).2 (F _ _ q3).2⟩
  · rename_i a lo hi p2 pos
    cases q : f sc top a with
    | none => rw [q] at h; cases h
    | some a' =>
      rw [q] at h
      have h : ((partC (f sc top) lo).bind fun b' => (partC (f sc top) hi).map (.sl a' b')) = some m := h
      cases q2 : partC (f sc top) lo with
      | none => rw [q2] at h; cases h
      | some l' =>
        rw [q2] at h
        have h : (partC (f sc top) hi).map (.sl a' l') = some m := h
        cases q3 : partC (f sc top) hi with
        | none => rw [q3] at h; cases h
        | some h' =>
          rw [q3] at h; cases h
          have key := e_sl (pos := pos) (p2 := p2) (F _ _ q).1 (part_ok F q2) (part_ok F q3)
          exact ⟨key, t_plain key rfl⟩
  · rename_i a b pos _
    split at h
    · rename_i hp
      cases q : f sc top a with
      | none => rw [q] at h; cases h
      | some a' =>
        rw [q] at h
        have h : (f sc top b).map (.ix a') = some m := h
        cases q2 : f sc top b with
        | none => rw [q2] at h; cases h
        | some b' =>
          rw [q2] at h; cases h
          have key := e_ix (pos := pos) (F _ _ q).1 (F _ _ q2).1 hp
          exact ⟨key, t_plain key rfl⟩
    · cases h
  · exact call_ok C F h
  · rename_i elt tg iter ifs scope pos
    obtain ⟨t, kk, g, fc, fe, own, L, e⟩ := lc_of f IH C h
    rw [Snd, e]
    exact ⟨e_comp L, t_plain (e_comp L) rfl⟩
  · cases h
theorem cE_ok : ∀ (n : Nat) (X : Cx) (sc : Scope) (top : Bool), Cok nm G call X sc top → Fok G call X (cE nm G n sc top)
  | 0, _, _, _, _ => fun _ _ h => by cases h
  | n + 1, X, sc, top, C => fun e m h => step_ok (cE nm G n) (cE_ok n) C h
end
end Pv
end SPvI

section SPvJ
set_option Elab.async false
set_option linter.all false
set_option maxRecDepth 100000
set_option maxHeartbeats 4000000
/-! Pv: statements and defs turned. -/
namespace Pv
open PySem PySem.Spec PyProof.Rows L2
section
variable (nm : Nm) (G : Str → Option Val)
def augC : Operator → Bool
  | .Add | .Sub => true
  | _ => false
def stepS (f : Scope → Bool → Expr → Option Ex) (fs : List Stmt → Option Sms) (sc : Scope) : Stmt → Option Sm
  | .Return (some e) _ => (stepE nm G f sc true e).map .ret
  | .Return none _ => some (.ret (.lit .non))
  | .Expr e _ => if noComp e then (stepE nm G f sc true e).map .exp else none
  | .Assign [.Subscript o i _] e _ => if noComp e && plainIx i then (stepE nm G f sc true e).bind fun e => (stepE nm G f sc true o).bind fun o => (stepE nm G f sc true i).map fun i => .put o i e else none
  | .Assign [.Name y py] (.ListComp elt [⟨tg, iter, ifs, 0⟩] scope _) _ => (nmC nm sc true (.Name y py)).bind fun i => (lcC nm f sc true elt tg iter ifs scope).map (.asg (.nm i))
  | .Assign [tg] e _ => (tgC nm sc true tg).bind fun t => if plainVal t e then (stepE nm G f sc true e).map (.asg t) else none
  | .AugAssign tg op e _ => if augC op then (nmC nm sc true tg).bind fun i => (stepE nm G f sc true e).map (.aug i op) else none
  | .If c a b _ => (stepE nm G f sc true c).bind fun c => (fs a).bind fun a => (fs b).map (.ite c a)
  | .For tg it body [] _ => if noSet it then (tgC nm sc true tg).bind fun t => (itC nm (stepE nm G f sc true) sc it).bind fun it => (fs body).map (.lup t it.1 it.2) else none
  | .While c body [] _ => (stepE nm G f sc true c).bind fun c => (fs body).map (.whl c)
  | .Pass _ => some .pss
  | .Break _ => some .brk
  | .Continue _ => some .cnt
  | _ => none
def lstS (g : Stmt → Option Sm) : List Stmt → Option Sms
  | [] => some .nil
  | s :: ss => (g s).bind fun a => (lstS g ss).map (.cons a)
def cS (k : Nat) : Nat → Scope → List Stmt → Option Sms
  | 0, _, _ => none
  | n + 1, sc, ss => lstS (stepS nm G (cE nm G k) (cS k n sc) sc) ss
end
section
variable {nm : Nm} {G : Str → Option Val} {call : Str → List Val → Mem → Rs Val} {X : Cx} {sc : Scope}
theorem opt_bind {α β : Type} {o : Option α} {f : α → Option β} {b : β} (h : o.bind f = some b) : ∃ a, o = some a ∧ f a = some b := by
  cases o with
  | none => cases h
  | some a => exact ⟨a, rfl, h⟩
theorem opt_map {α β : Type} {o : Option α} {f : α → β} {b : β} (h : o.map f = some b) : ∃ a, o = some a ∧ f a = b := by
  cases o with
  | none => cases h
  | some a => exact ⟨a, rfl, Option.some.inj h⟩
theorem stS_ok (hp : PassesOwn (model X.prog X.w) X.A X.env X.xe) (C : Cok nm G call X sc true) (f : Scope → Bool → Expr → Option Ex) (IH : ∀ (X : Cx) (sc : Scope) (top : Bool), Cok nm G call X sc top → Fok G call X (f sc top))
    (fs : List Stmt → Option Sms) (IS : ∀ ss ms, fs ss = some ms → PSs X ss (tS X.K X.mg (evSs G call ms))) {st : Stmt} {m : Sm} (h : stepS nm G f fs sc st = some m) : PS X st (tS X.K X.mg (evS G call m)) := by
  have F : Fok G call X (stepE nm G f sc true) := fun e m h => step_ok f IH C h
  have hN : X.N.Nodup := by rw [C.N]; exact C.nd
  unfold stepS at h
  split at h
  · obtain ⟨a, q, rfl⟩ := opt_map h
    exact s_ret (F _ _ q).1
  · cases h; exact s_retN
  · split at h
    · rename_i hn
      obtain ⟨a, q, rfl⟩ := opt_map h
      exact s_exp (F _ _ q).1 hn
    · cases h
  · split at h
    · rename_i hn
      rw [Bool.and_eq_true] at hn
      obtain ⟨a, q, h⟩ := opt_bind h
      obtain ⟨b, q2, h⟩ := opt_bind h
      obtain ⟨c, q3, rfl⟩ := opt_map h
      exact s_put (F _ _ q).1 (F _ _ q2).1 (F _ _ q3).1 hn.1 hn.2
    · cases h
  · obtain ⟨i, q, h⟩ := opt_bind h
    obtain ⟨b, q2, rfl⟩ := opt_map h
    obtain ⟨t, kk, g, fc, fe, own, L, e⟩ := lc_of f IH C q2
    obtain ⟨x, pos, ex, hi, hl, hf⟩ := C.nam q
    cases ex
    have e2 : evS G call (.asg (.nm i) b) = asgE (.nm i) (compE' t kk g fc fe) := by
      rw [← e]
      rfl
    rw [e2]
    exact s_asgLc L (by rw [C.sc_]; exact C.kind) hi hl hf
  · obtain ⟨t, q, h⟩ := opt_bind h
    split at h
    · rename_i hv
      obtain ⟨b, q2, rfl⟩ := opt_map h
      exact s_asg C.calm hN (C.tg q) (F _ _ q2).1 hv
    · cases h
  · split at h
    · rename_i op _ _ ho
      obtain ⟨i, q, h⟩ := opt_bind h
      obtain ⟨b, q2, rfl⟩ := opt_map h
      exact s_aug hN (C.nam q) (F _ _ q2).1 (by cases op <;> first | exact .inl rfl | exact .inr rfl | cases ho)
    · cases h
  · obtain ⟨c, q, h⟩ := opt_bind h
    obtain ⟨a, q2, h⟩ := opt_bind h
    obtain ⟨b, q3, rfl⟩ := opt_map h
    exact s_ite (F _ _ q).2 (IS _ _ q2) (IS _ _ q3)
  · split at h
    · rename_i hn
      obtain ⟨t, q, h⟩ := opt_bind h
      obtain ⟨it, q2, h⟩ := opt_bind h
      obtain ⟨b, q3, rfl⟩ := opt_map h
      exact s_for hp C.calm hN (C.tg q) (it_ok C F q2) (IS _ _ q3) hn
    · cases h
  · obtain ⟨c, q, h⟩ := opt_bind h
    obtain ⟨a, q2, rfl⟩ := opt_map h
    exact s_whl hp (F _ _ q).2 (IS _ _ q2) _
  · cases h; exact s_pass
  · cases h; exact s_brk
  · cases h; exact s_cnt
  · cases h
theorem lstS_ok {g : Stmt → Option Sm} (hg : ∀ st m, g st = some m → PS X st (tS X.K X.mg (evS G call m))) : ∀ {ss : List Stmt} {ms : Sms}, lstS g ss = some ms → PSs X ss (tS X.K X.mg (evSs G call ms))
  | [], _, h => by cases h; exact ss_nil
  | s :: ss, ms, h => by
    obtain ⟨a, q, h⟩ := opt_bind h
    obtain ⟨b, q2, rfl⟩ := opt_map h
    exact ss_cons (hg s a q) (lstS_ok hg q2)
theorem cS_ok (hp : PassesOwn (model X.prog X.w) X.A X.env X.xe) (C : Cok nm G call X sc true) (k : Nat) : ∀ (n : Nat) (ss : List Stmt) (ms : Sms), cS nm G k n sc ss = some ms → PSs X ss (tS X.K X.mg (evSs G call ms))
  | 0, _, _, h => by cases h
  | n + 1, ss, ms, h => lstS_ok (fun st m q => stS_ok hp C (cE nm G k) (cE_ok k) (cS nm G k n sc) (cS_ok hp C k n) q) h
end

/-! ### the names of a def -/
/-- names that comprehensions bind, within an expression -/
def cvE : Nat → Expr → List Str
  | 0, _ => []
  | n + 1, e => match e with
    | .BoolOp _ es _ => es.flatMap (cvE n)
    | .BinOp a _ b _ => cvE n a ++ cvE n b
    | .UnaryOp _ a _ => cvE n a
    | .IfExp a b c _ => cvE n a ++ cvE n b ++ cvE n c
    | .Compare a _ es _ => cvE n a ++ es.flatMap (cvE n)
    | .Call f es _ _ => cvE n f ++ es.flatMap (cvE n)
    | .Subscript a b _ => cvE n a ++ cvE n b
    | .Slice a b _ _ => (match a with | some a => cvE n a | none => []) ++ (match b with | some b => cvE n b | none => [])
    | .Tuple es _ _ => es.flatMap (cvE n)
    | .List es _ => es.flatMap (cvE n)
    | .Attribute a _ _ => cvE n a
    | .Starred a _ => cvE n a
    | .Dict ks vs _ => ks.flatMap (fun | some k => cvE n k | none => []) ++ vs.flatMap (cvE n)
    | .ListComp elt gs _ _ => gs.flatMap (fun g => ownC g.target ++ cvE n g.iter ++ g.ifs.flatMap (cvE n)) ++ cvE n elt
    | _ => []
def cvS : Nat → Stmt → List Str
  | 0, _ => []
  | n + 1, s => match s with
    | .Return (some e) _ => cvE 100 e
    | .Expr e _ => cvE 100 e
    | .Assign ts e _ => ts.flatMap (cvE 100) ++ cvE 100 e
    | .AugAssign _ _ e _ => cvE 100 e
    | .If c a b _ => cvE 100 c ++ a.flatMap (cvS n) ++ b.flatMap (cvS n)
    | .For _ it b _ _ => cvE 100 it ++ b.flatMap (cvS n)
    | .While c b _ _ => cvE 100 c ++ b.flatMap (cvS n)
    | .Try b hs _ _ _ => b.flatMap (cvS n) ++ hs.flatMap (fun | .ExceptHandler _ _ b _ => b.flatMap (cvS n))
    | _ => []
def addN (l : List Str) : List Str → List Str
  | [] => l
  | x :: xs => addN (if x ∈ l then l else l ++ [x]) xs
def isLoc : NameKind → Bool
  | .local => true
  | .cell => true
  | _ => false
def namesOf (ps : List Str) (sc : Scope) (body : List Stmt) : List Str := addN (addN ps ((sc.names.filter fun y => isLoc y.2).map (·.1))) (body.flatMap (cvS 100))
def fnScB (N P : List Str) (sc : Scope) : Bool := decide (sc.kind = .function) && !sc.isCoroutine && !sc.isGenerator && decide N.Nodup && decide (N.take P.length = P) &&
  (P.all fun x => decide (sc.names.lookup x = some .local) || decide (sc.names.lookup x = some .cell)) && (sc.names.all fun y => decide (y.2 ≠ .free))
theorem fnSc_ok {N P : List Str} {sc : Scope} (h : fnScB N P sc = true) : FnScope N P sc := by
  unfold fnScB at h
  simp only [Bool.and_eq_true, decide_eq_true_eq, List.all_eq_true, Bool.or_eq_true, Bool.not_eq_true'] at h
  obtain ⟨⟨⟨⟨⟨⟨h1, h2⟩, h3⟩, h4⟩, h5⟩, h6⟩, h7⟩ := h
  exact ⟨h1, h2, h3, h4, h5, h6, h7⟩
/-- a def of the text: its name, parameters, body, scope, all its names -/
structure Dt where
  name : Str
  params : Arguments
  body : List Stmt
  scope : Scope
def Dt.ps (d : Dt) : List Str := d.params.args.map (·.arg)
def Dt.N (d : Dt) : List Str := namesOf d.ps d.scope d.body
def dtOf : Stmt → Option Dt
  | .FunctionDef name args body _ _ _ sc _ _ _ => some ⟨name, args, body, sc⟩
  | _ => none
def dtsOf (p : Program) : List Dt := p.main.body.filterMap dtOf
/-- the def turned -/
def Dt.turn (dn : List (Str × Nat)) (bn : List Str) (G : Str → Option Val) (d : Dt) : Option Df :=
  if plainA d.params && d.params.defaults.isEmpty && fnScB d.N d.ps d.scope then
    (cS ⟨d.N, dn, bn⟩ G 100 100 d.scope d.body).map fun b => ⟨d.ps.length, d.N.length, b⟩
  else none
def turnAll (dn : List (Str × Nat)) (bn : List Str) (G : Str → Option Val) : List Dt → Option (List (Str × Df))
  | [] => some []
  | d :: ds => (d.turn dn bn G).bind fun x => (turnAll dn bn G ds).map ((d.name, x) :: ·)
end Pv
end SPvJ

section SPvK
set_option Elab.async false
set_option linter.all false
set_option maxRecDepth 100000
set_option maxHeartbeats 4000000
/-! Pv: a whole program: its defs by induction over the depth of calls, what its top leaves, the law. -/
namespace Pv
open PySem PySem.Spec PyProof.Rows L2
structure Facts (K : PySem.W.Frag) (mg : Str → Option Value) (dts : List Dt) (bn : List Str) (G : Str → Option Val) : Prop where
  defs : ∀ d ∈ dts, ∃ fd, FunD K d.name d.name d.params d.body d.scope [] [] (He.ga K d.name) fd ∧ mg d.name = some (.ref (He.ga K d.name))
  free : ∀ x ∈ bn, mg x = none
  glob : ∀ x v, G x = some v → ∃ u w, mg x = some u ∧ RelV w u ∧ ∀ as H, Rep K mg as H v w
def dnOf (dts : List Dt) : List (Str × Nat) := dts.map fun d => (d.name, d.ps.length)
theorem dn_mem : ∀ {dts : List Dt} {f : Str} {n : Nat}, (dnOf dts).lookup f = some n → ∃ d ∈ dts, d.name = f ∧ d.ps.length = n
  | [], _, _, h => by cases h
  | d :: ds, f, n, h => by
    have h : (match f == d.name with | true => some d.ps.length | false => (dnOf ds).lookup f) = some n := h
    cases q : f == d.name with
    | true => rw [q] at h; cases h; exact ⟨d, List.mem_cons_self, (beq_iff_eq.mp q).symm, rfl⟩
    | false =>
      rw [q] at h
      obtain ⟨e, h1, h2⟩ := dn_mem h
      exact ⟨e, List.mem_cons_of_mem _ h1, h2⟩
theorem turn_mem {dn : List (Str × Nat)} {bn : List Str} {G : Str → Option Val} : ∀ {dts : List Dt} {tbl : List (Str × Df)}, turnAll dn bn G dts = some tbl → (dts.map (·.name)).Nodup → ∀ d ∈ dts, ∃ x, d.turn dn bn G = some x ∧ tbl.lookup d.name = some x
  | [], _, _, _, d, hd => by cases hd
  | e :: ds, tbl, h, hn, d, hd => by
    obtain ⟨x, q, h⟩ := opt_bind h
    obtain ⟨t, q2, rfl⟩ := opt_map h
    rw [List.map_cons, List.nodup_cons] at hn
    rcases List.mem_cons.mp hd with e1 | hd
    · subst e1
      exact ⟨x, q, by simp [List.lookup]⟩
    · obtain ⟨y, h1, h2⟩ := turn_mem q2 hn.2 d hd
      refine ⟨y, h1, ?_⟩
      have hne : (d.name == e.name) = false := by
        rw [beq_eq_false_iff_ne]
        intro z
        exact hn.1 (by rw [← z]; exact List.mem_map_of_mem hd)
      rw [List.lookup_cons, hne]
      exact h2
theorem turn_inv {dn : List (Str × Nat)} {bn : List Str} {G : Str → Option Val} {d : Dt} {x : Df} (h : d.turn dn bn G = some x) : plainA d.params = true ∧ FnScope d.N d.ps d.scope ∧ x.ps = d.ps.length ∧ x.ns = d.N.length ∧ cS ⟨d.N, dn, bn⟩ G 100 100 d.scope d.body = some x.body := by
  unfold Dt.turn at h
  split at h
  · rename_i hc
    rw [Bool.and_eq_true, Bool.and_eq_true] at hc
    obtain ⟨b, q, rfl⟩ := opt_map h
    exact ⟨hc.1.1, fnSc_ok hc.2, rfl, rfl, q⟩
  · cases h
theorem start_rel {K : PySem.W.Frag} {mg : Str → Option Value} {as : List Addr} {H : Hp} {ds : List Val} {vs : List V} {N : List Str} (r : Reps K mg as H ds vs) : EnR K mg as H (start N.length ds) (L2.start N vs) := by
  unfold start L2.start
  refine ⟨by simp [r.length], fun i d h => ?_⟩
  by_cases hi : i < ds.length
  · rw [List.getElem?_append_left (by simpa using hi), List.getElem?_map] at h
    cases q : ds[i]? with
    | none => rw [q] at h; cases h
    | some e =>
      rw [q] at h
      cases h
      obtain ⟨v, h1, h2⟩ := r.get q
      refine ⟨v, ?_, h2⟩
      rw [List.getElem?_append_left (by rw [List.length_map, ← r.length]; exact hi), List.getElem?_map, h1]
      rfl
  · rw [List.getElem?_append_right (by simpa using hi), List.getElem?_replicate] at h
    split at h <;> cases h
section
variable {P : Program} {w : World} {K : PySem.W.Frag} {mg : Str → Option Value} {base : Heap} {dts : List Dt} {bn : List Str} {G : Str → Option Val} {tbl : List (Str × Df)}
abbrev Dof (tbl : List (Str × Df)) : Str → Option Df := fun f => tbl.lookup f
theorem call_len {n : Nat} {f : Str} {x : Df} (hx : tbl.lookup f = some x) {ds : List Val} {M M' : Mem} {d : Val} (h : callF G (Dof tbl) n f ds M = .ok d M') : ds.length = x.ps := by
  cases n with
  | zero => cases h
  | succ n =>
    unfold callF at h
    simp only [Dof, hx] at h
    unfold runD at h
    split at h
    · assumption
    · cases h
theorem fn_all (hT : turnAll (dnOf dts) bn G dts = some tbl) (hn : (dts.map (·.name)).Nodup) (Fa : Facts K mg dts bn G) : ∀ (n : Nat) (d : Dt), d ∈ dts → ∀ fd, FunD K d.name d.name d.params d.body d.scope [] [] (He.ga K d.name) fd → FnOk P w K mg base CX0 n (He.ga K d.name) fd d.ps (spF K mg d.ps.length (callF G (Dof tbl) n d.name)) ∧ Binds K fd d.ps [] ∧
    PySem.W.keepIn K (.ref (He.ga K d.name)) = true ∧ (∀ (s : Shared) (us : List Value), us.length = d.ps.length → BindsTo s fd ⟨us, []⟩ (d.ps.zip us)) := by
  intro n
  induction n with
  | zero =>
    intro d hd fd F
    obtain ⟨x, q, hx⟩ := turn_mem hT hn d hd
    obtain ⟨h1, S, h2, h3, h4⟩ := turn_inv q
    have hnd : d.ps.Nodup := by rw [← S.pre]; exact S.nd.sublist (List.take_sublist _ _)
    have no : ∀ vs H Q E, ¬ spF K mg d.ps.length (callF G (Dof tbl) 0 d.name) vs H Q E := fun vs H Q E h => by
      obtain ⟨_, ds, M, as, r, M', _, _, e, _⟩ := h
      cases e
    exact ⟨⟨fun vs H Q E h => absurd h (no vs H Q E), fun A outer s H args us vs Q E _ _ _ _ h => absurd h (no vs H Q E)⟩, F.bindsN fun _ _ _ _ _ _ us hl => binds_gen h1 hnd us hl, F.kp, fun s us hl => FunD.bindsA F (fun _ _ _ _ _ _ us hl => binds_gen h1 hnd us hl) s us hl⟩
  | succ n ih =>
    intro d hd fd F
    obtain ⟨x, q, hx⟩ := turn_mem hT hn d hd
    obtain ⟨h1, S, h2, h3, h4⟩ := turn_inv q
    have hnd : d.ps.Nodup := by rw [← S.pre]; exact S.nd.sublist (List.take_sublist _ _)
    refine ⟨?_, F.bindsN fun _ _ _ _ _ _ us hl => binds_gen h1 hnd us hl, F.kp, fun s us hl => FunD.bindsA F (fun _ _ _ _ _ _ us hl => binds_gen h1 hnd us hl) s us hl⟩
    refine F.ok S (fun vs H Q E h => h.1) fun cdv A outer s H vs Q E hr h => ?_
    obtain ⟨hl, ds, M, as, r, M', hr1, hM, e, k⟩ := h
    have C : Cok ⟨d.N, dnOf dts, bn⟩ G (callF G (Dof tbl) n) (cxOf CX0 P w K mg base d.N d.name d.scope (He.ga K d.name) cdv A outer s H E).nox d.scope true := by
      refine ⟨rfl, S.kind, rfl, S.nd, rfl, hr.units, fun _ _ => rfl, fun f m hf => ?_, Fa.glob, Fa.free⟩
      obtain ⟨d2, hd2, en, el⟩ := dn_mem hf
      subst en el
      obtain ⟨fd2, F3, m3⟩ := Fa.defs d2 hd2
      obtain ⟨F2, b2, k2, _⟩ := ih d2 hd2 fd2 F3
      obtain ⟨x2, q2, hx2⟩ := turn_mem hT hn d2 hd2
      obtain ⟨_, _, e2, _, _⟩ := turn_inv q2
      exact ⟨⟨n, He.ga K d2.name, fd2, d2.ps, m3, k2, F2, b2, hr⟩, fun ds M d M' h => by rw [← e2]; exact call_len hx2 h⟩
    have body := cS_ok PassesOwn.never C 100 100 d.body x.body h4
    refine ⟨_, PSs.nox body, ?_⟩
    unfold callF at e
    simp only [Dof, hx] at e
    unfold runD at e
    split at e
    · obtain ⟨⟨fl, ρ'⟩, M1, e1, e⟩ := Rs.bind_eq_ok e
      rw [h3] at e1
      refine ⟨_, M, as, (fl, ρ'), M1, start_rel hr1, hM, e1, fun σ' H' as' n' m' r' => ?_⟩
      cases fl with
      | nx => cases e; exact k _ _ _ n' m' .non
      | rt v => cases e; exact fun v h => k _ _ _ n' m' h
      | bk => cases e
      | ct => cases e
    · cases e
end
/-! ### what the top leaves -/
def repAllB (f : Val → Value → Bool) : List Val → List Value → Bool
  | [], [] => true
  | v :: vs, u :: us => f v u && repAllB f vs us
  | _, _ => false
def repB (K : PySem.W.Frag) : Nat → Val → Value → Bool
  | 0, _, _ => false
  | _ + 1, .non, .none => true
  | _ + 1, .bl b, .bool c => b == c
  | _ + 1, .int i, .int j _ => decide (i = j)
  | _ + 1, .str x, .str y _ => decide (x = y)
  | n + 1, .tup vs, .ref a => (match K.lookup a with
    | some ⟨.type c, _, .seq its _, _⟩ => decide (c = "tuple") && (decide (its.size ≤ sizeLine) && repAllB (repB K n) vs its.toList)
    | _ => false)
  | _ + 1, .fn f, .ref a => decide (PySem.W.nsIn K mainGlobals f = some (some (.ref a)))
  | _, _, _ => false
section
variable {K : PySem.W.Frag} {h : Heap} {mg : Str → Option Value}
theorem repAll_ok {f : Val → Value → Bool} (hf : ∀ v u, f v u = true → ∃ w, RelV w u ∧ ∀ as H, Rep K mg as H v w) : ∀ {vs : List Val} {us : List Value}, repAllB f vs us = true → ∃ ws, Vals ws us ∧ ∀ as H, Reps K mg as H vs ws
  | [], [], _ => ⟨[], .nil, fun _ _ => .nil⟩
  | [], _ :: _, q => by cases q
  | _ :: _, [], q => by cases q
  | v :: vs, u :: us, q => by
    have q : (f v u && repAllB f vs us) = true := q
    rw [Bool.and_eq_true] at q
    obtain ⟨w, h1, h2⟩ := hf v u q.1
    obtain ⟨ws, h3, h4⟩ := repAll_ok hf q.2
    exact ⟨w :: ws, .cons h1 h3, fun as H => .cons (h2 as H) (h4 as H)⟩
theorem repB_ok (X : K.In h) (Gn : h.Ns mainGlobals mg) : ∀ (n : Nat) (v : Val) (u : Value), repB K n v u = true → ∃ w, RelV w u ∧ ∀ as H, Rep K mg as H v w
  | 0, _, _, q => by cases q
  | n + 1, v, u, q => by
    unfold repB at q
    split at q
    · exact absurd ‹n + 1 = 0› (by omega)
    · exact ⟨.non, rfl, fun _ _ => .non⟩
    · have e := eq_of_beq q; subst e; exact ⟨.bl _, rfl, fun _ _ => .bl _⟩
    · have e := of_decide_eq_true q; subst e; exact ⟨.int _, ⟨_, rfl⟩, fun _ _ => .int _⟩
    · have e := of_decide_eq_true q; subst e; exact ⟨.str _, ⟨_, rfl⟩, fun _ _ => .str _⟩
    · rename_i m vs a hm
      have hm : n = m := by omega
      subst hm
      split at q
      · rename_i c dd its k sl hl
        rw [Bool.and_eq_true, Bool.and_eq_true, decide_eq_true_eq, decide_eq_true_eq] at q
        obtain ⟨ws, h1, h2⟩ := repAll_ok (K := K) (mg := mg) (repB_ok X Gn n) q.2.2
        refine ⟨.ref a, rfl, fun as H => .tup (.inr ⟨_, its, k, hl, by rw [q.1], rfl, q.2.1, h1⟩) (h2 as H)⟩
      · cases q
    · have e := of_decide_eq_true q
      exact ⟨.ref _, rfl, fun _ _ => .fn (PySem.W.mg_of X Gn e)⟩
    · cases q
end
def glB' (K : PySem.W.Frag) (p : Str × Val) : Bool := match PySem.W.nsIn K mainGlobals p.1 with
  | some (some u) => repB K 20 p.2 u
  | _ => false
def Dt.dd (d : Dt) : He.DefD := ⟨(d.name, none), d.name, d.name, d.params, d.body, d.scope, [], []⟩
def faOf (dts : List Dt) (bn : List Str) : List He.Fa := dts.map (fun d => .glo d.name) ++ bn.map .free
abbrev AlP : Type := He.AlD × Bool
def obsP (dts : List Dt) (bn : List Str) (gl : List (Str × Val)) (K : PySem.W.Frag) : AlP := (He.obsD (faOf dts bn) (dts.map Dt.dd) K, gl.all (glB' K))
def valP (dts : List Dt) : AlP := (He.valD (dts.map Dt.dd), true)
def obsPG (n : Nat) (dts : List Dt) (bn : List Str) (gl : List (Str × Val)) (g : Addr → Option Obj) : AlP := obsP dts bn gl (He.frG g (He.asD g n))
def hookP (n : Nat) (dts : List Dt) (bn : List Str) (gl : List (Str × Val)) : PySem.W.Hook where
  α := AlP
  obs := fun s => obsPG n dts bn gl s.heap.get?
  val := fun _ => valP dts
  says := fun _ h => ∃ K : PySem.W.Frag, K.In h ∧ obsP dts bn gl K = valP dts
  of := fun _ _ e => ⟨_, He.frG_in, e⟩
  keeps := fun _ _ _ ⟨K, hK, c⟩ k => ⟨K, PySem.W.Frag.In.keeps hK k, c⟩
theorem obsPG_eq {n : Nat} {dts : List Dt} {bn : List Str} {gl : List (Str × Val)} {g : Addr → Option Obj} {s : Shared} (h : ∀ a, g a = s.heap.get? a) : obsPG n dts bn gl g = (hookP n dts bn gl).obs s := by
  have e : g = s.heap.get? := funext h
  rw [e] <;> rfl
theorem facts_of {K : PySem.W.Frag} {h : Heap} {mg : Str → Option Value} {dts : List Dt} {bn : List Str} {gl : List (Str × Val)} (X : K.In h) (Gn : h.Ns mainGlobals mg) (c : obsP dts bn gl K = valP dts) : Facts K mg dts bn fun x => gl.lookup x := by
  have c1 : He.SaysD (faOf dts bn) (dts.map Dt.dd) K := congrArg (fun z : AlP => z.1) c
  have c2 : gl.all (glB' K) = true := congrArg (fun z : AlP => z.2) c
  have fa : ∀ f ∈ faOf dts bn, f.ok K = true := fun f hf => by
    obtain ⟨i, hi⟩ := List.getElem?_of_mem hf
    exact c1.fact i hi
  refine ⟨fun d hd => ?_, fun x hx => ?_, fun x v hv => ?_⟩
  · obtain ⟨i, hi⟩ := List.getElem?_of_mem (List.mem_map_of_mem (f := Dt.dd) hd)
    obtain ⟨fd, F⟩ := c1.def_ i hi
    exact ⟨fd, F, He.glo_ok X Gn (fa _ (List.mem_append_left _ (List.mem_map_of_mem hd)))⟩
  · exact He.free_ok X Gn (fa _ (List.mem_append_right _ (List.mem_map_of_mem hx)))
  · have hm : (x, v) ∈ gl := PySem.mem_of_lookup hv
    have q := List.all_eq_true.mp c2 _ hm
    unfold glB' at q
    split at q
    · rename_i u hu
      obtain ⟨w, h1, h2⟩ := repB_ok X Gn 20 v u q
      exact ⟨u, w, PySem.W.mg_of X Gn hu, h1, h2⟩
    · cases q
/-- the law -/
theorem walk_P {l : PySem.W.OpenLaw} {q : Program} {loose : List Str} {XP : (Str → Option Value) → Heap → Prop} {d : DefRec} {n k : Nat} {dts : List Dt} {bn : List Str} {gl : List (Str × Val)} {tbl : List (Str × Df)} {ld : Dt}
    (hl : l.most = some 63) (hdf : d.params.defaults = []) (hk : Room k callerA) (hT : turnAll (dnOf dts) bn (fun x => gl.lookup x) dts = some tbl) (hn : (dts.map (·.name)).Nodup) (hd : ld ∈ dts) (hdn : ld.name = d.name) (hps : ld.ps.length = 1)
    (law : ∀ ns : List Int, ns.length ≤ 63 → ∃ M', callF (fun x => gl.lookup x) (Dof tbl) k ld.name [.rl (ns.map .int)] [] = .ok (.bl true) M') :
    PySem.W.WalkO q loose XP (hookP n dts bn gl).says l.row.toRowW d [] (fun f vs => PySem.call f vs) := by
  obtain ⟨x, hx⟩ : ∃ x, ld.ps = [x] := by
    match h : ld.ps, hps with
    | [x], _ => exact ⟨x, rfl⟩
  refine L2.walk_ofE (l := l) (n := 63) (k := k) (x := x) (CX := CX0) hl (by decide) hdf hk ?_ (fun _ _ _ _ z => z)
  intro w mg fa h Y Gn hmg
  obtain ⟨K, KX, c⟩ := Y
  have Fa := facts_of KX Gn c
  rw [← hdn] at hmg
  obtain ⟨fd0, F0, m0⟩ := Fa.defs ld hd
  have e := hmg.symm.trans m0
  cases e
  have all := fun base : Heap => fn_all (P := l.prog) (w := w) (base := base) hT hn Fa k ld hd fd0 F0
  obtain ⟨G1, b1, k1, bt⟩ := all h
  refine ⟨K, fd0, spF K mg ld.ps.length (callF (fun x => gl.lookup x) (Dof tbl) k ld.name), KX, fun s u => ?_, fun H a ns hns hO hS => ?_, fun base hb1 hb2 => ?_⟩
  · have := bt s [u] (by rw [hps]; rfl)
    rw [hx] at this
    exact this
  · obtain ⟨M', e⟩ := law ns hns
    refine ⟨by rw [hps]; rfl, [.rl (ns.map .int)], [], [], .bl true, M', .cons (.rl (vs := ns.map V.int) ?_ ?_) .nil, ⟨rfl, by simp, fun l a o h => by simp at h⟩, e, fun v H' as' n m r => ?_⟩
    · rcases hS with (hS | ⟨o, hS⟩) | hS
      · rcases hO a with z | ⟨o, xs, z⟩
        · rw [z] at hS; cases hS
        · rw [z] at hS; cases hS
      · exact .inl ⟨o, hS⟩
      · exact .inr hS
    · have go : ∀ l : List Int, Reps K mg [] H (l.map Val.int) (l.map V.int) := fun l => by
        induction l with
        | nil => exact .nil
        | cons i l ih => exact .cons (.int i) ih
      exact go ns
    · cases r; rfl
  · obtain ⟨G2, _⟩ := all base
    rw [hx] at G2
    rw [hx]
    exact G2
end Pv
end SPvK

section SPvL
set_option Elab.async false
set_option linter.all false
set_option maxRecDepth 100000
set_option maxHeartbeats 4000000
/-! Pv: reckoning with the evaluator. -/
namespace Pv
open PySem (Str Operator CmpOp PyData sizeLine)
def Ok {α : Type} (r : Rs α) (Q : α → Mem → Prop) : Prop := ∃ a m, r = .ok a m ∧ Q a m
section
variable {α β : Type}
@[simp] theorem Ok_ok {a : α} {m : Mem} {Q : α → Mem → Prop} : Ok (.ok a m) Q ↔ Q a m := ⟨(fun ⟨_, _, e, h⟩ => by cases e; exact h), fun h => ⟨a, m, rfl, h⟩⟩
@[simp] theorem Ok_bad {Q : α → Mem → Prop} : Ok .bad Q ↔ False := ⟨(fun ⟨_, _, e, h⟩ => by cases e), fun h => h.elim⟩
@[simp] theorem Ok_exc {e : Val} {m : Mem} {Q : α → Mem → Prop} : Ok (.exc e m) Q ↔ False := ⟨(fun ⟨_, _, e, h⟩ => by cases e), fun h => h.elim⟩
@[simp] theorem Ok_bind {r : Rs α} {f : α → Mem → Rs β} {Q : β → Mem → Prop} : Ok (r.bind f) Q ↔ Ok r (fun a m => Ok (f a m) Q) := by
  cases r with
  | ok a m => simp
  | exc e m => simp
  | bad => simp
theorem Ok_ite {c : Prop} [Decidable c] {a b : Rs α} {Q : α → Mem → Prop} : Ok (if c then a else b) Q ↔ if c then Ok a Q else Ok b Q := by split <;> rfl
theorem Ok.mono {r : Rs α} {Q Q' : α → Mem → Prop} (h : Ok r Q) (k : ∀ a m, Q a m → Q' a m) : Ok r Q' := by
  obtain ⟨a, m, e, q⟩ := h
  exact ⟨a, m, e, k a m q⟩
def iteB (o : Option Bool) (a b : Rs α) : Rs α := match o with
  | some k => if k then a else b
  | none => .bad
@[simp] theorem iteB_some {k : Bool} {a b : Rs α} : iteB (some k) a b = if k then a else b := rfl
end
theorem ofString_inj {a b : String} : Str.ofString a = Str.ofString b ↔ a = b := by
  constructor
  · intro h
    rw [Str.ofString_eq_toList, Str.ofString_eq_toList] at h
    have h1 := congrArg (fun s : Str => s.cps.toList) h
    simp only at h1
    have h2 : a.toList = b.toList := by
      have inj : ∀ l m : List Char, l.map Char.toNat = m.map Char.toNat → l = m := by
        intro l
        induction l with
        | nil => intro m h; cases m with | nil => rfl | cons c m => cases h
        | cons c l ih =>
          intro m h
          cases m with
          | nil => cases h
          | cons d m =>
            rw [List.map_cons, List.map_cons] at h
            injection h with h1 h2
            rw [ih m h2]
            have : c = d := by
              apply Char.ext
              apply UInt32.toNat_inj.mp
              exact h1
            rw [this]
      exact inj _ _ h1
    exact String.toList_inj.mp h2
  · intro h; rw [h]
theorem ofString_beq {a b : String} : (Str.ofString a == Str.ofString b) = (a == b) := by
  by_cases h : a = b
  · subst h; simp
  · have h1 : Str.ofString a ≠ Str.ofString b := fun z => h (ofString_inj.mp z)
    rw [beq_eq_false_iff_ne.mpr h1, beq_eq_false_iff_ne.mpr h]
section
variable {G : Str → Option Val} {call : Str → List Val → Mem → Rs Val} {ρ : En} {m : Mem}
@[simp] theorem evS_ite {c : Ex} {a b : Sms} : evS G call (.ite c a b) ρ m = (evE G call c ρ m).bind fun x m1 => iteB (truth m1 x) (evSs G call a ρ m1) (evSs G call b ρ m1) := by
  show ((evE G call c ρ m).bind fun x m1 => (match truth m1 x with
    | some true => evSs G call a ρ m1
    | some false => evSs G call b ρ m1
    | none => .bad)) = _
  congr 1
  funext x m1
  unfold iteB
  cases truth m1 x with
  | none => rfl
  | some k => cases k <;> rfl
theorem tryB_some {v : Val} {f : Bool → Rs Val} {k : Bool} (h : truth m v = some k) : tryB m v f = f k := by unfold tryB; rw [h]
@[simp] theorem tryB_bl {k : Bool} {f : Bool → Rs Val} : tryB m (.bl k) f = f k := rfl
@[simp] theorem truth_bl {k : Bool} : truth m (.bl k) = some k := rfl
@[simp] theorem ofB_some {k : Bool} : ofB (some k) m = .ok (.bl k) m := rfl
@[simp] theorem ofB_none : ofB none m = .bad := rfl
@[simp] theorem getS_cons0 {v : Option Val} {r : En} : getS (v :: r) 0 m = (match v with | some v => .ok v m | none => .bad) := by
  unfold getS; cases v <;> rfl
@[simp] theorem getS_cons {v : Option Val} {r : En} {i : Nat} : getS (v :: r) (i + 1) m = getS r i m := rfl
def endV (r : Fl × En) (m1 : Mem) : Rs Val := match r.1 with
  | .nx => .ok .non m1
  | .rt v => .ok v m1
  | .bk => .bad
  | .ct => .bad
@[simp] theorem endV_rt {v : Val} {ρ : En} : endV (.rt v, ρ) m = .ok v m := rfl
@[simp] theorem endV_nx {ρ : En} : endV (.nx, ρ) m = .ok .non m := rfl
theorem runD_eq {d : Df} {vs : List Val} (h : vs.length = d.ps) : runD G call d vs m = (evSs G call d.body (start d.ns vs) m).bind endV := by
  unfold runD
  rw [if_pos h]
  congr 1
  funext r m1
  obtain ⟨fl, ρ⟩ := r
  cases fl <;> rfl
theorem callF_eq {D : Str → Option Df} {f : Str} {d : Df} {vs : List Val} {n : Nat} (hd : D f = some d) (h : vs.length = d.ps) : callF G D (n + 1) f vs m = (evSs G (callF G D n) d.body (start d.ns vs) m).bind endV := by
  rw [← runD_eq h]
  show (match D f with | some d => runD G (callF G D n) d vs m | none => .bad) = _
  rw [hd]
def nxS (r : Fl × En) (m1 : Mem) (k : En → Mem → Rs (Fl × En)) : Rs (Fl × En) := match r.1 with
  | .nx => k r.2 m1
  | .bk => .ok r m1
  | .ct => .ok r m1
  | .rt _ => .ok r m1
@[simp] theorem nxS_nx {k : En → Mem → Rs (Fl × En)} : nxS (.nx, ρ) m k = k ρ m := rfl
@[simp] theorem nxS_rt {v : Val} {k : En → Mem → Rs (Fl × En)} : nxS (.rt v, ρ) m k = .ok (.rt v, ρ) m := rfl
@[simp] theorem evSs_cons {s : Sm} {ss : Sms} : evSs G call (.cons s ss) ρ m = (evS G call s ρ m).bind fun r m1 => nxS r m1 fun ρ m => evSs G call ss ρ m := by
  show ((evS G call s ρ m).bind fun r m1 => (match r.1 with
    | .nx => evSs G call ss r.2 m1
    | .bk => .ok r m1
    | .ct => .ok r m1
    | .rt _ => .ok r m1)) = _
  rfl
@[simp] theorem evSs_nil : evSs G call .nil ρ m = .ok (.nx, ρ) m := rfl
@[simp] theorem evS_ret {e : Ex} : evS G call (.ret e) ρ m = (evE G call e ρ m).bind fun v m1 => .ok (.rt v, ρ) m1 := rfl
@[simp] theorem evS_exp {e : Ex} : evS G call (.exp e) ρ m = (evE G call e ρ m).bind fun _ m1 => .ok (.nx, ρ) m1 := rfl
@[simp] theorem evS_asg {i : Nat} {e : Ex} : evS G call (.asg (.nm i) e) ρ m = (evE G call e ρ m).bind fun v m1 => .ok (.nx, ρ.set i (some v)) m1 := rfl
@[simp] theorem evE_var {i : Nat} : evE G call (.var i) ρ m = getS ρ i m := rfl
@[simp] theorem evE_lit {v : Val} : evE G call (.lit v) ρ m = .ok v m := rfl
@[simp] theorem evE_tup {es : Exs} : evE G call (.tup es) ρ m = (evEs G call es ρ m).bind fun vs m1 => if vs.length ≤ sizeLine then .ok (.tup vs) m1 else .bad := rfl
@[simp] theorem evE_lst {es : Exs} : evE G call (.lst es) ρ m = (evEs G call es ρ m).bind fun vs m1 => if vs.length ≤ sizeLine then .ok (.ref m1.length) (m1 ++ [.lst vs]) else .bad := rfl
@[simp] theorem evE_bin {op : Operator} {a b : Ex} : evE G call (.bin op a b) ρ m = (evE G call a ρ m).bind fun x m1 => (evE G call b ρ m1).bind fun y m2 => binV op x y m2 := rfl
@[simp] theorem evE_nt {a : Ex} : evE G call (.nt a) ρ m = (evE G call a ρ m).bind fun x m1 => tryB m1 x fun b => .ok (.bl (!b)) m1 := rfl
@[simp] theorem evE_and {a b : Ex} : evE G call (.and a b) ρ m = (evE G call a ρ m).bind fun x m1 => tryB m1 x fun k => if k then evE G call b ρ m1 else .ok x m1 := rfl
@[simp] theorem evE_or {a b : Ex} : evE G call (.or a b) ρ m = (evE G call a ρ m).bind fun x m1 => tryB m1 x fun k => if k then .ok x m1 else evE G call b ρ m1 := rfl
@[simp] theorem evE_cmp {op : CmpOp} {a b : Ex} : evE G call (.cmp op a b) ρ m = (evE G call a ρ m).bind fun x m1 => (evE G call b ρ m1).bind fun y m2 => cmpV op x y m2 := rfl
@[simp] theorem evE_ite {c a b : Ex} : evE G call (.ite c a b) ρ m = (evE G call c ρ m).bind fun x m1 => tryB m1 x fun k => if k then evE G call a ρ m1 else evE G call b ρ m1 := rfl
@[simp] theorem evE_ix {a b : Ex} : evE G call (.ix a b) ρ m = (evE G call a ρ m).bind fun x m1 => (evE G call b ρ m1).bind fun y m2 => ixV x y m2 := rfl
@[simp] theorem evE_sl {a lo hi : Ex} : evE G call (.sl a lo hi) ρ m = (evE G call a ρ m).bind fun x m1 => (evE G call lo ρ m1).bind fun y m2 => (evE G call hi ρ m2).bind fun z m3 => slV x y z m3 := rfl
@[simp] theorem evE_call {f : Str} {es : Exs} : evE G call (.call f es) ρ m = (evEs G call es ρ m).bind fun vs m1 => call f vs m1 := rfl
@[simp] theorem evE_bi {f : Bi} {es : Exs} : evE G call (.bi f es) ρ m = (evEs G call es ρ m).bind fun vs m1 => biV f vs m1 := rfl
@[simp] theorem evE_isi {a : Ex} {ts : List String} : evE G call (.isi a ts) ρ m = (evE G call a ρ m).bind fun x m1 => ofB (isiV m1 x ts) m1 := rfl
@[simp] theorem evEs_nil : evEs G call .nil ρ m = .ok [] m := rfl
@[simp] theorem evEs_cons {e : Ex} {es : Exs} : evEs G call (.cons e es) ρ m = (evE G call e ρ m).bind fun v m1 => (evEs G call es ρ m1).bind fun vs m2 => .ok (v :: vs) m2 := rfl
theorem evE_glb {x : Str} {v : Val} (h : G x = some v) : evE G call (.glb x) ρ m = .ok v m := by
  show (match G x with | some v => Rs.ok v m | none => .bad) = _
  rw [h]
@[simp] theorem evE_chk {a : Ex} : evE G call (.chk a) ρ m = (evE G call a ρ m).bind fun v m1 => (match v with | .int i => .ok (.int i) m1 | _ => .bad) := rfl
theorem evS_put {o i e : Ex} : evS G call (.put o i e) ρ m = (evE G call e ρ m).bind fun v m1 => (evE G call o ρ m1).bind fun x m2 => (evE G call i ρ m2).bind fun y m3 => (match setV x y v m3 with
    | some m4 => .ok (.nx, ρ) m4
    | none => .bad) := rfl
theorem evS_lup {t : Tg} {k : Ik} {it : Exs} {body : Sms} : evS G call (.lup t k it body) ρ m = (evEs G call it ρ m).bind fun vs m1 => (match srV k vs m1 with
    | some (s, n) => forGo s (fun v ρ m => bindT t v ρ m) (fun ρ m => evSs G call body ρ m) n 0 ρ m1
    | none => .bad) := rfl
@[simp] theorem bin_add {x y : Val} : binV .Add x y m = addV x y m := rfl
@[simp] theorem bin_sub {x y : Val} : binV .Sub x y m = subV x y m := rfl
@[simp] theorem bin_mul {x y : Val} : binV .Mult x y m = mulV x y m := rfl
@[simp] theorem bin_fdiv {x y : Val} : binV .FloorDiv x y m = fdivV x y m := rfl
@[simp] theorem bin_mod {x y : Val} : binV .Mod x y m = modV x y m := rfl
@[simp] theorem bin_pow {x y : Val} : binV .Pow x y m = powV x y m := rfl
@[simp] theorem add_int {i j : Int} : addV (.int i) (.int j) m = .ok (.int (i + j)) m := rfl
@[simp] theorem sub_int {i j : Int} : subV (.int i) (.int j) m = .ok (.int (i - j)) m := rfl
theorem mul_int {i j : Int} (h : i.natAbs < 18446744073709551616 ∨ j.natAbs < 18446744073709551616 ∨ i.natAbs.log2 + j.natAbs.log2 < 1000000) : mulV (.int i) (.int j) m = .ok (.int (i * j)) m := by
  refine if_pos ?_
  simp only [Bool.or_eq_true, decide_eq_true_eq]
  rcases h with h | h | h
  · exact .inl (.inl h)
  · exact .inl (.inr h)
  · exact .inr h
theorem mod_int {i j : Int} (h : 0 < j) : modV (.int i) (.int j) m = .ok (.int (i % j)) m := by
  exact if_pos h
theorem fdiv_int {i j : Int} (h : 0 < j) (h2 : j.natAbs.log2 < 9000) : fdivV (.int i) (.int j) m = .ok (.int (i / j)) m := by
  refine if_pos ?_
  simp only [Bool.and_eq_true, decide_eq_true_eq]
  exact ⟨h, h2⟩
@[simp] theorem cmp_lt {i j : Int} : cmpV .Lt (.int i) (.int j) m = .ok (.bl (decide (i < j))) m := rfl
@[simp] theorem cmp_le {i j : Int} : cmpV .LtE (.int i) (.int j) m = .ok (.bl (decide (i ≤ j))) m := rfl
@[simp] theorem cmp_gt {i j : Int} : cmpV .Gt (.int i) (.int j) m = .ok (.bl (decide (j < i))) m := rfl
@[simp] theorem cmp_ge {i j : Int} : cmpV .GtE (.int i) (.int j) m = .ok (.bl (decide (j ≤ i))) m := rfl
theorem cmp_in_def {x y : Val} : cmpV .In x y m = ofB (inV m x y) m := rfl
theorem cmp_notin_def {x y : Val} : cmpV .NotIn x y m = ofB ((inV m x y).map not) m := rfl
theorem cmp_eq_def {x y : Val} : cmpV .Eq x y m = ofB (eqV m x y) m := rfl
theorem cmp_ne_def {x y : Val} : cmpV .NotEq x y m = ofB ((eqV m x y).map not) m := rfl
@[simp] theorem bi_abs {i : Int} : biV .abs [.int i] m = .ok (.int (if i < 0 then -i else i)) m := rfl
theorem bi_len {v : Val} {vs : List Val} (h : lsOf m v = some vs) : biV .len [v] m = .ok (.int vs.length) m := by
  cases v with
  | ref l => show (match lsOf m (.ref l) with | some vs => Rs.ok (Val.int vs.length) m | none => Rs.bad) = _; rw [h]
  | rl ws => show (match lsOf m (.rl ws) with | some vs => Rs.ok (Val.int vs.length) m | none => Rs.bad) = _; rw [h]
  | _ => cases h
theorem ls_ref {l : Nat} {vs : List Val} (h : m[l]? = some (.lst vs)) : lsOf m (.ref l) = some vs := by
  show (match m[l]? with | some (.lst vs) => some vs | _ => none) = _
  rw [h]
theorem ix_ls {l : Nat} {i : Int} {vs : List Val} {v : Val} (h : m[l]? = some (.lst vs)) (h2 : L2.atI vs i = some v) : ixV (.ref l) (.int i) m = .ok v m := by
  show (match lsOf m (.ref l) with
    | some vs => (match L2.atI vs i with | some v => Rs.ok v m | none => .bad)
    | none => .bad) = _
  rw [ls_ref h]
  dsimp only
  rw [h2]
theorem ix_tup {i : Int} {vs : List Val} {v : Val} (h2 : L2.atI vs i = some v) : ixV (.tup vs) (.int i) m = .ok v m := by
  show (match L2.atI vs i with | some v => Rs.ok v m | none => .bad) = _
  rw [h2]
theorem set_ls {l : Nat} {k : Int} {vs : List Val} {v : Val} {j : Nat} (h : m[l]? = some (.lst vs)) (h2 : L2.ixN vs.length k = some j) : setV (.ref l) (.int k) v m = some (m.set l (.lst (vs.set j v))) := by
  show (match m[l]? with
    | some (.lst vs) => (L2.ixN vs.length k).map fun j => m.set l (.lst (vs.set j v))
    | _ => none) = _
  rw [h]
  dsimp only
  rw [h2]
  rfl
theorem at_nat {vs : List Val} {i : Int} (h0 : 0 ≤ i) (h1 : i < vs.length) : ∃ v, L2.atI vs i = some v ∧ vs[i.toNat]? = some v := by
  have hk : i.toNat < vs.length := by omega
  refine ⟨vs[i.toNat], ?_, List.getElem?_eq_getElem hk⟩
  have e : ((i.toNat : Nat) : Int) = i := by omega
  have q := L2.atI_nat (List.getElem?_eq_getElem hk)
  rw [e] at q
  exact q
end
/-- a for, by what holds at each turn; the body may return, Q then -/
theorem forGo_ok {s : Sr} {bd : Val → En → Mem → Option En} {body : En → Mem → Rs (Fl × En)} {Q : Fl × En → Mem → Prop} (I : Nat → En → Mem → Prop) (n : Nat)
    (step : ∀ i ρ m, i < n → I i ρ m → ∃ v ρ1, s.at m i = some (some v) ∧ bd v ρ m = some ρ1 ∧ Ok (body ρ1 m) fun r m' => match r.1 with
      | .nx => I (i + 1) r.2 m'
      | .ct => I (i + 1) r.2 m'
      | .bk => Q (.nx, r.2) m'
      | .rt v => Q (.rt v, r.2) m')
    (fin : ∀ ρ m, I n ρ m → s.at m n = some none ∧ Q (.nx, ρ) m) : ∀ (k i : Nat) (ρ : En) (m : Mem), i + k = n → I i ρ m → Ok (forGo s bd body k i ρ m) Q
  | 0, i, ρ, m, e, h => by
    have e : i = n := by omega
    subst e
    obtain ⟨h1, h2⟩ := fin ρ m h
    unfold forGo
    rw [h1]
    simpa using h2
  | k + 1, i, ρ, m, e, h => by
    obtain ⟨v, ρ1, h1, h2, h3⟩ := step i ρ m (by omega) h
    unfold forGo
    rw [h1]
    dsimp only
    rw [h2]
    dsimp only
    rw [Ok_bind]
    refine h3.mono fun r m' q => ?_
    obtain ⟨fl, ρ2⟩ := r
    cases fl with
    | nx => exact forGo_ok I n step fin k (i + 1) ρ2 m' (by omega) q
    | ct => exact forGo_ok I n step fin k (i + 1) ρ2 m' (by omega) q
    | bk => simpa using q
    | rt v => simpa using q
/-- what stands below n, but at p, stays -/
def Pres (p : Nat) (m m' : Mem) : Prop := m.length ≤ m'.length ∧ ∀ l o, l ≠ p → m[l]? = some o → m'[l]? = some o
theorem Pres.refl {p : Nat} {m : Mem} : Pres p m m := ⟨Nat.le_refl _, fun _ _ _ h => h⟩
theorem Pres.trans {p : Nat} {a b c : Mem} (x : Pres p a b) (y : Pres p b c) : Pres p a c := ⟨Nat.le_trans x.1 y.1, fun l o h e => y.2 l o h (x.2 l o h e)⟩
theorem Pres.app {p : Nat} {m t : Mem} : Pres p m (m ++ t) := ⟨by simp, fun l o _ h => by rw [List.getElem?_append_left (List.getElem?_eq_some_iff.mp h).1]; exact h⟩
theorem Pres.set {p : Nat} {m : Mem} {o : Ob} : Pres p m (m.set p o) := ⟨by simp, fun l u h e => by rw [List.getElem?_set_ne (Ne.symm h)]; exact e⟩
theorem app_at {m t : Mem} {l : Nat} {o : Ob} (h : m[l]? = some o) : (m ++ t)[l]? = some o := by rw [List.getElem?_append_left (List.getElem?_eq_some_iff.mp h).1]; exact h
theorem set_at {m : Mem} {l : Nat} {o u : Ob} (h : m[l]? = some o) : (m.set l u)[l]? = some u := List.getElem?_set_self (List.getElem?_eq_some_iff.mp h).1
end Pv
end SPvL

section SLwA
set_option Elab.async false
set_option linter.all false
set_option maxRecDepth 100000
set_option maxHeartbeats 2000000
namespace Lw
open PySem (Str)
open Pv
theorem szl {n : Nat} (h : n ≤ 1000) : n ≤ PySem.sizeLine := Nat.le_trans h (by rw [PySem.sizeLine_eq]; decide)
theorem in2 {m : Mem} {a b c : String} : cmpV .In (.str c) (.tup [.str a, .str b]) m = .ok (.bl (a == c || b == c)) m := by
  rw [cmp_in_def]
  have e : inV m (.str (Str.ofString c)) (.tup [.str (Str.ofString a), .str (Str.ofString b)]) = some (a == c || b == c) := by
    show (if (true && (true && (true && true))) = true then some ((Str.ofString a == Str.ofString c) || ((Str.ofString b == Str.ofString c) || false)) else none) = _
    rw [ofString_beq, ofString_beq, Bool.or_false]
    rfl
  rw [e]
  rfl
theorem strOk_ofString (s : String) : PySem.PyData.strOk (Str.ofString s) = true := by
  rw [Str.ofString_eq_toList]
  unfold PySem.PyData.strOk
  rw [← Array.all_toList]
  simp only [List.all_eq_true, List.mem_map]
  rintro x ⟨c, _, rfl⟩
  have h := c.valid
  simp only [UInt32.isValidChar, Nat.isValidChar] at h
  have : c.toNat = c.val.toNat := rfl
  simp only [decide_eq_true_eq]
  omega
theorem eq_str {m : Mem} {a b : String} : cmpV .Eq (.str a) (.str b) m = .ok (.bl (a == b)) m := by
  rw [cmp_eq_def]
  have e : eqV m (.str (Str.ofString a)) (.str (Str.ofString b)) = some (a == b) := by
    unfold eqV
    simp only [toD]
    have h : ∀ s : String, PySem.SeqAt.shaped (.str (Str.ofString s)) = true := fun s => by
      unfold PySem.SeqAt.shaped
      rw [show PySem.PyData.canLay0 (.str (Str.ofString s)) = PySem.PyData.strOk (Str.ofString s) from by simp [PySem.PyData.canLay0], strOk_ofString]
      simp [PySem.PyData.depth]
    rw [h, h]
    simp only [Bool.and_self, if_true, PySem.PyData.eqv, ofString_beq]
  rw [e]
  rfl
theorem shaped_int (i : Int) : PySem.SeqAt.shaped (.int i) = true := by simp [PySem.SeqAt.shaped, PySem.PyData.canLay0, PySem.PyData.depth]
theorem shaped_pair (i j : Int) : PySem.SeqAt.shaped (.tuple [.int i, .int j]) = true := by simp [PySem.SeqAt.shaped, PySem.PyData.canLay0, PySem.PyData.canLayAll0, PySem.PyData.depth, PySem.PyData.depthAll]
theorem eq_int {m : Mem} {i j : Int} : cmpV .Eq (.int i) (.int j) m = .ok (.bl (i == j)) m := by
  rw [cmp_eq_def]
  have e : eqV m (.int i) (.int j) = some (i == j) := by
    unfold eqV
    simp only [toD, shaped_int, Bool.and_self, if_true, PySem.PyData.eqv]
  rw [e]; rfl
theorem ne_int {m : Mem} {i j : Int} : cmpV .NotEq (.int i) (.int j) m = .ok (.bl (!(i == j))) m := by
  rw [cmp_ne_def]
  have e : eqV m (.int i) (.int j) = some (i == j) := by
    unfold eqV
    simp only [toD, shaped_int, Bool.and_self, if_true, PySem.PyData.eqv]
  rw [e]; rfl
theorem eq_pair {m : Mem} {i j k l : Int} : cmpV .Eq (.tup [.int i, .int j]) (.tup [.int k, .int l]) m = .ok (.bl (i == k && j == l)) m := by
  rw [cmp_eq_def]
  have e : eqV m (.tup [.int i, .int j]) (.tup [.int k, .int l]) = some (i == k && j == l) := by
    unfold eqV
    simp only [toD, allD, Option.bind_some, Option.map_some, shaped_pair, Bool.and_self, if_true, PySem.PyData.eqv, PySem.PyData.eqvAll, Bool.and_true]
  rw [e]; rfl
theorem eq_bl {m : Mem} {i j : Bool} : cmpV .Eq (.bl i) (.bl j) m = .ok (.bl (i == j)) m := by
  rw [cmp_eq_def]
  have e : eqV m (.bl i) (.bl j) = some (i == j) := by
    unfold eqV
    have h : ∀ b : Bool, PySem.SeqAt.shaped (.bool b) = true := fun b => by simp [PySem.SeqAt.shaped, PySem.PyData.canLay0, PySem.PyData.depth]
    simp only [toD, h, Bool.and_self, if_true, PySem.PyData.eqv]
  rw [e]; rfl
theorem eq_non {m : Mem} : cmpV .Eq .non .non m = .ok (.bl true) m := by
  rw [cmp_eq_def]
  have e : eqV m .non .non = some true := by
    unfold eqV
    have h : PySem.SeqAt.shaped .none = true := by simp [PySem.SeqAt.shaped, PySem.PyData.canLay0, PySem.PyData.depth]
    simp only [toD, h, Bool.and_self, if_true, PySem.PyData.eqv]
  rw [e]; rfl
theorem isi_i {m : Mem} {i : Int} {t : String} : isiV m (.int i) [t] = some (isSub "int" t) := by
  show some ([t].any (isSub "int")) = _
  simp
theorem isi_t {m : Mem} {vs : List Val} {t : String} : isiV m (.tup vs) [t] = some (isSub "tuple" t) := by
  show some ([t].any (isSub "tuple")) = _
  simp
theorem isi_n {m : Mem} {t : String} : isiV m .non [t] = some (isSub "NoneType" t) := by
  show some ([t].any (isSub "NoneType")) = _
  simp
theorem isi_s {m : Mem} {s : Str} {t : String} : isiV m (.str s) [t] = some (isSub "str" t) := by
  show some ([t].any (isSub "str")) = _
  simp
def d__law_take : Df := ⟨2, 5, (.cons (.ite (.cmp .Gt (.ix (.var 0) (.lit (.int 2))) (.lit (.int 0))) (.cons (.asg (.nm 2) (.bin .Mod (.ix (.var 0) (.lit (.int 2))) (.var 1)))
    (.cons (.put (.var 0) (.lit (.int 2)) (.bin .FloorDiv (.ix (.var 0) (.lit (.int 2))) (.var 1)))
    (.cons (.ret (.var 2))
    .nil))) .nil)
  (.cons (.asg (.nm 3) (.lit (.int 29)))
  (.cons (.ite (.cmp .Gt (.bi .len (.cons (.ix (.var 0) (.lit (.int 0))) .nil)) (.lit (.int 0))) (.cons (.asg (.nm 3) (.ix (.ix (.var 0) (.lit (.int 0))) (.bin .Mod (.ix (.var 0) (.lit (.int 1))) (.bi .len (.cons (.ix (.var 0) (.lit (.int 0))) .nil)))))
    .nil) .nil)
  (.cons (.put (.var 0) (.lit (.int 1)) (.bin .Add (.ix (.var 0) (.lit (.int 1))) (.lit (.int 1))))
  (.cons (.ite (.and (.cmp .LtE (.ix (.var 0) (.lit (.int 1))) (.bi .len (.cons (.ix (.var 0) (.lit (.int 0))) .nil))) (.cmp .GtE (.bi .abs (.cons (.var 3) .nil)) (.bin .Pow (.lit (.int 10)) (.lit (.int 18))))) (.cons (.put (.var 0) (.lit (.int 2)) (.bin .FloorDiv (.bi .abs (.cons (.var 3) .nil)) (.var 1)))
    (.cons (.ret (.bin .Mod (.bi .abs (.cons (.var 3) .nil)) (.var 1)))
    .nil)) .nil)
  (.cons (.asg (.nm 4) (.bin .Mod (.bin .Mult (.bin .Add (.bin .Add (.bin .Mod (.var 3) (.lit (.int 2147483629))) (.bin .Mult (.lit (.int 40692)) (.ix (.var 0) (.lit (.int 1))))) (.lit (.int 7919))) (.lit (.int 48271))) (.lit (.int 2147483647))))
  (.cons (.asg (.nm 4) (.bin .Mod (.bin .Add (.bin .Mult (.var 4) (.var 4)) (.bin .Mult (.lit (.int 69621)) (.ix (.var 0) (.lit (.int 1))))) (.lit (.int 2147483629))))
  (.cons (.ret (.bin .Mod (.bin .FloorDiv (.bin .Mod (.bin .Add (.bin .Mult (.var 4) (.var 4)) (.bin .Mult (.lit (.int 16807)) (.var 4))) (.lit (.int 2147483587))) (.lit (.int 64))) (.var 1)))
  .nil))))))))⟩
/-- the feed: the script's ints at 0, the feed itself at 1 -/
def Feed (m : Mem) : Prop := ∃ (ns : List Int) (a b : Int), m[0]? = some (.lst (ns.map Val.int)) ∧ m[1]? = some (.lst [.ref 0, .int a, .int b]) ∧ 0 ≤ a
variable {G : Str → Option Val} {D : Str → Option Df}
theorem take_ok (hD : D "_law_take" = some d__law_take) (n : Nat) {m : Mem} (hF : Feed m) {k : Int} (hk : 0 < k) (hk2 : k.natAbs.log2 < 9000) :
    Ok (callF G D (n + 1) "_law_take" [.ref 1, .int k] m) fun r m' => ∃ i, r = .int i ∧ 0 ≤ i ∧ i < k ∧ Feed m' ∧ Pres 1 m m' := by
  obtain ⟨ns, a, b, h0, h1, ha⟩ := hF
  rw [callF_eq hD rfl, Ok_bind]
  have e0 : ∀ (x y z : Val), L2.atI [x, y, z] 0 = some x := fun _ _ _ => rfl
  have e1 : ∀ (x y z : Val), L2.atI [x, y, z] 1 = some y := fun _ _ _ => rfl
  have e2 : ∀ (x y z : Val), L2.atI [x, y, z] 2 = some z := fun _ _ _ => rfl
  have s1 : ∀ v, setV (.ref 1) (.int 1) v m = some (m.set 1 (.lst [.ref 0, v, .int b])) := fun v => by rw [set_ls h1 (j := 1) rfl]; rfl
  have s2 : ∀ v, setV (.ref 1) (.int 2) v m = some (m.set 1 (.lst [.ref 0, .int a, v])) := fun v => by rw [set_ls h1 (j := 2) rfl]; rfl
  have h0' : ∀ v, (m.set 1 v)[0]? = some (.lst (ns.map Val.int)) := fun v => by rw [List.getElem?_set_ne (by decide)]; exact h0
  have h1' : ∀ v, (m.set 1 v)[1]? = some v := fun v => set_at h1
  have feed' : ∀ x y : Int, 0 ≤ x → Feed (m.set 1 (.lst [.ref 0, .int x, .int y])) := fun x y hx => ⟨ns, x, y, h0' _, h1' _, hx⟩
  by_cases hb : 0 < b
  · simp [d__law_take, start, ix_ls h1 (e2 _ _ _), hb, mod_int hk, fdiv_int hk hk2, evS_put, s2]
    exact ⟨Int.emod_nonneg _ (by omega), Int.emod_lt_of_pos _ hk, feed' _ _ ha, Pres.set⟩
  · have last : ∀ (c : Int), Ok (evSs G (callF G D n) (.cons (.put (.var 0) (.lit (.int 1)) (.bin .Add (.ix (.var 0) (.lit (.int 1))) (.lit (.int 1))))
  (.cons (.ite (.and (.cmp .LtE (.ix (.var 0) (.lit (.int 1))) (.bi .len (.cons (.ix (.var 0) (.lit (.int 0))) .nil))) (.cmp .GtE (.bi .abs (.cons (.var 3) .nil)) (.bin .Pow (.lit (.int 10)) (.lit (.int 18))))) (.cons (.put (.var 0) (.lit (.int 2)) (.bin .FloorDiv (.bi .abs (.cons (.var 3) .nil)) (.var 1)))
    (.cons (.ret (.bin .Mod (.bi .abs (.cons (.var 3) .nil)) (.var 1)))
    .nil)) .nil)
  (.cons (.asg (.nm 4) (.bin .Mod (.bin .Mult (.bin .Add (.bin .Add (.bin .Mod (.var 3) (.lit (.int 2147483629))) (.bin .Mult (.lit (.int 40692)) (.ix (.var 0) (.lit (.int 1))))) (.lit (.int 7919))) (.lit (.int 48271))) (.lit (.int 2147483647))))
  (.cons (.asg (.nm 4) (.bin .Mod (.bin .Add (.bin .Mult (.var 4) (.var 4)) (.bin .Mult (.lit (.int 69621)) (.ix (.var 0) (.lit (.int 1))))) (.lit (.int 2147483629))))
  (.cons (.ret (.bin .Mod (.bin .FloorDiv (.bin .Mod (.bin .Add (.bin .Mult (.var 4) (.var 4)) (.bin .Mult (.lit (.int 16807)) (.var 4))) (.lit (.int 2147483587))) (.lit (.int 64))) (.var 1)))
  .nil))))) [some (.ref 1), some (.int k), none, some (.int c), none] m) fun r m' => Ok (endV r m') fun r m' => ∃ i, r = .int i ∧ 0 ≤ i ∧ i < k ∧ Feed m' ∧ Pres 1 m m' := by
      intro c
      have p18 : powV (.int 10) (.int 18) = fun m => .ok (.int 1000000000000000000) m := by
        funext m
        rfl
      have q1 : ∀ x : Int, (x % 2147483647).natAbs < 18446744073709551616 := fun x => by
        have := Int.emod_nonneg x (b := 2147483647) (by decide)
        have := Int.emod_lt_of_pos x (b := 2147483647) (by decide)
        omega
      have q2 : ∀ x : Int, (x % 2147483629).natAbs < 18446744073709551616 := fun x => by
        have := Int.emod_nonneg x (b := 2147483629) (by decide)
        have := Int.emod_lt_of_pos x (b := 2147483629) (by decide)
        omega
      have s2' : ∀ v w x, setV (.ref 1) (.int 2) v (m.set 1 (.lst [.ref 0, w, x])) = some (m.set 1 (.lst [.ref 0, w, v])) := fun v w x => by
        rw [set_ls (h1' _) (j := 2) rfl, List.set_set]; rfl
      have hash : Ok (evSs G (callF G D n) (.cons (.asg (.nm 4) (.bin .Mod (.bin .Mult (.bin .Add (.bin .Add (.bin .Mod (.var 3) (.lit (.int 2147483629))) (.bin .Mult (.lit (.int 40692)) (.ix (.var 0) (.lit (.int 1))))) (.lit (.int 7919))) (.lit (.int 48271))) (.lit (.int 2147483647))))
  (.cons (.asg (.nm 4) (.bin .Mod (.bin .Add (.bin .Mult (.var 4) (.var 4)) (.bin .Mult (.lit (.int 69621)) (.ix (.var 0) (.lit (.int 1))))) (.lit (.int 2147483629))))
  (.cons (.ret (.bin .Mod (.bin .FloorDiv (.bin .Mod (.bin .Add (.bin .Mult (.var 4) (.var 4)) (.bin .Mult (.lit (.int 16807)) (.var 4))) (.lit (.int 2147483587))) (.lit (.int 64))) (.var 1)))
  .nil))) [some (.ref 1), some (.int k), none, some (.int c), none] (m.set 1 (.lst [.ref 0, .int (a + 1), .int b]))) fun r m' => Ok (endV r m') fun r m' => ∃ i, r = .int i ∧ 0 ≤ i ∧ i < k ∧ Feed m' ∧ Pres 1 m m' := by
        simp [ix_ls (h1' _) (e1 _ _ _), mod_int (j := 2147483629) (by decide), mod_int (j := 2147483647) (by decide), mod_int (j := 2147483587) (by decide), mul_int (i := 40692) (.inl (by decide)), mul_int (i := 69621) (.inl (by decide)), mul_int (i := 16807) (.inl (by decide)), mul_int (j := 48271) (.inr (.inl (by decide))), mul_int (.inl (q1 _)), mul_int (.inl (q2 _)), fdiv_int (j := 64) (by decide) (by decide), mod_int hk]
        exact ⟨Int.emod_nonneg _ (by omega), Int.emod_lt_of_pos _ hk, feed' _ _ (by omega), Pres.set⟩
      rw [evSs_cons, evS_put]
      simp only [evE_bin, evE_ix, evE_var, evE_lit, getS_cons0, getS_cons, Rs.bind_ok, ix_ls h1 (e1 _ _ _), bin_add, add_int, s1, nxS_nx]
      rw [evSs_cons, evS_ite]
      by_cases h5 : a + 1 ≤ (ns.length : Int)
      · by_cases h6 : (1000000000000000000 : Int) ≤ if c < 0 then -c else c
        · simp [evS_put, ix_ls (h1' _) (e1 _ _ _), ix_ls (h1' _) (e0 _ _ _), bi_len (ls_ref (h0' _)), p18, h5, h6, fdiv_int hk hk2, mod_int hk, s2']
          exact ⟨Int.emod_nonneg _ (by omega), Int.emod_lt_of_pos _ hk, feed' _ _ (by omega), Pres.set⟩
        · simp only [evE_and, evE_cmp, evE_bin, evE_ix, evE_var, evE_lit, getS_cons0, getS_cons, Rs.bind_ok, ix_ls (h1' _) (e1 _ _ _), ix_ls (h1' _) (e0 _ _ _), evE_bi, evEs_cons, evEs_nil, bi_len (ls_ref (h0' _)), p18, cmp_le, cmp_ge, bi_abs, bin_pow, tryB_bl, List.length_map, h5, h6, decide_true, decide_false, if_true, if_false, truth_bl, iteB_some, evSs_nil, nxS_nx, Bool.false_eq_true, ↓reduceIte]
          exact hash
      · simp only [evE_and, evE_cmp, evE_bin, evE_ix, evE_var, evE_lit, getS_cons0, getS_cons, Rs.bind_ok, ix_ls (h1' _) (e1 _ _ _), ix_ls (h1' _) (e0 _ _ _), evE_bi, evEs_cons, evEs_nil, bi_len (ls_ref (h0' _)), p18, cmp_le, cmp_ge, bi_abs, bin_pow, tryB_bl, List.length_map, h5, decide_true, decide_false, if_true, if_false, truth_bl, iteB_some, evSs_nil, nxS_nx, Bool.false_eq_true, ↓reduceIte]
        exact hash
    by_cases hn : ns = []
    · subst hn
      simp only [d__law_take, start, List.map, List.length, List.replicate, List.cons_append, List.nil_append, Nat.reduceSub]
      rw [evSs_cons, evS_ite]
      simp only [evE_cmp, evE_ix, evE_var, evE_lit, getS_cons0, getS_cons, Rs.bind_ok, ix_ls h1 (e2 _ _ _), cmp_gt, truth_bl, iteB_some, hb, decide_false, Bool.false_eq_true, ↓reduceIte, evSs_nil, nxS_nx]
      rw [evSs_cons, evS_asg]
      simp only [evE_lit, Rs.bind_ok, nxS_nx, List.set]
      rw [evSs_cons, evS_ite]
      simp only [evE_cmp, evE_ix, evE_var, evE_lit, getS_cons0, getS_cons, Rs.bind_ok, ix_ls h1 (e0 _ _ _), evE_bi, evEs_cons, evEs_nil, bi_len (ls_ref h0), List.length_nil, List.map_nil, cmp_gt, truth_bl, iteB_some, evSs_nil, nxS_nx]
      exact last 29
    · have hlen : 0 < (ns.length : Int) := by
        have := List.length_pos_iff.mpr hn
        omega
      obtain ⟨v, hv, hv2⟩ := at_nat (vs := ns.map Val.int) (i := a % (ns.length : Int)) (Int.emod_nonneg _ (by omega)) (by rw [List.length_map]; exact Int.emod_lt_of_pos _ hlen)
      rw [List.getElem?_map] at hv2
      obtain ⟨c, hc⟩ : ∃ c, v = .int c := by
        cases q : ns[(a % (ns.length : Int)).toNat]? with
        | none => rw [q] at hv2; cases hv2
        | some c => rw [q] at hv2; exact ⟨c, (Option.some.inj hv2).symm⟩
      subst hc
      simp only [d__law_take, start, List.map, List.length, List.replicate, List.cons_append, List.nil_append, Nat.reduceSub]
      rw [evSs_cons, evS_ite]
      simp only [evE_cmp, evE_ix, evE_var, evE_lit, getS_cons0, getS_cons, Rs.bind_ok, ix_ls h1 (e2 _ _ _), cmp_gt, truth_bl, iteB_some, hb, decide_false, Bool.false_eq_true, ↓reduceIte, evSs_nil, nxS_nx]
      rw [evSs_cons, evS_asg]
      simp only [evE_lit, Rs.bind_ok, nxS_nx, List.set]
      rw [evSs_cons, evS_ite]
      simp only [evE_cmp, evE_ix, evE_var, evE_lit, getS_cons0, getS_cons, Rs.bind_ok, ix_ls h1 (e0 _ _ _), ix_ls h1 (e1 _ _ _), evE_bi, evEs_cons, evEs_nil, bi_len (ls_ref h0), List.length_map, cmp_gt, truth_bl, iteB_some, evSs_nil, nxS_nx, hlen, decide_true, ↓reduceIte, evSs_cons, evS_asg, evE_bin, bin_mod, mod_int hlen, ix_ls h0 hv, List.set]
      exact last c
end Lw
end SLwA

section SLwB0
set_option Elab.async false
set_option linter.all false
set_option maxRecDepth 100000
set_option maxHeartbeats 2000000
namespace Lw
open PySem (Str)
open Pv
theorem fold_rep (k : Nat) (acc : Array Nat) : ((List.replicate k #[48]).foldl (· ++ ·) acc).toList = acc.toList ++ List.replicate k 48 := by
  induction k generalizing acc with
  | zero => simp
  | succ k ih =>
    rw [List.replicate_succ, List.foldl_cons, ih, List.replicate_succ]
    simp
theorem mul_tl (q : Int) (h : 0 ≤ q) : (PySem.Txt.mul (Str.ofString "0") q).cps.toList = List.replicate q.toNat 48 := by
  have e : (Str.ofString "0").cps = #[48] := by decide +kernel
  have e2 : (Str.ofString "0").length = 1 := by decide +kernel
  unfold PySem.Txt.mul
  by_cases h1 : q < 1
  · rw [if_pos h1]
    have : q = 0 := by omega
    subst this
    rfl
  · rw [if_neg h1, e2]
    by_cases h2 : q = 1
    · subst h2
      rw [if_pos (by decide), e]
      rfl
    · rw [if_neg (by simp [h2]), e]
      show ((List.replicate q.toNat #[48]).foldl (· ++ ·) #[]).toList = _
      rw [fold_rep]
      simp
def tenS (q : Int) : Str := Str.ofString "1" ++ PySem.Txt.mul (Str.ofString "0") q
theorem tenS_tl (q : Int) (h : 0 ≤ q) : (tenS q).cps.toList = 49 :: List.replicate q.toNat 48 := by
  have e : (Str.ofString "1").cps = #[49] := by decide +kernel
  show ((Str.ofString "1").cps ++ (PySem.Txt.mul (Str.ofString "0") q).cps).toList = _
  rw [Array.toList_append, mul_tl q h, e]
  rfl
theorem fold_ten (k : Nat) (a : Nat) : (List.replicate k 48).foldl (fun acc c => acc * 10 + (c - 48)) a = a * 10 ^ k := by
  induction k generalizing a with
  | zero => simp
  | succ k ih =>
    rw [List.replicate_succ, List.foldl_cons, ih, Nat.pow_succ]
    simp [Nat.mul_assoc, Nat.mul_comm]
theorem len_tl (x : Str) : x.length = x.cps.toList.length := by
  show x.cps.size = _
  rw [Array.length_toList]
theorem ten_of (q : Int) (h : 0 ≤ q) (h2 : q ≤ 639) : PySem.intText? (tenS q) = some (10 ^ q.toNat) ∧ (tenS q).length ≤ 640 ∧ (Str.ofString "1").length + (PySem.Txt.mul (Str.ofString "0") q).length ≤ 16777216 ∧ 0 ≤ q ∧ q ≤ 1000000 := by
  have e1 : (Str.ofString "1").length = 1 := by decide +kernel
  refine ⟨?_, ?_, ?_, h, by omega⟩
  · rw [PySem.intText_digits]
    · unfold PySem.NumText.digitsVal
      rw [tenS_tl q h, List.foldl_cons, fold_ten]
      simp
    · rw [tenS_tl q h]
      intro c hc
      rw [List.mem_cons] at hc
      rcases hc with rfl | hc
      · decide
      · rw [(List.mem_replicate.mp hc).2]; decide
    · rw [tenS_tl q h]; simp
    · rw [len_tl, tenS_tl q h]; simp; omega
  · rw [len_tl, tenS_tl q h]; simp; omega
  · rw [e1, len_tl, mul_tl q h]; simp; omega
end Lw
end SLwB0

section SLwB
set_option Elab.async false
set_option linter.all false
set_option maxRecDepth 100000
set_option maxHeartbeats 2000000
namespace Lw
open PySem (Str)
open Pv
def d__law_ten : Df := ⟨1, 1, (.cons (.ret (.bi .int (.cons (.bin .Add (.lit (.str "1")) (.bin .Mult (.lit (.str "0")) (.var 0))) .nil)))
  .nil)⟩
def d__law_number : Df := ⟨1, 3, (.cons (.asg (.nm 1) (.call "_law_take" (.cons (.var 0) (.cons (.lit (.int 4)) .nil))))
  (.cons (.ite (.cmp .Lt (.var 1) (.lit (.int 2))) (.cons (.ret (.bin .Sub (.call "_law_take" (.cons (.var 0) (.cons (.lit (.int 7)) .nil))) (.lit (.int 3))))
    .nil) .nil)
  (.cons (.asg (.nm 2) (.ix (.lst (.cons (.lit (.int 29)) (.cons (.lit (.int 59)) (.cons (.lit (.int 199)) (.cons (.lit (.int 200)) (.cons (.lit (.int 201)) (.cons (.lit (.int 298)) (.cons (.lit (.int 399)) (.cons (.lit (.int 399)) .nil))))))))) (.call "_law_take" (.cons (.var 0) (.cons (.lit (.int 8)) .nil)))))
  (.cons (.ret (.bin .Mult (.bin .Sub (.lit (.int 1)) (.bin .Mult (.lit (.int 2)) (.call "_law_take" (.cons (.var 0) (.cons (.lit (.int 2)) .nil))))) (.bin .Sub (.bin .Mult (.call "_law_ten" (.cons (.var 2) .nil)) (.bin .Add (.lit (.int 1)) (.call "_law_take" (.cons (.var 0) (.cons (.lit (.int 9)) .nil))))) (.call "_law_take" (.cons (.var 0) (.cons (.lit (.int 3)) .nil))))))
  .nil))))⟩
variable {G : Str → Option Val} {D : Str → Option Df}
theorem ten_ok (hD : D "_law_ten" = some d__law_ten) (n : Nat) {m : Mem} {q : Int} (hq : 0 ≤ q) (hq2 : q ≤ 639) : callF G D (n + 1) "_law_ten" [.int q] m = .ok (.int (10 ^ q.toNat)) m := by
  obtain ⟨h1, h2, h3, h4, h5⟩ := ten_of q hq hq2
  rw [callF_eq hD rfl]
  have e1 : mulV (.str (Str.ofString "0")) (.int q) m = .ok (.str (PySem.Txt.mul (Str.ofString "0") q)) m := by
    refine if_pos ?_
    simp only [Bool.and_eq_true, decide_eq_true_eq]
    exact ⟨⟨h4, h5⟩, by decide +kernel⟩
  have e2 : addV (.str (Str.ofString "1")) (.str (PySem.Txt.mul (Str.ofString "0") q)) m = .ok (.str (tenS q)) m := if_pos (by rw [PySem.sizeLine_eq]; exact h3)
  have e3 : biV .int [.str (tenS q)] m = .ok (.int (10 ^ q.toNat)) m := by
    show (if (tenS q).length ≤ 640 then (match PySem.intText? (tenS q) with | some n => Rs.ok (Val.int n) m | none => Rs.bad) else Rs.bad) = _
    rw [if_pos h2, h1]
  simp only [d__law_ten, start, List.map, List.length, List.replicate, List.cons_append, List.nil_append, evSs_cons, evS_ret, evE_bi, evEs_cons, evEs_nil, evE_bin, evE_lit, evE_var, getS_cons0, Rs.bind_ok, bin_mul, bin_add, e1, e2, e3, nxS_rt, endV_rt]
theorem feed_app {m t : Mem} (h : Feed m) : Feed (m ++ t) := by
  obtain ⟨ns, a, b, h0, h1, ha⟩ := h
  exact ⟨ns, a, b, app_at h0, app_at h1, ha⟩
theorem feed_len {m : Mem} (h : Feed m) : 2 ≤ m.length := by
  obtain ⟨ns, a, b, h0, h1, ha⟩ := h
  exact (List.getElem?_eq_some_iff.mp h1).1
theorem small400 {a : Int} (h : a.natAbs ≤ 10) : a.natAbs < 10 ^ 400 := Nat.lt_of_le_of_lt h (by decide +kernel)
theorem num_bd {t u x q : Int} (ht0 : 0 ≤ t) (ht1 : t < 2) (hu0 : 0 ≤ u) (hu1 : u < 9) (hx0 : 0 ≤ x) (hx1 : x < 3) (hq : q ≤ 399) : ((1 - 2 * t) * (10 ^ q.toNat * (1 + u) - x)).natAbs < 10 ^ 400 := by
  have e : (1 - 2 * t).natAbs = 1 := by omega
  rw [Int.natAbs_mul, e, Nat.one_mul]
  have h1 : (10 : Nat) ^ (q.toNat + 1) ≤ 10 ^ 400 := Nat.pow_le_pow_right (by decide) (by omega)
  rw [Nat.pow_succ] at h1
  have h2 : 0 < (10 : Nat) ^ q.toNat := Nat.pow_pos (by decide)
  have h3 : (10 : Int) ^ q.toNat = (((10 : Nat) ^ q.toNat : Nat) : Int) := by rw [Int.natCast_pow]; rfl
  rw [h3]
  generalize (10 : Nat) ^ q.toNat = T at h1 h2 ⊢
  generalize (10 : Nat) ^ 400 = U at h1 ⊢
  have h4 : (T : Int) * (1 + u) ≤ T * 9 := Int.mul_le_mul_of_nonneg_left (by omega) (by omega)
  have h5 : (T : Int) * 1 ≤ T * (1 + u) := Int.mul_le_mul_of_nonneg_left (by omega) (by omega)
  generalize (T : Int) * (1 + u) = V at h4 h5 ⊢
  omega
theorem number_ok (hT : D "_law_take" = some d__law_take) (hN : D "_law_ten" = some d__law_ten) (hD : D "_law_number" = some d__law_number) (n : Nat) {m : Mem} (hF : Feed m) :
    Ok (callF G D (n + 2) "_law_number" [.ref 1] m) fun r m' => (∃ i, r = .int i ∧ i.natAbs < 10 ^ 400) ∧ Feed m' ∧ Pres 1 m m' := by
  have tk := fun (m : Mem) (hF : Feed m) (k : Int) (hk : 0 < k) (hk2 : k.natAbs.log2 < 9000) => take_ok (G := G) hT n hF hk hk2
  rw [callF_eq hD rfl, Ok_bind]
  simp only [d__law_number, start, List.map, List.length, List.replicate, List.cons_append, List.nil_append]
  rw [evSs_cons, Ok_bind, evS_asg, Ok_bind]
  simp only [evE_call, evEs_cons, evEs_nil, evE_var, evE_lit, getS_cons0, Rs.bind_ok]
  refine (tk m hF 4 (by decide) (by decide)).mono fun r m1 h => ?_
  obtain ⟨i, rfl, hi0, hi1, hF1, p1⟩ := h
  simp only [Ok_ok, nxS_nx, List.set]
  rw [evSs_cons, Ok_bind, evS_ite]
  simp only [evE_cmp, evE_var, evE_lit, getS_cons0, getS_cons, Rs.bind_ok, cmp_lt, truth_bl, iteB_some]
  by_cases h2 : i < 2
  · simp only [h2, decide_true, ↓reduceIte, evSs_cons, evS_ret, evE_bin, evE_call, evEs_cons, evEs_nil, evE_var, evE_lit, getS_cons0, Rs.bind_ok, Ok_bind]
    refine (tk m1 hF1 7 (by decide) (by decide)).mono fun r m2 h => ?_
    obtain ⟨j, rfl, hj0, hj1, hF2, p2⟩ := h
    simp only [Ok_ok, bin_sub, sub_int, Rs.bind_ok, nxS_rt, endV_rt]
    exact ⟨⟨_, rfl, small400 (by omega)⟩, hF2, p1.trans p2⟩
  · simp only [h2, decide_false, Bool.false_eq_true, ↓reduceIte, evSs_nil, Ok_ok, nxS_nx]
    rw [evSs_cons, Ok_bind, evS_asg, Ok_bind]
    have hz : (8 : Nat) ≤ PySem.sizeLine := by rw [PySem.sizeLine_eq]; decide
    simp only [evE_ix, evE_lst, evE_call, evEs_cons, evEs_nil, evE_var, evE_lit, getS_cons0, Rs.bind_ok, List.length, Nat.zero_add, Nat.reduceAdd, hz, ↓reduceIte, Ok_bind]
    refine (tk _ (feed_app hF1) 8 (by decide) (by decide)).mono fun r m2 h => ?_
    obtain ⟨j, rfl, hj0, hj1, hF2, p2⟩ := h
    have hl1 := feed_len hF1
    have hL : m2[m1.length]? = some (.lst [.int 29, .int 59, .int 199, .int 200, .int 201, .int 298, .int 399, .int 399]) := p2.2 _ _ (by omega) (by simp)
    obtain ⟨v, hv, hv2⟩ := at_nat (vs := [Val.int 29, .int 59, .int 199, .int 200, .int 201, .int 298, .int 399, .int 399]) (i := j) hj0 (by simpa using hj1)
    obtain ⟨q, rfl, hq⟩ : ∃ q, v = .int q ∧ 0 ≤ q ∧ q ≤ 399 := by
      have hm := List.mem_of_getElem? hv2
      simp only [List.mem_cons, List.not_mem_nil, or_false] at hm
      rcases hm with h | h | h | h | h | h | h | h <;> exact ⟨_, h, by decide, by decide⟩
    simp only [ix_ls hL hv, Ok_ok, nxS_nx, List.set]
    rw [evSs_cons, Ok_bind, evS_ret]
    simp only [evE_bin, evE_call, evEs_cons, evEs_nil, evE_var, evE_lit, getS_cons0, getS_cons, Rs.bind_ok, Ok_bind, Ok_ok]
    refine (tk m2 hF2 2 (by decide) (by decide)).mono fun r m3 h => ?_
    obtain ⟨t, rfl, ht0, ht1, hF3, p3⟩ := h
    simp only [bin_mul, mul_int (i := 2) (.inl (by decide)), Ok_ok, bin_sub, sub_int, ten_ok hN n hq.1 (by omega), Rs.bind_ok]
    refine (tk m3 hF3 9 (by decide) (by decide)).mono fun r m4 h => ?_
    obtain ⟨u, rfl, hu0, hu1, hF4, p4⟩ := h
    simp only [bin_add, add_int, Ok_ok, mul_int (i := 10 ^ q.toNat) (j := 1 + u) (.inr (.inl (by omega)))]
    refine (tk m4 hF4 3 (by decide) (by decide)).mono fun r m5 h => ?_
    obtain ⟨x, rfl, hx0, hx1, hF5, p5⟩ := h
    simp only [sub_int, Ok_ok, mul_int (i := 1 - 2 * t) (.inl (by omega)), nxS_rt, endV_rt]
    exact ⟨⟨_, rfl, num_bd ht0 ht1 hu0 hu1 hx0 hx1 hq.2⟩, hF5, p1.trans (Pres.app.trans (p2.trans (p3.trans (p4.trans p5))))⟩
end Lw
end SLwB

section SLwC
set_option Elab.async false
set_option linter.all false
set_option maxRecDepth 100000
set_option maxHeartbeats 2000000
/-! worths: nothing, a number, a pair; great -/
namespace Lw
open PySem (Str)
open Pv
theorem B400 : (10 : Int) ^ 400 = (((10 : Nat) ^ 400 : Nat) : Int) := by rw [Int.natCast_pow]; rfl
inductive Wo where
  | n | i (a : Int) | p (a b : Int) | g
def Wo.v : Wo → Val
  | .n => .non
  | .i a => .int a
  | .p a b => .tup [.int a, .int b]
  | .g => .str "great"
def big (a : Int) : Bool := decide ((10 : Int) ^ 400 ≤ if a < 0 then -a else a)
def Wo.kept : Wo → Wo
  | .i a => if big a then .g else .i a
  | .p a b => if big a || big b then .g else .p a b
  | w => w
theorem evE_comp {G : Str → Option Val} {call : Str → List Val → Mem → Rs Val} {ρ : En} {m : Mem} {elt : Ex} {tg : Tg} {k : Ik} {it cs : Exs} : evE G call (.comp elt tg k it cs) ρ m = (evEs G call it ρ m).bind fun vs m1 => (match srV k vs m1 with
    | some (s, n) => (compGo s (fun v m => bindT tg v (wipeR ρ tg.slots) m) (fun ρ m => evCs G call cs ρ m) (fun ρ m => evE G call elt ρ m) n 0 [] m1).bind fun xs m2 => .ok (.ref m2.length) (m2 ++ [.lst xs])
    | none => .bad) := rfl
def lpS (r : Fl × En) (m : Mem) (k : En → Mem → Rs (Fl × En)) : Rs (Fl × En) := match r.1 with
  | .nx => k r.2 m
  | .ct => k r.2 m
  | .bk => .ok (.nx, r.2) m
  | .rt v => .ok (.rt v, r.2) m
theorem lpS_nx {ρ : En} {m : Mem} {k : En → Mem → Rs (Fl × En)} : lpS (.nx, ρ) m k = k ρ m := rfl
theorem lpS_ct {ρ : En} {m : Mem} {k : En → Mem → Rs (Fl × En)} : lpS (.ct, ρ) m k = k ρ m := rfl
theorem lpS_bk {ρ : En} {m : Mem} {k : En → Mem → Rs (Fl × En)} : lpS (.bk, ρ) m k = .ok (.nx, ρ) m := rfl
theorem lpS_rt {ρ : En} {m : Mem} {v : Val} {k : En → Mem → Rs (Fl × En)} : lpS (.rt v, ρ) m k = .ok (.rt v, ρ) m := rfl
theorem forGo_s {s : Sr} {bd : Val → En → Mem → Option En} {body : En → Mem → Rs (Fl × En)} {n i : Nat} {ρ ρ1 : En} {m : Mem} {v : Val} (h : s.at m i = some (some v)) (h2 : bd v ρ m = some ρ1) : forGo s bd body (n + 1) i ρ m = (body ρ1 m).bind fun r m2 => lpS r m2 fun ρ m => forGo s bd body n (i + 1) ρ m := by
  conv => lhs; unfold forGo
  rw [h]
  dsimp only
  rw [h2]
  rfl
theorem forGo_e {s : Sr} {bd : Val → En → Mem → Option En} {body : En → Mem → Rs (Fl × En)} {n i : Nat} {ρ : En} {m : Mem} (h : s.at m i = some none) : forGo s bd body n i ρ m = .ok (.nx, ρ) m := by
  cases n <;> (conv => lhs; unfold forGo) <;> rw [h]
theorem compGo_s {s : Sr} {bd : Val → Mem → Option En} {cond : En → Mem → Rs Bool} {elt : En → Mem → Rs Val} {n i : Nat} {acc : List Val} {ρ1 : En} {m : Mem} {v : Val} (h : s.at m i = some (some v)) (h2 : bd v m = some ρ1) : compGo s bd cond elt (n + 1) i acc m = (cond ρ1 m).bind fun b m1 => if b then (elt ρ1 m1).bind fun x m2 => if acc.length < PySem.sizeLine then compGo s bd cond elt n (i + 1) (acc ++ [x]) m2 else .bad else compGo s bd cond elt n (i + 1) acc m1 := by
  conv => lhs; unfold compGo
  rw [h]
  dsimp only
  rw [h2]
theorem compGo_e {s : Sr} {bd : Val → Mem → Option En} {cond : En → Mem → Rs Bool} {elt : En → Mem → Rs Val} {n i : Nat} {acc : List Val} {m : Mem} (h : s.at m i = some none) : compGo s bd cond elt n i acc m = .ok acc m := by
  cases n <;> (conv => lhs; unfold compGo) <;> rw [h]
theorem szlt {n : Nat} (h : n < 1000) : n < PySem.sizeLine := Nat.lt_of_lt_of_le h (by rw [PySem.sizeLine_eq]; decide)
theorem log_bd {a : Int} (h : a.natAbs < 10 ^ 400) : a.natAbs.log2 < 1330 := by
  by_cases h0 : a.natAbs = 0
  · rw [h0]; decide
  · exact (Nat.log2_lt h0).mpr (Nat.lt_of_lt_of_le h (by decide +kernel))
theorem mul400 {a b : Int} {m : Mem} (ha : a.natAbs < 10 ^ 400) (hb : b.natAbs < 10 ^ 400) : mulV (.int a) (.int b) m = .ok (.int (a * b)) m := by
  refine mul_int (.inr (.inr ?_))
  have := log_bd ha
  have := log_bd hb
  omega
def d_both : Df := ⟨3, 3, (.cons (.ite (.cmp .In (.var 0) (.glb "COUNTED")) (.cons (.ret (.call "kept" (.cons (.bin .Mult (.var 1) (.var 2)) .nil)))
    .nil) .nil)
  (.cons (.ite (.or (.cmp .Is (.var 1) (.lit .non)) (.cmp .Is (.var 2) (.lit .non))) (.cons (.ret (.lit .non))
    .nil) .nil)
  (.cons (.ite (.cmp .In (.var 0) (.glb "PAIRED")) (.cons (.ret (.call "kept" (.cons (.tup (.cons (.bin .Add (.ix (.var 1) (.lit (.int 0))) (.ix (.var 2) (.lit (.int 0)))) (.cons (.bin .Mult (.ix (.var 1) (.lit (.int 1))) (.ix (.var 2) (.lit (.int 1)))) .nil))) .nil)))
    .nil) .nil)
  (.cons (.ret (.call "kept" (.cons (.bin .Add (.var 1) (.var 2)) .nil)))
  .nil))))⟩
def b0_kept : Sms := (.cons (.ite (.and (.cmp .IsNot (.var 2) (.lit .non)) (.cmp .GtE (.bi .abs (.cons (.var 2) .nil)) (.glb "BOUND"))) (.cons (.ret (.lit (.str "great")))
    .nil) .nil)
  .nil)
def d_kept : Df := ⟨1, 3, (.cons (.asg (.nm 1) (.ite (.isi (.var 0) ["tuple"]) (.var 0) (.tup (.cons (.var 0) .nil))))
  (.cons (.lup (.nm 2) .val (.cons (.var 1) .nil) b0_kept)
  (.cons (.ret (.var 0))
  .nil)))⟩
variable {G : Str → Option Val} {D : Str → Option Df}
theorem kept_b (hB : G "BOUND" = some (.int (10 ^ 400))) {call : Str → List Val → Mem → Rs Val} {m : Mem} (a : Int) (x y : Option Val) : evSs G call b0_kept [x, y, some (.int a)] m = if big a then .ok (.rt (.str "great"), [x, y, some (.int a)]) m else .ok (.nx, [x, y, some (.int a)]) m := by
  have i2 : ∀ a, cmpV .IsNot (.int a) .non m = .ok (.bl true) m := fun _ => rfl
  simp only [b0_kept, start, List.map, List.length, List.replicate, List.cons_append, List.nil_append, Nat.reduceSub, Nat.zero_add, Nat.reduceAdd, evSs_cons, evSs_nil, evS_ret, evS_exp, evS_asg, evS_ite, evE_var, evE_lit, evE_tup, evE_lst, evE_bin, evE_nt, evE_and, evE_or, evE_cmp, evE_ite, evE_ix, evE_sl, evE_call, evE_bi, evE_isi, evEs_nil, evEs_cons, evE_chk, getS_cons0, getS_cons, Rs.bind_ok, bin_add, bin_sub, bin_mul, bin_fdiv, bin_mod, bin_pow, add_int, sub_int, cmp_lt, cmp_le, cmp_gt, cmp_ge, bi_abs, tryB_bl, truth_bl, iteB_some, ofB_some, ofB_none, nxS_nx, nxS_rt, endV_rt, endV_nx, Ok_ok, List.set, ↓reduceIte, Bool.false_eq_true, Bool.not_true, Bool.not_false, szl, Nat.reduceLeDiff, Lw.in2, Lw.eq_str, Lw.eq_int, Lw.ne_int, Lw.eq_pair, Lw.eq_bl, Lw.eq_non, Lw.isi_i, Lw.isi_t, Lw.isi_n, Lw.isi_s, i2, evE_glb hB]
  show Rs.bind (if big a = true then _ else _) _ = _
  split <;> rfl
theorem kept_ok (hD : D "kept" = some d_kept) (hB : G "BOUND" = some (.int (10 ^ 400))) (n : Nat) {m : Mem} (w : Wo) (hg : w ≠ .g) : callF G D (n + 1) "kept" [w.v] m = .ok w.kept.v m := by
  rw [callF_eq hD rfl]
  have e1 : isSub "tuple" "tuple" = true := by decide
  have e2 : isSub "int" "tuple" = false := by decide
  have e3 : isSub "NoneType" "tuple" = false := by decide
  have i1 : cmpV .IsNot .non .non m = .ok (.bl false) m := rfl
  cases w with
  | g => exact absurd rfl hg
  | n =>
    simp only [d_kept, Wo.v, Wo.kept, start, List.map, List.length, List.replicate, List.cons_append, List.nil_append, Nat.reduceSub, Nat.zero_add, Nat.reduceAdd, evSs_cons, evSs_nil, evS_ret, evS_exp, evS_asg, evS_ite, evE_var, evE_lit, evE_tup, evE_lst, evE_bin, evE_nt, evE_and, evE_or, evE_cmp, evE_ite, evE_ix, evE_sl, evE_call, evE_bi, evE_isi, evEs_nil, evEs_cons, evE_chk, getS_cons0, getS_cons, Rs.bind_ok, bin_add, bin_sub, bin_mul, bin_fdiv, bin_mod, bin_pow, add_int, sub_int, cmp_lt, cmp_le, cmp_gt, cmp_ge, bi_abs, tryB_bl, truth_bl, iteB_some, ofB_some, ofB_none, nxS_nx, nxS_rt, endV_rt, endV_nx, Ok_ok, List.set, ↓reduceIte, Bool.false_eq_true, Bool.not_true, Bool.not_false, szl, Nat.reduceLeDiff, Lw.in2, Lw.eq_str, Lw.eq_int, Lw.ne_int, Lw.eq_pair, Lw.eq_bl, Lw.eq_non, Lw.isi_i, Lw.isi_t, Lw.isi_n, Lw.isi_s, e3, evS_lup, srV, srVal, List.length]
    rw [forGo_s (v := .non) (ρ1 := [some .non, some (.tup [.non]), some .non]) rfl rfl]
    simp only [b0_kept, start, List.map, List.length, List.replicate, List.cons_append, List.nil_append, Nat.reduceSub, Nat.zero_add, Nat.reduceAdd, evSs_cons, evSs_nil, evS_ret, evS_exp, evS_asg, evS_ite, evE_var, evE_lit, evE_tup, evE_lst, evE_bin, evE_nt, evE_and, evE_or, evE_cmp, evE_ite, evE_ix, evE_sl, evE_call, evE_bi, evE_isi, evEs_nil, evEs_cons, evE_chk, getS_cons0, getS_cons, Rs.bind_ok, bin_add, bin_sub, bin_mul, bin_fdiv, bin_mod, bin_pow, add_int, sub_int, cmp_lt, cmp_le, cmp_gt, cmp_ge, bi_abs, tryB_bl, truth_bl, iteB_some, ofB_some, ofB_none, nxS_nx, nxS_rt, endV_rt, endV_nx, Ok_ok, List.set, ↓reduceIte, Bool.false_eq_true, Bool.not_true, Bool.not_false, szl, Nat.reduceLeDiff, Lw.in2, Lw.eq_str, Lw.eq_int, Lw.ne_int, Lw.eq_pair, Lw.eq_bl, Lw.eq_non, Lw.isi_i, Lw.isi_t, Lw.isi_n, Lw.isi_s, i1, lpS_nx]
    rw [forGo_e rfl]
    rfl
  | i a =>
    simp only [d_kept, Wo.v, Wo.kept, start, List.map, List.length, List.replicate, List.cons_append, List.nil_append, Nat.reduceSub, Nat.zero_add, Nat.reduceAdd, evSs_cons, evSs_nil, evS_ret, evS_exp, evS_asg, evS_ite, evE_var, evE_lit, evE_tup, evE_lst, evE_bin, evE_nt, evE_and, evE_or, evE_cmp, evE_ite, evE_ix, evE_sl, evE_call, evE_bi, evE_isi, evEs_nil, evEs_cons, evE_chk, getS_cons0, getS_cons, Rs.bind_ok, bin_add, bin_sub, bin_mul, bin_fdiv, bin_mod, bin_pow, add_int, sub_int, cmp_lt, cmp_le, cmp_gt, cmp_ge, bi_abs, tryB_bl, truth_bl, iteB_some, ofB_some, ofB_none, nxS_nx, nxS_rt, endV_rt, endV_nx, Ok_ok, List.set, ↓reduceIte, Bool.false_eq_true, Bool.not_true, Bool.not_false, szl, Nat.reduceLeDiff, Lw.in2, Lw.eq_str, Lw.eq_int, Lw.ne_int, Lw.eq_pair, Lw.eq_bl, Lw.eq_non, Lw.isi_i, Lw.isi_t, Lw.isi_n, Lw.isi_s, e2, evS_lup, srV, srVal, List.length]
    rw [forGo_s (v := .int a) (ρ1 := [some (.int a), some (.tup [.int a]), some (.int a)]) rfl rfl, kept_b hB]
    cases hb : big a
    · simp only [start, List.map, List.length, List.replicate, List.cons_append, List.nil_append, Nat.reduceSub, Nat.zero_add, Nat.reduceAdd, evSs_cons, evSs_nil, evS_ret, evS_exp, evS_asg, evS_ite, evE_var, evE_lit, evE_tup, evE_lst, evE_bin, evE_nt, evE_and, evE_or, evE_cmp, evE_ite, evE_ix, evE_sl, evE_call, evE_bi, evE_isi, evEs_nil, evEs_cons, evE_chk, getS_cons0, getS_cons, Rs.bind_ok, bin_add, bin_sub, bin_mul, bin_fdiv, bin_mod, bin_pow, add_int, sub_int, cmp_lt, cmp_le, cmp_gt, cmp_ge, bi_abs, tryB_bl, truth_bl, iteB_some, ofB_some, ofB_none, nxS_nx, nxS_rt, endV_rt, endV_nx, Ok_ok, List.set, ↓reduceIte, Bool.false_eq_true, Bool.not_true, Bool.not_false, szl, Nat.reduceLeDiff, lpS_nx]
      rw [forGo_e rfl]
      rfl
    · rfl
  | p a b =>
    simp only [d_kept, Wo.v, Wo.kept, start, List.map, List.length, List.replicate, List.cons_append, List.nil_append, Nat.reduceSub, Nat.zero_add, Nat.reduceAdd, evSs_cons, evSs_nil, evS_ret, evS_exp, evS_asg, evS_ite, evE_var, evE_lit, evE_tup, evE_lst, evE_bin, evE_nt, evE_and, evE_or, evE_cmp, evE_ite, evE_ix, evE_sl, evE_call, evE_bi, evE_isi, evEs_nil, evEs_cons, evE_chk, getS_cons0, getS_cons, Rs.bind_ok, bin_add, bin_sub, bin_mul, bin_fdiv, bin_mod, bin_pow, add_int, sub_int, cmp_lt, cmp_le, cmp_gt, cmp_ge, bi_abs, tryB_bl, truth_bl, iteB_some, ofB_some, ofB_none, nxS_nx, nxS_rt, endV_rt, endV_nx, Ok_ok, List.set, ↓reduceIte, Bool.false_eq_true, Bool.not_true, Bool.not_false, szl, Nat.reduceLeDiff, Lw.in2, Lw.eq_str, Lw.eq_int, Lw.ne_int, Lw.eq_pair, Lw.eq_bl, Lw.eq_non, Lw.isi_i, Lw.isi_t, Lw.isi_n, Lw.isi_s, e1, evS_lup, srV, srVal, List.length]
    rw [forGo_s (v := .int a) (ρ1 := [some (.tup [.int a, .int b]), some (.tup [.int a, .int b]), some (.int a)]) rfl rfl, kept_b hB]
    cases hb : big a
    · simp only [start, List.map, List.length, List.replicate, List.cons_append, List.nil_append, Nat.reduceSub, Nat.zero_add, Nat.reduceAdd, evSs_cons, evSs_nil, evS_ret, evS_exp, evS_asg, evS_ite, evE_var, evE_lit, evE_tup, evE_lst, evE_bin, evE_nt, evE_and, evE_or, evE_cmp, evE_ite, evE_ix, evE_sl, evE_call, evE_bi, evE_isi, evEs_nil, evEs_cons, evE_chk, getS_cons0, getS_cons, Rs.bind_ok, bin_add, bin_sub, bin_mul, bin_fdiv, bin_mod, bin_pow, add_int, sub_int, cmp_lt, cmp_le, cmp_gt, cmp_ge, bi_abs, tryB_bl, truth_bl, iteB_some, ofB_some, ofB_none, nxS_nx, nxS_rt, endV_rt, endV_nx, Ok_ok, List.set, ↓reduceIte, Bool.false_eq_true, Bool.not_true, Bool.not_false, szl, Nat.reduceLeDiff, lpS_nx]
      rw [forGo_s (v := .int b) (ρ1 := [some (.tup [.int a, .int b]), some (.tup [.int a, .int b]), some (.int b)]) rfl rfl, kept_b hB]
      cases hb : big b
      · simp only [start, List.map, List.length, List.replicate, List.cons_append, List.nil_append, Nat.reduceSub, Nat.zero_add, Nat.reduceAdd, evSs_cons, evSs_nil, evS_ret, evS_exp, evS_asg, evS_ite, evE_var, evE_lit, evE_tup, evE_lst, evE_bin, evE_nt, evE_and, evE_or, evE_cmp, evE_ite, evE_ix, evE_sl, evE_call, evE_bi, evE_isi, evEs_nil, evEs_cons, evE_chk, getS_cons0, getS_cons, Rs.bind_ok, bin_add, bin_sub, bin_mul, bin_fdiv, bin_mod, bin_pow, add_int, sub_int, cmp_lt, cmp_le, cmp_gt, cmp_ge, bi_abs, tryB_bl, truth_bl, iteB_some, ofB_some, ofB_none, nxS_nx, nxS_rt, endV_rt, endV_nx, Ok_ok, List.set, ↓reduceIte, Bool.false_eq_true, Bool.not_true, Bool.not_false, szl, Nat.reduceLeDiff, lpS_nx]
        rw [forGo_e rfl]
        rfl
      · rfl
    · rfl
/-- the words' kinds -/
def cnt (w : String) : Bool := "ways" == w || "sum" == w
def prd (w : String) : Bool := "leasts" == w || "greatests" == w
/-- a worth by a word, of numbers below the bound -/
def WkB (B : Nat) (w : String) : Wo → Prop
  | .n => cnt w = false
  | .i a => prd w = false ∧ a.natAbs < B
  | .p a b => cnt w = false ∧ prd w = true ∧ a.natAbs < B ∧ b.natAbs < B ∧ 0 < b
  | .g => False
abbrev Wk (w : String) (x : Wo) : Prop := WkB (10 ^ 400) w x
theorem WkB.mono {B C : Nat} {w : String} {x : Wo} (h : WkB B w x) (hb : B ≤ C) : WkB C w x := by
  cases x with
  | n => exact h
  | i a => exact ⟨h.1, Nat.lt_of_lt_of_le h.2 hb⟩
  | p a b => exact ⟨h.1, h.2.1, Nat.lt_of_lt_of_le h.2.2.1 hb, Nat.lt_of_lt_of_le h.2.2.2.1 hb, h.2.2.2.2⟩
  | g => exact h
def bothW (w : String) : Wo → Wo → Wo
  | .i a, .i b => if cnt w then (Wo.i (a * b)).kept else (Wo.i (a + b)).kept
  | .p a b, .p c d => (Wo.p (a + c) (b * d)).kept
  | _, _ => .n
theorem is_non {m : Mem} : cmpV .Is .non .non m = .ok (.bl true) m := rfl
theorem is_int {m : Mem} {a : Int} : cmpV .Is (.int a) .non m = .ok (.bl false) m := rfl
theorem is_tup {m : Mem} {vs : List Val} : cmpV .Is (.tup vs) .non m = .ok (.bl false) m := rfl
theorem is_str {m : Mem} {s : Str} : cmpV .Is (.str s) .non m = .ok (.bl false) m := rfl
theorem ix0 {m : Mem} {a b : Val} : ixV (.tup [a, b]) (.int 0) m = .ok a m := rfl
theorem ix1 {m : Mem} {a b : Val} : ixV (.tup [a, b]) (.int 1) m = .ok b m := rfl
theorem both_ok (hD : D "both" = some d_both) (hK : D "kept" = some d_kept) (hB : G "BOUND" = some (.int (10 ^ 400))) (hC : G "COUNTED" = some (.tup [.str "ways", .str "sum"])) (hP : G "PAIRED" = some (.tup [.str "leasts", .str "greatests"]))
    (n : Nat) {m : Mem} {w : String} {x y : Wo} (hx : Wk w x) (hy : Wk w y) : callF G D (n + 2) "both" [.str w, x.v, y.v] m = .ok (bothW w x y).v m := by
  have ki := fun (a : Int) => kept_ok (n := n) (m := m) hK hB (.i a) (by simp)
  have kp := fun (a b : Int) => kept_ok (n := n) (m := m) hK hB (.p a b) (by simp)
  simp only [Wo.v] at ki kp
  rw [callF_eq hD rfl]
  cases x with
  | g => exact hx.elim
  | n =>
    simp only [Wk, WkB, cnt] at hx
    simp only [d_both, Wo.v, start, List.map, List.length, List.replicate, List.cons_append, List.nil_append, Nat.reduceSub, Nat.zero_add, Nat.reduceAdd, evSs_cons, evSs_nil, evS_ret, evS_exp, evS_asg, evS_ite, evE_var, evE_lit, evE_tup, evE_lst, evE_bin, evE_nt, evE_and, evE_or, evE_cmp, evE_ite, evE_ix, evE_sl, evE_call, evE_bi, evE_isi, evEs_nil, evEs_cons, evE_chk, getS_cons0, getS_cons, Rs.bind_ok, bin_add, bin_sub, bin_mul, bin_fdiv, bin_mod, bin_pow, add_int, sub_int, cmp_lt, cmp_le, cmp_gt, cmp_ge, bi_abs, tryB_bl, truth_bl, iteB_some, ofB_some, ofB_none, nxS_nx, nxS_rt, endV_rt, endV_nx, Ok_ok, List.set, ↓reduceIte, Bool.false_eq_true, Bool.not_true, Bool.not_false, szl, Nat.reduceLeDiff, Lw.in2, Lw.eq_str, Lw.eq_int, Lw.ne_int, Lw.eq_pair, Lw.eq_bl, Lw.eq_non, Lw.isi_i, Lw.isi_t, Lw.isi_n, Lw.isi_s, evE_glb hC, evE_glb hP, hx, is_non, bothW]
  | i a =>
    obtain ⟨h1, h2⟩ := hx
    simp only [prd] at h1
    cases y with
    | g => exact hy.elim
    | n =>
      simp only [Wk, WkB, cnt] at hy
      simp only [d_both, Wo.v, start, List.map, List.length, List.replicate, List.cons_append, List.nil_append, Nat.reduceSub, Nat.zero_add, Nat.reduceAdd, evSs_cons, evSs_nil, evS_ret, evS_exp, evS_asg, evS_ite, evE_var, evE_lit, evE_tup, evE_lst, evE_bin, evE_nt, evE_and, evE_or, evE_cmp, evE_ite, evE_ix, evE_sl, evE_call, evE_bi, evE_isi, evEs_nil, evEs_cons, evE_chk, getS_cons0, getS_cons, Rs.bind_ok, bin_add, bin_sub, bin_mul, bin_fdiv, bin_mod, bin_pow, add_int, sub_int, cmp_lt, cmp_le, cmp_gt, cmp_ge, bi_abs, tryB_bl, truth_bl, iteB_some, ofB_some, ofB_none, nxS_nx, nxS_rt, endV_rt, endV_nx, Ok_ok, List.set, ↓reduceIte, Bool.false_eq_true, Bool.not_true, Bool.not_false, szl, Nat.reduceLeDiff, Lw.in2, Lw.eq_str, Lw.eq_int, Lw.ne_int, Lw.eq_pair, Lw.eq_bl, Lw.eq_non, Lw.isi_i, Lw.isi_t, Lw.isi_n, Lw.isi_s, evE_glb hC, evE_glb hP, hy, is_non, is_int, bothW]
    | i b =>
      have h3 := hy.2
      cases hc : ("ways" == w || "sum" == w)
      · simp only [d_both, Wo.v, start, List.map, List.length, List.replicate, List.cons_append, List.nil_append, Nat.reduceSub, Nat.zero_add, Nat.reduceAdd, evSs_cons, evSs_nil, evS_ret, evS_exp, evS_asg, evS_ite, evE_var, evE_lit, evE_tup, evE_lst, evE_bin, evE_nt, evE_and, evE_or, evE_cmp, evE_ite, evE_ix, evE_sl, evE_call, evE_bi, evE_isi, evEs_nil, evEs_cons, evE_chk, getS_cons0, getS_cons, Rs.bind_ok, bin_add, bin_sub, bin_mul, bin_fdiv, bin_mod, bin_pow, add_int, sub_int, cmp_lt, cmp_le, cmp_gt, cmp_ge, bi_abs, tryB_bl, truth_bl, iteB_some, ofB_some, ofB_none, nxS_nx, nxS_rt, endV_rt, endV_nx, Ok_ok, List.set, ↓reduceIte, Bool.false_eq_true, Bool.not_true, Bool.not_false, szl, Nat.reduceLeDiff, Lw.in2, Lw.eq_str, Lw.eq_int, Lw.ne_int, Lw.eq_pair, Lw.eq_bl, Lw.eq_non, Lw.isi_i, Lw.isi_t, Lw.isi_n, Lw.isi_s, evE_glb hC, evE_glb hP, hc, h1, is_int, ki, bothW, cnt]
      · simp only [d_both, Wo.v, start, List.map, List.length, List.replicate, List.cons_append, List.nil_append, Nat.reduceSub, Nat.zero_add, Nat.reduceAdd, evSs_cons, evSs_nil, evS_ret, evS_exp, evS_asg, evS_ite, evE_var, evE_lit, evE_tup, evE_lst, evE_bin, evE_nt, evE_and, evE_or, evE_cmp, evE_ite, evE_ix, evE_sl, evE_call, evE_bi, evE_isi, evEs_nil, evEs_cons, evE_chk, getS_cons0, getS_cons, Rs.bind_ok, bin_add, bin_sub, bin_mul, bin_fdiv, bin_mod, bin_pow, add_int, sub_int, cmp_lt, cmp_le, cmp_gt, cmp_ge, bi_abs, tryB_bl, truth_bl, iteB_some, ofB_some, ofB_none, nxS_nx, nxS_rt, endV_rt, endV_nx, Ok_ok, List.set, ↓reduceIte, Bool.false_eq_true, Bool.not_true, Bool.not_false, szl, Nat.reduceLeDiff, Lw.in2, Lw.eq_str, Lw.eq_int, Lw.ne_int, Lw.eq_pair, Lw.eq_bl, Lw.eq_non, Lw.isi_i, Lw.isi_t, Lw.isi_n, Lw.isi_s, evE_glb hC, evE_glb hP, hc, h1, mul400 h2 h3, ki, bothW, cnt]
    | p b c =>
      have := hy.2.1
      rw [show prd w = false from h1] at this
      cases this
  | p a b =>
    obtain ⟨h1, h2, h3, h4, h5⟩ := hx
    simp only [cnt] at h1
    simp only [prd] at h2
    cases y with
    | g => exact hy.elim
    | n => simp only [d_both, Wo.v, start, List.map, List.length, List.replicate, List.cons_append, List.nil_append, Nat.reduceSub, Nat.zero_add, Nat.reduceAdd, evSs_cons, evSs_nil, evS_ret, evS_exp, evS_asg, evS_ite, evE_var, evE_lit, evE_tup, evE_lst, evE_bin, evE_nt, evE_and, evE_or, evE_cmp, evE_ite, evE_ix, evE_sl, evE_call, evE_bi, evE_isi, evEs_nil, evEs_cons, evE_chk, getS_cons0, getS_cons, Rs.bind_ok, bin_add, bin_sub, bin_mul, bin_fdiv, bin_mod, bin_pow, add_int, sub_int, cmp_lt, cmp_le, cmp_gt, cmp_ge, bi_abs, tryB_bl, truth_bl, iteB_some, ofB_some, ofB_none, nxS_nx, nxS_rt, endV_rt, endV_nx, Ok_ok, List.set, ↓reduceIte, Bool.false_eq_true, Bool.not_true, Bool.not_false, szl, Nat.reduceLeDiff, Lw.in2, Lw.eq_str, Lw.eq_int, Lw.ne_int, Lw.eq_pair, Lw.eq_bl, Lw.eq_non, Lw.isi_i, Lw.isi_t, Lw.isi_n, Lw.isi_s, evE_glb hC, evE_glb hP, h1, h2, is_tup, is_non, bothW]
    | i c =>
      have := hy.1
      rw [show prd w = true from h2] at this
      cases this
    | p c d =>
      have hd := hy.2.2.2.1
      simp only [d_both, Wo.v, start, List.map, List.length, List.replicate, List.cons_append, List.nil_append, Nat.reduceSub, Nat.zero_add, Nat.reduceAdd, evSs_cons, evSs_nil, evS_ret, evS_exp, evS_asg, evS_ite, evE_var, evE_lit, evE_tup, evE_lst, evE_bin, evE_nt, evE_and, evE_or, evE_cmp, evE_ite, evE_ix, evE_sl, evE_call, evE_bi, evE_isi, evEs_nil, evEs_cons, evE_chk, getS_cons0, getS_cons, Rs.bind_ok, bin_add, bin_sub, bin_mul, bin_fdiv, bin_mod, bin_pow, add_int, sub_int, cmp_lt, cmp_le, cmp_gt, cmp_ge, bi_abs, tryB_bl, truth_bl, iteB_some, ofB_some, ofB_none, nxS_nx, nxS_rt, endV_rt, endV_nx, Ok_ok, List.set, ↓reduceIte, Bool.false_eq_true, Bool.not_true, Bool.not_false, szl, Nat.reduceLeDiff, Lw.in2, Lw.eq_str, Lw.eq_int, Lw.ne_int, Lw.eq_pair, Lw.eq_bl, Lw.eq_non, Lw.isi_i, Lw.isi_t, Lw.isi_n, Lw.isi_s, evE_glb hC, evE_glb hP, h1, h2, is_tup, ix0, ix1, mul400 h4 hd, kp, bothW]
theorem bothW_comm (w : String) (x y : Wo) : bothW w x y = bothW w y x := by
  cases x <;> cases y <;> simp only [bothW, Int.add_comm, Int.mul_comm]
end Lw
end SLwC

section SLwD
set_option Elab.async false
set_option linter.all false
set_option maxRecDepth 100000
set_option maxHeartbeats 2000000
namespace Lw
open PySem (Str)
open Pv
def d__law_drawn : Df := ⟨2, 2, (.cons (.ite (.cmp .Eq (.var 1) (.lit (.str "ways"))) (.cons (.ret (.bi .abs (.cons (.call "_law_number" (.cons (.var 0) .nil)) .nil)))
    .nil) .nil)
  (.cons (.ite (.cmp .Eq (.var 1) (.lit (.str "sum"))) (.cons (.ret (.call "_law_number" (.cons (.var 0) .nil)))
    .nil) .nil)
  (.cons (.ite (.cmp .Eq (.call "_law_take" (.cons (.var 0) (.cons (.lit (.int 6)) .nil))) (.lit (.int 5))) (.cons (.ret (.lit .non))
    .nil) .nil)
  (.cons (.ite (.cmp .In (.var 1) (.tup (.cons (.lit (.str "least")) (.cons (.lit (.str "greatest")) .nil)))) (.cons (.ret (.call "_law_number" (.cons (.var 0) .nil)))
    .nil) .nil)
  (.cons (.ret (.tup (.cons (.call "_law_number" (.cons (.var 0) .nil)) (.cons (.bi .max (.cons (.lit (.int 1)) (.cons (.bi .abs (.cons (.call "_law_number" (.cons (.var 0) .nil)) .nil)) .nil))) .nil))))
  .nil)))))⟩
def d__law_whole : Df := ⟨1, 1, (.cons (.ret (.and (.isi (.var 0) ["int"]) (.nt (.isi (.var 0) ["bool"]))))
  .nil)⟩
def d__law_alike : Df := ⟨2, 2, (.cons (.ite (.or (.cmp .Is (.var 1) (.lit .non)) (.isi (.var 1) ["str"])) (.cons (.ret (.and (.cmp .Eq (.var 0) (.var 1)) (.cmp .Eq (.cmp .Is (.var 0) (.lit .non)) (.cmp .Is (.var 1) (.lit .non)))))
    .nil) .nil)
  (.cons (.ite (.isi (.var 1) ["tuple"]) (.cons (.ite (.or (.nt (.isi (.var 0) ["tuple"])) (.or (.cmp .NotEq (.bi .len (.cons (.var 0) .nil)) (.lit (.int 2))) (.or (.nt (.call "_law_whole" (.cons (.ix (.var 0) (.lit (.int 0))) .nil))) (.nt (.call "_law_whole" (.cons (.ix (.var 0) (.lit (.int 1))) .nil)))))) (.cons (.ret (.lit (.bl false)))
      .nil) .nil)
    (.cons (.ret (.cmp .Eq (.var 0) (.var 1)))
    .nil)) .nil)
  (.cons (.ret (.and (.call "_law_whole" (.cons (.var 0) .nil)) (.cmp .Eq (.var 0) (.var 1))))
  .nil)))⟩
def e0__law_held : Ex := (.bi .abs (.cons (.var 2) .nil))
def d__law_held : Df := ⟨1, 3, (.cons (.asg (.nm 1) (.lst (.cons (.var 0) .nil)))
  (.cons (.ite (.isi (.var 0) ["tuple"]) (.cons (.asg (.nm 1) (.bi .list (.cons (.var 0) .nil)))
    .nil) .nil)
  (.cons (.ite (.and (.cmp .IsNot (.var 0) (.lit .non)) (.cmp .GtE (.bi .max (.cons (.comp e0__law_held (.nm 2) .val (.cons (.var 1) .nil) .nil) .nil)) (.call "_law_ten" (.cons (.lit (.int 400)) .nil)))) (.cons (.ret (.lit (.str "great")))
    .nil) .nil)
  (.cons (.ret (.var 0))
  .nil))))⟩
variable {G : Str → Option Val} {D : Str → Option Df}
theorem lw_ok (hD : D "_law_whole" = some d__law_whole) (n : Nat) {m : Mem} (i : Int) : callF G D (n + 1) "_law_whole" [.int i] m = .ok (.bl true) m := by
  rw [callF_eq hD rfl]
  have e1 : isSub "int" "int" = true := by decide
  have e2 : isSub "int" "bool" = false := by decide
  simp only [d__law_whole, start, List.map, List.length, List.replicate, List.cons_append, List.nil_append, Nat.reduceSub, Nat.zero_add, Nat.reduceAdd, evSs_cons, evSs_nil, evS_ret, evS_exp, evS_asg, evS_ite, evE_var, evE_lit, evE_tup, evE_lst, evE_bin, evE_nt, evE_and, evE_or, evE_cmp, evE_ite, evE_ix, evE_sl, evE_call, evE_bi, evE_isi, evEs_nil, evEs_cons, evE_chk, getS_cons0, getS_cons, Rs.bind_ok, bin_add, bin_sub, bin_mul, bin_fdiv, bin_mod, bin_pow, add_int, sub_int, cmp_lt, cmp_le, cmp_gt, cmp_ge, bi_abs, tryB_bl, truth_bl, iteB_some, ofB_some, ofB_none, nxS_nx, nxS_rt, endV_rt, endV_nx, Ok_ok, List.set, ↓reduceIte, Bool.false_eq_true, Bool.not_true, Bool.not_false, szl, Nat.reduceLeDiff, Lw.in2, Lw.eq_str, Lw.eq_int, Lw.ne_int, Lw.eq_pair, Lw.eq_bl, Lw.eq_non, Lw.isi_i, Lw.isi_t, Lw.isi_n, Lw.isi_s, e1, e2]
theorem alike_ok (hW : D "_law_whole" = some d__law_whole) (hD : D "_law_alike" = some d__law_alike) (n : Nat) {m : Mem} (x : Wo) : callF G D (n + 2) "_law_alike" [x.v, x.v] m = .ok (.bl true) m := by
  rw [callF_eq hD rfl]
  have e1 : isSub "int" "str" = false := by decide
  have e2 : isSub "int" "tuple" = false := by decide
  have e3 : isSub "tuple" "str" = false := by decide
  have e4 : isSub "tuple" "tuple" = true := by decide
  have e5 : isSub "str" "str" = true := by decide
  have l2 : ∀ a b : Val, biV .len [.tup [a, b]] m = .ok (.int 2) m := fun _ _ => rfl
  cases x with
  | n => simp only [d__law_alike, Wo.v, start, List.map, List.length, List.replicate, List.cons_append, List.nil_append, Nat.reduceSub, Nat.zero_add, Nat.reduceAdd, evSs_cons, evSs_nil, evS_ret, evS_exp, evS_asg, evS_ite, evE_var, evE_lit, evE_tup, evE_lst, evE_bin, evE_nt, evE_and, evE_or, evE_cmp, evE_ite, evE_ix, evE_sl, evE_call, evE_bi, evE_isi, evEs_nil, evEs_cons, evE_chk, getS_cons0, getS_cons, Rs.bind_ok, bin_add, bin_sub, bin_mul, bin_fdiv, bin_mod, bin_pow, add_int, sub_int, cmp_lt, cmp_le, cmp_gt, cmp_ge, bi_abs, tryB_bl, truth_bl, iteB_some, ofB_some, ofB_none, nxS_nx, nxS_rt, endV_rt, endV_nx, Ok_ok, List.set, ↓reduceIte, Bool.false_eq_true, Bool.not_true, Bool.not_false, szl, Nat.reduceLeDiff, Lw.in2, Lw.eq_str, Lw.eq_int, Lw.ne_int, Lw.eq_pair, Lw.eq_bl, Lw.eq_non, Lw.isi_i, Lw.isi_t, Lw.isi_n, Lw.isi_s, is_non, beq_self_eq_true]
  | i a => simp only [d__law_alike, Wo.v, start, List.map, List.length, List.replicate, List.cons_append, List.nil_append, Nat.reduceSub, Nat.zero_add, Nat.reduceAdd, evSs_cons, evSs_nil, evS_ret, evS_exp, evS_asg, evS_ite, evE_var, evE_lit, evE_tup, evE_lst, evE_bin, evE_nt, evE_and, evE_or, evE_cmp, evE_ite, evE_ix, evE_sl, evE_call, evE_bi, evE_isi, evEs_nil, evEs_cons, evE_chk, getS_cons0, getS_cons, Rs.bind_ok, bin_add, bin_sub, bin_mul, bin_fdiv, bin_mod, bin_pow, add_int, sub_int, cmp_lt, cmp_le, cmp_gt, cmp_ge, bi_abs, tryB_bl, truth_bl, iteB_some, ofB_some, ofB_none, nxS_nx, nxS_rt, endV_rt, endV_nx, Ok_ok, List.set, ↓reduceIte, Bool.false_eq_true, Bool.not_true, Bool.not_false, szl, Nat.reduceLeDiff, Lw.in2, Lw.eq_str, Lw.eq_int, Lw.ne_int, Lw.eq_pair, Lw.eq_bl, Lw.eq_non, Lw.isi_i, Lw.isi_t, Lw.isi_n, Lw.isi_s, is_int, e1, e2, lw_ok hW, beq_self_eq_true]
  | p a b => simp only [d__law_alike, Wo.v, start, List.map, List.length, List.replicate, List.cons_append, List.nil_append, Nat.reduceSub, Nat.zero_add, Nat.reduceAdd, evSs_cons, evSs_nil, evS_ret, evS_exp, evS_asg, evS_ite, evE_var, evE_lit, evE_tup, evE_lst, evE_bin, evE_nt, evE_and, evE_or, evE_cmp, evE_ite, evE_ix, evE_sl, evE_call, evE_bi, evE_isi, evEs_nil, evEs_cons, evE_chk, getS_cons0, getS_cons, Rs.bind_ok, bin_add, bin_sub, bin_mul, bin_fdiv, bin_mod, bin_pow, add_int, sub_int, cmp_lt, cmp_le, cmp_gt, cmp_ge, bi_abs, tryB_bl, truth_bl, iteB_some, ofB_some, ofB_none, nxS_nx, nxS_rt, endV_rt, endV_nx, Ok_ok, List.set, ↓reduceIte, Bool.false_eq_true, Bool.not_true, Bool.not_false, szl, Nat.reduceLeDiff, Lw.in2, Lw.eq_str, Lw.eq_int, Lw.ne_int, Lw.eq_pair, Lw.eq_bl, Lw.eq_non, Lw.isi_i, Lw.isi_t, Lw.isi_n, Lw.isi_s, is_tup, e3, e4, l2, ix0, ix1, lw_ok hW, beq_self_eq_true, Bool.and_self]
  | g => simp only [d__law_alike, Wo.v, start, List.map, List.length, List.replicate, List.cons_append, List.nil_append, Nat.reduceSub, Nat.zero_add, Nat.reduceAdd, evSs_cons, evSs_nil, evS_ret, evS_exp, evS_asg, evS_ite, evE_var, evE_lit, evE_tup, evE_lst, evE_bin, evE_nt, evE_and, evE_or, evE_cmp, evE_ite, evE_ix, evE_sl, evE_call, evE_bi, evE_isi, evEs_nil, evEs_cons, evE_chk, getS_cons0, getS_cons, Rs.bind_ok, bin_add, bin_sub, bin_mul, bin_fdiv, bin_mod, bin_pow, add_int, sub_int, cmp_lt, cmp_le, cmp_gt, cmp_ge, bi_abs, tryB_bl, truth_bl, iteB_some, ofB_some, ofB_none, nxS_nx, nxS_rt, endV_rt, endV_nx, Ok_ok, List.set, ↓reduceIte, Bool.false_eq_true, Bool.not_true, Bool.not_false, szl, Nat.reduceLeDiff, Lw.in2, Lw.eq_str, Lw.eq_int, Lw.ne_int, Lw.eq_pair, Lw.eq_bl, Lw.eq_non, Lw.isi_i, Lw.isi_t, Lw.isi_n, Lw.isi_s, is_str, e5, beq_self_eq_true]
theorem max1 {m : Mem} {l : Nat} {i : Int} {is : List Int} (h : m[l]? = some (.lst ((i :: is).map .int))) : biV .max [.ref l] m = .ok (.int (maxL (i :: is))) m := by
  show (match (lsOf m (.ref l)).bind intsOf with
    | some (i :: is) => Rs.ok (Val.int (maxL (i :: is))) m
    | _ => Rs.bad) = _
  have e : ∀ is : List Int, intsOf (is.map .int) = some is := by
    intro is
    induction is with
    | nil => rfl
    | cons a t ih => show (intsOf (t.map .int)).map (a :: ·) = _; rw [ih]; rfl
  rw [ls_ref h, Option.bind_some, e]
theorem held_ok (hT : D "_law_ten" = some d__law_ten) (hD : D "_law_held" = some d__law_held) (n : Nat) {m : Mem} (x : Wo) (hg : x ≠ .g) : ∃ t, callF G D (n + 2) "_law_held" [x.v] m = .ok x.kept.v (m ++ t) := by
  have e1 : isSub "NoneType" "tuple" = false := by decide
  have e2 : isSub "int" "tuple" = false := by decide
  have e4 : isSub "tuple" "tuple" = true := by decide
  have i1 : ∀ m : Mem, cmpV .IsNot .non .non m = .ok (.bl false) m := fun _ => rfl
  have i2 : ∀ (a : Int) (m : Mem), cmpV .IsNot (.int a) .non m = .ok (.bl true) m := fun _ _ => rfl
  have i3 : ∀ (vs : List Val) (m : Mem), cmpV .IsNot (.tup vs) .non m = .ok (.bl true) m := fun _ _ => rfl
  have tn := fun (m : Mem) => ten_ok (G := G) hT (m := m) (q := 400) n (by decide) (by decide)
  have q4 : (400 : Int).toNat = 400 := rfl
  simp only [q4] at tn
  have evc : ∀ (ρ : En) (m : Mem), evCs G (callF G D (n + 1)) .nil ρ m = .ok true m := fun _ _ => rfl
  rw [callF_eq hD rfl]
  cases x with
  | g => exact absurd rfl hg
  | n => exact ⟨_, by simp only [d__law_held, Wo.v, Wo.kept, start, List.map, List.length, List.replicate, List.cons_append, List.nil_append, Nat.reduceSub, Nat.zero_add, Nat.reduceAdd, evSs_cons, evSs_nil, evS_ret, evS_exp, evS_asg, evS_ite, evE_var, evE_lit, evE_tup, evE_lst, evE_bin, evE_nt, evE_and, evE_or, evE_cmp, evE_ite, evE_ix, evE_sl, evE_call, evE_bi, evE_isi, evEs_nil, evEs_cons, evE_chk, getS_cons0, getS_cons, Rs.bind_ok, bin_add, bin_sub, bin_mul, bin_fdiv, bin_mod, bin_pow, add_int, sub_int, cmp_lt, cmp_le, cmp_gt, cmp_ge, bi_abs, tryB_bl, truth_bl, iteB_some, ofB_some, ofB_none, nxS_nx, nxS_rt, endV_rt, endV_nx, Ok_ok, List.set, ↓reduceIte, Bool.false_eq_true, Bool.not_true, Bool.not_false, szl, Nat.reduceLeDiff, Lw.in2, Lw.eq_str, Lw.eq_int, Lw.ne_int, Lw.eq_pair, Lw.eq_bl, Lw.eq_non, Lw.isi_i, Lw.isi_t, Lw.isi_n, Lw.isi_s, e1, i1]; rfl⟩
  | i a =>
    refine ⟨[.lst [.int a], .lst [.int (if a < 0 then -a else a)]], ?_⟩
    have h1 : (m ++ [Ob.lst [.int a]])[m.length]? = some (.lst [.int a]) := by simp
    have h2 : (m ++ [Ob.lst [.int a]] ++ [Ob.lst [.int (if a < 0 then -a else a)]])[(m ++ [Ob.lst [.int a]]).length]? = some (.lst ([if a < 0 then -a else a].map .int)) := by simp
    simp only [d__law_held, Wo.v, Wo.kept, start, List.map, List.length, List.replicate, List.cons_append, List.nil_append, Nat.reduceSub, Nat.zero_add, Nat.reduceAdd, evSs_cons, evSs_nil, evS_ret, evS_exp, evS_asg, evS_ite, evE_var, evE_lit, evE_tup, evE_lst, evE_bin, evE_nt, evE_and, evE_or, evE_cmp, evE_ite, evE_ix, evE_sl, evE_call, evE_bi, evE_isi, evEs_nil, evEs_cons, evE_chk, getS_cons0, getS_cons, Rs.bind_ok, bin_add, bin_sub, bin_mul, bin_fdiv, bin_mod, bin_pow, add_int, sub_int, cmp_lt, cmp_le, cmp_gt, cmp_ge, bi_abs, tryB_bl, truth_bl, iteB_some, ofB_some, ofB_none, nxS_nx, nxS_rt, endV_rt, endV_nx, Ok_ok, List.set, ↓reduceIte, Bool.false_eq_true, Bool.not_true, Bool.not_false, szl, Nat.reduceLeDiff, Lw.in2, Lw.eq_str, Lw.eq_int, Lw.ne_int, Lw.eq_pair, Lw.eq_bl, Lw.eq_non, Lw.isi_i, Lw.isi_t, Lw.isi_n, Lw.isi_s, e2, i2, evE_comp, srV, srVal, ls_ref h1, Option.map_some, List.length]
    rw [compGo_s (v := .int a) (ρ1 := [some (.int a), some (.ref m.length), some (.int a)]) (by show (lsOf _ _).map _ = _; rw [ls_ref h1]; rfl) rfl, evc]
    simp only [e0__law_held, start, List.map, List.length, List.replicate, List.cons_append, List.nil_append, Nat.reduceSub, Nat.zero_add, Nat.reduceAdd, evSs_cons, evSs_nil, evS_ret, evS_exp, evS_asg, evS_ite, evE_var, evE_lit, evE_tup, evE_lst, evE_bin, evE_nt, evE_and, evE_or, evE_cmp, evE_ite, evE_ix, evE_sl, evE_call, evE_bi, evE_isi, evEs_nil, evEs_cons, evE_chk, getS_cons0, getS_cons, Rs.bind_ok, bin_add, bin_sub, bin_mul, bin_fdiv, bin_mod, bin_pow, add_int, sub_int, cmp_lt, cmp_le, cmp_gt, cmp_ge, bi_abs, tryB_bl, truth_bl, iteB_some, ofB_some, ofB_none, nxS_nx, nxS_rt, endV_rt, endV_nx, Ok_ok, List.set, ↓reduceIte, Bool.false_eq_true, Bool.not_true, Bool.not_false, szl, Nat.reduceLeDiff, Lw.in2, Lw.eq_str, Lw.eq_int, Lw.ne_int, Lw.eq_pair, Lw.eq_bl, Lw.eq_non, Lw.isi_i, Lw.isi_t, Lw.isi_n, Lw.isi_s, szlt, Nat.reduceLT, Nat.reduceLeDiff]
    rw [compGo_e (by show (lsOf _ _).map _ = _; rw [ls_ref h1]; rfl)]
    simp only [start, List.map, List.length, List.replicate, List.cons_append, List.nil_append, Nat.reduceSub, Nat.zero_add, Nat.reduceAdd, evSs_cons, evSs_nil, evS_ret, evS_exp, evS_asg, evS_ite, evE_var, evE_lit, evE_tup, evE_lst, evE_bin, evE_nt, evE_and, evE_or, evE_cmp, evE_ite, evE_ix, evE_sl, evE_call, evE_bi, evE_isi, evEs_nil, evEs_cons, evE_chk, getS_cons0, getS_cons, Rs.bind_ok, bin_add, bin_sub, bin_mul, bin_fdiv, bin_mod, bin_pow, add_int, sub_int, cmp_lt, cmp_le, cmp_gt, cmp_ge, bi_abs, tryB_bl, truth_bl, iteB_some, ofB_some, ofB_none, nxS_nx, nxS_rt, endV_rt, endV_nx, Ok_ok, List.set, ↓reduceIte, Bool.false_eq_true, Bool.not_true, Bool.not_false, szl, Nat.reduceLeDiff, Lw.in2, Lw.eq_str, Lw.eq_int, Lw.ne_int, Lw.eq_pair, Lw.eq_bl, Lw.eq_non, Lw.isi_i, Lw.isi_t, Lw.isi_n, Lw.isi_s]
    rw [max1 h2]
    simp only [start, List.map, List.length, List.replicate, List.cons_append, List.nil_append, Nat.reduceSub, Nat.zero_add, Nat.reduceAdd, evSs_cons, evSs_nil, evS_ret, evS_exp, evS_asg, evS_ite, evE_var, evE_lit, evE_tup, evE_lst, evE_bin, evE_nt, evE_and, evE_or, evE_cmp, evE_ite, evE_ix, evE_sl, evE_call, evE_bi, evE_isi, evEs_nil, evEs_cons, evE_chk, getS_cons0, getS_cons, Rs.bind_ok, bin_add, bin_sub, bin_mul, bin_fdiv, bin_mod, bin_pow, add_int, sub_int, cmp_lt, cmp_le, cmp_gt, cmp_ge, bi_abs, tryB_bl, truth_bl, iteB_some, ofB_some, ofB_none, nxS_nx, nxS_rt, endV_rt, endV_nx, Ok_ok, List.set, ↓reduceIte, Bool.false_eq_true, Bool.not_true, Bool.not_false, szl, Nat.reduceLeDiff, Lw.in2, Lw.eq_str, Lw.eq_int, Lw.ne_int, Lw.eq_pair, Lw.eq_bl, Lw.eq_non, Lw.isi_i, Lw.isi_t, Lw.isi_n, Lw.isi_s, tn, maxL]
    show Rs.bind (Rs.bind (if big a = true then _ else _) _) _ = _
    cases big a <;> simp
  | p a b =>
    refine ⟨[.lst [.tup [.int a, .int b]], .lst [.int a, .int b], .lst [.int (if a < 0 then -a else a), .int (if b < 0 then -b else b)]], ?_⟩
    have h1 : (m ++ [Ob.lst [.tup [.int a, .int b]]] ++ [Ob.lst [.int a, .int b]])[(m ++ [Ob.lst [.tup [.int a, .int b]]]).length]? = some (.lst [.int a, .int b]) := by simp
    have h2 : (m ++ [Ob.lst [.tup [.int a, .int b]]] ++ [Ob.lst [.int a, .int b]] ++ [Ob.lst [.int (if a < 0 then -a else a), .int (if b < 0 then -b else b)]])[(m ++ [Ob.lst [.tup [.int a, .int b]]] ++ [Ob.lst [.int a, .int b]]).length]? = some (.lst ([if a < 0 then -a else a, if b < 0 then -b else b].map .int)) := by simp
    have lt : ∀ m : Mem, biV .list [.tup [.int a, .int b]] m = .ok (.ref m.length) (m ++ [.lst [.int a, .int b]]) := fun _ => rfl
    simp only [d__law_held, Wo.v, Wo.kept, start, List.map, List.length, List.replicate, List.cons_append, List.nil_append, Nat.reduceSub, Nat.zero_add, Nat.reduceAdd, evSs_cons, evSs_nil, evS_ret, evS_exp, evS_asg, evS_ite, evE_var, evE_lit, evE_tup, evE_lst, evE_bin, evE_nt, evE_and, evE_or, evE_cmp, evE_ite, evE_ix, evE_sl, evE_call, evE_bi, evE_isi, evEs_nil, evEs_cons, evE_chk, getS_cons0, getS_cons, Rs.bind_ok, bin_add, bin_sub, bin_mul, bin_fdiv, bin_mod, bin_pow, add_int, sub_int, cmp_lt, cmp_le, cmp_gt, cmp_ge, bi_abs, tryB_bl, truth_bl, iteB_some, ofB_some, ofB_none, nxS_nx, nxS_rt, endV_rt, endV_nx, Ok_ok, List.set, ↓reduceIte, Bool.false_eq_true, Bool.not_true, Bool.not_false, szl, Nat.reduceLeDiff, Lw.in2, Lw.eq_str, Lw.eq_int, Lw.ne_int, Lw.eq_pair, Lw.eq_bl, Lw.eq_non, Lw.isi_i, Lw.isi_t, Lw.isi_n, Lw.isi_s, e4, i3, lt, evE_comp, srV, srVal, ls_ref h1, Option.map_some, List.length]
    rw [compGo_s (v := .int a) (ρ1 := [some (.tup [.int a, .int b]), some (.ref (m ++ [Ob.lst [.tup [.int a, .int b]]]).length), some (.int a)]) (by show (lsOf _ _).map _ = _; rw [ls_ref h1]; rfl) rfl, evc]
    simp only [e0__law_held, start, List.map, List.length, List.replicate, List.cons_append, List.nil_append, Nat.reduceSub, Nat.zero_add, Nat.reduceAdd, evSs_cons, evSs_nil, evS_ret, evS_exp, evS_asg, evS_ite, evE_var, evE_lit, evE_tup, evE_lst, evE_bin, evE_nt, evE_and, evE_or, evE_cmp, evE_ite, evE_ix, evE_sl, evE_call, evE_bi, evE_isi, evEs_nil, evEs_cons, evE_chk, getS_cons0, getS_cons, Rs.bind_ok, bin_add, bin_sub, bin_mul, bin_fdiv, bin_mod, bin_pow, add_int, sub_int, cmp_lt, cmp_le, cmp_gt, cmp_ge, bi_abs, tryB_bl, truth_bl, iteB_some, ofB_some, ofB_none, nxS_nx, nxS_rt, endV_rt, endV_nx, Ok_ok, List.set, ↓reduceIte, Bool.false_eq_true, Bool.not_true, Bool.not_false, szl, Nat.reduceLeDiff, Lw.in2, Lw.eq_str, Lw.eq_int, Lw.ne_int, Lw.eq_pair, Lw.eq_bl, Lw.eq_non, Lw.isi_i, Lw.isi_t, Lw.isi_n, Lw.isi_s, szlt, Nat.reduceLT, Nat.reduceLeDiff]
    rw [compGo_s (v := .int b) (ρ1 := [some (.tup [.int a, .int b]), some (.ref (m ++ [Ob.lst [.tup [.int a, .int b]]]).length), some (.int b)]) (by show (lsOf _ _).map _ = _; rw [ls_ref h1]; rfl) rfl, evc]
    simp only [start, List.map, List.length, List.replicate, List.cons_append, List.nil_append, Nat.reduceSub, Nat.zero_add, Nat.reduceAdd, evSs_cons, evSs_nil, evS_ret, evS_exp, evS_asg, evS_ite, evE_var, evE_lit, evE_tup, evE_lst, evE_bin, evE_nt, evE_and, evE_or, evE_cmp, evE_ite, evE_ix, evE_sl, evE_call, evE_bi, evE_isi, evEs_nil, evEs_cons, evE_chk, getS_cons0, getS_cons, Rs.bind_ok, bin_add, bin_sub, bin_mul, bin_fdiv, bin_mod, bin_pow, add_int, sub_int, cmp_lt, cmp_le, cmp_gt, cmp_ge, bi_abs, tryB_bl, truth_bl, iteB_some, ofB_some, ofB_none, nxS_nx, nxS_rt, endV_rt, endV_nx, Ok_ok, List.set, ↓reduceIte, Bool.false_eq_true, Bool.not_true, Bool.not_false, szl, Nat.reduceLeDiff, Lw.in2, Lw.eq_str, Lw.eq_int, Lw.ne_int, Lw.eq_pair, Lw.eq_bl, Lw.eq_non, Lw.isi_i, Lw.isi_t, Lw.isi_n, Lw.isi_s, szlt, Nat.reduceLT, Nat.reduceLeDiff]
    rw [compGo_e (by show (lsOf _ _).map _ = _; rw [ls_ref h1]; rfl)]
    simp only [start, List.map, List.length, List.replicate, List.cons_append, List.nil_append, Nat.reduceSub, Nat.zero_add, Nat.reduceAdd, evSs_cons, evSs_nil, evS_ret, evS_exp, evS_asg, evS_ite, evE_var, evE_lit, evE_tup, evE_lst, evE_bin, evE_nt, evE_and, evE_or, evE_cmp, evE_ite, evE_ix, evE_sl, evE_call, evE_bi, evE_isi, evEs_nil, evEs_cons, evE_chk, getS_cons0, getS_cons, Rs.bind_ok, bin_add, bin_sub, bin_mul, bin_fdiv, bin_mod, bin_pow, add_int, sub_int, cmp_lt, cmp_le, cmp_gt, cmp_ge, bi_abs, tryB_bl, truth_bl, iteB_some, ofB_some, ofB_none, nxS_nx, nxS_rt, endV_rt, endV_nx, Ok_ok, List.set, ↓reduceIte, Bool.false_eq_true, Bool.not_true, Bool.not_false, szl, Nat.reduceLeDiff, Lw.in2, Lw.eq_str, Lw.eq_int, Lw.ne_int, Lw.eq_pair, Lw.eq_bl, Lw.eq_non, Lw.isi_i, Lw.isi_t, Lw.isi_n, Lw.isi_s]
    rw [max1 h2]
    simp only [start, List.map, List.length, List.replicate, List.cons_append, List.nil_append, Nat.reduceSub, Nat.zero_add, Nat.reduceAdd, evSs_cons, evSs_nil, evS_ret, evS_exp, evS_asg, evS_ite, evE_var, evE_lit, evE_tup, evE_lst, evE_bin, evE_nt, evE_and, evE_or, evE_cmp, evE_ite, evE_ix, evE_sl, evE_call, evE_bi, evE_isi, evEs_nil, evEs_cons, evE_chk, getS_cons0, getS_cons, Rs.bind_ok, bin_add, bin_sub, bin_mul, bin_fdiv, bin_mod, bin_pow, add_int, sub_int, cmp_lt, cmp_le, cmp_gt, cmp_ge, bi_abs, tryB_bl, truth_bl, iteB_some, ofB_some, ofB_none, nxS_nx, nxS_rt, endV_rt, endV_nx, Ok_ok, List.set, ↓reduceIte, Bool.false_eq_true, Bool.not_true, Bool.not_false, szl, Nat.reduceLeDiff, Lw.in2, Lw.eq_str, Lw.eq_int, Lw.ne_int, Lw.eq_pair, Lw.eq_bl, Lw.eq_non, Lw.isi_i, Lw.isi_t, Lw.isi_n, Lw.isi_s, tn]
    have e : decide ((10 : Int) ^ 400 ≤ maxL [if a < 0 then -a else a, if b < 0 then -b else b]) = (big a || big b) := by
      unfold big
      show decide ((10 : Int) ^ 400 ≤ if (if a < 0 then -a else a) < (if b < 0 then -b else b) then (if b < 0 then -b else b) else (if a < 0 then -a else a)) = _
      generalize (10 : Int) ^ 400 = U
      generalize (if a < 0 then -a else a) = x
      generalize (if b < 0 then -b else b) = y
      rw [Bool.eq_iff_iff, Bool.or_eq_true, decide_eq_true_eq, decide_eq_true_eq, decide_eq_true_eq]
      split <;> omega
    rw [e]
    cases (big a || big b) <;> simp
def six : List String := ["least", "greatest", "ways", "sum", "leasts", "greatests"]
theorem abs_bd {a : Int} {B : Nat} (h : a.natAbs < B) : (if a < 0 then -a else a).natAbs < B := by
  split
  · rw [Int.natAbs_neg]; exact h
  · exact h
theorem bi_max2 {m : Mem} {a b : Int} : biV .max [.int a, .int b] m = .ok (.int (if b > a then b else a)) m := rfl
theorem drawnB {B : Nat} (hB1 : 1 < B) (hT : D "_law_take" = some d__law_take) (hD : D "_law_drawn" = some d__law_drawn) (n : Nat) (nm : ∀ m, Feed m → Ok (callF G D (n + 2) "_law_number" [.ref 1] m) fun r m' => (∃ i, r = .int i ∧ i.natAbs < B) ∧ Feed m' ∧ Pres 1 m m') {m : Mem} {w : String} (hw : w ∈ six) (hF : Feed m) :
    Ok (callF G D (n + 3) "_law_drawn" [.ref 1, .str w] m) fun r m' => ∃ x : Wo, r = x.v ∧ WkB B w x ∧ Feed m' ∧ Pres 1 m m' := by
  have tk := fun (m : Mem) (hF : Feed m) (k : Int) (hk : 0 < k) (hk2 : k.natAbs.log2 < 9000) => take_ok (G := G) hT (n + 1) hF hk hk2
  rw [callF_eq hD rfl, Ok_bind]
  simp only [d__law_drawn, start, List.map, List.length, List.replicate, List.cons_append, List.nil_append, Nat.reduceSub]
  rw [evSs_cons, Ok_bind, evS_ite]
  simp only [evE_cmp, evE_var, evE_lit, getS_cons0, getS_cons, Rs.bind_ok, eq_str, truth_bl, iteB_some]
  by_cases h1 : w = "ways"
  · subst h1
    simp only [beq_self_eq_true, ↓reduceIte, evSs_cons, evS_ret, evE_bi, evEs_cons, evEs_nil, evE_call, evE_var, getS_cons0, Rs.bind_ok, Ok_bind]
    refine (nm m hF).mono fun r m1 h => ?_
    obtain ⟨⟨a, rfl, ha⟩, hF1, p1⟩ := h
    simp only [Ok_ok, bi_abs, nxS_rt, endV_rt]
    exact ⟨.i _, rfl, ⟨by decide, abs_bd ha⟩, hF1, p1⟩
  rw [show (w == "ways") = false from beq_eq_false_iff_ne.mpr h1]
  simp only [Bool.false_eq_true, ↓reduceIte, evSs_nil, Ok_ok, nxS_nx]
  rw [evSs_cons, Ok_bind, evS_ite]
  simp only [evE_cmp, evE_var, evE_lit, getS_cons0, getS_cons, Rs.bind_ok, eq_str, truth_bl, iteB_some]
  by_cases h2 : w = "sum"
  · subst h2
    simp only [beq_self_eq_true, ↓reduceIte, evSs_cons, evS_ret, evE_bi, evEs_cons, evEs_nil, evE_call, evE_var, getS_cons0, Rs.bind_ok, Ok_bind]
    refine (nm m hF).mono fun r m1 h => ?_
    obtain ⟨⟨a, rfl, ha⟩, hF1, p1⟩ := h
    simp only [Ok_ok, nxS_rt, endV_rt]
    exact ⟨.i _, rfl, ⟨by decide, ha⟩, hF1, p1⟩
  rw [show (w == "sum") = false from beq_eq_false_iff_ne.mpr h2]
  have hc : cnt w = false := by
    unfold cnt
    rw [beq_eq_false_iff_ne.mpr (Ne.symm h1), beq_eq_false_iff_ne.mpr (Ne.symm h2)]
    rfl
  simp only [Bool.false_eq_true, ↓reduceIte, evSs_nil, Ok_ok, nxS_nx]
  rw [evSs_cons, Ok_bind, evS_ite]
  simp only [evE_cmp, evE_call, evEs_cons, evEs_nil, evE_var, evE_lit, getS_cons0, getS_cons, Rs.bind_ok, Ok_bind]
  refine (tk m hF 6 (by decide) (by decide)).mono fun r m1 h => ?_
  obtain ⟨k, rfl, -, -, hF1, p1⟩ := h
  simp only [Ok_ok, eq_int, truth_bl, iteB_some]
  cases h5 : (k == 5)
  · simp only [Bool.false_eq_true, ↓reduceIte, evSs_nil, Ok_ok, nxS_nx]
    rw [evSs_cons, Ok_bind, evS_ite]
    simp only [evE_cmp, evE_tup, evEs_cons, evEs_nil, evE_var, evE_lit, getS_cons0, getS_cons, Rs.bind_ok, List.length, Nat.zero_add, Nat.reduceAdd, szl, Nat.reduceLeDiff, ↓reduceIte, in2, truth_bl, iteB_some]
    cases h6 : ("least" == w || "greatest" == w)
    · simp only [Bool.false_eq_true, ↓reduceIte, evSs_nil, Ok_ok, nxS_nx, evSs_cons, evS_ret, evE_tup, evE_bi, evEs_cons, evEs_nil, evE_call, evE_var, evE_lit, getS_cons0, Rs.bind_ok, Ok_bind]
      refine (nm m1 hF1).mono fun r m2 h => ?_
      obtain ⟨⟨a, rfl, ha⟩, hF2, p2⟩ := h
      refine (nm m2 hF2).mono fun r m3 h => ?_
      obtain ⟨⟨b, rfl, hb⟩, hF3, p3⟩ := h
      simp only [Ok_ok, bi_abs, bi_max2, Rs.bind_ok, List.length, Nat.zero_add, Nat.reduceAdd, szl, Nat.reduceLeDiff, ↓reduceIte, nxS_rt, endV_rt]
      refine ⟨.p _ _, rfl, ⟨hc, ?_, ha, ?_, ?_⟩, hF3, p1.trans (p2.trans p3)⟩
      · have hw' : w = "least" ∨ w = "greatest" ∨ w = "ways" ∨ w = "sum" ∨ w = "leasts" ∨ w = "greatests" := by simpa [six] using hw
        rcases hw' with rfl | rfl | rfl | rfl | rfl | rfl
        · exact absurd h6 (by decide)
        · exact absurd h6 (by decide)
        · exact absurd rfl h1
        · exact absurd rfl h2
        · decide
        · decide
      · have q := abs_bd hb
        generalize (if b < 0 then -b else b) = c at q ⊢
        split
        · exact q
        · exact hB1
      · generalize (if b < 0 then -b else b) = c
        split <;> omega
    · simp only [↓reduceIte, evSs_cons, evS_ret, evEs_cons, evEs_nil, evE_call, evE_var, getS_cons0, Rs.bind_ok, Ok_bind]
      refine (nm m1 hF1).mono fun r m2 h => ?_
      obtain ⟨⟨a, rfl, ha⟩, hF2, p2⟩ := h
      simp only [Ok_ok, nxS_rt, endV_rt]
      refine ⟨.i _, rfl, ⟨?_, ha⟩, hF2, p1.trans p2⟩
      rw [Bool.or_eq_true, beq_iff_eq, beq_iff_eq] at h6
      rcases h6 with rfl | rfl <;> decide
  · simp only [↓reduceIte, evSs_cons, evS_ret, evE_lit, Rs.bind_ok, Ok_ok, nxS_rt, endV_rt]
    exact ⟨.n, rfl, hc, hF1, p1⟩
theorem drawn_ok (hT : D "_law_take" = some d__law_take) (hE : D "_law_ten" = some d__law_ten) (hN : D "_law_number" = some d__law_number) (hD : D "_law_drawn" = some d__law_drawn) (n : Nat) {m : Mem} {w : String} (hw : w ∈ six) (hF : Feed m) :
    Ok (callF G D (n + 3) "_law_drawn" [.ref 1, .str w] m) fun r m' => ∃ x : Wo, r = x.v ∧ Wk w x ∧ Feed m' ∧ Pres 1 m m' :=
  drawnB (by decide +kernel) hT hD n (fun m hF => number_ok (G := G) hT hE hN n hF) hw hF
theorem sl63 {ns : List Int} {m : Mem} : slV (.rl (ns.map .int)) .non (.int 63) m = .ok (.ref m.length) (m ++ [.lst ((cut ns none (some 63)).map .int)]) := by
  show Rs.ok (Val.ref m.length) (m ++ [Ob.lst (cut (ns.map Val.int) none (some 63))]) = _
  rw [show cut (ns.map Val.int) none (some 63) = (cut ns none (some 63)).map Val.int from by unfold cut; rw [List.length_map, List.map_take, List.map_drop]]
/-- a loop over range(k), by what holds at each turn -/
theorem rng_ok {bd : Val → En → Mem → Option En} {body : En → Mem → Rs (Fl × En)} {Q : Fl × En → Mem → Prop} {ρ : En} {m : Mem} (I : Nat → En → Mem → Prop) (k : Nat) (hk : k ≤ 1000000)
    (step : ∀ i ρ m, i < k → I i ρ m → ∃ ρ1, bd (.int (0 + (i : Int))) ρ m = some ρ1 ∧ Ok (body ρ1 m) fun r m' => match r.1 with
      | .nx => I (i + 1) r.2 m'
      | .ct => I (i + 1) r.2 m'
      | .bk => Q (.nx, r.2) m'
      | .rt v => Q (.rt v, r.2) m')
    (fin : ∀ ρ m, I k ρ m → Q (.nx, ρ) m) (h0 : I 0 ρ m) : Ok (match srV .rng1 [.int (k : Int)] m with
    | some (s, n) => forGo s bd body n 0 ρ m
    | none => .bad) Q := by
  have e : srV .rng1 [.int (k : Int)] m = some (.vals (rangeL 0 k), k) := by
    have c : (decide (-(2 ^ 62) ≤ (k : Int)) && decide ((k : Int) < 2 ^ 62)) = true := by
      simp only [Bool.and_eq_true, decide_eq_true_eq]
      omega
    simp only [srV, srR1, c, if_true, Int.toNat_natCast]
  rw [e]
  refine forGo_ok I k (fun i ρ m hi h => ?_) (fun ρ m h => ⟨?_, fin ρ m h⟩) k 0 ρ m (by omega) h0
  · obtain ⟨ρ1, h1, h2⟩ := step i ρ m hi h
    refine ⟨.int (0 + (i : Int)), ρ1, ?_, h1, h2⟩
    show some ((rangeL 0 k)[i]?) = _
    unfold rangeL
    rw [List.getElem?_map, List.getElem?_range hi]
    rfl
  · show some ((rangeL 0 k)[k]?) = _
    rw [List.getElem?_eq_none (by unfold rangeL; simp)]
/-- a loop over a list that stays -/
theorem lst_ok {bd : Val → En → Mem → Option En} {body : En → Mem → Rs (Fl × En)} {Q : Fl × En → Mem → Prop} {ρ : En} {m : Mem} {l : Nat} {vs : List Val} (I : Nat → En → Mem → Prop) (hl : m[l]? = some (.lst vs))
    (step : ∀ i v ρ m, vs[i]? = some v → I i ρ m → m[l]? = some (.lst vs) → ∃ ρ1, bd v ρ m = some ρ1 ∧ Ok (body ρ1 m) fun r m' => match r.1 with
      | .nx => I (i + 1) r.2 m' ∧ m'[l]? = some (.lst vs)
      | .ct => I (i + 1) r.2 m' ∧ m'[l]? = some (.lst vs)
      | .bk => Q (.nx, r.2) m'
      | .rt v => Q (.rt v, r.2) m')
    (fin : ∀ ρ m, I vs.length ρ m → Q (.nx, ρ) m) (h0 : I 0 ρ m) : Ok (match srV .val [.ref l] m with
    | some (s, n) => forGo s bd body n 0 ρ m
    | none => .bad) Q := by
  have e : srV .val [.ref l] m = some (.lst l, vs.length) := by
    show (lsOf m (.ref l)).map _ = _
    rw [ls_ref hl]
    rfl
  rw [e]
  refine forGo_ok (fun i ρ m => I i ρ m ∧ m[l]? = some (.lst vs)) vs.length (fun i ρ m hi h => ?_) (fun ρ m h => ⟨?_, fin ρ m h.1⟩) vs.length 0 ρ m (by omega) ⟨h0, hl⟩
  · obtain ⟨ρ1, h1, h2⟩ := step i _ ρ m (List.getElem?_eq_getElem hi) h.1 h.2
    refine ⟨_, ρ1, ?_, h1, h2⟩
    show (lsOf m (.ref l)).map (fun vs => vs[i]?) = _
    rw [ls_ref h.2, Option.map_some, List.getElem?_eq_getElem hi]
  · show (lsOf m (.ref l)).map (fun us => us[vs.length]?) = _
    rw [ls_ref h.2]
    simp
end Lw
end SLwD

section SLwE
set_option Elab.async false
set_option linter.all false
set_option maxRecDepth 100000
set_option maxHeartbeats 2000000
namespace Lw
open PySem (Str)
open Pv
def d_nothing : Df := ⟨1, 1, (.cons (.ret (.ite (.cmp .In (.var 0) (.glb "COUNTED")) (.lit (.int 0)) (.lit .non)))
  .nil)⟩
def d_whole : Df := ⟨1, 1, (.cons (.ite (.cmp .In (.var 0) (.glb "COUNTED")) (.cons (.ret (.lit (.int 1)))
    .nil) .nil)
  (.cons (.ret (.ite (.cmp .In (.var 0) (.glb "PAIRED")) (.tup (.cons (.lit (.int 0)) (.cons (.lit (.int 1)) .nil))) (.lit (.int 0))))
  .nil))⟩
def d_either : Df := ⟨3, 3, (.cons (.ite (.cmp .In (.var 0) (.glb "COUNTED")) (.cons (.ret (.call "kept" (.cons (.bin .Add (.var 1) (.var 2)) .nil)))
    .nil) .nil)
  (.cons (.ite (.or (.cmp .Is (.var 1) (.lit .non)) (.cmp .Is (.var 2) (.lit .non))) (.cons (.ret (.call "kept" (.cons (.ite (.cmp .Is (.var 1) (.lit .non)) (.var 2) (.var 1)) .nil)))
    .nil) .nil)
  (.cons (.ite (.cmp .In (.var 0) (.glb "PAIRED")) (.cons (.ret (.call "kept" (.cons (.call "either_pair" (.cons (.var 0) (.cons (.var 1) (.cons (.var 2) .nil)))) .nil)))
    .nil) .nil)
  (.cons (.ret (.call "kept" (.cons (.call "chosen" (.cons (.var 0) (.cons (.var 1) (.cons (.var 2) .nil)))) .nil)))
  .nil))))⟩
def d_either_pair : Df := ⟨3, 3, (.cons (.ite (.cmp .Eq (.ix (.var 1) (.lit (.int 0))) (.ix (.var 2) (.lit (.int 0)))) (.cons (.ret (.tup (.cons (.ix (.var 1) (.lit (.int 0))) (.cons (.bin .Add (.ix (.var 1) (.lit (.int 1))) (.ix (.var 2) (.lit (.int 1)))) .nil))))
    .nil) .nil)
  (.cons (.ret (.ite (.cmp .Eq (.call "chosen" (.cons (.var 0) (.cons (.ix (.var 1) (.lit (.int 0))) (.cons (.ix (.var 2) (.lit (.int 0))) .nil)))) (.ix (.var 1) (.lit (.int 0)))) (.var 1) (.var 2)))
  .nil))⟩
def d_chosen : Df := ⟨3, 3, (.cons (.ret (.ite (.cmp .In (.var 0) (.glb "LESSER")) (.bi .min (.cons (.var 1) (.cons (.var 2) .nil))) (.bi .max (.cons (.var 1) (.cons (.var 2) .nil)))))
  .nil)⟩
variable {G : Str → Option Val} {D : Str → Option Df}
def lsr (w : String) : Bool := "least" == w || "leasts" == w
def chW (w : String) (a b : Int) : Int := if lsr w then (if b < a then b else a) else (if b > a then b else a)
def either0 (w : String) : Wo → Wo → Wo
  | .i a, .i b => if cnt w then .i (a + b) else .i (chW w a b)
  | .p a b, .p c d => if a == c then .p a (b + d) else if chW w a c == a then .p a b else .p c d
  | .n, y => y
  | x, .n => x
  | _, _ => .n
def both0 (w : String) : Wo → Wo → Wo
  | .i a, .i b => if cnt w then .i (a * b) else .i (a + b)
  | .p a b, .p c d => .p (a + c) (b * d)
  | _, _ => .n
def nothingW (w : String) : Wo := if cnt w then .i 0 else .n
def wholeW (w : String) : Wo := if cnt w then .i 1 else if prd w then .p 0 1 else .i 0
theorem bothW_eq (w : String) (x y : Wo) : bothW w x y = (both0 w x y).kept := by
  cases x <;> cases y <;> try rfl
  simp only [bothW, both0]
  split <;> rfl
theorem nothing_ok (hC : G "COUNTED" = some (.tup [.str "ways", .str "sum"])) (hD : D "nothing" = some d_nothing) (n : Nat) {m : Mem} (w : String) : callF G D (n + 1) "nothing" [.str w] m = .ok (nothingW w).v m := by
  rw [callF_eq hD rfl]
  unfold nothingW cnt
  cases h : ("ways" == w || "sum" == w) <;> simp only [d_nothing, start, List.map, List.length, List.replicate, List.cons_append, List.nil_append, Nat.reduceSub, Nat.zero_add, Nat.reduceAdd, evSs_cons, evSs_nil, evS_ret, evS_exp, evS_asg, evS_ite, evE_var, evE_lit, evE_tup, evE_lst, evE_bin, evE_nt, evE_and, evE_or, evE_cmp, evE_ite, evE_ix, evE_sl, evE_call, evE_bi, evE_isi, evEs_nil, evEs_cons, evE_chk, getS_cons0, getS_cons, Rs.bind_ok, bin_add, bin_sub, bin_mul, bin_fdiv, bin_mod, bin_pow, add_int, sub_int, cmp_lt, cmp_le, cmp_gt, cmp_ge, bi_abs, tryB_bl, truth_bl, iteB_some, ofB_some, ofB_none, nxS_nx, nxS_rt, endV_rt, endV_nx, Ok_ok, List.set, ↓reduceIte, Bool.false_eq_true, Bool.not_true, Bool.not_false, szl, Nat.reduceLeDiff, Lw.in2, Lw.eq_str, Lw.eq_int, Lw.ne_int, Lw.eq_pair, Lw.eq_bl, Lw.eq_non, Lw.isi_i, Lw.isi_t, Lw.isi_n, Lw.isi_s, evE_glb hC, h, Wo.v]
theorem whole_ok (hC : G "COUNTED" = some (.tup [.str "ways", .str "sum"])) (hP : G "PAIRED" = some (.tup [.str "leasts", .str "greatests"])) (hD : D "whole" = some d_whole) (n : Nat) {m : Mem} (w : String) : callF G D (n + 1) "whole" [.str w] m = .ok (wholeW w).v m := by
  rw [callF_eq hD rfl]
  unfold wholeW cnt prd
  cases h : ("ways" == w || "sum" == w)
  · cases h2 : ("leasts" == w || "greatests" == w) <;> simp only [d_whole, start, List.map, List.length, List.replicate, List.cons_append, List.nil_append, Nat.reduceSub, Nat.zero_add, Nat.reduceAdd, evSs_cons, evSs_nil, evS_ret, evS_exp, evS_asg, evS_ite, evE_var, evE_lit, evE_tup, evE_lst, evE_bin, evE_nt, evE_and, evE_or, evE_cmp, evE_ite, evE_ix, evE_sl, evE_call, evE_bi, evE_isi, evEs_nil, evEs_cons, evE_chk, getS_cons0, getS_cons, Rs.bind_ok, bin_add, bin_sub, bin_mul, bin_fdiv, bin_mod, bin_pow, add_int, sub_int, cmp_lt, cmp_le, cmp_gt, cmp_ge, bi_abs, tryB_bl, truth_bl, iteB_some, ofB_some, ofB_none, nxS_nx, nxS_rt, endV_rt, endV_nx, Ok_ok, List.set, ↓reduceIte, Bool.false_eq_true, Bool.not_true, Bool.not_false, szl, Nat.reduceLeDiff, Lw.in2, Lw.eq_str, Lw.eq_int, Lw.ne_int, Lw.eq_pair, Lw.eq_bl, Lw.eq_non, Lw.isi_i, Lw.isi_t, Lw.isi_n, Lw.isi_s, evE_glb hC, evE_glb hP, h, h2, Wo.v]
  · simp only [d_whole, start, List.map, List.length, List.replicate, List.cons_append, List.nil_append, Nat.reduceSub, Nat.zero_add, Nat.reduceAdd, evSs_cons, evSs_nil, evS_ret, evS_exp, evS_asg, evS_ite, evE_var, evE_lit, evE_tup, evE_lst, evE_bin, evE_nt, evE_and, evE_or, evE_cmp, evE_ite, evE_ix, evE_sl, evE_call, evE_bi, evE_isi, evEs_nil, evEs_cons, evE_chk, getS_cons0, getS_cons, Rs.bind_ok, bin_add, bin_sub, bin_mul, bin_fdiv, bin_mod, bin_pow, add_int, sub_int, cmp_lt, cmp_le, cmp_gt, cmp_ge, bi_abs, tryB_bl, truth_bl, iteB_some, ofB_some, ofB_none, nxS_nx, nxS_rt, endV_rt, endV_nx, Ok_ok, List.set, ↓reduceIte, Bool.false_eq_true, Bool.not_true, Bool.not_false, szl, Nat.reduceLeDiff, Lw.in2, Lw.eq_str, Lw.eq_int, Lw.ne_int, Lw.eq_pair, Lw.eq_bl, Lw.eq_non, Lw.isi_i, Lw.isi_t, Lw.isi_n, Lw.isi_s, evE_glb hC, evE_glb hP, h, Wo.v]
theorem chosen_ok (hL : G "LESSER" = some (.tup [.str "least", .str "leasts"])) (hD : D "chosen" = some d_chosen) (n : Nat) {m : Mem} (w : String) (a b : Int) : callF G D (n + 1) "chosen" [.str w, .int a, .int b] m = .ok (.int (chW w a b)) m := by
  have mn : biV .min [.int a, .int b] m = .ok (.int (if b < a then b else a)) m := rfl
  rw [callF_eq hD rfl]
  unfold chW lsr
  cases h : ("least" == w || "leasts" == w) <;> simp only [d_chosen, start, List.map, List.length, List.replicate, List.cons_append, List.nil_append, Nat.reduceSub, Nat.zero_add, Nat.reduceAdd, evSs_cons, evSs_nil, evS_ret, evS_exp, evS_asg, evS_ite, evE_var, evE_lit, evE_tup, evE_lst, evE_bin, evE_nt, evE_and, evE_or, evE_cmp, evE_ite, evE_ix, evE_sl, evE_call, evE_bi, evE_isi, evEs_nil, evEs_cons, evE_chk, getS_cons0, getS_cons, Rs.bind_ok, bin_add, bin_sub, bin_mul, bin_fdiv, bin_mod, bin_pow, add_int, sub_int, cmp_lt, cmp_le, cmp_gt, cmp_ge, bi_abs, tryB_bl, truth_bl, iteB_some, ofB_some, ofB_none, nxS_nx, nxS_rt, endV_rt, endV_nx, Ok_ok, List.set, ↓reduceIte, Bool.false_eq_true, Bool.not_true, Bool.not_false, szl, Nat.reduceLeDiff, Lw.in2, Lw.eq_str, Lw.eq_int, Lw.ne_int, Lw.eq_pair, Lw.eq_bl, Lw.eq_non, Lw.isi_i, Lw.isi_t, Lw.isi_n, Lw.isi_s, evE_glb hL, h, mn, bi_max2]
theorem pair_ok (hL : G "LESSER" = some (.tup [.str "least", .str "leasts"])) (hC : D "chosen" = some d_chosen) (hD : D "either_pair" = some d_either_pair) (n : Nat) {m : Mem} (w : String) (a b c d : Int) : callF G D (n + 2) "either_pair" [.str w, .tup [.int a, .int b], .tup [.int c, .int d]] m = .ok (either0 w (.p a b) (.p c d)).v m := by
  rw [callF_eq hD rfl]
  unfold either0
  cases h : (a == c)
  · cases h2 : (chW w a c == a) <;> simp only [d_either_pair, start, List.map, List.length, List.replicate, List.cons_append, List.nil_append, Nat.reduceSub, Nat.zero_add, Nat.reduceAdd, evSs_cons, evSs_nil, evS_ret, evS_exp, evS_asg, evS_ite, evE_var, evE_lit, evE_tup, evE_lst, evE_bin, evE_nt, evE_and, evE_or, evE_cmp, evE_ite, evE_ix, evE_sl, evE_call, evE_bi, evE_isi, evEs_nil, evEs_cons, evE_chk, getS_cons0, getS_cons, Rs.bind_ok, bin_add, bin_sub, bin_mul, bin_fdiv, bin_mod, bin_pow, add_int, sub_int, cmp_lt, cmp_le, cmp_gt, cmp_ge, bi_abs, tryB_bl, truth_bl, iteB_some, ofB_some, ofB_none, nxS_nx, nxS_rt, endV_rt, endV_nx, Ok_ok, List.set, ↓reduceIte, Bool.false_eq_true, Bool.not_true, Bool.not_false, szl, Nat.reduceLeDiff, Lw.in2, Lw.eq_str, Lw.eq_int, Lw.ne_int, Lw.eq_pair, Lw.eq_bl, Lw.eq_non, Lw.isi_i, Lw.isi_t, Lw.isi_n, Lw.isi_s, ix0, ix1, h, h2, chosen_ok hL hC, Wo.v]
  · simp only [d_either_pair, start, List.map, List.length, List.replicate, List.cons_append, List.nil_append, Nat.reduceSub, Nat.zero_add, Nat.reduceAdd, evSs_cons, evSs_nil, evS_ret, evS_exp, evS_asg, evS_ite, evE_var, evE_lit, evE_tup, evE_lst, evE_bin, evE_nt, evE_and, evE_or, evE_cmp, evE_ite, evE_ix, evE_sl, evE_call, evE_bi, evE_isi, evEs_nil, evEs_cons, evE_chk, getS_cons0, getS_cons, Rs.bind_ok, bin_add, bin_sub, bin_mul, bin_fdiv, bin_mod, bin_pow, add_int, sub_int, cmp_lt, cmp_le, cmp_gt, cmp_ge, bi_abs, tryB_bl, truth_bl, iteB_some, ofB_some, ofB_none, nxS_nx, nxS_rt, endV_rt, endV_nx, Ok_ok, List.set, ↓reduceIte, Bool.false_eq_true, Bool.not_true, Bool.not_false, szl, Nat.reduceLeDiff, Lw.in2, Lw.eq_str, Lw.eq_int, Lw.ne_int, Lw.eq_pair, Lw.eq_bl, Lw.eq_non, Lw.isi_i, Lw.isi_t, Lw.isi_n, Lw.isi_s, ix0, ix1, h, Wo.v]
theorem either_ok (hD : D "either" = some d_either) (hE : D "either_pair" = some d_either_pair) (hH : D "chosen" = some d_chosen) (hK : D "kept" = some d_kept) (hB : G "BOUND" = some (.int (10 ^ 400))) (hC : G "COUNTED" = some (.tup [.str "ways", .str "sum"])) (hP : G "PAIRED" = some (.tup [.str "leasts", .str "greatests"])) (hL : G "LESSER" = some (.tup [.str "least", .str "leasts"]))
    (n : Nat) {m : Mem} {w : String} {x y : Wo} (hx : Wk w x) (hy : Wk w y) : callF G D (n + 3) "either" [.str w, x.v, y.v] m = .ok (either0 w x y).kept.v m := by
  have kn := fun (x : Wo) (h : x ≠ .g) => kept_ok (n := n + 1) (m := m) hK hB x h
  rw [callF_eq hD rfl]
  have vn : Wo.v .n = .non := rfl
  cases x with
  | g => exact hx.elim
  | n =>
    simp only [Wk, WkB, cnt] at hx
    have hg : y ≠ .g := by rintro rfl; exact hy.elim
    simp only [d_either, vn, start, List.map, List.length, List.replicate, List.cons_append, List.nil_append, Nat.reduceSub, Nat.zero_add, Nat.reduceAdd, evSs_cons, evSs_nil, evS_ret, evS_exp, evS_asg, evS_ite, evE_var, evE_lit, evE_tup, evE_lst, evE_bin, evE_nt, evE_and, evE_or, evE_cmp, evE_ite, evE_ix, evE_sl, evE_call, evE_bi, evE_isi, evEs_nil, evEs_cons, evE_chk, getS_cons0, getS_cons, Rs.bind_ok, bin_add, bin_sub, bin_mul, bin_fdiv, bin_mod, bin_pow, add_int, sub_int, cmp_lt, cmp_le, cmp_gt, cmp_ge, bi_abs, tryB_bl, truth_bl, iteB_some, ofB_some, ofB_none, nxS_nx, nxS_rt, endV_rt, endV_nx, Ok_ok, List.set, ↓reduceIte, Bool.false_eq_true, Bool.not_true, Bool.not_false, szl, Nat.reduceLeDiff, Lw.in2, Lw.eq_str, Lw.eq_int, Lw.ne_int, Lw.eq_pair, Lw.eq_bl, Lw.eq_non, Lw.isi_i, Lw.isi_t, Lw.isi_n, Lw.isi_s, evE_glb hC, evE_glb hP, hx, is_non, either0, kn y hg]
  | i a =>
    obtain ⟨h1, h2⟩ := hx
    simp only [prd] at h1
    have vi : ∀ a, Wo.v (.i a) = .int a := fun _ => rfl
    cases y with
    | g => exact hy.elim
    | n =>
      simp only [Wk, WkB, cnt] at hy
      have k1 := kn (.i a) (by simp)
      rw [vi] at k1
      simp only [d_either, vn, vi, start, List.map, List.length, List.replicate, List.cons_append, List.nil_append, Nat.reduceSub, Nat.zero_add, Nat.reduceAdd, evSs_cons, evSs_nil, evS_ret, evS_exp, evS_asg, evS_ite, evE_var, evE_lit, evE_tup, evE_lst, evE_bin, evE_nt, evE_and, evE_or, evE_cmp, evE_ite, evE_ix, evE_sl, evE_call, evE_bi, evE_isi, evEs_nil, evEs_cons, evE_chk, getS_cons0, getS_cons, Rs.bind_ok, bin_add, bin_sub, bin_mul, bin_fdiv, bin_mod, bin_pow, add_int, sub_int, cmp_lt, cmp_le, cmp_gt, cmp_ge, bi_abs, tryB_bl, truth_bl, iteB_some, ofB_some, ofB_none, nxS_nx, nxS_rt, endV_rt, endV_nx, Ok_ok, List.set, ↓reduceIte, Bool.false_eq_true, Bool.not_true, Bool.not_false, szl, Nat.reduceLeDiff, Lw.in2, Lw.eq_str, Lw.eq_int, Lw.ne_int, Lw.eq_pair, Lw.eq_bl, Lw.eq_non, Lw.isi_i, Lw.isi_t, Lw.isi_n, Lw.isi_s, evE_glb hC, evE_glb hP, hy, is_non, is_int, either0, k1]
    | i b =>
      have k1 := kn (.i (a + b)) (by simp)
      have k2 := kn (.i (chW w a b)) (by simp)
      rw [vi] at k1 k2
      cases hc : ("ways" == w || "sum" == w) <;> simp only [d_either, vn, vi, start, List.map, List.length, List.replicate, List.cons_append, List.nil_append, Nat.reduceSub, Nat.zero_add, Nat.reduceAdd, evSs_cons, evSs_nil, evS_ret, evS_exp, evS_asg, evS_ite, evE_var, evE_lit, evE_tup, evE_lst, evE_bin, evE_nt, evE_and, evE_or, evE_cmp, evE_ite, evE_ix, evE_sl, evE_call, evE_bi, evE_isi, evEs_nil, evEs_cons, evE_chk, getS_cons0, getS_cons, Rs.bind_ok, bin_add, bin_sub, bin_mul, bin_fdiv, bin_mod, bin_pow, add_int, sub_int, cmp_lt, cmp_le, cmp_gt, cmp_ge, bi_abs, tryB_bl, truth_bl, iteB_some, ofB_some, ofB_none, nxS_nx, nxS_rt, endV_rt, endV_nx, Ok_ok, List.set, ↓reduceIte, Bool.false_eq_true, Bool.not_true, Bool.not_false, szl, Nat.reduceLeDiff, Lw.in2, Lw.eq_str, Lw.eq_int, Lw.ne_int, Lw.eq_pair, Lw.eq_bl, Lw.eq_non, Lw.isi_i, Lw.isi_t, Lw.isi_n, Lw.isi_s, evE_glb hC, evE_glb hP, hc, h1, is_int, chosen_ok hL hH, k1, k2, either0, cnt]
    | p b c =>
      have := hy.2.1
      rw [show prd w = false from h1] at this
      cases this
  | p a b =>
    obtain ⟨h1, h2, h3, h4, h5⟩ := hx
    simp only [cnt] at h1
    simp only [prd] at h2
    have vp : ∀ a b, Wo.v (.p a b) = .tup [.int a, .int b] := fun _ _ => rfl
    cases y with
    | g => exact hy.elim
    | n =>
      have k1 := kn (.p a b) (by simp)
      rw [vp] at k1
      simp only [d_either, vn, vp, start, List.map, List.length, List.replicate, List.cons_append, List.nil_append, Nat.reduceSub, Nat.zero_add, Nat.reduceAdd, evSs_cons, evSs_nil, evS_ret, evS_exp, evS_asg, evS_ite, evE_var, evE_lit, evE_tup, evE_lst, evE_bin, evE_nt, evE_and, evE_or, evE_cmp, evE_ite, evE_ix, evE_sl, evE_call, evE_bi, evE_isi, evEs_nil, evEs_cons, evE_chk, getS_cons0, getS_cons, Rs.bind_ok, bin_add, bin_sub, bin_mul, bin_fdiv, bin_mod, bin_pow, add_int, sub_int, cmp_lt, cmp_le, cmp_gt, cmp_ge, bi_abs, tryB_bl, truth_bl, iteB_some, ofB_some, ofB_none, nxS_nx, nxS_rt, endV_rt, endV_nx, Ok_ok, List.set, ↓reduceIte, Bool.false_eq_true, Bool.not_true, Bool.not_false, szl, Nat.reduceLeDiff, Lw.in2, Lw.eq_str, Lw.eq_int, Lw.ne_int, Lw.eq_pair, Lw.eq_bl, Lw.eq_non, Lw.isi_i, Lw.isi_t, Lw.isi_n, Lw.isi_s, evE_glb hC, evE_glb hP, h1, h2, is_tup, is_non, either0, k1]
    | i c =>
      have := hy.1
      rw [show prd w = true from h2] at this
      cases this
    | p c d =>
      have hg : either0 w (.p a b) (.p c d) ≠ .g := by
        show (if a == c then Wo.p a (b + d) else if chW w a c == a then Wo.p a b else Wo.p c d) ≠ .g
        by_cases q : (a == c) = true
        · rw [if_pos q]; simp
        · rw [if_neg q]
          by_cases q : (chW w a c == a) = true
          · rw [if_pos q]; simp
          · rw [if_neg q]; simp
      simp only [d_either, vp, start, List.map, List.length, List.replicate, List.cons_append, List.nil_append, Nat.reduceSub, Nat.zero_add, Nat.reduceAdd, evSs_cons, evSs_nil, evS_ret, evS_exp, evS_asg, evS_ite, evE_var, evE_lit, evE_tup, evE_lst, evE_bin, evE_nt, evE_and, evE_or, evE_cmp, evE_ite, evE_ix, evE_sl, evE_call, evE_bi, evE_isi, evEs_nil, evEs_cons, evE_chk, getS_cons0, getS_cons, Rs.bind_ok, bin_add, bin_sub, bin_mul, bin_fdiv, bin_mod, bin_pow, add_int, sub_int, cmp_lt, cmp_le, cmp_gt, cmp_ge, bi_abs, tryB_bl, truth_bl, iteB_some, ofB_some, ofB_none, nxS_nx, nxS_rt, endV_rt, endV_nx, Ok_ok, List.set, ↓reduceIte, Bool.false_eq_true, Bool.not_true, Bool.not_false, szl, Nat.reduceLeDiff, Lw.in2, Lw.eq_str, Lw.eq_int, Lw.ne_int, Lw.eq_pair, Lw.eq_bl, Lw.eq_non, Lw.isi_i, Lw.isi_t, Lw.isi_n, Lw.isi_s, evE_glb hC, evE_glb hP, h1, h2, is_tup, pair_ok hL hH hE, kn _ hg]
end Lw
end SLwE

section SLwF
set_option Elab.async false
set_option linter.all false
set_option maxRecDepth 100000
set_option maxHeartbeats 4000000
namespace Lw
open PySem (Str)
open Pv
/-! the algebra of worths, below the bound -/
theorem kept_id {B : Nat} {w : String} {x : Wo} (h : WkB B w x) (hB : B ≤ 10 ^ 400) : x.kept = x := by
  have nb : ∀ a : Int, a.natAbs < B → big a = false := fun a ha => by
    unfold big
    rw [decide_eq_false_iff_not, B400]
    generalize (10 : Nat) ^ 400 = U at hB ⊢
    split <;> omega
  cases x with
  | n => rfl
  | g => rfl
  | i a => simp only [Wo.kept, nb a h.2, Bool.false_eq_true, ↓reduceIte]
  | p a b => simp only [Wo.kept, nb a h.2.2.1, nb b h.2.2.2.1, Bool.or_self, Bool.false_eq_true, ↓reduceIte]
theorem mul_pos' {a b : Nat} {B C : Nat} (h1 : a < B) (h2 : b < C) : a * b < B * C := Nat.mul_lt_mul'' h1 h2
theorem both0_bd {B C : Nat} {w : String} {x y : Wo} (hB : 2 ≤ B) (hC : 2 ≤ C) (hx : WkB B w x) (hy : WkB C w y) : WkB (B * C) w (both0 w x y) := by
  have s : B + C ≤ B * C := by
    have h1 : B * 2 ≤ B * C := Nat.mul_le_mul_left B hC
    have h2 : 2 * C ≤ B * C := Nat.mul_le_mul_right C hB
    generalize B * C = V at h1 h2 ⊢
    omega
  cases x with
  | g => exact hx.elim
  | n => exact hx
  | i a =>
    cases y with
    | g => exact hy.elim
    | n => exact hy
    | i b =>
      have h1 := hx.2
      have h2 := hy.2
      show WkB (B * C) w (if cnt w then Wo.i (a * b) else Wo.i (a + b))
      cases cnt w
      · exact ⟨hx.1, by omega⟩
      · exact ⟨hx.1, by rw [Int.natAbs_mul]; exact mul_pos' h1 h2⟩
    | p b c => have := hy.2.1; rw [hx.1] at this; cases this
  | p a b =>
    obtain ⟨h1, h2, h3, h4, h5⟩ := hx
    cases y with
    | g => exact hy.elim
    | n => exact h1
    | i c => have := hy.1; rw [h2] at this; cases this
    | p c d =>
      obtain ⟨-, -, g3, g4, g5⟩ := hy
      exact ⟨h1, h2, by omega, by rw [Int.natAbs_mul]; exact mul_pos' h4 g4, Int.mul_pos h5 g5⟩
theorem ch_or (w : String) (a b : Int) : chW w a b = a ∨ chW w a b = b := by
  unfold chW
  cases lsr w <;> simp only [Bool.false_eq_true, ↓reduceIte] <;> split <;> omega
theorem either0_bd {B : Nat} {w : String} {x y : Wo} (hx : WkB B w x) (hy : WkB B w y) : WkB (2 * B) w (either0 w x y) := by
  have s : B ≤ 2 * B := by omega
  cases x with
  | g => exact hx.elim
  | n => exact hy.mono s
  | i a =>
    cases y with
    | g => exact hy.elim
    | n => exact hx.mono s
    | i b =>
      have h1 := hx.2
      have h2 := hy.2
      show WkB (2 * B) w (if cnt w then Wo.i (a + b) else Wo.i (chW w a b))
      cases cnt w
      · refine ⟨hx.1, ?_⟩
        rcases ch_or w a b with q | q <;> rw [q] <;> omega
      · exact ⟨hx.1, by omega⟩
    | p b c => have := hy.2.1; rw [hx.1] at this; cases this
  | p a b =>
    have hx' := hx
    obtain ⟨h1, h2, h3, h4, h5⟩ := hx
    cases y with
    | g => exact hy.elim
    | n => exact hx'.mono s
    | i c => have := hy.1; rw [h2] at this; cases this
    | p c d =>
      have hy' := hy
      obtain ⟨-, -, g3, g4, g5⟩ := hy
      show WkB (2 * B) w (if a == c then Wo.p a (b + d) else if chW w a c == a then Wo.p a b else Wo.p c d)
      by_cases q : (a == c) = true
      · rw [if_pos q]
        exact ⟨h1, h2, by omega, by omega, by omega⟩
      · rw [if_neg q]
        by_cases q : (chW w a c == a) = true
        · rw [if_pos q]; exact hx'.mono s
        · rw [if_neg q]; exact hy'.mono s
theorem both0_comm (w : String) (x y : Wo) : both0 w x y = both0 w y x := by
  cases x <;> cases y <;> simp only [both0, Int.add_comm, Int.mul_comm]
theorem ch_comm (w : String) (a b : Int) : chW w a b = chW w b a := by
  unfold chW
  cases lsr w <;> simp only [Bool.false_eq_true, ↓reduceIte] <;> (repeat' split) <;> omega
theorem ch_add (w : String) (a b c : Int) : chW w a b + c = chW w (a + c) (b + c) := by
  unfold chW
  cases lsr w <;> simp only [Bool.false_eq_true, ↓reduceIte] <;> (repeat' split) <;> omega
theorem ch_assoc (w : String) (a b c : Int) : chW w (chW w a b) c = chW w a (chW w b c) := by
  unfold chW
  cases lsr w <;> simp only [Bool.false_eq_true, ↓reduceIte] <;> (repeat' split) <;> omega
theorem ep_eq {w : String} {a b c d : Int} (h : a = c) : either0 w (.p a b) (.p c d) = .p a (b + d) := by
  show (if a == c then Wo.p a (b + d) else if chW w a c == a then Wo.p a b else Wo.p c d) = _
  rw [if_pos (by simp [h])]
theorem ep_l {w : String} {a b c d : Int} (h : a ≠ c) (h2 : chW w a c = a) : either0 w (.p a b) (.p c d) = .p a b := by
  show (if a == c then Wo.p a (b + d) else if chW w a c == a then Wo.p a b else Wo.p c d) = _
  rw [if_neg (by simp [h]), if_pos (by simp [h2])]
theorem ep_r {w : String} {a b c d : Int} (h : a ≠ c) (h2 : chW w a c = c) : either0 w (.p a b) (.p c d) = .p c d := by
  show (if a == c then Wo.p a (b + d) else if chW w a c == a then Wo.p a b else Wo.p c d) = _
  rw [if_neg (by simp [h]), if_neg (by simp [h2]; omega)]
theorem either0_comm {B : Nat} {w : String} {x y : Wo} (hx : WkB B w x) (hy : WkB B w y) : either0 w x y = either0 w y x := by
  cases x with
  | g => exact hx.elim
  | n => cases y <;> rfl
  | i a =>
    cases y with
    | g => exact hy.elim
    | n => rfl
    | i b => simp only [either0, Int.add_comm, ch_comm w a b]
    | p b c => have := hy.2.1; rw [hx.1] at this; cases this
  | p a b =>
    cases y with
    | g => exact hy.elim
    | n => rfl
    | i c => have := hy.1; rw [hx.2.1] at this; cases this
    | p c d =>
      by_cases h : a = c
      · rw [ep_eq h, ep_eq h.symm, h, Int.add_comm]
      · rcases ch_or w a c with q | q
        · rw [ep_l h q, ep_r (Ne.symm h) (by rw [ch_comm]; exact q)]
        · rw [ep_r h q, ep_l (Ne.symm h) (by rw [ch_comm]; exact q)]
theorem both0_assoc {B : Nat} {w : String} {x y z : Wo} (hx : WkB B w x) (hy : WkB B w y) (hz : WkB B w z) : both0 w (both0 w x y) z = both0 w x (both0 w y z) := by
  cases x <;> cases y <;> cases z <;> first
    | rfl
    | exact hx.elim
    | exact hy.elim
    | exact hz.elim
    | (have := hy.2.1; rw [hx.1] at this; cases this)
    | (have := hy.1; rw [hx.2.1] at this; cases this)
    | (have := hz.2.1; rw [hy.1] at this; cases this)
    | (have := hz.1; rw [hy.2.1] at this; cases this)
    | (simp only [both0, Int.add_assoc, Int.mul_assoc]; done)
    | (cases h : cnt w <;> simp only [both0, h, Bool.false_eq_true, ↓reduceIte, Int.add_assoc, Int.mul_assoc])
theorem either0_assoc {B : Nat} {w : String} {x y z : Wo} (hx : WkB B w x) (hy : WkB B w y) (hz : WkB B w z) : either0 w (either0 w x y) z = either0 w x (either0 w y z) := by
  have pn : ∀ u, either0 w u .n = u := fun u => by cases u <;> rfl
  have np : ∀ u, either0 w .n u = u := fun u => rfl
  cases x with
  | g => exact hx.elim
  | n => rfl
  | i a =>
    cases y with
    | g => exact hy.elim
    | n => rw [pn, np]
    | i b =>
      cases z with
      | g => exact hz.elim
      | n => rw [pn, pn]
      | i c => cases h : cnt w <;> simp only [either0, h, Bool.false_eq_true, ↓reduceIte, Int.add_assoc, ch_assoc]
      | p c d => have := hz.2.1; rw [hx.1] at this; cases this
    | p b c => have := hy.2.1; rw [hx.1] at this; cases this
  | p a b =>
    cases y with
    | g => exact hy.elim
    | n => rw [pn, np]
    | i c => have := hy.1; rw [hx.2.1] at this; cases this
    | p c d =>
      cases z with
      | g => exact hz.elim
      | n => rw [pn, pn]
      | i e => have := hz.1; rw [hx.2.1] at this; cases this
      | p e f =>
        have as := ch_assoc w a c e
        by_cases h : a = c
        · subst h
          rw [ep_eq rfl]
          by_cases h2 : a = e
          · subst h2
            rw [ep_eq rfl, ep_eq rfl, ep_eq rfl, Int.add_assoc]
          · rcases ch_or w a e with q | q
            · rw [ep_l h2 q, ep_l h2 q, ep_eq rfl]
            · rw [ep_r h2 q, ep_r h2 q, ep_r h2 q]
        · rcases ch_or w a c with q | q
          · rw [ep_l h q]
            by_cases h2 : c = e
            · subst h2
              rw [ep_l h q, ep_eq rfl, ep_l h q]
            · rcases ch_or w c e with r | r
              · rw [ep_l h2 r, ep_l h q]
                rw [q, r, q] at as
                by_cases h3 : a = e
                · exfalso
                  subst h3
                  rw [ch_comm w c a] at r
                  omega
                · rw [ep_l h3 as]
              · rw [ep_r h2 r]
          · rw [ep_r h q]
            by_cases h2 : c = e
            · subst h2
              rw [ep_eq rfl, ep_r h q]
            · rcases ch_or w c e with r | r
              · rw [ep_l h2 r, ep_r h q]
              · rw [ep_r h2 r]
                rw [q, r] at as
                by_cases h3 : a = e
                · exfalso
                  subst h3
                  rw [ch_comm w c a] at r
                  omega
                · rw [ep_r h3 as.symm]
theorem share {B : Nat} {w : String} {x y z : Wo} (hx : WkB B w x) (hy : WkB B w y) (hz : WkB B w z) : both0 w (either0 w x y) z = either0 w (both0 w x z) (both0 w y z) := by
  have pn : ∀ u, either0 w u .n = u := fun u => by cases u <;> rfl
  have np : ∀ u, either0 w .n u = u := fun u => rfl
  have bn : ∀ u, both0 w u .n = .n := fun u => by cases u <;> rfl
  have nb : ∀ u, both0 w .n u = .n := fun u => rfl
  cases z with
  | g => exact hz.elim
  | n => rw [bn, bn, bn]; rfl
  | i c =>
    cases x with
    | g => exact hx.elim
    | n => rw [np, nb, np]
    | p a b => have := hz.1; rw [hx.2.1] at this; cases this
    | i a =>
      cases y with
      | g => exact hy.elim
      | n => rw [pn, nb, pn]
      | i b => cases h : cnt w <;> simp only [either0, both0, h, Bool.false_eq_true, ↓reduceIte, Int.add_mul, ch_add]
      | p b d => have := hy.2.1; rw [hx.1] at this; cases this
  | p e f =>
    cases x with
    | g => exact hx.elim
    | n => rw [np, nb, np]
    | i a => have := hz.2.1; rw [hx.1] at this; cases this
    | p a b =>
      cases y with
      | g => exact hy.elim
      | n => rw [pn, nb, pn]
      | i b => have := hy.1; rw [hx.2.1] at this; cases this
      | p c d =>
        have b2 : ∀ a b c d : Int, both0 w (.p a b) (.p c d) = .p (a + c) (b * d) := fun _ _ _ _ => rfl
        rw [b2, b2]
        have as := ch_add w a c e
        by_cases h : a = c
        · subst h
          rw [ep_eq rfl, ep_eq rfl, b2, Int.add_mul]
        · rcases ch_or w a c with q | q
          · rw [q] at as
            rw [ep_l h q, b2, ep_l (by omega) as.symm]
          · rw [q] at as
            rw [ep_r h q, b2, ep_r (by omega) as.symm]
theorem whole_both {B : Nat} {w : String} {x : Wo} (hx : WkB B w x) : both0 w (wholeW w) x = x := by
  cases x with
  | g => exact hx.elim
  | n => rw [both0_comm]; rfl
  | i a => cases h : cnt w <;> simp only [both0, wholeW, h, hx.1, Bool.false_eq_true, ↓reduceIte, Int.one_mul, Int.zero_add]
  | p a b => simp only [both0, wholeW, hx.1, hx.2.1, Bool.false_eq_true, ↓reduceIte, Int.one_mul, Int.zero_add]
theorem none_either {B : Nat} {w : String} {x : Wo} (hx : WkB B w x) : either0 w (nothingW w) x = x := by
  unfold nothingW
  cases h : cnt w
  · rfl
  · cases x with
    | g => exact hx.elim
    | n => have : cnt w = false := hx; rw [h] at this; cases this
    | i a => simp only [either0, h, ↓reduceIte, Int.zero_add]
    | p a b => have := hx.1; rw [h] at this; cases this
theorem none_both {B : Nat} {w : String} {x : Wo} (hx : WkB B w x) : both0 w x (nothingW w) = nothingW w := by
  unfold nothingW
  cases h : cnt w
  · cases x <;> rfl
  · cases x with
    | g => exact hx.elim
    | n => have : cnt w = false := hx; rw [h] at this; cases this
    | i a => simp only [both0, h, ↓reduceIte, Int.mul_zero]
    | p a b => have := hx.1; rw [h] at this; cases this
theorem nothing_bd {B : Nat} (w : String) (hB : 2 ≤ B) (hw : w ∈ six) : WkB B w (nothingW w) := by
  have hw' : w = "least" ∨ w = "greatest" ∨ w = "ways" ∨ w = "sum" ∨ w = "leasts" ∨ w = "greatests" := by simpa [six] using hw
  rcases hw' with rfl | rfl | rfl | rfl | rfl | rfl
  · show cnt _ = false; decide
  · show cnt _ = false; decide
  · exact ⟨by decide, by show 0 < B; omega⟩
  · exact ⟨by decide, by show 0 < B; omega⟩
  · show cnt _ = false; decide
  · show cnt _ = false; decide
theorem whole_bd {B : Nat} (w : String) (hB : 2 ≤ B) (hw : w ∈ six) : WkB B w (wholeW w) := by
  have hw' : w = "least" ∨ w = "greatest" ∨ w = "ways" ∨ w = "sum" ∨ w = "leasts" ∨ w = "greatests" := by simpa [six] using hw
  rcases hw' with rfl | rfl | rfl | rfl | rfl | rfl
  · exact ⟨by decide, by show 0 < B; omega⟩
  · exact ⟨by decide, by show 0 < B; omega⟩
  · exact ⟨by decide, by show 1 < B; omega⟩
  · exact ⟨by decide, by show 1 < B; omega⟩
  · exact ⟨by decide, by decide, by show 0 < B; omega, by show 1 < B; omega, by decide⟩
  · exact ⟨by decide, by decide, by show 0 < B; omega, by show 1 < B; omega, by decide⟩
theorem eq_self {m : Mem} (x : Wo) : cmpV .Eq x.v x.v m = .ok (.bl true) m := by
  cases x <;> simp only [Wo.v, Lw.eq_non, Lw.eq_int, Lw.eq_pair, Lw.eq_str, beq_self_eq_true, Bool.and_self]
theorem ne_self {m : Mem} (x : Wo) : cmpV .NotEq x.v x.v m = .ok (.bl false) m := by
  have h := eq_self (m := m) x
  rw [cmp_eq_def] at h
  rw [cmp_ne_def]
  cases q : eqV m x.v x.v with
  | none => rw [q] at h; cases h
  | some b =>
    rw [q] at h
    cases b
    · cases h
    · rfl
end Lw
end SLwF

section SK12h
set_option Elab.async false
set_option maxRecDepth 100000
set_option maxHeartbeats 0
namespace K12
open PySem Pv
def P : Program := PySem.Challenge.pw_roomtables_k12_either
def dts : List Dt := dtsOf P
def bn : List Str := ["abs", "bool", "int", "isinstance", "len", "list", "max", "min", "range", "sorted", "str", "tuple"]
def gl : List (Str × Val) := [("COUNTED", .tup [.str "ways", .str "sum"]), ("PAIRED", .tup [.str "leasts", .str "greatests"]), ("LESSER", .tup [.str "least", .str "leasts"]), ("BOUND", (.int 10000000000000000000000000000000000000000000000000000000000000000000000000000000000000000000000000000000000000000000000000000000000000000000000000000000000000000000000000000000000000000000000000000000000000000000000000000000000000000000000000000000000000000000000000000000000000000000000000000000000000000000000000000000000000000000000000000000000000000000000000000000000000000000000000000000000000000))]
abbrev R : PySem.W.OpenRow := PySem.W.OpenLaw.row PySem.Challenge.rw_roomtables_k12_either
def hk : PySem.W.Hook := hookP 4 dts bn gl
def ob (s : PySem.W.SharedT) : hk.α := obsPG 4 dts bn gl (HandSHeadRun.getT s)
theorem ob_eq (s : PySem.W.SharedT) : ob s = hk.obs s.abs := obsPG_eq (HandSHeadRun.getT_eq s)
def loose : List Str := (P.main.scope.names.map (·.1)).filter (fun x => x != ("law" : Str) && x != ("__name__" : Str))
def qv : Program := PySem.W.view P [20]
def ldr : PySem.DefRec := HandSHeadRun.topDef P 20
theorem run (w : World) : HandSHeadRun.RunEq R qv hk ob 2000 loose w := by
  intro os
  kernel_rfl
open PySem.W PySem.Calls PyProof.Rows
theorem a1 : opening R.prog = plainProg R.prog.main.scope.names := by kernel_rfl
theorem a2 : ∀ s, fenceModules? R.prog s = some s := (fun s => by kernel_rfl)
theorem a3 : defOf qv R.name = some (ldr, []) := by kernel_rfl
theorem a4 : R.prog.theDef R.name = some (ldr.params, ldr.body, ldr.scope) := by kernel_rfl
theorem a5 : kwWritten? ldr.params.kwonlyargs ldr.params.kw_defaults = some [] := by kernel_rfl
theorem a6 : (!R.writes || R.records.isEmpty) = true := by rfl
theorem a7 : R.wellSaid = true := by decide +kernel
theorem a8 : (chainsOk qv && opensWell R.prog && (frees R.toRowW && R.within.isEmpty)) = true := by decide +kernel
theorem a9 : R.prog.bare := ⟨rfl, rfl, rfl, rfl, rfl, by decide +kernel⟩
theorem main_of (hw : R.toRowW.promised) (hc : WalkO qv loose (XL qv []) hk.says R.toRowW ldr [] fun f vs => PySem.call f vs) : R.Holds :=
  HandSHeadRun.head_any (r := R) (q := qv) (H := hk) (ob := ob) (M := 2000) (loose := loose) (d := ldr) (kwd := []) ob_eq a1 a2 run a3 a4 a5 a6 a7 a8 a9 hw hc
end K12
end SK12h

section SK12d
set_option Elab.async false
set_option linter.all false
set_option maxRecDepth 100000
set_option maxHeartbeats 2000000
namespace K12
open PySem (Str)
open Pv Lw
def d__law_near : Df := ⟨4, 6, (.cons (.ite (.or (.cmp .Is (.var 2) (.lit .non)) (.or (.cmp .Is (.var 3) (.lit .non)) (.cmp .Gt (.call "_law_take" (.cons (.var 0) (.cons (.lit (.int 3)) .nil))) (.lit (.int 0))))) (.cons (.ret (.var 3))
    .nil) .nil)
  (.cons (.asg (.nm 4) (.ix (.lst (.cons (.lit (.int 0)) (.cons (.lit (.int 0)) (.cons (.lit (.int 1)) (.cons (.neg (.lit (.int 1))) .nil))))) (.call "_law_take" (.cons (.var 0) (.cons (.lit (.int 4)) .nil)))))
  (.cons (.asg (.nm 5) (.bin .Add (.bin .Sub (.call "_law_take" (.cons (.var 0) (.cons (.lit (.int 3)) .nil))) (.lit (.int 1))) (.call "_law_ten" (.cons (.lit (.int 400)) .nil))))
  (.cons (.ite (.cmp .In (.var 1) (.tup (.cons (.lit (.str "leasts")) (.cons (.lit (.str "greatests")) .nil)))) (.cons (.asg (.nm 5) (.bi .min (.cons (.bi .max (.cons (.lit (.int 1)) (.cons (.bin .Sub (.var 5) (.ix (.var 2) (.lit (.int 1)))) .nil))) (.cons (.bin .Sub (.call "_law_ten" (.cons (.lit (.int 400)) .nil)) (.lit (.int 1))) .nil))))
    (.cons (.ret (.tup (.cons (.call "_law_close" (.cons (.ix (.var 2) (.lit (.int 0))) (.cons (.var 4) .nil))) (.cons (.ix (.lst (.cons (.ix (.var 3) (.lit (.int 1))) (.cons (.var 5) .nil))) (.call "_law_take" (.cons (.var 0) (.cons (.lit (.int 2)) .nil)))) .nil))))
    .nil)) .nil)
  (.cons (.ite (.and (.cmp .In (.var 1) (.tup (.cons (.lit (.str "ways")) (.cons (.lit (.str "sum")) .nil)))) (.cmp .Eq (.call "_law_take" (.cons (.var 0) (.cons (.lit (.int 2)) .nil))) (.lit (.int 1)))) (.cons (.ret (.bi .min (.cons (.bi .max (.cons (.lit (.int 1)) (.cons (.bin .Sub (.var 5) (.bi .abs (.cons (.var 2) .nil))) .nil))) (.cons (.bin .Sub (.call "_law_ten" (.cons (.lit (.int 400)) .nil)) (.lit (.int 1))) .nil))))
    .nil) .nil)
  (.cons (.ite (.cmp .Eq (.var 1) (.lit (.str "ways"))) (.cons (.ret (.bi .abs (.cons (.call "_law_close" (.cons (.var 2) (.cons (.var 4) .nil))) .nil)))
    .nil) .nil)
  (.cons (.ret (.call "_law_close" (.cons (.var 2) (.cons (.var 4) .nil))))
  .nil)))))))⟩
def d__law_close : Df := ⟨2, 2, (.cons (.ite (.cmp .GtE (.bi .abs (.cons (.bin .Add (.var 0) (.var 1)) .nil)) (.call "_law_ten" (.cons (.lit (.int 400)) .nil))) (.cons (.ret (.var 0))
    .nil) .nil)
  (.cons (.ret (.bin .Add (.var 0) (.var 1)))
  .nil))⟩
def d__law_ought : Df := ⟨3, 3, (.cons (.ite (.cmp .Is (.var 1) (.lit .non)) (.cons (.ret (.var 2))
    .nil) .nil)
  (.cons (.ite (.cmp .Is (.var 2) (.lit .non)) (.cons (.ret (.var 1))
    .nil) .nil)
  (.cons (.ite (.cmp .In (.var 0) (.tup (.cons (.lit (.str "ways")) (.cons (.lit (.str "sum")) .nil)))) (.cons (.ret (.call "_law_held" (.cons (.bin .Add (.var 1) (.var 2)) .nil)))
    .nil) .nil)
  (.cons (.ite (.cmp .In (.var 0) (.tup (.cons (.lit (.str "least")) (.cons (.lit (.str "greatest")) .nil)))) (.cons (.ret (.ix (.bi .sorted (.cons (.lst (.cons (.var 1) (.cons (.var 2) .nil))) .nil)) (.bi .int (.cons (.cmp .Eq (.var 0) (.lit (.str "greatest"))) .nil))))
    .nil) .nil)
  (.cons (.ite (.cmp .Eq (.ix (.var 1) (.lit (.int 0))) (.ix (.var 2) (.lit (.int 0)))) (.cons (.ret (.call "_law_held" (.cons (.tup (.cons (.ix (.var 1) (.lit (.int 0))) (.cons (.bin .Add (.ix (.var 1) (.lit (.int 1))) (.ix (.var 2) (.lit (.int 1)))) .nil))) .nil)))
    .nil) .nil)
  (.cons (.ret (.ix (.bi .sorted (.cons (.lst (.cons (.var 1) (.cons (.var 2) .nil))) .nil)) (.bi .int (.cons (.cmp .Eq (.var 0) (.lit (.str "greatests"))) .nil))))
  .nil))))))⟩
def b0_law : Sms := (.cons (.asg (.nm 4) (.call "_law_drawn" (.cons (.var 1) (.cons (.var 3) .nil))))
  (.cons (.asg (.nm 5) (.call "_law_near" (.cons (.var 1) (.cons (.var 3) (.cons (.var 4) (.cons (.call "_law_drawn" (.cons (.var 1) (.cons (.var 3) .nil))) .nil))))))
  (.cons (.asg (.nm 6) (.call "_law_ought" (.cons (.var 3) (.cons (.var 4) (.cons (.var 5) .nil)))))
  (.cons (.ite (.or (.nt (.call "_law_alike" (.cons (.call "either" (.cons (.var 3) (.cons (.var 4) (.cons (.var 5) .nil)))) (.cons (.var 6) .nil)))) (.nt (.call "_law_alike" (.cons (.call "either" (.cons (.var 3) (.cons (.var 5) (.cons (.var 4) .nil)))) (.cons (.var 6) .nil))))) (.cons (.ret (.lit (.bl false)))
    .nil) .nil)
  .nil))))
def b1_law : Sms := (.cons (.lup (.nm 3) .val (.cons (.lst (.cons (.lit (.str "least")) (.cons (.lit (.str "greatest")) (.cons (.lit (.str "ways")) (.cons (.lit (.str "sum")) (.cons (.lit (.str "leasts")) (.cons (.lit (.str "greatests")) .nil))))))) .nil) b0_law)
  .nil)
def d_law : Df := ⟨1, 7, (.cons (.asg (.nm 1) (.lst (.cons (.sl (.var 0) (.lit .non) (.chk (.lit (.int 63)))) (.cons (.lit (.int 0)) (.cons (.lit (.int 0)) .nil)))))
  (.cons (.lup (.nm 2) .rng1 (.cons (.lit (.int 5)) .nil) b1_law)
  (.cons (.ret (.lit (.bl true)))
  .nil)))⟩
def tbl : List (Str × Df) := [("either", d_either), ("either_pair", d_either_pair), ("chosen", d_chosen), ("kept", d_kept), ("_law_take", d__law_take), ("_law_ten", d__law_ten), ("_law_number", d__law_number), ("_law_drawn", d__law_drawn), ("_law_whole", d__law_whole), ("_law_alike", d__law_alike), ("_law_held", d__law_held), ("_law_near", d__law_near), ("_law_close", d__law_close), ("_law_ought", d__law_ought), ("law", d_law)]
structure Defs (D : Str → Option Df) : Prop where
  f_either : D "either" = some d_either
  f_either_pair : D "either_pair" = some d_either_pair
  f_chosen : D "chosen" = some d_chosen
  f_kept : D "kept" = some d_kept
  f__law_take : D "_law_take" = some d__law_take
  f__law_ten : D "_law_ten" = some d__law_ten
  f__law_number : D "_law_number" = some d__law_number
  f__law_drawn : D "_law_drawn" = some d__law_drawn
  f__law_whole : D "_law_whole" = some d__law_whole
  f__law_alike : D "_law_alike" = some d__law_alike
  f__law_held : D "_law_held" = some d__law_held
  f__law_near : D "_law_near" = some d__law_near
  f__law_close : D "_law_close" = some d__law_close
  f__law_ought : D "_law_ought" = some d__law_ought
  f_law : D "law" = some d_law
end K12
end SK12d

section SK12e
set_option Elab.async false
set_option linter.all false
set_option maxRecDepth 100000
set_option maxHeartbeats 4000000
namespace K12
open PySem (Str)
open Pv Lw
variable {G : Str → Option Val} {D : Str → Option Df}
theorem evE_neg {call : Str → List Val → Mem → Rs Val} {a : Ex} {ρ : En} {m : Mem} {i : Int} (h : evE G call a ρ m = .ok (.int i) m) : evE G call (.neg a) ρ m = .ok (.int (-i)) m := by
  show ((evE G call a ρ m).bind fun x m1 => (match x with | .int i => Rs.ok (Val.int (-i)) m1 | _ => Rs.bad)) = _
  rw [h]; rfl
theorem bi_min2 {m : Mem} {a b : Int} : biV .min [.int a, .int b] m = .ok (.int (if b < a then b else a)) m := rfl
theorem close_ok (d : Defs D) (n : Nat) {m : Mem} {a b : Int} (ha : a.natAbs < 10 ^ 400) : ∃ c, callF G D (n + 2) "_law_close" [.int a, .int b] m = .ok (.int c) m ∧ c.natAbs < 10 ^ 400 := by
  rw [callF_eq d.f__law_close rfl]
  have tn := ten_ok (G := G) d.f__law_ten (m := m) (q := 400) n (by decide) (by decide)
  have q4 : (400 : Int).toNat = 400 := rfl
  simp only [q4] at tn
  by_cases h : (10 : Int) ^ 400 ≤ if a + b < 0 then -(a + b) else a + b
  · exact ⟨a, by simp only [d__law_close, start, List.map, List.length, List.replicate, List.cons_append, List.nil_append, Nat.reduceSub, Nat.zero_add, Nat.reduceAdd, evSs_cons, evSs_nil, evS_ret, evS_exp, evS_asg, evS_ite, evE_var, evE_lit, evE_tup, evE_lst, evE_bin, evE_nt, evE_and, evE_or, evE_cmp, evE_ite, evE_ix, evE_sl, evE_call, evE_bi, evE_isi, evEs_nil, evEs_cons, evE_chk, getS_cons0, getS_cons, Rs.bind_ok, bin_add, bin_sub, bin_mul, bin_fdiv, bin_mod, bin_pow, add_int, sub_int, cmp_lt, cmp_le, cmp_gt, cmp_ge, bi_abs, tryB_bl, truth_bl, iteB_some, ofB_some, ofB_none, nxS_nx, nxS_rt, endV_rt, endV_nx, Ok_ok, List.set, ↓reduceIte, Bool.false_eq_true, Bool.not_true, Bool.not_false, szl, Nat.reduceLeDiff, Lw.in2, Lw.eq_str, Lw.eq_int, Lw.ne_int, Lw.eq_pair, Lw.eq_bl, Lw.eq_non, Lw.isi_i, Lw.isi_t, Lw.isi_n, Lw.isi_s, tn, h, decide_true], ha⟩
  · refine ⟨a + b, by simp only [d__law_close, start, List.map, List.length, List.replicate, List.cons_append, List.nil_append, Nat.reduceSub, Nat.zero_add, Nat.reduceAdd, evSs_cons, evSs_nil, evS_ret, evS_exp, evS_asg, evS_ite, evE_var, evE_lit, evE_tup, evE_lst, evE_bin, evE_nt, evE_and, evE_or, evE_cmp, evE_ite, evE_ix, evE_sl, evE_call, evE_bi, evE_isi, evEs_nil, evEs_cons, evE_chk, getS_cons0, getS_cons, Rs.bind_ok, bin_add, bin_sub, bin_mul, bin_fdiv, bin_mod, bin_pow, add_int, sub_int, cmp_lt, cmp_le, cmp_gt, cmp_ge, bi_abs, tryB_bl, truth_bl, iteB_some, ofB_some, ofB_none, nxS_nx, nxS_rt, endV_rt, endV_nx, Ok_ok, List.set, ↓reduceIte, Bool.false_eq_true, Bool.not_true, Bool.not_false, szl, Nat.reduceLeDiff, Lw.in2, Lw.eq_str, Lw.eq_int, Lw.ne_int, Lw.eq_pair, Lw.eq_bl, Lw.eq_non, Lw.isi_i, Lw.isi_t, Lw.isi_n, Lw.isi_s, tn, h, decide_false], ?_⟩
    rw [B400] at h
    generalize (10 : Nat) ^ 400 = U at h ⊢
    split at h <;> omega
theorem mm_bd {a : Int} : (if (10 : Int) ^ 400 - 1 < (if a > 1 then a else 1) then (10 : Int) ^ 400 - 1 else (if a > 1 then a else 1)).natAbs < 10 ^ 400 ∧ 0 < (if (10 : Int) ^ 400 - 1 < (if a > 1 then a else 1) then (10 : Int) ^ 400 - 1 else (if a > 1 then a else 1)) := by
  have hU : (2 : Nat) ≤ 10 ^ 400 := by decide +kernel
  rw [B400]
  generalize (10 : Nat) ^ 400 = U at hU ⊢
  have hc : 1 ≤ (if a > 1 then a else 1) := by split <;> omega
  generalize (if a > 1 then a else 1) = c at hc ⊢
  constructor <;> split <;> omega
theorem near_ok (d : Defs D) (n : Nat) {m : Mem} {w : String} {x y : Wo} (hw : w ∈ six) (hx : Wk w x) (hy : Wk w y) (hF : Feed m) :
    Ok (callF G D (n + 3) "_law_near" [.ref 1, .str w, x.v, y.v] m) fun r m' => ∃ z : Wo, r = z.v ∧ Wk w z ∧ Feed m' ∧ Pres 1 m m' := by
  have tk := fun (m : Mem) (hF : Feed m) (k : Int) (hk : 0 < k) (hk2 : k.natAbs.log2 < 9000) => take_ok (G := G) d.f__law_take (n + 1) hF hk hk2
  have tn := fun (m : Mem) => ten_ok (G := G) d.f__law_ten (m := m) (q := 400) (n + 1) (by decide) (by decide)
  have q4 : (400 : Int).toNat = 400 := rfl
  simp only [q4] at tn
  have cl := fun (m : Mem) (a b : Int) (ha : a.natAbs < 10 ^ 400) => close_ok (G := G) d n (m := m) (b := b) ha
  rw [callF_eq d.f__law_near rfl, Ok_bind]
  by_cases hxn : x = .n
  · subst hxn
    simp only [d__law_near, show Wo.v .n = .non from rfl, start, List.map, List.length, List.replicate, List.cons_append, List.nil_append, Nat.reduceSub, Nat.zero_add, Nat.reduceAdd, evSs_cons, evSs_nil, evS_ret, evS_exp, evS_asg, evS_ite, evE_var, evE_lit, evE_tup, evE_lst, evE_bin, evE_nt, evE_and, evE_or, evE_cmp, evE_ite, evE_ix, evE_sl, evE_call, evE_bi, evE_isi, evEs_nil, evEs_cons, evE_chk, getS_cons0, getS_cons, Rs.bind_ok, bin_add, bin_sub, bin_mul, bin_fdiv, bin_mod, bin_pow, add_int, sub_int, cmp_lt, cmp_le, cmp_gt, cmp_ge, bi_abs, tryB_bl, truth_bl, iteB_some, ofB_some, ofB_none, nxS_nx, nxS_rt, endV_rt, endV_nx, Ok_ok, List.set, ↓reduceIte, Bool.false_eq_true, Bool.not_true, Bool.not_false, szl, Nat.reduceLeDiff, Lw.in2, Lw.eq_str, Lw.eq_int, Lw.ne_int, Lw.eq_pair, Lw.eq_bl, Lw.eq_non, Lw.isi_i, Lw.isi_t, Lw.isi_n, Lw.isi_s, is_non]
    exact ⟨y, rfl, hy, hF, Pres.refl⟩
  have isx : ∀ m, cmpV .Is x.v .non m = .ok (.bl false) m := fun m => by
    cases x with
    | n => exact absurd rfl hxn
    | i a => rfl
    | p a b => rfl
    | g => exact hx.elim
  by_cases hyn : y = .n
  · subst hyn
    simp only [d__law_near, show Wo.v .n = .non from rfl, start, List.map, List.length, List.replicate, List.cons_append, List.nil_append, Nat.reduceSub, Nat.zero_add, Nat.reduceAdd, evSs_cons, evSs_nil, evS_ret, evS_exp, evS_asg, evS_ite, evE_var, evE_lit, evE_tup, evE_lst, evE_bin, evE_nt, evE_and, evE_or, evE_cmp, evE_ite, evE_ix, evE_sl, evE_call, evE_bi, evE_isi, evEs_nil, evEs_cons, evE_chk, getS_cons0, getS_cons, Rs.bind_ok, bin_add, bin_sub, bin_mul, bin_fdiv, bin_mod, bin_pow, add_int, sub_int, cmp_lt, cmp_le, cmp_gt, cmp_ge, bi_abs, tryB_bl, truth_bl, iteB_some, ofB_some, ofB_none, nxS_nx, nxS_rt, endV_rt, endV_nx, Ok_ok, List.set, ↓reduceIte, Bool.false_eq_true, Bool.not_true, Bool.not_false, szl, Nat.reduceLeDiff, Lw.in2, Lw.eq_str, Lw.eq_int, Lw.ne_int, Lw.eq_pair, Lw.eq_bl, Lw.eq_non, Lw.isi_i, Lw.isi_t, Lw.isi_n, Lw.isi_s, is_non, isx]
    exact ⟨.n, rfl, hy, hF, Pres.refl⟩
  have isy : ∀ m, cmpV .Is y.v .non m = .ok (.bl false) m := fun m => by
    cases y with
    | n => exact absurd rfl hyn
    | i a => rfl
    | p a b => rfl
    | g => exact hy.elim
  simp only [d__law_near, start, List.map, List.length, List.replicate, List.cons_append, List.nil_append, Nat.reduceSub]
  rw [evSs_cons, Ok_bind, evS_ite, Ok_bind, evE_or, Ok_bind]
  simp only [evE_cmp, evE_var, evE_lit, getS_cons0, getS_cons, Rs.bind_ok, isx, Ok_ok, tryB_bl, Bool.false_eq_true, ↓reduceIte]
  rw [evE_or]
  simp only [evE_cmp, evE_var, evE_lit, getS_cons0, getS_cons, Rs.bind_ok, isy, Ok_ok, tryB_bl, Bool.false_eq_true, ↓reduceIte, evE_call, evEs_cons, evEs_nil, Ok_bind]
  refine (tk m hF 3 (by decide) (by decide)).mono fun r m1 h => ?_
  obtain ⟨t, rfl, -, -, hF1, p1⟩ := h
  simp only [Ok_ok, cmp_gt, truth_bl, iteB_some]
  by_cases ht : 0 < t
  · simp only [ht, decide_true, ↓reduceIte, evSs_cons, evS_ret, evE_var, getS_cons0, getS_cons, Rs.bind_ok, Ok_ok, nxS_rt, endV_rt]
    exact ⟨y, rfl, hy, hF1, p1⟩
  simp only [ht, decide_false, Bool.false_eq_true, ↓reduceIte, evSs_nil, Ok_ok, nxS_nx]
  rw [evSs_cons, Ok_bind, evS_asg, Ok_bind]
  have ng : ∀ (ρ : En) (m : Mem), evE G (callF G D (n + 2)) (.neg (.lit (.int 1))) ρ m = .ok (.int (-1)) m := fun ρ m => evE_neg rfl
  simp only [evE_ix, evE_lst, evE_call, evEs_cons, evEs_nil, evE_var, evE_lit, ng, getS_cons0, Rs.bind_ok, List.length, Nat.zero_add, Nat.reduceAdd, szl, Nat.reduceLeDiff, ↓reduceIte, Ok_bind]
  refine (tk _ (feed_app hF1) 4 (by decide) (by decide)).mono fun r m2 h => ?_
  obtain ⟨j, rfl, hj0, hj1, hF2, p2⟩ := h
  have hl1 := feed_len hF1
  have hL : m2[m1.length]? = some (.lst [.int 0, .int 0, .int 1, .int (-1)]) := p2.2 _ _ (by omega) (by simp)
  obtain ⟨v, hv, hv2⟩ := at_nat (vs := [Val.int 0, .int 0, .int 1, .int (-1)]) (i := j) hj0 (by simpa using hj1)
  obtain ⟨q, rfl⟩ : ∃ q, v = .int q := by
    have hm := List.mem_of_getElem? hv2
    simp only [List.mem_cons, List.not_mem_nil, or_false] at hm
    rcases hm with h | h | h | h <;> exact ⟨_, h⟩
  simp only [ix_ls hL hv, Ok_ok, nxS_nx, List.set]
  rw [evSs_cons, Ok_bind, evS_asg, Ok_bind]
  simp only [evE_bin, evE_call, evEs_cons, evEs_nil, evE_var, evE_lit, getS_cons0, Rs.bind_ok, Ok_bind]
  refine (tk m2 hF2 3 (by decide) (by decide)).mono fun r m3 h => ?_
  obtain ⟨u, rfl, -, -, hF3, p3⟩ := h
  have P3 := p1.trans (Pres.app.trans (p2.trans p3))
  simp only [Ok_ok, bin_sub, sub_int, bin_add, add_int, tn, Rs.bind_ok, nxS_nx, List.set]
  rw [evSs_cons, Ok_bind, evS_ite]
  simp only [evE_cmp, evE_tup, evEs_cons, evEs_nil, evE_var, evE_lit, getS_cons0, getS_cons, Rs.bind_ok, List.length, Nat.zero_add, Nat.reduceAdd, szl, Nat.reduceLeDiff, ↓reduceIte, in2, truth_bl, iteB_some]
  cases x with
  | n => exact absurd rfl hxn
  | g => exact hx.elim
  | p a b =>
    obtain ⟨x1, x2, x3, x4, x5⟩ := hx
    cases y with
    | n => exact absurd rfl hyn
    | g => exact hy.elim
    | i c => have := hy.1; rw [x2] at this; cases this
    | p c e =>
      obtain ⟨c1, hc1, hc2⟩ := cl m3 a q x3
      simp only [show ("leasts" == w || "greatests" == w) = true from x2, ↓reduceIte]
      rw [evSs_cons, Ok_bind, evS_asg]
      simp only [Wo.v, evE_bi, evE_bin, evE_ix, evE_call, evEs_cons, evEs_nil, evE_var, evE_lit, getS_cons0, getS_cons, Rs.bind_ok, ix0, ix1, bin_sub, sub_int, bi_max2, tn, bi_min2, Ok_ok, nxS_nx, List.set]
      rw [evSs_cons, Ok_bind, evS_ret]
      simp only [evE_tup, evE_lst, evE_ix, evE_call, evEs_cons, evEs_nil, evE_var, evE_lit, getS_cons0, getS_cons, Rs.bind_ok, ix0, ix1, hc1, List.length, Nat.zero_add, Nat.reduceAdd, szl, Nat.reduceLeDiff, ↓reduceIte, Ok_bind]
      refine (tk _ (feed_app hF3) 2 (by decide) (by decide)).mono fun r m4 h => ?_
      obtain ⟨k, rfl, hk0, hk1, hF4, p4⟩ := h
      have hl3 := feed_len hF3
      have mm := mm_bd (a := u - 1 + 10 ^ 400 - b)
      generalize (if (10 : Int) ^ 400 - 1 < (if u - 1 + 10 ^ 400 - b > 1 then u - 1 + 10 ^ 400 - b else 1) then (10 : Int) ^ 400 - 1 else (if u - 1 + 10 ^ 400 - b > 1 then u - 1 + 10 ^ 400 - b else 1)) = V at mm p4 ⊢
      have hL : m4[m3.length]? = some (.lst [.int e, .int V]) := p4.2 _ _ (by omega) (by simp)
      obtain ⟨v, hv, hv2⟩ := at_nat (vs := [Val.int e, .int V]) (i := k) hk0 (by simpa using hk1)
      obtain ⟨z, rfl, hz⟩ : ∃ z, v = .int z ∧ (z = e ∨ z = V) := by
        have hm := List.mem_of_getElem? hv2
        simp only [List.mem_cons, List.not_mem_nil, or_false] at hm
        rcases hm with h | h
        · exact ⟨_, h, .inl rfl⟩
        · exact ⟨_, h, .inr rfl⟩
      simp only [ix_ls hL hv, Rs.bind_ok, List.length, Nat.zero_add, Nat.reduceAdd, szl, Nat.reduceLeDiff, ↓reduceIte, Ok_ok, nxS_rt, endV_rt]
      refine ⟨.p c1 z, rfl, ⟨x1, x2, hc2, ?_, ?_⟩, hF4, P3.trans (Pres.app.trans p4)⟩
      · rcases hz with rfl | rfl
        · exact hy.2.2.2.1
        · exact mm.1
      · rcases hz with rfl | rfl
        · exact hy.2.2.2.2
        · exact mm.2
  | i a =>
    obtain ⟨x1, x2⟩ := hx
    simp only [show ("leasts" == w || "greatests" == w) = false from x1, Bool.false_eq_true, ↓reduceIte, evSs_nil, Ok_ok, nxS_nx, Wo.v]
    have rest : ∀ (m4 : Mem) (hF4 : Feed m4) (P4 : Pres 1 m m4), Ok (evSs G (callF G D (n + 2)) (.cons (.ite (.cmp .Eq (.var 1) (.lit (.str "ways"))) (.cons (.ret (.bi .abs (.cons (.call "_law_close" (.cons (.var 2) (.cons (.var 4) .nil))) .nil)))
    .nil) .nil)
  (.cons (.ret (.call "_law_close" (.cons (.var 2) (.cons (.var 4) .nil))))
  .nil)) [some (.ref 1), some (.str w), some (.int a), some y.v, some (.int q), some (.int (u - 1 + 10 ^ 400))] m4) fun r m' => Ok (endV r m') fun r m' => ∃ z : Wo, r = z.v ∧ Wk w z ∧ Feed m' ∧ Pres 1 m m' := by
      intro m4 hF4 P4
      obtain ⟨c1, hc1, hc2⟩ := cl m4 a q x2
      cases h1 : (w == "ways")
      · simp only [start, List.map, List.length, List.replicate, List.cons_append, List.nil_append, Nat.reduceSub, Nat.zero_add, Nat.reduceAdd, evSs_cons, evSs_nil, evS_ret, evS_exp, evS_asg, evS_ite, evE_var, evE_lit, evE_tup, evE_lst, evE_bin, evE_nt, evE_and, evE_or, evE_cmp, evE_ite, evE_ix, evE_sl, evE_call, evE_bi, evE_isi, evEs_nil, evEs_cons, evE_chk, getS_cons0, getS_cons, Rs.bind_ok, bin_add, bin_sub, bin_mul, bin_fdiv, bin_mod, bin_pow, add_int, sub_int, cmp_lt, cmp_le, cmp_gt, cmp_ge, bi_abs, tryB_bl, truth_bl, iteB_some, ofB_some, ofB_none, nxS_nx, nxS_rt, endV_rt, endV_nx, Ok_ok, List.set, ↓reduceIte, Bool.false_eq_true, Bool.not_true, Bool.not_false, szl, Nat.reduceLeDiff, Lw.in2, Lw.eq_str, Lw.eq_int, Lw.ne_int, Lw.eq_pair, Lw.eq_bl, Lw.eq_non, Lw.isi_i, Lw.isi_t, Lw.isi_n, Lw.isi_s, h1, hc1]
        exact ⟨.i c1, rfl, ⟨x1, hc2⟩, hF4, P4⟩
      · simp only [start, List.map, List.length, List.replicate, List.cons_append, List.nil_append, Nat.reduceSub, Nat.zero_add, Nat.reduceAdd, evSs_cons, evSs_nil, evS_ret, evS_exp, evS_asg, evS_ite, evE_var, evE_lit, evE_tup, evE_lst, evE_bin, evE_nt, evE_and, evE_or, evE_cmp, evE_ite, evE_ix, evE_sl, evE_call, evE_bi, evE_isi, evEs_nil, evEs_cons, evE_chk, getS_cons0, getS_cons, Rs.bind_ok, bin_add, bin_sub, bin_mul, bin_fdiv, bin_mod, bin_pow, add_int, sub_int, cmp_lt, cmp_le, cmp_gt, cmp_ge, bi_abs, tryB_bl, truth_bl, iteB_some, ofB_some, ofB_none, nxS_nx, nxS_rt, endV_rt, endV_nx, Ok_ok, List.set, ↓reduceIte, Bool.false_eq_true, Bool.not_true, Bool.not_false, szl, Nat.reduceLeDiff, Lw.in2, Lw.eq_str, Lw.eq_int, Lw.ne_int, Lw.eq_pair, Lw.eq_bl, Lw.eq_non, Lw.isi_i, Lw.isi_t, Lw.isi_n, Lw.isi_s, h1, hc1]
        exact ⟨.i _, rfl, ⟨x1, abs_bd hc2⟩, hF4, P4⟩
    rw [evSs_cons, Ok_bind, evS_ite, Ok_bind, evE_and, Ok_bind]
    simp only [evE_cmp, evE_tup, evEs_cons, evEs_nil, evE_var, evE_lit, getS_cons0, getS_cons, Rs.bind_ok, List.length, Nat.zero_add, Nat.reduceAdd, szl, Nat.reduceLeDiff, ↓reduceIte, in2, tryB_bl, Ok_ok]
    cases hc : ("ways" == w || "sum" == w)
    · simp only [Bool.false_eq_true, ↓reduceIte, Ok_ok, truth_bl, iteB_some, evSs_nil, nxS_nx]
      exact rest m3 hF3 P3
    · simp only [↓reduceIte, evE_call, evEs_cons, evEs_nil, evE_var, evE_lit, getS_cons0, Rs.bind_ok, Ok_bind]
      refine (tk m3 hF3 2 (by decide) (by decide)).mono fun r m4 h => ?_
      obtain ⟨k, rfl, -, -, hF4, p4⟩ := h
      simp only [Ok_ok, eq_int, truth_bl, iteB_some]
      cases hk : (k == 1)
      · simp only [Bool.false_eq_true, ↓reduceIte, evSs_nil, Ok_ok, nxS_nx]
        exact rest m4 hF4 (P3.trans p4)
      · have mm := mm_bd (a := u - 1 + 10 ^ 400 - if a < 0 then -a else a)
        simp only [↓reduceIte, evSs_cons, evS_ret, evE_bi, evE_bin, evE_call, evEs_cons, evEs_nil, evE_var, evE_lit, getS_cons0, getS_cons, Rs.bind_ok, bi_abs, bin_sub, sub_int, bi_max2, tn, bi_min2, Ok_ok, nxS_rt, endV_rt]
        exact ⟨.i _, rfl, ⟨x1, mm.1⟩, hF4, P3.trans p4⟩
theorem sort2 {m : Mem} {l : Nat} {a b : Int} (h : m[l]? = some (.lst [.int a, .int b])) : biV .sorted [.ref l] m = .ok (.ref m.length) (m ++ [.lst (if a ≤ b then [.int a, .int b] else [.int b, .int a])]) := by
  show (match lsOf m (.ref l) with
    | some vs => (match intsOf vs with
      | some ns => Rs.ok (Val.ref m.length) (m ++ [Ob.lst ((sortB leI ns).map .int)])
      | none => (match pairsOf vs with
        | some ps => Rs.ok (Val.ref m.length) (m ++ [Ob.lst ((sortB leP ps).map pairV)])
        | none => Rs.bad))
    | none => Rs.bad) = _
  rw [ls_ref h]
  show Rs.ok (Val.ref m.length) (m ++ [Ob.lst ((if decide (a ≤ b) then [a, b] else [b, a]).map .int)]) = _
  by_cases q : a ≤ b
  · simp only [q, decide_true, ↓reduceIte, List.map]
  · simp only [q, decide_false, Bool.false_eq_true, ↓reduceIte, List.map]
theorem sortP2 {m : Mem} {l : Nat} {a b c d : Int} (h : m[l]? = some (.lst [.tup [.int a, .int b], .tup [.int c, .int d]])) (hne : a ≠ c) : biV .sorted [.ref l] m = .ok (.ref m.length) (m ++ [.lst (if a < c then [.tup [.int a, .int b], .tup [.int c, .int d]] else [.tup [.int c, .int d], .tup [.int a, .int b]])]) := by
  show (match lsOf m (.ref l) with
    | some vs => (match intsOf vs with
      | some ns => Rs.ok (Val.ref m.length) (m ++ [Ob.lst ((sortB leI ns).map .int)])
      | none => (match pairsOf vs with
        | some ps => Rs.ok (Val.ref m.length) (m ++ [Ob.lst ((sortB leP ps).map pairV)])
        | none => Rs.bad))
    | none => Rs.bad) = _
  rw [ls_ref h]
  show Rs.ok (Val.ref m.length) (m ++ [Ob.lst ((if (decide (a < c) || (decide (a = c) && decide (b ≤ d))) then [(a, b), (c, d)] else [(c, d), (a, b)]).map pairV)]) = _
  by_cases q : a < c
  · simp only [q, hne, decide_true, decide_false, Bool.true_or, ↓reduceIte, List.map, pairV]
  · simp only [q, hne, decide_false, Bool.false_and, Bool.or_self, Bool.false_eq_true, ↓reduceIte, List.map, pairV]
theorem pick2 {m : Mem} {l : Nat} {u v : Val} {c : Bool} (h : m[l]? = some (.lst [u, v])) : ixV (.ref l) (.int (if c then 1 else 0)) m = .ok (if c then v else u) m := by
  cases c
  · exact ix_ls h rfl
  · exact ix_ls h rfl
theorem ought_ok (d : Defs D) (n : Nat) {m : Mem} {w : String} {x y : Wo} (hw : w ∈ six) (hx : Wk w x) (hy : Wk w y) : ∃ t, callF G D (n + 3) "_law_ought" [.str w, x.v, y.v] m = .ok (either0 w x y).kept.v (m ++ t) := by
  have hi := fun (a : Int) => held_ok (G := G) d.f__law_ten d.f__law_held n (m := m) (.i a) (by simp)
  have hp := fun (a b : Int) => held_ok (G := G) d.f__law_ten d.f__law_held n (m := m) (.p a b) (by simp)
  have g1 : ∀ (c : Bool) (M : Mem), biV .int [.bl c] M = .ok (.int (if c then 1 else 0)) M := fun _ _ => rfl
  simp only [Wo.v] at hi hp
  rw [callF_eq d.f__law_ought rfl]
  have kx : x.kept = x := kept_id hx (Nat.le_refl _)
  have ky : y.kept = y := kept_id hy (Nat.le_refl _)
  have vn : Wo.v .n = .non := rfl
  have vi : ∀ a, Wo.v (.i a) = .int a := fun _ => rfl
  have vp : ∀ a b, Wo.v (.p a b) = .tup [.int a, .int b] := fun _ _ => rfl
  cases x with
  | g => exact hx.elim
  | n => exact ⟨[], by simp only [d__law_ought, vn, start, List.map, List.length, List.replicate, List.cons_append, List.nil_append, Nat.reduceSub, Nat.zero_add, Nat.reduceAdd, evSs_cons, evSs_nil, evS_ret, evS_exp, evS_asg, evS_ite, evE_var, evE_lit, evE_tup, evE_lst, evE_bin, evE_nt, evE_and, evE_or, evE_cmp, evE_ite, evE_ix, evE_sl, evE_call, evE_bi, evE_isi, evEs_nil, evEs_cons, evE_chk, getS_cons0, getS_cons, Rs.bind_ok, bin_add, bin_sub, bin_mul, bin_fdiv, bin_mod, bin_pow, add_int, sub_int, cmp_lt, cmp_le, cmp_gt, cmp_ge, bi_abs, tryB_bl, truth_bl, iteB_some, ofB_some, ofB_none, nxS_nx, nxS_rt, endV_rt, endV_nx, Ok_ok, List.set, ↓reduceIte, Bool.false_eq_true, Bool.not_true, Bool.not_false, szl, Nat.reduceLeDiff, Lw.in2, Lw.eq_str, Lw.eq_int, Lw.ne_int, Lw.eq_pair, Lw.eq_bl, Lw.eq_non, Lw.isi_i, Lw.isi_t, Lw.isi_n, Lw.isi_s, is_non, either0, ky, List.append_nil]⟩
  | i a =>
    obtain ⟨h1, h2⟩ := hx
    cases y with
    | g => exact hy.elim
    | n => exact ⟨[], by simp only [d__law_ought, vn, vi, start, List.map, List.length, List.replicate, List.cons_append, List.nil_append, Nat.reduceSub, Nat.zero_add, Nat.reduceAdd, evSs_cons, evSs_nil, evS_ret, evS_exp, evS_asg, evS_ite, evE_var, evE_lit, evE_tup, evE_lst, evE_bin, evE_nt, evE_and, evE_or, evE_cmp, evE_ite, evE_ix, evE_sl, evE_call, evE_bi, evE_isi, evEs_nil, evEs_cons, evE_chk, getS_cons0, getS_cons, Rs.bind_ok, bin_add, bin_sub, bin_mul, bin_fdiv, bin_mod, bin_pow, add_int, sub_int, cmp_lt, cmp_le, cmp_gt, cmp_ge, bi_abs, tryB_bl, truth_bl, iteB_some, ofB_some, ofB_none, nxS_nx, nxS_rt, endV_rt, endV_nx, Ok_ok, List.set, ↓reduceIte, Bool.false_eq_true, Bool.not_true, Bool.not_false, szl, Nat.reduceLeDiff, Lw.in2, Lw.eq_str, Lw.eq_int, Lw.ne_int, Lw.eq_pair, Lw.eq_bl, Lw.eq_non, Lw.isi_i, Lw.isi_t, Lw.isi_n, Lw.isi_s, is_non, is_int, either0, kx, List.append_nil]⟩
    | p b c => have := hy.2.1; rw [h1] at this; cases this
    | i b =>
      cases hc : cnt w
      · have hw' : w = "least" ∨ w = "greatest" := by
          have hw' : w = "least" ∨ w = "greatest" ∨ w = "ways" ∨ w = "sum" ∨ w = "leasts" ∨ w = "greatests" := by simpa [six] using hw
          rcases hw' with rfl | rfl | rfl | rfl | rfl | rfl
          · exact .inl rfl
          · exact .inr rfl
          · exact absurd hc (by decide)
          · exact absurd hc (by decide)
          · exact absurd h1 (by decide)
          · exact absurd h1 (by decide)
        have h3 : ("least" == w || "greatest" == w) = true := by rcases hw' with rfl | rfl <;> decide
        have l1 : (m ++ [Ob.lst [.int a, .int b]])[m.length]? = some (.lst [.int a, .int b]) := by simp
        have l2 : ∀ c : Ob, (m ++ [Ob.lst [.int a, .int b]] ++ [c])[(m ++ [Ob.lst [.int a, .int b]]).length]? = some c := fun c => by simp
        have e0 : (either0 w (.i a) (.i b)).kept = .i (chW w a b) := by
          have : either0 w (.i a) (.i b) = .i (chW w a b) := by simp only [either0, hc, Bool.false_eq_true, ↓reduceIte]
          rw [this]
          rcases ch_or w a b with q | q <;> rw [q]
          · exact kx
          · exact ky
        refine ⟨[.lst [.int a, .int b], .lst (if a ≤ b then [.int a, .int b] else [.int b, .int a])], ?_⟩
        rw [e0]
        have hc' : ("ways" == w || "sum" == w) = false := hc
        by_cases q : a ≤ b
        · simp only [d__law_ought, vi, start, List.map, List.length, List.replicate, List.cons_append, List.nil_append, Nat.reduceSub, Nat.zero_add, Nat.reduceAdd, evSs_cons, evSs_nil, evS_ret, evS_exp, evS_asg, evS_ite, evE_var, evE_lit, evE_tup, evE_lst, evE_bin, evE_nt, evE_and, evE_or, evE_cmp, evE_ite, evE_ix, evE_sl, evE_call, evE_bi, evE_isi, evEs_nil, evEs_cons, evE_chk, getS_cons0, getS_cons, Rs.bind_ok, bin_add, bin_sub, bin_mul, bin_fdiv, bin_mod, bin_pow, add_int, sub_int, cmp_lt, cmp_le, cmp_gt, cmp_ge, bi_abs, tryB_bl, truth_bl, iteB_some, ofB_some, ofB_none, nxS_nx, nxS_rt, endV_rt, endV_nx, Ok_ok, List.set, ↓reduceIte, Bool.false_eq_true, Bool.not_true, Bool.not_false, szl, Nat.reduceLeDiff, Lw.in2, Lw.eq_str, Lw.eq_int, Lw.ne_int, Lw.eq_pair, Lw.eq_bl, Lw.eq_non, Lw.isi_i, Lw.isi_t, Lw.isi_n, Lw.isi_s, hc', h3, is_int, sort2 l1, q]
          simp only [g1, Rs.bind_ok, pick2 (l2 _), nxS_rt, endV_rt]
          simp only [List.append_assoc, List.cons_append, List.nil_append]
          rcases hw' with rfl | rfl
          · simp only [show (("least" : String) == "greatest") = false by decide, Bool.false_eq_true, ↓reduceIte, chW, show lsr "least" = true by decide, show ¬ b < a by omega]
          · simp only [show (("greatest" : String) == "greatest") = true by decide, ↓reduceIte, chW, show lsr "greatest" = false by decide, Bool.false_eq_true]
            by_cases q2 : b > a
            · simp only [q2, ↓reduceIte]
            · have : a = b := by omega
              subst this
              simp
        · simp only [d__law_ought, vi, start, List.map, List.length, List.replicate, List.cons_append, List.nil_append, Nat.reduceSub, Nat.zero_add, Nat.reduceAdd, evSs_cons, evSs_nil, evS_ret, evS_exp, evS_asg, evS_ite, evE_var, evE_lit, evE_tup, evE_lst, evE_bin, evE_nt, evE_and, evE_or, evE_cmp, evE_ite, evE_ix, evE_sl, evE_call, evE_bi, evE_isi, evEs_nil, evEs_cons, evE_chk, getS_cons0, getS_cons, Rs.bind_ok, bin_add, bin_sub, bin_mul, bin_fdiv, bin_mod, bin_pow, add_int, sub_int, cmp_lt, cmp_le, cmp_gt, cmp_ge, bi_abs, tryB_bl, truth_bl, iteB_some, ofB_some, ofB_none, nxS_nx, nxS_rt, endV_rt, endV_nx, Ok_ok, List.set, ↓reduceIte, Bool.false_eq_true, Bool.not_true, Bool.not_false, szl, Nat.reduceLeDiff, Lw.in2, Lw.eq_str, Lw.eq_int, Lw.ne_int, Lw.eq_pair, Lw.eq_bl, Lw.eq_non, Lw.isi_i, Lw.isi_t, Lw.isi_n, Lw.isi_s, hc', h3, is_int, sort2 l1, q]
          simp only [g1, Rs.bind_ok, pick2 (l2 _), nxS_rt, endV_rt]
          simp only [List.append_assoc, List.cons_append, List.nil_append]
          rcases hw' with rfl | rfl
          · simp only [show (("least" : String) == "greatest") = false by decide, Bool.false_eq_true, ↓reduceIte, chW, show lsr "least" = true by decide, show b < a by omega]
          · simp only [show (("greatest" : String) == "greatest") = true by decide, ↓reduceIte, chW, show lsr "greatest" = false by decide, Bool.false_eq_true, show ¬ b > a by omega]
      · obtain ⟨t, ht⟩ := hi (a + b)
        have hc' : ("ways" == w || "sum" == w) = true := hc
        have e0 : either0 w (.i a) (.i b) = .i (a + b) := by simp only [either0, hc, ↓reduceIte]
        exact ⟨t, by rw [e0]; simp only [d__law_ought, vi, start, List.map, List.length, List.replicate, List.cons_append, List.nil_append, Nat.reduceSub, Nat.zero_add, Nat.reduceAdd, evSs_cons, evSs_nil, evS_ret, evS_exp, evS_asg, evS_ite, evE_var, evE_lit, evE_tup, evE_lst, evE_bin, evE_nt, evE_and, evE_or, evE_cmp, evE_ite, evE_ix, evE_sl, evE_call, evE_bi, evE_isi, evEs_nil, evEs_cons, evE_chk, getS_cons0, getS_cons, Rs.bind_ok, bin_add, bin_sub, bin_mul, bin_fdiv, bin_mod, bin_pow, add_int, sub_int, cmp_lt, cmp_le, cmp_gt, cmp_ge, bi_abs, tryB_bl, truth_bl, iteB_some, ofB_some, ofB_none, nxS_nx, nxS_rt, endV_rt, endV_nx, Ok_ok, List.set, ↓reduceIte, Bool.false_eq_true, Bool.not_true, Bool.not_false, szl, Nat.reduceLeDiff, Lw.in2, Lw.eq_str, Lw.eq_int, Lw.ne_int, Lw.eq_pair, Lw.eq_bl, Lw.eq_non, Lw.isi_i, Lw.isi_t, Lw.isi_n, Lw.isi_s, hc', is_int, ht, Wo.v]⟩
  | p a b =>
    have hx' := hx
    obtain ⟨h1, h2, h3, h4, h5⟩ := hx
    cases y with
    | g => exact hy.elim
    | n => exact ⟨[], by simp only [d__law_ought, vn, vp, start, List.map, List.length, List.replicate, List.cons_append, List.nil_append, Nat.reduceSub, Nat.zero_add, Nat.reduceAdd, evSs_cons, evSs_nil, evS_ret, evS_exp, evS_asg, evS_ite, evE_var, evE_lit, evE_tup, evE_lst, evE_bin, evE_nt, evE_and, evE_or, evE_cmp, evE_ite, evE_ix, evE_sl, evE_call, evE_bi, evE_isi, evEs_nil, evEs_cons, evE_chk, getS_cons0, getS_cons, Rs.bind_ok, bin_add, bin_sub, bin_mul, bin_fdiv, bin_mod, bin_pow, add_int, sub_int, cmp_lt, cmp_le, cmp_gt, cmp_ge, bi_abs, tryB_bl, truth_bl, iteB_some, ofB_some, ofB_none, nxS_nx, nxS_rt, endV_rt, endV_nx, Ok_ok, List.set, ↓reduceIte, Bool.false_eq_true, Bool.not_true, Bool.not_false, szl, Nat.reduceLeDiff, Lw.in2, Lw.eq_str, Lw.eq_int, Lw.ne_int, Lw.eq_pair, Lw.eq_bl, Lw.eq_non, Lw.isi_i, Lw.isi_t, Lw.isi_n, Lw.isi_s, is_non, is_tup, either0, kx, List.append_nil]⟩
    | i c => have := hy.1; rw [h2] at this; cases this
    | p c e =>
      have hw' : w = "leasts" ∨ w = "greatests" := by
        have hw' : w = "least" ∨ w = "greatest" ∨ w = "ways" ∨ w = "sum" ∨ w = "leasts" ∨ w = "greatests" := by simpa [six] using hw
        rcases hw' with rfl | rfl | rfl | rfl | rfl | rfl
        · exact absurd h2 (by decide)
        · exact absurd h2 (by decide)
        · exact absurd h2 (by decide)
        · exact absurd h2 (by decide)
        · exact .inl rfl
        · exact .inr rfl
      have h6 : ("least" == w || "greatest" == w) = false := by rcases hw' with rfl | rfl <;> decide
      have hc' : ("ways" == w || "sum" == w) = false := h1
      by_cases q : a = c
      · obtain ⟨t, ht⟩ := hp a (b + e)
        subst q
        exact ⟨t, by rw [ep_eq rfl]; simp only [d__law_ought, vp, start, List.map, List.length, List.replicate, List.cons_append, List.nil_append, Nat.reduceSub, Nat.zero_add, Nat.reduceAdd, evSs_cons, evSs_nil, evS_ret, evS_exp, evS_asg, evS_ite, evE_var, evE_lit, evE_tup, evE_lst, evE_bin, evE_nt, evE_and, evE_or, evE_cmp, evE_ite, evE_ix, evE_sl, evE_call, evE_bi, evE_isi, evEs_nil, evEs_cons, evE_chk, getS_cons0, getS_cons, Rs.bind_ok, bin_add, bin_sub, bin_mul, bin_fdiv, bin_mod, bin_pow, add_int, sub_int, cmp_lt, cmp_le, cmp_gt, cmp_ge, bi_abs, tryB_bl, truth_bl, iteB_some, ofB_some, ofB_none, nxS_nx, nxS_rt, endV_rt, endV_nx, Ok_ok, List.set, ↓reduceIte, Bool.false_eq_true, Bool.not_true, Bool.not_false, szl, Nat.reduceLeDiff, Lw.in2, Lw.eq_str, Lw.eq_int, Lw.ne_int, Lw.eq_pair, Lw.eq_bl, Lw.eq_non, Lw.isi_i, Lw.isi_t, Lw.isi_n, Lw.isi_s, hc', h6, is_tup, ix0, ix1, beq_self_eq_true, ht, Wo.v]⟩
      · have q' : (a == c) = false := beq_eq_false_iff_ne.mpr q
        have l1 : (m ++ [Ob.lst [.tup [.int a, .int b], .tup [.int c, .int e]]])[m.length]? = some (.lst [.tup [.int a, .int b], .tup [.int c, .int e]]) := by simp
        have l2 : ∀ z : Ob, (m ++ [Ob.lst [.tup [.int a, .int b], .tup [.int c, .int e]]] ++ [z])[(m ++ [Ob.lst [.tup [.int a, .int b], .tup [.int c, .int e]]]).length]? = some z := fun z => by simp
        refine ⟨[.lst [.tup [.int a, .int b], .tup [.int c, .int e]], .lst (if a < c then [.tup [.int a, .int b], .tup [.int c, .int e]] else [.tup [.int c, .int e], .tup [.int a, .int b]])], ?_⟩
        by_cases r : a < c
        · simp only [d__law_ought, vp, start, List.map, List.length, List.replicate, List.cons_append, List.nil_append, Nat.reduceSub, Nat.zero_add, Nat.reduceAdd, evSs_cons, evSs_nil, evS_ret, evS_exp, evS_asg, evS_ite, evE_var, evE_lit, evE_tup, evE_lst, evE_bin, evE_nt, evE_and, evE_or, evE_cmp, evE_ite, evE_ix, evE_sl, evE_call, evE_bi, evE_isi, evEs_nil, evEs_cons, evE_chk, getS_cons0, getS_cons, Rs.bind_ok, bin_add, bin_sub, bin_mul, bin_fdiv, bin_mod, bin_pow, add_int, sub_int, cmp_lt, cmp_le, cmp_gt, cmp_ge, bi_abs, tryB_bl, truth_bl, iteB_some, ofB_some, ofB_none, nxS_nx, nxS_rt, endV_rt, endV_nx, Ok_ok, List.set, ↓reduceIte, Bool.false_eq_true, Bool.not_true, Bool.not_false, szl, Nat.reduceLeDiff, Lw.in2, Lw.eq_str, Lw.eq_int, Lw.ne_int, Lw.eq_pair, Lw.eq_bl, Lw.eq_non, Lw.isi_i, Lw.isi_t, Lw.isi_n, Lw.isi_s, hc', h6, is_tup, ix0, q', sortP2 l1 q, r]
          simp only [g1, Rs.bind_ok, pick2 (l2 _), nxS_rt, endV_rt]
          simp only [List.append_assoc, List.cons_append, List.nil_append]
          rcases hw' with rfl | rfl
          · rw [ep_l q (by simp only [chW, show lsr "leasts" = true by decide, ↓reduceIte, show ¬ c < a by omega]), kx]
            rfl
          · rw [ep_r q (by simp only [chW, show lsr "greatests" = false by decide, Bool.false_eq_true, ↓reduceIte, show c > a by omega]), ky]
            rfl
        · simp only [d__law_ought, vp, start, List.map, List.length, List.replicate, List.cons_append, List.nil_append, Nat.reduceSub, Nat.zero_add, Nat.reduceAdd, evSs_cons, evSs_nil, evS_ret, evS_exp, evS_asg, evS_ite, evE_var, evE_lit, evE_tup, evE_lst, evE_bin, evE_nt, evE_and, evE_or, evE_cmp, evE_ite, evE_ix, evE_sl, evE_call, evE_bi, evE_isi, evEs_nil, evEs_cons, evE_chk, getS_cons0, getS_cons, Rs.bind_ok, bin_add, bin_sub, bin_mul, bin_fdiv, bin_mod, bin_pow, add_int, sub_int, cmp_lt, cmp_le, cmp_gt, cmp_ge, bi_abs, tryB_bl, truth_bl, iteB_some, ofB_some, ofB_none, nxS_nx, nxS_rt, endV_rt, endV_nx, Ok_ok, List.set, ↓reduceIte, Bool.false_eq_true, Bool.not_true, Bool.not_false, szl, Nat.reduceLeDiff, Lw.in2, Lw.eq_str, Lw.eq_int, Lw.ne_int, Lw.eq_pair, Lw.eq_bl, Lw.eq_non, Lw.isi_i, Lw.isi_t, Lw.isi_n, Lw.isi_s, hc', h6, is_tup, ix0, q', sortP2 l1 q, r]
          simp only [g1, Rs.bind_ok, pick2 (l2 _), nxS_rt, endV_rt]
          simp only [List.append_assoc, List.cons_append, List.nil_append]
          rcases hw' with rfl | rfl
          · rw [ep_r q (by simp only [chW, show lsr "leasts" = true by decide, ↓reduceIte, show c < a by omega]), ky]
            rfl
          · rw [ep_l q (by simp only [chW, show lsr "greatests" = false by decide, Bool.false_eq_true, ↓reduceIte, show ¬ c > a by omega]), kx]
            rfl
end K12
end SK12e

section SK12f
set_option Elab.async false
set_option linter.all false
set_option maxRecDepth 100000
set_option maxHeartbeats 4000000
namespace K12
open PySem (Str)
open Pv Lw
variable {G : Str → Option Val} {D : Str → Option Df}
structure Gs (G : Str → Option Val) : Prop where
  b : G "BOUND" = some (.int (10 ^ 400))
  c : G "COUNTED" = some (.tup [.str "ways", .str "sum"])
  p : G "PAIRED" = some (.tup [.str "leasts", .str "greatests"])
  l : G "LESSER" = some (.tup [.str "least", .str "leasts"])
theorem body_ok (g : Gs G) (d : Defs D) {n : Nat} {m : Mem} {w : String} {x0 x2 y4 y5 y6 : Option Val} (hw : w ∈ six) (hF : Feed m) : Ok (evSs G (callF G D (n + 3)) b0_law [x0, some (.ref 1), x2, some (.str w), y4, y5, y6] m) fun r m' => r.1 = .nx ∧ (∃ y4 y5 y6, r.2 = [x0, some (.ref 1), x2, some (.str w), y4, y5, y6]) ∧ Feed m' ∧ Pres 1 m m' := by
  have dr := fun (m : Mem) (hF : Feed m) => drawn_ok (G := G) d.f__law_take d.f__law_ten d.f__law_number d.f__law_drawn n (m := m) hw hF
  rw [b0_law, evSs_cons, Ok_bind, evS_asg]
  simp only [evE_call, evEs_cons, evEs_nil, evE_var, getS_cons0, getS_cons, Rs.bind_ok, Ok_bind]
  refine (dr m hF).mono fun r m1 h => ?_
  obtain ⟨x, rfl, hx, hF1, p1⟩ := h
  simp only [Ok_ok, nxS_nx, List.set]
  rw [evSs_cons, Ok_bind, evS_asg]
  simp only [evE_call, evEs_cons, evEs_nil, evE_var, getS_cons0, getS_cons, Rs.bind_ok, Ok_bind]
  refine (dr m1 hF1).mono fun r m2 h => ?_
  obtain ⟨y0, rfl, hy0, hF2, p2⟩ := h
  simp only [Ok_ok]
  refine (near_ok d n hw hx hy0 hF2).mono fun r m3 h => ?_
  obtain ⟨y, rfl, hy, hF3, p3⟩ := h
  simp only [Ok_ok, nxS_nx, List.set]
  obtain ⟨t, ht⟩ := ought_ok (G := G) d n (m := m3) hw hx hy
  have b1 := either_ok d.f_either d.f_either_pair d.f_chosen d.f_kept g.b g.c g.p g.l n (m := m3 ++ t) hx hy
  have b2 := either_ok d.f_either d.f_either_pair d.f_chosen d.f_kept g.b g.c g.p g.l n (m := m3 ++ t) hy hx
  rw [either0_comm hy hx] at b2
  have al := alike_ok (G := G) d.f__law_whole d.f__law_alike (n + 1) (m := m3 ++ t) (either0 w x y).kept
  simp only [start, List.map, List.length, List.replicate, List.cons_append, List.nil_append, Nat.reduceSub, Nat.zero_add, Nat.reduceAdd, evSs_cons, evSs_nil, evS_ret, evS_exp, evS_asg, evS_ite, evE_var, evE_lit, evE_tup, evE_lst, evE_bin, evE_nt, evE_and, evE_or, evE_cmp, evE_ite, evE_ix, evE_sl, evE_call, evE_bi, evE_isi, evEs_nil, evEs_cons, evE_chk, getS_cons0, getS_cons, Rs.bind_ok, bin_add, bin_sub, bin_mul, bin_fdiv, bin_mod, bin_pow, add_int, sub_int, cmp_lt, cmp_le, cmp_gt, cmp_ge, bi_abs, tryB_bl, truth_bl, iteB_some, ofB_some, ofB_none, nxS_nx, nxS_rt, endV_rt, endV_nx, Ok_ok, List.set, ↓reduceIte, Bool.false_eq_true, Bool.not_true, Bool.not_false, szl, Nat.reduceLeDiff, Lw.in2, Lw.eq_str, Lw.eq_int, Lw.ne_int, Lw.eq_pair, Lw.eq_bl, Lw.eq_non, Lw.isi_i, Lw.isi_t, Lw.isi_n, Lw.isi_s, ht, b1, b2, al]
  exact ⟨trivial, ⟨_, _, _, rfl⟩, feed_app hF3, p1.trans (p2.trans (p3.trans Pres.app))⟩
theorem law_ok' (g : Gs G) (d : Defs D) (ns : List Int) : Ok (callF G D 104 "law" [.rl (ns.map .int)] []) fun r _ => r = .bl true := by
  rw [callF_eq d.f_law rfl, Ok_bind]
  simp only [d_law, start, List.map, List.length, List.replicate, List.cons_append, List.nil_append, Nat.reduceSub]
  rw [evSs_cons, Ok_bind, evS_asg]
  simp only [evE_lst, evEs_cons, evEs_nil, evE_sl, evE_chk, evE_var, evE_lit, getS_cons0, Rs.bind_ok, sl63, List.length, Nat.zero_add, Nat.reduceAdd, szl, Nat.reduceLeDiff, ↓reduceIte, Ok_ok, nxS_nx, List.set, List.nil_append, List.cons_append]
  rw [evSs_cons, Ok_bind, evS_lup, Ok_bind]
  simp only [evEs_cons, evEs_nil, evE_lit, Rs.bind_ok, Ok_ok]
  refine (rng_ok (Q := fun r m' => r.1 = .nx) (fun _ ρ m => (∃ y2 y3 y4 y5 y6, ρ = [some (.rl (ns.map .int)), some (.ref 1), y2, y3, y4, y5, y6]) ∧ Feed m) 5 (by decide) (fun i ρ m hi hI => ?_) (fun ρ m hI => rfl) ⟨⟨_, _, _, _, _, rfl⟩, ⟨_, 0, 0, rfl, rfl, by decide⟩⟩).mono fun r m' h => ?_
  · obtain ⟨⟨y2, y3, y4, y5, y6, rfl⟩, hF⟩ := hI
    refine ⟨_, rfl, ?_⟩
    rw [b1_law, evSs_cons, Ok_bind, evS_lup, Ok_bind]
    simp only [evEs_cons, evEs_nil, evE_lst, evE_lit, Rs.bind_ok, Ok_ok, List.length, Nat.zero_add, Nat.reduceAdd, szl, Nat.reduceLeDiff, ↓reduceIte]
    have h5 : (m ++ [Ob.lst (six.map fun s => Val.str (Str.ofString s))])[m.length]? = some (.lst (six.map fun s => Val.str (Str.ofString s))) := by simp
    refine (lst_ok (Q := fun r m' => r.1 = .nx ∧ (∃ y3 y4 y5 y6, r.2 = [some (.rl (ns.map .int)), some (.ref 1), some (.int (0 + (i : Int))), y3, y4, y5, y6]) ∧ Feed m') (vs := six.map fun s => Val.str (Str.ofString s)) (l := m.length) (fun _ ρ m => (∃ y3 y4 y5 y6, ρ = [some (.rl (ns.map .int)), some (.ref 1), some (.int (0 + (i : Int))), y3, y4, y5, y6]) ∧ Feed m) h5 (fun j v ρ m1 hv hI h5' => ?_) (fun ρ m1 hI => ⟨rfl, hI.1, hI.2⟩) ⟨⟨_, _, _, _, rfl⟩, feed_app hF⟩).mono fun r m' h => ?_
    · obtain ⟨⟨y3, y4, y5, y6, rfl⟩, hF1⟩ := hI
      rw [List.getElem?_map] at hv
      obtain ⟨w, hw, rfl⟩ : ∃ w ∈ six, v = .str w := by
        cases q : six[j]? with
        | none => rw [q] at hv; cases hv
        | some w => rw [q] at hv; exact ⟨w, List.mem_of_getElem? q, (Option.some.inj hv).symm⟩
      refine ⟨_, rfl, ?_⟩
      refine (body_ok g d (n := 100) hw hF1).mono fun r m2 h => ?_
      obtain ⟨fl, ρ⟩ := r
      obtain ⟨h1, ⟨z4, z5, z6, h2⟩, h3, h4⟩ := h
      simp only at h1 h2
      subst h1 h2
      exact ⟨⟨⟨_, _, _, _, rfl⟩, h3⟩, h4.2 _ _ (by have := feed_len hF; omega) h5'⟩
    · obtain ⟨fl, ρ⟩ := r
      obtain ⟨h1, ⟨z3, z4, z5, z6, h2⟩, h3⟩ := h
      simp only at h1 h2
      subst h1 h2
      simp only [nxS_nx, evSs_nil, Ok_ok]
      exact ⟨⟨_, _, _, _, _, rfl⟩, h3⟩
  · obtain ⟨fl, ρ⟩ := r
    simp only at h
    subst h
    simp only [nxS_nx, evSs_cons, evS_ret, evE_lit, Rs.bind_ok, Ok_ok, nxS_rt, endV_rt]
end K12
end SK12f

section SK12g
set_option Elab.async false
set_option maxRecDepth 100000
namespace K12
open PySem (Str)
open Pv
theorem gsok : Gs (fun x => gl.lookup x) := ⟨by kernel_rfl, by kernel_rfl, by kernel_rfl, by kernel_rfl⟩
end K12
end SK12g

section SK12z
set_option Elab.async false
set_option linter.all false
set_option maxRecDepth 100000
set_option maxHeartbeats 2000000
namespace K12
open PySem (Str)
open Pv
theorem tbl_eq : turnAll (dnOf dts) bn (fun x => gl.lookup x) dts = some tbl := by kernel_rfl
theorem defs : Defs (Dof tbl) := ⟨by kernel_rfl, by kernel_rfl, by kernel_rfl, by kernel_rfl, by kernel_rfl, by kernel_rfl, by kernel_rfl, by kernel_rfl, by kernel_rfl, by kernel_rfl, by kernel_rfl, by kernel_rfl, by kernel_rfl, by kernel_rfl, by kernel_rfl⟩
def ld : Dt := dts.getD 14 ⟨"", ⟨[], [], none, [], [], none, []⟩, [], ⟨.function, [], false, false, []⟩⟩
theorem ldn0 : ld.name = "law" := by kernel_rfl
theorem law_ok (ns : List Int) (h : ns.length ≤ 63) : ∃ M', callF (fun x => gl.lookup x) (Dof tbl) 104 ld.name [.rl (ns.map .int)] [] = .ok (.bl true) M' := by
  obtain ⟨a, m, e, q⟩ := law_ok' gsok defs ns
  rw [ldn0]
  rw [q] at e
  exact ⟨m, e⟩
theorem nd : (dts.map (·.name)).Nodup := by decide +kernel
theorem room : L2.Room 104 PySem.callerA := ⟨rfl, by decide, by decide⟩
theorem dl : dts.length = 15 := by kernel_rfl
theorem ldm : ld ∈ dts := by
  have e : ld = dts[14]'(by rw [dl]; decide) := by unfold ld; rw [List.getD_eq_getElem?_getD, List.getElem?_eq_getElem (by rw [dl]; decide)]; rfl
  rw [e]; exact List.getElem_mem _
theorem ldn : ld.name = ldr.name := by kernel_rfl
theorem ldp : ld.ps.length = 1 := by kernel_rfl
theorem ldd : ldr.params.defaults = [] := by kernel_rfl
theorem wlk : PySem.W.WalkO qv loose (PySem.W.XL qv []) hk.says R.toRowW ldr [] fun f vs => PySem.call f vs :=
  walk_P (l := PySem.Challenge.rw_roomtables_k12_either) (n := 4) (k := 104) (dts := dts) (bn := bn) (gl := gl) (tbl := tbl) (ld := ld) rfl ldd room tbl_eq nd ldm ldn ldp law_ok
theorem wit : R.toRowW.promised := by
  open PySem.W PySem.Calls PyProof.Rows in w_witness2
end K12
open PySem PySem.W PySem.Calls PyProof.Rows
theorem PySem.Challenge.cw_roomtables_k12_either_holds : PySem.Challenge.rw_roomtables_k12_either.Holds := by
  w_on; o_law
  exact K12.main_of K12.wit K12.wlk
end SK12z
