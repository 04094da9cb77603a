import PyProof.Rows.All
import Wide.All
import OpenK.AllK
import Wide.FinOn
import Lean
import PyProof.EqAt
import PyProof.EqKinds
import PyProof.TupleCall
import PySem.Challenge.RW_onlyrise_k01_names_and_marks
/- A small pure reading of the programs at hand: values, a store of mutable objects, an intermediate language, its evaluator. -/
namespace OR

/-- pure values -/
inductive PV where
  | non
  | bl (b : Bool)
  | int (i : Int)
  | str (cs : List Nat)
  | tup (xs : List PV)
  | lst (xs : List PV)
deriving Inhabited

mutual
def PV.beq : PV → PV → Bool
  | .non, .non => true
  | .bl a, .bl b => a == b
  | .int a, .int b => decide (a = b)
  | .str a, .str b => decide (a = b)
  | .tup a, .tup b => PV.beqs a b
  | .lst a, .lst b => PV.beqs a b
  | _, _ => false
def PV.beqs : List PV → List PV → Bool
  | [], [] => true
  | a :: r, b :: s => PV.beq a b && PV.beqs r s
  | _, _ => false
end
mutual
theorem PV.eq_of_beq : ∀ {a b : PV}, PV.beq a b = true → a = b
  | .non, b, h => by cases b <;> simp [PV.beq] at h <;> rfl
  | .bl a, b, h => by cases b <;> simp [PV.beq] at h <;> rw [h]
  | .int a, b, h => by cases b <;> simp [PV.beq] at h <;> rw [h]
  | .str a, b, h => by cases b <;> simp [PV.beq] at h <;> rw [h]
  | .tup a, b, h => by
    cases b <;> simp only [PV.beq, Bool.false_eq_true] at h
    rw [PV.eqs_of_beqs h]
  | .lst a, b, h => by
    cases b <;> simp only [PV.beq, Bool.false_eq_true] at h
    rw [PV.eqs_of_beqs h]
theorem PV.eqs_of_beqs : ∀ {a b : List PV}, PV.beqs a b = true → a = b
  | [], b, h => by cases b <;> simp [PV.beqs] at h <;> rfl
  | x :: r, b, h => by
    cases b with
    | nil => simp [PV.beqs] at h
    | cons y s =>
      simp only [PV.beqs, Bool.and_eq_true] at h
      rw [PV.eq_of_beq h.1, PV.eqs_of_beqs h.2]
end
mutual
theorem PV.beq_self : ∀ (a : PV), PV.beq a a = true
  | .non => rfl
  | .bl _ => by simp [PV.beq]
  | .int _ => by simp [PV.beq]
  | .str _ => by simp [PV.beq]
  | .tup a => by rw [PV.beq]; exact PV.beqs_self a
  | .lst a => by rw [PV.beq]; exact PV.beqs_self a
theorem PV.beqs_self : ∀ (a : List PV), PV.beqs a a = true
  | [] => rfl
  | x :: r => by rw [PV.beqs, PV.beq_self x, PV.beqs_self r]; rfl
end
instance : DecidableEq PV := fun a b => if h : PV.beq a b = true then .isTrue (PV.eq_of_beq h) else .isFalse fun e => h (e ▸ PV.beq_self a)

mutual
/-- == of the language -/
def pyEq : PV → PV → Bool
  | .non, .non => true
  | .bl a, .bl b => a == b
  | .bl a, .int i => decide ((if a then 1 else 0) = i)
  | .int i, .bl a => decide (i = (if a then 1 else 0))
  | .int a, .int b => decide (a = b)
  | .str a, .str b => decide (a = b)
  | .tup a, .tup b => pyEqs a b
  | .lst a, .lst b => pyEqs a b
  | _, _ => false
def pyEqs : List PV → List PV → Bool
  | [], [] => true
  | a :: r, b :: s => pyEq a b && pyEqs r s
  | _, _ => false
end

mutual
/-- how deep a value goes -/
def dep : PV → Nat
  | .tup xs => deps xs + 1
  | .lst xs => deps xs + 1
  | _ => 0
def deps : List PV → Nat
  | [] => 0
  | x :: r => max (dep x) (deps r)
end
@[simp] theorem dep_non : dep .non = 0 := by rw [dep] <;> simp
@[simp] theorem dep_bl {b} : dep (.bl b) = 0 := by rw [dep] <;> simp
@[simp] theorem dep_int {b} : dep (.int b) = 0 := by rw [dep] <;> simp
@[simp] theorem dep_str {b} : dep (.str b) = 0 := by rw [dep] <;> simp
@[simp] theorem dep_tup {xs} : dep (.tup xs) = deps xs + 1 := by rw [dep]
@[simp] theorem dep_lst {xs} : dep (.lst xs) = deps xs + 1 := by rw [dep]
@[simp] theorem deps_nil : deps [] = 0 := by rw [deps]
@[simp] theorem deps_cons {x r} : deps (x :: r) = max (dep x) (deps r) := by rw [deps]
/-- comparisons go at most so deep -/
def depOk (m n : Nat) : Bool := decide (m ≤ 100) || decide (n ≤ 100)
@[simp] theorem depOk_l {n} : depOk 0 n = true := by simp [depOk]
@[simp] theorem depOk_r {n} : depOk n 0 = true := by simp [depOk]

/-- a value at a name: pure, or a mutable object's number -/
inductive Val where
  | p (v : PV)
  | ref (n : Nat)
deriving Inhabited
inductive PObj where
  | lst (xs : List PV)
  | dct (kvs : List (PV × PV))
  | dead
deriving Inhabited
abbrev Store := List PObj
abbrev Env := List (Option Val)

inductive Res (α : Type) where
  | ok (a : α) (st : Store)
  | exn (cls : Nat) (args : List PV) (st : Store)
  | stuck
def Res.bind {α β : Type} : Res α → (α → Store → Res β) → Res β
  | .ok a st, f => f a st
  | .exn c as st, _ => .exn c as st
  | .stuck, _ => .stuck
@[simp] theorem Res.bind_ok {α β : Type} (a : α) (st : Store) (f : α → Store → Res β) : (Res.ok a st).bind f = f a st := rfl
@[simp] theorem Res.bind_stuck {α β : Type} (f : α → Store → Res β) : (Res.stuck : Res α).bind f = .stuck := rfl
@[simp] theorem Res.bind_exn {α β : Type} (c as st) (f : α → Store → Res β) : (Res.exn c as st : Res α).bind f = .exn c as st := rfl

theorem Res.bind_congr {α β : Type} {r r' : Res α} {f : α → Store → Res β} (h : r = r') : r.bind f = r'.bind f := by rw [h]
/-- the object of number n -/
def objAt (st : Store) (n : Nat) : Option PObj := st[n]?
theorem objAt_set {st : Store} {n : Nat} {o : PObj} (h : n < st.length) : objAt (st.set n o) n = some o := by unfold objAt; simp [h]
theorem objAt_set_ne {st : Store} {n m : Nat} {o : PObj} (h : m ≠ n) : objAt (st.set n o) m = objAt st m := by unfold objAt; simp [Ne.symm h]
@[simp] theorem objAt_new {st : Store} {o : PObj} : objAt (st ++ [o]) st.length = some o := by unfold objAt; simp
theorem objAt_old {st r : Store} {n : Nat} (h : n < st.length) : objAt (st ++ r) n = objAt st n := by unfold objAt; rw [List.getElem?_append_left h]
theorem objAt_lt {st : Store} {n : Nat} {o : PObj} (h : objAt st n = some o) : n < st.length := (List.getElem?_eq_some_iff.mp h).1
/-- what is read of a value: a mutable list as it stands -/
def view (st : Store) : Val → Option PV
  | .p v => some v
  | .ref n => match objAt st n with
    | some (.lst xs) => some (.lst xs)
    | _ => none
@[simp] theorem view_p (st : Store) (v : PV) : view st (.p v) = some v := rfl
def Res.bindV {β : Type} (r : Res Val) (f : PV → Store → Res β) : Res β := r.bind fun v st => match view st v with
  | some x => f x st
  | none => .stuck
@[simp] theorem Res.bindV_ok {β : Type} (v : PV) (st : Store) (f : PV → Store → Res β) : (Res.ok (Val.p v) st).bindV f = f v st := rfl
def Res.bindB {β : Type} (r : Res Val) (f : Bool → Store → Res β) : Res β := r.bind fun v st => match v with
  | .p (.bl b) => f b st
  | _ => .stuck
@[simp] theorem Res.bindB_ok {β : Type} (b : Bool) (st : Store) (f : Bool → Store → Res β) : (Res.ok (Val.p (.bl b)) st).bindB f = f b st := rfl

/-- a value that must be pure -/
def Res.bindP {β : Type} (r : Res Val) (f : PV → Store → Res β) : Res β := r.bind fun v st => match v with
  | .p x => f x st
  | _ => .stuck
@[simp] theorem Res.bindP_ok {β : Type} (v : PV) (st : Store) (f : PV → Store → Res β) : (Res.ok (Val.p v) st).bindP f = f v st := rfl
theorem Res.bindP_congr {β : Type} {r r' : Res Val} {f : PV → Store → Res β} (h : r = r') : r.bindP f = r'.bindP f := by rw [h]
theorem Res.bindV_congr {β : Type} {r r' : Res Val} {f : PV → Store → Res β} (h : r = r') : r.bindV f = r'.bindV f := by rw [h]
theorem Res.bindB_congr {β : Type} {r r' : Res Val} {f : Bool → Store → Res β} (h : r = r') : r.bindB f = r'.bindB f := by rw [h]
inductive Bop where | add | sub | mul | fdiv | mod | pow
inductive Cop where | eq | ne | lt | le | gt | ge | isIn | notIn | isNone | notNone
inductive Ty where | int | str | bool | list | tuple
inductive Bf where
  | len | isinst (t : Ty) | all | any | min1 | max1 | min2 | max2 | sum | toInt | toStr | repr | tuple | list | sorted | lenSet | abs | sortSet
inductive Mt where
  | find | upper | join | index | count | split | partition | startswith | endswith
  | append | extend | insert | pop | reverse | clear
/-- targets: a name's slot, several -/
inductive Tg where | name (i : Nat) | tup (is : List Nat)

mutual
inductive E where
  | var (i : Nat)
  | const (v : PV)
  | bin (op : Bop) (a b : E)
  | neg (a : E)
  | not (a : E)
  | cmp (op : Cop) (a b : E)
  | chain (op op' : Cop) (a b c : E)
  | and (a b : E)
  | or (a b : E)
  | ite (c a b : E)
  | tup (es : List E)
  | list (mt : Bool) (es : List E)
  | dict (ks : List PV) (es : List E)
  | ix (a b : E)
  | slice (a : E) (lo hi : Option E)
  | call (f : Nat) (es : List E)
  | blt (f : Bf) (es : List E)
  | meth (m : Mt) (o : E) (es : List E)
  | comp (mt : Bool) (elt : E) (tgt : Tg) (it : It) (cond : Option E) (caps : List Nat) (n : Nat)
  | freeze (e : E)
  | thaw (e : E)
  | rev (e : E)
inductive It where
  | of (e : E)
  | range (e : E)
  | zip (es : List E)
  | enum (e : E)
end
inductive S where
  | expr (e : E)
  | ret (e : E)
  | set (i : Nat) (e : E)
  | setT (is : List Nat) (e : E)
  | setIx (o i v : E)
  | aug (i : Nat) (op : Bop) (e : E)
  | ite (c : E) (a b : List S)
  | for (tgt : Tg) (it : It) (body : List S)
  | while (c : E) (body : List S)
  | pass

inductive Flow where
  | next (env : Env)
  | ret (v : Val)

/-- the size line -/
@[irreducible] def SZ : Nat := 16777216

/-! ### the operations -/
def okInt (i : Int) (st : Store) : Res Val := .ok (.p (.int i)) st
def okB (b : Bool) (st : Store) : Res Val := .ok (.p (.bl b)) st
def small64 (i : Int) : Bool := decide (-(2 ^ 64) < i ∧ i < 2 ^ 64)
@[simp] def bAdd : PV → PV → Option PV
  | .int i, .int j => some (.int (i + j))
  | .str a, .str b => if a.length + b.length ≤ SZ then some (.str (a ++ b)) else none
  | .tup a, .tup b => if a ≠ [] ∧ a.length + b.length ≤ SZ then some (.tup (a ++ b)) else none
  | .lst a, .lst b => if a.length + b.length ≤ SZ then some (.lst (a ++ b)) else none
  | _, _ => none
@[simp] def bSub : PV → PV → Option PV
  | .int i, .int j => some (.int (i - j))
  | _, _ => none
@[simp] def bMul : PV → PV → Option PV
  | .int i, .int j => if small64 i || small64 j then some (.int (i * j)) else none
  | .str a, .int n => if 0 ≤ n ∧ n ≤ 1000000 ∧ a.length * n.toNat ≤ SZ then some (.str (List.replicate n.toNat a).flatten) else none
  | _, _ => none
@[simp] def bFdiv : PV → PV → Option PV
  | .int i, .int j => if 0 < j ∧ j < 1000000000000000000000000000000 then some (.int (i / j)) else none
  | _, _ => none
@[simp] def bMod : PV → PV → Option PV
  | .int i, .int j => if 0 < j then some (.int (i % j)) else none
  | _, _ => none
@[simp] def bPow : PV → PV → Option PV
  | .int i, .int j => if 0 ≤ j ∧ j ≤ 1000000 ∧ small64 i then some (.int (i ^ j.toNat)) else none
  | _, _ => none
@[simp] def binOp (op : Bop) (x y : PV) : Option PV := match op with
  | .add => bAdd x y
  | .sub => bSub x y
  | .mul => bMul x y
  | .fdiv => bFdiv x y
  | .mod => bMod x y
  | .pow => bPow x y

/-- b stands somewhere in a -/
def infixOf (b : List Nat) : List Nat → Bool
  | [] => b.isEmpty
  | x :: r => b.isPrefixOf (x :: r) || infixOf b r
/-- the first place of b in a -/
def findIn (b : List Nat) : List Nat → Nat → Option Nat
  | [], k => if b.isEmpty then some k else none
  | x :: r, k => if b.isPrefixOf (x :: r) then some k else findIn b r (k + 1)
def findI (b a : List Nat) : Int := match findIn b a 0 with
  | some k => (k : Int)
  | none => -1
/-- texts in order -/
def strLt : List Nat → List Nat → Bool
  | _, [] => false
  | [], _ :: _ => true
  | x :: r, y :: s => if x < y then true else if y < x then false else strLt r s

def itemIn (x : PV) (xs : List PV) : Bool := xs.any fun y => pyEq y x
@[simp] def isIn : PV → PV → Option Bool
  | .str a, .str b => some (infixOf a b)
  | x, .tup xs => if depOk (dep x) (deps xs) then some (itemIn x xs) else none
  | x, .lst xs => if depOk (dep x) (deps xs) then some (itemIn x xs) else none
  | _, _ => none
@[simp] def cInt (p : Int → Int → Bool) : PV → PV → Option PV
  | .int i, .int j => some (.bl (p i j))
  | _, _ => none
@[simp] def cNone (neg : Bool) : PV → PV → Option PV
  | .non, .non => some (.bl (!neg))
  | _, .non => some (.bl neg)
  | .bl a, .bl b => some (.bl ((a == b) != neg))
  | _, .bl _ => some (.bl neg)
  | _, _ => none
@[simp] def cmpOp (op : Cop) (x y : PV) : Option PV := match op with
  | .eq => if depOk (dep x) (dep y) then some (.bl (pyEq x y)) else none
  | .ne => if depOk (dep x) (dep y) then some (.bl (!pyEq x y)) else none
  | .lt => cInt (fun i j => decide (i < j)) x y
  | .le => cInt (fun i j => decide (i ≤ j)) x y
  | .gt => cInt (fun i j => decide (j < i)) x y
  | .ge => cInt (fun i j => decide (j ≤ i)) x y
  | .isIn => (isIn x y).map .bl
  | .notIn => (isIn x y).map fun b => .bl (!b)
  | .isNone => cNone false x y
  | .notNone => cNone true x y

/-- an index as Python takes it -/
def ixAt (n : Nat) (i : Int) : Option Nat := if 0 ≤ i then (if i < n then some i.toNat else none) else if -(n : Int) ≤ i then some (i + n).toNat else none
@[simp] def ixOp : PV → PV → Option PV
  | .tup xs, .int i => (ixAt xs.length i).bind fun j => xs[j]?
  | .lst xs, .int i => (ixAt xs.length i).bind fun j => xs[j]?
  | .str cs, .int i => (ixAt cs.length i).bind fun j => (cs[j]?).map fun c => .str [c]
  | _, _ => none
/-- a slice's end -/
def sIx (n d : Nat) : Option Int → Nat
  | none => d
  | some i => if 0 ≤ i then min i.toNat n else (n + i).toNat
def cut {α : Type} (xs : List α) (lo hi : Option Int) : List α := (xs.drop (sIx xs.length 0 lo)).take (sIx xs.length xs.length hi - sIx xs.length 0 lo)
@[simp] def sliceOp : PV → Option Int → Option Int → Option PV
  | .tup xs, lo, hi => if sIx xs.length 0 lo = 0 ∧ sIx xs.length xs.length hi = xs.length then none else some (.tup (cut xs lo hi))
  | .lst xs, lo, hi => some (.lst (cut xs lo hi))
  | .str cs, lo, hi => some (.str (cut cs lo hi))
  | _, _, _ => none
def dGet (k : PV) : List (PV × PV) → Option PV
  | [] => none
  | (k', v) :: r => if k' = k then some v else dGet k r
def dPut (k v : PV) (kvs : List (PV × PV)) : List (PV × PV) := if (kvs.any fun p => decide (p.1 = k)) = true then kvs.map (fun p => if p.1 = k then (p.1, v) else p) else kvs ++ [(k, v)]

@[simp] def isTy : Ty → PV → Bool
  | .int, .int _ => true
  | .int, .bl _ => true
  | .str, .str _ => true
  | .bool, .bl _ => true
  | .list, .lst _ => true
  | .tuple, .tup _ => true
  | _, _ => false
def boolsAll : List PV → Option Bool
  | [] => some true
  | .bl b :: r => (boolsAll r).map (b && ·)
  | _ => none
def intsOf : List PV → Option (List Int)
  | [] => some []
  | .int i :: r => (intsOf r).map (i :: ·)
  | _ => none
def minL : Int → List Int → Int
  | m, [] => m
  | m, x :: r => minL (if x < m then x else m) r
def maxL : Int → List Int → Int
  | m, [] => m
  | m, x :: r => maxL (if m < x then x else m) r
def okO (o : Option PV) (st : Store) : Res Val := match o with | some v => .ok (.p v) st | none => .stuck
@[simp] theorem okO_some (v : PV) (st : Store) : okO (some v) st = .ok (.p v) st := rfl
@[simp] theorem okO_none (st : Store) : okO none st = .stuck := rfl
def tTrue : List Nat := [84, 114, 117, 101]
def tFalse : List Nat := [70, 97, 108, 115, 101]
@[simp] def reprOf : PV → Option (List Nat)
  | .bl true => some tTrue
  | .bl false => some tFalse
  | _ => none
@[simp] def items : PV → Option (List PV)
  | .tup xs => some xs
  | .lst xs => some xs
  | .str cs => some (cs.map fun c => .str [c])
  | _ => none
@[simp] def fLen : PV → Option PV
  | .tup xs => some (.int xs.length)
  | .lst xs => some (.int xs.length)
  | .str cs => some (.int cs.length)
  | _ => none
@[simp] def onLst (f : List PV → Option PV) : PV → Option PV
  | .lst xs => f xs
  | _ => none
@[simp] def f1 (f : PV → Option PV) : List PV → Option PV
  | [x] => f x
  | _ => none
@[simp] def f2 (f : PV → PV → Option PV) : List PV → Option PV
  | [x, y] => f x y
  | _ => none
@[simp] def fI2 (f : Int → Int → Int) : PV → PV → Option PV
  | .int i, .int j => some (.int (f i j))
  | _, _ => none
@[simp] def fInt : PV → Option PV
  | .int i => some (.int i)
  | .bl b => some (.int (if b then 1 else 0))
  | _ => none
@[simp] def fTuple : PV → Option PV
  | .tup xs => some (.tup xs)
  | .lst xs => some (.tup xs)
  | _ => none
@[simp] def fList : PV → Option PV
  | .tup xs => some (.lst xs)
  | .lst xs => some (.lst xs)
  | _ => none
/-- sorted numbers, each once -/
def insD (i : Int) : List Int → List Int
  | [] => [i]
  | x :: r => if i < x then i :: x :: r else if x < i then x :: insD i r else x :: r
def fSortSet (xs : List PV) : Option PV := (intsOf xs).map fun l => .lst ((l.foldl (fun d i => insD i d) []).map .int)
def fMin (xs : List PV) : Option PV := match intsOf xs with
  | some (i :: r) => some (.int (minL i r))
  | _ => none
def fMax (xs : List PV) : Option PV := match intsOf xs with
  | some (i :: r) => some (.int (maxL i r))
  | _ => none
@[simp] def bfOp (f : Bf) (xs : List PV) : Option PV := match f with
  | .len => f1 fLen xs
  | .isinst t => f1 (fun v => some (.bl (isTy t v))) xs
  | .all => f1 (onLst fun l => (boolsAll l).map .bl) xs
  | .min1 => f1 (onLst fMin) xs
  | .max1 => f1 (onLst fMax) xs
  | .min2 => f2 (fI2 fun i j => if j < i then j else i) xs
  | .max2 => f2 (fI2 fun i j => if i < j then j else i) xs
  | .sum => f1 (onLst fun l => (intsOf l).map fun l => .int l.sum) xs
  | .toInt => f1 fInt xs
  | .repr => f1 (fun v => (reprOf v).map .str) xs
  | .tuple => f1 fTuple xs
  | .list => f1 fList xs
  | .sortSet => f1 (onLst fSortSet) xs
  | _ => none
def upC (c : Nat) : Nat := if 97 ≤ c ∧ c ≤ 122 then c - 32 else c
def strsOf : List PV → Option (List (List Nat))
  | [] => some []
  | .str c :: r => (strsOf r).map (c :: ·)
  | _ => none
def joinS (sep : List Nat) : List (List Nat) → List Nat
  | [] => []
  | [x] => x
  | x :: r => x ++ sep ++ joinS sep r
@[simp] def mFind : PV → List PV → Option PV
  | .str a, [.str b] => some (.int (findI b a))
  | _, _ => none
@[simp] def mUpper : PV → List PV → Option PV
  | .str a, [] => if a.all (· < 128) then some (.str (a.map upC)) else none
  | _, _ => none
@[simp] def mJoin : PV → List PV → Option PV
  | .str sep, [.lst xs] => match strsOf xs with
    | some l => if (l.map List.length).sum + l.length * sep.length ≤ SZ then some (.str (joinS sep l)) else none
    | none => none
  | _, _ => none
/-- the first place -/
def indexIn (x : PV) : List PV → Option Nat
  | [] => none
  | y :: r => if pyEq y x then some 0 else (indexIn x r).map (· + 1)
def ixFind (x : PV) (xs : List PV) : Option PV := if depOk (dep x) (deps xs) then (indexIn x xs).map fun k => .int (k : Int) else none
@[simp] def mIndex : PV → List PV → Option PV
  | .lst xs, [x] => ixFind x xs
  | .tup xs, [x] => ixFind x xs
  | _, _ => none
@[simp] def mCount : PV → List PV → Option PV
  | .lst xs, [x] => if depOk (dep x) (deps xs) then some (.int ((xs.filter fun y => pyEq y x).length : Nat)) else none
  | .tup xs, [x] => if depOk (dep x) (deps xs) then some (.int ((xs.filter fun y => pyEq y x).length : Nat)) else none
  | _, _ => none
/-- methods that change nothing -/
@[simp] def mtOp (m : Mt) (o : PV) (xs : List PV) : Option PV := match m with
  | .find => mFind o xs
  | .upper => mUpper o xs
  | .join => mJoin o xs
  | .index => mIndex o xs
  | .count => mCount o xs
  | _ => none

@[simp] def bindTg : Tg → Val → Store → Env → Option Env
  | .name i, v, _, env => some (env.set i (some v))
  | .tup is, v, st, env => match view st v with
    | some (.tup xs) => if is.length = xs.length then some ((is.zip xs).foldl (fun e p => e.set p.1 (some (.p p.2))) env) else none
    | _ => none

/-- the list that is walked is as it was -/
def srcOk (st : Store) : Option (Nat × List PV) → Bool
  | none => true
  | some (n, xs) => decide (view st (.ref n) = some (.lst xs))
@[simp] theorem srcOk_none (st : Store) : srcOk st none = true := rfl
/-- the walk of a comprehension -/
def compLoop (fe : Env → Store → Res Val) (fc : Option (Env → Store → Res Val)) (tgt : Tg) (src : Option (Nat × List PV)) : List PV → Env → Store → List PV → Res (List PV)
  | [], _, st, acc => if srcOk st src then .ok acc st else .stuck
  | x :: r, env, st, acc =>
    if srcOk st src then
      match bindTg tgt (.p x) st env with
      | none => .stuck
      | some env' => (match fc with | none => Res.ok (Val.p (.bl true)) st | some f => f env' st).bindB fun b st1 =>
          if b then (fe env' st1).bindP fun y st2 => compLoop fe fc tgt src r env' st2 (acc ++ [y])
          else compLoop fe fc tgt src r env' st1 acc
    else .stuck

def forLoop (body : Env → Store → Res Flow) (tgt : Tg) (src : Option (Nat × List PV)) : List PV → Env → Store → Res Flow
  | [], env, st => if srcOk st src then .ok (.next env) st else .stuck
  | x :: r, env, st =>
    if srcOk st src then
      match bindTg tgt (.p x) st env with
      | none => .stuck
      | some env' => (body env' st).bind fun f st1 => match f with
        | .next env2 => forLoop body tgt src r env2 st1
        | .ret v => .ok (.ret v) st1
    else .stuck
def whileLoop (c : Env → Store → Res Val) (body : Env → Store → Res Flow) : Nat → Env → Store → Res Flow
  | 0, _, _ => .stuck
  | k + 1, env, st => (c env st).bindB fun b st1 => if b then (body env st1).bind fun f st2 => match f with
      | .next env2 => whileLoop c body k env2 st2
      | .ret v => .ok (.ret v) st2
    else .ok (.next env) st1

abbrev CallF := Nat → List Val → Store → Res Val
@[simp] def mk (mt : Bool) (xs : List PV) (st : Store) : Res Val := if mt then .ok (.ref st.length) (st ++ [.lst xs]) else .ok (.p (.lst xs)) st
/-- the new dict of number n gets its pairs -/
@[simp] def mkDict (ks : List PV) (n : Nat) (xs : List PV) (st : Store) : Res Val := match objAt st n with
  | some (.dct []) => .ok (.ref n) (st.set n (.dct ((ks.zip xs).foldl (fun d p => dPut p.1 p.2 d) [])))
  | _ => .stuck
@[simp] def capsOf (caps : List Nat) (n : Nat) (env : Env) : Env := caps.map (fun i => (env[i]?).join) ++ List.replicate n none
@[simp] def srcOf : Val → List PV → Option (Nat × List PV)
  | .ref n, xs => some (n, xs)
  | .p _, _ => none
/-- rows of several lists, as zip makes them -/
def zipRows : List (List PV) → List PV
  | [a, b] => (a.zip b).map fun p => .tup [p.1, p.2]
  | [a, b, c] => (a.zip (b.zip c)).map fun p => .tup [p.1, p.2.1, p.2.2]
  | _ => []
def enumRows (xs : List PV) : List PV := xs.zipIdx.map fun p => .tup [.int p.2, p.1]

/-- the list at n -/
def lstAt (st : Store) (n : Nat) : Option (List PV) := match objAt st n with
  | some (.lst l) => some l
  | _ => none
def dctAt (st : Store) (n : Nat) : Option (List (PV × PV)) := match objAt st n with
  | some (.dct l) => some l
  | _ => none
/-- a change of the list at o: what comes back, and the list behind -/
@[simp] def onRef (o : Val) (st : Store) (f : List PV → Option (PV × List PV)) : Res Val := match o with
  | .p _ => .stuck
  | .ref n => match lstAt st n with
    | some l => match f l with
      | some (x, l') => .ok (.p x) (st.set n (.lst l'))
      | none => .stuck
    | none => .stuck
def gAppend (xs : List PV) (l : List PV) : Option (PV × List PV) := match xs with
  | [x] => if l.length < SZ then some (.non, l ++ [x]) else none
  | _ => none
def gExtend (xs : List PV) (l : List PV) : Option (PV × List PV) := match xs with
  | [.lst ys] => if l.length + ys.length ≤ SZ then some (.non, l ++ ys) else none
  | _ => none
def gReverse (xs : List PV) (l : List PV) : Option (PV × List PV) := match xs with
  | [] => some (.non, l.reverse)
  | _ => none
def gClear (xs : List PV) (_ : List PV) : Option (PV × List PV) := match xs with
  | [] => some (.non, [])
  | _ => none
def gInsert (xs : List PV) (l : List PV) : Option (PV × List PV) := match xs with
  | [.int i, x] => if 0 ≤ i ∧ i ≤ (l.length : Int) ∧ l.length < SZ then some (.non, l.take i.toNat ++ x :: l.drop i.toNat) else none
  | _ => none
def gPop (xs : List PV) (l : List PV) : Option (PV × List PV) := match xs with
  | [] => match l.getLast? with
    | some x => some (x, l.dropLast)
    | none => none
  | _ => none
/-- a method upon a value at hand: those that change a list do so in the store -/
@[simp] def methOp (m : Mt) (o : Val) (xs : List PV) (st : Store) : Res Val := match m with
  | .append => onRef o st (gAppend xs)
  | .extend => onRef o st (gExtend xs)
  | .reverse => onRef o st (gReverse xs)
  | .pop => onRef o st (gPop xs)
  | .clear => onRef o st (gClear xs)
  | .insert => onRef o st (gInsert xs)
  | m => match view st o with
    | some v => okO (mtOp m v xs) st
    | none => .stuck
@[simp] def ixVal (o : Val) (i : PV) (st : Store) : Res Val :=
  match o with
  | .p v => okO (ixOp v i) st
  | .ref n => match objAt st n with
    | some (.lst xs) => okO (ixOp (.lst xs) i) st
    | some (.dct kvs) => okO (dGet i kvs) st
    | _ => .stuck
@[simp] def isKey : PV → Bool
  | .int _ => true
  | .str _ => true
  | _ => false
@[simp] def setL (xs : List PV) (i v : PV) : Option (List PV) := match i with
  | .int k => (ixAt xs.length k).map fun j => xs.set j v
  | _ => none
@[simp] def setIxVal (o : Val) (i v : PV) (st : Store) : Res Unit :=
  match o with
  | .p _ => .stuck
  | .ref n => match objAt st n with
    | some (.lst xs) => match setL xs i v with
      | some ys => .ok () (st.set n (.lst ys))
      | none => .stuck
    | some (.dct kvs) => if kvs.length < 1000000 ∧ isKey i = true then .ok () (st.set n (.dct (dPut i v kvs))) else .stuck
    | _ => .stuck
@[simp] def freezeVal (v : Val) (st : Store) : Res Val :=
  match v with
  | .p x => .ok (.p x) st
  | .ref n => match objAt st n with
    | some (.lst xs) => .ok (.p (.lst xs)) (st.set n .dead)
    | _ => .stuck

@[simp] def thawVal (x : PV) (st : Store) : Res Val := match x with
  | .lst xs => .ok (.ref st.length) (st ++ [.lst xs])
  | _ => .stuck
@[simp] def revOp : PV → Option PV
  | .tup xs => some (.tup xs.reverse)
  | .lst xs => some (.lst xs.reverse)
  | .str cs => some (.str cs.reverse)
  | _ => none
def op1 (f : PV → Option PV) (v : Val) (st : Store) : Res Val := match view st v with
  | some x => okO (f x) st
  | none => .stuck
@[simp] theorem op1_p {f x st} : op1 f (.p x) st = okO (f x) st := rfl
def op2 (f : PV → PV → Option PV) (v w : Val) (st : Store) : Res Val := match view st v with
  | some x => match view st w with
    | some y => okO (f x y) st
    | none => .stuck
  | none => .stuck
@[simp] theorem op2_p {f x y st} : op2 f (.p x) (.p y) st = okO (f x y) st := rfl
def views (st : Store) : List Val → Option (List PV)
  | [] => some []
  | v :: r => match view st v with
    | some x => match views st r with
      | some xs => some (x :: xs)
      | none => none
    | none => none
@[simp] theorem views_nil {st} : views st [] = some [] := rfl
@[simp] theorem views_1 {st x} : views st [.p x] = some [x] := rfl
@[simp] theorem views_2 {st x y} : views st [.p x, .p y] = some [x, y] := rfl
def opN (f : List PV → Option PV) (vs : List Val) (st : Store) : Res Val := match views st vs with
  | some xs => okO (f xs) st
  | none => .stuck
@[simp] theorem opN_1 {f x st} : opN f [.p x] st = okO (f [x]) st := rfl
@[simp] theorem opN_2 {f x y st} : opN f [.p x, .p y] st = okO (f [x, y]) st := rfl
/-- a value that can be read -/
@[simp] def seen (v : Val) (st : Store) : Res Unit := match view st v with
  | some _ => .ok () st
  | none => .stuck
theorem seen_inv {v : Val} {st st' : Store} {u : Unit} (h : seen v st = .ok u st') : (∃ x, view st v = some x) ∧ st' = st := by
  unfold seen at h
  cases e : view st v with
  | none => rw [e] at h; cases h
  | some x => rw [e] at h; cases h; exact ⟨⟨x, rfl⟩, rfl⟩
/-- all of them pure -/
def purs : List Val → Option (List PV)
  | [] => some []
  | .p x :: r => match purs r with
    | some xs => some (x :: xs)
    | none => none
  | .ref _ :: _ => none
/-- methods that keep what they are handed -/
def keeps : Mt → Bool
  | .append => true
  | .insert => true
  | _ => false
def methN (m : Mt) (o : Val) (vs : List Val) (st : Store) : Res Val := match (if keeps m then purs vs else views st vs) with
  | some xs => methOp m o xs st
  | none => .stuck
@[simp] theorem methN_0 {m o st} : methN m o [] st = methOp m o [] st := by unfold methN; cases m <;> rfl
@[simp] theorem methN_1 {m o x st} : methN m o [.p x] st = methOp m o [x] st := by unfold methN; cases m <;> rfl
@[simp] theorem methN_2 {m o x y st} : methN m o [.p x, .p y] st = methOp m o [x, y] st := by unfold methN; cases m <;> rfl
@[simp] def varOf (env : Env) (i : Nat) (st : Store) : Res Val := match env[i]? with
  | some (some v) => .ok v st
  | _ => .stuck
@[simp] def negOp : PV → Option PV
  | .int i => some (.int (-i))
  | _ => none
@[simp] def walkOf (v : Val) (st : Store) : Res (List PV × Option (Nat × List PV)) := match view st v with
  | some x => match items x with
    | some xs => .ok (xs, srcOf v xs) st
    | none => .stuck
  | none => .stuck
@[simp] def walkR (x : PV) (st : Store) : Res (List PV × Option (Nat × List PV)) := match x with
  | .int i => if -1000000 ≤ i ∧ i ≤ SZ then .ok ((List.range i.toNat).map (fun k : Nat => PV.int (k : Int)), none) st else .stuck
  | _ => .stuck
@[simp] def walkZ (xs : List PV) (st : Store) : Res (List PV × Option (Nat × List PV)) := match xs.mapM items with
  | some ls => .ok (zipRows ls, none) st
  | none => .stuck
@[simp] def walkN (x : PV) (st : Store) : Res (List PV × Option (Nat × List PV)) := match items x with
  | some xs => .ok (enumRows xs, none) st
  | none => .stuck
@[simp] def intOf (x : PV) (st : Store) : Res (Option Int) := match x with
  | .int i => .ok (some i) st
  | _ => .stuck
mutual
def evalE (C : CallF) : E → Env → Store → Res Val
  | .var i, env, st => varOf env i st
  | .const v, _, st => .ok (.p v) st
  | .bin op a b, env, st => (evalE C a env st).bind fun x st => (evalE C b env st).bind fun y st => op2 (binOp op) x y st
  | .neg a, env, st => (evalE C a env st).bindV fun x st => okO (negOp x) st
  | .not a, env, st => (evalE C a env st).bindB fun b st => .ok (.p (.bl (!b))) st
  | .cmp op a b, env, st => (evalE C a env st).bind fun x st => (evalE C b env st).bind fun y st => op2 (cmpOp op) x y st
  | .chain op op' a b c, env, st => (evalE C a env st).bind fun x st => (evalE C b env st).bind fun y st => (op2 (cmpOp op) x y st).bindB fun k st =>
      if k then (evalE C c env st).bind fun z st => op2 (cmpOp op') y z st else .ok (.p (.bl false)) st
  | .and a b, env, st => (evalE C a env st).bindB fun k st => if k then evalE C b env st else .ok (.p (.bl false)) st
  | .or a b, env, st => (evalE C a env st).bindB fun k st => if k then .ok (.p (.bl true)) st else evalE C b env st
  | .ite c a b, env, st => (evalE C c env st).bindB fun k st => if k then evalE C a env st else evalE C b env st
  | .tup es, env, st => (evalPs C es env st).bind fun xs st => .ok (.p (.tup xs)) st
  | .list mt es, env, st => (evalPs C es env st).bind fun xs st => mk mt xs st
  | .dict ks es, env, st => (evalPs C es env (st ++ [.dct []])).bind (mkDict ks st.length)
  | .ix a b, env, st => (evalE C a env st).bind fun o st => (evalE C b env st).bindV fun i st => ixVal o i st
  | .slice a lo hi, env, st => (evalE C a env st).bind fun x st => (evalO C lo env st).bind fun l st => (evalO C hi env st).bind fun h st => op1 (fun x => sliceOp x l h) x st
  | .call f es, env, st => (evalEs C es env st).bind fun vs st => C f vs st
  | .blt f es, env, st => (evalEs C es env st).bind fun vs st => opN (bfOp f) vs st
  | .meth m o es, env, st => (evalE C o env st).bind fun v st => (seen v st).bind fun _ st => (evalEs C es env st).bind fun vs st => methN m v vs st
  | .comp mt elt tgt it cond caps n, env, st => (evalIt C it env st).bind fun p st =>
      (compLoop (evalE C elt) (match cond with | none => none | some c => some (evalE C c)) tgt p.2 p.1 (capsOf caps n env) st []).bind fun xs st => mk mt xs st
  | .freeze e, env, st => (evalE C e env st).bind freezeVal
  | .thaw e, env, st => (evalE C e env st).bindP thawVal
  | .rev e, env, st => (evalE C e env st).bind fun x st => op1 revOp x st
/-- pure values, left to right -/
def evalPs (C : CallF) : List E → Env → Store → Res (List PV)
  | [], _, st => .ok [] st
  | e :: r, env, st => (evalE C e env st).bindP fun x st => (evalPs C r env st).bind fun xs st => .ok (x :: xs) st
/-- values as they are -/
def evalEs (C : CallF) : List E → Env → Store → Res (List Val)
  | [], _, st => .ok [] st
  | e :: r, env, st => (evalE C e env st).bind fun x st => (evalEs C r env st).bind fun xs st => .ok (x :: xs) st
def evalO (C : CallF) : Option E → Env → Store → Res (Option Int)
  | none, _, st => .ok none st
  | some e, env, st => (evalE C e env st).bindV intOf
/-- what is walked, and the list that must stay as it is -/
def evalIt (C : CallF) : It → Env → Store → Res (List PV × Option (Nat × List PV))
  | .of e, env, st => (evalE C e env st).bind walkOf
  | .range e, env, st => (evalE C e env st).bindV walkR
  | .zip es, env, st => (evalPs C es env st).bind walkZ
  | .enum e, env, st => (evalE C e env st).bindP walkN
end

@[simp] def okN (o : Option Env) (st : Store) : Res Flow := match o with
  | some env => .ok (.next env) st
  | none => .stuck
mutual
def execS (C : CallF) (W : Nat) : S → Env → Store → Res Flow
  | .expr e, env, st => (evalE C e env st).bind fun _ st => .ok (.next env) st
  | .ret e, env, st => (evalE C e env st).bind fun v st => .ok (.ret v) st
  | .set i e, env, st => (evalE C e env st).bind fun v st => .ok (.next (env.set i (some v))) st
  | .setT is e, env, st => (evalE C e env st).bind fun v st => okN (bindTg (.tup is) v st env) st
  | .setIx o i v, env, st => (evalE C v env st).bindP fun x st => (evalE C o env st).bind fun ov st => (evalE C i env st).bindV fun iv st => (setIxVal ov iv x st).bind fun _ st => .ok (.next env) st
  | .aug i op e, env, st => (varOf env i st).bindP fun x st => (evalE C e env st).bindV fun y st => (okO (binOp op x y) st).bind fun v st => .ok (.next (env.set i (some v))) st
  | .ite c a b, env, st => (evalE C c env st).bindB fun k st => if k then execSs C W a env st else execSs C W b env st
  | .for tgt it body, env, st => (evalIt C it env st).bind fun p st => forLoop (execSs C W body) tgt p.2 p.1 env st
  | .while c body, env, st => whileLoop (evalE C c) (execSs C W body) W env st
  | .pass, env, st => .ok (.next env) st
def execSs (C : CallF) (W : Nat) : List S → Env → Store → Res Flow
  | [], env, st => .ok (.next env) st
  | s :: r, env, st => (execS C W s env st).bind fun f st => match f with
    | .next env' => execSs C W r env' st
    | .ret v => .ok (.ret v) st
end

/-- a def: how many parameters, how many names in all, its body -/
structure FD where
  params : Nat
  slots : Nat
  body : List S
def trim (k : Nat) (v : Val) (st : Store) : Store := match v with
  | .p _ => st.take k
  | .ref n => if n < k then st.take k else st
def runF (P : List FD) (W : Nat) : Nat → CallF
  | 0 => fun _ _ _ => .stuck
  | d + 1 => fun f vs st => match P[f]? with
    | none => .stuck
    | some fd => if vs.length = fd.params then
        (execSs (runF P W d) W fd.body (vs.map some ++ List.replicate (fd.slots - fd.params) none) st).bind fun fl st' => match fl with
          | .ret v => .ok v (trim st.length v st')
          | .next _ => .ok (.p .non) (st'.take st.length)
      else .stuck

/-! ### the evaluator, step by step -/
def compE (C : CallF) (elt : E) (cond : Option E) (tgt : Tg) (src : Option (Nat × List PV)) (xs : List PV) (env : Env) (st : Store) (acc : List PV) : Res (List PV) :=
  compLoop (evalE C elt) (match cond with | none => none | some c => some (evalE C c)) tgt src xs env st acc
def forE (C : CallF) (W : Nat) (body : List S) (tgt : Tg) (src : Option (Nat × List PV)) (xs : List PV) (env : Env) (st : Store) : Res Flow := forLoop (execSs C W body) tgt src xs env st
def whileE (C : CallF) (W : Nat) (c : E) (body : List S) (k : Nat) (env : Env) (st : Store) : Res Flow := whileLoop (evalE C c) (execSs C W body) k env st
section
variable {C : CallF} {W : Nat} {env : Env} {st : Store}
@[simp] theorem ev_var {i} : evalE C (.var i) env st = varOf env i st := by rw [evalE]
@[simp] theorem ev_const {v} : evalE C (.const v) env st = .ok (.p v) st := by rw [evalE]
@[simp] theorem ev_bin {op a b} : evalE C (.bin op a b) env st = (evalE C a env st).bind fun x st => (evalE C b env st).bind fun y st => op2 (binOp op) x y st := by rw [evalE]
@[simp] theorem ev_neg {a} : evalE C (.neg a) env st = (evalE C a env st).bindV fun x st => okO (negOp x) st := by rw [evalE]
@[simp] theorem ev_not {a} : evalE C (.not a) env st = (evalE C a env st).bindB fun b st => .ok (.p (.bl (!b))) st := by rw [evalE]
@[simp] theorem ev_cmp {op a b} : evalE C (.cmp op a b) env st = (evalE C a env st).bind fun x st => (evalE C b env st).bind fun y st => op2 (cmpOp op) x y st := by rw [evalE]
@[simp] theorem ev_chain {op op' a b c} : evalE C (.chain op op' a b c) env st = (evalE C a env st).bind fun x st => (evalE C b env st).bind fun y st => (op2 (cmpOp op) x y st).bindB fun k st =>
      if k then (evalE C c env st).bind fun z st => op2 (cmpOp op') y z st else .ok (.p (.bl false)) st := by rw [evalE]
@[simp] theorem ev_and {a b} : evalE C (.and a b) env st = (evalE C a env st).bindB fun k st => if k then evalE C b env st else .ok (.p (.bl false)) st := by rw [evalE]
@[simp] theorem ev_or {a b} : evalE C (.or a b) env st = (evalE C a env st).bindB fun k st => if k then .ok (.p (.bl true)) st else evalE C b env st := by rw [evalE]
@[simp] theorem ev_ite {c a b} : evalE C (.ite c a b) env st = (evalE C c env st).bindB fun k st => if k then evalE C a env st else evalE C b env st := by rw [evalE]
@[simp] theorem ev_tup {es} : evalE C (.tup es) env st = (evalPs C es env st).bind fun xs st => .ok (.p (.tup xs)) st := by rw [evalE]
@[simp] theorem ev_list {mt es} : evalE C (.list mt es) env st = (evalPs C es env st).bind fun xs st => mk mt xs st := by rw [evalE]
@[simp] theorem ev_dict {ks es} : evalE C (.dict ks es) env st = (evalPs C es env (st ++ [.dct []])).bind (mkDict ks st.length) := by rw [evalE]
@[simp] theorem ev_ix {a b} : evalE C (.ix a b) env st = (evalE C a env st).bind fun o st => (evalE C b env st).bindV fun i st => ixVal o i st := by rw [evalE]
@[simp] theorem ev_slice {a lo hi} : evalE C (.slice a lo hi) env st = (evalE C a env st).bind fun x st => (evalO C lo env st).bind fun l st => (evalO C hi env st).bind fun h st => op1 (fun x => sliceOp x l h) x st := by rw [evalE]
@[simp] theorem ev_call {f es} : evalE C (.call f es) env st = (evalEs C es env st).bind fun vs st => C f vs st := by rw [evalE]
@[simp] theorem ev_blt {f es} : evalE C (.blt f es) env st = (evalEs C es env st).bind fun vs st => opN (bfOp f) vs st := by rw [evalE]
@[simp] theorem ev_meth {m o es} : evalE C (.meth m o es) env st = (evalE C o env st).bind fun v st => (seen v st).bind fun _ st => (evalEs C es env st).bind fun vs st => methN m v vs st := by rw [evalE]
@[simp] theorem ev_comp {mt elt tgt it cond caps n} : evalE C (.comp mt elt tgt it cond caps n) env st = (evalIt C it env st).bind fun p st => (compE C elt cond tgt p.2 p.1 (capsOf caps n env) st []).bind fun xs st => mk mt xs st := by cases cond <;> (rw [evalE]; rfl)
@[simp] theorem ev_freeze {e} : evalE C (.freeze e) env st = (evalE C e env st).bind freezeVal := by rw [evalE]
@[simp] theorem ev_thaw {e} : evalE C (.thaw e) env st = (evalE C e env st).bindP thawVal := by rw [evalE]
@[simp] theorem ev_rev {e} : evalE C (.rev e) env st = (evalE C e env st).bind fun x st => op1 revOp x st := by rw [evalE]
@[simp] theorem evPs_nil : evalPs C [] env st = .ok [] st := by rw [evalPs]
@[simp] theorem evPs_cons {e r} : evalPs C (e :: r) env st = (evalE C e env st).bindP fun x st => (evalPs C r env st).bind fun xs st => .ok (x :: xs) st := by rw [evalPs]
@[simp] theorem evEs_nil : evalEs C [] env st = .ok [] st := by rw [evalEs]
@[simp] theorem evEs_cons {e r} : evalEs C (e :: r) env st = (evalE C e env st).bind fun x st => (evalEs C r env st).bind fun xs st => .ok (x :: xs) st := by rw [evalEs]
@[simp] theorem evO_none : evalO C none env st = .ok none st := by rw [evalO]
@[simp] theorem evO_some {e} : evalO C (some e) env st = (evalE C e env st).bindV intOf := by rw [evalO]
@[simp] theorem evIt_of {e} : evalIt C (.of e) env st = (evalE C e env st).bind walkOf := by rw [evalIt]
@[simp] theorem evIt_range {e} : evalIt C (.range e) env st = (evalE C e env st).bindV walkR := by rw [evalIt]
@[simp] theorem evIt_zip {es} : evalIt C (.zip es) env st = (evalPs C es env st).bind walkZ := by rw [evalIt]
@[simp] theorem evIt_enum {e} : evalIt C (.enum e) env st = (evalE C e env st).bindP walkN := by rw [evalIt]
@[simp] theorem ex_expr {e} : execS C W (.expr e) env st = (evalE C e env st).bind fun _ st => .ok (.next env) st := by rw [execS]
@[simp] theorem ex_ret {e} : execS C W (.ret e) env st = (evalE C e env st).bind fun v st => .ok (.ret v) st := by rw [execS]
@[simp] theorem ex_set {i e} : execS C W (.set i e) env st = (evalE C e env st).bind fun v st => .ok (.next (env.set i (some v))) st := by rw [execS]
@[simp] theorem ex_setT {is e} : execS C W (.setT is e) env st = (evalE C e env st).bind fun v st => okN (bindTg (.tup is) v st env) st := by rw [execS]
@[simp] theorem ex_setIx {o i v} : execS C W (.setIx o i v) env st = (evalE C v env st).bindP fun x st => (evalE C o env st).bind fun ov st => (evalE C i env st).bindV fun iv st => (setIxVal ov iv x st).bind fun _ st => .ok (.next env) st := by rw [execS]
@[simp] theorem ex_aug {i op e} : execS C W (.aug i op e) env st = (varOf env i st).bindP fun x st => (evalE C e env st).bindV fun y st => (okO (binOp op x y) st).bind fun v st => .ok (.next (env.set i (some v))) st := by rw [execS]
@[simp] theorem ex_ite {c a b} : execS C W (.ite c a b) env st = (evalE C c env st).bindB fun k st => if k then execSs C W a env st else execSs C W b env st := by rw [execS]
@[simp] theorem ex_for {tgt it body} : execS C W (.for tgt it body) env st = (evalIt C it env st).bind fun p st => forE C W body tgt p.2 p.1 env st := by rw [execS]; rfl
@[simp] theorem ex_while {c body} : execS C W (.while c body) env st = whileE C W c body W env st := by rw [execS]; rfl
@[simp] theorem ex_pass : execS C W .pass env st = .ok (.next env) st := by rw [execS]
@[simp] theorem exs_nil : execSs C W [] env st = .ok (.next env) st := by rw [execSs]
def thenS (C : CallF) (W : Nat) (r : List S) (f : Flow) (st : Store) : Res Flow := match f with
  | .next env' => execSs C W r env' st
  | .ret v => .ok (.ret v) st
@[simp] theorem thenS_next {r env'} : thenS C W r (.next env') st = execSs C W r env' st := rfl
@[simp] theorem thenS_ret {r v} : thenS C W r (.ret v) st = .ok (.ret v) st := rfl
@[simp] theorem exs_cons {s r} : execSs C W (s :: r) env st = (execS C W s env st).bind (thenS C W r) := by rw [execSs]; rfl
theorem compE_nil {elt cond tgt acc} : compE C elt cond tgt none [] env st acc = .ok acc st := by unfold compE; rw [compLoop]; simp
theorem forE_nil {body tgt} : forE C W body tgt none [] env st = .ok (.next env) st := by unfold forE; rw [forLoop]; simp
/-- behind a body: the value, the store cut back -/
def leave (k : Nat) (fl : Flow) (st' : Store) : Res Val := match fl with
  | .ret v => .ok v (trim k v st')
  | .next _ => .ok (.p .non) (st'.take k)
@[simp] theorem leave_ret {k v st'} : leave k (.ret v) st' = .ok v (trim k v st') := rfl
@[simp] theorem leave_next {k env st'} : leave k (.next env) st' = .ok (.p .non) (st'.take k) := rfl
theorem run_def {P : List FD} {d f : Nat} {vs : List Val} {fd : FD} (h : P[f]? = some fd) (hl : vs.length = fd.params) :
    runF P W (d + 1) f vs st = (execSs (runF P W d) W fd.body (vs.map some ++ List.replicate (fd.slots - fd.params) none) st).bind (leave st.length) := by
  simp only [runF, h, hl, if_true]
  rfl
@[simp] theorem trim_p {k v} : trim k (.p v) st = st.take k := rfl
@[simp] theorem take_len : List.take (List.length st) st = st := List.take_length
end
end OR
/- general facts about the evaluator -/
namespace OR
theorem compE_map {C : CallF} {e : E} {tgt : Tg} {f : PV → PV} {st : Store} : ∀ (xs : List PV) (env : Env) (acc : List PV) (I : Env → Prop),
    I env → (∀ x ∈ xs, ∀ env, I env → ∃ env', bindTg tgt (.p x) st env = some env' ∧ I env' ∧ evalE C e env' st = .ok (.p (f x)) st) →
    compE C e none tgt none xs env st acc = .ok (acc ++ xs.map f) st
  | [], env, acc, _, _, _ => by simp [compE_nil]
  | x :: r, env, acc, I, hI, h => by
    obtain ⟨env', h1, hI', h2⟩ := h x (by simp) env hI
    have ih := compE_map r env' (acc ++ [f x]) I hI' fun y hy => h y (List.mem_cons_of_mem _ hy)
    unfold compE at ih ⊢
    rw [compLoop]
    simp only [srcOk_none, if_true, h1, Res.bindB_ok, h2, Res.bindP_ok]
    rw [ih]
    simp
/-- a walk that builds, the store changing -/
theorem compE_inv {C : CallF} {e : E} {tgt : Tg} (J : Nat → Env → Store → List PV → Prop) : ∀ (xs : List PV) (k : Nat) (env : Env) (st : Store) (acc : List PV),
    J k env st acc →
    (∀ i x env st acc, xs[i]? = some x → J (k + i) env st acc → ∃ env' st' y, bindTg tgt (.p x) st env = some env' ∧ evalE C e env' st = .ok (.p y) st' ∧ J (k + i + 1) env' st' (acc ++ [y])) →
    ∃ env' st' ys, compE C e none tgt none xs env st acc = .ok ys st' ∧ J (k + xs.length) env' st' ys
  | [], k, env, st, acc, h, _ => ⟨env, st, acc, compE_nil, h⟩
  | x :: r, k, env, st, acc, h, step => by
    obtain ⟨env', st', y, h1, h2, h3⟩ := step 0 x env st acc rfl h
    obtain ⟨env2, st2, ys, e1, e2⟩ := compE_inv J r (k + 1) env' st' (acc ++ [y]) h3 fun i x env st acc hx hj => by
      have := step (i + 1) x env st acc (by simpa using hx) (by rw [show k + (i + 1) = k + 1 + i by omega]; exact hj)
      rw [show k + (i + 1) + 1 = k + 1 + i + 1 by omega] at this
      exact this
    refine ⟨env2, st2, ys, ?_, by rw [show k + (x :: r).length = k + 1 + r.length by simp; omega]; exact e2⟩
    unfold compE at e1 ⊢
    rw [compLoop]
    simp only [srcOk_none, if_true, h1, Res.bindB_ok, h2, Res.bindP_ok]
    exact e1
/-- a for whose turns go on -/
theorem forE_inv {C : CallF} {W : Nat} {body : List S} {tgt : Tg} (J : Nat → Env → Store → Prop) : ∀ (xs : List PV) (k : Nat) (env : Env) (st : Store),
    J k env st →
    (∀ i x env st, xs[i]? = some x → J (k + i) env st → ∃ env' env2 st2, bindTg tgt (.p x) st env = some env' ∧ execSs C W body env' st = .ok (.next env2) st2 ∧ J (k + i + 1) env2 st2) →
    ∃ env' st', forE C W body tgt none xs env st = .ok (.next env') st' ∧ J (k + xs.length) env' st'
  | [], k, env, st, h, _ => ⟨env, st, forE_nil, h⟩
  | x :: r, k, env, st, h, step => by
    obtain ⟨env', env2, st2, h1, h2, h3⟩ := step 0 x env st rfl h
    obtain ⟨env3, st3, e1, e2⟩ := forE_inv J r (k + 1) env2 st2 h3 fun i x env st hx hj => by
      have := step (i + 1) x env st (by simpa using hx) (by rw [show k + (i + 1) = k + 1 + i by omega]; exact hj)
      rw [show k + (i + 1) + 1 = k + 1 + i + 1 by omega] at this
      exact this
    refine ⟨env3, st3, ?_, by rw [show k + (x :: r).length = k + 1 + r.length by simp; omega]; exact e2⟩
    unfold forE at e1 ⊢
    rw [forLoop]
    simp only [srcOk_none, if_true, h1, h2, Res.bind_ok]
    exact e1
theorem boolsAll_map {α : Type} (p : α → Bool) : ∀ xs : List α, boolsAll (xs.map fun x => PV.bl (p x)) = some (xs.all p)
  | [] => rfl
  | x :: r => by
    rw [List.map_cons, boolsAll, boolsAll_map p r, List.all_cons]
    rfl
theorem ints_map {α : Type} (f : α → Int) : ∀ xs : List α, intsOf (xs.map fun x => PV.int (f x)) = some (xs.map f)
  | [] => rfl
  | x :: r => by rw [List.map_cons, intsOf, ints_map f r]; rfl
theorem minL_ge : ∀ (r : List Int) (m b : Int), b ≤ minL m r ↔ b ≤ m ∧ ∀ x ∈ r, b ≤ x
  | [], m, b => by simp [minL]
  | x :: r, m, b => by
    rw [minL, minL_ge r]
    simp only [List.mem_cons, forall_eq_or_imp]
    split <;> constructor <;> intro h <;> refine ⟨?_, ?_⟩ <;> first | omega | exact h.2 | exact ⟨by omega, h.2⟩ | exact h.2.2 | skip
theorem infix_one (c : Nat) : ∀ xs : List Nat, infixOf [c] xs = decide (c ∈ xs)
  | [] => by simp [infixOf]
  | x :: r => by
    rw [infixOf, infix_one c r]
    simp only [List.isPrefixOf, Bool.and_true, List.mem_cons]
    by_cases h : c = x <;> simp [h]
theorem find_one (c : Nat) : ∀ (xs : List Nat) (k : Nat), (findIn [c] xs k).isSome = decide (c ∈ xs)
  | [], k => by simp [findIn]
  | x :: r, k => by
    rw [findIn]
    by_cases h : c = x
    · subst h; simp [List.isPrefixOf]
    · have : List.isPrefixOf [c] (x :: r) = false := by simp [List.isPrefixOf, h]
      rw [this]; simp [find_one c r, h]
theorem findI_one (c : Nat) (xs : List Nat) : (0 : Int) ≤ findI [c] xs ↔ c ∈ xs := by
  have q := find_one c xs 0
  unfold findI
  cases e : findIn [c] xs 0 with
  | none => rw [e] at q; simp at q; simp [q]
  | some k => rw [e] at q; simp at q; simp [q]
theorem take_set {st : Store} {n : Nat} {o : PObj} : List.take (List.length st) (st.set n o) = st.set n o := by
  rw [List.take_of_length_le (by simp)]
end OR
namespace OR
theorem exs_step {C : CallF} {W : Nat} {s : S} {r : List S} {env env' : Env} {st st' : Store} (h : execS C W s env st = .ok (.next env') st') : execSs C W (s :: r) env st = execSs C W r env' st' := by
  rw [exs_cons, h]; rfl
theorem exs_out {C : CallF} {W : Nat} {s : S} {r : List S} {env : Env} {st st' : Store} {v : Val} (h : execS C W s env st = .ok (.ret v) st') : execSs C W (s :: r) env st = .ok (.ret v) st' := by
  rw [exs_cons, h]; rfl
end OR
namespace K01
open OR
/-- is_name: thing -/
def b_is_name : List S :=
  [.ite (.or (.not (.blt (.isinst .str) [(.var 0)])) (.not (.chain .le .le (.const (.int 1)) (.blt .len [(.var 0)]) (.const (.int 8)))))
    [.ret (.const (.bl false))]
    [],
  .ret (.blt .all [(.comp false (.cmp .isIn (.var 0) (.const (.str [97, 98, 99, 100, 101, 102, 103, 104, 105, 106, 107, 108, 109, 110, 111, 112, 113, 114, 115, 116, 117, 118, 119, 120, 121, 122]))) (.name 0) (.of (.var 0)) none [] 1)])]
def f_is_name : FD := ⟨1, 1, b_is_name⟩
/-- is_mark: thing -/
def b_is_mark : List S :=
  [.ret (.cmp .isIn (.var 0) (.const (.tup [(.str [65]), (.str [66]), (.str [67]), (.str [68]), (.str [69]), (.str [70])])))]
def f_is_mark : FD := ⟨1, 1, b_is_mark⟩
/-- _law_well: _law_script _law_k _law_cell -/
def b_law_well : List S :=
  [.set 2 (.bin .mul (.const (.int 31)) (.var 1)),
  .ite (.cmp .gt (.blt .len [(.var 0)]) (.const (.int 0)))
    [.set 2 (.bin .add (.ix (.var 0) (.bin .mod (.var 1) (.blt .len [(.var 0)]))) (.bin .mul (.const (.int 7919)) (.bin .fdiv (.var 1) (.blt .len [(.var 0)]))))]
    [],
  .ret (.dict [(.str [99, 101, 108, 108]), (.str [108, 101, 102, 116]), (.str [116, 117, 114, 110])] [(.var 2), (.bin .mul (.blt .max2 [(.const (.int 0)), (.var 2)]) (.blt .toInt [(.cmp .ge (.var 2) (.bin .pow (.const (.int 10)) (.const (.int 18))))])), (.const (.int 0))])]
def f_law_well : FD := ⟨2, 3, b_law_well⟩
/-- _law_draw: _law_well_here _law_many _law_turn _law_left _law_here _law_mixed -/
def b_law_draw : List S :=
  [.set 2 (.ix (.var 0) (.const (.str [116, 117, 114, 110]))),
  .setIx (.var 0) (.const (.str [116, 117, 114, 110])) (.bin .add (.var 2) (.const (.int 1))),
  .set 3 (.ix (.var 0) (.const (.str [108, 101, 102, 116]))),
  .ite (.cmp .gt (.var 3) (.const (.int 0)))
    [.setIx (.var 0) (.const (.str [108, 101, 102, 116])) (.bin .fdiv (.var 3) (.var 1)),
     .ret (.bin .mod (.var 3) (.var 1))]
    [],
  .set 4 (.bin .add (.bin .add (.bin .mod (.ix (.var 0) (.const (.str [99, 101, 108, 108]))) (.const (.int 2147483647))) (.bin .mul (.bin .mul (.const (.int 31)) (.var 2)) (.var 2))) (.const (.int 1))),
  .set 5 (.bin .mod (.bin .mul (.var 4) (.bin .add (.const (.int 48271)) (.bin .mul (.const (.int 40)) (.var 2)))) (.const (.int 2147483629))),
  .ret (.bin .mod (.bin .fdiv (.bin .mod (.bin .add (.bin .mul (.bin .fdiv (.var 5) (.const (.int 11))) (.const (.int 69621))) (.var 2)) (.const (.int 998244353))) (.const (.int 7))) (.var 1))]
def f_law_draw : FD := ⟨2, 6, b_law_draw⟩
/-- _law_is_name: _law_thing -/
def b_law_is_name : List S :=
  [.ite (.or (.not (.blt (.isinst .str) [(.var 0)])) (.or (.cmp .eq (.blt .len [(.var 0)]) (.const (.int 0))) (.cmp .gt (.blt .len [(.var 0)]) (.const (.int 8)))))
    [.ret (.const (.bl false))]
    [],
  .ret (.cmp .ge (.blt .min1 [(.comp false (.meth .find (.const (.str [97, 98, 99, 100, 101, 102, 103, 104, 105, 106, 107, 108, 109, 110, 111, 112, 113, 114, 115, 116, 117, 118, 119, 120, 121, 122])) [(.var 0)]) (.name 0) (.of (.var 0)) none [] 1)]) (.const (.int 0)))]
def f_law_is_name : FD := ⟨1, 1, b_law_is_name⟩
/-- _law_right: _law_thing _law_due _law_marked -/
def b_law_right : List S :=
  [.set 1 (.call 4 [(.var 0)]),
  .set 2 (.and (.blt (.isinst .str) [(.var 0)]) (.and (.cmp .eq (.blt .len [(.var 0)]) (.const (.int 1))) (.cmp .ge (.meth .find (.const (.str [65, 66, 67, 68, 69, 70])) [(.var 0)]) (.const (.int 0))))),
  .ret (.and (.cmp .eq (.blt .repr [(.call 0 [(.var 0)])]) (.blt .repr [(.var 1)])) (.cmp .eq (.blt .repr [(.call 1 [(.var 0)])]) (.blt .repr [(.var 2)])))]
def f_law_right : FD := ⟨1, 3, b_law_right⟩
/-- law: _law_script _law_signs _law_odd _law_k _law_well_here _law_size _law_text _law_at _law_sign _law_one _law_some _law_thing -/
def b_law : List S :=
  [.set 1 (.const (.str [97, 98, 99, 100, 101, 102, 103, 104, 105, 106, 107, 108, 109, 110, 111, 112, 113, 114, 115, 116, 117, 118, 119, 120, 121, 122])),
  .set 2 (.const (.str [65, 66, 70, 71, 90, 48, 49, 57, 32, 46, 44, 45, 43, 42, 95, 60, 62, 61, 40, 41, 59, 58, 123, 124, 125, 126, 91, 96])),
  .for (.name 3) (.range (.const (.int 20)))
    [.set 4 (.call 2 [(.var 0), (.var 3)]),
     .set 5 (.call 3 [(.var 4), (.const (.int 10))]),
     .set 6 (.meth .join (.const (.str [])) [(.comp false (.ix (.var 0) (.call 3 [(.var 1), (.const (.int 26))])) (.name 2) (.range (.var 5)) none [1, 4] 1)]),
     .set 7 (.call 3 [(.var 4), (.bin .add (.var 5) (.const (.int 1)))]),
     .set 8 (.ix (.var 2) (.call 3 [(.var 4), (.blt .len [(.var 2)])])),
     .for (.name 9) (.of (.tup [(.var 6), (.bin .add (.bin .add (.slice (.var 6) none (some (.var 7))) (.var 8)) (.slice (.var 6) (some (.var 7)) none)), (.bin .add (.bin .add (.slice (.var 6) none (some (.var 7))) (.var 8)) (.slice (.var 6) (some (.bin .add (.var 7) (.const (.int 1)))) none)), (.var 8), (.slice (.var 6) none (some (.const (.int 1)))), (.meth .upper (.var 6) [])]))
       [.ite (.not (.call 5 [(.var 9)]))
          [.ret (.const (.bl false))]
          []],
     .ite (.or (.not (.call 5 [(.tup [(.var 6)])])) (.not (.call 5 [(.list false [(.var 6)])])))
       [.ret (.const (.bl false))]
       []],
  .set 10 (.list false [(.const .non), (.const (.bl true)), (.const (.bl false)), (.const (.int 0)), (.const (.int 7)), (.bin .pow (.const (.int 10)) (.const (.int 19))), (.const (.str [])), (.const (.str [65])), (.const (.str [70])), (.const (.str [71])), (.const (.str [65, 66])), (.const (.str [97])), (.const (.str [122])), (.const (.str [97, 98, 99, 100, 101, 102, 103, 104])), (.const (.str [97, 98, 99, 100, 101, 102, 103, 104, 105]))]),
  .set 10 (.bin .add (.var 10) (.list false [(.tup []), (.list false []), (.tup [(.const (.str [97]))])])),
  .for (.name 11) (.of (.var 10))
    [.ite (.not (.call 5 [(.var 11)]))
       [.ret (.const (.bl false))]
       []],
  .ret (.const (.bl true))]
def f_law : FD := ⟨1, 12, b_law⟩
def prog : List FD := [f_is_name, f_is_mark, f_law_well, f_law_draw, f_law_is_name, f_law_right, f_law]
end K01
namespace K01
open OR
set_option linter.all false
set_option maxRecDepth 10000
set_option maxHeartbeats 1000000
def letters : List Nat := [97, 98, 99, 100, 101, 102, 103, 104, 105, 106, 107, 108, 109, 110, 111, 112, 113, 114, 115, 116, 117, 118, 119, 120, 121, 122]
def isName : PV → Bool
  | .str cs => decide (1 ≤ cs.length ∧ cs.length ≤ 8) && cs.all fun c => decide (c ∈ letters)
  | _ => false
def isMark : PV → Bool
  | .str [c] => decide (c ∈ [65, 66, 67, 68, 69, 70])
  | _ => false

theorem is_name_eq (W d : Nat) (v : PV) (st : Store) : runF prog W (d + 1) 0 [.p v] st = .ok (.p (.bl (isName v))) st := by
  rw [run_def (fd := f_is_name) rfl rfl]
  cases v with
  | str cs =>
    by_cases h1 : (1 : Int) ≤ cs.length
    · by_cases h2 : (cs.length : Int) ≤ 8
      · have h3 : 1 ≤ cs.length := by omega
        have h4 : cs.length ≤ 8 := by omega
        have hc : ∀ env, compE (runF prog W d) (.cmp .isIn (.var 0) (.const (.str letters))) none (.name 0) none (cs.map fun c => PV.str [c]) [env] st [] = .ok (cs.map fun c => PV.bl (decide (c ∈ letters))) st := fun env => by
          rw [compE_map (f := fun x => .bl (match x with | .str cs => infixOf cs letters | _ => false)) _ _ _ (fun env => ∃ v, env = [v]) ⟨_, rfl⟩ fun x hx env he => ?_]
          · simp [infix_one]
          · obtain ⟨c, _, rfl⟩ := List.mem_map.mp hx
            obtain ⟨v, rfl⟩ := he
            exact ⟨_, rfl, ⟨_, rfl⟩, by simp⟩
        unfold letters at hc
        simp [f_is_name, b_is_name, h1, h2, isName, h3, h4, hc, boolsAll_map, letters]
      · have h4 : ¬ cs.length ≤ 8 := by omega
        simp [f_is_name, b_is_name, isName, h1, h2, h4]
    · have h4 : ¬ 1 ≤ cs.length := by omega
      simp [f_is_name, b_is_name, isName, h1, h4]
  | _ => simp [f_is_name, b_is_name, isName]

theorem is_mark_eq (W d : Nat) (v : PV) (st : Store) : runF prog W (d + 1) 1 [.p v] st = .ok (.p (.bl (isMark v))) st := by
  rw [run_def (fd := f_is_mark) rfl rfl]
  have h : itemIn v [.str [65], .str [66], .str [67], .str [68], .str [69], .str [70]] = isMark v := by
    cases v with
    | str cs =>
      match cs with
      | [] => simp [itemIn, pyEq, isMark]
      | [c] => simp [itemIn, pyEq, isMark, eq_comm]
      | a :: b :: r => simp [itemIn, pyEq, isMark]
    | _ => simp [itemIn, pyEq, isMark]
  cases v <;> simp [f_is_mark, b_is_mark, h]

theorem law_is_name_eq (W d : Nat) (v : PV) (st : Store) : runF prog W (d + 1) 4 [.p v] st = .ok (.p (.bl (isName v))) st := by
  rw [run_def (fd := f_law_is_name) rfl rfl]
  cases v with
  | str cs =>
    cases cs with
    | nil => simp [f_law_is_name, b_law_is_name, isName, pyEq]
    | cons a r =>
      by_cases h2 : (8 : Int) < ((a :: r).length : Nat)
      · have h4 : ¬ r.length + 1 ≤ 8 := by simp at h2; omega
        have h5 : (8 : Int) < (r.length : Int) + 1 := by simpa using h2
        simp [f_law_is_name, b_law_is_name, isName, pyEq, h5, h4]
      · have h4 : r.length + 1 ≤ 8 := by simp at h2; omega
        have h5 : ¬ (8 : Int) < (r.length : Int) + 1 := by simpa using h2
        have h6 : ¬ (r.length : Int) + 1 = 0 := by omega
        have hc : ∀ env, compE (runF prog W d) (.meth .find (.const (.str letters)) [.var 0]) none (.name 0) none ((a :: r).map fun c => PV.str [c]) [env] st [] = .ok ((a :: r).map fun c => PV.int (findI [c] letters)) st := fun env => by
          rw [compE_map (f := fun x => .int (match x with | .str cs => findI cs letters | _ => 0)) _ _ _ (fun env => ∃ v, env = [v]) ⟨_, rfl⟩ fun x hx env he => ?_]
          · simp
          · obtain ⟨c, _, rfl⟩ := List.mem_map.mp hx
            obtain ⟨v, rfl⟩ := he
            exact ⟨_, rfl, ⟨_, rfl⟩, by simp⟩
        have hm : ∀ c : Nat, (0 : Int) ≤ findI [c] letters ↔ c ∈ letters := fun c => findI_one c letters
        have hfin : decide ((0 : Int) ≤ minL (findI [a] letters) (r.map fun c => (findI [c] letters))) = (decide (a ∈ letters) && r.all fun c => decide (c ∈ letters)) := by
          rw [Bool.eq_iff_iff]
          simp only [decide_eq_true_eq, Bool.and_eq_true, List.all_eq_true]
          rw [minL_ge, hm a]
          refine and_congr_right fun _ => ⟨fun h c hc => (hm c).mp (h _ (List.mem_map.mpr ⟨c, hc, rfl⟩)), fun h x hx => ?_⟩
          obtain ⟨c, hc, rfl⟩ := List.mem_map.mp hx
          exact (hm c).mpr (h c hc)
        have hi := ints_map (fun c => (findI [c] letters)) (a :: r)
        unfold letters at hc
        simp only [List.map_cons] at hc
        simp only [List.map_cons] at hi
        unfold letters at hi hfin
        simp [f_law_is_name, b_law_is_name, isName, pyEq, h5, h6, h4, hc, fMin, hi, hfin, letters]
  | _ => simp [f_law_is_name, b_law_is_name, isName]

theorem repr_eq (b : Bool) : reprOf (.bl b) = some (if b then tTrue else tFalse) := by cases b <;> rfl
theorem law_right_eq (W d : Nat) (v : PV) (st : Store) : runF prog W (d + 2) 5 [.p v] st = .ok (.p (.bl true)) st := by
  rw [run_def (fd := f_law_right) rfl rfl]
  have hm : ∀ b : Bool, (if b then tTrue else tFalse) = tTrue ↔ b = true := by decide
  cases v with
  | str cs =>
    by_cases h1 : (cs.length : Int) = 1
    · obtain ⟨c, rfl⟩ : ∃ c, cs = [c] := by
        match cs, h1 with
        | [c], _ => exact ⟨c, rfl⟩
        | a :: b :: r, h => simp at h; omega
      have q : decide ((0 : Int) ≤ findI [c] [65, 66, 67, 68, 69, 70]) = isMark (.str [c]) := by
        simp only [isMark]
        exact decide_eq_decide.mpr (findI_one c _)
      simp [f_law_right, b_law_right, law_is_name_eq, is_name_eq, is_mark_eq, pyEq, repr_eq, q, -reprOf]
    · have q : isMark (.str cs) = false := by
        match cs, h1 with
        | [c], h => exact absurd rfl h
        | [], _ => rfl
        | a :: b :: r, h => rfl
      simp [f_law_right, b_law_right, law_is_name_eq, is_name_eq, is_mark_eq, pyEq, repr_eq, q, h1, -reprOf]
  | _ => simp [f_law_right, b_law_right, law_is_name_eq, is_name_eq, is_mark_eq, pyEq, repr_eq, isMark, -reprOf]

def kCell : PV := .str [99, 101, 108, 108]
def kLeft : PV := .str [108, 101, 102, 116]
def kTurn : PV := .str [116, 117, 114, 110]
def wellD (c l t : Int) : PObj := .dct [(.str [99, 101, 108, 108], .int c), (.str [108, 101, 102, 116], .int l), (.str [116, 117, 114, 110], .int t)]

theorem small_of {i : Int} (h1 : -1000000000000000000 ≤ i) (h2 : i ≤ 1000000000000000000) : small64 i = true := by
  unfold small64
  exact decide_eq_true ⟨by omega, by omega⟩
theorem mod_bound (a b : Int) (h : 0 < b) : 0 ≤ a % b ∧ a % b < b := ⟨Int.emod_nonneg _ (by omega), Int.emod_lt_of_pos _ h⟩
theorem draw_eq (W d w : Nat) (c l t m : Int) (st : Store) (hw : objAt st w = some (wellD c l t)) (hl : 0 ≤ l) (ht : 0 ≤ t) (ht2 : t ≤ 1000000) (hm : 0 < m) (hm2 : m < 1000000000) :
    ∃ r l', 0 ≤ r ∧ r < m ∧ 0 ≤ l' ∧ runF prog W (d + 1) 3 [.ref w, .p (.int m)] st = .ok (.p (.int r)) (st.set w (wellD c l' (t + 1))) := by
  have g1 := fun o => objAt_set (o := o) (objAt_lt hw)
  have hm3 : m < 1000000000000000000000000000000 := by omega
  have s31 : small64 31 = true := by decide
  have s40 : small64 40 = true := by decide
  have st31 : small64 (31 * t) = true := small_of (by omega) (by omega)
  have sm : small64 (48271 + 40 * t) = true := small_of (by omega) (by omega)
  have s6 : small64 69621 = true := by decide
  by_cases h : 0 < l
  · refine ⟨l % m, l / m, (mod_bound l m hm).1, (mod_bound l m hm).2, Int.ediv_nonneg hl (by omega), ?_⟩
    rw [run_def (fd := f_law_draw) rfl rfl]
    simp [f_law_draw, b_law_draw, hw, wellD, dGet, dPut, h, g1, hm, hm3, take_set]
  · refine ⟨((((c % 2147483647 + 31 * t * t + 1) * (48271 + 40 * t) % 2147483629) / 11 * 69621 + t) % 998244353 / 7) % m, l, (mod_bound _ m hm).1, (mod_bound _ m hm).2, hl, ?_⟩
    rw [run_def (fd := f_law_draw) rfl rfl]
    simp [f_law_draw, b_law_draw, hw, wellD, dGet, dPut, h, g1, hm, hm3, take_set, s31, s40, st31, sm, s6]
theorem well_eq (W d : Nat) (ns : List Int) (k : Int) (st : Store) (h63 : ns.length ≤ 63) (hk : 0 ≤ k) (hk2 : k ≤ 1000000) :
    ∃ c l, 0 ≤ l ∧ runF prog W (d + 1) 2 [.p (.lst (ns.map .int)), .p (.int k)] st = .ok (.ref st.length) (st ++ [wellD c l 0]) := by
  have s31 : small64 31 = true := by decide
  have s79 : small64 7919 = true := by decide
  have s10 : small64 10 = true := by decide
  have sb : ∀ (p : Prop) [Decidable p], small64 (if p then (1 : Int) else 0) = true := by intro p _; split <;> decide
  have mx : ∀ c : Int, 0 ≤ (if (0 : Int) < c then c else 0) := fun c => by split <;> omega
  have mul0 : ∀ (c : Int) (b : Bool), 0 ≤ (if (0 : Int) < c then c else 0) * (if b = true then 1 else 0) := fun c b => Int.mul_nonneg (mx c) (by cases b <;> decide)
  have i18 : (10 : Int) ^ 18 = 1000000000000000000 := by decide
  by_cases h : (0 : Int) < ns.length
  · have hmod := mod_bound k ns.length h
    obtain ⟨v, hv⟩ : ∃ v, ns[(k % (ns.length : Int)).toNat]? = some v := ⟨_, List.getElem?_eq_getElem (by omega)⟩
    refine ⟨v + 7919 * (k / (ns.length : Int)), (if (0 : Int) < v + 7919 * (k / (ns.length : Int)) then v + 7919 * (k / (ns.length : Int)) else 0) * (if decide ((10 : Int) ^ 18 ≤ v + 7919 * (k / (ns.length : Int))) = true then 1 else 0), mul0 _ _, ?_⟩
    have hl2 : (ns.length : Int) < 1000000000000000000000000000000 := by omega
    have hix : ixAt ns.length (k % (ns.length : Int)) = some (k % (ns.length : Int)).toNat := by
      unfold ixAt; rw [if_pos hmod.1, if_pos hmod.2]
    rw [run_def (fd := f_law_well) rfl rfl]
    have h' : 0 < ns.length := by omega
    simp [f_law_well, b_law_well, s31, s10, s79, sb, wellD, dPut, h, h', hl2, hix, hv, trim, -Int.reducePow]
  · have h0 : ns.length = 0 := by omega
    refine ⟨31 * k, (if (0 : Int) < 31 * k then 31 * k else 0) * (if decide ((10 : Int) ^ 18 ≤ 31 * k) = true then 1 else 0), mul0 _ _, ?_⟩
    rw [run_def (fd := f_law_well) rfl rfl]
    have h' : ¬ 0 < ns.length := by omega
    simp [f_law_well, b_law_well, s31, s10, sb, wellD, dPut, h, h0, trim, -Int.reducePow]

def WellAt (st : Store) (w : Nat) (t : Int) : Prop := ∃ c l, objAt st w = some (wellD c l t) ∧ 0 ≤ l
theorem draw' {W D w : Nat} (hD : 0 < D) {t m : Int} {st : Store} (hw : WellAt st w t) (ht : 0 ≤ t) (ht2 : t ≤ 1000000) (hm : 0 < m) (hm2 : m < 1000000000) :
    ∃ r st', runF prog W D 3 [.ref w, .p (.int m)] st = .ok (.p (.int r)) st' ∧ 0 ≤ r ∧ r < m ∧ WellAt st' w (t + 1) := by
  obtain ⟨d, rfl⟩ : ∃ d, D = d + 1 := ⟨D - 1, by omega⟩
  obtain ⟨c, l, h1, h2⟩ := hw
  obtain ⟨r, l', a1, a2, a3, a4⟩ := draw_eq W d w c l t m st h1 h2 ht ht2 hm hm2
  exact ⟨r, _, a4, a1, a2, c, l', objAt_set (objAt_lt h1), a3⟩
theorem cut_len {α : Type} (xs : List α) (lo hi : Option Int) : (cut xs lo hi).length ≤ xs.length := by
  unfold cut
  rw [List.length_take, List.length_drop]
  omega
theorem ix_of {α : Type} (xs : List α) (i : Int) (h0 : 0 ≤ i) (h1 : i < xs.length) : ixAt xs.length i = some i.toNat ∧ ∃ x, xs[i.toNat]? = some x ∧ x ∈ xs := by
  refine ⟨by unfold ixAt; rw [if_pos h0, if_pos h1], xs[i.toNat], List.getElem?_eq_getElem (by omega), List.getElem_mem _⟩
theorem strs_map (cs : List Nat) : strsOf (cs.map fun c => PV.str [c]) = some (cs.map fun c => [c]) := by
  induction cs with
  | nil => rfl
  | cons c r ih => rw [List.map_cons, strsOf, ih]; rfl
theorem join_one (cs : List Nat) : joinS [] (cs.map fun c => [c]) = cs := by
  induction cs with
  | nil => rfl
  | cons c r ih =>
    cases r with
    | nil => rfl
    | cons b r => rw [List.map_cons, List.map_cons, joinS, ← List.map_cons (f := fun c => [c]), ih]; rfl; simp
theorem sum_one (cs : List Nat) : (List.map (List.length ∘ fun c : Nat => [c]) cs).sum = cs.length := by
  induction cs with
  | nil => rfl
  | cons c r ih => rw [List.map_cons, List.sum_cons, ih, List.length_cons]; show 1 + r.length = r.length + 1; omega
theorem right_loop {W d : Nat} (xs : List PV) (st : Store) (i : Nat) (env : Env) (hi : i < env.length) :
    ∃ v, forE (runF prog W (d + 2)) W [.ite (.not (.call 5 [(.var i)])) [.ret (.const (.bl false))] []] (.name i) none xs env st = .ok (.next (env.set i v)) st := by
  obtain ⟨env', st', e1, e2, e3⟩ := forE_inv (C := runF prog W (d + 2)) (W := W) (body := [.ite (.not (.call 5 [(.var i)])) [.ret (.const (.bl false))] []]) (tgt := .name i)
    (fun _ e s => s = st ∧ ∃ v, e = env.set i v) xs 0 env st ⟨rfl, env[i], by simp⟩ fun k x e s hx ⟨h1, v, h2⟩ => by
      subst h1 h2
      refine ⟨(env.set i v).set i (some (.p x)), (env.set i v).set i (some (.p x)), _, rfl, ?_, rfl, some (.p x), by simp⟩
      have q : (List.set (env.set i v) i (some (Val.p x)))[i]? = some (some (Val.p x)) := by simp [hi]
      simp [q, law_right_eq, hi]
  obtain ⟨v, rfl⟩ := e3
  exact ⟨v, by rw [e1, e2]⟩
theorem body_eq (W d : Nat) (ns : List Int) (h63 : ns.length ≤ 63) (k : Nat) (hk : k < 1000) (st : Store) (x3 x4 x5 x6 x7 x8 x9 x10 x11 : Option Val) : 
    let sg : List Nat := [97, 98, 99, 100, 101, 102, 103, 104, 105, 106, 107, 108, 109, 110, 111, 112, 113, 114, 115, 116, 117, 118, 119, 120, 121, 122]
    let od : List Nat := [65, 66, 70, 71, 90, 48, 49, 57, 32, 46, 44, 45, 43, 42, 95, 60, 62, 61, 40, 41, 59, 58, 123, 124, 125, 126, 91, 96]
    ∃ y4 y5 y6 y7 y8 y9 st', execSs (runF prog W (d + 2)) W (match b_law with | [_, _, .for _ _ b, _, _, _, _] => b | _ => []) [some (.p (.lst (ns.map .int))), some (.p (.str sg)), some (.p (.str od)), some (.p (.int k)), x4, x5, x6, x7, x8, x9, x10, x11] st
      = .ok (.next [some (.p (.lst (ns.map .int))), some (.p (.str sg)), some (.p (.str od)), some (.p (.int k)), y4, y5, y6, y7, y8, y9, x10, x11]) st' := by
  intro sg od
  obtain ⟨c, l, hl, hw⟩ := well_eq W (d + 1) ns k st h63 (by omega) (by omega)
  have w0 : WellAt (st ++ [wellD c l 0]) st.length 0 := ⟨c, l, objAt_new, hl⟩
  generalize st ++ [wellD c l 0] = st0 at hw w0
  obtain ⟨r1, st1, e1, a1, b1, w1⟩ := draw' (W := W) (D := d + 2) (by omega) (m := 10) w0 (by omega) (by omega) (by omega) (by omega)
  -- the text
  obtain ⟨env2, st2, ys, e2, _, cs, hys, hlen, hcs, w2⟩ := compE_inv (C := runF prog W (d + 2)) (e := .ix (.var 0) (.call 3 [(.var 1), (.const (.int 26))])) (tgt := .name 2)
    (fun i e s acc => (∃ v, e = [some (.p (.str sg)), some (.ref st.length), v]) ∧ ∃ cs : List Nat, acc = cs.map (fun c => PV.str [c]) ∧ cs.length = i ∧ (∀ c ∈ cs, c < 128) ∧ WellAt s st.length (0 + 1 + i))
    ((List.range r1.toNat).map (fun k : Nat => PV.int (k : Int))) 0 [some (.p (.str sg)), some (.ref st.length), none] st1 [] ⟨⟨_, rfl⟩, [], rfl, rfl, by simp, by simpa using w1⟩ fun i x e s acc hx ⟨⟨v, he⟩, cs, h1, h2, h3, h4⟩ => by
      subst he h1
      have hi : (i : Int) < 10 := by
        have := (List.getElem?_eq_some_iff.mp hx).1
        simp at this; omega
      obtain ⟨r, s', q1, q2, q3, q4⟩ := draw' (W := W) (D := d + 2) (by omega) (m := 26) h4 (by omega) (by omega) (by omega) (by omega)
      obtain ⟨i1, ch, i2, i3⟩ := ix_of sg r q2 q3
      refine ⟨_, s', .str [ch], rfl, ?_, ⟨_, rfl⟩, cs ++ [ch], by simp, by simp [h2], ?_, ?_⟩
      · simp only [sg] at i1 i2
        simp [q1, sg]
        simp at i1 i2
        simp [i1, i2]
      · intro c hc
        rcases List.mem_append.mp hc with z | z
        · exact h3 c z
        · have : c = ch := by simpa using z
          subst this
          exact (by decide : ∀ c ∈ sg, c < 128) c i3
      · rw [show (0 : Int) + 1 + ((0 + i + 1 : Nat) : Int) = 0 + 1 + ((0 + i : Nat) : Int) + 1 by omega]
        exact q4
  have hle : cs.length ≤ 9 := by simp at hlen; omega
  have hcs' : cs.all (fun x => decide (x < 128)) = true := by rw [List.all_eq_true]; intro c hc; exact decide_eq_true (hcs c hc)
  have hT : 0 + 1 + ((0 + ((List.range r1.toNat).map (fun k : Nat => PV.int (k : Int))).length : Nat) : Int) ≤ 20 := by simp; omega
  have hT0 : 0 ≤ 0 + 1 + ((0 + ((List.range r1.toNat).map (fun k : Nat => PV.int (k : Int))).length : Nat) : Int) := by omega
  generalize 0 + 1 + ((0 + ((List.range r1.toNat).map (fun k : Nat => PV.int (k : Int))).length : Nat) : Int) = T at w2 hT hT0
  obtain ⟨r3, st3, e3, a3, b3, w3⟩ := draw' (W := W) (D := d + 2) (by omega) (m := r1 + 1) w2 hT0 (by omega) (by omega) (by omega)
  obtain ⟨r4, st4, e4, a4, b4, w4⟩ := draw' (W := W) (D := d + 2) (by omega) (m := 28) w3 (by omega) (by omega) (by omega) (by omega)
  obtain ⟨i1, ch, i2, i3⟩ := ix_of od r4 a4 b4
  have i1' : ixAt 28 r4 = some r4.toNat := i1
  simp only [od] at i2
  have c1 : ∀ lo hi, (cut cs lo hi).length + 1 ≤ SZ := fun lo hi => by have := cut_len cs lo hi; unfold SZ; omega
  have c2 : ∀ lo hi lo' hi', (cut cs lo hi).length + 1 + (cut cs lo' hi').length ≤ SZ := fun lo hi lo' hi' => by have h1 := cut_len cs lo hi; have h2 := cut_len cs lo' hi'; unfold SZ; omega
  have c3 : cs.length ≤ SZ := by unfold SZ; omega
  have c4 : r1 ≤ SZ := by unfold SZ; omega
  have c5 : -1000000 ≤ r1 := by omega
  subst hys
  have e2' : compE (runF prog W (d + 2)) ((E.var 0).ix (E.call 3 [E.var 1, E.const (PV.int 26)])) none (Tg.name 2) none (List.map (fun k : Nat => PV.int (k : Int)) (List.range r1.toNat)) [some (.p (.str sg)), some (.ref st.length), none] st1 [] = .ok (cs.map fun c => PV.str [c]) st2 := e2
  simp only [sg] at e2'
  obtain ⟨v, hv⟩ := right_loop (W := W) (d := d) [.str cs, .str (cut cs none (some r3) ++ [ch] ++ cut cs (some r3) none), .str (cut cs none (some r3) ++ [ch] ++ cut cs (some (r3 + 1)) none), .str [ch], .str (cut cs none (some 1)), .str (cs.map upC)] st4 9
    [some (.p (.lst (ns.map .int))), some (.p (.str sg)), some (.p (.str od)), some (.p (.int k)), some (.ref st.length), some (.p (.int r1)), some (.p (.str cs)), some (.p (.int r3)), some (.p (.str [ch])), x9, x10, x11] (by simp)
  simp [sg, od] at hv
  refine ⟨some (.ref st.length), some (.p (.int r1)), some (.p (.str cs)), some (.p (.int r3)), some (.p (.str [ch])), v, st4, ?_⟩
  simp [b_law, sg, od, hw, e1, c4, c5, e2', strs_map, join_one, sum_one, c3, e3, e4, i1', i2, c1, c2, hcs', hv, law_right_eq, -List.all_eq_true]

end K01
namespace K01
open OR
set_option linter.all false
set_option maxRecDepth 10000
set_option maxHeartbeats 200000
theorem law_eq (W d : Nat) (ns : List Int) (h63 : ns.length ≤ 63) : ∃ st, runF prog W (d + 3) 6 [.p (.lst (ns.map .int))] [] = .ok (.p (.bl true)) st := by
  let sg : List Nat := [97, 98, 99, 100, 101, 102, 103, 104, 105, 106, 107, 108, 109, 110, 111, 112, 113, 114, 115, 116, 117, 118, 119, 120, 121, 122]
  let od : List Nat := [65, 66, 70, 71, 90, 48, 49, 57, 32, 46, 44, 45, 43, 42, 95, 60, 62, 61, 40, 41, 59, 58, 123, 124, 125, 126, 91, 96]
  obtain ⟨env', st', e1, x3, x4, x5, x6, x7, x8, x9, x10, x11, rfl⟩ := forE_inv (C := runF prog W (d + 2)) (W := W) (body := (match b_law with | [_, _, .for _ _ b, _, _, _, _] => b | _ => [])) (tgt := .name 3)
    (fun _ e _ => ∃ x3 x4 x5 x6 x7 x8 x9 x10 x11, e = [some (.p (.lst (ns.map .int))), some (.p (.str sg)), some (.p (.str od)), x3, x4, x5, x6, x7, x8, x9, x10, x11])
    ((List.range 20).map (fun k : Nat => PV.int (k : Int))) 0 [some (.p (.lst (ns.map .int))), some (.p (.str sg)), some (.p (.str od)), none, none, none, none, none, none, none, none, none] [] ⟨_, _, _, _, _, _, _, _, _, rfl⟩ fun i x e s hx ⟨x3, x4, x5, x6, x7, x8, x9, x10, x11, he⟩ => by
      subst he
      obtain ⟨k, hk, rfl⟩ : ∃ k : Nat, k < 20 ∧ x = PV.int (k : Int) := by
        have hm := List.mem_of_getElem? hx
        obtain ⟨k, h1, h2⟩ := List.mem_map.mp hm
        exact ⟨k, List.mem_range.mp h1, h2.symm⟩
      obtain ⟨y4, y5, y6, y7, y8, y9, st2, q⟩ := body_eq W d ns h63 k (by omega) s x3 x4 x5 x6 x7 x8 x9 x10 x11
      exact ⟨_, _, _, rfl, q, _, _, _, _, _, _, _, _, _, rfl⟩
  obtain ⟨L, hL⟩ : ∃ L : List PV, L = [.non, .bl true, .bl false, .int 0, .int 7, .int 10000000000000000000, .str [], .str [65], .str [70], .str [71], .str [65, 66], .str [97], .str [122], .str [97, 98, 99, 100, 101, 102, 103, 104], .str [97, 98, 99, 100, 101, 102, 103, 104, 105], .tup [], .lst [], .tup [.str [97]]] := ⟨_, rfl⟩
  obtain ⟨v, hv⟩ := right_loop (W := W) (d := d) L st' 11
    [some (.p (.lst (ns.map .int))), some (.p (.str sg)), some (.p (.str od)), x3, x4, x5, x6, x7, x8, x9, some (.p (.lst L)), x11] (by simp)
  refine ⟨[], ?_⟩
  simp [sg, od] at hv
  have s10 : small64 10 = true := by decide
  have r20 : (20 : Int) ≤ SZ := by unfold SZ; omega
  have l18 : 18 ≤ SZ := by unfold SZ; omega
  simp only [b_law, sg, od] at e1
  rw [run_def (fd := f_law) rfl rfl]
  simp only [f_law, b_law]
  rw [exs_step (env' := [some (.p (.lst (ns.map .int))), some (.p (.str sg)), none, none, none, none, none, none, none, none, none, none]) (st' := []) (by simp; rfl)]
  rw [exs_step (env' := [some (.p (.lst (ns.map .int))), some (.p (.str sg)), some (.p (.str od)), none, none, none, none, none, none, none, none, none]) (st' := []) (by simp; rfl)]
  rw [exs_step (by
    rw [ex_for, evIt_range, ev_const, Res.bindV_ok, walkR, if_pos ⟨(by omega : (-1000000 : Int) ≤ 20), r20⟩, Res.bind_ok]
    exact e1)]
  have p19 : (10 : Int) ^ (Int.toNat 19) = 10000000000000000000 := by decide
  rw [exs_step (env' := [some (.p (.lst (ns.map .int))), some (.p (.str sg)), some (.p (.str od)), x3, x4, x5, x6, x7, x8, x9, some (.p (.lst [.non, .bl true, .bl false, .int 0, .int 7, .int 10000000000000000000, .str [], .str [65], .str [70], .str [71], .str [65, 66], .str [97], .str [122], .str [97, 98, 99, 100, 101, 102, 103, 104], .str [97, 98, 99, 100, 101, 102, 103, 104, 105]])), x11]) (st' := st') (by
    simp only [ex_set, ev_list, evPs_cons, evPs_nil, ev_const, ev_bin, op2_p, okO_some, Res.bindV_ok, Res.bindP_ok, Res.bind_ok, binOp, bPow, s10, p19, mk]
    simp [sg, od])]
  rw [exs_step (env' := [some (.p (.lst (ns.map .int))), some (.p (.str sg)), some (.p (.str od)), x3, x4, x5, x6, x7, x8, x9, some (.p (.lst L)), x11]) (st' := st') (by rw [hL]; simp [l18])]
  clear hL
  rw [exs_step (env' := [some (.p (.lst (ns.map .int))), some (.p (.str sg)), some (.p (.str od)), x3, x4, x5, x6, x7, x8, x9, some (.p (.lst L)), v]) (st' := st') (by
    simp only [ex_for, evIt_of, ev_var, varOf, List.getElem?_cons_succ, List.getElem?_cons_zero, Res.bind_ok, walkOf, view_p, items, srcOf]
    exact hv)]
  simp
end K01
-- CHANGE: your row's module here, as the last of these rows
set_option Elab.async false
set_option linter.all false
set_option maxRecDepth 100000
/-! THE HAND LAYER, for ints, bools, texts, own classes, LISTS and tuples (index, slices, in, append, pop ..), calls, loops. Paste it whole ahead of your own text; what your proof does not reach may be deleted. -/
namespace L2
open PySem PySem.Spec PyProof.Rows

/-- a key: an int or a str -/
abbrev Key := Sum Int Str
def keyIs : Key → Value → Bool
  | .inl k, v => Value.isInt k v
  | .inr x, v => Value.isStrOf x v
def keyH (w : World) : Key → Int
  | .inl k => hashInt k
  | .inr x => hashStr w x
theorem keyIs_shape : ∀ {k : Key} {v : Value}, keyIs k v = true → (∃ i t, k = Sum.inl i ∧ v = Value.int i t) ∨ (∃ x t, k = Sum.inr x ∧ v = Value.str x t)
  | .inl i, v, h => by
    obtain ⟨t, e⟩ := Value.isInt_shape (k := i) (v := v) h
    exact .inl ⟨i, t, rfl, e⟩
  | .inr x, v, h => by
    obtain ⟨t, e⟩ := Value.isStrOf_shape (x := x) (v := v) h
    exact .inr ⟨x, t, rfl, e⟩
theorem keyIs_int (i : Int) (t : Tok) : keyIs (.inl i) (.int i t) = true := by simp [keyIs, Value.isInt]
theorem keyIs_str (x : Str) (t : Tok) : keyIs (.inr x) (.str x t) = true := by simp [keyIs, Value.isStrOf]
theorem key_ll (a b : Int) : decide ((Sum.inl a : Key) = Sum.inl b) = (a == b) := by
  by_cases e : a = b
  · subst e; simp
  · have h : ¬ (Sum.inl a : Key) = Sum.inl b := fun q => e (Sum.inl.inj q)
    rw [decide_eq_false h]
    exact (beq_eq_false_iff_ne.mpr e).symm
theorem key_rr (a b : Str) : decide ((Sum.inr a : Key) = Sum.inr b) = decide (a = b) := by
  by_cases e : a = b
  · subst e; simp
  · have h : ¬ (Sum.inr a : Key) = Sum.inr b := fun q => e (Sum.inr.inj q)
    rw [decide_eq_false h, decide_eq_false e]
theorem key_lr (a : Int) (b : Str) : decide ((Sum.inl a : Key) = Sum.inr b) = false := decide_eq_false (fun q => nomatch q)
theorem key_rl (a : Str) (b : Int) : decide ((Sum.inr a : Key) = Sum.inl b) = false := decide_eq_false (fun q => nomatch q)

def mixKind (prog : Program) (w : World) : PySem.KeyKind prog w Key where
  is := keyIs
  hash := keyH w
  inj := fun v a b ha hb => by
    rcases keyIs_shape ha with ⟨i, t, rfl, rfl⟩ | ⟨x, t, rfl, rfl⟩
    · rcases keyIs_shape hb with ⟨j, u, rfl, e⟩ | ⟨y, u, rfl, e⟩
      · injection e with e1 _; rw [e1]
      · exact nomatch e
    · rcases keyIs_shape hb with ⟨j, u, rfl, e⟩ | ⟨y, u, rfl, e⟩
      · exact nomatch e
      · injection e with e1 _; rw [e1]
  byValue := fun k v h => by
    rcases keyIs_shape h with ⟨i, t, rfl, rfl⟩ | ⟨x, t, rfl, rfl⟩ <;> rfl
  pyHash := fun hv h => by
    rcases keyIs_shape hv with ⟨i, t, rfl, rfl⟩ | ⟨x, t, rfl, rfl⟩
    · exact wpAny_pyHash_int h
    · exact wpAny_pyHash_str h
  eqBool := fun hu hv h => by
    rcases keyIs_shape hu with ⟨i, t, rfl, rfl⟩ | ⟨x, t, rfl, rfl⟩
    · rcases keyIs_shape hv with ⟨j, u, rfl, rfl⟩ | ⟨y, u, rfl, rfl⟩
      · rw [key_ll] at h; exact wpAny_eqBool_int h
      · rw [key_lr] at h; exact SeqAt.EqAt.int_str i t y u _ _ _ _ h
    · rcases keyIs_shape hv with ⟨j, u, rfl, rfl⟩ | ⟨y, u, rfl, rfl⟩
      · rw [key_rl] at h; exact SeqAt.EqAt.str_int x t j u _ _ _ _ h
      · rw [key_rr] at h; exact wpAny_eqBool_str h
  «strs» := fun k x t v h => by
    rcases keyIs_shape h with ⟨i, u, rfl, e⟩ | ⟨y, u, rfl, e⟩
    · exact nomatch e
    · injection e with e1 _
      subst e1
      cases v <;> rfl

theorem mixKind_is (prog : Program) (w : World) (k : Key) (v : Value) : (mixKind prog w).is k v = keyIs k v := rfl
theorem mixKind_int (prog : Program) (w : World) (i : Int) (t : Tok) : (mixKind prog w).is (.inl i) (.int i t) = true := keyIs_int i t
theorem mixKind_str (prog : Program) (w : World) (x : Str) (t : Tok) : (mixKind prog w).is (.inr x) (.str x t) = true := keyIs_str x t
end L2

namespace L2
open PySem PySem.Spec PyProof.Rows

/-- a value, without the heap -/
inductive V where
  | non | bl (b : Bool) | int (i : Int) | str (x : Str) | byt (b : Array UInt8) | flt (b : UInt64) | ref (a : Addr) | ty (n : String)
  deriving DecidableEq

def RelV : V → Value → Prop
  | .non, u => u = Value.none
  | .bl b, u => u = Value.bool b
  | .int i, u => ∃ t, u = Value.int i t
  | .str x, u => ∃ t, u = Value.str x t
  | .byt b, u => ∃ t, u = Value.bytes b t
  | .flt b, u => ∃ t, u = Value.float b t
  | .ref a, u => u = Value.ref a
  | .ty n, u => u = Value.type n

abbrev Vals : List V → List Value → Prop := Paired RelV
theorem Vals.length {xs : List V} {us : List Value} (r : Vals xs us) : xs.length = us.length := Paired.length r
theorem Vals.get : ∀ {xs : List V} {us : List Value} {i : Nat} {x : V}, Vals xs us → xs[i]? = some x → ∃ u, us[i]? = some u ∧ RelV x u
  | _, _, _, _, .nil, e => by simp at e
  | _, _, 0, _, .cons r _, e => by simp at e; subst e; exact ⟨_, rfl, r⟩
  | _, _, i + 1, x, .cons _ t, e => by
    obtain ⟨u, h1, h2⟩ := Vals.get (i := i) (x := x) t (by simpa using e)
    exact ⟨u, by simpa using h1, h2⟩
theorem Vals.set {x : V} {u : Value} (r : RelV x u) : ∀ {xs : List V} {us : List Value} (i : Nat), Vals xs us → Vals (xs.set i x) (us.set i u)
  | _, _, _, .nil => .nil
  | _, _, 0, .cons _ t => .cons r t
  | _, _, i + 1, .cons q t => .cons q (Vals.set r i t)
theorem Vals.append : ∀ {xs ys : List V} {us ws : List Value}, Vals xs us → Vals ys ws → Vals (xs ++ ys) (us ++ ws)
  | _, _, _, _, .nil, s => s
  | _, _, _, _, .cons r t, s => .cons r (Vals.append t s)
theorem Vals.take : ∀ {xs : List V} {us : List Value} (n : Nat), Vals xs us → Vals (xs.take n) (us.take n)
  | _, _, 0, _ => .nil
  | _, _, _ + 1, .nil => .nil
  | _, _, n + 1, .cons r t => .cons r (Vals.take n t)
theorem Vals.drop : ∀ {xs : List V} {us : List Value} (n : Nat), Vals xs us → Vals (xs.drop n) (us.drop n)
  | _, _, 0, r => r
  | _, _, _ + 1, .nil => .nil
  | _, _, n + 1, .cons _ t => Vals.drop n t
theorem Vals.none_of : ∀ {xs : List V} {us : List Value} {i : Nat}, Vals xs us → xs[i]? = none → us[i]? = none := fun {xs us i} r e => by
  have h1 := r.length
  have h2 : xs.length ≤ i := List.getElem?_eq_none_iff.mp e
  exact List.getElem?_eq_none_iff.mpr (by omega)

def RelO : Option V → Option Value → Prop
  | some v, some u => RelV v u
  | none, none => True
  | _, _ => False
def KV {κ : Type} : List (κ × V) → List (κ × Value) → Prop := Paired fun (p : κ × V) (q : κ × Value) => p.1 = q.1 ∧ RelV p.2 q.2

/-- a key of a dict (00_mix): an int or a text -/
def kV : Key → V
  | .inl i => .int i
  | .inr x => .str x

/-- what stands at a tracked address -/
inductive HO where
  /-- a list -/
  | lst (xs : List V)
  /-- a tuple (never changes) -/
  | tup (xs : List V)
  /-- a dict whose keys are ints and texts; one whose keys are tuples of ints and texts (the empty one is both) -/
  | dK (kvs : List (Key × V)) | dT (kvs : List (List Key × V))
  /-- a set of ints: its members, its size -/
  | set (S : Int → Bool) (n : Nat)
  /-- an instance of the class at C, its dict at dx, its attributes -/
  | ins (C dx : Addr) (fs : List (Str × V))
  /-- the dict of the instance at x -/
  | own (x : Addr)
  /-- the dict of an exception -/
  | xd (fs : List (Str × V))
  /-- a bound method, f of x -/
  | met (f x : Addr)
  /-- a range object lo, lo + 1, .. below hi -/
  | rng (lo hi : Int)
  /-- a thing that is known to the object (the script; a dict while a loop walks it): read, never written while it is so -/
  | frz (o : Obj) (u : HO)
  /-- a code object's table -/
  | tbl (ps : Array Value)
  /-- any other thing, by what is true of its one object (a def of one's own: SetO a S n := HO.ext fun h => ..) -/
  | ext (φ : Heap → Prop)

abbrev Hp := Addr → Option HO
def upd (H : Hp) (a : Addr) (o : HO) : Hp := fun b => if b = a then some o else H b
theorem upd_same {H : Hp} {a : Addr} {o : HO} : upd H a o a = some o := by unfold upd; rw [if_pos rfl]
theorem upd_ne {H : Hp} {a b : Addr} {o : HO} (h : b ≠ a) : upd H a o b = H b := by unfold upd; rw [if_neg h]
theorem upd_upd {H : Hp} {a : Addr} {o u : HO} : upd (upd H a o) a u = upd H a u := by
  funext b; unfold upd; split <;> rfl
/-- two objects of different content stand apart -/
theorem ne_of {H : Hp} {a b : Addr} {o u : HO} (h : H a = some o) (h' : H b = some u) (d : o ≠ u) : a ≠ b := by
  intro e; subst e; rw [h] at h'; exact d (Option.some.inj h')
theorem ne_of_none {H : Hp} {a b : Addr} {o : HO} (h : H a = some o) (h' : H b = none) : a ≠ b := by
  intro e; subst e; rw [h] at h'; cases h'

section
variable (P : Program) (w : World)
def ObjOk (H : Hp) (h : Heap) (a : Addr) : HO → Prop
  | .lst xs => xs.length ≤ sizeLine ∧ ∃ (its : List Value) (n : Nat), Vals xs its ∧ h.get? a = some { cls := .type "list", data := .seq its.toArray n }
  | .tup xs => xs.length ≤ sizeLine ∧ ∃ its : List Value, Vals xs its ∧ IsTup h a its.toArray
  | .dK kvs => kvs.length ≤ sizeLine ∧ (a == sysModules) = false ∧ ∃ vs, KV kvs vs ∧ h.DictOf (mixKind P w) a vs
  | .dT kvs => kvs.length ≤ sizeLine ∧ (a == sysModules) = false ∧ ∃ xs : List (List Key × Addr × Value),
      Paired (fun (p : List Key × V) (q : List Key × Addr × Value) => p.1 = q.1 ∧ H q.2.1 = some (.tup (p.1.map kV)) ∧ RelV p.2 q.2.2) kvs xs ∧
      ∃ o es ep, h.get? a = some o ∧ o.ExactDict ∧ o.data = .dict es ep ∧ es.toList = xs.map (entryOfKey (tupleKind (mixKind P w))) ∧ (xs.map (·.1)).Nodup
  | .set S n => h.SetOf (intKind P w) a S n
  | .ins C dx fs => H dx = some (.own a) ∧ fs.length ≤ 1000 ∧ dx ≠ a ∧ h.get? a = some (PySem.W.instObj C dx) ∧
      ∃ mA, h.Ns1 dx mA ∧ (∀ f, RelO (fs.lookup f) (mA f)) ∧ PySem.Within mA (fs.map (·.1))
  | .own _ => ∃ o, h.get? a = some o
  | .xd fs => ∃ mA, h.Ns1 a mA ∧ ∀ f, RelO (fs.lookup f) (mA f)
  | .rng lo hi => ∃ t u v, h.get? a = some { cls := .type "range", data := .fields #[.int lo t, .int hi u, .int 1 v] }
  | .frz o u => h.get? a = some o ∧ ObjOk H h a u
  | .tbl ps => h.get? a = some { cls := .none, data := .fields ps }
  | .met f x => h.get? a = some (PySem.W.methodObj (.ref f) (.ref x))
  | .ext φ => φ h ∧ (∃ o, h.get? a = some o) ∧ ∀ h1 h2 : Heap, φ h1 → (∀ o, h1.get? a = some o → h2.get? a = some o) → φ h2
/-- the abstract heap is held -/
def HOk (H : Hp) (h : Heap) : Prop := ∀ a o, H a = some o → ObjOk P w H h a o
end

section
variable {P : Program} {w : World} {H H' : Hp} {h h' : Heap} {a : Addr} {o : HO}
theorem ObjOk.lt (x : ObjOk P w H h a o) : a < h.objs.size := by
  cases o with
  | lst xs => obtain ⟨_, _, _, _, e⟩ := x; exact Heap.lt_size e
  | tup xs => obtain ⟨_, _, _, p⟩ := x; exact p.lt
  | dK kvs => obtain ⟨_, _, _, _, o, _, _, e, _⟩ := x; exact Heap.lt_size e
  | dT kvs => obtain ⟨_, _, _, _, o, _, _, e, _⟩ := x; exact Heap.lt_size e
  | set S n => obtain ⟨o, _, _, _, e, _⟩ := x; exact Heap.lt_size e
  | ins C dx fs => obtain ⟨_, _, _, e, _⟩ := x; exact Heap.lt_size e
  | own y => obtain ⟨_, e⟩ := x; exact Heap.lt_size e
  | xd fs => obtain ⟨_, ⟨_, _, _, e, _⟩, _⟩ := x; exact Heap.lt_size e
  | rng lo hi => obtain ⟨_, _, _, e⟩ := x; exact Heap.lt_size e
  | frz ob u => obtain ⟨e, _⟩ := x; exact Heap.lt_size e
  | tbl ps => exact Heap.lt_size (show h.get? a = some _ from x)
  | met f y => exact Heap.lt_size (show h.get? a = some _ from x)
  | ext φ => obtain ⟨_, ⟨_, e⟩, _⟩ := x; exact Heap.lt_size e
theorem Paired.mapP {α β : Type} {F G : α → β → Prop} : ∀ {l₁ : List α} {l₂ : List β}, Paired F l₁ l₂ → (∀ a b, F a b → G a b) → Paired G l₁ l₂
  | _, _, .nil, _ => .nil
  | _, _, .cons r t, f => .cons (f _ _ r) (Paired.mapP t f)
theorem Paired.imp' {α β : Type} {F G : α → β → Prop} (f : ∀ a b, F a b → G a b) {l₁ : List α} {l₂ : List β} (r : Paired F l₁ l₂) : Paired G l₁ l₂ := Paired.mapP r f
/-- what an object's description leans on: its own object, its own dict, the tuples -/
theorem ObjOk.stay (x : ObjOk P w H h a o) (k : ∀ b u, (b = a ∨ H b = some (.own a)) → h.get? b = some u → h'.get? b = some u)
    (ho : ∀ b, H b = some (.own a) → H' b = some (.own a)) (ht : ∀ b xs, H b = some (.tup xs) → H' b = some (.tup xs)) : ObjOk P w H' h' a o := by
  induction o with
  | lst xs => obtain ⟨z, its, n, r, e⟩ := x; exact ⟨z, its, n, r, k _ _ (.inl rfl) e⟩
  | tup xs => obtain ⟨z, its, r, ob, e, c⟩ := x; exact ⟨z, its, r, ob, k _ _ (.inl rfl) e, c⟩
  | dK kvs => obtain ⟨z, y, vs, r, ob, es, ep, e, c⟩ := x; exact ⟨z, y, vs, r, ob, es, ep, k _ _ (.inl rfl) e, c⟩
  | dT kvs =>
    obtain ⟨z, y, xs, r, ob, es, ep, e, c⟩ := x
    exact ⟨z, y, xs, Paired.mapP r fun p q z => ⟨z.1, ht _ _ z.2.1, z.2.2⟩, ob, es, ep, k _ _ (.inl rfl) e, c⟩
  | set S n => obtain ⟨ob, es, ep, t, e, c⟩ := x; exact ⟨ob, es, ep, t, k _ _ (.inl rfl) e, c⟩
  | ins C dx fs =>
    obtain ⟨d, z, ne, e, mA, ⟨od, es, ep, e2, c⟩, r⟩ := x
    exact ⟨ho _ d, z, ne, k _ _ (.inl rfl) e, mA, ⟨od, es, ep, k _ _ (.inr d) e2, c⟩, r⟩
  | own y => obtain ⟨ob, e⟩ := x; exact ⟨ob, k _ _ (.inl rfl) e⟩
  | xd fs => obtain ⟨mA, ⟨od, es, ep, e, c⟩, r⟩ := x; exact ⟨mA, ⟨od, es, ep, k _ _ (.inl rfl) e, c⟩, r⟩
  | rng lo hi => obtain ⟨t, u, v, e⟩ := x; exact ⟨t, u, v, k _ _ (.inl rfl) e⟩
  | frz ob u ih => obtain ⟨e, q⟩ := x; exact ⟨k _ _ (.inl rfl) e, ih q⟩
  | tbl ps =>
    have e : h.get? a = some { cls := .none, data := .fields ps } := x
    show h'.get? a = some { cls := .none, data := .fields ps }
    exact k a _ (.inl rfl) e
  | met f y =>
    have e : h.get? a = some (PySem.W.methodObj (.ref f) (.ref y)) := x
    show h'.get? a = some (PySem.W.methodObj (.ref f) (.ref y))
    exact k a _ (.inl rfl) e
  | ext φ => obtain ⟨p, ⟨o, e⟩, st⟩ := x; exact ⟨st _ _ p fun o q => k _ _ (.inl rfl) q, ⟨o, k _ _ (.inl rfl) e⟩, st⟩
theorem HOk.lt (x : HOk P w H h) (e : H a = some o) : a < h.objs.size := (x a o e).lt
theorem HOk.fresh (x : HOk P w H h) (e : h.objs.size ≤ a) : H a = none := by
  cases q : H a with
  | none => rfl
  | some u => exact absurd (Nat.lt_of_lt_of_le (x.lt q) e) (Nat.lt_irrefl _)
/-- every object of the heap is kept -/
theorem HOk.kept (x : HOk P w H h) (k : ∀ b u, h.get? b = some u → h'.get? b = some u) : HOk P w H h' := fun a o e =>
  (x a o e).stay (fun b u _ q => k b u q) (fun _ q => q) fun _ _ q => q
/-- a new object is laid and tracked -/
theorem HOk.laid (x : HOk P w H h) (k : ∀ b u, h.get? b = some u → h'.get? b = some u) (hp : h.objs.size ≤ a) (new : ObjOk P w (upd H a o) h' a o) : HOk P w (upd H a o) h' := fun b u e => by
  have hn := x.fresh hp
  by_cases hb : b = a
  · subst hb; rw [upd_same] at e; cases e; exact new
  · rw [upd_ne hb] at e
    exact (x b u e).stay (fun c v _ q => k c v q) (fun c q => by rw [upd_ne (ne_of_none q hn)]; exact q) fun c xs q => by rw [upd_ne (ne_of_none q hn)]; exact q
end

/-- what may be read as u: it is u, or a known u -/
def Rd (H : Hp) (a : Addr) (u : HO) : Prop := H a = some u ∨ ∃ o, H a = some (.frz o u)
theorem Rd.of {H : Hp} {a : Addr} {u : HO} (h : H a = some u) : Rd H a u := .inl h
theorem Rd.ok {P : Program} {w : World} {H : Hp} {h : Heap} {a : Addr} {u : HO} (r : Rd H a u) (x : HOk P w H h) : ObjOk P w H h a u := by
  rcases r with r | ⟨o, r⟩
  · exact x a u r
  · obtain ⟨_, q⟩ := x a _ r
    exact q
/-- what may be written -/
def Mut : Option HO → Prop
  | some (.lst _) => True
  | some (.dK _) => True
  | some (.dT _) => True
  | some (.set _ _) => True
  | some (.ins _ _ _) => True
  | some (.ext _) => True
  | _ => False
section
variable {P : Program} {w : World} {H : Hp} {h h' : Heap} {x e : Addr} {o' : HO}
/-- the object at e is changed: x itself, or the dict of the instance x -/
theorem HOk.write (ok : HOk P w H h) (mu : Mut (H x)) (he : e = x ∨ H e = some (.own x)) (k : ∀ b u, b ≠ e → h.get? b = some u → h'.get? b = some u) (heo : ∃ u, h'.get? e = some u)
    (new : ObjOk P w (upd H x o') h' x o') : HOk P w (upd H x o') h' := fun b u q => by
  have nown : ∀ c y, H c = some (.own y) → c ≠ x := fun c y r z => by subst z; rw [r] at mu; exact mu
  have ntup : ∀ c xs, H c = some (.tup xs) → c ≠ x := fun c xs r z => by subst z; rw [r] at mu; exact mu
  by_cases hb : b = x
  · subst hb; rw [upd_same] at q; cases q; exact new
  · rw [upd_ne hb] at q
    by_cases hbe : b = e
    · have q' : H b = some (.own x) := by
        rcases he with z | z
        · exact absurd (hbe.trans z) hb
        · rw [hbe]; exact z
      rw [q] at q'; cases q'
      obtain ⟨v, hv⟩ := heo
      exact ⟨v, by rw [hbe]; exact hv⟩
    · refine (ok b u q).stay (fun c v hc r => k c v ?_ r) (fun c r => by rw [upd_ne (nown c b r)]; exact r) fun c xs r => by rw [upd_ne (ntup c xs r)]; exact r
      rcases hc with rfl | hc
      · exact hbe
      · rintro rfl
        rcases he with z | z
        · exact nown c b hc z
        · rw [hc] at z; cases z; exact hb rfl
end

/-! ### kept unless tracked; of the frames at fs (the callers') the slots may change (an exception that passes writes there); of the records at ex (iterators) nothing is said -/
structure Un (fs ex : List Addr) (H H' : Hp) (h h' : Heap) : Prop where
  keep : ∀ b o, h.get? b = some o → H b = none → b ∉ fs → b ∉ ex → h'.get? b = some o
  slot : ∀ b o, h.get? b = some o → H b = none → b ∈ fs → b ∉ ex → ∃ sl, h'.get? b = some { o with slots := sl }
  free : ∀ b o, h.get? b = some o → H b = none → b ∉ ex → H' b = none
  there : ∀ b o, h.get? b = some o → b ∉ ex → ∃ o', h'.get? b = some o'
  tups : ∀ b xs, H b = some (.tup xs) → H' b = some (.tup xs)
  frzs : ∀ b o u, H b = some (.frz o u) → H' b = some (.frz o u)
  tbls : ∀ b ps, H b = some (.tbl ps) → ∃ more, H' b = some (.tbl (ps ++ more))
section
variable {fs fs' ex ex' : List Addr} {H H1 H2 : Hp} {h h1 h2 h' : Heap} {a x e : Addr} {o : HO}
theorem Un.any (u : Un fs ex H H1 h h1) {b : Addr} {ob : Obj} (q : h.get? b = some ob) (n : H b = none) (hx : b ∉ ex) : ∃ sl, h1.get? b = some { ob with slots := sl } := by
  by_cases hb : b ∈ fs
  · exact u.slot b ob q n hb hx
  · exact ⟨ob.slots, u.keep b ob q n hb hx⟩
theorem Un.trans (a : Un fs ex H H1 h h1) (b : Un fs ex H1 H2 h1 h2) : Un fs ex H H2 h h2 where
  keep := fun c ob q n hc hx => b.keep c ob (a.keep c ob q n hc hx) (a.free c ob q n hx) hc hx
  slot := fun c ob q n hc hx => by
    obtain ⟨sl, e1⟩ := a.slot c ob q n hc hx
    obtain ⟨sl', e2⟩ := b.slot c _ e1 (a.free c ob q n hx) hc hx
    exact ⟨sl', e2⟩
  free := fun c ob q n hx => by
    obtain ⟨o', e1⟩ := a.there c ob q hx
    exact b.free c o' e1 (a.free c ob q n hx) hx
  there := fun c ob q hx => by
    obtain ⟨o', e1⟩ := a.there c ob q hx
    exact b.there c o' e1 hx
  tups := fun c xs q => b.tups c xs (a.tups c xs q)
  frzs := fun c ob xs q => b.frzs c ob xs (a.frzs c ob xs q)
  tbls := fun c ps q => by
    obtain ⟨m1, e1⟩ := a.tbls c ps q
    obtain ⟨m2, e2⟩ := b.tbls c _ e1
    exact ⟨m1 ++ m2, by rw [e2, Array.append_assoc]⟩
theorem Un.kept (k : ∀ b u, h.get? b = some u → h'.get? b = some u) : Un fs ex H H h h' :=
  ⟨fun b ob q _ _ _ => k b ob q, fun b ob q _ _ _ => ⟨ob.slots, k b ob q⟩, fun _ _ _ n _ => n, fun b ob q _ => ⟨ob, k b ob q⟩, fun _ _ q => q, fun _ _ _ q => q, fun _ ps q => ⟨#[], by rw [q]; simp⟩⟩
theorem Un.refl : Un fs ex H H h h := Un.kept fun _ _ q => q
theorem Un.laid (k : ∀ b u, h.get? b = some u → h'.get? b = some u) (hp : h.objs.size ≤ a) (hn : H a = none) : Un fs ex H (upd H a o) h h' where
  keep := fun b u q _ _ _ => k b u q
  slot := fun b u q _ _ _ => ⟨u.slots, k b u q⟩
  free := fun b u q n _ => by rw [upd_ne (Nat.ne_of_lt (Nat.lt_of_lt_of_le (Heap.lt_size q) hp))]; exact n
  there := fun b u q _ => ⟨u, k b u q⟩
  tups := fun b xs q => by rw [upd_ne (ne_of_none q hn)]; exact q
  frzs := fun b u xs q => by rw [upd_ne (ne_of_none q hn)]; exact q
  tbls := fun b ps q => ⟨#[], by rw [upd_ne (ne_of_none q hn), q]; simp⟩
theorem Un.write (mu : Mut (H x)) (he : e = x ∨ H e = some (.own x)) (k : ∀ b u, b ≠ e → h.get? b = some u → h'.get? b = some u) (heo : ∃ u, h'.get? e = some u) : Un fs ex H (upd H x o) h h' := by
  have hx : ∀ b, H b = none → b ≠ x := fun b n z => by subst z; rw [n] at mu; exact mu
  have hb : ∀ b, H b = none → b ≠ e := fun b n z => by
    subst z
    rcases he with r | r
    · exact hx b n r
    · rw [n] at r; cases r
  have hm : ∀ b u, H b = some u → ¬ Mut (some u) → b ≠ x := fun b u q nm z => by subst z; rw [q] at mu; exact nm mu
  refine ⟨fun b u q n _ _ => k b u (hb b n) q, fun b u q n _ _ => ⟨u.slots, k b u (hb b n) q⟩, fun b u q n _ => by rw [upd_ne (hx b n)]; exact n, fun b u q _ => ?_,
    fun b xs q => by rw [upd_ne (hm b _ q fun z => z)]; exact q, fun b u xs q => by rw [upd_ne (hm b _ q fun z => z)]; exact q, fun b ps q => ⟨#[], by rw [upd_ne (hm b _ q fun z => z), q]; simp⟩⟩
  by_cases hbe : b = e
  · subst hbe; exact heo
  · exact ⟨u, k b u hbe q⟩
theorem Un.mono (u : Un fs ex H H1 h h1) (hs : ∀ b ∈ fs, b ∈ fs') (hx : ∀ b ∈ ex, b ∈ ex') : Un fs' ex' H H1 h h1 :=
  ⟨fun b ob q n hb he => u.keep b ob q n (fun z => hb (hs b z)) fun z => he (hx b z), fun _ _ q n _ he => u.any q n fun z => he (hx _ z), fun b ob q n he => u.free b ob q n fun z => he (hx b z), fun b ob q he => u.there b ob q fun z => he (hx b z), u.tups, u.frzs, u.tbls⟩
end

/-! ### the heap without what is tracked -/
def trk (h : Heap) (H : Hp) : List Addr := (List.range h.objs.size).filter fun a => (H a).isSome
def hidT (h : Heap) (H : Hp) : Heap := PySem.W.hideAll h (trk h H)
theorem hidT_size (h : Heap) (H : Hp) : (hidT h H).objs.size = h.objs.size := PySem.W.hideAll_size _ _
theorem hidT_get {h : Heap} {H : Hp} {b : Addr} {o : Obj} (e : h.get? b = some o) (n : H b = none) : (hidT h H).get? b = some o :=
  PySem.W.hideAll_get _ e fun hm => by
    have q : (H b).isSome = true := (List.mem_filter.mp hm).2
    rw [n] at q; simp at q
theorem of_hidT {h : Heap} {H : Hp} {b : Addr} {o : Obj} (e : (hidT h H).get? b = some o) : h.get? b = some o ∧ H b = none := by
  have e' : h.get? b = some o := PySem.W.of_hideAll (trk h H) e
  refine ⟨e', ?_⟩
  cases q : H b with
  | none => rfl
  | some x =>
    have hm : b ∈ trk h H := List.mem_filter.mpr ⟨List.mem_range.mpr (Heap.lt_size e'), by simp [q]⟩
    have z : (hidT h H).get? b = none := PySem.W.hideAll_none (trk h H) hm
    rw [z] at e; cases e

/-! ### OpenK's ledger, filled with every new object but one -/
def allNews (g h : Heap) (L : Addr) : List (Addr × Obj) := (List.range h.objs.size).filterMap fun a => if a = L ∨ (g.get? a).isSome = true then none else (h.get? a).map fun o => (a, o)
theorem mem_allNews {g h : Heap} {L a : Addr} {o : Obj} (h1 : a ≠ L) (h2 : g.get? a = none) (h3 : h.get? a = some o) : (a, o) ∈ allNews g h L :=
  List.mem_filterMap.mpr ⟨a, List.mem_range.mpr (Heap.lt_size h3), by simp [h1, h2, h3]⟩
theorem of_mem_allNews {g h : Heap} {L : Addr} {p : Addr × Obj} (hp : p ∈ allNews g h L) : p.1 ≠ L ∧ g.get? p.1 = none ∧ h.get? p.1 = some p.2 := by
  obtain ⟨b, _, e⟩ := List.mem_filterMap.mp hp
  split at e
  · cases e
  · rename_i hn
    cases q : h.get? b with
    | none => rw [q] at e; simp at e
    | some u =>
      rw [q] at e
      simp only [Option.map_some, Option.some.injEq] at e
      subst e
      refine ⟨fun z => hn (.inl z), ?_, q⟩
      show g.get? b = none
      cases r : g.get? b with
      | none => rfl
      | some v => exact (hn (.inr (by simp [r]))).elim
def rest (g h : Heap) (L d : Addr) : List (Addr × Obj) := (allNews g h L).filter fun p => decide (p.1 ≠ d)
theorem rest_ne {g h : Heap} {L d : Addr} : ∀ p ∈ rest g h L d, p.1 ≠ d := fun p hp => of_decide_eq_true (List.mem_filter.mp hp).2
theorem mem_rest {g h : Heap} {L d a : Addr} {o : Obj} (h1 : a ≠ L) (h2 : g.get? a = none) (h3 : h.get? a = some o) (h4 : a ≠ d) : (a, o) ∈ rest g h L d :=
  List.mem_filter.mpr ⟨mem_allNews h1 h2 h3, decide_eq_true h4⟩
theorem news_all {g h : Heap} {L : Addr} : News g L h (allNews g h L) := fun p hp => let ⟨a, b, c⟩ := of_mem_allNews hp; ⟨c, a, b⟩
theorem news_at {g h : Heap} {L d : Addr} {o : Obj} (h1 : d ≠ L) (h2 : g.get? d = none) (h3 : h.get? d = some o) : News g L h ((d, o) :: rest g h L d) := fun p hp => by
  rcases List.mem_cons.mp hp with rfl | hp
  · exact ⟨h3, h1, h2⟩
  · exact news_all p (List.mem_filter.mp hp).1
/-- behind a rule that changed d alone: all else but the frame is kept -/
theorem kept_of_news {g h h' : Heap} {L d : Addr} {m : Str → Option Value} (k : ∀ b o, g.get? b = some o → h.get? b = some o) (F : Fr g L h' m) (N : News g L h' (rest g h L d)) :
    ∀ b o, b ≠ L → b ≠ d → h.get? b = some o → h'.get? b = some o := fun b o h1 h2 e => by
  cases q : g.get? b with
  | some u =>
    have := k b u q
    rw [e] at this; cases this
    exact F.keep b _ q
  | none => exact (N (b, o) (mem_rest h1 q e h2)).1
end L2

namespace L2
open PySem PySem.Spec PyProof.Rows

/-- the module's facts, over the base: the heap at the law's entry without what is tracked there -/
structure Mod (K : PySem.W.Frag) (mg : Str → Option Value) (base : Heap) : Prop where
  kin : K.In base
  glob : base.Ns mainGlobals mg
  blt : ∃ mb, base.Ns builtinsNs mb ∧ ∀ x : Str, x ≠ "__name__" → mb x = bootBuiltins x
  nolimit : base.NoLimit

/-- the context: a def's body (or a comprehension's block) running. base: fixed through the whole law; s₀, H₀: the entry; outer: the frames whose slots others may change (a def's callers); stack: all frames that run;
   ex: iterators that were made ahead of the entry and are walked here (a comprehension's); fn: the names whose cells were made at the entry (a def: all; a comprehension's block: its own); calm: not within an except suite; pn: pins that every state bears; xe: what is wanted of an exception that leaves the code -/
structure Cx where
  prog : Program
  w : World
  K : PySem.W.Frag
  mg : Str → Option Value
  base : Heap
  A : Around
  N : List Str
  s₀ : Shared
  H₀ : Hp
  env : Env
  outer : List Env
  stack : List Env
  ex : List Addr
  fn : Str → Bool
  calm : Bool
  pn : List (Addr × Obj)
  xe : Value → Shared → Prop
/-- the callers' frames -/
def frs (l : List Env) : List Addr := l.filterMap (·.frame)
abbrev Cx.fs (X : Cx) : List Addr := frs X.outer

def Vis (sc : Scope) (x : Str) : Prop := sc.names.lookup x = some .local ∨ sc.names.lookup x = some .cell ∨ sc.names.lookup x = some .free
def Loc (sc : Scope) (x : Str) : Prop := sc.names.lookup x = some .local ∨ sc.names.lookup x = some .cell
def Look (env : Env) (h : Heap) (m : Str → Option Value) (x : Str) (u : Value) : Prop :=
  (env.kindOf x = some .local ∧ m x = some u) ∨ ((env.kindOf x = some .cell ∨ env.kindOf x = some .free) ∧ ∃ c, env.cells.lookup x = some c ∧ h.IsCell c (some u))

structure Cx.Ok (X : Cx) : Prop where
  mod : Mod X.K X.mg X.base
  kind : X.env.scope.kind = .function
  glob : X.env.globals = mainGlobals
  blt : X.env.builtins = builtinsNs
  above : X.s₀.heap.objs.size ≤ X.env.locals
  inj : ∀ x y c, X.env.cells.lookup x = some c → X.env.cells.lookup y = some c → x = y
  has : ∀ x, (X.env.kindOf x = some .cell ∨ X.env.kindOf x = some .free) → ∃ c, X.env.cells.lookup x = some c
  cab : ∀ x c, X.fn x = true → X.env.cells.lookup x = some c → X.s₀.heap.objs.size ≤ c
  hd : X.calm = true → X.A.handled = none
  frames : X.A.frames = some X.stack
  stk : X.stack = X.outer ∨ (X.stack = X.env :: X.outer ∧ X.env.frame = some X.env.locals)
  exf : ∀ b ∈ X.ex, b ≠ X.env.locals ∧ ∀ x c, X.env.cells.lookup x = some c → c ≠ b
  bs : ∀ b o, X.base.get? b = some o → X.s₀.heap.get? b = some o ∧ X.H₀ b = none
  bsz : X.base.objs.size ≤ X.s₀.heap.objs.size
  noex : ∀ b o, X.base.get? b = some o → b ∉ X.ex
  exfs : ∀ b ∈ X.ex, b ∉ X.fs
  funs : X.s₀.heap.FunFrames X.base X.outer
  frf : ∀ b ∈ X.fs, X.H₀ b = none

structure Inv (X : Cx) (pins : List (Addr × Obj)) (σ : List (Option V)) (H : Hp) (s : Shared) : Prop where
  ok : X.Ok
  os : s.os = X.s₀.os
  bare : AllBare s.gens
  base : Un X.fs X.ex X.H₀ H X.s₀.heap s.heap
  loc : ∃ m, s.heap.Ns X.env.locals m ∧ ∀ (i : Nat) (x : Str) (v : V), X.N[i]? = some x → σ[i]? = some (some v) → Vis X.env.scope x → ∃ u, RelV v u ∧ Look X.env s.heap m x u
  cell : ∀ x c, X.env.cells.lookup x = some c → ∃ v, s.heap.IsCell c v
  free : H X.env.locals = none
  freeC : ∀ x c, X.env.cells.lookup x = some c → H c = none
  pin : ∀ p ∈ X.pn ++ pins, s.heap.get? p.1 = some p.2 ∧ H p.1 = none ∧ p.1 ≠ X.env.locals ∧ p.1 ∉ X.fs ∧ ∀ v, p.2.data ≠ .cell v
  hok : HOk X.prog X.w H s.heap
  len : σ.length = X.N.length

section
variable {X : Cx} {pins : List (Addr × Obj)} {σ : List (Option V)} {H H' : Hp} {s : Shared} {h' : Heap}

theorem Cx.Ok.nofr (ok : X.Ok) {b : Addr} {o : Obj} (e : X.base.get? b = some o) : b ∉ X.fs := fun hb => by
  have := (ok.funs.mem hb).1
  rw [e] at this; cases this
theorem Inv.bs (I : Inv X pins σ H s) : ∀ b o, X.base.get? b = some o → s.heap.get? b = some o ∧ H b = none := fun b o e =>
  ⟨I.base.keep b o (I.ok.bs b o e).1 (I.ok.bs b o e).2 (I.ok.nofr e) (I.ok.noex b o e), I.base.free b o (I.ok.bs b o e).1 (I.ok.bs b o e).2 (I.ok.noex b o e)⟩
theorem Inv.bk (I : Inv X pins σ H s) : ∀ b o, X.base.get? b = some o → s.heap.get? b = some o := fun b o e => (I.bs b o e).1
theorem Inv.mod (I : Inv X pins σ H s) : Mod X.K X.mg X.base := I.ok.mod
theorem Inv.kIn (I : Inv X pins σ H s) : X.K.In s.heap := I.ok.mod.kin.keeps I.bk
theorem Inv.nolimit (I : Inv X pins σ H s) : s.heap.NoLimit := I.ok.mod.nolimit.keeps I.bk
/-- the frame over the base: for OpenK's rules (K.In X.base is I.mod.kin) -/
theorem Inv.fr (I : Inv X pins σ H s) : ∃ m, Fr X.base X.env.locals s.heap m :=
  let ⟨m, hn, _⟩ := I.loc
  ⟨m, hn, I.bk, Nat.le_trans I.ok.bsz I.ok.above⟩
theorem Inv.lt (I : Inv X pins σ H s) : X.env.locals < s.heap.objs.size := let ⟨_, hn, _⟩ := I.loc; hn.lt
theorem Inv.sz (I : Inv X pins σ H s) : X.s₀.heap.objs.size ≤ s.heap.objs.size := Nat.le_trans I.ok.above (Nat.le_of_lt I.lt)
theorem Inv.nofs (I : Inv X pins σ H s) {a : Addr} (h : s.heap.objs.size ≤ a) : a ∉ X.fs := fun hb => by
  obtain ⟨_, o, ho, _⟩ := I.ok.funs.mem hb
  exact absurd (Nat.lt_of_lt_of_le (Heap.lt_size ho) (Nat.le_trans I.sz h)) (Nat.lt_irrefl _)
theorem Inv.cne (I : Inv X pins σ H s) : ∀ x c, X.env.cells.lookup x = some c → c ≠ X.env.locals := fun x c e z => by
  obtain ⟨v, o, ho, hd⟩ := I.cell x c e
  obtain ⟨m, ⟨o', es, ep, ho', hd', _⟩, _⟩ := I.loc
  rw [z, ho'] at ho; cases ho; rw [hd'] at hd; cases hd
theorem Inv.funs (I : Inv X pins σ H s) : s.heap.FunFrames X.base X.outer := by
  have all : ∀ (l : List Env), (∀ b ∈ frs l, b ∈ X.fs) → X.s₀.heap.FunFrames X.base l → s.heap.FunFrames X.base l := by
    intro l
    induction l with
    | nil => intro _ _; trivial
    | cons env r ih =>
      intro hs hl
      obtain ⟨hk, ⟨L, o, hf, hn, ho, hd⟩, hr⟩ := hl
      have hL : L ∈ X.fs := hs L (by unfold frs; rw [List.filterMap_cons, hf]; exact List.mem_cons_self)
      obtain ⟨sl, e⟩ := I.base.slot L o ho (I.ok.frf L hL) hL fun z => I.ok.exfs L z hL
      exact ⟨hk, ⟨L, _, hf, hn, e, hd⟩, ih (fun b hb => hs b (by unfold frs; rw [List.filterMap_cons, hf]; exact List.mem_cons_of_mem _ hb)) hr⟩
  exact all X.outer (fun _ hb => hb) I.ok.funs

/-- the frames that run, for a call -/
theorem Inv.stack (I : Inv X pins σ H s) : s.heap.FunFrames X.base X.stack := by
  rcases I.ok.stk with e | ⟨e, hf⟩
  · rw [e]; exact I.funs
  · rw [e]
    obtain ⟨m, hn, _⟩ := I.loc
    refine .cons (by rw [I.ok.kind]; decide) hf hn ?_ I.funs
    exact Heap.get?_none_of_le (Nat.le_trans I.ok.bsz I.ok.above)
theorem Inv.stkSub (I : Inv X pins σ H s) : ∀ b ∈ frs X.stack, b ∈ X.env.locals :: X.fs := fun b hb => by
  rcases I.ok.stk with e | ⟨e, hf⟩
  · rw [e] at hb; exact List.mem_cons_of_mem _ hb
  · rw [e] at hb
    unfold frs at hb
    rw [List.filterMap_cons, hf] at hb
    exact hb
theorem Inv.stkFree (I : Inv X pins σ H s) : ∀ b ∈ frs X.stack, H b = none := fun b hb => by
  rcases List.mem_cons.mp (I.stkSub b hb) with e | hb
  · rw [e]; exact I.free
  · obtain ⟨_, o, ho, _⟩ := I.ok.funs.mem hb
    exact I.base.free b o ho (I.ok.frf b hb) fun z => I.ok.exfs b z hb

/-- THE STEP: the untracked objects but the frame and the records at ch are kept (the callers' frames up to slots), the frame's map is kept, the new abstract heap is held -/
theorem Inv.step {g' : Array GenState} {t' : Nat} {d' : Drawn} {ch : List Addr} (I : Inv X pins σ H s)
    (hch : ∀ b ∈ ch, (b ∈ X.ex ∨ X.s₀.heap.objs.size ≤ b) ∧ b ≠ X.env.locals ∧ (∀ x c, X.env.cells.lookup x = some c → c ≠ b) ∧ ∀ p ∈ X.pn ++ pins, p.1 ≠ b)
    (keep : ∀ b o, b ≠ X.env.locals → b ∉ X.fs → b ∉ ch → s.heap.get? b = some o → H b = none → h'.get? b = some o)
    (slot : ∀ b o, b ≠ X.env.locals → b ∈ X.fs → b ∉ ch → s.heap.get? b = some o → H b = none → ∃ sl, h'.get? b = some { o with slots := sl }) (free : ∀ b o, b ∉ ch → s.heap.get? b = some o → H b = none → H' b = none)
    (there : ∀ b o, b ∉ ch → s.heap.get? b = some o → ∃ o', h'.get? b = some o')
    (tups : ∀ b xs, H b = some (.tup xs) → H' b = some (.tup xs)) (frzs : ∀ b o u, H b = some (.frz o u) → H' b = some (.frz o u)) (tbls : ∀ b ps, H b = some (.tbl ps) → ∃ more, H' b = some (.tbl (ps ++ more)))
    (ns : ∀ m, s.heap.Ns X.env.locals m → h'.Ns X.env.locals m) (hok : HOk X.prog X.w H' h') (hg : AllBare g') :
    Inv X pins σ H' { s with heap := h', gens := g', drawn := d', toks := t' } := by
  have neL : ∀ b o, X.s₀.heap.get? b = some o → b ≠ X.env.locals := fun b o e => Nat.ne_of_lt (Nat.lt_of_lt_of_le (Heap.lt_size e) I.ok.above)
  have neC : ∀ b o, X.s₀.heap.get? b = some o → b ∉ X.ex → b ∉ ch := fun b o e hx hb => by
    rcases (hch b hb).1 with z | z
    · exact hx z
    · exact absurd (Nat.lt_of_lt_of_le (Heap.lt_size e) z) (Nat.lt_irrefl _)
  have cellK : ∀ x c, X.env.cells.lookup x = some c → ∀ v, s.heap.IsCell c v → h'.IsCell c v := fun x c e v ⟨o, ho, hd⟩ => by
    have nch : c ∉ ch := fun z => (hch c z).2.2.1 x c e rfl
    by_cases hc : c ∈ X.fs
    · obtain ⟨sl, q⟩ := slot c o (I.cne x c e) hc nch ho (I.freeC x c e)
      exact ⟨_, q, hd⟩
    · exact ⟨o, keep c o (I.cne x c e) hc nch ho (I.freeC x c e), hd⟩
  refine ⟨I.ok, I.os, hg, ⟨fun b o e n hb hx => ?_, fun b o e n hb hx => ?_, fun b o e n hx => ?_, fun b o e hx => ?_, fun b xs e => tups b xs (I.base.tups b xs e), fun b o xs e => frzs b o xs (I.base.frzs b o xs e), fun b ps e => ?_⟩, ?_, fun x c e => ?_, ?_, fun x c e => ?_, fun p hp => ?_, hok, I.len⟩
  · exact keep b o (neL b o e) hb (neC b o e hx) (I.base.keep b o e n hb hx) (I.base.free b o e n hx)
  · obtain ⟨sl, e1⟩ := I.base.slot b o e n hb hx
    obtain ⟨sl', e2⟩ := slot b _ (neL b o e) hb (neC b o e hx) e1 (I.base.free b o e n hx)
    exact ⟨sl', e2⟩
  · obtain ⟨o', e1⟩ := I.base.there b o e hx
    exact free b o' (neC b o e hx) e1 (I.base.free b o e n hx)
  · obtain ⟨o', e1⟩ := I.base.there b o e hx
    exact there b o' (neC b o e hx) e1
  · obtain ⟨m1, e1⟩ := I.base.tbls b ps e
    obtain ⟨m2, e2⟩ := tbls b _ e1
    exact ⟨m1 ++ m2, by rw [e2, Array.append_assoc]⟩
  · obtain ⟨m, hn, hl⟩ := I.loc
    refine ⟨m, ns m hn, fun i x v e1 e2 e3 => ?_⟩
    obtain ⟨u, r, l⟩ := hl i x v e1 e2 e3
    refine ⟨u, r, ?_⟩
    rcases l with l | ⟨k, c, e, z⟩
    · exact .inl l
    · exact .inr ⟨k, c, e, cellK x c e _ z⟩
  · obtain ⟨v, z⟩ := I.cell x c e
    exact ⟨v, cellK x c e v z⟩
  · obtain ⟨m, ⟨o, _, _, ho, _⟩, _⟩ := I.loc
    exact free _ o (fun z => (hch _ z).2.1 rfl) ho I.free
  · obtain ⟨v, o, ho, hd⟩ := I.cell x c e
    exact free c o (fun z => (hch c z).2.2.1 x c e rfl) ho (I.freeC x c e)
  · obtain ⟨e, n, ne, nf, d⟩ := I.pin p hp
    have nch : p.1 ∉ ch := fun z => (hch p.1 z).2.2.2 p hp rfl
    exact ⟨keep p.1 p.2 ne nf nch e n, free p.1 p.2 nch e n, ne, nf, d⟩
/-- .. where the frame's own object is kept too -/
theorem Inv.un {t' : Nat} (I : Inv X pins σ H s) (u : Un X.fs [] H H' s.heap h') (hok : HOk X.prog X.w H' h') : Inv X pins σ H' { s with heap := h', toks := t' } := by
  obtain ⟨m, ⟨o, es, ep, ho, r⟩, _⟩ := id I.loc
  obtain ⟨sl, hL⟩ := u.any ho I.free (by simp)
  exact I.step (g' := s.gens) (d' := s.drawn) (ch := []) (fun _ z => nomatch z) (fun b o _ hb _ e n => u.keep b o e n hb (by simp)) (fun b o _ hb _ e n => u.slot b o e n hb (by simp)) (fun b o _ e n => u.free b o e n (by simp)) (fun b o _ e => u.there b o e (by simp)) u.tups u.frzs u.tbls (fun m' hm => by
    obtain ⟨o', es', ep', ho', r'⟩ := hm
    rw [ho] at ho'; cases ho'
    exact ⟨_, es', ep', hL, r'⟩) hok I.bare
/-- behind a call (or a comprehension's block): the slots of this frame may have changed too, the records at ch may have turned -/
theorem Inv.call {g' : Array GenState} {t' : Nat} {d' : Drawn} {ch : List Addr} (I : Inv X pins σ H s) (u : Un (frs X.stack) ch H H' s.heap h') (hok : HOk X.prog X.w H' h') (hg : AllBare g')
    (hch : ∀ b ∈ ch, (b ∈ X.ex ∨ X.s₀.heap.objs.size ≤ b) ∧ b ≠ X.env.locals ∧ (∀ x c, X.env.cells.lookup x = some c → c ≠ b) ∧ ∀ p ∈ X.pn ++ pins, p.1 ≠ b) :
    Inv X pins σ H' { s with heap := h', gens := g', drawn := d', toks := t' } := by
  obtain ⟨m, ⟨o, es, ep, ho, r⟩, _⟩ := id I.loc
  obtain ⟨sl, hL⟩ := u.any ho I.free fun z => (hch _ z).2.1 rfl
  exact I.step (ch := ch) hch (fun b o hL hb hc e n => u.keep b o e n (fun z => (List.mem_cons.mp (I.stkSub b z)).elim hL hb) hc) (fun b o _ _ hc e n => u.any e n hc) (fun b o hc e n => u.free b o e n hc) (fun b o hc e => u.there b o e hc) u.tups u.frzs u.tbls (fun m' hm => by
    obtain ⟨o', es', ep', ho', r'⟩ := hm
    rw [ho] at ho'; cases ho'
    exact ⟨_, es', ep', hL, r'⟩) hok hg
/-- an untracked record of ours (an iterator) has turned -/
theorem Inv.turned {t' : Nat} {it : Addr} (I : Inv X pins σ H s) (k : ∀ b o, b ≠ it → s.heap.get? b = some o → h'.get? b = some o) (hn : H it = none) (hL : it ≠ X.env.locals)
    (h1 : it ∈ X.ex ∨ X.s₀.heap.objs.size ≤ it) (h2 : ∀ x c, X.env.cells.lookup x = some c → c ≠ it) (h3 : ∀ p ∈ X.pn ++ pins, p.1 ≠ it) : Inv X pins σ H { s with heap := h', toks := t' } := by
  have nit : ∀ b u, H b = some u → b ≠ it := fun b u e z => by rw [z, hn] at e; cases e
  refine I.step (g' := s.gens) (d' := s.drawn) (ch := [it]) (fun b hb => ?_) (fun b o _ _ hc e _ => k b o (fun z => hc (by simp [z])) e) (fun b o _ _ hc e _ => ⟨o.slots, k b o (fun z => hc (by simp [z])) e⟩) (fun _ _ _ _ n => n)
    (fun b o hc e => ⟨o, k b o (fun z => hc (by simp [z])) e⟩) (fun _ _ e => e) (fun _ _ _ e => e) (fun b ps e => ⟨#[], by rw [e]; simp⟩) (fun m hm => ?_) (fun b u e => ?_) I.bare
  · have e : b = it := by simpa using hb
    subst e
    exact ⟨h1, hL, h2, h3⟩
  · obtain ⟨o, es, ep, ho, r⟩ := hm
    exact ⟨o, es, ep, k _ o (Ne.symm hL) ho, r⟩
  · refine (I.hok b u e).stay (fun c v hc q => k c v ?_ q) (fun _ q => q) fun _ _ q => q
    rcases hc with z | z
    · rw [z]; exact nit b u e
    · exact nit c _ z
theorem Inv.tok (I : Inv X pins σ H s) (t : Nat) : Inv X pins σ H { s with toks := t } := I.un (h' := s.heap) (t' := t) Un.refl I.hok
/-- all objects kept -/
theorem Inv.kept {t' : Nat} (I : Inv X pins σ H s) (k : ∀ b u, s.heap.get? b = some u → h'.get? b = some u) : Inv X pins σ H { s with heap := h', toks := t' } := I.un (Un.kept k) (I.hok.kept k)
/-- a new object laid and tracked -/
theorem Inv.laid {a : Addr} {o : HO} {t' : Nat} (I : Inv X pins σ H s) (k : ∀ b u, s.heap.get? b = some u → h'.get? b = some u) (hp : s.heap.objs.size ≤ a) (new : ObjOk X.prog X.w (upd H a o) h' a o) :
    Inv X pins σ (upd H a o) { s with heap := h', toks := t' } := I.un (Un.laid k hp (I.hok.fresh hp)) (I.hok.laid k hp new)
/-- an object written -/
theorem Inv.write {x e : Addr} {o : HO} {t' : Nat} (I : Inv X pins σ H s) (mu : Mut (H x)) (he : e = x ∨ H e = some (.own x)) (k : ∀ b u, b ≠ e → s.heap.get? b = some u → h'.get? b = some u) (heo : ∃ u, h'.get? e = some u)
    (new : ObjOk X.prog X.w (upd H x o) h' x o) : Inv X pins σ (upd H x o) { s with heap := h', toks := t' } := I.un (Un.write mu he k heo) (I.hok.write mu he k heo new)
/-- forgetting slots, pins -/
theorem Inv.weak {σ' : List (Option V)} (I : Inv X pins σ H s) (hl : σ'.length = σ.length) (w : ∀ (i : Nat) v, σ'[i]? = some (some v) → σ[i]? = some (some v)) : Inv X pins σ' H s :=
  ⟨I.ok, I.os, I.bare, I.base, let ⟨m, hn, hl'⟩ := I.loc; ⟨m, hn, fun i x v e1 e2 e3 => hl' i x v e1 (w i v e2) e3⟩, I.cell, I.free, I.freeC, I.pin, I.hok, hl.trans I.len⟩
theorem Inv.pins_of {pins' : List (Addr × Obj)} (I : Inv X pins σ H s) (h : ∀ p ∈ pins', s.heap.get? p.1 = some p.2 ∧ H p.1 = none ∧ p.1 ≠ X.env.locals ∧ p.1 ∉ X.fs ∧ ∀ v, p.2.data ≠ .cell v) : Inv X pins' σ H s :=
  ⟨I.ok, I.os, I.bare, I.base, I.loc, I.cell, I.free, I.freeC, fun p hp => (List.mem_append.mp hp).elim (fun z => I.pin p (List.mem_append_left _ z)) (h p), I.hok, I.len⟩

theorem nodup_ix {N : List Str} (hN : N.Nodup) {i j : Nat} {x : Str} (a : N[i]? = some x) (b : N[j]? = some x) : i = j := by
  obtain ⟨h1, e1⟩ := List.getElem?_eq_some_iff.mp a
  obtain ⟨h2, e2⟩ := List.getElem?_eq_some_iff.mp b
  exact (List.getElem_inj hN).mp (e1.trans e2.symm)

/-- a name is stored; what changed -/
theorem store_ok2 {M : Model} {A : Around} {E : Value → Shared → Prop} {i : Nat} {x : Str} {v : V} {u : Value} {Q : Unit → Shared → Prop} (I : Inv X pins σ H s) (hN : X.N.Nodup) (hi : X.N[i]? = some x) (hx : Loc X.env.scope x) (r : RelV v u)
    (h : ∀ s', Inv X pins (σ.set i (some v)) H s' → (∃ a, Heap.SameBut a s.heap s'.heap ∧ (a = X.env.locals ∨ X.env.cells.lookup x = some a)) → Q () s') (hf : X.fn x = true ∨ X.env.scope.names.lookup x = some .local := by first | exact .inl rfl | exact .inr rfl | assumption) : wpAny M A (storeName X.env x u) Q E s := by
  obtain ⟨m, hn, hl⟩ := id I.loc
  have hcls : (X.env.scope.kind == .class || (X.env.scope.kind == .module && X.env.locals != X.env.globals)) = false := by rw [I.ok.kind]; rfl
  have hiσ : i < σ.length := by rw [I.len]; exact (List.getElem?_eq_some_iff.mp hi).1
  have cne := I.cne
  have tracked : ∀ {a : Addr} {h' : Heap}, (∃ o, s.heap.get? a = some o ∧ H a = none) → Heap.SameBut a s.heap h' → HOk X.prog X.w H h' := fun {a h'} ha hs b ob e => by
    obtain ⟨_, _, hfree⟩ := ha
    refine (I.hok b ob e).stay (fun c w' hc q => (hs.2 c ?_).trans q) (fun _ q => q) fun _ _ q => q
    rintro rfl
    rcases hc with rfl | hc
    · rw [hfree] at e; cases e
    · rw [hfree] at hc; cases hc
  rcases hx with hk | hk
  · refine wpAny_storeName_local hk hn (fun h' hn' hs => ?_) hcls
    obtain ⟨oL, _, _, hoL, _⟩ := id hn
    refine h _ ⟨I.ok, I.os, I.bare, ⟨fun b o e n hb hx => ?_, fun b o e n hb hx => ?_, I.base.free, fun b o e hx => ?_, I.base.tups, I.base.frzs, I.base.tbls⟩, ⟨_, hn', fun j y v' e1 e2 e3 => ?_⟩, fun y c e => ?_, I.free, I.freeC, fun p hp => ?_, tracked ⟨oL, hoL, I.free⟩ hs, by simpa using I.len⟩ ⟨_, hs, .inl rfl⟩
    · exact (hs.2 b (Nat.ne_of_lt (Nat.lt_of_lt_of_le (Heap.lt_size e) I.ok.above))).trans (I.base.keep b o e n hb hx)
    · obtain ⟨sl, e1⟩ := I.base.slot b o e n hb hx
      exact ⟨sl, (hs.2 b (Nat.ne_of_lt (Nat.lt_of_lt_of_le (Heap.lt_size e) I.ok.above))).trans e1⟩
    · obtain ⟨o', e1⟩ := I.base.there b o e hx
      exact ⟨o', (hs.2 b (Nat.ne_of_lt (Nat.lt_of_lt_of_le (Heap.lt_size e) I.ok.above))).trans e1⟩
    · by_cases hj : j = i
      · subst hj
        rw [hi] at e1; cases e1
        rw [List.getElem?_set_self hiσ] at e2
        cases e2
        exact ⟨u, r, .inl ⟨hk, by simp⟩⟩
      · rw [List.getElem?_set_ne (Ne.symm hj)] at e2
        obtain ⟨u', r', q⟩ := hl j y v' e1 e2 e3
        refine ⟨u', r', ?_⟩
        rcases q with ⟨k, e⟩ | ⟨k, c, e, z⟩
        · refine .inl ⟨k, ?_⟩
          have : y ≠ x := fun e => hj (nodup_ix hN e1 (e ▸ hi))
          simp [this, e]
        · exact .inr ⟨k, c, e, z.sameBut hs (cne y c e)⟩
    · obtain ⟨w', z⟩ := I.cell y c e
      exact ⟨w', z.sameBut hs (cne y c e)⟩
    · obtain ⟨e, n, ne, nf, d⟩ := I.pin p hp
      exact ⟨(hs.2 p.1 ne).trans e, n, ne, nf, d⟩
  · have hfn : X.fn x = true := by
      rcases hf with z | z
      · exact z
      · rw [z] at hk; cases hk
    obtain ⟨c, hc⟩ := I.ok.has x (.inl hk)
    obtain ⟨w', z⟩ := I.cell x c hc
    refine wpAny_storeName_cell I.ok.kind hk hc z (fun h' hc' hs => ?_)
    obtain ⟨oc, hoc, hocd⟩ := id z
    refine h { s with heap := h' } ⟨I.ok, I.os, I.bare, ⟨fun b o e n hb hx => ?_, fun b o e n hb hx => ?_, I.base.free, fun b o e hx => ?_, I.base.tups, I.base.frzs, I.base.tbls⟩, ⟨m, hn.sameBut hs (Ne.symm (cne x c hc)), fun j y v' e1 e2 e3 => ?_⟩, fun y c' e => ?_, I.free, I.freeC, fun p hp => ?_, tracked ⟨oc, hoc, I.freeC x c hc⟩ hs, by simpa using I.len⟩ ⟨c, hs, .inr hc⟩
    · exact (hs.2 b (Nat.ne_of_lt (Nat.lt_of_lt_of_le (Heap.lt_size e) (I.ok.cab x c hfn hc)))).trans (I.base.keep b o e n hb hx)
    · obtain ⟨sl, e1⟩ := I.base.slot b o e n hb hx
      exact ⟨sl, (hs.2 b (Nat.ne_of_lt (Nat.lt_of_lt_of_le (Heap.lt_size e) (I.ok.cab x c hfn hc)))).trans e1⟩
    · obtain ⟨o', e1⟩ := I.base.there b o e hx
      exact ⟨o', (hs.2 b (Nat.ne_of_lt (Nat.lt_of_lt_of_le (Heap.lt_size e) (I.ok.cab x c hfn hc)))).trans e1⟩
    · by_cases hj : j = i
      · subst hj
        rw [hi] at e1; cases e1
        rw [List.getElem?_set_self hiσ] at e2
        cases e2
        exact ⟨u, r, .inr ⟨.inl hk, c, hc, hc'⟩⟩
      · rw [List.getElem?_set_ne (Ne.symm hj)] at e2
        obtain ⟨u', r', q⟩ := hl j y v' e1 e2 e3
        refine ⟨u', r', ?_⟩
        rcases q with q | ⟨k, c', e, z'⟩
        · exact .inl q
        · refine .inr ⟨k, c', e, z'.sameBut hs ?_⟩
          rintro rfl
          exact hj (nodup_ix hN e1 (I.ok.inj _ _ _ e hc ▸ hi))
    · by_cases hcc : c' = c
      · subst hcc; exact ⟨_, hc'⟩
      · obtain ⟨w2, z2⟩ := I.cell y c' e
        exact ⟨w2, z2.sameBut hs hcc⟩
    · obtain ⟨e, n, ne, nf, d⟩ := I.pin p hp
      refine ⟨(hs.2 p.1 ?_).trans e, n, ne, nf, d⟩
      intro q
      rw [q, hoc] at e
      have q' : oc = p.2 := Option.some.inj e
      exact d w' (by rw [← q']; exact hocd)
theorem store_ok {M : Model} {A : Around} {E : Value → Shared → Prop} {i : Nat} {x : Str} {v : V} {u : Value} {Q : Unit → Shared → Prop} (I : Inv X pins σ H s) (hN : X.N.Nodup) (hi : X.N[i]? = some x) (hx : Loc X.env.scope x) (r : RelV v u)
    (h : ∀ s', Inv X pins (σ.set i (some v)) H s' → Q () s') (hf : X.fn x = true ∨ X.env.scope.names.lookup x = some .local := by first | exact .inl rfl | exact .inr rfl | assumption) : wpAny M A (storeName X.env x u) Q E s :=
  store_ok2 I hN hi hx r (fun s' I' _ => h s' I') hf
/-- behind a call or a block, the state as it is -/
theorem Inv.call' {s' : Shared} {ch : List Addr} (I : Inv X pins σ H s) (ho : s'.os = s.os) (u : Un (frs X.stack) ch H H' s.heap s'.heap) (hok : HOk X.prog X.w H' s'.heap) (hg : AllBare s'.gens)
    (hch : ∀ b ∈ ch, (b ∈ X.ex ∨ X.s₀.heap.objs.size ≤ b) ∧ b ≠ X.env.locals ∧ (∀ x c, X.env.cells.lookup x = some c → c ≠ b) ∧ ∀ p ∈ X.pn ++ pins, p.1 ≠ b) : Inv X pins σ H' s' := by
  obtain ⟨h', g', d', t', o'⟩ := s'
  have e : o' = s.os := ho
  subst e
  exact I.call (g' := g') (t' := t') (d' := d') u hok hg hch
end

/-! ### the judgements -/
/-- an exception: its class, its own dict's address (where it has one), the abstract heap behind it -/
abbrev XK := Value → Option Addr → Hp → Prop
abbrev St := List (Option V)
abbrev VK := V → Hp → Prop
/-- an expression's reading; a test's; an argument list's -/
abbrev TE := St → Hp → VK → Prop
abbrev TT := St → Hp → (Bool → Hp → Prop) → Prop
abbrev TA := St → Hp → (List V → Hp → Prop) → Prop
/-- what is wanted behind a statement -/
structure Ends where
  nx : St → Hp → Prop
  rt : VK
  bk : St → Hp → Prop := fun _ _ => False
  ct : St → Hp → Prop := fun _ _ => False
abbrev TS := Ends → St → Hp → Prop

def EP (X : Cx) (pins : List (Addr × Obj)) (σ : St) (Q : VK) (u : Value) (s' : Shared) : Prop := ∃ v H', Inv X pins σ H' s' ∧ RelV v u ∧ Q v H'
def TP (X : Cx) (pins : List (Addr × Obj)) (σ : St) (Q : Bool → Hp → Prop) (b : Bool) (s' : Shared) : Prop := ∃ H', Inv X pins σ H' s' ∧ Q b H'
def AP (X : Cx) (pins : List (Addr × Obj)) (σ : St) (Q : List V → Hp → Prop) (us : List Value) (s' : Shared) : Prop := ∃ vs H', Inv X pins σ H' s' ∧ Vals vs us ∧ Q vs H'
def SP (X : Cx) (pins : List (Addr × Obj)) (D : Ends) (f : Flow) (s' : Shared) : Prop :=
  match f with
  | .next => ∃ σ' H', Inv X pins σ' H' s' ∧ D.nx σ' H'
  | .brk => ∃ σ' H', Inv X pins σ' H' s' ∧ D.bk σ' H'
  | .cont => ∃ σ' H', Inv X pins σ' H' s' ∧ D.ct σ' H'
  | .ret u => ∃ v σ' H', Inv X pins σ' H' s' ∧ RelV v u ∧ D.rt v H'

def PE (X : Cx) (e : Expr) (t : TE) : Prop :=
  ∀ (pins : List (Addr × Obj)) (s : Shared) (σ : St) (H : Hp) (Q : VK), Inv X pins σ H s → t σ H Q → wpAny (model X.prog X.w) X.A (eval e X.env) (EP X pins σ Q) X.xe s
def PT (X : Cx) (e : Expr) (t : TT) : Prop :=
  ∀ (pins : List (Addr × Obj)) (s : Shared) (σ : St) (H : Hp) (Q : Bool → Hp → Prop), Inv X pins σ H s → t σ H Q → wpAny (model X.prog X.w) X.A (isTrue e X.env (eval e X.env)) (TP X pins σ Q) X.xe s
/-- a test whatever its 'whole' is (and, or) -/
def PW (X : Cx) (e : Expr) (t : TT) : Prop :=
  ∀ (whole : Sem Value) (pins : List (Addr × Obj)) (s : Shared) (σ : St) (H : Hp) (Q : Bool → Hp → Prop), Inv X pins σ H s → t σ H Q → wpAny (model X.prog X.w) X.A (isTrue e X.env whole) (TP X pins σ Q) X.xe s
theorem PW.pt {X : Cx} {e : Expr} {t : TT} (h : PW X e t) : PT X e t := h _
/-- an argument list (no star), from the left -/
def PA (X : Cx) (es : List Expr) (t : TA) : Prop :=
  ∀ (pos : Pos) (pins : List (Addr × Obj)) (s : Shared) (σ : St) (H : Hp) (Q : List V → Hp → Prop), Inv X pins σ H s → t σ H Q → wpAny (model X.prog X.w) X.A (spliced (backTo pos (starEach es X.env))) (AP X pins σ Q) X.xe s
def PS (X : Cx) (st : Stmt) (t : TS) : Prop :=
  ∀ (pins : List (Addr × Obj)) (s : Shared) (σ : St) (H : Hp) (D : Ends), Inv X pins σ H s → t D σ H → wpAny (model X.prog X.w) X.A (exec st X.env) (SP X pins D) X.xe s
def PSs (X : Cx) (st : List Stmt) (t : TS) : Prop :=
  ∀ (pins : List (Addr × Obj)) (s : Shared) (σ : St) (H : Hp) (D : Ends), Inv X pins σ H s → t D σ H → wpAny (model X.prog X.w) X.A (execs st X.env) (SP X pins D) X.xe s
/-- weaken the end -/
theorem thn {α : Type} {t : Sem α} {Q Q' : α → Shared → Prop} {M : Model} {A : Around} {E : Value → Shared → Prop} {s : Shared} (h : wpAny M A t Q E s) (hQ : ∀ a s, Q a s → Q' a s) : wpAny M A t Q' E s := wpAny_mono h hQ fun _ _ x => x
end L2

namespace L2
open PySem PySem.Spec PyProof.Rows
section
variable {X : Cx}

/-- two expressions in a row -/
theorem bin {a b : Expr} {ta tb : TE} (ha : PE X a ta) (hb : PE X b tb) {pins : List (Addr × Obj)} {s : Shared} {σ : St} {H : Hp} {R : V → V → Hp → Prop} (I : Inv X pins σ H s) (h : ta σ H fun x H1 => tb σ H1 fun y H2 => R x y H2)
    {α : Type} {Q : α → Shared → Prop} {f : Value → Value → Sem α}
    (hf : ∀ v u s2 x y H2, Inv X pins σ H2 s2 → RelV x v → RelV y u → R x y H2 → wpAny (model X.prog X.w) X.A (f v u) Q X.xe s2) :
    wpAny (model X.prog X.w) X.A (eval a X.env) (fun v s₁ => wpAny (model X.prog X.w) X.A (eval b X.env) (fun u s₂ => wpAny (model X.prog X.w) X.A (f v u) Q X.xe s₂) X.xe s₁) X.xe s := by
  refine thn (ha pins s σ H _ I h) fun v s1 ⟨x, H1, I1, r1, q1⟩ => ?_
  refine thn (hb pins s1 σ H1 _ I1 q1) fun u s2 ⟨y, H2, I2, r2, q2⟩ => ?_
  exact hf v u s2 x y H2 I2 r1 r2 q2

/-! ### names and constants -/
def tVar (i : Nat) : TE := fun σ H Q => ∃ v, σ[i]? = some (some v) ∧ Q v H
def tC (v : V) : TE := fun _ H Q => Q v H
theorem pe_var {i : Nat} {x : Str} {pos : Pos} (hN : X.N[i]? = some x) (hv : Vis X.env.scope x) (hd : (x == ("__debug__" : Str)) = false := by decide) (hcd : (x == ("__classdict__" : Str)) = false := by decide) : PE X (.Name x pos) (tVar i) := by
  intro pins s σ H Q I h
  obtain ⟨v, e, h⟩ := h
  obtain ⟨m, hn, hl⟩ := I.loc
  obtain ⟨u, r, l⟩ := hl i x v hN e hv
  have fin : EP X pins σ Q u s := ⟨v, H, I, r, h⟩
  rcases l with ⟨hk, hm⟩ | ⟨hk, c, hc, hcell⟩
  · exact wpAny_Name (wpAny_loadName_local I.ok.kind hk hn hm fin) hd
  · rcases hk with hk | hk
    · exact wpAny_Name (wpAny_loadName_cell I.ok.kind hk hc hcell fin) hd
    · exact wpAny_Name (wpAny_loadName_free I.ok.kind hk hc hcell fin hcd) hd
theorem pe_int {i j pos} : PE X (.Constant (.int i) j pos) (tC (.int i)) := fun _ _ _ H _ I h => wpAny_Constant_int ⟨.int i, H, I.tok _, ⟨_, rfl⟩, h⟩
theorem pe_bl {b j pos} : PE X (.Constant (.bool b) j pos) (tC (.bl b)) := fun _ _ _ H _ I h => Constant_bool ⟨.bl b, H, I, rfl, h⟩
theorem pe_non {j pos} : PE X (.Constant .none j pos) (tC .non) := fun _ _ _ H _ I h => Constant_none ⟨.non, H, I, rfl, h⟩
theorem pe_str {x j pos} : PE X (.Constant (.str x) j pos) (tC (.str x)) := fun _ _ _ H _ I h => Calls.Constant_str ⟨.str x, H, I.tok _, ⟨_, rfl⟩, h⟩

/-- a global name of the def -/
def Gl (X : Cx) (x : Str) : Prop := X.env.kindOf x = some .globalImplicit
theorem ld_glob {E : Value → Shared → Prop} {pins : List (Addr × Obj)} {s : Shared} {σ : St} {H : Hp} {x : Str} {u : Value} {pos : Pos} {Q : Value → Shared → Prop} (I : Inv X pins σ H s) (hg : Gl X x) (hm : X.mg x = some u) (h : Q u s)
    (hd : (x == ("__debug__" : Str)) = false := by decide) : wpAny (model X.prog X.w) X.A (eval (.Name x pos) X.env) Q E s :=
  Calls.Name_function_global I.ok.kind hg (Calls.loadGlobal_global (by rw [I.ok.glob]; exact I.mod.glob.keeps I.bk) hm h) hd
theorem ld_blt {E : Value → Shared → Prop} {pins : List (Addr × Obj)} {s : Shared} {σ : St} {H : Hp} {x : Str} {u : Value} {pos : Pos} {Q : Value → Shared → Prop} (I : Inv X pins σ H s) (hg : Gl X x) (hm : X.mg x = none) (hv : bootBuiltins x = some u) (h : Q u s)
    (hn : x ≠ "__name__" := by decide) (hd : (x == ("__debug__" : Str)) = false := by decide) : wpAny (model X.prog X.w) X.A (eval (.Name x pos) X.env) Q E s := by
  obtain ⟨mb, h1, h2⟩ := I.mod.blt
  exact Calls.Name_function_global I.ok.kind hg (Calls.loadGlobal_builtin (by rw [I.ok.glob]; exact I.mod.glob.keeps I.bk) hm (by rw [I.ok.blt]; exact h1.keeps I.bk) ((h2 x hn).trans hv) h) hd
/-- a module's constant, a class, a function, as a value -/
theorem pe_glob {x : Str} {v : V} {u : Value} {pos : Pos} (hg : Gl X x) (hm : X.mg x = some u) (r : RelV v u) (hd : (x == ("__debug__" : Str)) = false := by decide) : PE X (.Name x pos) (tC v) :=
  fun _ _ _ H _ I h => ld_glob I hg hm ⟨v, H, I, r, h⟩ hd
theorem pe_bltn {x : Str} {v : V} {u : Value} {pos : Pos} (hg : Gl X x) (hm : X.mg x = none) (hv : bootBuiltins x = some u) (r : RelV v u) (hn : x ≠ "__name__" := by decide) (hd : (x == ("__debug__" : Str)) = false := by decide) : PE X (.Name x pos) (tC v) :=
  fun _ _ _ H _ I h => ld_blt I hg hm hv ⟨v, H, I, r, h⟩ hn hd

/-! ### arithmetic -/
/-- two ints -/
def t2I (ta tb : TE) (k : Int → Int → Hp → Prop) : St → Hp → Prop := fun σ H => ta σ H fun x H1 => tb σ H1 fun y H2 => ∃ i j, x = .int i ∧ y = .int j ∧ k i j H2
def tAdd (ta tb : TE) : TE := fun σ H Q => t2I ta tb (fun i j H2 => Q (.int (i + j)) H2) σ H
def tSub (ta tb : TE) : TE := fun σ H Q => t2I ta tb (fun i j H2 => Q (.int (i - j)) H2) σ H
/-- the left factor below 2^64 -/
def tMul (ta tb : TE) : TE := fun σ H Q => t2I ta tb (fun i j H2 => (-(2 ^ 64) < i ∧ i < 2 ^ 64) ∧ Q (.int (i * j)) H2) σ H
variable {a b : Expr} {ta tb : TE} {pos : Pos}
theorem pe_add (ha : PE X a ta) (hb : PE X b tb) : PE X (.BinOp a .Add b pos) (tAdd ta tb) := by
  intro pins s σ H Q I h
  refine wpAny_BinOp (bin ha hb I h fun v u s2 x y H2 I2 rx ry q => ?_)
  obtain ⟨i, j, rfl, rfl, q⟩ := q
  obtain ⟨t, rfl⟩ := rx
  obtain ⟨t', rfl⟩ := ry
  exact add_int ⟨.int _, H2, I2.tok _, ⟨_, rfl⟩, q⟩
theorem pe_sub (ha : PE X a ta) (hb : PE X b tb) : PE X (.BinOp a .Sub b pos) (tSub ta tb) := by
  intro pins s σ H Q I h
  refine wpAny_BinOp (bin ha hb I h fun v u s2 x y H2 I2 rx ry q => ?_)
  obtain ⟨i, j, rfl, rfl, q⟩ := q
  obtain ⟨t, rfl⟩ := rx
  obtain ⟨t', rfl⟩ := ry
  exact sub_int ⟨.int _, H2, I2.tok _, ⟨_, rfl⟩, q⟩
theorem pe_mul (ha : PE X a ta) (hb : PE X b tb) : PE X (.BinOp a .Mult b pos) (tMul ta tb) := by
  intro pins s σ H Q I h
  refine wpAny_BinOp (bin ha hb I h fun v u s2 x y H2 I2 rx ry q => ?_)
  obtain ⟨i, j, rfl, rfl, ⟨q1, q2⟩, q⟩ := q
  obtain ⟨t, rfl⟩ := rx
  obtain ⟨t', rfl⟩ := ry
  exact mul_int ⟨.int _, H2, I2.tok _, ⟨_, rfl⟩, q⟩ (.of_left (intBits_le_64 q1 q2))

/-! ### comparisons -/
def PC (X : Cx) (op : CmpOp) (a b : Expr) (t : TE) : Prop :=
  ∀ (pins : List (Addr × Obj)) (s : Shared) (σ : St) (H : Hp) (Q : VK), Inv X pins σ H s → t σ H Q →
    wpAny (model X.prog X.w) X.A (eval a X.env) (fun v s₁ => wpAny (model X.prog X.w) X.A (eval b X.env) (fun u s₂ => wpAny (model X.prog X.w) X.A (compareOp op v u) (EP X pins σ Q) X.xe s₂) X.xe s₁) X.xe s
theorem nobehind (b : Expr) {op : CmpOp} (h : op ≠ .In) (h2 : op ≠ .NotIn) : behindInMarks op b = false := by
  have e1 : (op == CmpOp.In) = false := by cases op <;> first | rfl | exact absurd rfl h
  have e2 : (op == CmpOp.NotIn) = false := by cases op <;> first | rfl | exact absurd rfl h2
  cases b <;> simp [behindInMarks, e1, e2]
def tCmp (p : Int → Int → Bool) (ta tb : TE) : TE := fun σ H Q => t2I ta tb (fun i j H2 => Q (.bl (p i j)) H2) σ H
abbrev tLt : TE → TE → TE := tCmp fun i j => decide (i < j)
abbrev tLe : TE → TE → TE := tCmp fun i j => decide (i ≤ j)
abbrev tGt : TE → TE → TE := tCmp fun i j => decide (j < i)
abbrev tGe : TE → TE → TE := tCmp fun i j => decide (j ≤ i)
abbrev tEqI : TE → TE → TE := tCmp fun i j => decide (i = j)
abbrev tNeI : TE → TE → TE := tCmp fun i j => !decide (i = j)
/-- a comparison of two ints, by its rule -/
theorem pc_int {op : CmpOp} {p : Int → Int → Bool} (ha : PE X a ta) (hb : PE X b tb)
    (rule : ∀ (i j : Int) (t u : Tok) (Q : Value → Shared → Prop) (s : Shared), Q (.bool (p i j)) s → wpAny (model X.prog X.w) X.A (compareOp op (.int i t) (.int j u)) Q X.xe s) : PC X op a b (tCmp p ta tb) := by
  intro pins s σ H Q I h
  refine bin ha hb I h fun v u s2 x y H2 I2 rx ry q => ?_
  obtain ⟨i, j, rfl, rfl, q⟩ := q
  obtain ⟨t, rfl⟩ := rx
  obtain ⟨t', rfl⟩ := ry
  exact rule i j t t' _ s2 ⟨.bl _, H2, I2, rfl, q⟩
theorem pc_lt (ha : PE X a ta) (hb : PE X b tb) : PC X .Lt a b (tLt ta tb) := pc_int ha hb fun _ _ _ _ _ _ h => lt_int h
theorem pc_le (ha : PE X a ta) (hb : PE X b tb) : PC X .LtE a b (tLe ta tb) := pc_int ha hb fun _ _ _ _ _ _ h => le_int h
theorem pc_gt (ha : PE X a ta) (hb : PE X b tb) : PC X .Gt a b (tGt ta tb) := pc_int ha hb fun _ _ _ _ _ _ h => gt_int h
theorem pc_ge (ha : PE X a ta) (hb : PE X b tb) : PC X .GtE a b (tGe ta tb) := pc_int ha hb fun _ _ _ _ _ _ h => ge_int h
theorem pc_eqI (ha : PE X a ta) (hb : PE X b tb) : PC X .Eq a b (tEqI ta tb) := pc_int ha hb fun _ _ _ _ _ _ h => eq_int (by rw [Bool.beq_eq_decide_eq]; exact h)
theorem pc_neI (ha : PE X a ta) (hb : PE X b tb) : PC X .NotEq a b (tNeI ta tb) := pc_int ha hb fun _ _ _ _ _ _ h => ne_int (by rw [bne, Bool.beq_eq_decide_eq]; exact h)
/-- is None -/
def tIsN (ta : TE) : TE := fun σ H Q => ta σ H fun x H1 => Q (.bl (decide (x = .non))) H1
def tNotN (ta : TE) : TE := fun σ H Q => ta σ H fun x H1 => Q (.bl (!decide (x = .non))) H1
theorem RelV.none_iff {x : V} {v : Value} (r : RelV x v) : (v == Value.none) = decide (x = .non) := by
  cases x with
  | non => cases r; rfl
  | bl _ => cases r; rfl
  | int _ => obtain ⟨t, rfl⟩ := r; rfl
  | str _ => obtain ⟨t, rfl⟩ := r; rfl
  | byt _ => obtain ⟨t, rfl⟩ := r; rfl
  | flt _ => obtain ⟨t, rfl⟩ := r; rfl
  | ref _ => cases r; rfl
  | ty _ => cases r; rfl
theorem pc_isN {j pos'} (ha : PE X a ta) : PC X .Is a (.Constant .none j pos') (tIsN ta) := by
  intro pins s σ H Q I h
  refine thn (ha pins s σ H _ I h) fun v s1 ⟨x, H1, I1, r1, q1⟩ => ?_
  exact Constant_none (is_none_gen ⟨.bl _, H1, I1, by rw [r1.none_iff]; rfl, q1⟩)
theorem pc_notN {j pos'} (ha : PE X a ta) : PC X .IsNot a (.Constant .none j pos') (tNotN ta) := by
  intro pins s σ H Q I h
  refine thn (ha pins s σ H _ I h) fun v s1 ⟨x, H1, I1, r1, q1⟩ => ?_
  exact Constant_none (isnot_none_gen ⟨.bl _, H1, I1, by rw [r1.none_iff]; rfl, q1⟩)
/-- a comparison as a value, as a test -/
def tB (t : TE) : TT := fun σ H Q => t σ H fun x H1 => ∃ c, x = .bl c ∧ Q c H1
theorem pe_cmp {op : CmpOp} {t : TE} (h : PC X op a b t) (h1 : behindInMarks op b = false := by first | exact nobehind _ (by decide) (by decide) | rfl) : PE X (.Compare a [op] [b] pos) t := fun pins s σ H Q I hw => wpAny_Compare1 (h pins s σ H Q I hw) h1
theorem pt_cmp {op : CmpOp} {t : TE} (h : PC X op a b t) (h1 : behindInMarks op b = false := by first | exact nobehind _ (by decide) (by decide) | rfl) : PT X (.Compare a [op] [b] pos) (tB t) := by
  intro pins s σ H Q I hw
  refine wpAny_isTrue_Compare1 (thn (h pins s σ H _ I hw) fun v s1 h1 => thn h1 fun u s2 h2 => thn h2 fun c s3 ⟨x, H1, I1, r1, q1⟩ => ?_) h1
  obtain ⟨d, rfl, q⟩ := q1
  cases r1
  exact wpAny_truthy_bool ⟨H1, I1, q⟩
/-- an expression whose value is a bool, as a test -/
theorem pt_val {e : Expr} {t : TE} (h : PE X e t) (he : ∀ whole, isTrue e X.env whole = (do let v ← whole; standAt e.pos; holding [v] (truthy v)) := by intro _; rfl) : PT X e (tB t) := by
  intro pins s σ H Q I hw
  refine isTrue_plain (thn (h pins s σ H _ I hw) fun v s1 ⟨x, H1, I1, r1, q1⟩ => ?_) (he _)
  obtain ⟨d, rfl, q⟩ := q1
  cases r1
  exact wpAny_truthy_bool ⟨H1, I1, q⟩

/-! ### and, or, not -/
variable {tA tB' : TT} {rest : List Expr}
def tAnd (t u : TT) : TT := fun σ H Q => t σ H fun c H1 => if c = true then u σ H1 Q else Q false H1
def tOr (t u : TT) : TT := fun σ H Q => t σ H fun c H1 => if c = true then Q true H1 else u σ H1 Q
def tNot (t : TT) : TT := fun σ H Q => t σ H fun c H1 => Q (!c) H1
theorem pw_and1 (ha : PT X a tA) : PW X (.BoolOp .And [a] pos) tA := by
  intro wh pins s σ H Q I h
  refine isTrue_and (thn (ha pins s σ H Q I h) fun c s1 e => ?_)
  cases c with
  | true => exact isTrue_and_nil e
  | false => exact e
theorem pw_or1 (ha : PT X a tA) : PW X (.BoolOp .Or [a] pos) tA := by
  intro wh pins s σ H Q I h
  refine isTrue_or (thn (ha pins s σ H Q I h) fun c s1 e => ?_)
  cases c with
  | false => exact isTrue_or_nil e
  | true => exact e
theorem pw_and (ha : PT X a tA) (hb : PW X (.BoolOp .And (b :: rest) pos) tB') : PW X (.BoolOp .And (a :: b :: rest) pos) (tAnd tA tB') := by
  intro wh pins s σ H Q I h
  refine isTrue_and (thn (ha pins s σ H _ I h) fun c s1 ⟨H1, I1, q1⟩ => ?_)
  cases c with
  | true => exact hb wh pins s1 σ H1 Q I1 q1
  | false => exact ⟨H1, I1, q1⟩
theorem pw_or (ha : PT X a tA) (hb : PW X (.BoolOp .Or (b :: rest) pos) tB') : PW X (.BoolOp .Or (a :: b :: rest) pos) (tOr tA tB') := by
  intro wh pins s σ H Q I h
  refine isTrue_or (thn (ha pins s σ H _ I h) fun c s1 ⟨H1, I1, q1⟩ => ?_)
  cases c with
  | true => exact ⟨H1, I1, q1⟩
  | false => exact hb wh pins s1 σ H1 Q I1 q1
theorem pt_not (ha : PT X a tA) : PT X (.UnaryOp .Not a pos) (tNot tA) := by
  intro pins s σ H Q I h
  exact isTrue_not (ha pins s σ H (fun c H1 => Q (!c) H1) I h)
/-- .. as values (bools) -/
def tAndV (ta tb : TE) : TE := fun σ H Q => ta σ H fun x H1 => ∃ c, x = .bl c ∧ if c = true then tb σ H1 Q else Q (.bl false) H1
def tOrV (ta tb : TE) : TE := fun σ H Q => ta σ H fun x H1 => ∃ c, x = .bl c ∧ if c = true then Q (.bl true) H1 else tb σ H1 Q
def tNotV (ta : TE) : TE := fun σ H Q => ta σ H fun x H1 => ∃ c, x = .bl c ∧ Q (.bl (!c)) H1
theorem pe_one {op} {t : TE} (h : PE X a t) : PE X (.BoolOp op [a] pos) t := fun pins s σ H Q I hw => BoolOp_one (h pins s σ H Q I hw)
theorem pe_and (ha : PE X a ta) (hb : PE X (.BoolOp .And (b :: rest) pos) tb) : PE X (.BoolOp .And (a :: b :: rest) pos) (tAndV ta tb) := by
  intro pins s σ H Q I h
  refine BoolOp_and (thn (ha pins s σ H _ I h) fun v s1 ⟨x, H1, I1, r1, q1⟩ => ?_)
  obtain ⟨c, rfl, q1⟩ := q1
  cases r1
  refine wpAny_truthy_bool ?_
  cases c with
  | true => exact hb pins s1 σ H1 Q I1 q1
  | false => exact ⟨.bl false, H1, I1, rfl, q1⟩
theorem pe_or (ha : PE X a ta) (hb : PE X (.BoolOp .Or (b :: rest) pos) tb) : PE X (.BoolOp .Or (a :: b :: rest) pos) (tOrV ta tb) := by
  intro pins s σ H Q I h
  refine BoolOp_or (thn (ha pins s σ H _ I h) fun v s1 ⟨x, H1, I1, r1, q1⟩ => ?_)
  obtain ⟨c, rfl, q1⟩ := q1
  cases r1
  refine wpAny_truthy_bool ?_
  cases c with
  | false => exact hb pins s1 σ H1 Q I1 q1
  | true => exact ⟨.bl true, H1, I1, rfl, q1⟩
theorem pe_not (ha : PE X a ta) : PE X (.UnaryOp .Not a pos) (tNotV ta) := by
  intro pins s σ H Q I h
  refine UnaryOp_ (thn (ha pins s σ H _ I h) fun v s1 ⟨x, H1, I1, r1, q1⟩ => ?_)
  obtain ⟨c, rfl, q1⟩ := q1
  cases r1
  exact not_of (wpAny_truthy_bool ⟨.bl (!c), H1, I1, rfl, q1⟩)
/-- a if t else b -/
def tIf (t : TT) (ta tb : TE) : TE := fun σ H Q => t σ H fun c H1 => if c = true then ta σ H1 Q else tb σ H1 Q
theorem pe_ifExp {c : Expr} (hc : PT X c tA) (ha : PE X a ta) (hb : PE X b tb) : PE X (.IfExp c a b pos) (tIf tA ta tb) := by
  intro pins s σ H Q I h
  refine wpAny_IfExp (thn (hc pins s σ H _ I h) fun d s1 ⟨H1, I1, q1⟩ => ?_)
  cases d with
  | true => exact ha pins s1 σ H1 Q I1 q1
  | false => exact hb pins s1 σ H1 Q I1 q1
end
end L2

namespace L2
open PySem PySem.Spec PyProof.Rows

/-! ### a list, a tuple that is read: tracked, frozen, or an object of the module -/
def SqL (K : PySem.W.Frag) (H : Hp) (a : Addr) (xs : List V) : Prop :=
  Rd H a (.lst xs) ∨
    ∃ (o : Obj) (its : Array Value) (n : Nat), K.lookup a = some o ∧ o.cls = .type "list" ∧ o.dict = none ∧ o.data = .seq its n ∧ its.size ≤ sizeLine ∧ Vals xs its.toList
def SqT (K : PySem.W.Frag) (H : Hp) (a : Addr) (xs : List V) : Prop :=
  Rd H a (.tup xs) ∨
    ∃ (o : Obj) (its : Array Value) (n : Nat), K.lookup a = some o ∧ o.cls = .type "tuple" ∧ o.data = .seq its n ∧ its.size ≤ sizeLine ∧ Vals xs its.toList
def absV : Value → Option V
  | .none => some .non
  | .bool b => some (.bl b)
  | .int i _ => some (.int i)
  | .str x _ => some (.str x)
  | .bytes b _ => some (.byt b)
  | .float b _ => some (.flt b)
  | .ref a => some (.ref a)
  | .type n => some (.ty n)
  | _ => none
theorem RelV.abs {x : V} {u : Value} (r : RelV x u) : absV u = some x := by
  cases x with
  | non => cases r; rfl
  | bl _ => cases r; rfl
  | int _ => obtain ⟨t, rfl⟩ := r; rfl
  | str _ => obtain ⟨t, rfl⟩ := r; rfl
  | byt _ => obtain ⟨t, rfl⟩ := r; rfl
  | flt _ => obtain ⟨t, rfl⟩ := r; rfl
  | ref _ => cases r; rfl
  | ty _ => cases r; rfl
theorem RelV.inj {x y : V} {u : Value} (r : RelV x u) (q : RelV y u) : x = y := Option.some.inj (r.abs.symm.trans q.abs)
theorem Vals.inj : ∀ {xs ys : List V} {us : List Value}, Vals xs us → Vals ys us → xs = ys
  | _, _, _, .nil, .nil => rfl
  | _, _, _, .cons r t, .cons r' t' => by rw [r.inj r', Vals.inj t t']
section
variable {X : Cx} {pins : List (Addr × Obj)} {σ : St} {H : Hp} {s : Shared} {a : Addr} {xs ys : List V}
theorem SqL.of {K : PySem.W.Frag} (h : H a = some (.lst xs)) : SqL K H a xs := .inl (.inl h)
theorem SqT.of {K : PySem.W.Frag} (h : H a = some (.tup xs)) : SqT K H a xs := .inl (.inl h)
theorem Inv.list (I : Inv X pins σ H s) (h : SqL X.K H a xs) : ∃ its : List Value, Vals xs its ∧ PlainL s.heap a its.toArray ∧ xs.length ≤ sizeLine := by
  rcases h with h | ⟨o, its, n, hk, hc, hd, hs, hz, r⟩
  · obtain ⟨z, its, n, r, e⟩ := h.ok I.hok
    exact ⟨its, r, ⟨_, n, e, rfl, rfl, rfl⟩, z⟩
  · refine ⟨its.toList, r, ⟨o, n, I.kIn a o hk, hc, hd, by simpa using hs⟩, ?_⟩
    have e := r.length
    simp only [Array.length_toList] at e
    omega
theorem Inv.tuple (I : Inv X pins σ H s) (h : SqT X.K H a xs) : ∃ its : List Value, Vals xs its ∧ IsTup s.heap a its.toArray ∧ xs.length ≤ sizeLine := by
  rcases h with h | ⟨o, its, n, hk, hc, hs, hz, r⟩
  · obtain ⟨z, its, r, p⟩ := h.ok I.hok
    exact ⟨its, r, p, z⟩
  · refine ⟨its.toList, r, ⟨o, I.kIn a o hk, hc, n, by simpa using hs⟩, ?_⟩
    have e := r.length
    simp only [Array.length_toList] at e
    omega
theorem Inv.list_inj (I : Inv X pins σ H s) (h : SqL X.K H a xs) (h' : SqL X.K H a ys) : xs = ys := by
  obtain ⟨its, r, ⟨o, n, e, _, _, d⟩, _⟩ := I.list h
  obtain ⟨its', r', ⟨o', n', e', _, _, d'⟩, _⟩ := I.list h'
  rw [e] at e'; cases e'
  rw [d] at d'
  injection d' with d1 _
  have : its = its' := by simpa using congrArg Array.toList d1
  subst this
  exact r.inj r'
theorem Inv.tuple_inj (I : Inv X pins σ H s) (h : SqT X.K H a xs) (h' : SqT X.K H a ys) : xs = ys := by
  obtain ⟨its, r, ⟨o, e, _, n, d⟩, _⟩ := I.tuple h
  obtain ⟨its', r', ⟨o', e', _, n', d'⟩, _⟩ := I.tuple h'
  rw [e] at e'; cases e'
  rw [d] at d'
  injection d' with d1 _
  have : its = its' := by simpa using congrArg Array.toList d1
  subst this
  exact r.inj r'
end

/-! ### another wish about exceptions -/
abbrev Cx.wish (X : Cx) (E : Value → Shared → Prop) : Cx := { X with xe := E }
/-- no exception leaves -/
abbrev Cx.nox (X : Cx) : Cx := X.wish fun _ _ => False
theorem Cx.Ok.wish {X : Cx} (ok : X.Ok) (E : Value → Shared → Prop) : (X.wish E).Ok :=
  ⟨ok.mod, ok.kind, ok.glob, ok.blt, ok.above, ok.inj, ok.has, ok.cab, ok.hd, ok.frames, ok.stk, ok.exf, ok.bs, ok.bsz, ok.noex, ok.exfs, ok.funs, ok.frf⟩
theorem Cx.Ok.unwish {X : Cx} {E : Value → Shared → Prop} (ok : (X.wish E).Ok) : X.Ok :=
  ⟨ok.mod, ok.kind, ok.glob, ok.blt, ok.above, ok.inj, ok.has, ok.cab, ok.hd, ok.frames, ok.stk, ok.exf, ok.bs, ok.bsz, ok.noex, ok.exfs, ok.funs, ok.frf⟩
section
variable {X : Cx} {pins : List (Addr × Obj)} {σ : St} {H : Hp} {s : Shared} {E : Value → Shared → Prop}
theorem Inv.wish (I : Inv X pins σ H s) (E : Value → Shared → Prop) : Inv (X.wish E) pins σ H s := ⟨I.ok.wish E, I.os, I.bare, I.base, I.loc, I.cell, I.free, I.freeC, I.pin, I.hok, I.len⟩
theorem Inv.unwish (I : Inv (X.wish E) pins σ H s) : Inv X pins σ H s := ⟨I.ok.unwish, I.os, I.bare, I.base, I.loc, I.cell, I.free, I.freeC, I.pin, I.hok, I.len⟩
theorem SP.unwish {D : Ends} {f : Flow} {s' : Shared} (h : SP (X.wish E) pins D f s') : SP X pins D f s' := by
  cases f with
  | next => obtain ⟨σ', H', I, q⟩ := h; exact ⟨σ', H', I.unwish, q⟩
  | brk => obtain ⟨σ', H', I, q⟩ := h; exact ⟨σ', H', I.unwish, q⟩
  | cont => obtain ⟨σ', H', I, q⟩ := h; exact ⟨σ', H', I.unwish, q⟩
  | ret u => obtain ⟨v, σ', H', I, r, q⟩ := h; exact ⟨v, σ', H', I.unwish, r, q⟩
theorem PE.nox {e : Expr} {t : TE} (h : PE X.nox e t) : PE X e t := fun pins s σ H Q I hw =>
  wpAny_mono (h pins s σ H Q (I.wish _) hw) (fun _ _ ⟨v, H', I', r, q⟩ => ⟨v, H', I'.unwish, r, q⟩) fun _ _ z => False.elim z
theorem PT.nox {e : Expr} {t : TT} (h : PT X.nox e t) : PT X e t := fun pins s σ H Q I hw =>
  wpAny_mono (h pins s σ H Q (I.wish _) hw) (fun _ _ ⟨H', I', q⟩ => ⟨H', I'.unwish, q⟩) fun _ _ z => False.elim z
theorem PSs.nox {st : List Stmt} {t : TS} (h : PSs X.nox st t) : PSs X st t := fun pins s σ H D I hw =>
  wpAny_mono (h pins s σ H D (I.wish _) hw) (fun _ _ q => q.unwish) fun _ _ z => False.elim z
end

/-! ### blocks and small statements -/
section
variable {X : Cx} {st : Stmt} {rest : List Stmt} {t u : TS} {e : Expr} {te : TE} {pos : Pos}
def tNext : TS := fun D σ H => D.nx σ H
def tSeq (t u : TS) : TS := fun D σ H => t { D with nx := u D } σ H
theorem pss_nil : PSs X [] tNext := fun _ _ σ H _ I h => wpAny_execs_nil ⟨σ, H, I, h⟩
theorem pss_cons (h1 : PS X st t) (h2 : PSs X rest u) : PSs X (st :: rest) (tSeq t u) := by
  intro pins s σ H D I h
  refine wpAny_execs_cons (thn (h1 pins s σ H { D with nx := u D } I h) fun f s1 q => ?_)
  cases f with
  | next =>
    obtain ⟨σ', H', I', q⟩ := q
    exact h2 pins s1 σ' H' D I' q
  | ret v => exact q
  | brk => exact q
  | cont => exact q
theorem pss_one (h1 : PS X st t) : PSs X [st] t := by
  intro pins s σ H D I h
  refine wpAny_execs_cons (thn (h1 pins s σ H D I h) fun f s1 q => ?_)
  cases f with
  | next => exact wpAny_execs_nil q
  | ret v => exact q
  | brk => exact q
  | cont => exact q
def tBreak : TS := fun D σ H => D.bk σ H
def tCont : TS := fun D σ H => D.ct σ H
theorem ps_pass : PS X (.Pass pos) tNext := fun _ _ σ H _ I h => wpAny_Pass ⟨σ, H, I, h⟩
theorem ps_break : PS X (.Break pos) tBreak := fun _ _ σ H _ I h => wpAny_Break ⟨σ, H, I, h⟩
theorem ps_continue : PS X (.Continue pos) tCont := fun _ _ σ H _ I h => wpAny_Continue ⟨σ, H, I, h⟩
/-- in a def's body nothing is shown -/
theorem Inv.quiet {pins : List (Addr × Obj)} {σ : St} {H : Hp} {s : Shared} (I : Inv X pins σ H s) : interactive X.env = false := by simp [interactive, I.ok.kind]
/-- a docstring -/
theorem ps_doc {x j pos pos'} : PS X (.Expr (.Constant (.str x) j pos) pos') tNext := fun _ s σ H _ I h => wpAny_Expr (Calls.Constant_str (show SP X _ _ .next { s with toks := s.toks + 1 } from ⟨σ, H, I.tok _, h⟩)) I.quiet
/-- an expression whose value is dropped -/
def tDrop (te : TE) : TS := fun D σ H => te σ H fun _ H1 => D.nx σ H1
theorem ps_expr (he : PE X e te) (hs : swapsWith e none pos.line X.env = pure false := by rfl) : PS X (.Expr e pos) (tDrop te) := by
  intro pins s σ H D I h
  exact wpAny_Expr_any (thn (he pins s σ H _ I h) fun v s1 ⟨x, H1, I1, r1, q1⟩ => ⟨σ, H1, I1, q1⟩) I.quiet hs
def tRet (te : TE) : TS := fun D σ H => te σ H D.rt
theorem ps_ret (he : PE X e te) : PS X (.Return (some e) pos) (tRet te) := by
  intro pins s σ H D I h
  exact wpAny_Return_some (thn (he pins s σ H _ I h) fun v s1 ⟨x, H1, I1, r1, q1⟩ => ⟨x, σ, H1, I1, r1, q1⟩)
def tRetN : TS := fun D _ H => D.rt .non H
theorem ps_retN : PS X (.Return none pos) tRetN := fun _ _ σ H _ I h => wpAny_Return_none ⟨.non, σ, H, I, rfl, h⟩
def tIfS (c : TT) (t u : TS) : TS := fun D σ H => c σ H fun b H1 => if b = true then t D σ H1 else u D σ H1
theorem ps_if {c : Expr} {a b : List Stmt} {tc : TT} (hc : PT X c tc) (ha : PSs X a t) (hb : PSs X b u) : PS X (.If c a b pos) (tIfS tc t u) := by
  intro pins s σ H D I h
  refine wpAny_If (thn (hc pins s σ H _ I h) fun d s1 ⟨H1, I1, q1⟩ => ?_)
  cases d with
  | true => exact ha pins s1 σ H1 D I1 q1
  | false => exact hb pins s1 σ H1 D I1 q1
/-- code that the proof never comes to -/
def tNever : TS := fun _ _ _ => False
theorem ps_never : PS X st tNever := fun _ _ _ _ _ _ h => h.elim
theorem pss_never {sts : List Stmt} : PSs X sts tNever := fun _ _ _ _ _ _ h => h.elim
end

/-! ### targets -/
abbrev TG := V → St → Hp → (St → Hp → Prop) → Prop
abbrev TGs := List V → St → Hp → (St → Hp → Prop) → Prop
def PG (X : Cx) (target : Expr) (t : TG) : Prop :=
  ∀ (pins : List (Addr × Obj)) (s : Shared) (σ : St) (H : Hp) (v : V) (u : Value) (Q : St → Hp → Prop), Inv X pins σ H s → RelV v u → t v σ H Q →
    wpAny (model X.prog X.w) X.A (assign target X.env u) (fun _ s' => ∃ σ' H', Inv X pins σ' H' s' ∧ Q σ' H') X.xe s
/-- several targets, one after another -/
def PGs (X : Cx) (ts : List Expr) (t : TGs) : Prop :=
  ∀ (pins : List (Addr × Obj)) (s : Shared) (σ : St) (H : Hp) (vs : List V) (us : List Value) (Q : St → Hp → Prop), Inv X pins σ H s → Vals vs us → t vs σ H Q →
    wpAny (model X.prog X.w) X.A (assignInOrder ((assignEach ts X.env).map (·.2)) us) (fun _ s' => ∃ σ' H', Inv X pins σ' H' s' ∧ Q σ' H') X.xe s
/-- o[i] = v, by values -/
abbrev TSet := V → V → V → Hp → (Hp → Prop) → Prop
def PSet (X : Cx) (t : TSet) : Prop :=
  ∀ (pins : List (Addr × Obj)) (s : Shared) (σ : St) (H : Hp) (o i v : V) (ov iv u : Value) (Q : Hp → Prop), Inv X pins σ H s → RelV o ov → RelV i iv → RelV v u → t o i v H Q →
    wpAny (model X.prog X.w) X.A (setItem ov iv u) (fun _ s' => ∃ H', Inv X pins σ H' s' ∧ Q H') X.xe s
/-- a op= b, by values -/
abbrev TIp := V → V → Hp → VK → Prop
def PIp (X : Cx) (op : Operator) (t : TIp) : Prop :=
  ∀ (pins : List (Addr × Obj)) (s : Shared) (σ : St) (H : Hp) (x y : V) (v u : Value) (Q : VK), Inv X pins σ H s → RelV x v → RelV y u → t x y H Q →
    wpAny (model X.prog X.w) X.A (inplaceOp op v u) (EP X pins σ Q) X.xe s
section
variable {X : Cx} {pos : Pos}
def gName (i : Nat) : TG := fun v σ H Q => Q (σ.set i (some v)) H
theorem pg_name {i : Nat} {x : Str} (hN : X.N.Nodup) (hi : X.N[i]? = some x) (hx : Loc X.env.scope x) (hf : X.fn x = true ∨ X.env.scope.names.lookup x = some .local := by first | exact .inl rfl | exact .inr rfl | assumption) : PG X (.Name x pos) (gName i) := by
  intro pins s σ H v u Q I r h
  exact wpAny_assign_Name (store_ok I hN hi hx r (fun s' I' => ⟨_, H, I', h⟩) hf)
def gNil : TGs := fun vs σ H Q => vs = [] ∧ Q σ H
def gCons (t : TG) (u : TGs) : TGs := fun vs σ H Q => ∃ v r, vs = v :: r ∧ t v σ H fun σ' H' => u r σ' H' Q
theorem pgs_nil : PGs X [] gNil := by
  intro pins s σ H vs us Q I r h
  obtain ⟨e, h⟩ := h
  subst e
  cases r
  exact assignInOrder_nil ⟨σ, H, I, h⟩
theorem pgs_cons {e : Expr} {es : List Expr} {t : TG} {u : TGs} (h1 : PG X e t) (h2 : PGs X es u)
    (hs : (assignEach (e :: es) X.env).map (·.2) = assign e X.env :: (assignEach es X.env).map (·.2) := by rfl) : PGs X (e :: es) (gCons t u) := by
  intro pins s σ H vs us Q I r h
  obtain ⟨v, vr, e1, h⟩ := h
  subst e1
  cases r with
  | cons r rr =>
    rw [hs]
    refine assignInOrder_cons (thn (h1 pins s σ H _ _ _ I r h) fun _ s1 ⟨σ1, H1, I1, q1⟩ => ?_)
    exact h2 pins s1 σ1 H1 _ _ Q I1 rr q1
/-- (a, b, ..) = a tuple of that length -/
def gTup (K : PySem.W.Frag) (n : Nat) (t : TGs) : TG := fun v σ H Q => ∃ a xs, v = .ref a ∧ SqT K H a xs ∧ xs.length = n ∧ t xs σ H Q
theorem pg_tup {es : List Expr} {k : Nat} {t : TGs} {n : Nat} (hc : X.calm = true) (h : PGs X es t)
    (hn : (assignEach es X.env).length = n := by rfl) (hst : (assignEach es X.env).findIdx? (·.1) = none := by rfl) : PG X (.Tuple es k pos) (gTup X.K n t) := by
  intro pins s σ H v u Q I r hw
  obtain ⟨a, xs, e1, hq, hl, hw⟩ := hw
  subst e1
  cases r
  obtain ⟨its, rv, ht, hz⟩ := I.tuple hq
  refine assign_Tuple_tuple (I.ok.hd hc) ht (by simp [hn, ← hl, rv.length]) hst fun h' hx => ?_
  have I1 : Inv X pins σ H { s with heap := h' } := I.kept (t' := s.toks) fun b o e => hx b o (Nat.ne_of_lt (Heap.lt_size e)) e
  exact h pins _ σ H xs _ Q I1 (by simpa using rv) hw
/-- o[i] = .. -/
def gSub (to ti : TE) (t : TSet) : TG := fun v σ H Q => to σ H fun o H1 => ti σ H1 fun i H2 => t o i v H2 fun H3 => Q σ H3
theorem pg_sub {o i : Expr} {to ti : TE} {t : TSet} (ho : PE X o to) (hi : PE X i ti) (hs : PSet X t)
    (ha : ∀ v, assign (.Subscript o i pos) X.env v = (do
      let ov ← holding [v] (eval o X.env)
      let iv ← holding [v, ov] (eval i X.env)
      standAt pos
      holding [v, ov, iv] (setItem ov iv v)
      release [v, ov, iv] []) := by intro _; rfl) : PG X (.Subscript o i pos) (gSub to ti t) := by
  intro pins s σ H v u Q I r h
  rw [ha]
  refine wpAny_bind (wpAny_holding (thn (ho pins s σ H _ I h) fun ov s1 ⟨x, H1, I1, r1, q1⟩ => ?_))
  refine wpAny_bind (wpAny_holding (thn (hi pins s1 σ H1 _ I1 q1) fun iv s2 ⟨y, H2, I2, r2, q2⟩ => ?_))
  refine wpAny_bind (wpAny_standAt (wpAny_bind (wpAny_holding (thn (hs pins s2 σ H2 x y v ov iv u _ I2 r1 r2 r q2) fun _ s3 ⟨H3, I3, q3⟩ => ?_))))
  exact wpAny_release ⟨σ, H3, I3, q3⟩
/-- target = value -/
def tAsg (te : TE) (g : TG) : TS := fun D σ H => te σ H fun x H1 => g x σ H1 D.nx
theorem ps_asg {tg e : Expr} {te : TE} {g : TG} (he : PE X e te) (hg : PG X tg g) (hs : swapsWithSole [tg] e pos.line X.env = pure false := by rfl) (hw : swappedStores [tg] e X.env = pure none := by rfl)
    (h1 : (assignEach [tg] X.env).map (·.2) = [assign tg X.env] := by rfl) : PS X (.Assign [tg] e pos) (tAsg te g) := by
  intro pins s σ H D I h
  refine wpAny_Assign_stores (thn (he pins s σ H _ I h) fun v s1 ⟨x, H1, I1, r1, q1⟩ => ?_) hs hw
  rw [h1]
  exact thn (hg pins s1 σ H1 x v _ I1 r1 q1) fun _ s2 q => q
/-- name = value -/
theorem ps_set {i : Nat} {x : Str} {e : Expr} {te : TE} {pos' : Pos} (hN : X.N.Nodup) (hi : X.N[i]? = some x) (hx : Loc X.env.scope x) (he : PE X e te) (hs : swapsWith e (some (.Name x pos')) pos.line X.env = pure false := by rfl) (hf : X.fn x = true ∨ X.env.scope.names.lookup x = some .local := by first | exact .inl rfl | exact .inr rfl | assumption) :
    PS X (.Assign [.Name x pos'] e pos) (tAsg te (gName i)) := by
  intro pins s σ H D I h
  refine wpAny_Assign_Name (thn (he pins s σ H _ I h) fun v s1 ⟨y, H1, I1, r1, q1⟩ => ?_) hs
  exact store_ok I1 hN hi hx r1 (fun s2 I2 => ⟨_, H1, I2, q1⟩) hf
/-- a, b = x, y with plain local names: stored from the right; the pair itself is not tracked (the opening rows as in PyProof/Rows/TupAssign.lean:23) -/
def tPar (i j : Nat) (ta : TA) : TS := fun D σ H => ta σ H fun vs H1 => ∃ v w, vs = [v, w] ∧ D.nx ((σ.set i (some v)).set j (some w)) H1
theorem ps_par {i j : Nat} {x y : Str} {a b : Expr} {ta : TA} {px py pt : Pos} {kt k2 pt2} (hc : X.calm = true) (hN : X.N.Nodup) (hi : X.N[i]? = some x) (hj : X.N[j]? = some y) (hij : i ≠ j)
    (hx : X.env.scope.names.lookup x = some .local) (hy : X.env.scope.names.lookup y = some .local) (ha : PA X [a, b] ta)
    (hw : swappedStores [.Tuple [.Name x px, .Name y py] kt pt] (.Tuple [a, b] k2 pt2) X.env = pure (some [x, y]))
    (hs : swapsWithSole [.Tuple [.Name x px, .Name y py] kt pt] (.Tuple [a, b] k2 pt2) pos.line X.env = pure false := by rfl) :
    PS X (.Assign [.Tuple [.Name x px, .Name y py] kt pt] (.Tuple [a, b] k2 pt2) pos) (tPar i j ta) := by
  intro pins s σ H D I h
  rw [exec_Assign_arm]
  refine wpAny_bind (wpAny_standAt ?_)
  rw [hs]
  refine wpAny_bind (wpAny_pure ?_)
  rw [if_neg (by decide)]
  refine wpAny_bind (Tuple_ (thn (ha _ pins s σ H _ I h) fun us s1 ⟨vs, H1, I1, r1, q1⟩ => ?_))
  obtain ⟨v, w, e1, q1⟩ := q1
  subst e1
  obtain ⟨u1, u2, rfl, rv, rw'⟩ : ∃ u1 u2, us = [u1, u2] ∧ RelV v u1 ∧ RelV w u2 := by
    cases r1 with
    | cons p q =>
      cases q with
      | cons p' q' =>
        cases q'
        exact ⟨_, _, rfl, p, p'⟩
  refine wpAny_newObj_type ?_ (by show 2 ≤ sizeLine; decide)
  have I2 : Inv X pins σ H1 { s1 with heap := s1.heap.push { cls := .type "tuple", data := .seq [u1, u2].toArray } } := I1.kept (t' := s1.toks) fun b o e => Heap.get?_push_of_some _ e
  rw [hw]
  refine wpAny_bind (wpAny_pure ?_)
  show wpAny (model X.prog X.w) X.A (do rule "assign.swapped-stores"; let items ← unpackItems (.ref s1.heap.objs.size) 2 none; assignInOrder [fun v => bindName X.env y v, fun v => bindName X.env x v] items.reverse; pure Flow.next) _ _ _
  refine wpAny_bind (wpAny_rule (wpAny_bind (unpackItems_tuple (items := #[u1, u2]) (I.ok.hd hc) (IsTup.new s1.heap _) fun h' hx' => ?_)))
  have I3 := I2.kept (h' := h') (t' := s1.toks) fun b o e => hx' b o (Nat.ne_of_lt (Heap.lt_size e)) e
  show wpAny _ _ (assignInOrder [fun v => bindName X.env y v, fun v => bindName X.env x v] [u2, u1] >>= fun _ => pure Flow.next) _ _ _
  refine wpAny_bind (assignInOrder_cons (wpAny_bindName (store_ok I3 hN hj (.inl hy) rw' (fun s2 I4 => ?_) (.inr hy))))
  refine assignInOrder_cons (wpAny_bindName (store_ok I4 hN hi (.inl hx) rv (fun s3 I5 => assignInOrder_nil (wpAny_pure ?_)) (.inr hx)))
  rw [List.set_comm _ _ (Ne.symm hij)] at I5
  exact ⟨_, H1, I5, q1⟩
/-- name op= e -/
def tAug (i : Nat) (te : TE) (ti : TIp) : TS := fun D σ H => ∃ x, σ[i]? = some (some x) ∧ te σ H fun y H1 => ti x y H1 fun z H2 => D.nx (σ.set i (some z)) H2
theorem ps_aug {i : Nat} {x : Str} {e : Expr} {te : TE} {op : Operator} {ti : TIp} {pos' : Pos} (hN : X.N.Nodup) (hi : X.N[i]? = some x) (hx : Loc X.env.scope x) (he : PE X e te) (ho : PIp X op ti) (hf : X.fn x = true ∨ X.env.scope.names.lookup x = some .local := by first | exact .inl rfl | exact .inr rfl | assumption) :
    PS X (.AugAssign (.Name x pos') op e pos) (tAug i te ti) := by
  intro pins s σ H D I h
  obtain ⟨v, e1, h⟩ := h
  obtain ⟨m, hn, hl⟩ := I.loc
  have vis : Vis X.env.scope x := by rcases hx with k | k; exact .inl k; exact .inr (.inl k)
  obtain ⟨u, r, l⟩ := hl i x v hi e1 vis
  refine wpAny_AugAssign_Name ?_
  have go : wpAny (model X.prog X.w) X.A (eval e X.env) (fun w s₂ => wpAny (model X.prog X.w) X.A (inplaceOp op u w) (fun r s₃ => wpAny (model X.prog X.w) X.A (storeName X.env x r) (fun _ => SP X pins D .next) X.xe s₃) X.xe s₂) X.xe s := by
    refine thn (he pins s σ H _ I h) fun w s1 ⟨y, H1, I1, r1, q1⟩ => ?_
    refine thn (ho pins s1 σ H1 v y u w _ I1 r r1 q1) fun z s2 ⟨zv, H2, I2, r2, q2⟩ => ?_
    exact store_ok I2 hN hi hx r2 (fun s3 I3 => ⟨_, H2, I3, q2⟩) hf
  rcases l with ⟨hk, hm⟩ | ⟨hk, c, hc, hcell⟩
  · exact wpAny_loadName_local I.ok.kind hk hn hm go
  · rcases hk with hk | hk
    · exact wpAny_loadName_cell I.ok.kind hk hc hcell go
    · rcases hx with k | k
      · have : X.env.scope.names.lookup x = some .free := hk
        rw [k] at this; cases this
      · have : X.env.scope.names.lookup x = some .free := hk
        rw [k] at this; cases this
/-- o[i] op= e -/
def tAugS (to ti te : TE) (tget : V → V → Hp → VK → Prop) (tip : TIp) (tset : TSet) : TS := fun D σ H => to σ H fun o H1 => ti σ H1 fun i H2 => tget o i H2 fun x H3 => te σ H3 fun y H4 => tip x y H4 fun z H5 => tset o i z H5 fun H6 => D.nx σ H6
/-- o[i], by values -/
def PGet (X : Cx) (t : V → V → Hp → VK → Prop) : Prop :=
  ∀ (pins : List (Addr × Obj)) (s : Shared) (σ : St) (H : Hp) (o i : V) (ov iv : Value) (Q : VK), Inv X pins σ H s → RelV o ov → RelV i iv → t o i H Q →
    wpAny (model X.prog X.w) X.A (getItem ov iv) (EP X pins σ Q) X.xe s
theorem ps_augS {o i e : Expr} {to ti te : TE} {tget : V → V → Hp → VK → Prop} {tip : TIp} {tset : TSet} {op : Operator} {tpos : Pos} (ho : PE X o to) (hi : PE X i ti) (hg : PGet X tget) (he : PE X e te) (hp : PIp X op tip) (hs : PSet X tset)
    (ha : ∀ ov iv new, augStore i ov iv new = (do holding [new, ov, iv] (setItem ov iv new); release [new, ov, iv] []; pure .next) := by intros; rfl) : PS X (.AugAssign (.Subscript o i tpos) op e pos) (tAugS to ti te tget tip tset) := by
  intro pins s σ H D I h
  refine wpAny_AugAssign_SubscriptAny (thn (ho pins s σ H _ I h) fun ov s1 ⟨x1, H1, I1, r1, q1⟩ => ?_) ha
  refine thn (hi pins s1 σ H1 _ I1 q1) fun iv s2 ⟨x2, H2, I2, r2, q2⟩ => ?_
  refine thn (hg pins s2 σ H2 x1 x2 ov iv _ I2 r1 r2 q2) fun old s3 ⟨x3, H3, I3, r3, q3⟩ => ?_
  refine thn (he pins s3 σ H3 _ I3 q3) fun v s4 ⟨x4, H4, I4, r4, q4⟩ => ?_
  refine thn (hp pins s4 σ H4 x3 x4 old v _ I4 r3 r4 q4) fun new s5 ⟨x5, H5, I5, r5, q5⟩ => ?_
  exact thn (hs pins s5 σ H5 x1 x2 x5 ov iv new _ I5 r1 r2 r5 q5) fun _ s6 ⟨H6, I6, q6⟩ => ⟨σ, H6, I6, q6⟩
/-- ints -/
def ipI (f : Int → Int → Int) : TIp := fun x y H Q => ∃ i j, x = .int i ∧ y = .int j ∧ Q (.int (f i j)) H
theorem ip_add : PIp X .Add (ipI fun i j => i + j) := by
  intro pins s σ H x y v u Q I r1 r2 h
  obtain ⟨i, j, e1, e2, q⟩ := h
  subst e1; subst e2
  obtain ⟨t, rfl⟩ := r1
  obtain ⟨t', rfl⟩ := r2
  exact iadd_int ⟨.int _, H, I.tok _, ⟨_, rfl⟩, q⟩
theorem ip_sub : PIp X .Sub (ipI fun i j => i - j) := by
  intro pins s σ H x y v u Q I r1 r2 h
  obtain ⟨i, j, e1, e2, q⟩ := h
  subst e1; subst e2
  obtain ⟨t, rfl⟩ := r1
  obtain ⟨t', rfl⟩ := r2
  exact isub_int ⟨.int _, H, I.tok _, ⟨_, rfl⟩, q⟩
end

/-! ### while -/
section
variable {X : Cx} {pos : Pos}
/-- the invariant W with its measure -/
def tWhile (c : TT) (tb : TS) : TS := fun D σ H => ∃ W : Nat → St → Hp → Prop, (∃ m, W m σ H) ∧ ∀ m σ H, W m σ H →
  c σ H fun b H1 => if b = true then ∃ N : St → Hp → Prop, (∀ σ' H', N σ' H' → ∃ m', m' < m ∧ W m' σ' H') ∧ tb { D with nx := N, ct := N, bk := D.nx } σ H1 else D.nx σ H1
theorem ps_while {c : Expr} {body : List Stmt} {tc : TT} {tb : TS} (hp : PassesOwn (model X.prog X.w) X.A X.env X.xe) (hc : PT X c tc) (hb : PSs X body tb) : PS X (.While c body [] pos) (tWhile tc tb) := by
  intro pins s σ H D I h
  obtain ⟨W, ⟨m0, w0⟩, turn⟩ := h
  refine wpAny_While (codeAny_whileLoop (fun n s' => ∃ σ' H', Inv X pins σ' H' s' ∧ W n σ' H') ?_ m0 ⟨σ, H, I, w0⟩)
  rintro n s1 ⟨σ1, H1, I1, w1⟩
  refine wpAny_passesOwn hp (thn (hc pins s1 σ1 H1 _ I1 (turn n σ1 H1 w1)) fun b s2 ⟨H2, I2, q2⟩ => ?_)
  cases b with
  | true =>
    obtain ⟨N, hN, q2⟩ := q2
    rw [if_pos rfl]
    refine wpAny_passesOwn hp (thn (hb pins s2 σ1 H2 _ I2 q2) fun f s3 q3 => ?_)
    cases f with
    | next =>
      obtain ⟨σ3, H3, I3, n3⟩ := q3
      obtain ⟨m', hm, w3⟩ := hN σ3 H3 n3
      exact ⟨m', hm, σ3, H3, I3, w3⟩
    | cont =>
      obtain ⟨σ3, H3, I3, n3⟩ := q3
      obtain ⟨m', hm, w3⟩ := hN σ3 H3 n3
      exact ⟨m', hm, σ3, H3, I3, w3⟩
    | brk => exact q3
    | ret v => exact q3
  | false =>
    rw [if_neg Bool.false_ne_true]
    exact wpAny_execs_nil ⟨σ1, H2, I2, q2⟩
end

/-! ### what a loop or a comprehension walks -/
/-- at turn i: it yields x (the heap may grow), or it stops -/
structure It where
  go : Nat → Hp → Prop
  yld : Nat → Hp → V → Hp → Prop
  stop : Nat → Hp → Prop
/-- the iterator's own objects may turn: they are not the frame's, not pinned, younger than the entry (or a comprehension's own) -/
def FpOk (X : Cx) (pins : List (Addr × Obj)) (H : Hp) (b : Addr) : Prop :=
  H b = none ∧ b ≠ X.env.locals ∧ b ∉ X.fs ∧ (b ∈ X.ex ∨ X.s₀.heap.objs.size ≤ b) ∧ (∀ x c, X.env.cells.lookup x = some c → c ≠ b) ∧ ∀ p ∈ X.pn ++ pins, p.1 ≠ b
theorem Inv.fpOk {X : Cx} {pins : List (Addr × Obj)} {σ : St} {H H' : Hp} {s : Shared} {b : Addr} (I : Inv X pins σ H s) (hb : s.heap.objs.size ≤ b) (hn : H' b = none) : FpOk X pins H' b := by
  refine ⟨hn, Nat.ne_of_gt (Nat.lt_of_lt_of_le I.lt hb), I.nofs hb, .inr (Nat.le_trans I.sz hb), fun x c e z => ?_, fun p hp z => ?_⟩
  · obtain ⟨v, q⟩ := I.cell x c e
    exact absurd (Nat.lt_of_lt_of_le q.lt (by rw [z]; exact hb)) (Nat.lt_irrefl _)
  · exact absurd (Nat.lt_of_lt_of_le (Heap.lt_size (I.pin p hp).1) (by rw [z]; exact hb)) (Nat.lt_irrefl _)
structure Turn (P : Program) (w : World) (K : PySem.W.Frag) (tg : Expr) (J : It) (fp : List Addr) (it : Addr) (tn : Nat → Heap → Prop) : Prop where
  mem : it ∈ fp
  obj : ∀ i h, tn i h → ∀ b ∈ fp, ∃ o, h.get? b = some o ∧ ∀ v, o.data ≠ .cell v
  keep : ∀ i h h', tn i h → (∀ b ∈ fp, ∀ o, h.get? b = some o → h'.get? b = some o) → tn i h'
  item : ∀ (X : Cx), X.prog = P → X.w = w → X.K = K → X.calm = true → ∀ (i : Nat) (pins : List (Addr × Obj)) (s : Shared) (σ : St) (H : Hp) (E : Value → Shared → Prop), Inv X pins σ H s → (∀ b ∈ fp, FpOk X pins H b) → tn i s.heap → J.go i H →
    wpAny (model P w) X.A (pyNext (.ref it)) (fun r s1 => ∃ u, r = some u ∧
      wpAny (model P w) X.A (letOwnedTupleGo tg (.ref it) u) (fun _ s2 => ∃ x H', Inv X pins σ H' s2 ∧ RelV x u ∧ J.yld i H x H' ∧ tn (i + 1) s2.heap ∧ ∀ b ∈ fp, H' b = none) E s1) E s
  done : ∀ (X : Cx), X.prog = P → X.w = w → X.K = K → X.calm = true → ∀ (i : Nat) (pins : List (Addr × Obj)) (s : Shared) (σ : St) (H : Hp) (E : Value → Shared → Prop), Inv X pins σ H s → (∀ b ∈ fp, FpOk X pins H b) → tn i s.heap → J.stop i H →
    wpAny (model P w) X.A (pyNext (.ref it)) (fun r s1 => r = none ∧ Inv X pins σ H s1) E s
  self : ∀ (A : Around) (i : Nat) (s : Shared) (Q : Value → Shared → Prop) (E : Value → Shared → Prop), tn i s.heap → Q (.ref it) s → wpAny (model P w) A (pyIter (.ref it)) Q E s
abbrev TI := St → Hp → (It → Hp → Prop) → Prop
/-- an iterator has come -/
def PIE (X : Cx) (pins : List (Addr × Obj)) (σ : St) (tg : Expr) (R : It → Hp → Prop) (itv : Value) (s2 : Shared) : Prop :=
  ∃ (it : Addr) (fp : List Addr) (tn : Nat → Heap → Prop) (J : It) (H' : Hp), itv = .ref it ∧ Inv X pins σ H' s2 ∧ Turn X.prog X.w X.K tg J fp it tn ∧ tn 0 s2.heap ∧ (∀ b ∈ fp, FpOk X pins H' b) ∧ R J H'
def PI (X : Cx) (tg iter : Expr) (wi : TI) : Prop :=
  ∀ (pins : List (Addr × Obj)) (s : Shared) (σ : St) (H : Hp) (R : It → Hp → Prop), Inv X pins σ H s → wi σ H R →
    wpAny (model X.prog X.w) X.A (eval iter X.env) (fun v s1 => wpAny (model X.prog X.w) X.A (pyIter v) (PIE X pins σ tg R) X.xe s1) X.xe s

/-- the step ahead of the store is nothing for an iterator that keeps no tuple -/
theorem go_of {M : Model} {A : Around} {E : Value → Shared → Prop} {s : Shared} {tg : Expr} {it : Addr} {u : Value} {o : Obj} {n : String} {vs : Array Value} {Q : Unit → Shared → Prop} (ho : s.heap.get? it = some o) (hc : o.cls = .type n) (hd : o.data = .fields vs)
    (hn : ["enumerate", "zip", "dict_itemiterator", "dict_reverseitemiterator", "odict_iterator", "itertools.zip_longest", "itertools.pairwise"].contains n = false) (hQ : Q () s) : wpAny M A (letOwnedTupleGo tg (.ref it) u) Q E s := by
  unfold letOwnedTupleGo
  cases tg <;> first
    | exact wpAny_pure hQ
    | (cases u <;> first
        | exact wpAny_pure hQ
        | (refine wpAny_bind (wpAny_load ho ?_)
           rw [hc, hd]
           show wpAny M A (if (["enumerate", "zip", "dict_itemiterator", "dict_reverseitemiterator", "odict_iterator", "itertools.zip_longest", "itertools.pairwise"].contains n && vs[0]? == some (rawInt _)) = true then _ else _) Q E s
           rw [if_neg (by intro h; rw [hn, Bool.false_and] at h; cases h)]
           exact wpAny_pure hQ))

/-- the list at a, as it stands at each turn (a loop may append to it) -/
def Itl (K : PySem.W.Frag) (a : Addr) : It :=
  ⟨fun i H => ∃ xs x, SqL K H a xs ∧ xs[i]? = some x, fun i H x H' => H' = H ∧ ∀ xs, SqL K H a xs → xs[i]? = some x, fun i H => ∃ xs, SqL K H a xs ∧ xs.length ≤ i⟩
def Itt (K : PySem.W.Frag) (a : Addr) : It :=
  ⟨fun i H => ∃ xs x, SqT K H a xs ∧ xs[i]? = some x, fun i H x H' => H' = H ∧ ∀ xs, SqT K H a xs → xs[i]? = some x, fun i H => ∃ xs, SqT K H a xs ∧ xs.length ≤ i⟩
/-- lo, lo + 1, .. (n of them) -/
def Itr (lo : Int) (n : Nat) : It := ⟨fun i _ => i < n, fun i H x H' => H' = H ∧ x = .int (lo + i), fun i _ => n ≤ i⟩
theorem turn_list {P : Program} {w : World} {K : PySem.W.Frag} {tg : Expr} (a it : Addr) : Turn P w K tg (Itl K a) [it] it (fun i h => h.IsListIter it a i) where
  mem := by simp
  obj := fun i h st b hb => by
    have e : b = it := by simpa using hb
    subst e
    obtain ⟨o, e, c, d⟩ := st
    exact ⟨o, e, fun v z => by rw [d] at z; cases z⟩
  keep := fun i h h' st k => st.at fun o e => k it (by simp) o e
  item := by
    intro X hP hw hK hc i pins s σ H E I hf st hg
    subst hP hw hK
    obtain ⟨xs, x, hq, hx⟩ := hg
    obtain ⟨its, rv, p, hz⟩ := I.list hq
    obtain ⟨u, hu, ru⟩ := rv.get hx
    obtain ⟨f0, f1, f2, f3, f4, f5⟩ := hf it (by simp)
    refine wpAny_pyNext_list_item st p.isList (x := u) (by simpa using hu) fun h' st' sb => ?_
    have I1 : Inv X pins σ H { s with heap := h' } := I.turned (t' := s.toks) (fun b o hb e => (sb.2 b hb).trans e) f0 f1 f3 f4 f5
    obtain ⟨o, e, c, d⟩ := id st'
    exact ⟨u, rfl, go_of (s := { s with heap := h' }) e c d (by decide) ⟨x, H, I1, ru, ⟨rfl, fun ys hy => by rw [I.list_inj hy hq]; exact hx⟩, st', fun b hb => (hf b hb).1⟩⟩
  done := by
    intro X hP hw hK hc i pins s σ H E I hf st hg
    subst hP hw hK
    obtain ⟨xs, hq, hx⟩ := hg
    obtain ⟨its, rv, p, hz⟩ := I.list hq
    obtain ⟨f0, f1, f2, f3, f4, f5⟩ := hf it (by simp)
    have hl := rv.length
    exact wpAny_pyNext_list_end (I.ok.hd hc) st p.isList (by simp; omega) fun h' eb => ⟨rfl, I.turned (t' := s.toks) (fun b o hb e => eb b o hb e) f0 f1 f3 f4 f5⟩
  self := fun _ _ _ _ _ st h => wpAny_pyIter_listiter st h
theorem turn_tuple {P : Program} {w : World} {K : PySem.W.Frag} {tg : Expr} (a it : Addr) : Turn P w K tg (Itt K a) [it] it (fun i h => h.IsTupleIter it a i) where
  mem := by simp
  obj := fun i h st b hb => by
    have e : b = it := by simpa using hb
    subst e
    obtain ⟨o, e, c, d⟩ := st
    exact ⟨o, e, fun v z => by rw [d] at z; cases z⟩
  keep := fun i h h' st k => st.at fun o e => k it (by simp) o e
  item := by
    intro X hP hw hK hc i pins s σ H E I hf st hg
    subst hP hw hK
    obtain ⟨xs, x, hq, hx⟩ := hg
    obtain ⟨its, rv, p, hz⟩ := I.tuple hq
    obtain ⟨u, hu, ru⟩ := rv.get hx
    obtain ⟨f0, f1, f2, f3, f4, f5⟩ := hf it (by simp)
    refine wpAny_pyNext_tuple_item st (show s.heap.IsTuple a its.toArray from p) (x := u) (by simpa using hu) fun h' st' sb => ?_
    have I1 : Inv X pins σ H { s with heap := h' } := I.turned (t' := s.toks) (fun b o hb e => (sb.2 b hb).trans e) f0 f1 f3 f4 f5
    obtain ⟨o, e, c, d⟩ := id st'
    exact ⟨u, rfl, go_of (s := { s with heap := h' }) e c d (by decide) ⟨x, H, I1, ru, ⟨rfl, fun ys hy => by rw [I.tuple_inj hy hq]; exact hx⟩, st', fun b hb => (hf b hb).1⟩⟩
  done := by
    intro X hP hw hK hc i pins s σ H E I hf st hg
    subst hP hw hK
    obtain ⟨xs, hq, hx⟩ := hg
    obtain ⟨its, rv, p, hz⟩ := I.tuple hq
    obtain ⟨f0, f1, f2, f3, f4, f5⟩ := hf it (by simp)
    have hl := rv.length
    exact wpAny_pyNext_tuple_end (I.ok.hd hc) st (show s.heap.IsTuple a its.toArray from p) (by simp; omega) fun h' eb => ⟨rfl, I.turned (t' := s.toks) (fun b o hb e => eb b o hb e) f0 f1 f3 f4 f5⟩
  self := fun _ _ _ _ _ st h => wpAny_pyIter_tupleiter st h
theorem turn_range {P : Program} {w : World} {K : PySem.W.Frag} {tg : Expr} (it : Addr) (lo : Int) (n : Nat) : Turn P w K tg (Itr lo n) [it] it (fun i h => IsRangeIter h it (lo + (i : Nat) * 1) ((n : Int) - (i : Nat)) 1) where
  mem := by simp
  obj := fun i h st b hb => by
    have e : b = it := by simpa using hb
    subst e
    exact ⟨_, st, fun v z => by
      have z' : Data.fields _ = Data.cell v := z
      cases z'⟩
  keep := fun i h h' st k => k it (by simp) _ st
  item := by
    intro X hP hw hK hc i pins s σ H E I hf st hg
    subst hP hw hK
    obtain ⟨f0, f1, f2, f3, f4, f5⟩ := hf it (by simp)
    have W := Walks.range (prog := X.prog) (w := X.w) (I.ok.hd hc) it lo 1 n
    refine W.item i s _ _ hg st fun v h' tk hv st' kk => ?_
    obtain ⟨t, rfl⟩ := hv
    have I1 : Inv X pins σ H { s with heap := h', toks := tk } := I.turned (fun b o hb e => kk b o (by simpa using hb) e) f0 f1 f3 f4 f5
    refine ⟨_, rfl, go_of (s := { s with heap := h', toks := tk }) (n := "range_iterator") st' rfl rfl (by decide) ⟨.int (lo + i), H, I1, ⟨t, ?_⟩, ⟨rfl, rfl⟩, st', fun b hb => (hf b hb).1⟩⟩
    rw [Int.mul_one]
  done := by
    intro X hP hw hK hc i pins s σ H E I hf st hg
    subst hP hw hK
    obtain ⟨f0, f1, f2, f3, f4, f5⟩ := hf it (by simp)
    exact wpAny_pyNext_range_end (I.ok.hd hc) st (by have : n ≤ i := hg; omega) fun h' eb => ⟨rfl, I.turned (t' := s.toks) (fun b o hb e => eb b o hb e) f0 f1 f3 f4 f5⟩
  self := fun _ _ _ _ _ st h => wpAny_pyIter_rangeiter st h
end L2

namespace L2
open PySem PySem.Spec PyProof.Rows
section
variable {X : Cx} {tg : Expr}
def iList (K : PySem.W.Frag) (tl : TE) : TI := fun σ H R => tl σ H fun x H1 => ∃ a, x = .ref a ∧ (∃ xs, SqL K H1 a xs) ∧ R (Itl K a) H1
def iTup (K : PySem.W.Frag) (tl : TE) : TI := fun σ H R => tl σ H fun x H1 => ∃ a, x = .ref a ∧ (∃ xs, SqT K H1 a xs) ∧ R (Itt K a) H1
theorem pi_list {l : Expr} {tl : TE} (hl : PE X l tl) : PI X tg l (iList X.K tl) := by
  intro pins s σ H R I h
  refine thn (hl pins s σ H _ I h) fun v s1 ⟨x, H1, I1, r1, q1⟩ => ?_
  obtain ⟨a, e, ⟨xs, hq⟩, q⟩ := q1
  subst e
  cases r1
  obtain ⟨its, rv, p, hz⟩ := I1.list hq
  refine wpAny_pyIter_list p.isList ?_
  refine ⟨s1.heap.objs.size, [s1.heap.objs.size], _, _, H1, rfl, I1.kept (t' := s1.toks) fun b o e => Heap.get?_push_of_some _ e, turn_list a _, ⟨_, Heap.get?_push_size _ rfl, rfl, rfl⟩, fun b hb => ?_, q⟩
  have e : b = s1.heap.objs.size := by simpa using hb
  subst e
  exact I1.fpOk (Nat.le_refl _) (I1.hok.fresh (Nat.le_refl _))
theorem pi_tup {l : Expr} {tl : TE} (hl : PE X l tl) : PI X tg l (iTup X.K tl) := by
  intro pins s σ H R I h
  refine thn (hl pins s σ H _ I h) fun v s1 ⟨x, H1, I1, r1, q1⟩ => ?_
  obtain ⟨a, e, ⟨xs, hq⟩, q⟩ := q1
  subst e
  cases r1
  obtain ⟨its, rv, p, hz⟩ := I1.tuple hq
  refine wpAny_pyIter_tuple (show s1.heap.IsTuple a its.toArray from p) ?_
  refine ⟨s1.heap.objs.size, [s1.heap.objs.size], _, _, H1, rfl, I1.kept (t' := s1.toks) fun b o e => Heap.get?_push_of_some _ e, turn_tuple a _, ⟨_, Heap.get?_push_size _ rfl, rfl, rfl⟩, fun b hb => ?_, q⟩
  have e : b = s1.heap.objs.size := by simpa using hb
  subst e
  exact I1.fpOk (Nat.le_refl _) (I1.hok.fresh (Nat.le_refl _))
/-- a range object just made, walked -/
theorem range_it {pins : List (Addr × Obj)} {σ : St} {H : Hp} {s : Shared} {R : It → Hp → Prop} {E : Value → Shared → Prop} {lo hi : Int} {t u v : Tok} {tk : Nat} (I : Inv X pins σ H s) (h1 : -(2 ^ 62) ≤ lo) (h2 : lo < 2 ^ 62) (h3 : -(2 ^ 62) ≤ hi) (h4 : hi < 2 ^ 62)
    (q : R (Itr lo (hi - lo).toNat) H) : wpAny (model X.prog X.w) X.A (pyIter (.ref s.heap.objs.size)) (PIE X pins σ tg R) E { s with heap := s.heap.push { cls := .type "range", data := .fields #[.int lo t, .int hi u, .int 1 v] }, toks := tk } := by
  refine wpAny_pyIter_range (IsRange.new ..) (small_one h1 h2 h3 h4) ?_
  have I1 : Inv X pins σ H { s with heap := s.heap.push { cls := .type "range", data := .fields #[.int lo t, .int hi u, .int 1 v] }, toks := tk } := I.kept fun b o e => Heap.get?_push_of_some _ e
  refine ⟨(s.heap.push { cls := .type "range", data := .fields #[.int lo t, .int hi u, .int 1 v] }).objs.size, [(s.heap.push { cls := .type "range", data := .fields #[.int lo t, .int hi u, .int 1 v] }).objs.size], _, _, H, rfl,
    I1.kept (t' := tk) fun b o e => Heap.get?_push_of_some _ e, turn_range _ lo (hi - lo).toNat, ?_, fun b hb => ?_, q⟩
  · have e1 : lo + ((0 : Nat) : Int) * 1 = lo := by simp
    have e2 : (((hi - lo).toNat : Nat) : Int) - ((0 : Nat) : Int) = Builtin.Range.rangeSize lo hi 1 := by rw [rangeSize_one]; split <;> omega
    show IsRangeIter _ _ (lo + ((0 : Nat) : Int) * 1) ((((hi - lo).toNat : Nat) : Int) - ((0 : Nat) : Int)) 1
    rw [e1, e2]
    exact Heap.get?_push_size _ rfl
  · have e : b = (s.heap.push { cls := .type "range", data := .fields #[.int lo t, .int hi u, .int 1 v] }).objs.size := by simpa using hb
    subst e
    exact I1.fpOk (Nat.le_refl _) (I1.hok.fresh (Nat.le_refl _))
def iRng1 (ta : TA) : TI := fun σ H R => ta σ H fun vs H1 => ∃ j : Int, vs = [.int j] ∧ -(2 ^ 62) ≤ j ∧ j < 2 ^ 62 ∧ R (Itr 0 j.toNat) H1
def iRng2 (ta : TA) : TI := fun σ H R => ta σ H fun vs H1 => ∃ i j : Int, vs = [.int i, .int j] ∧ (-(2 ^ 62) ≤ i ∧ i < 2 ^ 62 ∧ -(2 ^ 62) ≤ j ∧ j < 2 ^ 62) ∧ R (Itr i (j - i).toNat) H1
theorem pi_range1 {a : Expr} {ta : TA} {p pos : Pos} (hg : Gl X "range") (hm : X.mg "range" = none) (ha : PA X [a] ta) (hs : starEach [a] X.env = [(false, eval a X.env)] := by rfl) : PI X tg (.Call (.Name "range" p) [a] [] pos) (iRng1 ta) := by
  intro pins s σ H R I h
  refine Call_ (ld_blt I hg hm boot_range (PyProof.Rows.callWith_type1 (thn (ha pos pins s σ H _ I h) fun us s1 ⟨vs, H1, I1, r1, q1⟩ => ?_) hs rfl))
  obtain ⟨j, e, q1, q2, q⟩ := q1
  subst e
  cases r1 with
  | cons r rr =>
    cases rr
    obtain ⟨t, rfl⟩ := r
    exact call_range_1 (range_it I1 (by omega) (by omega) q1 q2 (by simpa using q))
theorem pi_range2 {a b : Expr} {ta : TA} {p pos : Pos} (hg : Gl X "range") (hm : X.mg "range" = none) (ha : PA X [a, b] ta) (hs : starEach [a, b] X.env = [(false, eval a X.env), (false, eval b X.env)] := by rfl) (hs2 : starEach [b] X.env = [(false, eval b X.env)] := by rfl) :
    PI X tg (.Call (.Name "range" p) [a, b] [] pos) (iRng2 ta) := by
  intro pins s σ H R I h
  refine Call_ (ld_blt I hg hm boot_range (PyProof.Rows.callWith_type1 (thn (ha pos pins s σ H _ I h) fun us s1 ⟨vs, H1, I1, r1, q1⟩ => ?_) (by rw [hs, hs2]) (by rw [hs2]; rfl)))
  obtain ⟨i, j, e, ⟨q1, q2, q3, q4⟩, q⟩ := q1
  subst e
  cases r1 with
  | cons r rr =>
    cases rr with
    | cons r' rr =>
      cases rr
      obtain ⟨t, rfl⟩ := r
      obtain ⟨t', rfl⟩ := r'
      exact call_range_2 (range_it I1 q1 q2 q3 q4 q)

/-! ### for -/
/-- W: the invariant by the turn and a measure; N: what the body is to reach -/
def tFor (wi : TI) (g : TG) (tb : TS) : TS := fun D σ H => wi σ H fun J H1 => ∃ W : Nat → Nat → St → Hp → Prop, (∃ m, W 0 m σ H1) ∧ ∀ i m σ H, W i m σ H →
  (J.stop i H ∧ D.nx σ H) ∨ (J.go i H ∧ ∃ N : St → Hp → Prop, (∀ σ' H', N σ' H' → ∃ m', m' < m ∧ W (i + 1) m' σ' H') ∧ ∀ x H', J.yld i H x H' → g x σ H' fun σ2 H2 => tb { D with nx := N, ct := N, bk := D.nx } σ2 H2)
/-- the records at fp as they stand -/
def pinsAt (fp : List Addr) (h : Heap) : List (Addr × Obj) := fp.filterMap fun b => (h.get? b).map fun o => (b, o)
theorem mem_pinsAt {fp : List Addr} {h : Heap} {b : Addr} {o : Obj} (hb : b ∈ fp) (e : h.get? b = some o) : (b, o) ∈ pinsAt fp h := List.mem_filterMap.mpr ⟨b, hb, by rw [e]; rfl⟩
theorem of_pinsAt {fp : List Addr} {h : Heap} {p : Addr × Obj} (hp : p ∈ pinsAt fp h) : p.1 ∈ fp ∧ h.get? p.1 = some p.2 := by
  obtain ⟨b, hb, e⟩ := List.mem_filterMap.mp hp
  cases q : h.get? b with
  | none => rw [q] at e; cases e
  | some o =>
    rw [q] at e
    have e' : (b, o) = p := Option.some.inj e
    subst e'
    exact ⟨hb, q⟩
theorem Inv.pinned {pins : List (Addr × Obj)} {σ : St} {H : Hp} {s : Shared} {fp : List Addr} (I : Inv X pins σ H s) (hf : ∀ b ∈ fp, FpOk X pins H b) (ho : ∀ b ∈ fp, ∃ o, s.heap.get? b = some o ∧ ∀ v, o.data ≠ .cell v) : Inv X (pins ++ pinsAt fp s.heap) σ H s :=
  I.pins_of fun p hp => (List.mem_append.mp hp).elim (fun z => I.pin p (List.mem_append_right _ z)) fun z => by
    obtain ⟨hb, e⟩ := of_pinsAt z
    obtain ⟨f0, f1, f2, _⟩ := hf p.1 hb
    obtain ⟨o, e', d⟩ := ho p.1 hb
    rw [e] at e'; cases e'
    exact ⟨e, f0, f1, f2, d⟩
theorem Inv.unpinned {pins pl : List (Addr × Obj)} {σ : St} {H : Hp} {s : Shared} (I : Inv X (pins ++ pl) σ H s) : Inv X pins σ H s := I.pins_of fun p hp => I.pin p (List.mem_append_right _ (List.mem_append_left _ hp))
theorem ps_for {iter : Expr} {body : List Stmt} {wi : TI} {g : TG} {tb : TS} {pos : Pos} (hp : PassesOwn (model X.prog X.w) X.A X.env X.xe) (hc : X.calm = true) (hi : PI X tg iter wi) (hg : PG X tg g) (hb : PSs X body tb)
    (hs : ∀ x, foldedSetIterable iter X.env x = pure x := by intro _; rfl) : PS X (.For tg iter body [] pos) (tFor wi g tb) := by
  intro pins s σ H D I h
  refine wpAny_For (thn (hi pins s σ H _ I h) fun v s1 h1 => thn h1 fun itv s2 h2 => ?_) hs
  obtain ⟨it, fp, tn, J, H2, e, I2, T, st2, f2, W, ⟨m0, w0⟩, turn⟩ := h2
  subst e
  -- what stays true of the iterator's objects through the loop
  have stat : ∀ {H' : Hp}, (∀ b ∈ fp, H' b = none) → ∀ b ∈ fp, FpOk X pins H' b := fun hn b hb => ⟨hn b hb, (f2 b hb).2⟩
  refine codeAny_forLoop_any (fun n s' => ∃ i σ' H', Inv X pins σ' H' s' ∧ tn i s'.heap ∧ (∀ b ∈ fp, H' b = none) ∧ W i n σ' H') ?_ m0 ⟨0, σ, H2, I2, st2, fun b hb => (f2 b hb).1, w0⟩
  rintro n s3 ⟨i, σ3, H3, I3, st3, fr3, w3⟩
  rcases turn i n σ3 H3 w3 with ⟨stop, qn⟩ | ⟨go, N, hN, step⟩
  · refine wpAny_passesOwn hp (thn (T.done X rfl rfl rfl hc i pins s3 σ3 H3 X.xe I3 (stat fr3) st3 stop) fun r s4 ⟨hr, I4⟩ => ?_)
    subst hr
    exact wpAny_execs_nil ⟨σ3, H3, I4, qn⟩
  · refine wpAny_passesOwn hp (thn (T.item X rfl rfl rfl hc i pins s3 σ3 H3 X.xe I3 (stat fr3) st3 go) fun r s4 ⟨u, hr, h4⟩ => ?_)
    subst hr
    refine wpAny_passesOwn hp (thn h4 fun _ s5 ⟨x, H5, I5, r5, y5, st5, fr5⟩ => ?_)
    have I5' := I5.pinned (stat fr5) (T.obj _ _ st5)
    refine wpAny_passesOwn hp (thn (hg _ s5 σ3 H5 x u _ I5' r5 (step x H5 y5)) fun _ s6 ⟨σ6, H6, I6, q6⟩ => ?_)
    refine wpAny_passesOwn hp (thn (hb _ s6 σ6 H6 _ I6 q6) fun f s7 q7 => ?_)
    have again : ∀ {σ7 : St} {H7 : Hp}, Inv X (pins ++ pinsAt fp s5.heap) σ7 H7 s7 → N σ7 H7 → ∃ m, m < n ∧ ∃ i σ' H', Inv X pins σ' H' s7 ∧ tn i s7.heap ∧ (∀ b ∈ fp, H' b = none) ∧ W i m σ' H' := fun {σ7 H7} I7 n7 => by
      obtain ⟨m', hm, w7⟩ := hN σ7 H7 n7
      refine ⟨m', hm, i + 1, σ7, H7, I7.unpinned, T.keep _ _ _ st5 fun b hb o e => (I7.pin (b, o) (List.mem_append_right _ (List.mem_append_right _ (mem_pinsAt hb e)))).1, fun b hb => ?_, w7⟩
      obtain ⟨o, e, d⟩ := T.obj _ _ st5 b hb
      exact (I7.pin (b, o) (List.mem_append_right _ (List.mem_append_right _ (mem_pinsAt hb e)))).2.1
    cases f with
    | next => obtain ⟨σ7, H7, I7, n7⟩ := q7; exact again I7 n7
    | cont => obtain ⟨σ7, H7, I7, n7⟩ := q7; exact again I7 n7
    | brk => obtain ⟨σ7, H7, I7, q7⟩ := q7; exact ⟨σ7, H7, I7.unpinned, q7⟩
    | ret v => obtain ⟨x7, σ7, H7, I7, r7, q7⟩ := q7; exact ⟨x7, σ7, H7, I7.unpinned, r7, q7⟩
end

/-! ### the forms one uses -/
/-- over a list that the body leaves as it is -/
theorem for_list {K : PySem.W.Frag} {a : Addr} {xs : List V} {g : TG} {tb : TS} {D : Ends} {σ : St} {H : Hp} (Pv : Nat → St → Hp → Prop) (h0 : Pv 0 σ H) (hl : ∀ i σ H, i ≤ xs.length → Pv i σ H → SqL K H a xs)
    (hs : ∀ i x σ H, xs[i]? = some x → Pv i σ H → g x σ H fun σ2 H2 => tb { D with nx := Pv (i + 1), ct := Pv (i + 1), bk := D.nx } σ2 H2) (hd : ∀ σ H, Pv xs.length σ H → D.nx σ H) :
    ∃ W : Nat → Nat → St → Hp → Prop, (∃ m, W 0 m σ H) ∧ ∀ i m σ H, W i m σ H →
      ((Itl K a).stop i H ∧ D.nx σ H) ∨ ((Itl K a).go i H ∧ ∃ N : St → Hp → Prop, (∀ σ' H', N σ' H' → ∃ m', m' < m ∧ W (i + 1) m' σ' H') ∧ ∀ x H', (Itl K a).yld i H x H' → g x σ H' fun σ2 H2 => tb { D with nx := N, ct := N, bk := D.nx } σ2 H2) := by
  refine ⟨fun i m σ H => m = xs.length - i ∧ i ≤ xs.length ∧ Pv i σ H, ⟨xs.length, by simp, Nat.zero_le _, h0⟩, ?_⟩
  rintro i m σ H ⟨rfl, hi, p⟩
  have q := hl i σ H hi p
  by_cases hlt : i < xs.length
  · refine .inr ⟨⟨xs, xs[i], q, by simp [hlt]⟩, Pv (i + 1), fun σ' H' p' => ⟨xs.length - (i + 1), by omega, rfl, hlt, p'⟩, fun x H' y => ?_⟩
    obtain ⟨e, y⟩ := y
    subst e
    exact hs i x σ _ (y xs q) p
  · have e : i = xs.length := by omega
    subst e
    exact .inl ⟨⟨xs, q, Nat.le_refl _⟩, hd σ H p⟩
theorem for_tup {K : PySem.W.Frag} {a : Addr} {xs : List V} {g : TG} {tb : TS} {D : Ends} {σ : St} {H : Hp} (Pv : Nat → St → Hp → Prop) (h0 : Pv 0 σ H) (hl : ∀ i σ H, i ≤ xs.length → Pv i σ H → SqT K H a xs)
    (hs : ∀ i x σ H, xs[i]? = some x → Pv i σ H → g x σ H fun σ2 H2 => tb { D with nx := Pv (i + 1), ct := Pv (i + 1), bk := D.nx } σ2 H2) (hd : ∀ σ H, Pv xs.length σ H → D.nx σ H) :
    ∃ W : Nat → Nat → St → Hp → Prop, (∃ m, W 0 m σ H) ∧ ∀ i m σ H, W i m σ H →
      ((Itt K a).stop i H ∧ D.nx σ H) ∨ ((Itt K a).go i H ∧ ∃ N : St → Hp → Prop, (∀ σ' H', N σ' H' → ∃ m', m' < m ∧ W (i + 1) m' σ' H') ∧ ∀ x H', (Itt K a).yld i H x H' → g x σ H' fun σ2 H2 => tb { D with nx := N, ct := N, bk := D.nx } σ2 H2) := by
  refine ⟨fun i m σ H => m = xs.length - i ∧ i ≤ xs.length ∧ Pv i σ H, ⟨xs.length, by simp, Nat.zero_le _, h0⟩, ?_⟩
  rintro i m σ H ⟨rfl, hi, p⟩
  have q := hl i σ H hi p
  by_cases hlt : i < xs.length
  · refine .inr ⟨⟨xs, xs[i], q, by simp [hlt]⟩, Pv (i + 1), fun σ' H' p' => ⟨xs.length - (i + 1), by omega, rfl, hlt, p'⟩, fun x H' y => ?_⟩
    obtain ⟨e, y⟩ := y
    subst e
    exact hs i x σ _ (y xs q) p
  · have e : i = xs.length := by omega
    subst e
    exact .inl ⟨⟨xs, q, Nat.le_refl _⟩, hd σ H p⟩
theorem for_range {lo : Int} {n : Nat} {g : TG} {tb : TS} {D : Ends} {σ : St} {H : Hp} (Pv : Nat → St → Hp → Prop) (h0 : Pv 0 σ H)
    (hs : ∀ i σ H, i < n → Pv i σ H → g (.int (lo + i)) σ H fun σ2 H2 => tb { D with nx := Pv (i + 1), ct := Pv (i + 1), bk := D.nx } σ2 H2) (hd : ∀ σ H, Pv n σ H → D.nx σ H) :
    ∃ W : Nat → Nat → St → Hp → Prop, (∃ m, W 0 m σ H) ∧ ∀ i m σ H, W i m σ H →
      ((Itr lo n).stop i H ∧ D.nx σ H) ∨ ((Itr lo n).go i H ∧ ∃ N : St → Hp → Prop, (∀ σ' H', N σ' H' → ∃ m', m' < m ∧ W (i + 1) m' σ' H') ∧ ∀ x H', (Itr lo n).yld i H x H' → g x σ H' fun σ2 H2 => tb { D with nx := N, ct := N, bk := D.nx } σ2 H2) := by
  refine ⟨fun i m σ H => m = n - i ∧ i ≤ n ∧ Pv i σ H, ⟨n, by simp, Nat.zero_le _, h0⟩, ?_⟩
  rintro i m σ H ⟨rfl, hi, p⟩
  by_cases hlt : i < n
  · refine .inr ⟨hlt, Pv (i + 1), fun σ' H' p' => ⟨n - (i + 1), by omega, rfl, hlt, p'⟩, fun x H' y => ?_⟩
    obtain ⟨e, y⟩ := y
    subst e y
    exact hs i σ _ hlt p
  · have e : i = n := by omega
    subst e
    exact .inl ⟨Nat.le_refl _, hd σ H p⟩
/-- while, by a word and a measure of the state -/
theorem while_by {c : TT} {tb : TS} {D : Ends} {σ : St} {H : Hp} (Pv : St → Hp → Prop) (μ : St → Hp → Nat) (h0 : Pv σ H)
    (hs : ∀ σ H, Pv σ H → c σ H fun b H1 => if b = true then tb { D with nx := fun σ' H' => Pv σ' H' ∧ μ σ' H' < μ σ H, ct := fun σ' H' => Pv σ' H' ∧ μ σ' H' < μ σ H, bk := D.nx } σ H1 else D.nx σ H1)
    (mono : ∀ σ H Q Q', (∀ b H1, Q b H1 → Q' b H1) → c σ H Q → c σ H Q') : tWhile c tb D σ H := by
  refine ⟨fun m σ H => m = μ σ H ∧ Pv σ H, ⟨_, rfl, h0⟩, ?_⟩
  rintro m σ H ⟨rfl, p⟩
  refine mono σ H _ _ (fun b H1 q => ?_) (hs σ H p)
  cases b with
  | true => exact ⟨_, fun σ' H' ⟨p', l⟩ => ⟨_, l, rfl, p'⟩, q⟩
  | false => exact q
end L2

namespace L2
open PySem PySem.Spec PyProof.Rows

abbrev R2 := V → V → Hp → VK → Prop
/-- a two-place operation on values: f is binaryOp op, inplaceOp op or compareOp op -/
def OpR (X : Cx) (f : Value → Value → Sem Value) (r : R2) : Prop :=
  ∀ (pins : List (Addr × Obj)) (s : Shared) (σ : St) (H : Hp) (x y : V) (v u : Value) (Q : VK), Inv X pins σ H s → RelV x v → RelV y u → r x y H Q →
    wpAny (model X.prog X.w) X.A (f v u) (EP X pins σ Q) X.xe s
/-- a one-place operation -/
def UnR (X : Cx) (f : Value → Sem Value) (r : V → Hp → VK → Prop) : Prop :=
  ∀ (pins : List (Addr × Obj)) (s : Shared) (σ : St) (H : Hp) (x : V) (v : Value) (Q : VK), Inv X pins σ H s → RelV x v → r x H Q →
    wpAny (model X.prog X.w) X.A (f v) (EP X pins σ Q) X.xe s
/-- a call of a value that is known (a builtin, a type) with values -/
def CallR (X : Cx) (f : Value) (r : List V → Hp → VK → Prop) : Prop :=
  ∀ (pins : List (Addr × Obj)) (s : Shared) (σ : St) (H : Hp) (xs : List V) (us : List Value) (Q : VK), Inv X pins σ H s → Vals xs us → r xs H Q →
    wpAny (model X.prog X.w) X.A (call f us) (EP X pins σ Q) X.xe s
/-- a value's truth -/
def TruR (X : Cx) (r : V → Hp → (Bool → Hp → Prop) → Prop) : Prop :=
  ∀ (pins : List (Addr × Obj)) (s : Shared) (σ : St) (H : Hp) (x : V) (v : Value) (Q : Bool → Hp → Prop), Inv X pins σ H s → RelV x v → r x H Q →
    wpAny (model X.prog X.w) X.A (truthy v) (TP X pins σ Q) X.xe s

def tOp (r : R2) (ta tb : TE) : TE := fun σ H Q => ta σ H fun x H1 => tb σ H1 fun y H2 => r x y H2 Q
def tUn (r : V → Hp → VK → Prop) (ta : TE) : TE := fun σ H Q => ta σ H fun x H1 => r x H1 Q
/-- ints in, under C, and a value out -/
def rI (C : Int → Int → Prop) (g : Int → Int → V) : R2 := fun x y H Q => ∃ i j, x = .int i ∧ y = .int j ∧ C i j ∧ Q (g i j) H
def rI0 (g : Int → Int → V) : R2 := fun x y H Q => ∃ i j, x = .int i ∧ y = .int j ∧ Q (g i j) H
def rU (g : Int → V) : V → Hp → VK → Prop := fun x H Q => ∃ i, x = .int i ∧ Q (g i) H

section
variable {X : Cx} {a b c : Expr} {ta tb tc : TE} {pos : Pos}

theorem binT (ha : PE X a ta) (hb : PE X b tb) {pins : List (Addr × Obj)} {s : Shared} {σ : St} {H : Hp} {R : V → V → Hp → Prop} (I : Inv X pins σ H s)
    (h : ta σ H fun x H1 => tb σ H1 fun y H2 => R x y H2) {Q : Value → Shared → Prop} {f : Value → Value → Sem Value}
    (hf : ∀ v u s2 x y H2, Inv X pins σ H2 s2 → RelV x v → RelV y u → R x y H2 → wpAny (model X.prog X.w) X.A (f v u) Q X.xe s2) :
    wpAny (model X.prog X.w) X.A (eval a X.env) (fun v s₁ => wpAny (model X.prog X.w) X.A (eval b X.env) (fun u s₂ => wpAny (model X.prog X.w) X.A (f v u) Q X.xe s₂) X.xe s₁) X.xe s := by
  refine thn (ha pins s σ H _ I h) fun v s1 ⟨x, H1, I1, r1, q1⟩ => ?_
  refine thn (hb pins s1 σ H1 _ I1 q1) fun u s2 ⟨y, H2, I2, r2, q2⟩ => ?_
  exact hf v u s2 x y H2 I2 r1 r2 q2

theorem pe_op {op : Operator} {r : R2} (ho : OpR X (binaryOp op) r) (ha : PE X a ta) (hb : PE X b tb) : PE X (.BinOp a op b pos) (tOp r ta tb) := by
  intro pins s σ H Q I h
  exact wpAny_BinOp (binT ha hb I h fun v u s2 x y H2 I2 rx ry q => ho pins s2 σ H2 x y v u Q I2 rx ry q)
theorem pe_un {op : UnaryOp} {r : V → Hp → VK → Prop} (ho : UnR X (unaryOp op) r) (ha : PE X a ta) : PE X (.UnaryOp op a pos) (tUn r ta) := by
  intro pins s σ H Q I h
  exact UnaryOp_ (thn (ha pins s σ H _ I h) fun v s1 ⟨x, H1, I1, r1, q1⟩ => ho pins s1 σ H1 x v Q I1 r1 q1)
/-- a op= e at a name: the name's slot i -/
theorem augR {op : Operator} {r : R2} (ho : OpR X (inplaceOp op) r) {pins : List (Addr × Obj)} {s : Shared} {σ : St} {H : Hp} {x y : V} {v u : Value} {Q : VK} (I : Inv X pins σ H s)
    (rx : RelV x v) (ry : RelV y u) (q : r x y H Q) : wpAny (model X.prog X.w) X.A (inplaceOp op v u) (EP X pins σ Q) X.xe s := ho pins s σ H x y v u Q I rx ry q

/-! ### ints -/
theorem opI {f : Value → Value → Sem Value} {C : Int → Int → Prop} {g : Int → Int → Int}
    (rule : ∀ (i j : Int) (t u : Tok) (s : Shared) (Q : Value → Shared → Prop) (E : Value → Shared → Prop), C i j → Q (.int (g i j) s.toks) { s with toks := s.toks + 1 } → wpAny (model X.prog X.w) X.A (f (.int i t) (.int j u)) Q E s) :
    OpR X f (rI C fun i j => .int (g i j)) := by
  intro pins s σ H x y v u Q I rx ry h
  obtain ⟨i, j, rfl, rfl, hc, q⟩ := h
  obtain ⟨t, rfl⟩ := rx
  obtain ⟨t', rfl⟩ := ry
  exact rule i j t t' s _ _ hc ⟨.int (g i j), H, I.tok _, ⟨_, rfl⟩, q⟩
theorem opI0 {f : Value → Value → Sem Value} {g : Int → Int → Int}
    (rule : ∀ (i j : Int) (t u : Tok) (s : Shared) (Q : Value → Shared → Prop) (E : Value → Shared → Prop), Q (.int (g i j) s.toks) { s with toks := s.toks + 1 } → wpAny (model X.prog X.w) X.A (f (.int i t) (.int j u)) Q E s) :
    OpR X f (rI0 fun i j => .int (g i j)) := by
  intro pins s σ H x y v u Q I rx ry h
  obtain ⟨i, j, rfl, rfl, q⟩ := h
  obtain ⟨t, rfl⟩ := rx
  obtain ⟨t', rfl⟩ := ry
  exact rule i j t t' s _ _ ⟨.int (g i j), H, I.tok _, ⟨_, rfl⟩, q⟩
theorem opB0 {f : Value → Value → Sem Value} {g : Int → Int → Bool}
    (rule : ∀ (i j : Int) (t u : Tok) (s : Shared) (Q : Value → Shared → Prop) (E : Value → Shared → Prop), Q (.bool (g i j)) s → wpAny (model X.prog X.w) X.A (f (.int i t) (.int j u)) Q E s) :
    OpR X f (rI0 fun i j => .bl (g i j)) := by
  intro pins s σ H x y v u Q I rx ry h
  obtain ⟨i, j, rfl, rfl, q⟩ := h
  obtain ⟨t, rfl⟩ := rx
  obtain ⟨t', rfl⟩ := ry
  exact rule i j t t' s _ _ ⟨.bl (g i j), H, I, rfl, q⟩

def CDiv (i j : Int) : Prop := 0 < j ∧ j < 1073741824
def CDivN (i j : Int) : Prop := j ≠ 0 ∧ j.natAbs < 1073741824
def CPow (i j : Int) : Prop := 0 ≤ j ∧ j ≤ 1000000 ∧ i.natAbs < 2 ^ 64
def CMul (i j : Int) : Prop := (-(2 ^ 64) < i ∧ i < 2 ^ 64) ∨ (-(2 ^ 64) < j ∧ j < 2 ^ 64)
theorem CMul.ok {i j : Int} (h : CMul i j) : IntMulOk i j := by
  rcases h with ⟨h1, h2⟩ | ⟨h1, h2⟩
  · exact .of_left (intBits_le_64 h1 h2)
  · exact .of_right (intBits_le_64 h1 h2)
theorem two_pow_nn (k : Nat) : (0 : Int) ≤ 2 ^ k := by
  rw [two_pow_cast]
  exact Int.natCast_nonneg _

theorem op_add : OpR X (binaryOp .Add) (rI0 fun i j => .int (i + j)) := opI0 fun _ _ _ _ _ _ _ q => add_int q
theorem op_sub : OpR X (binaryOp .Sub) (rI0 fun i j => .int (i - j)) := opI0 fun _ _ _ _ _ _ _ q => sub_int q
theorem op_mul : OpR X (binaryOp .Mult) (rI CMul fun i j => .int (i * j)) := opI fun _ _ _ _ _ _ _ hc q => mul_int q hc.ok
/-- // by a positive divisor -/
theorem op_fdiv : OpR X (binaryOp .FloorDiv) (rI CDiv fun i j => .int (i / j)) := opI fun i j _ _ _ _ _ hc q => by
  have h1 : (0 : Int) < j := hc.1
  have h2 : j < 1073741824 := hc.2
  exact floordiv_int (by omega) (by rw [Int.fdiv_eq_ediv_of_nonneg i (by omega)]; exact q) (.inl (PyProof.noPylong_small (by omega)))
theorem op_fdivN : OpR X (binaryOp .FloorDiv) (rI CDivN fun i j => .int (i.fdiv j)) := opI fun _ _ _ _ _ _ _ hc q => floordiv_int hc.1 q (.inl (PyProof.noPylong_small hc.2))
/-- % by a positive divisor of any size -/
theorem op_mod : OpR X (binaryOp .Mod) (rI (fun _ j => 0 < j) fun i j => .int (i % j)) := opI fun i j _ _ _ _ _ hc q => by
  have h1 : (0 : Int) < j := hc
  exact mod_int' (by omega) (by rw [Int.fmod_eq_emod_of_nonneg i (by omega)]; exact q)
theorem op_modN : OpR X (binaryOp .Mod) (rI (fun _ j => j ≠ 0) fun i j => .int (i.fmod j)) := opI fun _ _ _ _ _ _ _ hc q => mod_int' hc q
theorem op_pow : OpR X (binaryOp .Pow) (rI CPow fun i j => .int (i ^ j.toNat)) := opI fun _ _ _ _ _ _ _ hc q => pow_int_small hc.1 hc.2.1 hc.2.2 q
theorem op_shl : OpR X (binaryOp .LShift) (rI CPow fun i j => .int (i * 2 ^ j.toNat)) := opI fun _ _ _ _ _ _ _ hc q => lshift_int_small hc.1 hc.2.1 hc.2.2 q
theorem op_shr : OpR X (binaryOp .RShift) (rI (fun _ j => 0 ≤ j) fun i j => .int (i / 2 ^ j.toNat)) := opI fun i j _ _ _ _ _ hc q =>
  rshift_int hc (by rw [Int.fdiv_eq_ediv_of_nonneg i (two_pow_nn _)]; exact q)
theorem op_and : OpR X (binaryOp .BitAnd) (rI0 fun i j => .int (Builtin.bitAnd i j)) := opI0 fun _ _ _ _ _ _ _ q => and_int q
theorem op_or : OpR X (binaryOp .BitOr) (rI0 fun i j => .int (Builtin.bitOr i j)) := opI0 fun _ _ _ _ _ _ _ q => or_int q
theorem op_xor : OpR X (binaryOp .BitXor) (rI0 fun i j => .int (Builtin.bitXor i j)) := opI0 fun _ _ _ _ _ _ _ q => xor_int q

theorem iop_add : OpR X (inplaceOp .Add) (rI0 fun i j => .int (i + j)) := opI0 fun _ _ _ _ _ _ _ q => iadd_int q
theorem iop_sub : OpR X (inplaceOp .Sub) (rI0 fun i j => .int (i - j)) := opI0 fun _ _ _ _ _ _ _ q => isub_int q
theorem iop_mul : OpR X (inplaceOp .Mult) (rI CMul fun i j => .int (i * j)) := opI fun _ _ _ _ _ _ _ hc q => imul_int q hc.ok
theorem iop_fdiv : OpR X (inplaceOp .FloorDiv) (rI CDiv fun i j => .int (i / j)) := opI fun i j _ _ _ _ _ hc q => by
  have h1 : (0 : Int) < j := hc.1
  have h2 : j < 1073741824 := hc.2
  exact ifloordiv_int (by omega) (by rw [Int.fdiv_eq_ediv_of_nonneg i (by omega)]; exact q) (.inl (PyProof.noPylong_small (by omega)))
theorem iop_mod : OpR X (inplaceOp .Mod) (rI (fun _ j => 0 < j) fun i j => .int (i % j)) := opI fun i j _ _ _ _ _ hc q => by
  have h1 : (0 : Int) < j := hc
  exact imod_int (by omega) (by rw [Int.fmod_eq_emod_of_nonneg i (by omega)]; exact q)
theorem iop_shl : OpR X (inplaceOp .LShift) (rI CPow fun i j => .int (i * 2 ^ j.toNat)) := opI fun _ _ _ _ _ _ _ hc q => ilshift_int_small hc.1 hc.2.1 hc.2.2 q
theorem iop_shr : OpR X (inplaceOp .RShift) (rI (fun _ j => 0 ≤ j) fun i j => .int (i / 2 ^ j.toNat)) := opI fun i j _ _ _ _ _ hc q =>
  irshift_int hc (by rw [Int.fdiv_eq_ediv_of_nonneg i (two_pow_nn _)]; exact q)
theorem iop_and : OpR X (inplaceOp .BitAnd) (rI0 fun i j => .int (Builtin.bitAnd i j)) := opI0 fun _ _ _ _ _ _ _ q => iand_int q
theorem iop_or : OpR X (inplaceOp .BitOr) (rI0 fun i j => .int (Builtin.bitOr i j)) := opI0 fun _ _ _ _ _ _ _ q => ior_int q
theorem iop_xor : OpR X (inplaceOp .BitXor) (rI0 fun i j => .int (Builtin.bitXor i j)) := opI0 fun _ _ _ _ _ _ _ q => ixor_int q

theorem unI {f : Value → Sem Value} {g : Int → Int}
    (rule : ∀ (i : Int) (t : Tok) (s : Shared) (Q : Value → Shared → Prop) (E : Value → Shared → Prop), Q (.int (g i) s.toks) { s with toks := s.toks + 1 } → wpAny (model X.prog X.w) X.A (f (.int i t)) Q E s) :
    UnR X f (rU fun i => .int (g i)) := by
  intro pins s σ H x v Q I rx h
  obtain ⟨i, rfl, q⟩ := h
  obtain ⟨t, rfl⟩ := rx
  exact rule i t s _ _ ⟨.int (g i), H, I.tok _, ⟨_, rfl⟩, q⟩
theorem un_neg : UnR X (unaryOp .USub) (rU fun i => .int (-i)) := unI fun _ _ _ _ _ q => neg_int q
theorem un_inv : UnR X (unaryOp .Invert) (rU fun i => .int (Builtin.bitNot i)) := unI fun _ _ _ _ _ q => invert_int q

/-! ### bools among ints: n += (a < b) -/
theorem op_add_ib : OpR X (binaryOp .Add) (fun x y H Q => ∃ i k, x = .int i ∧ y = .bl k ∧ Q (.int (i + b2i k)) H) := by
  intro pins s σ H x y v u Q I rx ry h
  obtain ⟨i, k, rfl, rfl, q⟩ := h
  obtain ⟨t, rfl⟩ := rx
  cases ry
  exact add_int_bool ⟨.int (i + b2i k), H, I.tok _, ⟨_, rfl⟩, q⟩
end

/-! ### comparisons -/
/-- the scalars that == tells apart as data does -/
def scal : V → V → Bool
  | .non, .non => true | .non, .int _ => true | .int _, .non => true | .non, .bl _ => true | .bl _, .non => true | .non, .str _ => true | .str _, .non => true
  | .int _, .int _ => true | .bl _, .bl _ => true | .str _, .str _ => true | .byt _, .byt _ => true
  | .int _, .str _ => true | .str _, .int _ => true | .bl _, .str _ => true | .str _, .bl _ => true
  | _, _ => false
def rEq : R2 := fun x y H Q => scal x y = true ∧ Q (.bl (decide (x = y))) H
def rNe : R2 := fun x y H Q => scal x y = true ∧ Q (.bl (!decide (x = y))) H

theorem dec_int {i j : Int} : decide (V.int i = V.int j) = (i == j) := by
  rw [Bool.eq_iff_iff]
  simp
theorem dec_bl {i j : Bool} : decide (V.bl i = V.bl j) = (i == j) := by
  rw [Bool.eq_iff_iff]
  simp
theorem dec_str {i j : Str} : decide (V.str i = V.str j) = (i == j) := by
  rw [Bool.eq_iff_iff]
  simp
theorem dec_byt {i j : Array UInt8} : decide (V.byt i = V.byt j) = (i.toList == j.toList) := by
  rw [Bool.eq_iff_iff]
  cases i
  cases j
  simp

section
variable {X : Cx} {a b c : Expr} {ta tb tc : TE} {pos : Pos}
theorem fin_bl {pins : List (Addr × Obj)} {σ : St} {H : Hp} {s : Shared} {Q : VK} {k k' : Bool} (I : Inv X pins σ H s) (q : Q (.bl k) H) (e : k = k') : EP X pins σ Q (.bool k') s := by
  subst e
  exact ⟨.bl k, H, I, rfl, q⟩
theorem op_eq : OpR X (compareOp .Eq) rEq := by
  intro pins s σ H x y v u Q I rx ry h
  obtain ⟨hs, q⟩ := h
  cases x with
  | non =>
    cases rx
    cases y with
    | non => cases ry; exact PySem.EqNone.eq_none_none (fin_bl I q (by simp))
    | bl j => cases ry; exact PySem.EqNone.eq_none_bool (fin_bl I q (by simp))
    | int j => obtain ⟨t', rfl⟩ := ry; exact PySem.EqNone.eq_none_int (fin_bl I q (by simp))
    | str j => obtain ⟨t', rfl⟩ := ry; exact PySem.EqNone.eq_none_str (fin_bl I q (by simp))
    | _ => exact absurd (show false = true from hs) Bool.false_ne_true
  | bl i =>
    cases rx
    cases y with
    | non => cases ry; exact PySem.EqNone.eq_bool_none (fin_bl I q (by simp))
    | bl j => cases ry; exact eq_bool (fin_bl I q dec_bl)
    | str j => obtain ⟨t', rfl⟩ := ry; exact PySem.EqMixed.eq_bool_str (fin_bl I q (by simp))
    | _ => exact absurd (show false = true from hs) Bool.false_ne_true
  | int i =>
    obtain ⟨t, rfl⟩ := rx
    cases y with
    | non => cases ry; exact PySem.EqNone.eq_int_none (fin_bl I q (by simp))
    | int j => obtain ⟨t', rfl⟩ := ry; exact eq_int (fin_bl I q dec_int)
    | str j => obtain ⟨t', rfl⟩ := ry; exact PySem.EqMixed.eq_int_str (fin_bl I q (by simp))
    | _ => exact absurd (show false = true from hs) Bool.false_ne_true
  | str i =>
    obtain ⟨t, rfl⟩ := rx
    cases y with
    | non => cases ry; exact PySem.EqNone.eq_str_none (fin_bl I q (by simp))
    | bl j => cases ry; exact PySem.EqMixed.eq_str_bool (fin_bl I q (by simp))
    | int j => obtain ⟨t', rfl⟩ := ry; exact PySem.EqMixed.eq_str_int (fin_bl I q (by simp))
    | str j => obtain ⟨t', rfl⟩ := ry; exact eq_str (fin_bl I q dec_str)
    | _ => exact absurd (show false = true from hs) Bool.false_ne_true
  | byt i =>
    obtain ⟨t, rfl⟩ := rx
    cases y with
    | byt j => obtain ⟨t', rfl⟩ := ry; exact PySem.W.eq_bytes (fin_bl I q dec_byt)
    | _ => exact absurd (show false = true from hs) Bool.false_ne_true
  | _ => cases y <;> exact absurd (show false = true from hs) Bool.false_ne_true
theorem op_ne : OpR X (compareOp .NotEq) rNe := by
  intro pins s σ H x y v u Q I rx ry h
  obtain ⟨hs, q⟩ := h
  cases x with
  | non =>
    cases rx
    cases y with
    | non => cases ry; exact PySem.EqNone.ne_none_none (fin_bl I q (by simp))
    | bl j => cases ry; exact PySem.EqNone.ne_none_bool (fin_bl I q (by simp))
    | int j => obtain ⟨t', rfl⟩ := ry; exact PySem.EqNone.ne_none_int (fin_bl I q (by simp))
    | str j => obtain ⟨t', rfl⟩ := ry; exact PySem.EqNone.ne_none_str (fin_bl I q (by simp))
    | _ => exact absurd (show false = true from hs) Bool.false_ne_true
  | bl i =>
    cases rx
    cases y with
    | non => cases ry; exact PySem.EqNone.ne_bool_none (fin_bl I q (by simp))
    | bl j => cases ry; exact ne_bool (fin_bl I q (congrArg not dec_bl))
    | str j => obtain ⟨t', rfl⟩ := ry; exact PySem.EqMixed.ne_bool_str (fin_bl I q (by simp))
    | _ => exact absurd (show false = true from hs) Bool.false_ne_true
  | int i =>
    obtain ⟨t, rfl⟩ := rx
    cases y with
    | non => cases ry; exact PySem.EqNone.ne_int_none (fin_bl I q (by simp))
    | int j => obtain ⟨t', rfl⟩ := ry; exact ne_int (fin_bl I q (congrArg not dec_int))
    | str j => obtain ⟨t', rfl⟩ := ry; exact PySem.EqMixed.ne_int_str (fin_bl I q (by simp))
    | _ => exact absurd (show false = true from hs) Bool.false_ne_true
  | str i =>
    obtain ⟨t, rfl⟩ := rx
    cases y with
    | non => cases ry; exact PySem.EqNone.ne_str_none (fin_bl I q (by simp))
    | bl j => cases ry; exact PySem.EqMixed.ne_str_bool (fin_bl I q (by simp))
    | int j => obtain ⟨t', rfl⟩ := ry; exact PySem.EqMixed.ne_str_int (fin_bl I q (by simp))
    | str j => obtain ⟨t', rfl⟩ := ry; exact ne_str (fin_bl I q (congrArg not dec_str))
    | _ => exact absurd (show false = true from hs) Bool.false_ne_true
  | byt i =>
    obtain ⟨t, rfl⟩ := rx
    cases y with
    | byt j => obtain ⟨t', rfl⟩ := ry; exact PySem.W.ne_bytes (fin_bl I q (congrArg not dec_byt))
    | _ => exact absurd (show false = true from hs) Bool.false_ne_true
  | _ => cases y <;> exact absurd (show false = true from hs) Bool.false_ne_true

theorem op_lt : OpR X (compareOp .Lt) (rI0 fun i j => .bl (decide (i < j))) := opB0 fun _ _ _ _ _ _ _ q => lt_int q
theorem op_le : OpR X (compareOp .LtE) (rI0 fun i j => .bl (decide (i ≤ j))) := opB0 fun _ _ _ _ _ _ _ q => le_int q
theorem op_gt : OpR X (compareOp .Gt) (rI0 fun i j => .bl (decide (j < i))) := opB0 fun _ _ _ _ _ _ _ q => gt_int q
theorem op_ge : OpR X (compareOp .GtE) (rI0 fun i j => .bl (decide (j ≤ i))) := opB0 fun _ _ _ _ _ _ _ q => ge_int q
theorem op_lt_str : OpR X (compareOp .Lt) (fun x y H Q => ∃ i j, x = .str i ∧ y = .str j ∧ Q (.bl (decide (i.cps.toList < j.cps.toList))) H) := by
  intro pins s σ H x y v u Q I rx ry h
  obtain ⟨i, j, rfl, rfl, q⟩ := h
  obtain ⟨t, rfl⟩ := rx
  obtain ⟨t', rfl⟩ := ry
  exact lt_str (fin_bl I q rfl)
/-- the one string within the other -/
theorem op_in_str : OpR X (compareOp .In) (fun x y H Q => ∃ i j, x = .str i ∧ y = .str j ∧ Q (.bl (!(Builtin.Str.occurrences j i 0 j.length 1).isEmpty)) H) := by
  intro pins s σ H x y v u Q I rx ry h
  obtain ⟨i, j, rfl, rfl, q⟩ := h
  obtain ⟨t, rfl⟩ := rx
  obtain ⟨t', rfl⟩ := ry
  exact in_str (fin_bl I q rfl)

/-- is None, is not None: the right side a value none -/
theorem op_isN : OpR X (compareOp .Is) (fun x y H Q => y = .non ∧ Q (.bl (decide (x = .non))) H) := by
  intro pins s σ H x y v u Q I rx ry h
  obtain ⟨rfl, q⟩ := h
  cases ry
  refine is_none_gen (fin_bl I q ?_)
  cases x <;> first
    | (cases rx; rfl)
    | (obtain ⟨t, rfl⟩ := rx; rfl)
theorem op_notN : OpR X (compareOp .IsNot) (fun x y H Q => y = .non ∧ Q (.bl (!decide (x = .non))) H) := by
  intro pins s σ H x y v u Q I rx ry h
  obtain ⟨rfl, q⟩ := h
  cases ry
  refine isnot_none_gen (fin_bl I q ?_)
  cases x <;> first
    | (cases rx; rfl)
    | (obtain ⟨t, rfl⟩ := rx; rfl)

theorem op_notin_str : OpR X (compareOp .NotIn) (fun x y H Q => ∃ i j, x = .str i ∧ y = .str j ∧ Q (.bl (!(!(Builtin.Str.occurrences j i 0 j.length 1).isEmpty))) H) := by
  intro pins s σ H x y v u Q I rx ry h
  obtain ⟨i, j, rfl, rfl, q⟩ := h
  obtain ⟨t, rfl⟩ := rx
  obtain ⟨t', rfl⟩ := ry
  exact notIn_str (fin_bl I q rfl)
/-- is, is not of two objects that are tracked lists or instances -/
def isObj : HO → Bool
  | .lst _ => true
  | .ins _ _ _ => true
  | _ => false
theorem obj_there {pins : List (Addr × Obj)} {s : Shared} {σ : St} {H : Hp} {a : Addr} {o : HO} (I : Inv X pins σ H s) (h : H a = some o) (p : isObj o = true) : ∃ ob, s.heap.get? a = some ob ∧ ob.cls ≠ .type "tuple" := by
  cases o with
  | lst xs =>
    obtain ⟨_, its, n, _, e⟩ : xs.length ≤ sizeLine ∧ ∃ (its : List Value) (n : Nat), Vals xs its ∧ s.heap.get? a = some { cls := .type "list", data := .seq its.toArray n } := I.hok a _ h
    exact ⟨_, e, (by show Value.type "list" ≠ .type "tuple"; decide +kernel)⟩
  | ins C dx fs =>
    have x := I.hok a _ h
    obtain ⟨_, _, _, e, _⟩ := x
    exact ⟨_, e, (by show Value.ref C ≠ .type "tuple"; exact fun z => by cases z)⟩
  | _ => exact absurd (show false = true from p) Bool.false_ne_true
theorem op_is_ref : OpR X (compareOp .Is) (fun x y H Q => ∃ a b oa ob, x = .ref a ∧ y = .ref b ∧ H a = some oa ∧ isObj oa = true ∧ H b = some ob ∧ isObj ob = true ∧ Q (.bl (decide (a = b))) H) := by
  intro pins s σ H x y v u Q I rx ry h
  obtain ⟨a, b, oa, ob, rfl, rfl, ha, pa, hb, pb, q⟩ := h
  cases rx
  cases ry
  obtain ⟨o1, e1, n1⟩ := obj_there I ha pa
  obtain ⟨o2, e2, _⟩ := obj_there I hb pb
  by_cases z : a = b
  · subst z
    exact wpAny_is_ref_self (fin_bl I q (by simp))
  · exact wpAny_is_ref_other z e1 e2 n1 (fin_bl I q (by simp [z]))
theorem op_isnot_ref : OpR X (compareOp .IsNot) (fun x y H Q => ∃ a b oa ob, x = .ref a ∧ y = .ref b ∧ H a = some oa ∧ isObj oa = true ∧ H b = some ob ∧ isObj ob = true ∧ Q (.bl (!decide (a = b))) H) := by
  intro pins s σ H x y v u Q I rx ry h
  obtain ⟨a, b, oa, ob, rfl, rfl, ha, pa, hb, pb, q⟩ := h
  cases rx
  cases ry
  obtain ⟨o1, e1, n1⟩ := obj_there I ha pa
  obtain ⟨o2, e2, _⟩ := obj_there I hb pb
  by_cases z : a = b
  · subst z
    exact wpAny_isNot_ref_self (fin_bl I q (by simp))
  · exact wpAny_isNot_ref_other z e1 e2 n1 (fin_bl I q (by simp [z]))

/-- two rules for one operation: by cases -/
theorem OpR.or {f : Value → Value → Sem Value} {r r' : R2} (h : OpR X f r) (h' : OpR X f r') : OpR X f (fun x y H Q => r x y H Q ∨ r' x y H Q) := by
  intro pins s σ H x y v u Q I rx ry q
  rcases q with q | q
  · exact h pins s σ H x y v u Q I rx ry q
  · exact h' pins s σ H x y v u Q I rx ry q

theorem nomark (b : Expr) {op : CmpOp} (h : op ≠ .In := by decide) (h2 : op ≠ .NotIn := by decide) : behindInMarks op b = false := by
  have e1 : (op == CmpOp.In) = false := by cases op <;> first | rfl | exact absurd rfl h
  have e2 : (op == CmpOp.NotIn) = false := by cases op <;> first | rfl | exact absurd rfl h2
  cases b <;> simp [behindInMarks, e1, e2]
/-- a comparison as a value; hm: nomark b, or (for in, not in) by with_unfolding_all rfl -/
theorem pe_cmpR {op : CmpOp} {r : R2} (ho : OpR X (compareOp op) r) (ha : PE X a ta) (hb : PE X b tb) (hm : behindInMarks op b = false) : PE X (.Compare a [op] [b] pos) (tOp r ta tb) := by
  intro pins s σ H Q I h
  exact wpAny_Compare1 (binT ha hb I h fun v u s2 x y H2 I2 rx ry q => ho pins s2 σ H2 x y v u Q I2 rx ry q) hm
/-- a reading of a value as a test -/
def tTest (t : TE) : TT := fun σ H Q => t σ H fun x H' => ∃ k, x = .bl k ∧ Q k H'
theorem pt_cmpR {op : CmpOp} {r : R2} (ho : OpR X (compareOp op) r) (ha : PE X a ta) (hb : PE X b tb) (hm : behindInMarks op b = false) : PT X (.Compare a [op] [b] pos) (tTest (tOp r ta tb)) := by
  intro pins s σ H Q I h
  refine wpAny_isTrue_Compare1 (thn (ha pins s σ H _ I h) fun v s1 ⟨x, H1, I1, r1, q1⟩ => thn (hb pins s1 σ H1 _ I1 q1) fun u s2 ⟨y, H2, I2, r2, q2⟩ =>
    thn (ho pins s2 σ H2 x y v u _ I2 r1 r2 q2) fun c s3 ⟨z, H3, I3, r3, k, e, q3⟩ => ?_) hm
  subst e
  cases r3
  exact wpAny_truthy_bool ⟨H3, I3, q3⟩
/-- a op1 b op2 c -/
def tChain (r r' : R2) (ta tb tc : TE) : TE := fun σ H Q => ta σ H fun x H1 => tb σ H1 fun y H2 => r x y H2 fun z H3 => ∃ k, z = .bl k ∧
  (if k = true then tc σ H3 fun w' H4 => r' y w' H4 Q else Q (.bl false) H3)
theorem pe_chain {op op' : CmpOp} {r r' : R2} (ho : OpR X (compareOp op) r) (ho' : OpR X (compareOp op') r') (ha : PE X a ta) (hb : PE X b tb) (hc : PE X c tc)
    (hm : lastMarks [op, op'] [b, c] = false := by with_unfolding_all rfl) : PE X (.Compare a [op, op'] [b, c] pos) (tChain r r' ta tb tc) := by
  intro pins s σ H Q I h
  refine Compare_chain (thn (ha pins s σ H _ I h) fun v s1 ⟨x, H1, I1, r1, q1⟩ => chain_link (thn (hb pins s1 σ H1 _ I1 q1) fun u s2 ⟨y, H2, I2, r2, q2⟩ =>
    thn (ho pins s2 σ H2 x y v u _ I2 r1 r2 q2) fun d s3 ⟨z, H3, I3, r3, k, e, q3⟩ => ?_)) hm
  subst e
  cases r3
  refine wpAny_truthy_bool ?_
  cases k with
  | false => exact ite_ff ⟨.bl false, H3, I3, rfl, q3⟩
  | true => exact ite_tt (chain_last (thn (hc pins s3 σ H3 _ I3 q3) fun w' s4 ⟨z', H4, I4, r4, q4⟩ => ho' pins s4 σ H4 y z' u w' Q I4 r2 r4 q4))
theorem pt_chain {op op' : CmpOp} {r r' : R2} (ho : OpR X (compareOp op) r) (ho' : OpR X (compareOp op') r') (ha : PE X a ta) (hb : PE X b tb) (hc : PE X c tc)
    (hm : lastMarks [op, op'] [b, c] = false := by with_unfolding_all rfl) : PT X (.Compare a [op, op'] [b, c] pos) (tTest (tChain r r' ta tb tc)) := by
  intro pins s σ H Q I h
  refine isTrue_chain (thn (ha pins s σ H _ I h) fun v s1 ⟨x, H1, I1, r1, q1⟩ => test_link (thn (hb pins s1 σ H1 _ I1 q1) fun u s2 ⟨y, H2, I2, r2, q2⟩ =>
    thn (ho pins s2 σ H2 x y v u _ I2 r1 r2 q2) fun d s3 ⟨z, H3, I3, r3, k, e, q3⟩ => ?_)) hm
  subst e
  cases r3
  refine wpAny_truthy_bool ?_
  cases k with
  | false =>
    obtain ⟨k', e', q'⟩ := q3
    cases e'
    exact ite_ff ⟨H3, I3, q'⟩
  | true =>
    refine ite_tt (test_last (thn (hc pins s3 σ H3 _ I3 q3) fun w' s4 ⟨z', H4, I4, r4, q4⟩ => thn (ho' pins s4 σ H4 y z' u w' _ I4 r2 r4 q4) fun d' s5 ⟨z2, H5, I5, r5, k2, e2, q5⟩ => ?_))
    subst e2
    cases r5
    exact wpAny_truthy_bool ⟨H5, I5, q5⟩

/-! ### truth -/
/-- a value's truth by the abstract heap -/
def TruV (K : PySem.W.Frag) (x : V) (H : Hp) (k : Bool) : Prop :=
  match x with
  | .non => k = false
  | .bl b => k = b
  | .int i => k = (i != 0)
  | .str y => y.length ≤ sizeLine ∧ k = ((y.length : Int) != 0)
  | .byt y => y.size ≤ sizeLine ∧ k = ((y.size : Int) != 0)
  | .ref p => (∃ xs, SqL K H p xs ∧ k = !xs.isEmpty) ∨ (∃ xs, SqT K H p xs ∧ k = !xs.isEmpty) ∨ ∃ kvs, H p = some (.dK kvs) ∧ k = !kvs.isEmpty
  | _ => False
theorem isEmpty_kv {κ : Type} {kvs : List (κ × V)} {vs : List (κ × Value)} (r : KV kvs vs) : (!vs.isEmpty) = !kvs.isEmpty := by
  cases r <;> rfl
theorem isEmpty_of {xs : List V} {its : List Value} (r : Vals xs its) : (!its.toArray.isEmpty) = !xs.isEmpty := by
  cases r <;> simp
theorem line63 : (sizeLine : Nat) < 2 ^ 63 := by rw [sizeLine_eq]; decide
theorem tru_ok : TruR X (fun x H Q => ∃ k, TruV X.K x H k ∧ Q k H) := by
  intro pins s σ H x v Q I rx h
  obtain ⟨k, e, q⟩ := h
  have hl := line63
  have hs : sizeLine = 16777216 := sizeLine_eq
  cases x with
  | non =>
    cases rx
    have e' : k = false := e
    subst e'
    exact truthy_none ⟨H, I, q⟩
  | bl b =>
    cases rx
    have e' : k = b := e
    subst e'
    exact wpAny_truthy_bool ⟨H, I, q⟩
  | int i =>
    obtain ⟨t, rfl⟩ := rx
    have e' : k = (i != 0) := e
    subst e'
    exact PySem.P.truthy_int ⟨H, I, q⟩
  | str y =>
    obtain ⟨t, rfl⟩ := rx
    obtain ⟨hy, e'⟩ : y.length ≤ sizeLine ∧ k = ((y.length : Int) != 0) := e
    subst e'
    exact PySem.P.truthy_str (by omega) ⟨H, I.tok _, q⟩
  | byt y =>
    obtain ⟨t, rfl⟩ := rx
    obtain ⟨hy, e'⟩ : y.size ≤ sizeLine ∧ k = ((y.size : Int) != 0) := e
    subst e'
    exact PySem.W.truthy_bytes (by omega) ⟨H, I.tok _, q⟩
  | ref p =>
    cases rx
    have e' : (∃ xs, SqL X.K H p xs ∧ k = !xs.isEmpty) ∨ (∃ xs, SqT X.K H p xs ∧ k = !xs.isEmpty) ∨ ∃ kvs, H p = some (.dK kvs) ∧ k = !kvs.isEmpty := e
    rcases e' with ⟨xs, hx, e'⟩ | ⟨xs, hx, e'⟩ | ⟨kvs, hx, e'⟩
    · subst e'
      obtain ⟨its, r, pl, hz⟩ := I.list hx
      have hlen := r.length
      exact wpAny_truthy_list pl.isList (by simp only [List.size_toArray]; omega) ⟨H, I.tok _, by rw [isEmpty_of r]; exact q⟩
    · subst e'
      obtain ⟨its, r, pl, hz⟩ := I.tuple hx
      have hlen := r.length
      exact truthy_tuple pl (by simp only [List.size_toArray]; omega) ⟨H, I.tok _, by rw [isEmpty_of r]; exact q⟩
    · subst e'
      obtain ⟨hz, hS, vs, r, m⟩ : kvs.length ≤ sizeLine ∧ (p == sysModules) = false ∧ ∃ vs, KV kvs vs ∧ s.heap.DictOf (mixKind X.prog X.w) p vs := I.hok p _ hx
      have hlen : kvs.length = vs.length := Paired.length r
      exact wpAny_truthy_dict hS m (by omega) ⟨H, I.tok _, by rw [isEmpty_kv r]; exact q⟩
  | _ => exact (show False from e).elim
/-- any expression whose test is its value's truth (a name, a call, a subscript, a field ..: he by fun _ => rfl) -/
theorem pt_truth (ha : PE X a ta) (he : ∀ whole, isTrue a X.env whole = (do let v ← whole; standAt a.pos; holding [v] (truthy v))) :
    PT X a (fun σ H Q => ta σ H fun x H' => ∃ k, TruV X.K x H' k ∧ Q k H') := by
  intro pins s σ H Q I h
  exact isTrue_plain (thn (ha pins s σ H _ I h) fun v s1 ⟨x, H1, I1, r1, q1⟩ => tru_ok pins s1 σ H1 x v Q I1 r1 q1) (he _)

/-! ### strs and bytes -/
theorem pe_byt {x : List UInt8} {k : Nat} : PE X (.Constant (.bytes x) k pos) (fun _ H Q => Q (.byt x.toArray) H) := fun _ _ _ H _ I h => PySem.W.Constant_bytes ⟨.byt x.toArray, H, I.tok _, ⟨_, rfl⟩, h⟩
theorem op_add_str : OpR X (binaryOp .Add) (fun x y H Q => ∃ i j, x = .str i ∧ y = .str j ∧ i.length + j.length ≤ sizeLine ∧ Q (.str (i ++ j)) H) := by
  intro pins s σ H x y v u Q I rx ry h
  obtain ⟨i, j, rfl, rfl, hz, q⟩ := h
  obtain ⟨t, rfl⟩ := rx
  obtain ⟨t', rfl⟩ := ry
  exact add_str (fun t' tk => ⟨.str (i ++ j), H, I.tok _, ⟨_, rfl⟩, q⟩) hz
theorem iop_add_str : OpR X (inplaceOp .Add) (fun x y H Q => ∃ i j, x = .str i ∧ y = .str j ∧ i.length + j.length ≤ sizeLine ∧ Q (.str (i ++ j)) H) := by
  intro pins s σ H x y v u Q I rx ry h
  obtain ⟨i, j, rfl, rfl, hz, q⟩ := h
  obtain ⟨t, rfl⟩ := rx
  obtain ⟨t', rfl⟩ := ry
  exact iadd_str (fun t' tk => ⟨.str (i ++ j), H, I.tok _, ⟨_, rfl⟩, q⟩) hz
theorem op_add_byt : OpR X (binaryOp .Add) (fun x y H Q => ∃ i j, x = .byt i ∧ y = .byt j ∧ i.size + j.size ≤ 16777216 ∧ Q (.byt (i ++ j)) H) := by
  intro pins s σ H x y v u Q I rx ry h
  obtain ⟨i, j, rfl, rfl, hz, q⟩ := h
  obtain ⟨t, rfl⟩ := rx
  obtain ⟨t', rfl⟩ := ry
  exact PySem.W.KBy.add_bytes hz (fun t' tk => ⟨.byt (i ++ j), H, I.tok _, ⟨_, rfl⟩, q⟩)

def PlainIxT (b : Expr) : Prop := ∀ o i, subscripted b false o i = operate [o, i] (getItem o i)
/-- s[i], 0 ≤ i < len -/
theorem pe_item_str (ha : PE X a ta) (hb : PE X b tb) (hs : PlainIxT b) :
    PE X (.Subscript a b pos) (tOp (fun x y H Q => ∃ z i c, x = .str z ∧ y = .int i ∧ 0 ≤ i ∧ i < 2 ^ 63 ∧ i < z.length ∧ z.cps[i.toNat]? = some c ∧ Q (.str ⟨#[c]⟩) H) ta tb) := by
  intro pins s σ H Q I h
  refine Subscript_ (binT ha hb I h fun v u s2 x y H2 I2 rx ry q => ?_)
  obtain ⟨z, i, c, rfl, rfl, h0, h63, h1, hc, q⟩ := q
  obtain ⟨t, rfl⟩ := rx
  obtain ⟨t', rfl⟩ := ry
  have e : seqIndex? i z.length = some i.toNat := PySem.StrLaws.seqIndex_nonneg h0 h1
  exact tail_any (typeIs_str s2 z t) slot_str_getitem.lookup (getItem_str (c := c) (by
    have e1 : decide (i < -(2 ^ 63 : Int)) = false := decide_eq_false (by omega)
    have e2 : decide (i ≥ 2 ^ 63) = false := decide_eq_false (by omega)
    rw [e1, e2] <;> rfl) (by rw [e]; exact hc) ⟨.str ⟨#[c]⟩, H2, I2.tok _, ⟨_, rfl⟩, q⟩) (hs _ _)
/-- b[i], 0 ≤ i < len -/
theorem pe_item_byt (ha : PE X a ta) (hb : PE X b tb) (hs : PlainIxT b) :
    PE X (.Subscript a b pos) (tOp (fun x y H Q => ∃ (z : List UInt8) (i : Int), x = .byt z.toArray ∧ y = .int i ∧ z.length ≤ sizeLine ∧ 0 ≤ i ∧ i < z.length ∧ Q (.int ((z.getD i.toNat 0).toNat : Nat)) H) ta tb) := by
  intro pins s σ H Q I h
  refine Subscript_ (binT ha hb I h fun v u s2 x y H2 I2 rx ry q => ?_)
  obtain ⟨z, i, rfl, rfl, hz, h0, h1, q⟩ := q
  obtain ⟨t, rfl⟩ := rx
  obtain ⟨t', rfl⟩ := ry
  have hl : sizeLine = 16777216 := sizeLine_eq
  exact tail_any (PySem.W.typeIs_bytes s2 z.toArray t) PySem.W.FB.slot_bytes_getitem.lookup (PySem.W.getItem_bytes (by omega) h0 h1 ⟨.int ((z.getD i.toNat 0).toNat : Nat), H2, I2.tok _, ⟨_, rfl⟩, q⟩) (hs _ _)

/-! ### scalar builtins, by CallR -/
theorem vals1 {x : V} {us : List Value} (r : Vals [x] us) : ∃ u, us = [u] ∧ RelV x u := by
  cases r with
  | cons r1 r2 => cases r2; exact ⟨_, rfl, r1⟩
theorem vals2 {x y : V} {us : List Value} (r : Vals [x, y] us) : ∃ u w', us = [u, w'] ∧ RelV x u ∧ RelV y w' := by
  cases r with
  | cons r1 r2 =>
    cases r2 with
    | cons r3 r4 => cases r4; exact ⟨_, _, rfl, r1, r3⟩
theorem call_abs : CallR X (.builtin "abs") (fun xs H Q => ∃ i, xs = [.int i] ∧ Q (.int (if i < 0 then -i else i)) H) := by
  intro pins s σ H xs us Q I r h
  obtain ⟨i, rfl, q⟩ := h
  obtain ⟨u, rfl, t, rfl⟩ := vals1 r
  exact call_abs_int fun u tk => ⟨.int (if i < 0 then -i else i), H, I.tok _, ⟨_, rfl⟩, q⟩
theorem call_max2 (hc : X.calm = true) : CallR X (.builtin "max") (fun xs H Q => ∃ i j, xs = [.int i, .int j] ∧ Q (.int (if j > i then j else i)) H) := by
  intro pins s σ H xs us Q I r h
  obtain ⟨i, j, rfl, q⟩ := h
  obtain ⟨u, w', rfl, ⟨t, rfl⟩, ⟨t', rfl⟩⟩ := vals2 r
  refine max_two_ints (I.ok.hd hc) fun h' tk k => ⟨_, H, I.kept k, ?_, q⟩
  by_cases hj : j > i
  · rw [if_pos hj, if_pos hj]; exact ⟨_, rfl⟩
  · rw [if_neg hj, if_neg hj]; exact ⟨_, rfl⟩
theorem call_min2 (hc : X.calm = true) : CallR X (.builtin "min") (fun xs H Q => ∃ i j, xs = [.int i, .int j] ∧ Q (.int (if j < i then j else i)) H) := by
  intro pins s σ H xs us Q I r h
  obtain ⟨i, j, rfl, q⟩ := h
  obtain ⟨u, w', rfl, ⟨t, rfl⟩, ⟨t', rfl⟩⟩ := vals2 r
  refine min_two_ints (I.ok.hd hc) fun h' tk k => ⟨_, H, I.kept k, ?_, q⟩
  by_cases hj : j < i
  · rw [if_pos hj, if_pos hj]; exact ⟨_, rfl⟩
  · rw [if_neg hj, if_neg hj]; exact ⟨_, rfl⟩
theorem call_int1 : CallR X (.type "int") (fun xs H Q => (∃ i, xs = [.int i] ∧ Q (.int i) H) ∨ ∃ k, xs = [.bl k] ∧ Q (.int (if k then 1 else 0)) H) := by
  intro pins s σ H xs us Q I r h
  rcases h with ⟨i, rfl, q⟩ | ⟨k, rfl, q⟩
  · obtain ⟨u, rfl, t, rfl⟩ := vals1 r
    exact call_int_int ⟨.int i, H, I, ⟨_, rfl⟩, q⟩
  · obtain ⟨u, rfl, r1⟩ := vals1 r
    cases r1
    exact call_int_bool ⟨.int (if k then 1 else 0), H, I.tok _, ⟨_, rfl⟩, q⟩
theorem call_bool1 : CallR X (.type "bool") (fun xs H Q => (∃ i, xs = [.int i] ∧ Q (.bl (i != 0)) H) ∨ ∃ k, xs = [.bl k] ∧ Q (.bl k) H) := by
  intro pins s σ H xs us Q I r h
  rcases h with ⟨i, rfl, q⟩ | ⟨k, rfl, q⟩
  · obtain ⟨u, rfl, t, rfl⟩ := vals1 r
    exact call_bool_int ⟨.bl (i != 0), H, I, rfl, q⟩
  · obtain ⟨u, rfl, r1⟩ := vals1 r
    cases r1
    exact call_bool_bool ⟨.bl k, H, I, rfl, q⟩
theorem call_str_int : CallR X (.type "str") (fun xs H Q => ∃ i, xs = [.int i] ∧ i.natAbs.log2 < 1920 ∧ Q (.str (toString i)) H) := by
  intro pins s σ H xs us Q I r h
  obtain ⟨i, rfl, hz, q⟩ := h
  obtain ⟨u, rfl, t, rfl⟩ := vals1 r
  exact PySem.P.str_of_int hz ⟨.str _, H, I.tok _, ⟨_, rfl⟩, q⟩
theorem call_ord : CallR X (.builtin "ord") (fun xs H Q => ∃ x, xs = [.str x] ∧ x.length = 1 ∧ Q (.int (x.cps.getD 0 0 : Nat)) H) := by
  intro pins s σ H xs us Q I r h
  obtain ⟨x, rfl, hz, q⟩ := h
  obtain ⟨u, rfl, t, rfl⟩ := vals1 r
  exact ord_of_one hz ⟨.int _, H, I.tok _, ⟨_, rfl⟩, q⟩
theorem call_chr : CallR X (.builtin "chr") (fun xs H Q => ∃ i, xs = [.int i] ∧ 0 ≤ i ∧ i ≤ 1114111 ∧ Q (.str ⟨#[i.toNat]⟩) H) := by
  intro pins s σ H xs us Q I r h
  obtain ⟨i, rfl, h0, h1, q⟩ := h
  obtain ⟨u, rfl, t, rfl⟩ := vals1 r
  exact chr_of_range h0 h1 ⟨.str _, H, I.tok _, ⟨_, rfl⟩, q⟩
/-- len of a str, a bytes, a list, a tuple -/
def LenV (K : PySem.W.Frag) (x : V) (H : Hp) (n : Nat) : Prop :=
  match x with
  | .str y => y.length ≤ sizeLine ∧ n = y.length
  | .byt y => y.size ≤ sizeLine ∧ n = y.size
  | .ref p => (∃ xs, SqL K H p xs ∧ n = xs.length) ∨ ∃ xs, SqT K H p xs ∧ n = xs.length
  | _ => False
theorem call_len : CallR X (.builtin "len") (fun xs H Q => ∃ x n, xs = [x] ∧ LenV X.K x H n ∧ Q (.int n) H) := by
  intro pins s σ H xs us Q I r h
  obtain ⟨x, n, rfl, e, q⟩ := h
  obtain ⟨u, rfl, rx⟩ := vals1 r
  have hl := line63
  have hs : sizeLine = 16777216 := sizeLine_eq
  cases x with
  | str y =>
    obtain ⟨t, rfl⟩ := rx
    obtain ⟨hy, e'⟩ : y.length ≤ sizeLine ∧ n = y.length := e
    subst e'
    exact len_str (by omega) ⟨.int _, H, I.tok _, ⟨_, rfl⟩, q⟩
  | byt y =>
    obtain ⟨t, rfl⟩ := rx
    obtain ⟨hy, e'⟩ : y.size ≤ sizeLine ∧ n = y.size := e
    subst e'
    exact PySem.W.len_bytes (by omega) ⟨.int _, H, I.tok _, ⟨_, rfl⟩, q⟩
  | ref p =>
    cases rx
    have e' : (∃ xs, SqL X.K H p xs ∧ n = xs.length) ∨ ∃ xs, SqT X.K H p xs ∧ n = xs.length := e
    rcases e' with ⟨xs, hx, e'⟩ | ⟨xs, hx, e'⟩
    · subst e'
      obtain ⟨its, r', pl, hz⟩ := I.list hx
      have hlen := r'.length
      exact Calls.call_len_list pl.isList (by simp only [List.size_toArray]; omega) ⟨.int xs.length, H, I.tok _, ⟨_, by simp only [List.size_toArray]; rw [hlen]⟩, q⟩
    · subst e'
      obtain ⟨its, r', pl, hz⟩ := I.tuple hx
      have hlen := r'.length
      exact len_tuple pl (by simp only [List.size_toArray]; omega) ⟨.int xs.length, H, I.tok _, ⟨_, by simp only [List.size_toArray]; rw [hlen]⟩, q⟩
  | _ => exact (show False from e).elim
/-- divmod: a new tuple -/
theorem call_divmod : CallR X (.builtin "divmod") (fun xs H Q => ∃ i j, xs = [.int i, .int j] ∧ CDiv i j ∧ ∀ p, H p = none → Q (.ref p) (upd H p (.tup [.int (i / j), .int (i % j)]))) := by
  intro pins s σ H xs us Q I r h
  obtain ⟨i, j, rfl, ⟨h1, h2⟩, q⟩ := h
  obtain ⟨u, w', rfl, ⟨t, rfl⟩, ⟨t', rfl⟩⟩ := vals2 r
  refine divmod_int (by omega) ?_ (.inl (PyProof.noPylong_small (by omega)))
  rw [Int.fdiv_eq_ediv_of_nonneg i (by omega), Int.fmod_eq_emod_of_nonneg i (by omega)]
  have hn : H s.heap.objs.size = none := I.hok.fresh (Nat.le_refl _)
  refine ⟨.ref s.heap.objs.size, _, ?_, rfl, q _ hn⟩
  refine I.laid (fun b o e => Heap.get?_push_of_some _ e) (Nat.le_refl _) ⟨by simp only [List.length_cons, List.length_nil]; rw [sizeLine_eq]; decide, [.int (i / j) s.toks, .int (i % j) (s.toks + 1)], .cons ⟨_, rfl⟩ (.cons ⟨_, rfl⟩ .nil), ?_⟩
  exact ⟨_, Heap.get?_push_size s.heap rfl, rfl, 0, rfl⟩
end
end L2

namespace L2
open PySem PySem.Spec PyProof.Rows

/-! ### an instance, its attributes a map -/
structure ObjM (h : Heap) (x dx C : Addr) (mA : Str → Option Value) : Prop where
  obj : h.get? x = some (PySem.W.instObj C dx)
  ns : h.Ns1 dx mA
  ne : dx ≠ x

theorem lookIn_ns {h : Heap} {dx : Addr} {mA : Str → Option Value} (n : h.Ns1 dx mA) : ∃ od, h.get? dx = some od ∧ ∀ name, PySem.W.lookIn name od = some (mA name) := by
  obtain ⟨o, es, ep, ho, hd, hk, _, hm⟩ := n
  refine ⟨o, ho, fun name => ?_⟩
  have e := hm name
  unfold nsFind findBy at e
  rw [← Array.find?_toList] at e
  unfold PySem.W.lookIn
  rw [hd]
  dsimp only
  split
  · rename_i y q
    rw [q] at e
    exact congrArg some e
  · rename_i q
    rw [q] at e
    have a : es.toList.any (·.refKey) = false := by
      rw [List.any_eq_false]
      intro y hy
      obtain ⟨z, t, hkey⟩ := hk y (Array.mem_toList_iff.mp hy)
      simp [DictEntry.refKey, hkey]
    have a' : ¬ es.toList.any (·.refKey) = true := by rw [a]; exact Bool.false_ne_true
    rw [if_neg a']
    exact congrArg some e

theorem ObjM.look {h : Heap} {x dx C : Addr} {mA : Str → Option Value} (I : ObjM h x dx C mA) : ∃ od, PySem.W.InstAt h x (PySem.W.instObj C dx) C (some od) ∧ ∀ name, PySem.W.lookIn name od = some (mA name) :=
  let ⟨od, ho, hl⟩ := lookIn_ns I.ns
  ⟨od, ⟨I.obj, rfl, rfl, ho⟩, hl⟩

section
variable {prog : Program} {w : World} {A : Around} {E : Value → Shared → Prop} {s : Shared} {K : PySem.W.Frag} {x dx C f : Addr} {mA : Str → Option Value} {name : Str} {v : Value}

theorem get_map {expr : Bool} {Q : Value → Shared → Prop} (X : K.In s.heap) (I : ObjM s.heap x dx C mA) (hg : PySem.W.plainGet K C name = true) (hh : PySem.W.hasDictIn K C = true)
    (ha : PySem.W.findIn K (.ref C) name = some none) (hv : mA name = some v) (hv' : PySem.W.handedIn v = true) (h : Q v { s with toks := s.toks + 1 }) :
    wpAny (model prog w) A (getAttr (.ref x) name expr) Q E s := by
  obtain ⟨od, J, hl⟩ := I.look
  exact PySem.W.get_value X J (PySem.W.plainGet_of hg).1 (PySem.W.findObj_own hh ha rfl (by rw [hl, hv])) hv' h

theorem get_const {expr : Bool} {a : Value} {Q : Value → Shared → Prop} (X : K.In s.heap) (I : ObjM s.heap x dx C mA) (hg : PySem.W.plainGet K C name = true) (hh : PySem.W.hasDictIn K C = true)
    (ha : PySem.W.findIn K (.ref C) name = some (some a)) (hn : PySem.W.specialIn K a "__get__" = some none) (hc : PySem.W.copiedNames.contains name = false) (hv : mA name = none) (hv' : PySem.W.handedIn a = true)
    (h : Q a { s with toks := s.toks + 1 }) : wpAny (model prog w) A (getAttr (.ref x) name expr) Q E s := by
  obtain ⟨od, J, hl⟩ := I.look
  exact PySem.W.get_value X J (PySem.W.plainGet_of hg).1 (PySem.W.findObj_cls hh ha hn hv' hc (by rw [hl, hv])) hv' h

theorem get_meth {pl : Sem Bool} {Q : Value × List Value → Shared → Prop} (X : K.In s.heap) (I : ObjM s.heap x dx C mA) (hg : PySem.W.plainGet K C name = true)
    (hf : PySem.W.findIn K (.ref C) name = some (some (.ref f))) (ht : PySem.W.isFn K (.ref f) = true) (hv : mA name = none) (h : Q (.ref f, [.ref x]) s) :
    wpAny (model prog w) A (getMethod (.ref x) name pl) Q E s := by
  obtain ⟨od, J, hl⟩ := I.look
  exact PySem.W.method_fn X J (PySem.W.plainGet_of hg).1 (PySem.W.plainGet_of hg).2 hf (beq_iff_eq.mp ht) (by show (PySem.W.lookIn name od).map (·.isSome) = some false; rw [hl, hv]; rfl) h

theorem set_map {ns : List Str} {Q : Unit → Shared → Prop} (X : K.In s.heap) (I : ObjM s.heap x dx C mA)
    (hs : PySem.W.findIn K (.ref C) "__setattr__" = some (some (.builtin "object.__setattr__"))) (hp : PySem.W.plainOver K C = true) (ht : PySem.W.takerIn K C name = some none) (hh : PySem.W.hasDictIn K C = true)
    (hw : PySem.Within mA ns) (hsz : ns.length ≤ sizeLine)
    (h : ∀ h', ObjM h' x dx C (fun y => if y = name then some v else mA y) → Heap.SameBut dx s.heap h' → Q () { s with heap := h', toks := s.toks + 2 }) :
    wpAny (model prog w) A (setAttr (.ref x) name v) Q E s := by
  obtain ⟨od, J, hl⟩ := I.look
  refine PySem.W.set_plain X J hs (PySem.W.osa_open (s := { s with toks := s.toks + 1 }) (r := none) X J hp ht fun b => ?_)
  obtain ⟨cd, hc, hd'⟩ := PySem.W.any_some hh
  have hx : s.heap.get? x = some ⟨.ref C, some dx, .plain, #[]⟩ := I.obj
  refine wpAny_bind (wpAny_pure (wpAny_bind (wpAny_bind (wpAny_loadPart hx (wpAny_bind (PySem.W.Looks.here (s := { s with toks := s.toks + 1 }) (PySem.W.looks_clsIn X hc) ?_))))))
  rw [hd']
  refine wpAny_pure (a := some dx) (wpAny_bind (wpAny_pure (wpAny_bind ?_)))
  refine wpAny_nsSet1 (s := { s with toks := s.toks + 1 }) I.ns fun h' hn2 hs2 => ?_
  obtain ⟨oD, esD, epD, hoD, hdD, hcD⟩ := hn2.count (PySem.Within.cons name v hw)
  refine wpAny_bind (wpAny_lookBehind hoD (by rw [hdD]; exact pastItsLine_dict (Nat.le_trans hcD (by rw [List.length_cons]; omega))) ?_)
  exact wpAny_pure (h _ ⟨(hs2.2 _ (Ne.symm I.ne)).trans I.obj, hn2, I.ne⟩ hs2)

/-- C(..): the dict at the heap's end, the instance behind it; then its __init__ -/
theorem make_map {R : Result → Shared → Prop} {vs : List Value} {kw : List (Str × Value)} (X : K.In s.heap) (hm : PySem.W.makesIn K C = true)
    (hi : PySem.W.findIn K (.ref C) "__init__" = some (some (.ref f))) (hf : PySem.W.typeIn K (.ref f) = some (.type "function"))
    (h : codeAny (model prog w) (A.under (.builtin "type.__call__" ⟨.ref C :: vs, kw⟩)) (.call (.ref f) ⟨.ref (s.heap.objs.size + 1) :: vs, kw⟩) (PySem.W.InitBack (s.heap.objs.size + 1) R)
      { s with heap := (s.heap.push PySem.W.emptyDict).push (PySem.W.instObj C s.heap.objs.size) }) :
    codeAny (model prog w) A (.call (.ref C) ⟨vs, kw⟩) R s := by
  obtain ⟨hh, g, d, t, os⟩ := s
  exact PySem.W.make_core (PySem.W.makes_of X hm) (PySem.W.looks_findIn X hi) (fun self => PySem.W.bind_fn X self hf) (.inl rfl) h
/-- C() where there is no __init__ but object's -/
theorem make_map0 {R : Result → Shared → Prop} (X : K.In s.heap) (hm : PySem.W.makesIn K C = true)
    (hi : PySem.W.findIn K (.ref C) "__init__" = some (some (.builtin "object.__init__")))
    (hb : ∀ self, PySem.W.Looks (model prog w) s.heap (bindSpecial (.builtin "object.__init__") self) (.builtin "object.__init__", [self]))
    (h : codeAny (model prog w) (A.under (.builtin "type.__call__" ⟨[.ref C], []⟩)) (.call (.builtin "object.__init__") ⟨[.ref (s.heap.objs.size + 1)], []⟩) (PySem.W.InitBack (s.heap.objs.size + 1) R)
      { s with heap := (s.heap.push PySem.W.emptyDict).push (PySem.W.instObj C s.heap.objs.size) }) :
    codeAny (model prog w) A (.call (.ref C) ⟨[], []⟩) R s := by
  obtain ⟨hh, g, d, t, os⟩ := s
  exact PySem.W.make_core (PySem.W.makes_of X hm) (PySem.W.looks_findIn X hi) hb (.inr ⟨rfl, rfl⟩) h
end

/-! ### the attributes as a list of pairs -/
def putF (f : Str) (v : V) : List (Str × V) → List (Str × V)
  | [] => [(f, v)]
  | (g, x) :: r => if g = f then (g, v) :: r else (g, x) :: putF f v r
theorem lookup_putF (f g : Str) (v : V) : ∀ fs : List (Str × V), (putF f v fs).lookup g = if g = f then some v else fs.lookup g
  | [] => by
    show List.lookup g [(f, v)] = _
    by_cases h : g = f
    · have hb : (g == f) = true := beq_iff_eq.mpr h
      simp only [List.lookup, hb, if_pos h]
    · have hb : (g == f) = false := beq_eq_false_iff_ne.mpr h
      simp only [List.lookup, hb, if_neg h]
  | (k, x) :: r => by
    have ih := lookup_putF f g v r
    rw [show putF f v ((k, x) :: r) = (if k = f then (k, v) :: r else (k, x) :: putF f v r) from rfl]
    by_cases hk : k = f
    · rw [if_pos hk]
      by_cases h : g = k
      · have hb : (g == k) = true := beq_iff_eq.mpr h
        simp only [List.lookup, hb, if_pos (h.trans hk)]
      · have hb : (g == k) = false := beq_eq_false_iff_ne.mpr h
        simp only [List.lookup, hb, if_neg (fun e : g = f => h (e.trans hk.symm))]
    · rw [if_neg hk]
      by_cases h : g = k
      · have hb : (g == k) = true := beq_iff_eq.mpr h
        simp only [List.lookup, hb, if_neg (fun e : g = f => hk (h.symm.trans e))]
      · have hb : (g == k) = false := beq_eq_false_iff_ne.mpr h
        simp only [List.lookup, hb]
        exact ih
theorem keys_putF (f : Str) (v : V) : ∀ fs : List (Str × V), f ∈ (putF f v fs).map (·.1) ∧ ∀ g, g ∈ fs.map (·.1) → g ∈ (putF f v fs).map (·.1)
  | [] => ⟨by simp [putF], fun g h => by simp at h⟩
  | (k, x) :: r => by
    obtain ⟨i1, i2⟩ := keys_putF f v r
    rw [show putF f v ((k, x) :: r) = (if k = f then (k, v) :: r else (k, x) :: putF f v r) from rfl]
    by_cases hk : k = f
    · rw [if_pos hk]
      subst hk
      exact ⟨by simp, fun g h => by simpa using h⟩
    · rw [if_neg hk]
      refine ⟨?_, fun g h => ?_⟩
      · rw [List.map_cons]
        exact List.mem_cons_of_mem _ i1
      · rw [List.map_cons] at h ⊢
        rcases List.mem_cons.mp h with e | e
        · exact List.mem_cons.mpr (.inl e)
        · exact List.mem_cons_of_mem _ (i2 g e)
theorem length_putF (f : Str) (v : V) : ∀ fs : List (Str × V), (putF f v fs).length ≤ fs.length + 1
  | [] => by simp [putF]
  | (k, x) :: r => by
    have ih := length_putF f v r
    rw [show putF f v ((k, x) :: r) = (if k = f then (k, v) :: r else (k, x) :: putF f v r) from rfl]
    by_cases hk : k = f
    · rw [if_pos hk, List.length_cons, List.length_cons]; omega
    · rw [if_neg hk, List.length_cons, List.length_cons]; omega

theorem RelO.some_of {v : V} {o : Option Value} (r : RelO (some v) o) : ∃ u, o = some u ∧ RelV v u := by
  cases o with
  | none => exact (show False from r).elim
  | some u => exact ⟨u, rfl, r⟩
theorem RelO.none_of {o : Option Value} (r : RelO none o) : o = none := by
  cases o with
  | none => rfl
  | some u => exact (show False from r).elim
theorem handed_of {v : V} {u : Value} (r : RelV v u) : PySem.W.handedIn u = true := by
  cases v with
  | non => cases (show u = Value.none from r); rfl
  | bl b => cases (show u = Value.bool b from r); rfl
  | int i => obtain ⟨t, e⟩ := (show ∃ t, u = Value.int i t from r); cases e; rfl
  | str x => obtain ⟨t, e⟩ := (show ∃ t, u = Value.str x t from r); cases e; rfl
  | byt b => obtain ⟨t, e⟩ := (show ∃ t, u = Value.bytes b t from r); cases e; rfl
  | flt b => obtain ⟨t, e⟩ := (show ∃ t, u = Value.float b t from r); cases e; rfl
  | ref a => cases (show u = Value.ref a from r); rfl
  | ty n => cases (show u = Value.type n from r); rfl

section
variable {P : Program} {w : World} {H H' : Hp} {h h' : Heap} {a C dx : Addr} {fs fs' : List (Str × V)}
theorem ins_get (hok : HOk P w H h) (e : H a = some (.ins C dx fs)) : ∃ mA, ObjM h a dx C mA ∧ (∀ f, RelO (fs.lookup f) (mA f)) ∧ PySem.Within mA (fs.map (·.1)) ∧ fs.length ≤ 1000 ∧ H dx = some (.own a) := by
  obtain ⟨d, z, ne, ob, mA, n, r, q⟩ := (show ObjOk P w H h a (.ins C dx fs) from hok a _ e)
  exact ⟨mA, ⟨ob, n, ne⟩, r, q, z, d⟩
end

/-! ### what of the text a class must have -/
structure Cls (K : PySem.W.Frag) (C : Addr) : Prop where
  pg : PySem.W.plainGet K C Str.empty = true
  hd : PySem.W.hasDictIn K C = true
  po : PySem.W.plainOver K C = true
  sa : PySem.W.findIn K (.ref C) "__setattr__" = some (some (.builtin "object.__setattr__"))
theorem Cls.get {K : PySem.W.Frag} {C : Addr} (c : Cls K C) (f : Str) : PySem.W.plainGet K C f = true := c.pg
/-- no class of it has the name -/
def NoAttr (K : PySem.W.Frag) (C : Addr) (f : Str) : Prop := PySem.W.findIn K (.ref C) f = some none
theorem NoAttr.taker {K : PySem.W.Frag} {C : Addr} {f : Str} (n : NoAttr K C f) : PySem.W.takerIn K C f = some none := by
  unfold PySem.W.takerIn
  rw [show PySem.W.findIn K (.ref C) f = some none from n]
  rfl
/-- a constant of the class -/
structure Con (K : PySem.W.Frag) (C : Addr) (f : Str) (v : V) (u : Value) : Prop where
  at_ : PySem.W.findIn K (.ref C) f = some (some u)
  rel : RelV v u
  get : PySem.W.specialIn K u "__get__" = some none
  cp : PySem.W.copiedNames.contains f = false
/-- a method: a plain def of the class or of one above it -/
structure Meth (K : PySem.W.Frag) (C : Addr) (m : Str) (f : Addr) : Prop where
  at_ : PySem.W.findIn K (.ref C) m = some (some (.ref f))
  fn : PySem.W.isFn K (.ref f) = true
  kp : PySem.W.keepIn K (.ref f) = true

section
variable {X : Cx} {pins : List (Addr × Obj)} {σ : St} {H : Hp} {s : Shared} {a C dx : Addr} {fs : List (Str × V)} {f : Str} {v : V} {A : Around} {E : Value → Shared → Prop}

theorem getattr_ok {b : Bool} {Q : Value → Shared → Prop} (I : Inv X pins σ H s) (e : H a = some (.ins C dx fs)) (c : Cls X.K C) (n : NoAttr X.K C f) (l : fs.lookup f = some v)
    (h : ∀ u s', Inv X pins σ H s' → RelV v u → Q u s') : wpAny (model X.prog X.w) A (getAttr (.ref a) f b) Q E s := by
  obtain ⟨mA, O, r, _, _, _⟩ := ins_get I.hok e
  obtain ⟨u, hu, ru⟩ := RelO.some_of (v := v) (o := mA f) (by rw [← l]; exact r f)
  exact get_map I.kIn O (c.get f) c.hd n hu (handed_of ru) (h u _ (I.tok _) ru)

theorem getcon_ok {b : Bool} {u : Value} {Q : Value → Shared → Prop} (I : Inv X pins σ H s) (e : H a = some (.ins C dx fs)) (c : Cls X.K C) (k : Con X.K C f v u) (l : fs.lookup f = none)
    (h : ∀ s', Inv X pins σ H s' → Q u s') : wpAny (model X.prog X.w) A (getAttr (.ref a) f b) Q E s := by
  obtain ⟨mA, O, r, _, _, _⟩ := ins_get I.hok e
  have hn : mA f = none := RelO.none_of (by rw [← l]; exact r f)
  exact get_const I.kIn O (c.get f) c.hd k.at_ k.get k.cp hn (handed_of k.rel) (h _ (I.tok _))

theorem getmeth_ok {m : Str} {g : Addr} {pl : Sem Bool} {Q : Value × List Value → Shared → Prop} (I : Inv X pins σ H s) (e : H a = some (.ins C dx fs)) (c : Cls X.K C) (k : Meth X.K C m g) (l : fs.lookup m = none)
    (h : Q (.ref g, [.ref a]) s) : wpAny (model X.prog X.w) A (getMethod (.ref a) m pl) Q E s := by
  obtain ⟨mA, O, r, _, _, _⟩ := ins_get I.hok e
  have hn : mA m = none := RelO.none_of (by rw [← l]; exact r m)
  exact get_meth I.kIn O (c.get m) k.at_ k.fn hn h

theorem setattr_ok {y : V} {u : Value} {Q : Unit → Shared → Prop} (I : Inv X pins σ H s) (e : H a = some (.ins C dx fs)) (c : Cls X.K C) (n : NoAttr X.K C f) (hl : fs.length < 1000) (ry : RelV y u)
    (h : ∀ s', Inv X pins σ (upd H a (.ins C dx (putF f y fs))) s' → Q () s') : wpAny (model X.prog X.w) A (setAttr (.ref a) f u) Q E s := by
  obtain ⟨mA, O, r, wi, _, ho⟩ := ins_get I.hok e
  have hz : (fs.map (·.1)).length ≤ sizeLine := by rw [List.length_map, sizeLine_eq]; omega
  refine set_map I.kIn O c.sa c.po n.taker c.hd wi hz fun h' O' sb => h _ ?_
  have hd : ∃ o, h'.get? dx = some o := let ⟨o, _, _, e', _⟩ := O'.ns; ⟨o, e'⟩
  refine I.write (x := a) (e := dx) (by rw [e]; exact True.intro) (.inr ho) (fun b q hb z => (sb.2 b hb).trans z) hd ?_
  refine ⟨by rw [upd_ne O.ne]; exact ho, ?_, O.ne, O'.obj, _, O'.ns, fun g => ?_, fun g hg => ?_⟩
  · have := length_putF f y fs; omega
  · show RelO ((putF f y fs).lookup g) (if g = f then some u else mA g)
    rw [lookup_putF]
    by_cases q : g = f
    · rw [if_pos q, if_pos q]; exact ry
    · rw [if_neg q, if_neg q]; exact r g
  · by_cases q : g = f
    · rw [q]; exact (keys_putF f y fs).1
    · refine (keys_putF f y fs).2 g (wi g fun z => hg ?_)
      show (if g = f then some u else mA g) = none
      rw [if_neg q]; exact z

/-- a new instance, tracked, without attributes -/
theorem Inv.made (I : Inv X pins σ H s) : Inv X pins σ (upd (upd H s.heap.objs.size (.own (s.heap.objs.size + 1))) (s.heap.objs.size + 1) (.ins C s.heap.objs.size []))
    { s with heap := (s.heap.push PySem.W.emptyDict).push (PySem.W.instObj C s.heap.objs.size) } := by
  have e1 : (s.heap.push PySem.W.emptyDict).get? s.heap.objs.size = some PySem.W.emptyDict := Heap.get?_push_size s.heap rfl
  have e2 : ((s.heap.push PySem.W.emptyDict).push (PySem.W.instObj C s.heap.objs.size)).get? (s.heap.objs.size + 1) = some (PySem.W.instObj C s.heap.objs.size) := by
    have := Heap.get?_push_size (s.heap.push PySem.W.emptyDict) (o := PySem.W.instObj C s.heap.objs.size) rfl
    rwa [Heap.size_push] at this
  have e3 : (s.heap.push PySem.W.emptyDict).Ns s.heap.objs.size (fun _ => none) := ⟨PySem.W.emptyDict, #[], _, e1, rfl, (fun e he => absurd he (by simp)), fun _ => rfl⟩
  have I1 := I.laid (a := s.heap.objs.size) (o := .own (s.heap.objs.size + 1)) (h' := s.heap.push PySem.W.emptyDict) (t' := s.toks) (fun b u q => Heap.get?_push_of_some _ q) (Nat.le_refl _) ⟨_, e1⟩
  refine I1.laid (a := s.heap.objs.size + 1) (o := .ins C s.heap.objs.size []) (t' := s.toks) (fun b u q => Heap.get?_push_of_some _ q) (Nat.le_of_eq (Heap.size_push _ _)) ?_
  have ne : s.heap.objs.size ≠ s.heap.objs.size + 1 := Nat.ne_of_lt (Nat.lt_succ_self _)
  refine ⟨by rw [upd_ne ne, upd_same], Nat.zero_le _, ne, e2, fun _ => none, (Heap.Ns1.of_empty e3).at fun o q => Heap.get?_push_of_some _ q, fun _ => True.intro, fun y hy => absurd rfl hy⟩

/-- e.f where nothing but the object is asked: through attributeBase (super) and the last hold -/
theorem attr_of {prog : Program} {w : World} {env : Env} {e : Expr} {f : Str} {pos : Pos} {s : Shared} {Q : Value → Shared → Prop} (hb : attributeBase e f env (eval e env) = eval e env)
    (h : wpAny (model prog w) A (eval e env) (fun o s₁ => wpAny (model prog w) A (getAttr o f true) Q E s₁) E s) : wpAny (model prog w) A (eval (.Attribute e f pos) env) Q E s :=
  Attribute_any_ h (by rw [arm_eval_Attribute, hb])
end

/-! ### readings and rules -/
/-- e.f, an attribute of the instance -/
def tFld (K : PySem.W.Frag) (ta : TE) (f : Str) : TE := fun σ H Q => ta σ H fun x H1 => ∃ a C dx fs v, x = .ref a ∧ H1 a = some (.ins C dx fs) ∧ Cls K C ∧ NoAttr K C f ∧ fs.lookup f = some v ∧ Q v H1
/-- e.f, a constant of the class -/
def tCon (K : PySem.W.Frag) (ta : TE) (f : Str) : TE := fun σ H Q => ta σ H fun x H1 => ∃ a C dx fs v u, x = .ref a ∧ H1 a = some (.ins C dx fs) ∧ Cls K C ∧ Con K C f v u ∧ fs.lookup f = none ∧ Q v H1
/-- e.f = value -/
def sFld (K : PySem.W.Frag) (ta tv : TE) (f : Str) : TS := fun D σ H => tv σ H fun y H1 => ta σ H1 fun x H2 => ∃ a C dx fs, x = .ref a ∧ H2 a = some (.ins C dx fs) ∧ Cls K C ∧ NoAttr K C f ∧ fs.length < 1000 ∧
  D.nx σ (upd H2 a (.ins C dx (putF f y fs)))
/-- an augmented operator on two values -/
def InOp (X : Cx) (op : Operator) (rd : V → V → Hp → VK → Prop) : Prop :=
  ∀ (pins : List (Addr × Obj)) (s : Shared) (σ : St) (H : Hp) (x y : V) (u v : Value) (Q : VK), Inv X pins σ H s → RelV x u → RelV y v → rd x y H Q → wpAny (model X.prog X.w) X.A (inplaceOp op u v) (EP X pins σ Q) X.xe s
/-- e.f op= value -/
def sFldAug (K : PySem.W.Frag) (ta tv : TE) (rd : V → V → Hp → VK → Prop) (f : Str) : TS := fun D σ H => ta σ H fun x H1 => ∃ a C dx fs v, x = .ref a ∧ H1 a = some (.ins C dx fs) ∧ Cls K C ∧ NoAttr K C f ∧ fs.lookup f = some v ∧
  tv σ H1 fun y H2 => rd v y H2 fun z H3 => ∃ dx' fs', H3 a = some (.ins C dx' fs') ∧ fs'.length < 1000 ∧ D.nx σ (upd H3 a (.ins C dx' (putF f z fs')))

section
variable {X : Cx} {o e value : Expr} {f : Str} {pos pos' tpos : Pos} {ta tv : TE}
theorem pe_fld (he : PE X e ta) (hb : attributeBase e f X.env (eval e X.env) = eval e X.env) : PE X (.Attribute e f pos) (tFld X.K ta f) := by
  intro pins s σ H Q I h
  refine attr_of hb (thn (he pins s σ H _ I h) fun u s1 ⟨x, H1, I1, rx, a, C, dx, fs, v, ex, ea, c, n, l, q⟩ => ?_)
  subst ex
  obtain rfl : u = Value.ref a := rx
  exact getattr_ok I1 ea c n l fun u' s2 I2 ru => ⟨v, H1, I2, ru, q⟩
theorem pe_con (he : PE X e ta) (hb : attributeBase e f X.env (eval e X.env) = eval e X.env) : PE X (.Attribute e f pos) (tCon X.K ta f) := by
  intro pins s σ H Q I h
  refine attr_of hb (thn (he pins s σ H _ I h) fun u s1 ⟨x, H1, I1, rx, a, C, dx, fs, v, u0, ex, ea, c, k, l, q⟩ => ?_)
  subst ex
  obtain rfl : u = Value.ref a := rx
  exact getcon_ok I1 ea c k l fun s2 I2 => ⟨v, H1, I2, k.rel, q⟩
theorem ps_fld (ha : PE X o ta) (hv : PE X value tv) (hs : swapsWith value (some (.Attribute o f pos')) pos.line X.env = pure false) : PS X (.Assign [.Attribute o f pos'] value pos) (sFld X.K ta tv f) := by
  intro pins s σ H D I h
  refine plainObj_wpAny_Assign_Attribute (thn (hv pins s σ H _ I h) fun u s1 ⟨y, H1, I1, ry, q⟩ => thn (ha pins s1 σ H1 _ I1 q) fun ov s2 ⟨x, H2, I2, rx, a, C, dx, fs, ex, ea, c, n, l, q2⟩ => ?_) hs
  subst ex
  obtain rfl : ov = Value.ref a := rx
  exact setattr_ok I2 ea c n l ry fun s3 I3 => ⟨σ, _, I3, q2⟩
theorem ps_fldaug {op : Operator} {rd : V → V → Hp → VK → Prop} (ha : PE X o ta) (hv : PE X value tv) (hop : InOp X op rd) : PS X (.AugAssign (.Attribute o f tpos) op value pos) (sFldAug X.K ta tv rd f) := by
  intro pins s σ H D I h
  refine wpAny_AugAssign_AttributeAny (thn (ha pins s σ H _ I h) fun ov s1 ⟨x, H1, I1, rx, a, C, dx, fs, v, ex, ea, c, n, l, q⟩ => ?_)
  subst ex
  obtain rfl : ov = Value.ref a := rx
  refine getattr_ok I1 ea c n l fun u s2 I2 ru => thn (hv pins s2 σ H1 _ I2 q) fun w3 s3 ⟨y, H2, I3, ry, q3⟩ => thn (hop pins s3 σ H2 v y u w3 _ I3 ru ry q3) fun w4 s4 ⟨z, H3, I4, rz, dx', fs', ea', l', q4⟩ => ?_
  exact setattr_ok I4 ea' c n l' rz fun s5 I5 => ⟨σ, _, I5, q4⟩
def rAdd : V → V → Hp → VK → Prop := fun x y H Q => ∃ i j, x = .int i ∧ y = .int j ∧ Q (.int (i + j)) H
def rSub : V → V → Hp → VK → Prop := fun x y H Q => ∃ i j, x = .int i ∧ y = .int j ∧ Q (.int (i - j)) H
theorem in_add : InOp X .Add rAdd := by
  rintro pins s σ H x y u v Q I rx ry ⟨i, j, rfl, rfl, q⟩
  obtain ⟨t, rfl⟩ := (show ∃ t, u = Value.int i t from rx)
  obtain ⟨t', rfl⟩ := (show ∃ t', v = Value.int j t' from ry)
  exact PyProof.Rows.iadd_int ⟨.int (i + j), H, I.tok _, ⟨_, rfl⟩, q⟩
theorem in_sub : InOp X .Sub rSub := by
  rintro pins s σ H x y u v Q I rx ry ⟨i, j, rfl, rfl, q⟩
  obtain ⟨t, rfl⟩ := (show ∃ t, u = Value.int i t from rx)
  obtain ⟨t', rfl⟩ := (show ∃ t', v = Value.int j t' from ry)
  exact PyProof.Rows.isub_int ⟨.int (i - j), H, I.tok _, ⟨_, rfl⟩, q⟩

/-- what is between an instance and its method: the tree of a method call -/
theorem methcall_of {pl : Sem Bool} {m : Str} {apos : Pos} {args : List Expr} {pins : List (Addr × Obj)} {s : Shared} {σ : St} {H : Hp} {Q : Value → Shared → Prop} {te : TE} (he : PE X e te) (I : Inv X pins σ H s)
    (h : te σ H fun x H1 => ∃ a C dx fs g, x = .ref a ∧ H1 a = some (.ins C dx fs) ∧ Cls X.K C ∧ Meth X.K C m g ∧ fs.lookup m = none ∧
      ∀ s1, Inv X pins σ H1 s1 → wpAny (model X.prog X.w) X.A (callWith pos (.ref g) [.ref a] (backTo pos (starEach args X.env)) (backToKw pos (keywordEach [] X.env))) Q X.xe s1)
    (ht : eval (.Call (.Attribute e m apos) args [] pos) X.env = (do
      let ov ← eval e X.env
      standAt apos.atName
      let (f, first) ← holding [ov] (getMethod ov m pl)
      callWith pos f first (backTo pos (starEach args X.env)) (backToKw pos (keywordEach [] X.env)))) :
    wpAny (model X.prog X.w) X.A (eval (.Call (.Attribute e m apos) args [] pos) X.env) Q X.xe s := by
  refine PySem.W.methodCall_KW (pl := pl) (thn (he pins s σ H _ I h) fun u s1 ⟨x, H1, I1, rx, a, C, dx, fs, g, ex, ea, c, k, l, q⟩ => ?_) ht
  subst ex
  obtain rfl : u = Value.ref a := rx
  exact getmeth_ok I1 ea c k l (q s1 I1)
end

/-! ### isinstance -/
section
variable {X : Cx} {pins : List (Addr × Obj)} {σ : St} {H : Hp} {s : Shared} {A : Around} {E : Value → Shared → Prop} {Q : Value → Shared → Prop} {c : Value} {b : Bool}
/-- the type of a value, as the fragment's deciders take it; for an instance its class -/
inductive TyOf (K : PySem.W.Frag) (H : Hp) : V → Value → Prop where
  | non : TyOf K H .non (.type "NoneType")
  | bl (x : Bool) : TyOf K H (.bl x) (.type "bool")
  | int (i : Int) : TyOf K H (.int i) (.type "int")
  | str (x : Str) : TyOf K H (.str x) (.type "str")
  | flt (x : UInt64) : TyOf K H (.flt x) (.type "float")
  | lst {a : Addr} {xs : List V} (e : H a = some (.lst xs)) : TyOf K H (.ref a) (.type "list")
  | frz {a : Addr} {o : Obj} {xs : List V} (e : H a = some (.frz o (.lst xs))) : TyOf K H (.ref a) (.type "list")
  | tup {a : Addr} {xs : List V} (e : H a = some (.tup xs)) : TyOf K H (.ref a) (.type "tuple")
  | dK {a : Addr} {kvs : List (Key × V)} (e : H a = some (.dK kvs)) : TyOf K H (.ref a) (.type "dict")
  | dT {a : Addr} {kvs : List (List Key × V)} (e : H a = some (.dT kvs)) : TyOf K H (.ref a) (.type "dict")
  | ins {a C dx : Addr} {fs : List (Str × V)} (e : H a = some (.ins C dx fs)) (cl : Cls K C) (ha : PySem.W.findIn K (.ref C) "__class__" = some (some (.builtin "object.__class__")))
      (hn : PySem.W.specialIn K (.builtin "object.__class__") "__get__" = some (some (.builtin "getset_descriptor.__get__"))) (htk : PySem.W.takesIn K (.builtin "object.__class__") = some true)
      (hm : PySem.W.mroIn K C (.type "object") = some true) : TyOf K H (.ref a) (.ref C)
/-- isinstance(x, c) for one class c, a built-in or an own one: kitOne's answer -/
theorem isinst_ok {x : V} {u t : Value} (I : Inv X pins σ H s) (rx : RelV x u) (ty : TyOf X.K H x t) (e : PySem.W.kitOne X.K t c = some b) (h : ∀ tk, Q (.bool b) { s with toks := tk }) :
    wpAny (model X.prog X.w) A (call (.builtin "isinstance") [u, c]) Q E s := by
  cases ty with
  | non => cases (show u = Value.none from rx); exact PySem.W.kia_one PySem.W.kitx_none I.kIn True.intro e (fun z => nomatch z) h
  | bl y => cases (show u = Value.bool y from rx); exact PySem.W.kia_one PySem.W.kitx_bool I.kIn True.intro e (fun z => nomatch z) h
  | int i => obtain ⟨t, q⟩ := (show ∃ t, u = Value.int i t from rx); cases q; exact PySem.W.kia_one PySem.W.kitx_int I.kIn True.intro e (fun z => nomatch z) h
  | str y => obtain ⟨t, q⟩ := (show ∃ t, u = Value.str y t from rx); cases q; exact PySem.W.kia_one PySem.W.kitx_str I.kIn True.intro e (fun z => nomatch z) h
  | flt y => obtain ⟨t, q⟩ := (show ∃ t, u = Value.float y t from rx); cases q; exact PySem.W.kia_one PySem.W.kitx_float I.kIn True.intro e (fun z => nomatch z) h
  | @lst a xs ea =>
    cases (show u = Value.ref a from rx)
    obtain ⟨_, _, n, _, h1⟩ := (show ObjOk X.prog X.w H s.heap a (.lst xs) from I.hok a _ ea)
    exact PySem.W.kia_one PySem.W.kitx_list I.kIn ⟨_, h1, rfl⟩ e (fun z => nomatch z) h
  | @frz a ob xs ea =>
    cases (show u = Value.ref a from rx)
    obtain ⟨_, _, _, n, _, h1⟩ := (show ObjOk X.prog X.w H s.heap a (.frz ob (.lst xs)) from I.hok a _ ea)
    exact PySem.W.kia_one PySem.W.kitx_list I.kIn ⟨_, h1, rfl⟩ e (fun z => nomatch z) h
  | @tup a xs ea =>
    cases (show u = Value.ref a from rx)
    obtain ⟨_, _, _, p⟩ := (show ObjOk X.prog X.w H s.heap a (.tup xs) from I.hok a _ ea)
    obtain ⟨o, h1, h2, _⟩ := p
    exact PySem.W.kia_one PySem.W.kitx_tuple I.kIn ⟨o, h1, h2⟩ e (fun z => nomatch z) h
  | @dK a kvs ea =>
    cases (show u = Value.ref a from rx)
    obtain ⟨_, _, vs, _, p⟩ := (show ObjOk X.prog X.w H s.heap a (.dK kvs) from I.hok a _ ea)
    obtain ⟨o, es, ep, h1, h2, _⟩ := p
    exact PySem.W.kia_one PySem.W.kitx_dict I.kIn ⟨o, h1, h2.1⟩ e (fun z => nomatch z) h
  | @dT a kvs ea =>
    cases (show u = Value.ref a from rx)
    obtain ⟨_, _, xs, _, o, es, ep, h1, h2, _⟩ := (show ObjOk X.prog X.w H s.heap a (.dT kvs) from I.hok a _ ea)
    exact PySem.W.kia_one PySem.W.kitx_dict I.kIn ⟨o, h1, h2.1⟩ e (fun z => nomatch z) h
  | @ins a C dx fs ea cl ha hn htk hm =>
    cases (show u = Value.ref a from rx)
    obtain ⟨mA, O, _⟩ := ins_get I.hok ea
    obtain ⟨od, J, _⟩ := O.look
    exact PySem.W.kia_one (PySem.W.kitx_own (cl.get _) cl.hd ha hn htk hm) I.kIn J e (fun z => nomatch z) h
end
end L2

namespace L2
open PySem PySem.Spec PyProof.Rows

/-! ### room -/
structure Room (k : Nat) (A : Around) : Prop where
  hd : A.handled = none
  dp : A.depth + 3 * k + 5 < recursionLimit
  un : A.units + 16 * k + 200 < cLine
theorem Room.mono {j k : Nat} {A : Around} (r : Room k A) (h : j ≤ k) : Room j A := ⟨r.hd, by have := r.dp; omega, by have := r.un; omega⟩
theorem Room.deeper {k : Nat} {A : Around} (r : Room (k + 1) A) (env : Env) : Room k (A.deeper env) :=
  ⟨r.hd, by have := r.dp; show A.depth + 1 + 3 * k + 5 < _; omega, by have := r.un; show A.units + 3 + 16 * k + 200 < _; omega⟩
theorem Room.in1 {k : Nat} {A : Around} (r : Room (k + 1) A) : Room k A.in1 :=
  ⟨r.hd, by have := r.dp; show A.depth + 3 * k + 5 < _; omega, by have := r.un; show A.units + 1 + 16 * k + 200 < _; omega⟩
theorem make_depth {A : Around} {C : Addr} {us : List Value} {kw : List (Str × Value)} : (A.under (.builtin "type.__call__" ⟨.ref C :: us, kw⟩)).depth = A.depth + 1 := by
  first | rfl | simp [Around.under, Code.weight, Code.isCreation, Code.isGuard, Code.isCaller, Code.frames, Code.isFrame, guardIds]
theorem make_units {A : Around} {C : Addr} {us : List Value} {kw : List (Str × Value)} : (A.under (.builtin "type.__call__" ⟨.ref C :: us, kw⟩)).units = A.units + 1 := by
  first | rfl | simp [Around.under, Code.cUnits, Code.frames, Code.isFrame]
theorem Room.make {k : Nat} {A : Around} (r : Room (k + 1) A) (C : Addr) (us : List Value) (kw : List (Str × Value)) : Room k (A.under (.builtin "type.__call__" ⟨.ref C :: us, kw⟩)) :=
  ⟨r.hd, by have := r.dp; rw [make_depth]; omega, by have := r.un; rw [make_units]; omega⟩
theorem Room.depth {k : Nat} {A : Around} (r : Room k A) : A.depth < recursionLimit := by have := r.dp; omega
theorem Room.units {k : Nat} {A : Around} (r : Room k A) : A.units + 64 < cLine := by have := r.un; omega
theorem Room.units0 {k : Nat} {A : Around} (r : Room k A) : A.units < cLine := by have := r.un; omega

/-! ### argument lists and displays -/
def tNil : TA := fun _ H Q => Q [] H
def tCons (ta : TE) (tr : TA) : TA := fun σ H Q => ta σ H fun x H1 => tr σ H1 fun xs H2 => Q (x :: xs) H2
section
variable {X : Cx} {e : Expr} {es : List Expr} {te : TE} {t : TA} {pos : Pos}
theorem pa_nil : PA X [] tNil := fun _ _ _ _ H Q I h => Calls.spliced_nil ⟨[], H, I, .nil, h⟩
theorem pa_cons (ha : PE X e te) (hr : PA X es t) (hs : starEach (e :: es) X.env = (false, eval e X.env) :: starEach es X.env := by rfl) : PA X (e :: es) (tCons te t) := by
  intro pos pins s σ H Q I h
  rw [hs]
  show wpAny _ _ (spliced ((false, eval e X.env) :: backTo pos (starEach es X.env))) _ _ s
  refine Calls.spliced_cons (thn (ha pins s σ H _ I h) fun u s1 ⟨x, H1, I1, r1, q1⟩ => ?_)
  exact thn (hr pos pins s1 σ H1 _ I1 q1) fun us s2 ⟨xs, H2, I2, r2, q2⟩ => ⟨x :: xs, H2, I2, .cons r1 r2, q2⟩

/-- a tuple, a list of written items -/
def tTup (t : TA) : TE := fun σ H Q => t σ H fun xs H1 => xs.length ≤ sizeLine ∧ ∀ p, H1 p = none → Q (.ref p) (upd H1 p (.tup xs))
def tLst (t : TA) : TE := fun σ H Q => t σ H fun xs H1 => xs.length ≤ sizeLine ∧ ∀ p, H1 p = none → Q (.ref p) (upd H1 p (.lst xs))
theorem pe_tup {x1} (h : PA X es t) : PE X (.Tuple es x1 pos) (tTup t) := by
  intro pins s σ H Q I hq
  refine wpAny_Tuple_spliced (thn (h pos pins s σ H _ I hq) fun us s1 ⟨xs, H1, I1, r, z, q⟩ => ⟨by rw [← r.length]; exact z, ?_⟩)
  have hf : H1 s1.heap.objs.size = none := I1.hok.fresh (Nat.le_refl _)
  refine ⟨.ref s1.heap.objs.size, upd H1 s1.heap.objs.size (.tup xs), I1.laid (t' := s1.toks) (fun b u e => Heap.get?_push_of_some _ e) (Nat.le_refl _) ?_, rfl, q _ hf⟩
  exact ⟨z, us, r, ⟨_, Heap.get?_push_size _ rfl, rfl, _, rfl⟩⟩
theorem pe_lst (h : PA X es t) : PE X (.List es pos) (tLst t) := by
  intro pins s σ H Q I hq
  refine wpAny_List_spliced (thn (h pos pins s σ H _ I hq) fun us s1 ⟨xs, H1, I1, r, z, q⟩ => ⟨by rw [← r.length]; exact z, ?_⟩)
  have hf : H1 s1.heap.objs.size = none := I1.hok.fresh (Nat.le_refl _)
  refine ⟨.ref s1.heap.objs.size, upd H1 s1.heap.objs.size (.lst xs), I1.laid (t' := s1.toks) (fun b u e => Heap.get?_push_of_some _ e) (Nat.le_refl _) ?_, rfl, q _ hf⟩
  exact ⟨z, us, 0, r, Heap.get?_push_size _ rfl⟩
end

/-! ### what a def promises -/
/-- a def's promise: the bound arguments in the parameters' order, the heap, the wanted end, the wanted exception -/
abbrev Sp := List V → Hp → VK → XK → Prop
/-- how an exception lies behind a call (file 08 gives it): the callers' frames, abstract heap and state ahead of the call, the wish, the exception, the state -/
abbrev CXT := List Env → Hp → Shared → XK → Value → Shared → Prop

/-- the state at a call -/
structure Env0 (P : Program) (w : World) (K : PySem.W.Frag) (mg : Str → Option Value) (base : Heap) (A : Around) (outer : List Env) (s : Shared) (H : Hp) : Prop where
  frames : A.frames = some outer
  mod : Mod K mg base
  bs : ∀ b o, base.get? b = some o → s.heap.get? b = some o ∧ H b = none
  bsz : base.objs.size ≤ s.heap.objs.size
  funs : s.heap.FunFrames base outer
  frf : ∀ b ∈ frs outer, H b = none
  hok : HOk P w H s.heap
  bare : AllBare s.gens
/-- a call's end -/
def CE (outer : List Env) (P : Program) (w : World) (H : Hp) (s : Shared) (Q : VK) (u : Value) (s' : Shared) : Prop :=
  ∃ v H', s'.os = s.os ∧ AllBare s'.gens ∧ Un (frs outer) [] H H' s.heap s'.heap ∧ HOk P w H' s'.heap ∧ RelV v u ∧ Q v H'
def CR (CX : CXT) (outer : List Env) (P : Program) (w : World) (H : Hp) (s : Shared) (Q : VK) (E : XK) (r : Result) (s' : Shared) : Prop :=
  match r with
  | .ok (.ret u) => CE outer P w H s Q u s'
  | .ok _ => False
  | .error e => CX outer H s E e s'
structure FnOk (P : Program) (w : World) (K : PySem.W.Frag) (mg : Str → Option Value) (base : Heap) (CX : CXT) (k : Nat) (f : Addr) (fd : FuncData) (ps : List Str) (sp : Sp) : Prop where
  len : ∀ vs H Q E, sp vs H Q E → vs.length = ps.length
  run : ∀ (A : Around) (outer : List Env) (s : Shared) (H : Hp) (args : Args) (us : List Value) (vs : List V) (Q : VK) (E : XK), Room k A → Env0 P w K mg base A outer s H → BindsTo s fd args (ps.zip us) → Vals vs us → sp vs H Q E →
    codeAny (model P w) A (.call (.ref f) args) (CR CX outer P w H s Q E) s
theorem FnOk.mono {P : Program} {w : World} {K : PySem.W.Frag} {mg : Str → Option Value} {base : Heap} {CX : CXT} {j k : Nat} {f : Addr} {fd : FuncData} {ps : List Str} {sp : Sp} (F : FnOk P w K mg base CX j f fd ps sp) (h : j ≤ k) :
    FnOk P w K mg base CX k f fd ps sp := ⟨F.len, fun A outer s H args us vs Q E hr => F.run A outer s H args us vs Q E (hr.mono h)⟩
/-- a weaker promise -/
theorem FnOk.imp {P : Program} {w : World} {K : PySem.W.Frag} {mg : Str → Option Value} {base : Heap} {CX : CXT} {k : Nat} {f : Addr} {fd : FuncData} {ps : List Str} {sp sp' : Sp} (F : FnOk P w K mg base CX k f fd ps sp)
    (h : ∀ vs H Q E, sp' vs H Q E → sp vs H Q E) : FnOk P w K mg base CX k f fd ps sp' :=
  ⟨fun vs H Q E q => F.len vs H Q E (h _ _ _ _ q), fun A outer s H args us vs Q E hr he hb hv hs => F.run A outer s H args us vs Q E hr he hb hv (h _ _ _ _ hs)⟩

theorem Env0.make {P : Program} {w : World} {K : PySem.W.Frag} {mg : Str → Option Value} {base : Heap} {A : Around} {outer : List Env} {s : Shared} {H : Hp} (e : Env0 P w K mg base A outer s H) (C : Addr) (us : List Value) (kw : List (Str × Value)) :
    Env0 P w K mg base (A.under (.builtin "type.__call__" ⟨.ref C :: us, kw⟩)) outer s H := ⟨by first | exact e.frames | (simpa [Around.under, Code.envs, Code.isFrame, pushEnvs] using e.frames), e.mod, e.bs, e.bsz, e.funs, e.frf, e.hok, e.bare⟩
theorem Env0.in1 {P : Program} {w : World} {K : PySem.W.Frag} {mg : Str → Option Value} {base : Heap} {A : Around} {outer : List Env} {s : Shared} {H : Hp} (e : Env0 P w K mg base A outer s H) :
    Env0 P w K mg base A.in1 outer s H := ⟨e.frames, e.mod, e.bs, e.bsz, e.funs, e.frf, e.hok, e.bare⟩

section
variable {X : Cx} {pins : List (Addr × Obj)} {σ : St} {H : Hp} {s s' : Shared}
/-- from a body: what a callee wants -/
theorem Inv.env0 (I : Inv X pins σ H s) : Env0 X.prog X.w X.K X.mg X.base X.A X.stack s H :=
  ⟨I.ok.frames, I.ok.mod, I.bs, Nat.le_trans I.ok.bsz I.sz, I.stack, I.stkFree, I.hok, I.bare⟩
/-- behind a call -/
theorem Inv.after {Q : VK} {u : Value} (I : Inv X pins σ H s) (h : CE X.stack X.prog X.w H s Q u s') : EP X pins σ Q u s' := by
  obtain ⟨v, H', os, bare, un, hok, r, q⟩ := h
  obtain ⟨hh, g, d, t, os'⟩ := s'
  obtain rfl : os' = s.os := os
  exact ⟨v, H', I.call (h' := hh) (g' := g) (d' := d) (t' := t) (ch := []) un hok bare (fun b z => absurd z (by simp)), r, q⟩
end

/-! ### calls -/
/-- f(..): the written arguments, then the defaults dvs; E: what is wanted of an exception -/
def tCall (sp : Sp) (dvs : List V) (E : XK) (t : TA) : TE := fun σ H Q => t σ H fun vs H1 => sp (vs ++ dvs) H1 Q E
/-- o.m(..) of an instance of the class at C -/
def tMeth (C : Addr) (m : Str) (sp : Sp) (dvs : List V) (E : XK) (ta : TE) (t : TA) : TE := fun σ H Q => ta σ H fun x H1 => ∃ a dx fs, x = .ref a ∧ H1 a = some (.ins C dx fs) ∧ fs.lookup m = none ∧
  t σ H1 fun vs H2 => sp (x :: (vs ++ dvs)) H2 Q E
/-- C(..): a new instance and its dict, then __init__ -/
def tMake (C : Addr) (sp : Sp) (dvs : List V) (E : XK) (t : TA) : TE := fun σ H Q => t σ H fun vs H1 => ∀ x dx, H1 x = none → H1 dx = none → dx ≠ x →
  sp (.ref x :: (vs ++ dvs)) (upd (upd H1 dx (.own x)) x (.ins C dx [])) (fun v H2 => v = .non ∧ Q (.ref x) H2) E

/-- how the parameters are bound: us the positional arguments, kw the keywords' values by name, ds the defaults that fill up -/
def Binds (K : PySem.W.Frag) (fd : FuncData) (ps : List Str) (ds : List Value) : Prop :=
  ∀ (s : Shared) (us : List Value), K.In s.heap → (us ++ ds).length = ps.length → BindsTo s fd ⟨us, []⟩ (ps.zip (us ++ ds))
/-- every parameter is given -/
theorem Binds.all {K : PySem.W.Frag} {fd : FuncData} {ps : List Str} (h : ∀ us : List Value, us.length = ps.length → bindArgs fd ⟨us, []⟩ = pure (ps.zip us)) : Binds K fd ps [] := fun s us _ hl => by
  rw [List.append_nil] at hl ⊢
  exact .of_eq (h us hl)

/-- an exception of a callee reaches what this body wants of exceptions -/
def Passes (CX : CXT) (X : Cx) (E : XK) : Prop := ∀ (pins : List (Addr × Obj)) (σ : St) (H : Hp) (s : Shared) (e : Value) (s' : Shared), Inv X pins σ H s → CX X.stack H s E e s' → X.xe e s'

section
variable {X : Cx} {CX : CXT} {k : Nat} {f C : Addr} {fd : FuncData} {ps : List Str} {sp : Sp} {dvs : List V} {ds : List Value} {E : XK} {x m : Str} {p pos apos : Pos} {e o : Expr} {es : List Expr} {ta : TE} {t : TA}

/-- the callee runs -/
theorem run_fn {pins : List (Addr × Obj)} {σ : St} {H : Hp} {s : Shared} {Q : VK} {us : List Value} {vs : List V} (F : FnOk X.prog X.w X.K X.mg X.base CX k f fd ps sp) (hr : Room k X.A) (hb : Binds X.K fd ps ds) (hd : Vals dvs ds) (hx : Passes CX X E)
    (I : Inv X pins σ H s) (r : Vals vs us) (h : sp (vs ++ dvs) H Q E) : wpAny (model X.prog X.w) X.A (call (.ref f) us) (EP X pins σ Q) X.xe s := by
  have r2 : Vals (vs ++ dvs) (us ++ ds) := r.append hd
  have hl : (us ++ ds).length = ps.length := by rw [← r2.length]; exact F.len _ _ _ _ h
  refine wpAny_call (codeAny_mono (F.run X.A X.stack s H ⟨us, []⟩ (us ++ ds) (vs ++ dvs) Q E hr I.env0 (hb s us I.kIn hl) r2 h) fun r s' hq => ?_)
  cases r with
  | error e => exact hx pins σ H s e s' I hq
  | ok fl =>
    cases fl with
    | ret u => exact I.after hq
    | next => exact False.elim hq
    | brk => exact False.elim hq
    | cont => exact False.elim hq

theorem pe_call (F : FnOk X.prog X.w X.K X.mg X.base CX k f fd ps sp) (hr : Room k X.A) (hg : Gl X x) (hm : X.mg x = some (.ref f)) (hk : PySem.W.keepIn X.K (.ref f) = true) (hb : Binds X.K fd ps ds) (hd : Vals dvs ds) (hx : Passes CX X E)
    (ha : PA X (e :: es) t) (hdb : (x == ("__debug__" : Str)) = false := by decide) (he : starEach (e :: es) X.env = (false, eval e X.env) :: starEach es X.env := by rfl) (hpl : (backTo pos (starEach es X.env)).any (·.1) = false := by rfl) :
    PE X (.Call (.Name x p) (e :: es) [] pos) (tCall sp dvs E t) := by
  intro pins s σ H Q I h
  refine wpAny_Call_Name_kw (ld_glob I hg hm ?_ hdb)
  refine PySem.W.callWith_K (h₀ := X.base) I.ok.mod.kin hk (thn (ha pos pins s σ H _ I h) fun us s1 ⟨vs, H1, I1, r, q⟩ => ⟨I1.kIn, ?_⟩) he hpl
  exact run_fn F hr hb hd hx I1 r q
theorem pe_call0 (F : FnOk X.prog X.w X.K X.mg X.base CX k f fd ps sp) (hr : Room k X.A) (hg : Gl X x) (hm : X.mg x = some (.ref f)) (hk : PySem.W.keepIn X.K (.ref f) = true) (hb : Binds X.K fd ps ds) (hd : Vals dvs ds) (hx : Passes CX X E)
    (hdb : (x == ("__debug__" : Str)) = false := by decide) : PE X (.Call (.Name x p) [] [] pos) (tCall sp dvs E tNil) := by
  intro pins s σ H Q I h
  refine wpAny_Call_Name_kw (ld_glob I hg hm ?_ hdb)
  exact PySem.W.callWith_K0 I.kIn hk (run_fn (us := []) F hr hb hd hx I .nil h)

/-- o.m(e, ..) -/
theorem pe_meth {pl : Sem Bool} (he : PE X o ta) (c : Cls X.K C) (hm : Meth X.K C m f) (F : FnOk X.prog X.w X.K X.mg X.base CX k f fd ps sp) (hr : Room k X.A) (hb : Binds X.K fd ps ds) (hd : Vals dvs ds) (hx : Passes CX X E) (ha : PA X (e :: es) t)
    (hst : starEach (e :: es) X.env = (false, eval e X.env) :: starEach es X.env := by rfl) (hpl : (backTo pos (starEach es X.env)).any (·.1) = false := by rfl)
    (ht : eval (.Call (.Attribute o m apos) (e :: es) [] pos) X.env = (do
      let ov ← eval o X.env
      standAt apos.atName
      let (f, first) ← holding [ov] (getMethod ov m pl)
      callWith pos f first (backTo pos (starEach (e :: es) X.env)) (backToKw pos (keywordEach [] X.env))) := by rfl) :
    PE X (.Call (.Attribute o m apos) (e :: es) [] pos) (tMeth C m sp dvs E ta t) := by
  intro pins s σ H Q I h
  refine PySem.W.methodCall_KW (pl := pl) (thn (he pins s σ H _ I h) fun u s1 ⟨x, H1, I1, rx, a, dx, fs, ex, ea, l, q⟩ => ?_) ht
  subst ex
  obtain rfl : u = Value.ref a := rx
  refine getmeth_ok I1 ea c hm l ?_
  refine PySem.W.callWith_K (first := [.ref a]) (h₀ := X.base) I.ok.mod.kin hm.kp (thn (ha pos pins s1 σ H1 _ I1 q) fun us s2 ⟨vs, H2, I2, r, q2⟩ => ⟨I2.kIn, ?_⟩) hst hpl
  exact run_fn (us := .ref a :: us) (vs := .ref a :: vs) F hr hb hd hx I2 (.cons rfl r) q2
/-- o.m() -/
theorem pe_meth0 {pl : Sem Bool} (he : PE X o ta) (c : Cls X.K C) (hm : Meth X.K C m f) (F : FnOk X.prog X.w X.K X.mg X.base CX k f fd ps sp) (hr : Room k X.A) (hb : Binds X.K fd ps ds) (hd : Vals dvs ds) (hx : Passes CX X E)
    (ht : eval (.Call (.Attribute o m apos) [] [] pos) X.env = (do
      let ov ← eval o X.env
      standAt apos.atName
      let (f, first) ← holding [ov] (getMethod ov m pl)
      callWith pos f first (backTo pos (starEach [] X.env)) (backToKw pos (keywordEach [] X.env))) := by rfl) :
    PE X (.Call (.Attribute o m apos) [] [] pos) (tMeth C m sp dvs E ta tNil) := by
  intro pins s σ H Q I h
  refine PySem.W.methodCall_KW (pl := pl) (thn (he pins s σ H _ I h) fun u s1 ⟨x, H1, I1, rx, a, dx, fs, ex, ea, l, q⟩ => ?_) ht
  subst ex
  obtain rfl : u = Value.ref a := rx
  refine getmeth_ok I1 ea c hm l ?_
  exact PySem.W.callWith_K0 (first := [.ref a]) I1.kIn hm.kp (run_fn (us := [.ref a]) (vs := [.ref a]) F hr hb hd hx I1 (.cons rfl .nil) q)

/-- what a class must have to be made -/
structure Mk (K : PySem.W.Frag) (C f : Addr) : Prop where
  makes : PySem.W.makesIn K C = true
  init : PySem.W.findIn K (.ref C) "__init__" = some (some (.ref f))
  fn : PySem.W.isFn K (.ref f) = true
  kp : PySem.W.keepIn K (.ref C) = true

theorem run_make {pins : List (Addr × Obj)} {σ : St} {H : Hp} {s : Shared} {Q : VK} {us : List Value} {vs : List V} (M : Mk X.K C f) (F : FnOk X.prog X.w X.K X.mg X.base CX k f fd ps sp) (hr : Room (k + 1) X.A) (hb : Binds X.K fd ps ds) (hd : Vals dvs ds)
    (hx : Passes CX X E) (I : Inv X pins σ H s) (r : Vals vs us)
    (h : ∀ x dx, H x = none → H dx = none → dx ≠ x → sp (.ref x :: (vs ++ dvs)) (upd (upd H dx (.own x)) x (.ins C dx [])) (fun v H2 => v = .non ∧ Q (.ref x) H2) E) :
    wpAny (model X.prog X.w) X.A (call (.ref C) us) (EP X pins σ Q) X.xe s := by
  have hq := h (s.heap.objs.size + 1) s.heap.objs.size (I.hok.fresh (Nat.le_succ _)) (I.hok.fresh (Nat.le_refl _)) (Nat.ne_of_lt (Nat.lt_succ_self _))
  have I2 := Inv.made (C := C) I
  have r2 : Vals (V.ref (s.heap.objs.size + 1) :: (vs ++ dvs)) (Value.ref (s.heap.objs.size + 1) :: (us ++ ds)) := .cons rfl (r.append hd)
  have hl : (Value.ref (s.heap.objs.size + 1) :: us ++ ds).length = ps.length := by
    have e := r2.length
    rw [F.len _ _ _ _ hq] at e
    exact e.symm
  refine wpAny_call (make_map (f := f) I.kIn M.makes M.init (beq_iff_eq.mp M.fn) (codeAny_mono (F.run _ X.stack _ _ ⟨Value.ref (s.heap.objs.size + 1) :: us, []⟩ (Value.ref (s.heap.objs.size + 1) :: (us ++ ds)) _ _ E (hr.make C us [])
    (I2.env0.make C us []) (hb _ (Value.ref (s.heap.objs.size + 1) :: us) I2.kIn hl) r2 hq) fun r s' hq' => ?_))
  cases r with
  | error e => exact hx pins σ _ _ e s' I2 hq'
  | ok fl =>
    cases fl with
    | ret u =>
      obtain ⟨v, H', I3, rv, ev, q3⟩ := I2.after hq'
      subst ev
      exact ⟨rv, ⟨V.ref (s.heap.objs.size + 1), H', I3, rfl, q3⟩⟩
    | next => exact False.elim hq'
    | brk => exact False.elim hq'
    | cont => exact False.elim hq'
theorem pe_make (M : Mk X.K C f) (F : FnOk X.prog X.w X.K X.mg X.base CX k f fd ps sp) (hr : Room (k + 1) X.A) (hg : Gl X x) (hm : X.mg x = some (.ref C)) (hb : Binds X.K fd ps ds) (hd : Vals dvs ds) (hx : Passes CX X E)
    (ha : PA X (e :: es) t) (hdb : (x == ("__debug__" : Str)) = false := by decide) (he : starEach (e :: es) X.env = (false, eval e X.env) :: starEach es X.env := by rfl) (hpl : (backTo pos (starEach es X.env)).any (·.1) = false := by rfl) :
    PE X (.Call (.Name x p) (e :: es) [] pos) (tMake C sp dvs E t) := by
  intro pins s σ H Q I h
  refine wpAny_Call_Name_kw (ld_glob I hg hm ?_ hdb)
  refine PySem.W.callWith_K (h₀ := X.base) I.ok.mod.kin M.kp (thn (ha pos pins s σ H _ I h) fun us s1 ⟨vs, H1, I1, r, q⟩ => ⟨I1.kIn, ?_⟩) he hpl
  exact run_make M F hr hb hd hx I1 r q
theorem pe_make0 (M : Mk X.K C f) (F : FnOk X.prog X.w X.K X.mg X.base CX k f fd ps sp) (hr : Room (k + 1) X.A) (hg : Gl X x) (hm : X.mg x = some (.ref C)) (hb : Binds X.K fd ps ds) (hd : Vals dvs ds) (hx : Passes CX X E)
    (hdb : (x == ("__debug__" : Str)) = false := by decide) : PE X (.Call (.Name x p) [] [] pos) (tMake C sp dvs E tNil) := by
  intro pins s σ H Q I h
  refine wpAny_Call_Name_kw (ld_glob I hg hm ?_ hdb)
  exact PySem.W.callWith_K0 I.kIn M.kp (run_make (us := []) M F hr hb hd hx I .nil h)
end

/-! ### keywords -/
/-- the values of the keywords, from the left -/
def PK (X : Cx) (kws : List Keyword) (t : TA) : Prop :=
  ∀ (pos : Pos) (pins : List (Addr × Obj)) (s : Shared) (σ : St) (H : Hp) (Q : List V → Hp → Prop), Inv X pins σ H s → t σ H Q → wpAny (model X.prog X.w) X.A (evalAll ((backToKw pos (keywordEach kws X.env)).map (·.2))) (AP X pins σ Q) X.xe s
section
variable {X : Cx} {CX : CXT} {k : Nat} {f C : Addr} {fd : FuncData} {ps ks : List Str} {sp : Sp} {E : XK} {x m : Str} {p pos apos kpos : Pos} {e o : Expr} {es : List Expr} {kws : List Keyword} {te ta : TE} {t tk : TA} {nm : Option Str}
theorem pk_nil : PK X [] tNil := fun _ _ _ _ H Q I h => wpAny_evalAll_nil ⟨[], H, I, .nil, h⟩
theorem pk_cons (ha : PE X e te) (hr : PK X kws t) : PK X (⟨nm, e, kpos⟩ :: kws) (tCons te t) := by
  intro pos pins s σ H Q I h
  show wpAny _ _ (evalAll ((do let v ← eval e X.env; standAt pos; pure v) :: (backToKw pos (keywordEach kws X.env)).map (·.2))) _ _ s
  refine wpAny_evalAll_cons (wpAny_bind (thn (ha pins s σ H _ I h) fun u s1 ⟨x, H1, I1, r1, q1⟩ => wpAny_bind (wpAny_standAt (wpAny_pure ?_))))
  exact thn (hr pos pins s1 σ H1 _ I1 q1) fun us s2 ⟨xs, H2, I2, r2, q2⟩ => ⟨x :: xs, H2, I2, .cons r1 r2, q2⟩

/-- how a call with keywords binds: g puts the positional values us and the keywords' values ws (names ks) in the parameters' order, defaults among them -/
structure KBinds (K : PySem.W.Frag) (fd : FuncData) (ps ks : List Str) (g : List Value → List Value → List Value) (gV : List V → List V → List V) : Prop where
  to : ∀ (s : Shared) (us ws : List Value), K.In s.heap → (g us ws).length = ps.length → BindsTo s fd ⟨us, ks.zip ws⟩ (ps.zip (g us ws))
  rel : ∀ {vs : List V} {us : List Value} {zs : List V} {ws : List Value}, Vals vs us → Vals zs ws → Vals (gV vs zs) (g us ws)
def tCallK (sp : Sp) (gV : List V → List V → List V) (E : XK) (t tk : TA) : TE := fun σ H Q => t σ H fun vs H1 => tk σ H1 fun zs H2 => sp (gV vs zs) H2 Q E
variable {g : List Value → List Value → List Value} {gV : List V → List V → List V}
theorem run_fnk {pins : List (Addr × Obj)} {σ : St} {H : Hp} {s : Shared} {Q : VK} {us ws : List Value} {vs zs : List V} (F : FnOk X.prog X.w X.K X.mg X.base CX k f fd ps sp) (hr : Room k X.A) (hb : KBinds X.K fd ps ks g gV) (hx : Passes CX X E)
    (I : Inv X pins σ H s) (r : Vals vs us) (rz : Vals zs ws) (h : sp (gV vs zs) H Q E) : wpAny (model X.prog X.w) X.A (call (.ref f) us (ks.zip ws)) (EP X pins σ Q) X.xe s := by
  have r2 := hb.rel r rz
  have hl : (g us ws).length = ps.length := by rw [← r2.length]; exact F.len _ _ _ _ h
  refine wpAny_call (codeAny_mono (F.run X.A X.stack s H ⟨us, ks.zip ws⟩ (g us ws) (gV vs zs) Q E hr I.env0 (hb.to s us ws I.kIn hl) r2 h) fun r s' hq => ?_)
  cases r with
  | error e => exact hx pins σ H s e s' I hq
  | ok fl =>
    cases fl with
    | ret u => exact I.after hq
    | next => exact False.elim hq
    | brk => exact False.elim hq
    | cont => exact False.elim hq
/-- f(e, .., k = v, ..) -/
theorem pe_callK (F : FnOk X.prog X.w X.K X.mg X.base CX k f fd ps sp) (hr : Room k X.A) (hg : Gl X x) (hm : X.mg x = some (.ref f)) (hk : PySem.W.keepIn X.K (.ref f) = true) (hb : KBinds X.K fd ps ks g gV) (hx : Passes CX X E)
    (ha : PA X (e :: es) t) (hkw : PK X kws tk) (hall : (backToKw pos (keywordEach kws X.env)).all (·.1.isSome) = true := by rfl) (hks : (backToKw pos (keywordEach kws X.env)).filterMap (·.1) = ks := by rfl)
    (hdb : (x == ("__debug__" : Str)) = false := by decide) (he : starEach (e :: es) X.env = (false, eval e X.env) :: starEach es X.env := by rfl)
    (hpl : ((backTo pos (starEach (e :: es) X.env)).any (·.1) || (backToKw pos (keywordEach kws X.env)).any (·.1.isNone)) = false := by rfl) :
    PE X (.Call (.Name x p) (e :: es) kws pos) (tCallK sp gV E t tk) := by
  intro pins s σ H Q I h
  refine wpAny_Call_Name_kw (ld_glob I hg hm ?_ hdb)
  refine PySem.W.callWith_KW (h₀ := X.base) I.ok.mod.kin hk hall (thn (ha pos pins s σ H _ I h) fun us s1 ⟨vs, H1, I1, r, q⟩ => ?_) hpl he
  refine thn (hkw pos pins s1 σ H1 _ I1 q) fun ws s2 ⟨zs, H2, I2, rz, q2⟩ => ⟨I2.kIn, ?_⟩
  rw [hks]
  exact run_fnk F hr hb hx I2 r rz q2
end

/-! ### a def's body keeps its promise -/
/-- names: the parameters first -/
structure FnScope (N P : List Str) (sc : Scope) : Prop where
  kind : sc.kind = .function
  co : sc.isCoroutine = false
  gen : sc.isGenerator = false
  nd : N.Nodup
  pre : N.take P.length = P
  par : ∀ x ∈ P, sc.names.lookup x = some .local ∨ sc.names.lookup x = some .cell
  nofree : ∀ y ∈ sc.names, y.2 ≠ .free

theorem bindL_out {kindOf : Str → Option NameKind} {x : Str} : ∀ {binds : List (Str × Value)} {m : Str → Option Value}, (∀ v, (x, v) ∉ binds) → bindL kindOf binds m x = m x
  | [], _, _ => rfl
  | (n, v) :: r, m, h => by
    unfold bindL
    rw [bindL_out fun w hw => h w (List.mem_cons_of_mem _ hw)]
    split
    · have : x ≠ n := by rintro rfl; exact h v List.mem_cons_self
      simp [this]
    · rfl
theorem bindC_out {kindOf : Str → Option NameKind} {x : Str} : ∀ {binds : List (Str × Value)} {m : Str → Option Value}, (∀ v, (x, v) ∉ binds) → bindC kindOf binds m x = m x
  | [], _, _ => rfl
  | (n, v) :: r, m, h => by
    unfold bindC
    rw [bindC_out fun w hw => h w (List.mem_cons_of_mem _ hw)]
    split
    · rfl
    · have : x ≠ n := by rintro rfl; exact h v List.mem_cons_self
      simp [this]
theorem bindL_get {kindOf : Str → Option NameKind} {x : Str} {v : Value} : ∀ {P : List Str} {vs : List Value} {i : Nat} {m : Str → Option Value}, P.Nodup → P[i]? = some x → vs[i]? = some v → kindOf x = some .local →
    bindL kindOf (P.zip vs) m x = some v
  | [], _, _, _, _, h, _, _ => by simp at h
  | _ :: _, [], _, _, _, _, h, _ => by simp at h
  | p :: P, w :: vs, 0, m, nd, h1, h2, hk => by
    simp at h1 h2; subst h1; subst h2
    show bindL kindOf ((p, w) :: P.zip vs) m p = _
    unfold bindL
    rw [bindL_out fun v hv => (List.nodup_cons.mp nd).1 (List.of_mem_zip hv).1, if_pos hk]
    simp
  | p :: P, w :: vs, i + 1, m, nd, h1, h2, hk => by
    show bindL kindOf ((p, w) :: P.zip vs) m x = _
    unfold bindL
    exact bindL_get (i := i) (List.nodup_cons.mp nd).2 (by simpa using h1) (by simpa using h2) hk
theorem bindC_get {kindOf : Str → Option NameKind} {x : Str} {v : Value} : ∀ {P : List Str} {vs : List Value} {i : Nat} {m : Str → Option Value}, P.Nodup → P[i]? = some x → vs[i]? = some v → kindOf x ≠ some .local →
    bindC kindOf (P.zip vs) m x = some v
  | [], _, _, _, _, h, _, _ => by simp at h
  | _ :: _, [], _, _, _, _, h, _ => by simp at h
  | p :: P, w :: vs, 0, m, nd, h1, h2, hk => by
    simp at h1 h2; subst h1; subst h2
    show bindC kindOf ((p, w) :: P.zip vs) m p = _
    unfold bindC
    rw [bindC_out fun v hv => (List.nodup_cons.mp nd).1 (List.of_mem_zip hv).1, if_neg hk]
    simp
  | p :: P, w :: vs, i + 1, m, nd, h1, h2, hk => by
    show bindC kindOf ((p, w) :: P.zip vs) m x = _
    unfold bindC
    exact bindC_get (i := i) (List.nodup_cons.mp nd).2 (by simpa using h1) (by simpa using h2) hk

/-- the names' values at the entry -/
def start (N : List Str) (vs : List V) : St := vs.map some ++ List.replicate (N.length - vs.length) none

/-- the context of a def's body, at its entry; an exception leaves the frame, then lies as CX says -/
def cxOf (CX : CXT) (P : Program) (w : World) (K : PySem.W.Frag) (mg : Str → Option Value) (base : Heap) (N : List Str) (qual : Str) (scope : Scope) (f : Addr) (cd : Value) (A : Around) (outer : List Env) (s : Shared) (H : Hp) (E : XK) : Cx where
  prog := P
  w := w
  K := K
  mg := mg
  base := base
  A := A.deeper (envOfC qual scope s.heap.objs.size f cd)
  N := N
  s₀ := s
  H₀ := H
  env := envOfC qual scope s.heap.objs.size f cd
  outer := outer
  stack := envOfC qual scope s.heap.objs.size f cd :: outer
  ex := []
  calm := true
  fn := fun _ => true
  pn := []
  xe := fun e s' => wpAny (model P w) (A.deeper (envOfC qual scope s.heap.objs.size f cd)) (leaving (envOfC qual scope s.heap.objs.size f cd) e) (fun _ s'' => CX outer H s E e s'') (fun e' s'' => CX outer H s E e' s'') s'

theorem cell_has {sc : Scope} {n : Nat} {x : Str} (h : sc.names.lookup x = some .cell) : ∃ c, (cellsFrom n sc.names []).lookup x = some c := by
  have q := PySem.W.cellsFrom_some sc.names n [] (.inl h)
  exact Option.isSome_iff_exists.mp q

theorem inv_start {CX : CXT} {P : Program} {w : World} {K : PySem.W.Frag} {mg : Str → Option Value} {base : Heap} {N ps : List Str} {qual : Str} {scope : Scope} {f : Addr} {cd : Value} {A : Around} {outer : List Env} {s s1 : Shared} {H : Hp} {E : XK} {us : List Value} {vs : List V}
    (S : FnScope N ps scope) (hd : A.handled = none) (e0 : Env0 P w K mg base A outer s H) (hl : vs.length = ps.length) (r : Vals vs us)
    (x : InCallC s s.heap.objs.size (bindL (envOfC qual scope s.heap.objs.size f cd).kindOf (ps.zip us) fun _ => none) (cellsFrom (s.heap.objs.size + 1) scope.names []) (bindC (envOfC qual scope s.heap.objs.size f cd).kindOf (ps.zip us) fun _ => none) s1) :
    Inv (cxOf CX P w K mg base N qual scope f cd A outer s H E) [] (start N vs) H s1 := by
  have hpl : ps.length ≤ N.length := by have := congrArg List.length S.pre; rw [List.length_take] at this; omega
  obtain ⟨h1, tk, rfl, hk⟩ := x.done
  have noA : ∀ b : Addr, b ∉ (cxOf CX P w K mg base N qual scope f cd A outer s H E).ex := fun b z => absurd (show b ∈ ([] : List Addr) from z) (by simp)
  refine ⟨⟨e0.mod, S.kind, rfl, rfl, Nat.le_refl _, fun y z c h1 h2 => ?_, fun y hy => ?_, fun y c _ h => ?_, fun _ => hd, Around.frames_deeper e0.frames, .inr ⟨rfl, rfl⟩, fun b z => absurd z (noA b), e0.bs, e0.bsz, fun b _ _ => noA b, fun b z => absurd z (noA b), e0.funs, e0.frf⟩,
    rfl, e0.bare, Un.kept hk, ⟨_, x.toInCall.ns, fun i y v h1 h2 h3 => ?_⟩, fun y c h => ⟨_, x.cell y c h⟩, e0.hok.fresh (Nat.le_refl _), fun y c h => ?_, fun p hp => absurd (show p ∈ ([] : List (Addr × Obj)) from hp) (by simp), e0.hok.kept hk, ?_⟩
  · exact name_of_addr x.apart (PySem.mem_of_lookup h1) (PySem.mem_of_lookup h2)
  · have hy : scope.names.lookup y = some .cell ∨ scope.names.lookup y = some .free := hy
    rcases hy with hy | hy
    · exact cell_has hy
    · exact absurd rfl (S.nofree _ (PySem.mem_of_lookup hy))
  · exact Nat.le_of_lt (x.above y c (PySem.mem_of_lookup h))
  · have hi : i < vs.length := by
      unfold start at h2
      by_cases hi : i < vs.length
      · exact hi
      · rw [List.getElem?_append_right (by simpa using hi)] at h2
        rw [List.getElem?_replicate] at h2
        split at h2 <;> cases h2
    have ha : vs[i]? = some v := by
      unfold start at h2
      rw [List.getElem?_append_left (by simpa using hi), List.getElem?_map] at h2
      cases e : vs[i]? with
      | none => rw [e] at h2; cases h2
      | some a => rw [e] at h2; cases h2; rfl
    obtain ⟨u, hu, rv⟩ := r.get ha
    have hp : ps[i]? = some y := by
      rw [← S.pre, List.getElem?_take_of_lt (by omega)]; exact h1
    have ndP : ps.Nodup := by rw [← S.pre]; exact S.nd.sublist (List.take_sublist _ _)
    refine ⟨u, rv, ?_⟩
    rcases S.par y (List.mem_of_getElem? hp) with k | k
    · exact .inl ⟨k, bindL_get ndP hp hu k⟩
    · obtain ⟨c, e⟩ := cell_has (n := s.heap.objs.size + 1) k
      refine .inr ⟨.inl k, c, e, ?_⟩
      have q := x.cell y c e
      rw [bindC_get ndP hp hu (by show scope.names.lookup y ≠ _; rw [k]; decide)] at q
      exact q
  · exact e0.hok.fresh (Nat.le_of_lt (x.above y c (PySem.mem_of_lookup h)))
  · unfold start
    show _ = N.length
    rw [List.length_append, List.length_map, List.length_replicate]
    omega

/-- THE RULE: a def (or a method) of the text, by its body. The body's reading t is chosen for each entry; it is run at the parameters' values -/
theorem fn_of {CX : CXT} {P : Program} {w : World} {K : PySem.W.Frag} {mg : Str → Option Value} {base : Heap} {k : Nat} {f : Addr} {name qual : Str} {params : Arguments} {body : List Stmt} {scope : Scope} {dV kV doc pm cdv ct oc : Value} {an od : Option Addr}
    {osl : Array (Option Value)} {N ps : List Str} {sp : Sp} (lk : K.lookup f = some ⟨oc, od, .func (PySem.W.fnOf name qual params body scope dV kV doc pm an cdv ct), osl⟩) (hcd : PySem.W.codeIn K cdv qual = true) (S : FnScope N ps scope)
    (len : ∀ vs H Q E, sp vs H Q E → vs.length = ps.length)
    (hbody : ∀ (A : Around) (outer : List Env) (s : Shared) (H : Hp) (vs : List V) (Q : VK) (E : XK), Room k (A.deeper (envOfC qual scope s.heap.objs.size f cdv)) → sp vs H Q E →
      ∃ t, PSs (cxOf CX P w K mg base N qual scope f cdv A outer s H E) body t ∧ t { nx := fun _ H' => Q .non H', rt := Q } (start N vs) H) :
    FnOk P w K mg base CX (k + 1) f (PySem.W.fnOf name qual params body scope dV kV doc pm an cdv ct) ps sp := by
  refine ⟨len, fun A outer s H args us vs Q E hr e0 hb r hsp => ?_⟩
  have hl := len _ _ _ _ hsp
  have KX : K.In s.heap := e0.mod.kin.keeps fun b o e => (e0.bs b o e).1
  have lim : s.heap.NoLimit := e0.mod.nolimit.keeps fun b o e => (e0.bs b o e).1
  have hkind : ∀ y ∈ ps.zip us, scope.names.lookup y.1 = some .local ∨ (scope.names.lookup y.1 = some .cell ∧ ((cellsFrom (s.heap.objs.size + 1) scope.names []).lookup y.1).isSome = true) := fun ⟨n, v⟩ hy => by
    rcases S.par n (List.of_mem_zip hy).1 with q | q
    · exact .inl q
    · exact .inr ⟨q, PySem.W.cellsFrom_some _ _ _ (.inl q)⟩
  refine codeAny_call_function hr.depth (KX _ _ lk) rfl S.co S.gen rfl (PySem.W.codeRec_of KX hcd) (hb _ _ _ _ ?_)
  refine wpAny_newFunctionEnv_cells S.kind hkind fun env he s1 x => ?_
  subst he
  refine ⟨lim.keeps x.toInCall.keep, codeAny_func ?_⟩
  obtain ⟨t, ht, hq⟩ := hbody A outer s H vs Q E (hr.deeper _) hsp
  have I : Inv (cxOf CX P w K mg base N qual scope f cdv A outer s H E) [] (start N vs) H s1 := inv_start S hr.hd e0 hl r x
  refine wpAny_mono (ht [] s1 (start N vs) H _ I hq) (fun fl s' hs => ?_) fun e s' hs => hs
  have fin : ∀ {σ' : St} {H' : Hp} {v : V} {u : Value}, Inv (cxOf CX P w K mg base N qual scope f cdv A outer s H E) [] σ' H' s' → RelV v u → Q v H' → CE outer P w H s Q u s' :=
    fun {σ' H' v u} J rv q => ⟨v, H', J.os, J.bare, J.base, J.hok, rv, q⟩
  cases fl with
  | ret u =>
    obtain ⟨v, σ', H', J, rv, q⟩ := hs
    exact fin J rv q
  | next =>
    obtain ⟨σ', H', J, q⟩ := hs
    exact fin (v := V.non) (u := Value.none) J rfl q
  | brk =>
    obtain ⟨_, _, _, q⟩ := hs
    exact False.elim q
  | cont =>
    obtain ⟨_, _, _, q⟩ := hs
    exact False.elim q
end L2

namespace L2
open PySem PySem.Spec PyProof.Rows
section
variable {X : Cx} {x : Str} {p pos : Pos} {e : Expr} {es : List Expr} {t : TA} {id T : String} {r : List V → Hp → VK → Prop}

def tCB (r : List V → Hp → VK → Prop) (t : TA) : TE := fun σ H Q => t σ H fun vs H1 => r vs H1 Q
/-- f(e, ..), f a built-in function -/
theorem pe_callB (hc : CallR X (.builtin id) r) (hg : Gl X x) (hm : X.mg x = none) (hv : bootBuiltins x = some (.builtin id)) (ha : PA X (e :: es) t) (hn : x ≠ "__name__" := by decide) (hdb : (x == ("__debug__" : Str)) = false := by decide)
    (he : starEach (e :: es) X.env = (false, eval e X.env) :: starEach es X.env := by rfl) (hpl : (backTo pos (starEach es X.env)).any (·.1) = false := by rfl) : PE X (.Call (.Name x p) (e :: es) [] pos) (tCB r t) := by
  intro pins s σ H Q I h
  refine wpAny_Call_Name_kw (ld_blt I hg hm hv ?_ hn hdb)
  exact PyProof.Rows.callWith_builtin1 (thn (ha pos pins s σ H _ I h) fun us s1 ⟨vs, H1, I1, r1, q1⟩ => hc pins s1 σ H1 vs us Q I1 r1 q1) he hpl
/-- T(e, ..), T a built-in type -/
theorem pe_callTy (hc : CallR X (.type T) r) (hg : Gl X x) (hm : X.mg x = none) (hv : bootBuiltins x = some (.type T)) (ha : PA X (e :: es) t) (hn : x ≠ "__name__" := by decide) (hdb : (x == ("__debug__" : Str)) = false := by decide)
    (he : starEach (e :: es) X.env = (false, eval e X.env) :: starEach es X.env := by rfl) (hpl : (backTo pos (starEach es X.env)).any (·.1) = false := by rfl) : PE X (.Call (.Name x p) (e :: es) [] pos) (tCB r t) := by
  intro pins s σ H Q I h
  refine wpAny_Call_Name_kw (ld_blt I hg hm hv ?_ hn hdb)
  exact PyProof.Rows.callWith_type1 (thn (ha pos pins s σ H _ I h) fun us s1 ⟨vs, H1, I1, r1, q1⟩ => hc pins s1 σ H1 vs us Q I1 r1 q1) he hpl
/-- T() -/
theorem pe_callTy0 (hc : CallR X (.type T) r) (hg : Gl X x) (hm : X.mg x = none) (hv : bootBuiltins x = some (.type T)) (hn : x ≠ "__name__" := by decide) (hdb : (x == ("__debug__" : Str)) = false := by decide) :
    PE X (.Call (.Name x p) [] [] pos) (tCB r tNil) := by
  intro pins s σ H Q I h
  refine wpAny_Call_Name_kw (ld_blt I hg hm hv ?_ hn hdb)
  exact PyProof.Rows.callWith_type0 (hc pins s σ H [] [] Q I .nil h)
end
end L2

namespace L2
open PySem PySem.Spec PyProof.Rows

/-! ### lists of pairs as tables -/
section
variable {κ : Type} [DecidableEq κ]
def valV (kvs : List (κ × V)) (k : κ) : Option V := (kvs.find? fun kv => decide (kv.1 = k)).map (·.2)
/-- in its place, or at the end -/
def putK (kvs : List (κ × V)) (k : κ) (v : V) : List (κ × V) :=
  if (kvs.any fun kv => decide (kv.1 = k)) = true then kvs.map (fun kv => if kv.1 = k then (kv.1, v) else kv) else kvs ++ [(k, v)]
def dropK (kvs : List (κ × V)) (k : κ) : List (κ × V) := kvs.filter fun kv => decide (kv.1 ≠ k)

theorem valV_nil {k : κ} : valV ([] : List (κ × V)) k = none := rfl
theorem valV_pos {p : κ × V} {r : List (κ × V)} {k : κ} (e : p.1 = k) : valV (p :: r) k = some p.2 := by simp [valV, List.find?_cons, e]
theorem valV_neg {p : κ × V} {r : List (κ × V)} {k : κ} (e : ¬ p.1 = k) : valV (p :: r) k = valV r k := by simp [valV, List.find?_cons, e]
theorem valV_any (k : κ) : ∀ kvs : List (κ × V), (kvs.any fun kv => decide (kv.1 = k)) = (valV kvs k).isSome
  | [] => rfl
  | p :: r => by
    rw [List.any_cons]
    by_cases e : p.1 = k
    · simp only [valV_pos e, decide_eq_true e, Bool.true_or, Option.isSome_some]
    · rw [valV_neg e, decide_eq_false e, Bool.false_or]; exact valV_any k r
theorem valV_map (k j : κ) (y : V) : ∀ kvs : List (κ × V), valV (kvs.map fun kv => if kv.1 = k then (kv.1, y) else kv) j = (valV kvs j).map fun x => if j = k then y else x
  | [] => rfl
  | p :: r => by
    have ih := valV_map k j y r
    rw [List.map_cons]
    by_cases h : p.1 = k
    · rw [if_pos h]
      by_cases e : p.1 = j
      · rw [valV_pos (p := (p.1, y)) e, valV_pos e, Option.map_some, if_pos (e.symm.trans h)]
      · rw [valV_neg (p := (p.1, y)) e, valV_neg e, ih]
    · rw [if_neg h]
      by_cases e : p.1 = j
      · rw [valV_pos (p := p) e, valV_pos e, Option.map_some, if_neg (fun z => h (e.trans z))]
      · rw [valV_neg (p := p) e, valV_neg e, ih]
theorem valV_snoc (k j : κ) (y : V) : ∀ kvs : List (κ × V), valV kvs k = none → valV (kvs ++ [(k, y)]) j = if j = k then some y else valV kvs j
  | [], _ => by
    by_cases e : k = j
    · rw [if_pos e.symm]; exact valV_pos (p := (k, y)) e
    · rw [if_neg (fun z => e z.symm)]; exact valV_neg (p := (k, y)) e
  | p :: r, hn => by
    rw [List.cons_append]
    have hk : ¬ p.1 = k := fun z => by rw [valV_pos z] at hn; cases hn
    rw [valV_neg hk] at hn
    have ih := valV_snoc k j y r hn
    by_cases e : p.1 = j
    · rw [valV_pos e, valV_pos e, if_neg (fun z => hk (e.trans z))]
    · rw [valV_neg e, valV_neg e, ih]
theorem valV_put (kvs : List (κ × V)) (k j : κ) (y : V) : valV (putK kvs k y) j = if j = k then some y else valV kvs j := by
  unfold putK
  by_cases a : (kvs.any fun kv => decide (kv.1 = k)) = true
  · rw [if_pos a, valV_map]
    rw [valV_any] at a
    by_cases e : j = k
    · obtain ⟨x, hx⟩ := Option.isSome_iff_exists.mp a
      rw [if_pos e, e, hx, Option.map_some, if_pos rfl]
    · rw [if_neg e]
      cases valV kvs j with
      | none => rfl
      | some x => rw [Option.map_some, if_neg e]
  · rw [if_neg a]
    refine valV_snoc k j y kvs ?_
    rw [valV_any] at a
    cases q : valV kvs k with
    | none => rfl
    | some x => rw [q] at a; exact (a rfl).elim
theorem length_putK (kvs : List (κ × V)) (k : κ) (v : V) : (putK kvs k v).length ≤ kvs.length + 1 := by
  unfold putK
  split
  · rw [List.length_map]; omega
  · rw [List.length_append, List.length_cons, List.length_nil]; omega
theorem putK_new {kvs : List (κ × V)} {k : κ} (v : V) (h : valV kvs k = none) : putK kvs k v = kvs ++ [(k, v)] := by
  unfold putK
  rw [valV_any, h]
  exact if_neg (by decide)

theorem RelO.isSome_eq {o : Option V} {u : Option Value} (r : RelO o u) : o.isSome = u.isSome := by
  cases o with
  | none => cases u with
    | none => rfl
    | some _ => exact (show False from r).elim
  | some _ => cases u with
    | none => exact (show False from r).elim
    | some _ => rfl
theorem RelO.getD {o : Option V} {u : Option Value} {d : V} {d' : Value} (r : RelO o u) (rd : RelV d d') : RelV (o.getD d) (u.getD d') := by
  cases o with
  | none => cases u with
    | none => exact rd
    | some _ => exact (show False from r).elim
  | some _ => cases u with
    | none => exact (show False from r).elim
    | some _ => exact r

/-- raw tables of the same keys -/
theorem KV.val {kvs : List (κ × V)} {vs : List (κ × Value)} (r : KV kvs vs) (k : κ) : RelO (valV kvs k) (valueAt vs k) := by
  unfold KV at r
  induction r with
  | nil => exact True.intro
  | @cons p q ps qs h t ih =>
    obtain ⟨h1, h2⟩ := h
    by_cases e : p.1 = k
    · have e' : q.1 = k := h1.symm.trans e
      have b : valueAt (q :: qs) k = some q.2 := by simp [valueAt, List.find?_cons, e']
      rw [valV_pos e, b]; exact h2
    · have e' : ¬ q.1 = k := fun z => e (h1.trans z)
      have b : valueAt (q :: qs) k = valueAt qs k := by simp [valueAt, List.find?_cons, e']
      rw [valV_neg e, b]; exact ih
theorem KV.any {kvs : List (κ × V)} {vs : List (κ × Value)} (r : KV kvs vs) (k : κ) : (kvs.any fun kv => decide (kv.1 = k)) = vs.any fun kv => decide (kv.1 = k) := by
  unfold KV at r
  induction r with
  | nil => rfl
  | cons h t ih => rw [List.any_cons, List.any_cons, ih, h.1]
theorem KV.repl {kvs : List (κ × V)} {vs : List (κ × Value)} (r : KV kvs vs) (k : κ) {y : V} {u : Value} (ry : RelV y u) :
    KV (kvs.map fun kv => if kv.1 = k then (kv.1, y) else kv) (vs.map fun kv => if kv.1 = k then (kv.1, u) else kv) := by
  unfold KV at r ⊢
  induction r with
  | nil => exact .nil
  | @cons p q ps qs h t ih =>
    rw [List.map_cons, List.map_cons]
    refine .cons ?_ ih
    obtain ⟨h1, h2⟩ := h
    by_cases e : p.1 = k
    · rw [if_pos e, if_pos (h1.symm.trans e)]; exact ⟨h1, ry⟩
    · rw [if_neg e, if_neg (fun z => e (h1.trans z))]; exact ⟨h1, h2⟩
theorem KV.put {kvs : List (κ × V)} {vs : List (κ × Value)} (r : KV kvs vs) (k : κ) {y : V} {u : Value} (ry : RelV y u) : KV (putK kvs k y) (stored vs k u) := by
  unfold putK stored
  rw [r.any k]
  by_cases e : (vs.any fun kv => decide (kv.1 = k)) = true
  · rw [if_pos e, if_pos e]; exact r.repl k ry
  · rw [if_neg e, if_neg e]; exact Paired.snoc r ⟨rfl, ry⟩
theorem KV.drop {kvs : List (κ × V)} {vs : List (κ × Value)} (r : KV kvs vs) (k : κ) : KV (dropK kvs k) (without vs k) := by
  unfold KV at r ⊢
  unfold dropK without
  induction r with
  | nil => exact .nil
  | @cons p q ps qs h t ih =>
    obtain ⟨h1, h2⟩ := h
    rw [List.filter_cons, List.filter_cons]
    by_cases e : p.1 = k
    · have a : ¬ decide (p.1 ≠ k) = true := by simp [e]
      have b : ¬ decide (q.1 ≠ k) = true := by simp [h1.symm.trans e]
      rw [if_neg a, if_neg b]; exact ih
    · have e' : ¬ q.1 = k := fun z => e (h1.trans z)
      have a : decide (p.1 ≠ k) = true := by simp [e]
      have b : decide (q.1 ≠ k) = true := by simp [e']
      rw [if_pos a, if_pos b]; exact .cons ⟨h1, h2⟩ ih
theorem KV.keys {kvs : List (κ × V)} {vs : List (κ × Value)} (r : KV kvs vs) : kvs.map (·.1) = vs.map (·.1) := by
  unfold KV at r
  induction r with
  | nil => rfl
  | cons h t ih => rw [List.map_cons, List.map_cons, ih, h.1]
theorem KV.length {kvs : List (κ × V)} {vs : List (κ × Value)} (r : KV kvs vs) : kvs.length = vs.length := Paired.length r
theorem dropK_le (kvs : List (κ × V)) (k : κ) : (dropK kvs k).length ≤ kvs.length := List.length_filter_le _ _
end


/-! ### a tracked dict, its keys ints and texts or tuples of these -/
theorem kV_is {P : Program} {w : World} {k : Key} {u : Value} (r : RelV (kV k) u) : (mixKind P w).is k u = true := by
  cases k with
  | inl i => obtain ⟨t, e⟩ := (show ∃ t, u = Value.int i t from r); subst e; exact mixKind_int P w i t
  | inr x => obtain ⟨t, e⟩ := (show ∃ t, u = Value.str x t from r); subst e; exact mixKind_str P w x t
theorem kV_inj {a b : Key} (e : kV a = kV b) : a = b := by
  cases a with
  | inl i => cases b with
    | inl j => have e' : V.int i = V.int j := e; injection e' with e'; rw [e']
    | inr y => exact nomatch (show V.int i = V.str y from e)
  | inr x => cases b with
    | inl j => exact nomatch (show V.str x = V.int j from e)
    | inr y => have e' : V.str x = V.str y := e; injection e' with e'; rw [e']
theorem kVs_inj : ∀ {a b : List Key}, a.map kV = b.map kV → a = b
  | [], [], _ => rfl
  | [], _ :: _, e => by simp at e
  | _ :: _, [], e => by simp at e
  | x :: xs, y :: ys, e => by
    rw [List.map_cons, List.map_cons] at e
    injection e with e1 e2
    rw [kV_inj e1, kVs_inj e2]
theorem items_are {P : Program} {w : World} : ∀ {ks : List Key} {us : List Value}, Vals (ks.map kV) us → ItemsAre (mixKind P w) ks us
  | [], _, r => by rw [List.map_nil] at r; cases r; exact .nil
  | k :: ks, _, r => by
    rw [List.map_cons] at r
    cases r with
    | cons h t => exact .cons (kV_is h) (items_are t)

/-- raw entries of a dict with tuple keys -/
abbrev KT (H : Hp) : List (List Key × V) → List (List Key × Addr × Value) → Prop := Paired fun p q => p.1 = q.1 ∧ H q.2.1 = some (.tup (p.1.map kV)) ∧ RelV p.2 q.2.2
theorem KT.val {H : Hp} {kvs : List (List Key × V)} {xs : List (List Key × Addr × Value)} (r : KT H kvs xs) (k : List Key) : RelO (valV kvs k) ((atKey xs k).map (·.2)) := by
  induction r with
  | nil => exact True.intro
  | @cons p q ps qs h t ih =>
    obtain ⟨h1, _, h2⟩ := h
    by_cases e : p.1 = k
    · have e' : q.1 = k := h1.symm.trans e
      have b : atKey (q :: qs) k = some q.2 := by simp [atKey, List.find?_cons, e']
      rw [valV_pos e, b]; exact h2
    · have e' : ¬ q.1 = k := fun z => e (h1.trans z)
      have b : atKey (q :: qs) k = atKey qs k := by simp [atKey, List.find?_cons, e']
      rw [valV_neg e, b]; exact ih
theorem KT.repl {H : Hp} {kvs : List (List Key × V)} {xs : List (List Key × Addr × Value)} (r : KT H kvs xs) (k : List Key) {y : V} {u : Value} (ry : RelV y u) :
    KT H (kvs.map fun kv => if kv.1 = k then (kv.1, y) else kv) (xs.map (putAt k u)) := by
  induction r with
  | nil => exact .nil
  | @cons p q ps qs h t ih =>
    rw [List.map_cons, List.map_cons]
    refine .cons ?_ ih
    obtain ⟨h1, h2, h3⟩ := h
    unfold putAt
    by_cases e : p.1 = k
    · rw [if_pos e, if_pos (h1.symm.trans e)]; exact ⟨h1, h2, ry⟩
    · rw [if_neg e, if_neg (fun z => e (h1.trans z))]; exact ⟨h1, h2, h3⟩
theorem KT.put {H : Hp} {kvs : List (List Key × V)} {xs : List (List Key × Addr × Value)} (r : KT H kvs xs) (k : List Key) {b : Addr} {y : V} {u : Value} (hb : H b = some (.tup (k.map kV))) (ry : RelV y u) :
    KT H (putK kvs k y) (storedH xs k b u) := by
  have e : (kvs.any fun kv => decide (kv.1 = k)) = (atKey xs k).isSome := by
    rw [valV_any, (r.val k).isSome_eq, Option.isSome_map]
  unfold putK storedH
  rw [e]
  by_cases q : (atKey xs k).isSome = true
  · rw [if_pos q, if_pos q]; exact r.repl k ry
  · rw [if_neg q, if_neg q]; exact Paired.snoc r ⟨rfl, hb, ry⟩
theorem KT.keeps {H H' : Hp} {kvs : List (List Key × V)} {xs : List (List Key × Addr × Value)} (r : KT H kvs xs) (ht : ∀ b ys, H b = some (.tup ys) → H' b = some (.tup ys)) : KT H' kvs xs :=
  Paired.mapP r fun _ _ z => ⟨z.1, ht _ _ z.2.1, z.2.2⟩

section
variable {P : Program} {w : World} {H : Hp} {h : Heap} {a : Addr}
theorem rd_of {u : HO} (ok : HOk P w H h) (e : Rd H a u) : ObjOk P w H h a u := e.ok ok
theorem dk_rd {kvs : List (Key × V)} (ok : HOk P w H h) (e : Rd H a (.dK kvs)) : kvs.length ≤ sizeLine ∧ (a == sysModules) = false ∧ ∃ vs, KV kvs vs ∧ h.DictOf (mixKind P w) a vs :=
  show ObjOk P w H h a (.dK kvs) from rd_of ok e
theorem dk_of {kvs : List (Key × V)} (ok : HOk P w H h) (e : H a = some (.dK kvs)) : kvs.length ≤ sizeLine ∧ (a == sysModules) = false ∧ ∃ vs, KV kvs vs ∧ h.DictOf (mixKind P w) a vs := dk_rd ok (.inl e)
/-- a tracked tuple of ints and texts is a key -/
theorem key_of {ks : List Key} (ok : HOk P w H h) (e : H a = some (.tup (ks.map kV))) : (tupleKind (mixKind P w)).is h ks a := by
  obtain ⟨_, its, r, o, h1, h2, n, h3⟩ := (show ObjOk P w H h a (.tup (ks.map kV)) from ok a _ e)
  exact ⟨o, its.toArray, n, h1, h2, h3, by simpa using items_are r⟩
theorem dt_rd {kvs : List (List Key × V)} (ok : HOk P w H h) (e : Rd H a (.dT kvs)) : kvs.length ≤ sizeLine ∧ (a == sysModules) = false ∧
    ∃ xs, KT H kvs xs ∧ h.DictOfH (tupleKind (mixKind P w)) a xs := by
  obtain ⟨z, y, xs, r, o, es, ep, h1, h2, h3, h4, h5⟩ := (show ObjOk P w H h a (.dT kvs) from rd_of ok e)
  refine ⟨z, y, xs, r, o, es, ep, h1, h2, h3, h4, fun x hx => ?_, h5⟩
  have all : ∀ {l : List (List Key × V)} {m : List (List Key × Addr × Value)}, KT H l m → ∀ x ∈ m, (tupleKind (mixKind P w)).is h x.1 x.2.1 := by
    intro l m q
    induction q with
    | nil => intro x hx; exact nomatch hx
    | @cons p q ps qs hq t ih =>
      intro x hx
      rcases List.mem_cons.mp hx with e | hx
      · subst e
        exact key_of ok (by rw [← hq.1]; exact hq.2.1)
      · exact ih x hx
  exact all r x hx
theorem dt_of {kvs : List (List Key × V)} (ok : HOk P w H h) (e : H a = some (.dT kvs)) : kvs.length ≤ sizeLine ∧ (a == sysModules) = false ∧
    ∃ xs, KT H kvs xs ∧ h.DictOfH (tupleKind (mixKind P w)) a xs := dt_rd ok (.inl e)
end

/-- what the dict at a holds at the key y -/
def DGet (H : Hp) (a : Addr) (y : V) (r : Option V) : Prop :=
  (∃ kvs k, Rd H a (.dK kvs) ∧ y = kV k ∧ r = valV kvs k) ∨ ∃ kvs k b, Rd H a (.dT kvs) ∧ y = .ref b ∧ H b = some (.tup (k.map kV)) ∧ r = valV kvs k
/-- the heap behind a[y] = v -/
def DPut (H : Hp) (a : Addr) (y v : V) (H' : Hp) : Prop :=
  (∃ kvs k, H a = some (.dK kvs) ∧ y = kV k ∧ kvs.length < sizeLine ∧ H' = upd H a (.dK (putK kvs k v))) ∨
  ∃ kvs k b, H a = some (.dT kvs) ∧ y = .ref b ∧ H b = some (.tup (k.map kV)) ∧ kvs.length < sizeLine ∧ H' = upd H a (.dT (putK kvs k v))
theorem DGet.k {H : Hp} {a : Addr} {kvs : List (Key × V)} {k : Key} (e : H a = some (.dK kvs)) : DGet H a (kV k) (valV kvs k) := .inl ⟨kvs, k, .inl e, rfl, rfl⟩
theorem DGet.t {H : Hp} {a b : Addr} {kvs : List (List Key × V)} {k : List Key} (e : H a = some (.dT kvs)) (eb : H b = some (.tup (k.map kV))) : DGet H a (.ref b) (valV kvs k) := .inr ⟨kvs, k, b, .inl e, rfl, eb, rfl⟩
theorem DPut.k {H : Hp} {a : Addr} {kvs : List (Key × V)} {k : Key} {v : V} (e : H a = some (.dK kvs)) (hl : kvs.length < sizeLine) : DPut H a (kV k) v (upd H a (.dK (putK kvs k v))) := .inl ⟨kvs, k, e, rfl, hl, rfl⟩
theorem DPut.t {H : Hp} {a b : Addr} {kvs : List (List Key × V)} {k : List Key} {v : V} (e : H a = some (.dT kvs)) (eb : H b = some (.tup (k.map kV))) (hl : kvs.length < sizeLine) :
    DPut H a (.ref b) v (upd H a (.dT (putK kvs k v))) := .inr ⟨kvs, k, b, e, rfl, eb, hl, rfl⟩


section
variable {X : Cx} {pins : List (Addr × Obj)} {σ : St} {H : Hp} {s : Shared} {a : Addr} {y v : V} {u r : Value} {o : Option V} {A : Around} {E : Value → Shared → Prop}

theorem Inv.big (I : Inv X pins σ H s) : sysModules < s.heap.objs.size := by
  have h : mainGlobals < s.heap.objs.size := (I.mod.glob.keeps I.bk).lt
  exact Nat.lt_trans (by decide) h

/-- d[y], there -/
theorem d_getItem {Q : Value → Shared → Prop} (hu : A.units + 1 < cLine) (I : Inv X pins σ H s) (g : DGet H a y (some v)) (ry : RelV y u) (h : ∀ w' s', Inv X pins σ H s' → RelV v w' → Q w' s') :
    wpAny (model X.prog X.w) A (getItem (.ref a) u) Q E s := by
  rcases g with ⟨kvs, k, e, ey, l⟩ | ⟨kvs, k, b, e, ey, eb, l⟩
  · subst ey
    obtain ⟨z, hd, vs, rel, dd⟩ := dk_rd I.hok e
    obtain ⟨w', hw, rw'⟩ := RelO.some_of (v := v) (o := valueAt vs k) (by rw [l]; exact rel.val k)
    exact wpAny_getItem_of (kV_is ry) dd.mapOf hw (h w' _ (I.tok _) rw')
  · subst ey
    cases (show u = Value.ref b from ry)
    obtain ⟨z, hd, xs, rel, dd⟩ := dt_rd I.hok e
    obtain ⟨w', hw, rw'⟩ := RelO.some_of (v := v) (o := (atKey xs k).map (·.2)) (by rw [l]; exact rel.val k)
    obtain ⟨p, hp, hp2⟩ := Option.map_eq_some_iff.mp hw
    refine wpAny_getItem_heap (tupleKind_room_in1 hu) (key_of I.hok eb) dd hp ?_
    rw [hp2]
    exact h w' _ (I.tok _) rw'
/-- y in d -/
theorem d_in {Q : Value → Shared → Prop} (hu : A.units + 1 < cLine) (I : Inv X pins σ H s) (g : DGet H a y o) (ry : RelV y u) (h : ∀ s', Inv X pins σ H s' → Q (.bool o.isSome) s') :
    wpAny (model X.prog X.w) A (compareOp .In u (.ref a)) Q E s := by
  rcases g with ⟨kvs, k, e, ey, l⟩ | ⟨kvs, k, b, e, ey, eb, l⟩
  · subst ey
    obtain ⟨z, hd, vs, rel, dd⟩ := dk_rd I.hok e
    refine wpAny_in_of (kV_is ry) hd dd.mapOf ?_
    rw [← (rel.val k).isSome_eq, ← l]
    exact h _ (I.tok _)
  · subst ey
    cases (show u = Value.ref b from ry)
    obtain ⟨z, hd, xs, rel, dd⟩ := dt_rd I.hok e
    refine wpAny_in_heap (tupleKind_room_in1 hu) (key_of I.hok eb) hd dd ?_
    have q := (rel.val k).isSome_eq
    rw [Option.isSome_map] at q
    rw [← q, ← l]
    exact h _ (I.tok _)
theorem d_notIn {Q : Value → Shared → Prop} (hu : A.units + 1 < cLine) (I : Inv X pins σ H s) (g : DGet H a y o) (ry : RelV y u) (h : ∀ s', Inv X pins σ H s' → Q (.bool (!o.isSome)) s') :
    wpAny (model X.prog X.w) A (compareOp .NotIn u (.ref a)) Q E s := by
  rcases g with ⟨kvs, k, e, ey, l⟩ | ⟨kvs, k, b, e, ey, eb, l⟩
  · subst ey
    obtain ⟨z, hd, vs, rel, dd⟩ := dk_rd I.hok e
    refine wpAny_notIn_of (kV_is ry) hd dd.mapOf ?_
    rw [← (rel.val k).isSome_eq, ← l]
    exact h _ (I.tok _)
  · subst ey
    cases (show u = Value.ref b from ry)
    obtain ⟨z, hd, xs, rel, dd⟩ := dt_rd I.hok e
    refine wpAny_notIn_heap (tupleKind_room_in1 hu) (key_of I.hok eb) hd dd ?_
    have q := (rel.val k).isSome_eq
    rw [Option.isSome_map] at q
    rw [← q, ← l]
    exact h _ (I.tok _)
/-- a dict's object is replaced -/
theorem d_write {h' : Heap} {t' : Nat} {ob : HO} (I : Inv X pins σ H s) (mu : Mut (H a)) (hs : Heap.SameBut a s.heap h') (he : ∃ q, h'.get? a = some q) (new : ObjOk X.prog X.w (upd H a ob) h' a ob) :
    Inv X pins σ (upd H a ob) { s with heap := h', toks := t' } :=
  I.write (x := a) (e := a) mu (.inl rfl) (fun b q hb z => (hs.2 b hb).trans z) he new
theorem dk_new {P : Program} {w : World} {H' : Hp} {h' : Heap} {kvs : List (Key × V)} {vs : List (Key × Value)} (z : kvs.length ≤ sizeLine) (hd : (a == sysModules) = false) (rel : KV kvs vs) (dd : h'.DictOf (mixKind P w) a vs) :
    ObjOk P w H' h' a (.dK kvs) := ⟨z, hd, vs, rel, dd⟩
/-- d[y] = v -/
theorem d_setItem {H' : Hp} {Q : Unit → Shared → Prop} (hu : A.units + 1 < cLine) (I : Inv X pins σ H s) (g : DPut H a y v H') (ry : RelV y u) (rv : RelV v r) (h : ∀ s', Inv X pins σ H' s' → Q () s') :
    wpAny (model X.prog X.w) A (setItem (.ref a) u r) Q E s := by
  rcases g with ⟨kvs, k, e, ey, l, eH⟩ | ⟨kvs, k, b, e, ey, eb, l, eH⟩
  · subst ey eH
    obtain ⟨z, hd, vs, rel, dd⟩ := dk_of I.hok e
    have hz : vs.length ≤ sizeLine := by rw [← rel.length]; exact z
    have hl : (putK kvs k v).length ≤ sizeLine := by have := length_putK kvs k v; omega
    refine wpAny_setItem_pairs (hsz := hz) (kV_is ry) dd fun h' dd' hs => h _ ?_
    have he : ∃ q, h'.get? a = some q := let ⟨q, _, _, hq, _⟩ := dd'; ⟨q, hq⟩
    exact d_write I (by rw [e]; exact True.intro) hs he (dk_new hl hd (rel.put k rv) dd')
  · subst ey eH
    cases (show u = Value.ref b from ry)
    obtain ⟨z, hd, xs, rel, dd⟩ := dt_of I.hok e
    have hz : xs.length ≤ sizeLine := by rw [← Paired.length rel]; exact z
    have hl : (putK kvs k v).length ≤ sizeLine := by have := length_putK kvs k v; omega
    refine wpAny_setItem_heap (hsz := hz) (tupleKind_room_in1 hu) (key_of I.hok eb) dd fun h' dd' hs => h _ ?_
    obtain ⟨q, es, ep, hq, h2, h3, h4, _, h5⟩ := dd'
    refine d_write I (by rw [e]; exact True.intro) hs ⟨q, hq⟩ ⟨hl, hd, _, (rel.put k eb rv).keeps fun c ys ec => ?_, q, es, ep, hq, h2, h3, h4, h5⟩
    rw [upd_ne (ne_of ec e (fun z => nomatch z))]
    exact ec
end

section
variable {X : Cx} {pins : List (Addr × Obj)} {σ : St} {H : Hp} {s : Shared} {a : Addr} {kvs : List (Key × V)} {k : Key} {u : Value} {A : Around} {E : Value → Shared → Prop}
/-- del d[k] -/
theorem d_delItem {Q : Unit → Shared → Prop} (I : Inv X pins σ H s) (e : H a = some (.dK kvs)) (ry : RelV (kV k) u) (l : (valV kvs k).isSome = true) (h : ∀ s', Inv X pins σ (upd H a (.dK (dropK kvs k))) s' → Q () s') :
    wpAny (model X.prog X.w) A (delItem (.ref a) u) Q E s := by
  obtain ⟨z, hd, vs, rel, dd⟩ := dk_of I.hok e
  refine wpAny_delItem_slot dd.typeIs (by decide) PySem.F.slot_dict_delitem
    (call_meetsIn PySem.F.slot_dict_delitem dd.typeIs PySem.F.entry_dict_delitem (PySem.F.args_dict_delitem_2 _ _) (meets_dict_delitem_pairs (mixKind X.prog X.w) a (kV_is ry)) ⟨vs, dd, by rw [← rel.length]; exact z, by rw [← (rel.val k).isSome_eq]; exact l, fun h' dd' hs => h _ ?_⟩)
  have he : ∃ q, h'.get? a = some q := let ⟨q, _, _, hq, _⟩ := dd'; ⟨q, hq⟩
  exact d_write I (by rw [e]; exact True.intro) hs he (dk_new (Nat.le_trans (dropK_le kvs k) z) hd (rel.drop k) dd')
/-- d.pop(k[, x]), there -/
theorem d_pop {v : V} {more : List Value} {Q : Value → Shared → Prop} (I : Inv X pins σ H s) (e : H a = some (.dK kvs)) (ry : RelV (kV k) u) (l : valV kvs k = some v) (hm : more = [] ∨ ∃ x, more = [x])
    (h : ∀ w' s', Inv X pins σ (upd H a (.dK (dropK kvs k))) s' → RelV v w' → Q w' s') : wpAny (model X.prog X.w) A (call (.builtin "dict.pop") (.ref a :: u :: more)) Q E s := by
  obtain ⟨z, hd, vs, rel, dd⟩ := dk_of I.hok e
  obtain ⟨w', hw, rw'⟩ := RelO.some_of (v := v) (o := valueAt vs k) (by rw [← l]; exact rel.val k)
  have hp : (keyPart u).isSome = true := by
    cases k with
    | inl i => obtain ⟨t, q⟩ := (show ∃ t, u = Value.int i t from ry); subst q; rfl
    | inr x => obtain ⟨t, q⟩ := (show ∃ t, u = Value.str x t from ry); subst q; rfl
  have ha : argsOk "dict.pop" ⟨.ref a :: u :: more, []⟩ := by
    rcases hm with q | ⟨x, q⟩
    · subst q; exact PySem.F.args_dict_pop_2 _ _
    · subst q; exact PySem.F.args_dict_pop_3 _ _ _
  refine call_meetsIn PySem.F.slot_dict_pop dd.typeIs PySem.F.entry_dict_pop ha (meets_dict_pop_there (mixKind X.prog X.w) a (kV_is ry) more hm hp)
    ⟨vs, w', dd, by rw [← rel.length]; exact z, hw, fun h' dd' hs => h w' _ ?_ rw'⟩
  have he : ∃ q, h'.get? a = some q := let ⟨q, _, _, hq, _⟩ := dd'; ⟨q, hq⟩
  exact d_write I (by rw [e]; exact True.intro) hs he (dk_new (Nat.le_trans (dropK_le kvs k) z) hd (rel.drop k) dd')
/-- d.pop(k, x), not there -/
theorem d_popD {r : Value} {Q : Value → Shared → Prop} (I : Inv X pins σ H s) (e : H a = some (.dK kvs)) (ry : RelV (kV k) u) (l : valV kvs k = none) (h : ∀ s', Inv X pins σ H s' → Q r s') :
    wpAny (model X.prog X.w) A (call (.builtin "dict.pop") [.ref a, u, r]) Q E s := by
  obtain ⟨z, hd, vs, rel, dd⟩ := dk_of I.hok e
  have hn : valueAt vs k = none := RelO.none_of (by rw [← l]; exact rel.val k)
  have hp : (keyPart u).isSome = true := by
    cases k with
    | inl i => obtain ⟨t, q⟩ := (show ∃ t, u = Value.int i t from ry); subst q; rfl
    | inr x => obtain ⟨t, q⟩ := (show ∃ t, u = Value.str x t from ry); subst q; rfl
  exact call_meetsIn PySem.F.slot_dict_pop dd.typeIs PySem.F.entry_dict_pop (PySem.F.args_dict_pop_3 _ _ _) (meets_dict_pop_default (mixKind X.prog X.w) a (kV_is ry) hd hp r) ⟨vs, dd, hn, h _ (I.tok _)⟩
/-- d.clear() -/
theorem d_clear {Q : Value → Shared → Prop} (I : Inv X pins σ H s) (e : H a = some (.dK kvs)) (h : ∀ s', Inv X pins σ (upd H a (.dK [])) s' → Q .none s') : wpAny (model X.prog X.w) A (call (.builtin "dict.clear") [.ref a]) Q E s := by
  obtain ⟨z, hd, vs, rel, dd⟩ := dk_of I.hok e
  refine call_meetsIn PySem.F.slot_dict_clear dd.typeIs PySem.F.entry_dict_clear (PySem.F.args_dict_clear_1 _) (meets_dict_clear (mixKind X.prog X.w) a) ⟨vs, dd, by rw [← rel.length]; exact z, fun h' dd' hs => h _ ?_⟩
  have he : ∃ q, h'.get? a = some q := let ⟨q, _, _, hq, _⟩ := dd'; ⟨q, hq⟩
  exact d_write (t' := s.toks) I (by rw [e]; exact True.intro) hs he (dk_new (Nat.zero_le _) hd .nil dd')
/-- len(d) -/
theorem d_len {Q : Value → Shared → Prop} (I : Inv X pins σ H s) (e : Rd H a (.dK kvs)) (h : ∀ t s', Inv X pins σ H s' → Q (.int kvs.length t) s') : wpAny (model X.prog X.w) A (call (.builtin "len") [.ref a]) Q E s := by
  obtain ⟨z, hd, vs, rel, dd⟩ := dk_rd I.hok e
  refine call_len_dict hd dd (by rw [← rel.length]; rw [sizeLine_eq] at z; omega) ?_
  rw [← rel.length]
  exact h _ _ (I.tok _)
/-- if d -/
theorem d_truth {Q : Bool → Shared → Prop} (I : Inv X pins σ H s) (e : Rd H a (.dK kvs)) (h : ∀ s', Inv X pins σ H s' → Q (!kvs.isEmpty) s') : wpAny (model X.prog X.w) A (truthy (.ref a)) Q E s := by
  obtain ⟨z, hd, vs, rel, dd⟩ := dk_rd I.hok e
  refine wpAny_truthy_dict hd dd (by rw [← rel.length]; rw [sizeLine_eq] at z; omega) ?_
  have q : kvs.isEmpty = vs.isEmpty := by cases rel <;> rfl
  rw [← q]
  exact h _ (I.tok _)
end


/-! ### readings and rules -/
/-- the element of a subscription, not a slice -/
def NoSl (i : Expr) : Prop := ∀ ov iv, subscripted i false ov iv = operate [ov, iv] (getItem ov iv)
theorem subD_of {prog : Program} {w : World} {A : Around} {E : Value → Shared → Prop} {s : Shared} {env : Env} {value slice : Expr} {pos : Pos} {T id : String} {Q : Value → Shared → Prop}
    (hl : typeLookup (.type T) "__getitem__" = pure (some (.builtin id))) (hs : NoSl slice)
    (h : wpAny (model prog w) A (eval value env) (fun o s₁ => wpAny (model prog w) A (eval slice env) (fun i s₂ => s₂.TypeIs o T ∧ wpAny (model prog w) A (getItem o i) Q E s₂) E s₁) E s) :
    wpAny (model prog w) A (eval (.Subscript value slice pos) env) Q E s := by
  refine Subscript_ (wpAny_mono h (fun o s₁ h₁ => wpAny_mono h₁ (fun i s₂ h₂ => ?_) fun _ _ x => x) fun _ _ x => x)
  obtain ⟨hT, h₂⟩ := h₂
  unfold subscriptTail
  refine wpAny_bind ?_
  rw [getitemInPython_of_ne hT.not_modules]
  refine wpAny_bind (wpAny_specialOf hT hl ?_)
  have fin : wpAny (model prog w) A (subscripted slice false o i) (fun r s₃ => wpAny (model prog w) A (letTemporaryGo value o r >>= fun _ => pure r) Q E s₃) E s₂ := by
    rw [hs o i]
    exact wpAny_operating (wpAny_mono h₂ (fun r s₃ h₃ => wpAny_bind (wpAny_letTemporaryGo (wpAny_pure h₃))) fun _ _ x => x)
  first
    | exact wpAny_pure (wpAny_bind fin)
    | exact wpAny_bind (wpAny_pure (wpAny_bind fin))
    | exact wpAny_bind fin

theorem dict_typeIs {X : Cx} {pins : List (Addr × Obj)} {σ : St} {H : Hp} {s : Shared} {a : Addr} {y : V} {o : Option V} (I : Inv X pins σ H s) (g : DGet H a y o) : s.TypeIs (.ref a) "dict" := by
  rcases g with ⟨kvs, k, e, _, _⟩ | ⟨kvs, k, b, e, _, _, _⟩
  · obtain ⟨_, _, vs, _, dd⟩ := dk_rd I.hok e
    exact dd.typeIs
  · obtain ⟨_, _, xs, _, dd⟩ := dt_rd I.hok e
    exact dd.typeIs
theorem dict_noDict {X : Cx} {pins : List (Addr × Obj)} {σ : St} {H : Hp} {s : Shared} {a : Addr} {y : V} {o : Option V} (I : Inv X pins σ H s) (g : DGet H a y o) :
    ∀ b, Value.ref a = .ref b → ∃ ob, s.heap.get? b = some ob ∧ ob.dict = none := fun b q => by
  cases q
  rcases g with ⟨kvs, k, e, _, _⟩ | ⟨kvs, k, b, e, _, _, _⟩
  · obtain ⟨_, _, vs, _, ob, _, _, h1, h2, _⟩ := dk_rd I.hok e
    exact ⟨ob, h1, h2.2.1⟩
  · obtain ⟨_, _, xs, _, ob, _, _, h1, h2, _⟩ := dt_rd I.hok e
    exact ⟨ob, h1, h2.2.1⟩

/-- d[y] -/
def tDGet (td ty : TE) : TE := fun σ H Q => td σ H fun x H1 => ty σ H1 fun y H2 => ∃ a v, x = .ref a ∧ DGet H2 a y (some v) ∧ Q v H2
/-- y in d, y not in d -/
def tDIn (ty td : TE) : TE := fun σ H Q => ty σ H fun y H1 => td σ H1 fun x H2 => ∃ a o, x = .ref a ∧ DGet H2 a y o ∧ Q (.bl o.isSome) H2
def tDNotIn (ty td : TE) : TE := fun σ H Q => ty σ H fun y H1 => td σ H1 fun x H2 => ∃ a o, x = .ref a ∧ DGet H2 a y o ∧ Q (.bl (!o.isSome)) H2
/-- d[y] = v -/
def sDPut (td ty tv : TE) : TS := fun D σ H => tv σ H fun v H1 => td σ H1 fun x H2 => ty σ H2 fun y H3 => ∃ a H4, x = .ref a ∧ DPut H3 a y v H4 ∧ D.nx σ H4
/-- d[y] op= v -/
def sDAug (td ty tv : TE) (rd : V → V → Hp → VK → Prop) : TS := fun D σ H => td σ H fun x H1 => ty σ H1 fun y H2 => ∃ a v, x = .ref a ∧ DGet H2 a y (some v) ∧
  tv σ H2 fun y2 H3 => rd v y2 H3 fun z H4 => ∃ H5, DPut H4 a y z H5 ∧ D.nx σ H5
/-- del d[y] -/
def sDDel (td ty : TE) : TS := fun D σ H => td σ H fun x H1 => ty σ H1 fun y H2 => ∃ a kvs k, x = .ref a ∧ H2 a = some (.dK kvs) ∧ y = kV k ∧ (valV kvs k).isSome = true ∧ D.nx σ (upd H2 a (.dK (dropK kvs k)))

section
variable {X : Cx} {o i e value : Expr} {pos pos' tpos : Pos} {td ty tv : TE}
theorem pe_dget (hu : X.A.units + 1 < cLine) (ho : PE X o td) (hi : PE X i ty) (hs : NoSl i) : PE X (.Subscript o i pos) (tDGet td ty) := by
  intro pins s σ H Q I h
  refine subD_of PySem.F.slot_dict_getitem.lookup hs (thn (ho pins s σ H _ I h) fun u s1 ⟨x, H1, I1, rx, q1⟩ => thn (hi pins s1 σ H1 _ I1 q1) fun iv s2 ⟨y, H2, I2, ry, a, v, ex, g, q2⟩ => ?_)
  subst ex
  obtain rfl : u = Value.ref a := rx
  exact ⟨dict_typeIs I2 g, d_getItem hu I2 g ry fun w' s3 I3 rw' => ⟨v, H2, I3, rw', q2⟩⟩
theorem pc_din (hu : X.A.units + 1 < cLine) (hi : PE X i ty) (ho : PE X o td) : PC X .In i o (tDIn ty td) := by
  intro pins s σ H Q I h
  refine thn (hi pins s σ H _ I h) fun iv s1 ⟨y, H1, I1, ry, q1⟩ => thn (ho pins s1 σ H1 _ I1 q1) fun u s2 ⟨x, H2, I2, rx, a, ov, ex, g, q2⟩ => ?_
  subst ex
  obtain rfl : u = Value.ref a := rx
  exact d_in hu I2 g ry fun s3 I3 => ⟨.bl ov.isSome, H2, I3, rfl, q2⟩
theorem pc_dnotin (hu : X.A.units + 1 < cLine) (hi : PE X i ty) (ho : PE X o td) : PC X .NotIn i o (tDNotIn ty td) := by
  intro pins s σ H Q I h
  refine thn (hi pins s σ H _ I h) fun iv s1 ⟨y, H1, I1, ry, q1⟩ => thn (ho pins s1 σ H1 _ I1 q1) fun u s2 ⟨x, H2, I2, rx, a, ov, ex, g, q2⟩ => ?_
  subst ex
  obtain rfl : u = Value.ref a := rx
  exact d_notIn hu I2 g ry fun s3 I3 => ⟨.bl (!ov.isSome), H2, I3, rfl, q2⟩
theorem ps_dput (hu : X.A.units + 1 < cLine) (ho : PE X o td) (hi : PE X i ty) (hv : PE X value tv) (hs : swapsWith value (some (.Subscript o i pos')) pos.line X.env = pure false) :
    PS X (.Assign [.Subscript o i pos'] value pos) (sDPut td ty tv) := by
  intro pins s σ H D I h
  refine wpAny_Assign_Subscript (thn (hv pins s σ H _ I h) fun r s1 ⟨v, H1, I1, rv, q1⟩ => thn (ho pins s1 σ H1 _ I1 q1) fun u s2 ⟨x, H2, I2, rx, q2⟩ => thn (hi pins s2 σ H2 _ I2 q2) fun iv s3 ⟨y, H3, I3, ry, a, H4, ex, g, q3⟩ => ?_) hs
  subst ex
  obtain rfl : u = Value.ref a := rx
  exact d_setItem hu I3 g ry rv fun s4 I4 => ⟨σ, H4, I4, q3⟩
theorem ps_daug {op : Operator} {rd : V → V → Hp → VK → Prop} (hu : X.A.units + 1 < cLine) (ho : PE X o td) (hi : PE X i ty) (hv : PE X value tv) (hop : InOp X op rd)
    (ha : ∀ ov iv new, augStore i ov iv new = (do holding [new, ov, iv] (setItem ov iv new); release [new, ov, iv] []; pure .next)) : PS X (.AugAssign (.Subscript o i tpos) op value pos) (sDAug td ty tv rd) := by
  intro pins s σ H D I h
  refine wpAny_AugAssign_SubscriptAny (thn (ho pins s σ H _ I h) fun u s1 ⟨x, H1, I1, rx, q1⟩ => thn (hi pins s1 σ H1 _ I1 q1) fun iv s2 ⟨y, H2, I2, ry, a, v, ex, g, q2⟩ => ?_) ha
  subst ex
  obtain rfl : u = Value.ref a := rx
  refine d_getItem hu I2 g ry fun w' s3 I3 rw' => thn (hv pins s3 σ H2 _ I3 q2) fun w2 s4 ⟨y2, H3, I4, ry2, q3⟩ => thn (hop pins s4 σ H3 v y2 w' w2 _ I4 rw' ry2 q3) fun w3 s5 ⟨z, H4, I5, rz, H5, g5, q4⟩ => ?_
  exact d_setItem hu I5 g5 ry rz fun s6 I6 => ⟨σ, H5, I6, q4⟩
theorem ps_ddel (ho : PE X o td) (hi : PE X i ty) : PS X (.Delete [.Subscript o i tpos] pos) (sDDel td ty) := by
  intro pins s σ H D I h
  refine wpAny_Delete (wpAny_deleteEach_cons (wpAny_delete_Subscript (thn (ho pins s σ H _ I h) fun u s1 ⟨x, H1, I1, rx, q1⟩ => thn (hi pins s1 σ H1 _ I1 q1) fun iv s2 ⟨y, H2, I2, ry, a, kvs, k, ex, e, ey, l, q2⟩ => ?_)))
  subst ex ey
  obtain rfl : u = Value.ref a := rx
  exact d_delItem I2 e ry l fun s3 I3 => wpAny_deleteEach_nil ⟨σ, _, I3, q2⟩
end


/-! ### displays -/
theorem dk_empty {P : Program} {w : World} {H : Hp} (h : Heap) (hb : sysModules < h.objs.size) : ObjOk P w H (h.push { cls := .type "dict", data := .dict #[] }) h.objs.size (.dK []) :=
  ⟨Nat.zero_le _, beq_eq_false_iff_ne.mpr (Ne.symm (Nat.ne_of_lt hb)), [], .nil, Heap.DictOf.new h⟩
theorem dt_empty {P : Program} {w : World} {H : Hp} (h : Heap) (hb : sysModules < h.objs.size) : ObjOk P w H (h.push { cls := .type "dict", data := .dict #[] }) h.objs.size (.dT []) :=
  ⟨Nat.zero_le _, beq_eq_false_iff_ne.mpr (Ne.symm (Nat.ne_of_lt hb)), [], .nil, _, #[], 0, Heap.get?_push_size _ rfl, ⟨rfl, rfl, rfl⟩, rfl, rfl, List.nodup_nil⟩
/-- {}, to be a dict of the kind that is wanted -/
def tDNewK : TE := fun _ H Q => ∀ p, H p = none → Q (.ref p) (upd H p (.dK []))
def tDNewT : TE := fun _ H Q => ∀ p, H p = none → Q (.ref p) (upd H p (.dT []))
section
variable {X : Cx} {pos : Pos}
theorem pe_dnewK : PE X (.Dict [] [] pos) tDNewK := fun pins s σ H Q I h =>
  wpAny_Dict_empty ⟨.ref s.heap.objs.size, _, I.laid (a := s.heap.objs.size) (o := .dK []) (t' := s.toks) (fun _ _ q => Heap.get?_push_of_some _ q) (Nat.le_refl _) (dk_empty s.heap I.big), rfl, h _ (I.hok.fresh (Nat.le_refl _))⟩
theorem pe_dnewT : PE X (.Dict [] [] pos) tDNewT := fun pins s σ H Q I h =>
  wpAny_Dict_empty ⟨.ref s.heap.objs.size, _, I.laid (a := s.heap.objs.size) (o := .dT []) (t' := s.toks) (fun _ _ q => Heap.get?_push_of_some _ q) (Nat.le_refl _) (dt_empty s.heap I.big), rfl, h _ (I.hok.fresh (Nat.le_refl _))⟩
end

/-- the pairs of a display, from the left -/
def tPairs : List (TE × TE) → St → Hp → (List (V × V) → Hp → Prop) → Prop
  | [], _, H, Q => Q [] H
  | (tk, tv) :: r, σ, H, Q => tk σ H fun x H1 => tv σ H1 fun y H2 => tPairs r σ H2 fun ps H3 => Q ((x, y) :: ps) H3
abbrev VV : List (V × V) → List (Value × Value) → Prop := Paired fun p q => RelV p.1 q.1 ∧ RelV p.2 q.2
def PPs (X : Cx) (pos : Pos) (keys : List (Option Expr)) (values : List Expr) (trs : List (TE × TE)) : Prop :=
  ∀ (pins : List (Addr × Obj)) (s : Shared) (σ : St) (H : Hp) (Q : List (V × V) → Hp → Prop), Inv X pins σ H s → tPairs trs σ H Q →
    wpAny (model X.prog X.w) X.A (evalPairs (pairTrees keys values X.env pos)) (fun vs s' => ∃ ps H', Inv X pins σ H' s' ∧ VV ps vs ∧ Q ps H') X.xe s
theorem pps_nil {X : Cx} {pos : Pos} : PPs X pos [] [] [] := fun pins s σ H Q I h => pairTrees_nil_walk ⟨[], H, I, .nil, h⟩
theorem pps_cons {X : Cx} {pos : Pos} {k v : Expr} {ks : List (Option Expr)} {vs : List Expr} {tk tv : TE} {trs : List (TE × TE)} (hk : PE X k tk) (hv : PE X v tv) (hr : PPs X pos ks vs trs) :
    PPs X pos (some k :: ks) (v :: vs) ((tk, tv) :: trs) := fun pins s σ H Q I h =>
  pairTrees_cons_walk (thn (hk pins s σ H _ I h) fun u s1 ⟨x, H1, I1, rx, q1⟩ => thn (hv pins s1 σ H1 _ I1 q1) fun w2 s2 ⟨y, H2, I2, ry, q2⟩ =>
    thn (hr pins s2 σ H2 _ I2 q2) fun ws s3 ⟨ps, H3, I3, rel, q3⟩ => ⟨(x, y) :: ps, H3, I3, .cons ⟨rx, ry⟩ rel, q3⟩)

def mergeK (kvs more : List (Key × V)) : List (Key × V) := more.foldl (fun acc kv => putK acc kv.1 kv.2) kvs
theorem KV.merge : ∀ {more : List (Key × V)} {rs : List (Key × Value)} {kvs : List (Key × V)} {vs : List (Key × Value)}, KV more rs → KV kvs vs → KV (mergeK kvs more) (merged vs rs) := by
  intro more rs kvs vs r
  unfold KV at r
  induction r generalizing kvs vs with
  | nil => intro q; exact q
  | @cons p q ps qs h t ih =>
    intro r0
    have e : KV (putK kvs p.1 p.2) (stored vs q.1 q.2) := by
      have := r0.put p.1 h.2
      rw [← h.1]; exact this
    exact ih e
theorem length_mergeK : ∀ (more kvs : List (Key × V)), (mergeK kvs more).length ≤ kvs.length + more.length
  | [], kvs => by show kvs.length ≤ kvs.length + 0; omega
  | p :: r, kvs => by
    have h1 := length_mergeK r (putK kvs p.1 p.2)
    have h2 := length_putK kvs p.1 p.2
    show (mergeK (putK kvs p.1 p.2) r).length ≤ _
    rw [List.length_cons]; omega
theorem carries_of {P : Program} {w : World} : ∀ {kvs : List (Key × V)} {ws : List (Value × Value)}, VV (kvs.map fun kv => (kV kv.1, kv.2)) ws → ∃ rs, Carries (mixKind P w) ws rs ∧ KV kvs rs
  | [], _, r => by rw [List.map_nil] at r; cases r; exact ⟨[], True.intro, .nil⟩
  | p :: kvs, _, r => by
    rw [List.map_cons] at r
    cases r with
    | @cons a b as bs h t =>
      obtain ⟨rs, c, q⟩ := carries_of (P := P) (w := w) t
      obtain ⟨b1, b2⟩ := b
      exact ⟨(p.1, b2) :: rs, ⟨kV_is h.1, rfl, c⟩, .cons ⟨rfl, h.2⟩ q⟩
/-- {k: v, ..} with keys ints and texts; the new dict stands empty while the pairs are made -/
def tDisp (trs : List (TE × TE)) : TE := fun σ H Q => ∀ p, H p = none → tPairs trs σ (upd H p (.dK [])) fun ps H2 => H2 p = some (.dK []) ∧ ∃ kvs : List (Key × V), ps = kvs.map (fun kv => (kV kv.1, kv.2)) ∧ kvs.length ≤ 15 ∧ Q (.ref p) (upd H2 p (.dK (mergeK [] kvs)))
theorem pe_disp {X : Cx} {pos : Pos} {keys : List (Option Expr)} {values : List Expr} {trs : List (TE × TE)} (h : PPs X pos keys values trs) (hall : keys.all (·.isSome) = true) (hl : keys.length = values.length) (h0 : keys ≠ [])
    (h15 : keys.length ≤ 15) : PE X (.Dict keys values pos) (tDisp trs) := by
  intro pins s σ H Q I q
  have hn := I.hok.fresh (Nat.le_refl s.heap.objs.size)
  have I1 := I.laid (a := s.heap.objs.size) (o := .dK []) (h' := s.heap.push { cls := .type "dict", data := .dict #[] }) (t' := s.toks) (fun _ _ q => Heap.get?_push_of_some _ q) (Nat.le_refl _) (dk_empty s.heap I.big)
  refine wpAny_Dict_walk (knd := mixKind X.prog X.w) hall hl h0 h15 (thn (h pins _ σ _ _ I1 (q _ hn)) fun ws s2 ⟨ps, H2, I2, rel, e, kvs, ep, lk, q2⟩ => ?_)
  subst ep
  obtain ⟨rs, c, rk⟩ := carries_of (P := X.prog) (w := X.w) rel
  obtain ⟨z, hd, vs0, r0, dd⟩ := dk_of I2.hok e
  cases r0
  refine ⟨rs, c, dd, fun h' dd' hs => ⟨.ref s.heap.objs.size, _, ?_, rfl, q2⟩⟩
  have hz : (mergeK [] kvs).length ≤ sizeLine := by
    have h1 := length_mergeK kvs []
    rw [List.length_nil] at h1
    rw [sizeLine_eq]; omega
  have he : ∃ q, h'.get? s.heap.objs.size = some q := let ⟨q, _, _, hq, _⟩ := dd'; ⟨q, hq⟩
  exact d_write I2 (by rw [e]; exact True.intro) hs he (dk_new hz hd (rk.merge .nil) dd')


/-! ### methods -/
/-- a method call o.m(e) of a built-in, with one argument: what must be seen of the text -/
structure M1 (X : Cx) (o : Expr) (m : Str) (apos : Pos) (e : Expr) (cpos : Pos) : Prop where
  base : attributeBase o m X.env (eval o X.env) = eval o X.env
  few : ((backTo cpos (starEach [e] X.env)).all (fun x => !x.1) && (backToKw cpos (keywordEach [] X.env)).all (fun x => x.1.isSome)
    && decide (([e] : List Expr).length + ([] : List Keyword).length + (if ([] : List Keyword).isEmpty then 0 else 1) < 30)) = true
  line : (apos.endLine == cpos.line) = true
  trees : backTo cpos (starEach [e] X.env) = [(false, eval e X.env)]
structure M2 (X : Cx) (o : Expr) (m : Str) (apos : Pos) (e f : Expr) (cpos : Pos) : Prop where
  base : attributeBase o m X.env (eval o X.env) = eval o X.env
  few : ((backTo cpos (starEach [e, f] X.env)).all (fun x => !x.1) && (backToKw cpos (keywordEach [] X.env)).all (fun x => x.1.isSome)
    && decide (([e, f] : List Expr).length + ([] : List Keyword).length + (if ([] : List Keyword).isEmpty then 0 else 1) < 30)) = true
  line : (apos.endLine == cpos.line) = true
  trees : backTo cpos (starEach [e, f] X.env) = [(false, eval e X.env), (false, eval f X.env)]

/-- a is a dict, whatever its keys -/
def IsD (H : Hp) (a : Addr) : Prop := (∃ kvs, Rd H a (.dK kvs)) ∨ ∃ kvs, Rd H a (.dT kvs)
theorem isD_at {X : Cx} {pins : List (Addr × Obj)} {σ : St} {H : Hp} {s : Shared} {a : Addr} (I : Inv X pins σ H s) (d : IsD H a) :
    s.TypeIs (.ref a) "dict" ∧ (∀ b, Value.ref a = .ref b → ∃ ob, s.heap.get? b = some ob ∧ ob.dict = none) ∧ (a == sysModules) = false := by
  rcases d with ⟨kvs, e⟩ | ⟨kvs, e⟩
  · obtain ⟨_, hd, vs, _, dd⟩ := dk_rd I.hok e
    refine ⟨dd.typeIs, fun b q => ?_, hd⟩
    cases q
    obtain ⟨ob, _, _, h1, h2, _⟩ := dd
    exact ⟨ob, h1, h2.2.1⟩
  · obtain ⟨_, hd, xs, _, dd⟩ := dt_rd I.hok e
    refine ⟨dd.typeIs, fun b q => ?_, hd⟩
    cases q
    obtain ⟨ob, _, _, h1, h2, _⟩ := dd
    exact ⟨ob, h1, h2.2.1⟩

section
variable {X : Cx} {pins : List (Addr × Obj)} {σ : St} {H : Hp} {s : Shared} {a : Addr} {y d : V} {u r : Value} {o : Option V} {A : Around} {E : Value → Shared → Prop}
/-- d.get(y) -/
theorem d_get1 {Q : Value → Shared → Prop} (hu : A.units + 1 < cLine) (I : Inv X pins σ H s) (g : DGet H a y o) (ry : RelV y u) (h : ∀ w' s', Inv X pins σ H s' → RelV (o.getD .non) w' → Q w' s') :
    wpAny (model X.prog X.w) A (call (.builtin "dict.get") [.ref a, u]) Q E s := by
  rcases g with ⟨kvs, k, e, ey, l⟩ | ⟨kvs, k, b, e, ey, eb, l⟩
  · subst ey
    obtain ⟨z, hd, vs, rel, dd⟩ := dk_rd I.hok e
    refine call_meetsIn PySem.F.slot_dict_get dd.typeIs PySem.F.entry_dict_get (PySem.F.args_dict_get_2 _ _) (meets_dict_get (mixKind X.prog X.w) a (kV_is ry) hd) ⟨_, dd.mapOf, h _ _ (I.tok _) ?_⟩
    rw [l]
    exact (rel.val k).getD rfl
  · subst ey
    cases (show u = Value.ref b from ry)
    obtain ⟨z, hd, xs, rel, dd⟩ := dt_rd I.hok e
    refine call_meetsIn PySem.F.slot_dict_get dd.typeIs PySem.F.entry_dict_get (PySem.F.args_dict_get_2 _ _) (meetsH_dict_get (tupleKind (mixKind X.prog X.w)) a b hd) ⟨tupleKind_room_in1 hu, k, xs, key_of I.hok eb, dd, h _ _ (I.tok _) ?_⟩
    rw [l]
    exact (rel.val k).getD rfl
/-- d.get(y, x) -/
theorem d_get2 {Q : Value → Shared → Prop} (hu : A.units + 1 < cLine) (I : Inv X pins σ H s) (g : DGet H a y o) (ry : RelV y u) (rd : RelV d r) (h : ∀ w' s', Inv X pins σ H s' → RelV (o.getD d) w' → Q w' s') :
    wpAny (model X.prog X.w) A (call (.builtin "dict.get") [.ref a, u, r]) Q E s := by
  rcases g with ⟨kvs, k, e, ey, l⟩ | ⟨kvs, k, b, e, ey, eb, l⟩
  · subst ey
    obtain ⟨z, hd, vs, rel, dd⟩ := dk_rd I.hok e
    refine call_meetsIn PySem.F.slot_dict_get dd.typeIs PySem.F.entry_dict_get (PySem.F.args_dict_get_3 _ _ _) (meets_dict_get_default (mixKind X.prog X.w) a (kV_is ry) hd r) ⟨_, dd.mapOf, h _ _ (I.tok _) ?_⟩
    rw [l]
    exact (rel.val k).getD rd
  · subst ey
    cases (show u = Value.ref b from ry)
    obtain ⟨z, hd, xs, rel, dd⟩ := dt_rd I.hok e
    refine call_meetsIn PySem.F.slot_dict_get dd.typeIs PySem.F.entry_dict_get (PySem.F.args_dict_get_3 _ _ _) (meetsH_dict_get_default (tupleKind (mixKind X.prog X.w)) a b hd r) ⟨tupleKind_room_in1 hu, k, xs, key_of I.hok eb, dd, h _ _ (I.tok _) ?_⟩
    rw [l]
    exact (rel.val k).getD rd
end

def tDGet1 (td ty : TE) : TE := fun σ H Q => td σ H fun x H1 => ∃ a, x = .ref a ∧ IsD H1 a ∧ ty σ H1 fun y H2 => ∃ o, DGet H2 a y o ∧ Q (o.getD .non) H2
def tDGet2 (td ty tx : TE) : TE := fun σ H Q => td σ H fun x H1 => ∃ a, x = .ref a ∧ IsD H1 a ∧ ty σ H1 fun y H2 => tx σ H2 fun z H3 => ∃ o, DGet H3 a y o ∧ Q (o.getD z) H3
/-- d.pop(k): there; d.pop(k, x): there or not -/
def tDPop1 (td ty : TE) : TE := fun σ H Q => td σ H fun x H1 => ∃ a, x = .ref a ∧ IsD H1 a ∧ ty σ H1 fun y H2 => ∃ kvs k v, H2 a = some (.dK kvs) ∧ y = kV k ∧ valV kvs k = some v ∧ Q v (upd H2 a (.dK (dropK kvs k)))
def tDPop2 (td ty tx : TE) : TE := fun σ H Q => td σ H fun x H1 => ∃ a, x = .ref a ∧ IsD H1 a ∧ ty σ H1 fun y H2 => tx σ H2 fun z H3 => ∃ kvs k, H3 a = some (.dK kvs) ∧ y = kV k ∧
  (∀ v, valV kvs k = some v → Q v (upd H3 a (.dK (dropK kvs k)))) ∧ (valV kvs k = none → Q z H3)
section
variable {X : Cx} {o e f : Expr} {apos cpos : Pos} {td ty tx : TE}
theorem pe_dget1 (hu : X.A.units + 1 < cLine) (ho : PE X o td) (he : PE X e ty) (m : M1 X o "get" apos e cpos) : PE X (.Call (.Attribute o "get" apos) [e] [] cpos) (tDGet1 td ty) := by
  intro pins s σ H Q I h
  refine wpAny_Call_method m.base m.few m.line PySem.F.plainAttrs_dict PySem.F.slot_dict_get PySem.F.type_dict_get (thn (ho pins s σ H _ I h) fun u s1 ⟨x, H1, I1, rx, a, ex, d, q1⟩ => ?_)
  subst ex
  obtain rfl : u = Value.ref a := rx
  obtain ⟨t1, t2, _⟩ := isD_at I1 d
  refine ⟨t1, t2, ?_⟩
  rw [m.trees]
  refine Calls.callWith_builtin rfl (Calls.evalArgs_plain (Calls.spliced_cons (thn (he pins s1 σ H1 _ I1 q1) fun iv s2 ⟨y, H2, I2, ry, ov, g, q2⟩ => Calls.spliced_nil ?_)))
  exact d_get1 hu I2 g ry fun w' s3 I3 rw' => ⟨_, H2, I3, rw', q2⟩
theorem pe_dget2 (hu : X.A.units + 1 < cLine) (ho : PE X o td) (he : PE X e ty) (hf : PE X f tx) (m : M2 X o "get" apos e f cpos) : PE X (.Call (.Attribute o "get" apos) [e, f] [] cpos) (tDGet2 td ty tx) := by
  intro pins s σ H Q I h
  refine wpAny_Call_method m.base m.few m.line PySem.F.plainAttrs_dict PySem.F.slot_dict_get PySem.F.type_dict_get (thn (ho pins s σ H _ I h) fun u s1 ⟨x, H1, I1, rx, a, ex, d, q1⟩ => ?_)
  subst ex
  obtain rfl : u = Value.ref a := rx
  obtain ⟨t1, t2, _⟩ := isD_at I1 d
  refine ⟨t1, t2, ?_⟩
  rw [m.trees]
  refine Calls.callWith_builtin rfl (Calls.evalArgs_plain (Calls.spliced_cons (thn (he pins s1 σ H1 _ I1 q1) fun iv s2 ⟨y, H2, I2, ry, q2⟩ =>
    Calls.spliced_cons (thn (hf pins s2 σ H2 _ I2 q2) fun fv s3 ⟨z, H3, I3, rz, ov, g, q3⟩ => Calls.spliced_nil ?_))))
  exact d_get2 hu I3 g ry rz fun w' s4 I4 rw' => ⟨_, H3, I4, rw', q3⟩
theorem pe_dpop1 (ho : PE X o td) (he : PE X e ty) (m : M1 X o "pop" apos e cpos) : PE X (.Call (.Attribute o "pop" apos) [e] [] cpos) (tDPop1 td ty) := by
  intro pins s σ H Q I h
  refine wpAny_Call_method m.base m.few m.line PySem.F.plainAttrs_dict PySem.F.slot_dict_pop PySem.F.type_dict_pop (thn (ho pins s σ H _ I h) fun u s1 ⟨x, H1, I1, rx, a, ex, d, q1⟩ => ?_)
  subst ex
  obtain rfl : u = Value.ref a := rx
  obtain ⟨t1, t2, _⟩ := isD_at I1 d
  refine ⟨t1, t2, ?_⟩
  rw [m.trees]
  refine Calls.callWith_builtin rfl (Calls.evalArgs_plain (Calls.spliced_cons (thn (he pins s1 σ H1 _ I1 q1) fun iv s2 ⟨y, H2, I2, ry, kvs, k, v, ea, ey, l, q2⟩ => Calls.spliced_nil ?_)))
  subst ey
  exact d_pop I2 ea ry l (.inl rfl) fun w' s3 I3 rw' => ⟨v, _, I3, rw', q2⟩
theorem pe_dpop2 (ho : PE X o td) (he : PE X e ty) (hf : PE X f tx) (m : M2 X o "pop" apos e f cpos) : PE X (.Call (.Attribute o "pop" apos) [e, f] [] cpos) (tDPop2 td ty tx) := by
  intro pins s σ H Q I h
  refine wpAny_Call_method m.base m.few m.line PySem.F.plainAttrs_dict PySem.F.slot_dict_pop PySem.F.type_dict_pop (thn (ho pins s σ H _ I h) fun u s1 ⟨x, H1, I1, rx, a, ex, d, q1⟩ => ?_)
  subst ex
  obtain rfl : u = Value.ref a := rx
  obtain ⟨t1, t2, _⟩ := isD_at I1 d
  refine ⟨t1, t2, ?_⟩
  rw [m.trees]
  refine Calls.callWith_builtin rfl (Calls.evalArgs_plain (Calls.spliced_cons (thn (he pins s1 σ H1 _ I1 q1) fun iv s2 ⟨y, H2, I2, ry, q2⟩ =>
    Calls.spliced_cons (thn (hf pins s2 σ H2 _ I2 q2) fun fv s3 ⟨z, H3, I3, rz, kvs, k, ea, ey, q3, q4⟩ => Calls.spliced_nil ?_))))
  subst ey
  cases l : valV kvs k with
  | some v => exact d_pop I3 ea ry l (.inr ⟨fv, rfl⟩) fun w' s4 I4 rw' => ⟨v, _, I4, rw', q3 v l⟩
  | none => exact d_popD I3 ea ry l fun s4 I4 => ⟨z, H3, I4, rz, q4 l⟩
end

/-! ### dict(d): a copy -/
section
variable {X : Cx} {pins : List (Addr × Obj)} {σ : St} {H : Hp} {s : Shared} {a : Addr} {kvs : List (Key × V)} {A : Around} {E : Value → Shared → Prop}
theorem d_copyOf {Q : Value → Shared → Prop} (I : Inv X pins σ H s) (e : Rd H a (.dK kvs)) (h : ∀ p s', H p = none → Inv X pins σ (upd H p (.dK kvs)) s' → Q (.ref p) s') : wpAny (model X.prog X.w) A (call (.type "dict") [.ref a]) Q E s := by
  obtain ⟨z, hd, vs, rel, dd⟩ := dk_rd I.hok e
  refine kt_call_dict hd dd (by rw [← rel.length]; exact z) fun h' dd' hs => ?_
  refine h _ _ (I.hok.fresh (Nat.le_refl _)) (I.laid (a := s.heap.objs.size) (o := .dK kvs) (t' := s.toks) (fun b q hq => ?_) (Nat.le_refl _) (dk_new z (beq_eq_false_iff_ne.mpr (Ne.symm (Nat.ne_of_lt I.big))) rel dd'))
  exact (hs.2 b (Nat.ne_of_lt (Heap.lt_size hq))).trans (Heap.get?_push_of_some _ hq)
end


section
variable {X : Cx} {pins : List (Addr × Obj)} {σ : St} {H : Hp} {s : Shared} {a : Addr} {y : V} {u : Value} {A : Around} {E : Value → Shared → Prop}
/-- d[y], not there: a KeyError -/
theorem d_missing {Q : Value → Shared → Prop} (hu : A.units + 1 < cLine) (hh : A.handled = none) (I : Inv X pins σ H s) (g : DGet H a y none) (ry : RelV y u)
    (h : ∀ h' e t', Heap.NewExc s.heap h' e "KeyError" → E (.ref e) { s with heap := h', toks := t' }) : wpAny (model X.prog X.w) A (getItem (.ref a) u) Q E s := by
  rcases g with ⟨kvs, k, e, ey, l⟩ | ⟨kvs, k, b, e, ey, eb, l⟩
  · subst ey
    obtain ⟨z, hd, vs, rel, dd⟩ := dk_rd I.hok e
    have hn : valueAt vs k = none := RelO.none_of (by rw [l]; exact rel.val k)
    exact wpAny_getItem_missing_of (kV_is ry) hd hh dd.mapOf hn fun h' ex ne => h h' ex _ ne
  · subst ey
    cases (show u = Value.ref b from ry)
    obtain ⟨z, hd, xs, rel, dd⟩ := dt_rd I.hok e
    have hn : (atKey xs k).map (·.2) = none := RelO.none_of (by rw [l]; exact rel.val k)
    exact wpAny_getItem_missing_heap (tupleKind_room_in1 hu) (key_of I.hok eb) hd hh dd (Option.map_eq_none_iff.mp hn) fun h' ex ne => h h' ex _ ne
end
end L2

namespace HT
open PySem PyProof.Rows

/-- t < u of tuples of ints -/
def lexLt : List Int → List Int → Bool
  | [], [] => false
  | [], _ :: _ => true
  | _ :: _, [] => false
  | x :: xs, y :: ys => if x = y then lexLt xs ys else decide (x < y)
theorem lexLt_cons (x y : Int) (xs ys : List Int) : lexLt (x :: xs) (y :: ys) = if x = y then lexLt xs ys else decide (x < y) := rfl
theorem lexLt_nil_nil : lexLt [] [] = false := rfl
theorem lexLt_nil_cons (y : Int) (ys : List Int) : lexLt [] (y :: ys) = true := rfl
theorem lexLt_cons_nil (x : Int) (xs : List Int) : lexLt (x :: xs) [] = false := rfl

theorem eqAt_int (A : Around) (s : Shared) (a : Int) (t : Tok) (c : Int) (u : Tok) : ∃ e, SeqAt.EqAt A s (.int a t) (.int c u) e ∧ (e = true ↔ a = c) :=
  ⟨(a == c), SeqAt.EqAt.int_int a t c u, by simp⟩
theorem rcLt_int (A : Around) (s : Shared) (a : Int) (t : Tok) (c : Int) (u : Tok) (prog : Program) (w : World) (E : Value → Shared → Prop) (Q : Value → Shared → Prop) (h : Q (.bool (decide (a < c))) s) :
    wpAny (model prog w) A (richCompare .Lt (.int a t) (.int c u)) Q E s :=
  (PyProof.Rows.lt_int h : wpAny (model prog w) A (compareOp .Lt (.int a t) (.int c u)) Q E s)

section
open PySem.SeqAt
open PySem.AutoSeq1 (wpAny_loadPart')
open PySem.MeetsSeq PySem.MeetsSeq2 PySem.MeetsSeq3

theorem tuple_lt_ints (l b : Addr) (items items2 : Array Value) (n n2 : Nat) (dd dd2 : Option Addr) (sl sl2 : Array (Option Value)) (ns ms : List Int) (hi : IntsAre items.toList ns) (hj : IntsAre items2.toList ms) :
    Meets (Builtin.«tuple.__lt__» ⟨[.ref l, .ref b], []⟩)
      (fun _ R s => s.heap.get? l = some { cls := .type "tuple", dict := dd, data := .seq items n, slots := sl } ∧ s.heap.get? b = some { cls := .type "tuple", dict := dd2, data := .seq items2 n2, slots := sl2 } ∧
        R (.ok (.ret (.bool (lexLt ns ms)))) s) :=
  .of_wp fun prog w A R s h => by
    obtain ⟨hp, g, d, tk, os⟩ := s; obtain ⟨hl, hb, h⟩ := h
    have f2 := AutoSeq1.sub_tuple_tuple
    have z1 : items.size = ns.length := by rw [← hi.length]; simp
    have z2 : items2.size = ms.length := by rw [← hj.length]; simp
    wp_walk using wpAny_loadPart' hl, wpAny_loadPart' hb, wpAny_forIn_list _ (fun rest b s' => b.1 = none ∧ s' = ⟨hp, g, d, tk, os⟩ ∧ ∃ (vs ws : List Value) (ns' ms' : List Int), rest = vs.zip ws ∧
      IntsAre vs ns' ∧ IntsAre ws ms' ∧ ns'.length + items2.size = ms'.length + items.size ∧ R (.ok (.ret (.bool (lexLt ns' ms')))) ⟨hp, g, d, tk, os⟩) _
    case turn =>
      rintro ⟨y, x⟩ rest b s' ⟨hb', rfl, vs, ws, ns', ms', hz, hvi, hwi, hlen, hR⟩
      cases hvi with
      | nil => rw [List.zip_nil_left] at hz; cases hz
      | cons a t hvi' =>
        cases hwi with
        | nil => rw [List.zip_nil_right] at hz; cases hz
        | cons c u hwi' =>
          rw [List.zip_cons_cons] at hz
          injection hz with hyx hrest
          injection hyx with hy hx
          subst hy hx
          rw [lexLt_cons] at hR
          simp only [List.length_cons] at hlen
          obtain ⟨e, he, hiff⟩ := eqAt_int A.in1 ⟨hp, g, d, tk, os⟩ a t c u
          refine wpAny_bind (he prog w _ _ ?_)
          cases e with
          | true =>
            rw [if_pos (hiff.mp rfl)] at hR
            wp_walk
            exact ⟨rfl, rfl, _, _, _, _, hrest, hvi', hwi', by omega, hR⟩
          | false =>
            rw [if_neg (fun q => absurd (hiff.mpr q) Bool.false_ne_true)] at hR
            have hri := rcLt_int A.in1 ⟨hp, g, d, tk, os⟩ a t c u prog w
            wp_walk using hri
            exact ⟨_, rfl, by simpa using hR⟩
    case fin =>
      rintro ⟨b1, b2⟩ s' ⟨hb', rfl, vs, ws, ns', ms', hz, hvi, hwi, hlen, hR⟩
      simp only at hb'
      subst hb'
      have hv : lexLt ns' ms' = decide (items.size < items2.size) := by
        cases hvi with
        | nil =>
          cases hwi with
          | nil =>
            simp only [List.length_nil] at hlen
            rw [lexLt_nil_nil]
            exact (decide_eq_false (by omega)).symm
          | cons c u hw =>
            simp only [List.length_nil, List.length_cons] at hlen
            rw [lexLt_nil_cons]
            exact (decide_eq_true (by omega)).symm
        | cons a t hv =>
          cases hwi with
          | nil =>
            simp only [List.length_nil, List.length_cons] at hlen
            rw [lexLt_cons_nil]
            exact (decide_eq_false (by omega)).symm
          | cons c u hw =>
            rw [List.zip_cons_cons] at hz
            cases hz
      rw [hv] at hR
      wp_walk
      exact ⟨_, rfl, by simpa [Builtin.Tuple.tupleCompareSizes] using hR⟩
    case h =>
      exact ⟨rfl, rfl, items.toList, items2.toList, ns, ms, rfl, hi, hj, by omega, h⟩
end

section
variable {prog : Program} {w : World} {A : Around} {E : Value → Shared → Prop} {s : Shared}

theorem lt_tupInts {l b : Addr} {items items2 : Array Value} {ns ms : List Int} {Q : Value → Shared → Prop} (hl : IsTup s.heap l items) (hb : IsTup s.heap b items2) (hi : IntsAre items.toList ns) (hj : IntsAre items2.toList ms)
    (hu : A.units < cLine) (h : Q (.bool (lexLt ns ms)) s) : wpAny (model prog w) A (compareOp .Lt (.ref l) (.ref b)) Q E s := by
  obtain ⟨⟨cls, dd, data, sl⟩, ho, hc, n, hd⟩ := id hl
  obtain ⟨⟨cls2, dd2, data2, sl2⟩, ho2, hc2, n2, hd2⟩ := id hb
  simp only at hc hd hc2 hd2
  subst hc hd hc2 hd2
  exact richCompare_meets_room (op := .Lt) ⟨_, ho, rfl⟩ ⟨_, ho2, rfl⟩ PySem.F.slot_tuple_lt PySem.F.entry_tuple_lt (PySem.F.args_tuple_lt_2 _ _) (tuple_lt_ints l b items items2 n n2 dd dd2 sl sl2 ns ms hi hj)
    ⟨ho, ho2, show Value.bool (lexLt ns ms) ≠ Value.notImplemented ∧ Q (.bool (lexLt ns ms)) s from ⟨(fun x => nomatch x), h⟩⟩ hu

/-- t + u, t not empty -/
theorem cat_tup {t b : Addr} {vs ws : List Value} {Q : Value → Shared → Prop} (ht : IsTup s.heap t vs.toArray) (hb : IsTup s.heap b ws.toArray) (hv : vs ≠ [])
    (h1 : ws = [] → Q (.ref t) s) (h2 : ws ≠ [] → Q (.ref s.heap.objs.size) { s with heap := s.heap.push { cls := .type "tuple", data := .seq (vs ++ ws).toArray } })
    (hsz : vs.length + ws.length ≤ sizeLine) : wpAny (model prog w) A (binaryOp .Add (.ref t) (.ref b)) Q E s := by
  obtain ⟨⟨cls, dd, data, sl⟩, ho, hc, n, hd⟩ := id ht
  obtain ⟨⟨cls2, dd2, data2, sl2⟩, ho2, hc2, n2, hd2⟩ := id hb
  simp only at hc hd hc2 hd2
  subst hc hd hc2 hd2
  have e : vs.toArray ++ ws.toArray = (vs ++ ws).toArray := by simp
  by_cases hw : ws = []
  · exact concat_meets ⟨_, ho, rfl⟩ ⟨_, ho2, rfl⟩ noFill_tuple_add seq_tuple_add PySem.F.slot_tuple_add PySem.F.entry_tuple_add (PySem.F.args_tuple_add_2 _ _)
      (tuple_addW1 t b vs.toArray ws.toArray n n2 dd dd2 sl sl2 (by simpa using hv) (by simp [hw])) ⟨ho, ho2, h1 hw⟩
  · refine concat_meets ⟨_, ho, rfl⟩ ⟨_, ho2, rfl⟩ noFill_tuple_add seq_tuple_add PySem.F.slot_tuple_add PySem.F.entry_tuple_add (PySem.F.args_tuple_add_2 _ _)
      (tuple_addW2 t b vs.toArray ws.toArray n n2 dd dd2 sl sl2 (by simpa using hv) (by simpa using hw) (by rw [List.size_toArray, List.size_toArray]; exact hsz)) ⟨ho, ho2, ?_⟩
    rw [e]
    exact h2 hw

/-! ### t[a:b], not the whole -/
/-- a slice's bound as a place among n (d where it is left out) -/
def sIx (n d : Nat) : Option Int → Nat
  | none => d
  | some v => if v < 0 then (v + (n : Int)).toNat else min v.toNat n
theorem sIx_none (n d : Nat) : sIx n d none = d := rfl
theorem sIx_nat (n d k : Nat) : sIx n d (some (k : Int)) = min k n := by
  show (if (k : Int) < 0 then ((k : Int) + (n : Int)).toNat else min (k : Int).toNat n) = min k n
  rw [if_neg (by omega), Int.toNat_natCast]
theorem sIx_le (n d : Nat) (hd : d ≤ n) (o : Option Int) : sIx n d o ≤ n := by
  cases o with
  | none => exact hd
  | some v =>
    show (if v < 0 then (v + (n : Int)).toNat else min v.toNat n) ≤ n
    by_cases hv : v < 0
    · rw [if_pos hv]; omega
    · rw [if_neg hv]; exact Nat.min_le_right _ _
theorem clip_eq (v : Int) (n d : Nat) : (if v < 0 then max (v + (n : Int)) 0 else min v (n : Int)) = ((sIx n d (some v) : Nat) : Int) := by
  show (if v < 0 then max (v + (n : Int)) 0 else min v (n : Int)) = (((if v < 0 then (v + (n : Int)).toNat else min v.toNat n) : Nat) : Int)
  by_cases hv : v < 0
  · simp only [if_pos hv]; omega
  · simp only [if_neg hv]; omega
theorem adjust_gen (lo hi : Option Int) (n : Nat) : Builtin.Slice.sliceAdjust lo hi 1 (n : Int) = (((sIx n 0 lo : Nat) : Int), ((sIx n n hi : Nat) : Int)) := by
  have h1 : ¬ ((1 : Int) < 0) := by omega
  unfold Builtin.Slice.sliceAdjust
  simp only [h1, if_false]
  refine Prod.ext ?_ ?_
  · cases lo with
    | none => rfl
    | some v => exact clip_eq v n 0
  · cases hi with
    | none => rfl
    | some v => exact clip_eq v n n
theorem places_gen (i j : Nat) : Builtin.Slice.slicePlaces (i : Int) (j : Int) 1 = j - i := by
  unfold Builtin.Slice.slicePlaces
  have h1 : (1 : Int) > 0 := by omega
  simp only [h1, if_true, Int.ediv_one]
  split <;> omega
theorem slicePart_ {v : Value} {o : Option Int} {Q : Option Int → Shared → Prop} (p : IsPart v o) (h : Q o s) : wpAny (model prog w) A (Builtin.Slice.slicePartIndex v) Q E s := by
  cases p with
  | none => exact slicePart_none h
  | int i t => exact slicePart_int h
theorem sliceApplied_gen {sl : Addr} {vl vu : Value} {lo hi : Option Int} {n : Nat} {Q : Int × Int × Nat → Shared → Prop} (hs : s.heap.IsSliceOf sl vl vu .none) (pl : IsPart vl lo) (pu : IsPart vu hi)
    (h : Q (((sIx n 0 lo : Nat) : Int), 1, sIx n n hi - sIx n 0 lo) s) : wpAny (model prog w) A (Builtin.Slice.sliceApplied (.ref sl) (pure (n : Int))) Q E s := by
  obtain ⟨os, hos, hcs, hds⟩ := id hs
  unfold Builtin.Slice.sliceApplied Builtin.Slice.sliceFields
  refine wpAny_bind (wpAny_bind (wpAny_field hos hds (x := vl) rfl (wpAny_bind (wpAny_field hos hds (x := vu) rfl (wpAny_bind (wpAny_field hos hds (x := .none) rfl (wpAny_pure ?_)))))))
  refine wpAny_bind (slicePart_none ?_)
  show wpAny _ _ (if ((1 : Int) == 0) = true then _ else _) _ _ s
  rw [if_neg (by decide)]
  refine wpAny_bind (slicePart_ pl (wpAny_bind (slicePart_ pu (wpAny_bind (wpAny_pure ?_)))))
  show wpAny _ _ (match Builtin.Slice.sliceAdjust lo hi 1 (n : Int) with | (lo, hi) => pure (lo, (1 : Int), Builtin.Slice.slicePlaces lo hi 1)) _ _ s
  rw [adjust_gen lo hi n]
  show wpAny _ _ (pure (((sIx n 0 lo : Nat) : Int), (1 : Int), Builtin.Slice.slicePlaces ((sIx n 0 lo : Nat) : Int) ((sIx n n hi : Nat) : Int) 1)) _ _ s
  rw [places_gen]
  exact wpAny_pure h
theorem pick_gen (xs : Array Value) (i k : Nat) : ((List.range k).filterMap fun (m : Nat) => xs[((i : Int) + (m : Int) * 1).toNat]?).toArray = ((xs.toList.drop i).take k).toArray := by
  have e : (fun (m : Nat) => xs[((i : Int) + (m : Int) * 1).toNat]?) = fun m => xs[i + m]? := by
    funext m
    have : ((i : Int) + (m : Int) * 1).toNat = i + m := by omega
    rw [this]
  rw [e]
  have := pick_run xs i k
  rw [List.filterMap_map] at this
  have e2 : ((fun x => xs[x]?) ∘ fun x => i + x) = fun m => xs[i + m]? := rfl
  rw [e2] at this
  rw [this]

theorem getItem_tuple_cut {t sl : Addr} {items : Array Value} {vl vu : Value} {lo hi : Option Int} {Q : Value → Shared → Prop} (ht : IsTup s.heap t items) (hs : s.heap.IsSliceOf sl vl vu .none) (pl : IsPart vl lo) (pu : IsPart vu hi)
    (hw : ¬ (sIx items.size 0 lo = 0 ∧ sIx items.size items.size hi = items.size))
    (h : Q (.ref s.heap.objs.size) { s with heap := s.heap.push { cls := .type "tuple", data := .seq ((items.toList.drop (sIx items.size 0 lo)).take (sIx items.size items.size hi - sIx items.size 0 lo)).toArray } })
    (hsz : items.size ≤ sizeLine) : wpAny (model prog w) A (getItem (.ref t) (.ref sl)) Q E s := by
  have htake : sizeOk (.seq ((items.toList.drop (sIx items.size 0 lo)).take (sIx items.size items.size hi - sIx items.size 0 lo)).toArray) := by
    show ((items.toList.drop (sIx items.size 0 lo)).take (sIx items.size items.size hi - sIx items.size 0 lo)).toArray.size ≤ sizeLine
    rw [List.size_toArray, List.length_take, List.length_drop, Array.length_toList]
    omega
  have hj : sIx items.size items.size hi ≤ items.size := sIx_le _ _ (Nat.le_refl _) hi
  obtain ⟨os, hos, hcs, hds⟩ := id hs
  have hTs : s.TypeIs (.ref sl) "slice" := ⟨os, hos, hcs⟩
  unfold getItem
  try with_reducible refine wpAny_holding ?_
  first | refine wpAny_bind (wpAny_pure ?_) | skip
  refine wpAny_bind (wpAny_sequenceKey ht.typeIs (by decide) ?_)
  refine wpAny_bind (wpAny_callSpecial?_slot (name := Str.ofString "__getitem__") ht.typeIs PyProof.Rows.slot_tuple_getitem
    (wpAny_call_entry PyProof.Rows.slot_tuple_getitem ht.typeIs entry_tuple_getitem ?_ (args_tuple_getitem _ _)))
  show wpAny _ _ (Builtin.Tuple.tupleItemsOf (.ref t) >>= _) _ _ s
  refine wpAny_bind (tupleItemsOf_ ht ?_)
  refine wpAny_bind (wpAny_typeOf hTs ?_)
  rw [if_pos (by decide)]
  refine wpAny_bind (sliceApplied_gen hs pl pu ?_)
  have hno : ¬ ((((sIx items.size 0 lo : Nat) : Int) == 0 && (1 : Int) == 1 && (sIx items.size items.size hi - sIx items.size 0 lo) == items.size) = true) := by
    intro q
    rw [Bool.and_eq_true, Bool.and_eq_true] at q
    have q1 : ((sIx items.size 0 lo : Nat) : Int) = 0 := eq_of_beq q.1.1
    have q2 : sIx items.size items.size hi - sIx items.size 0 lo = items.size := eq_of_beq q.2
    exact hw ⟨by omega, by omega⟩
  show wpAny _ _ (if (((sIx items.size 0 lo : Nat) : Int) == 0 && (1 : Int) == 1 && (sIx items.size items.size hi - sIx items.size 0 lo) == items.size) = true then _ else _) _ _ s
  rw [if_neg hno, pick_gen]
  first
    | exact wpAny_bind (m := Builtin.Tuple.tupleExact _) (wpAny_newObj_type (wpAny_pure ⟨_, rfl, wpAny_pure h⟩) htake)
    | exact wpAny_bind (m := Builtin.Tuple.tupleExact _) (wpAny_newObj_type (wpAny_bind (wpAny_pure (wpAny_pure ⟨_, rfl, wpAny_pure h⟩))) htake)
    | exact wpAny_bind (wpAny_bind (m := Builtin.Tuple.tupleExact _) (wpAny_newObj_type (wpAny_pure (wpAny_pure ⟨_, rfl, wpAny_pure h⟩)) htake))
    | exact wpAny_bind (wpAny_bind (m := Builtin.Tuple.tupleExact _) (wpAny_newObj_type (wpAny_pure ⟨_, rfl, wpAny_pure h⟩) htake))
end
end HT

namespace L2
open PySem PySem.Spec PyProof.Rows

/-! ### the parts of a slice -/
abbrev TO := St → Hp → (Option Int → Hp → Prop) → Prop
/-- a slice's part (left out, or an int) -/
def PO (X : Cx) (e : Option Expr) (t : TO) : Prop :=
  ∀ (pins : List (Addr × Obj)) (s : Shared) (σ : St) (H : Hp) (Q : Option Int → Hp → Prop), Inv X pins σ H s → t σ H Q →
    wpAny (model X.prog X.w) X.A (evalPart e X.env) (fun u s' => ∃ o H', Inv X pins σ H' s' ∧ IsPart u o ∧ Q o H') X.xe s
def tNoPart : TO := fun _ H Q => Q none H
def tPart (t : TE) : TO := fun σ H Q => t σ H fun x H1 => ∃ i, x = .int i ∧ Q (some i) H1

theorem intsAre_of {ns : List Int} : ∀ {us : List Value}, Vals (ns.map V.int) us → IntsAre us ns := by
  induction ns with
  | nil => intro us r; rw [List.map_nil] at r; cases r; exact .nil
  | cons n ns ih =>
    intro us r
    rw [List.map_cons] at r
    cases r with
    | cons r1 r2 =>
      obtain ⟨t, e⟩ := r1
      subst e
      exact .cons n t (ih r2)

section
variable {X : Cx} {e : Expr} {te : TE} {lo hi : Option Expr} {tl th : TO} {pos p2 : Pos}

theorem po_none : PO X none tNoPart := by
  intro pins s σ H Q I h
  rw [evalPart_none]
  exact wpAny_pure ⟨none, H, I, .none, h⟩
theorem po_some (h : PE X e te) : PO X (some e) (tPart te) := by
  intro pins s σ H Q I hw
  rw [evalPart_some]
  refine thn (h pins s σ H _ I hw) fun u s1 ⟨x, H1, I1, r1, q1⟩ => ?_
  obtain ⟨i, rfl, q⟩ := q1
  obtain ⟨t, rfl⟩ := r1
  exact ⟨some i, H1, I1, .int i t, q⟩

/-- what a slice of a value is, by values: the slice object stands at sl -/
def SlR (X : Cx) (r : V → Option Int → Option Int → Hp → VK → Prop) : Prop :=
  ∀ (pins : List (Addr × Obj)) (s : Shared) (σ : St) (H : Hp) (x : V) (v vl vu : Value) (lo hi : Option Int) (sl : Addr) (Q : VK), Inv X pins σ H s → RelV x v → s.heap.IsSliceOf sl vl vu .none → IsPart vl lo → IsPart vu hi → r x lo hi H Q →
    ∃ T id, typeLookup (.type T) "__getitem__" = pure (some (.builtin id)) ∧ s.TypeIs v T ∧ wpAny (model X.prog X.w) X.A (getItem v (.ref sl)) (EP X pins σ Q) X.xe s
theorem SlR.or {r r' : V → Option Int → Option Int → Hp → VK → Prop} (h : SlR X r) (h' : SlR X r') : SlR X (fun x lo hi H Q => r x lo hi H Q ∨ r' x lo hi H Q) := by
  intro pins s σ H x v vl vu lo hi sl Q I rx hs pl pu q
  rcases q with q | q
  · exact h pins s σ H x v vl vu lo hi sl Q I rx hs pl pu q
  · exact h' pins s σ H x v vl vu lo hi sl Q I rx hs pl pu q
def tSl (r : V → Option Int → Option Int → Hp → VK → Prop) (te : TE) (tl th : TO) : TE := fun σ H Q => te σ H fun x H1 => tl σ H1 fun l H2 => th σ H2 fun u H3 => r x l u H3 Q
/-- a[lo:hi], any a -/
theorem pe_slice {r : V → Option Int → Option Int → Hp → VK → Prop} (hr : SlR X r) (he : PE X e te) (hl : PO X lo tl) (hu : PO X hi th) : PE X (.Subscript e (.Slice lo hi none p2) pos) (tSl r te tl th) := by
  intro pins s σ H Q I h
  refine Subscript_ (thn (he pins s σ H _ I h) fun v s1 ⟨x, H1, I1, r1, q1⟩ => ?_)
  refine wpAny_Slice (thn (hl pins s1 σ H1 _ I1 q1) fun vl s2 ⟨l, H2, I2, pl, q2⟩ => thn (hu pins s2 σ H2 _ I2 q2) fun vu s3 ⟨u, H3, I3, pu, q3⟩ => ?_)
  rw [evalPart_none]
  refine wpAny_pure ?_
  have I4 : Inv X pins σ H3 { s3 with heap := s3.heap.push { cls := .type "slice", data := .fields #[vl, vu, .none] } } := I3.kept (t' := s3.toks) fun b ob q => Heap.get?_push_of_some _ q
  obtain ⟨T, id, hT, ht, hg⟩ := hr pins { s3 with heap := s3.heap.push { cls := .type "slice", data := .fields #[vl, vu, .none] } } σ H3 x v vl vu l u s3.heap.objs.size Q I4 r1 (Heap.IsSliceOf.new ..) pl pu q3
  show wpAny (model X.prog X.w) X.A (subscriptTail e (.Slice lo hi none p2) v (.ref s3.heap.objs.size)) (EP X pins σ Q) X.xe { s3 with heap := s3.heap.push { cls := .type "slice", data := .fields #[vl, vu, .none] } }
  exact tail_any (ops := [.ref s3.heap.objs.size, v]) ht hT hg (by with_unfolding_all rfl)

/-- the items of xs[lo:hi] -/
def cutV (xs : List V) (lo hi : Option Int) : List V := (xs.drop (HT.sIx xs.length 0 lo)).take (HT.sIx xs.length xs.length hi - HT.sIx xs.length 0 lo)
theorem cutV_length (xs : List V) (lo hi : Option Int) : (cutV xs lo hi).length ≤ xs.length := by
  unfold cutV
  rw [List.length_take, List.length_drop]
  omega
/-- t[lo:hi], not the whole of it (the whole would be t itself) -/
def rSlT (K : PySem.W.Frag) : V → Option Int → Option Int → Hp → VK → Prop := fun x lo hi H Q => ∃ a xs, x = .ref a ∧ SqT K H a xs ∧
  ¬ (HT.sIx xs.length 0 lo = 0 ∧ HT.sIx xs.length xs.length hi = xs.length) ∧ ∀ p, H p = none → Q (.ref p) (upd H p (.tup (cutV xs lo hi)))
theorem sl_tup : SlR X (rSlT X.K) := by
  intro pins s σ H x v vl vu lo hi sl Q I rx hs pl pu h
  obtain ⟨a, xs, rfl, hx, hw, q⟩ := h
  cases rx
  obtain ⟨its, r, ht, hz⟩ := I.tuple hx
  have hlen : its.toArray.size = xs.length := by rw [List.size_toArray]; exact r.length.symm
  refine ⟨"tuple", _, PyProof.Rows.slot_tuple_getitem.lookup, ht.typeIs, ?_⟩
  refine HT.getItem_tuple_cut ht hs pl pu (by rw [hlen]; exact hw) ?_ (by rw [hlen]; exact hz)
  rw [hlen]
  refine ⟨.ref s.heap.objs.size, _, I.laid (t' := s.toks) (o := .tup (cutV xs lo hi)) (fun b ob q => Heap.get?_push_of_some _ q) (Nat.le_refl _) ?_, rfl, q _ (I.hok.fresh (Nat.le_refl _))⟩
  exact ⟨Nat.le_trans (cutV_length xs lo hi) hz, _, (r.drop (HT.sIx xs.length 0 lo)).take (HT.sIx xs.length xs.length hi - HT.sIx xs.length 0 lo), IsTup.new _ _⟩

/-! ### t < u, t + u -/
def rLtT (K : PySem.W.Frag) : R2 := fun x y H Q => ∃ a b ns ms, x = .ref a ∧ y = .ref b ∧ SqT K H a (ns.map V.int) ∧ SqT K H b (ms.map V.int) ∧ Q (.bl (HT.lexLt ns ms)) H
theorem op_ltT (hu : X.A.units < cLine) : OpR X (compareOp .Lt) (rLtT X.K) := by
  intro pins s σ H x y v u Q I rx ry h
  obtain ⟨a, b, ns, ms, rfl, rfl, ha, hb, q⟩ := h
  cases rx
  cases ry
  obtain ⟨its, r1, p1, _⟩ := I.tuple ha
  obtain ⟨its2, r2, p2, _⟩ := I.tuple hb
  have i1 : IntsAre its.toArray.toList ns := intsAre_of r1
  have i2 : IntsAre its2.toArray.toList ms := intsAre_of r2
  exact HT.lt_tupInts p1 p2 i1 i2 hu ⟨.bl (HT.lexLt ns ms), H, I, rfl, q⟩
/-- t + u, t not empty: u empty gives t itself -/
def rCatT (K : PySem.W.Frag) : R2 := fun x y H Q => ∃ a b xs ys, x = .ref a ∧ y = .ref b ∧ SqT K H a xs ∧ SqT K H b ys ∧ xs ≠ [] ∧ xs.length + ys.length ≤ sizeLine ∧
  (ys = [] → Q (.ref a) H) ∧ (ys ≠ [] → ∀ p, H p = none → Q (.ref p) (upd H p (.tup (xs ++ ys))))
theorem Vals.nil_iff {xs : List V} {us : List Value} (r : Vals xs us) : us = [] ↔ xs = [] := by
  cases r with
  | nil => simp
  | cons _ _ => simp
theorem op_catT : OpR X (binaryOp .Add) (rCatT X.K) := by
  intro pins s σ H x y v u Q I rx ry h
  obtain ⟨a, b, xs, ys, rfl, rfl, ha, hb, hx, hz, q1, q2⟩ := h
  cases rx
  cases ry
  obtain ⟨its, r1, p1, _⟩ := I.tuple ha
  obtain ⟨its2, r2, p2, _⟩ := I.tuple hb
  refine HT.cat_tup p1 p2 (fun z => hx (r1.nil_iff.mp z)) (fun z => ⟨.ref a, H, I, rfl, q1 (r2.nil_iff.mp z)⟩) (fun z => ?_) (by rw [← r1.length, ← r2.length]; exact hz)
  refine ⟨.ref s.heap.objs.size, _, I.laid (t' := s.toks) (o := .tup (xs ++ ys)) (fun b ob q => Heap.get?_push_of_some _ q) (Nat.le_refl _) ?_, rfl, q2 (fun w => z (r2.nil_iff.mpr w)) _ (I.hok.fresh (Nat.le_refl _))⟩
  exact ⟨by rw [List.length_append]; exact hz, _, r1.append r2, IsTup.new _ _⟩
/-- tuple(t) -/
theorem call_tupleT : CallR X (.type "tuple") (fun xs H Q => ∃ a ys, xs = [.ref a] ∧ SqT X.K H a ys ∧ Q (.ref a) H) := by
  intro pins s σ H xs us Q I r h
  obtain ⟨a, ys, rfl, ha, q⟩ := h
  obtain ⟨u, rfl, ru⟩ := vals1 r
  cases ru
  obtain ⟨its, _, p1, _⟩ := I.tuple ha
  exact call_tuple_same (items := its.toArray) p1 ⟨.ref a, H, I, rfl, q⟩
end
end L2

namespace L2
open PySem PySem.Spec PyProof.Rows

/-! ### places -/
/-- the place that an index of any sign means -/
def ixN (n : Nat) (i : Int) : Option Nat := if 0 ≤ i then (if i < n then some i.toNat else none) else if -(n : Int) ≤ i then some (i + n).toNat else none
def atI {α : Type} (xs : List α) (i : Int) : Option α := (ixN xs.length i).bind fun j => xs[j]?
theorem ixN_seq {n : Nat} {i : Int} {j : Nat} (h : ixN n i = some j) : seqIndex? i n = some j ∧ j < n ∧ -(n : Int) ≤ i ∧ i < n := by
  unfold ixN at h
  by_cases h0 : 0 ≤ i
  · rw [if_pos h0] at h
    by_cases h1 : i < n
    · rw [if_pos h1] at h
      have e : i.toNat = j := Option.some.inj h
      exact ⟨by rw [seqIndex_of h0 h1, e], by omega, by omega, h1⟩
    · rw [if_neg h1] at h; cases h
  · rw [if_neg h0] at h
    by_cases h1 : -(n : Int) ≤ i
    · rw [if_pos h1] at h
      have e : (i + n).toNat = j := Option.some.inj h
      exact ⟨by rw [seqIndex_neg (by omega) h1, e], by omega, h1, by omega⟩
    · rw [if_neg h1] at h; cases h
theorem atI_get {α : Type} {xs : List α} {i : Int} {v : α} (h : atI xs i = some v) : ∃ j, seqIndex? i xs.length = some j ∧ xs[j]? = some v ∧ j < xs.length ∧ -(xs.length : Int) ≤ i ∧ i < xs.length := by
  unfold atI at h
  cases e : ixN xs.length i with
  | none => rw [e] at h; cases h
  | some j =>
    rw [e] at h
    obtain ⟨h1, h2, h3, h4⟩ := ixN_seq e
    exact ⟨j, h1, h, h2, h3, h4⟩
theorem atI_nat {α : Type} {xs : List α} {j : Nat} {v : α} (h : xs[j]? = some v) : atI xs (j : Int) = some v := by
  have hj : j < xs.length := (List.getElem?_eq_some_iff.mp h).1
  have e : ixN xs.length (j : Int) = some j := by
    unfold ixN
    rw [if_pos (by omega), if_pos (by omega)]; simp
  unfold atI; rw [e]; exact h
theorem atI_last {α : Type} (xs : List α) (v : α) : atI (xs ++ [v]) (-1) = some v := by
  have hl : (xs ++ [v]).length = xs.length + 1 := by simp
  have e : ixN (xs ++ [v]).length (-1) = some xs.length := by
    unfold ixN
    rw [hl, if_neg (by decide), if_pos (by omega)]
    congr 1
    omega
  unfold atI
  rw [e]
  show (xs ++ [v])[xs.length]? = some v
  simp

/-! ### what may be subscripted -/
/-- what stands as an index of a plain subscript -/
def PlainIx (b : Expr) : Prop := ∀ o i, subscripted b false o i = operate [o, i] (getItem o i)
/-- a subscript by values -/
def IxR (X : Cx) (r : R2) : Prop :=
  ∀ (value slice : Expr) (pins : List (Addr × Obj)) (s : Shared) (σ : St) (H : Hp) (x y : V) (v u : Value) (Q : VK), Inv X pins σ H s → RelV x v → RelV y u → r x y H Q →
    subscripted slice false v u = operate [v, u] (getItem v u) → wpAny (model X.prog X.w) X.A (subscriptTail value slice v u) (EP X pins σ Q) X.xe s
/-- a call of a builtin's method by values: the receiver, the arguments -/
def MtR (X : Cx) (id : String) (r : V → List V → Hp → VK → Prop) : Prop :=
  ∀ (pins : List (Addr × Obj)) (s : Shared) (σ : St) (H : Hp) (x : V) (xs : List V) (v : Value) (us : List Value) (Q : VK), Inv X pins σ H s → RelV x v → Vals xs us → r x xs H Q →
    wpAny (model X.prog X.w) X.A (call (.builtin id) (v :: us)) (EP X pins σ Q) X.xe s
section
variable {X : Cx} {a b : Expr} {ta tb : TE} {pos : Pos}
theorem IxR.or {r r' : R2} (h : IxR X r) (h' : IxR X r') : IxR X (fun x y H Q => r x y H Q ∨ r' x y H Q) := by
  intro value slice pins s σ H x y v u Q I rx ry q hs
  rcases q with q | q
  · exact h value slice pins s σ H x y v u Q I rx ry q hs
  · exact h' value slice pins s σ H x y v u Q I rx ry q hs
theorem MtR.or {id : String} {r r' : V → List V → Hp → VK → Prop} (h : MtR X id r) (h' : MtR X id r') : MtR X id (fun x xs H Q => r x xs H Q ∨ r' x xs H Q) := by
  intro pins s σ H x xs v us Q I rx rs q
  rcases q with q | q
  · exact h pins s σ H x xs v us Q I rx rs q
  · exact h' pins s σ H x xs v us Q I rx rs q
/-- a[b] -/
theorem pe_ix {r : R2} (hr : IxR X r) (ha : PE X a ta) (hb : PE X b tb) (hs : PlainIx b) : PE X (.Subscript a b pos) (tOp r ta tb) := by
  intro pins s σ H Q I h
  exact Subscript_ (binT ha hb I h fun v u s2 x y H2 I2 rx ry q => hr a b pins s2 σ H2 x y v u Q I2 rx ry q (hs _ _))

def rIxL (K : PySem.W.Frag) : R2 := fun x y H Q => ∃ p xs i v, x = .ref p ∧ y = .int i ∧ SqL K H p xs ∧ atI xs i = some v ∧ Q v H
def rIxT (K : PySem.W.Frag) : R2 := fun x y H Q => ∃ p xs i v, x = .ref p ∧ y = .int i ∧ SqT K H p xs ∧ atI xs i = some v ∧ Q v H
def rIxS : R2 := fun x y H Q => ∃ z i c, x = .str z ∧ y = .int i ∧ z.length ≤ sizeLine ∧ atI z.cps.toList i = some c ∧ Q (.str ⟨#[c]⟩) H
theorem ix_list : IxR X (rIxL X.K) := by
  intro value slice pins s σ H x y v u Q I rx ry h hs
  obtain ⟨p, xs, i, z, rfl, rfl, hq, he, q⟩ := h
  cases rx
  obtain ⟨t, rfl⟩ := ry
  obtain ⟨its, r, pl, hz⟩ := I.list hq
  obtain ⟨j, h1, h2, h3, h4, h5⟩ := atI_get he
  obtain ⟨w, ew, rw'⟩ := r.get h2
  have hl := r.length
  have hn := line63
  have fin : EP X pins σ Q w s := ⟨z, H, I, rw', q⟩
  by_cases h0 : 0 ≤ i
  · have hj : i.toNat = j := by
      rw [seqIndex_of h0 h5] at h1
      exact Option.some.inj h1
    exact item_listR pl.isList h0 (by omega) (by rw [hj]; simpa using ew) fin hs
  · have hj : (i + (its.toArray.size : Int)).toNat = j := by
      rw [seqIndex_neg (by omega) h4] at h1
      rw [List.size_toArray, ← hl]
      exact Option.some.inj h1
    exact subscriptTail_builtinR (x := w) pl.isList.typeIs slot_list_getitem.lookup
      (wpAny_getItem_list_neg (Q := fun r s' => r = w ∧ EP X pins σ Q r s') pl.isList (by omega) (by rw [List.size_toArray] <;> omega) (by omega) (by rw [hj]; simpa using ew) ⟨rfl, fin⟩) hs
theorem ix_tup : IxR X (rIxT X.K) := by
  intro value slice pins s σ H x y v u Q I rx ry h hs
  obtain ⟨p, xs, i, z, rfl, rfl, hq, he, q⟩ := h
  cases rx
  obtain ⟨t, rfl⟩ := ry
  obtain ⟨its, r, pl, hz⟩ := I.tuple hq
  obtain ⟨j, h1, h2, h3, h4, h5⟩ := atI_get he
  obtain ⟨w, ew, rw'⟩ := r.get h2
  have hl := r.length
  have hn := line63
  have fin : EP X pins σ Q w s := ⟨z, H, I, rw', q⟩
  exact subscriptTail_builtinR (x := w) pl.typeIs slot_tuple_getitem.lookup
    (getItem_tuple (j := j) (Q := fun r s' => r = w ∧ EP X pins σ Q r s') pl (by omega) (by omega) (by rw [List.size_toArray, ← hl]; exact h1) (by simpa using ew) ⟨rfl, fin⟩) hs
theorem ix_str : IxR X rIxS := by
  intro value slice pins s σ H x y v u Q I rx ry h hs
  obtain ⟨z, i, c, rfl, rfl, hz, he, q⟩ := h
  obtain ⟨t, rfl⟩ := rx
  obtain ⟨t', rfl⟩ := ry
  obtain ⟨j, h1, h2, h3, h4, h5⟩ := atI_get he
  have hl : z.cps.toList.length = z.length := by simp [Str.length]
  rw [hl] at h1 h4 h5
  have hn := line63
  exact tail_any (typeIs_str s z t) slot_str_getitem.lookup (getItem_str (c := c) (by
    have e1 : decide (i < -(2 ^ 63 : Int)) = false := decide_eq_false (by omega)
    have e2 : decide (i ≥ 2 ^ 63) = false := decide_eq_false (by omega)
    rw [e1, e2, Bool.or_false]) (by rw [h1]; simpa using h2) ⟨.str ⟨#[c]⟩, H, I.tok _, ⟨_, rfl⟩, q⟩) hs
/-- list, tuple or str -/
def rIx (K : PySem.W.Frag) : R2 := fun x y H Q => rIxL K x y H Q ∨ rIxT K x y H Q ∨ rIxS x y H Q
theorem ix_seq : IxR X (rIx X.K) := ix_list.or (ix_tup.or ix_str)

/-! ### xs[i] = v, any sign -/
/-- the list's object behind a store -/
theorem mapSeq_set (its : List Value) (n j : Nat) (u : Value) : Obj.mapSeq (·.setIfInBounds j u) { cls := .type "list", data := .seq its.toArray n } = { cls := .type "list", data := .seq (its.set j u).toArray n } := by
  simp [Obj.mapSeq]
theorem Inv.lst {pins : List (Addr × Obj)} {σ : St} {H : Hp} {s : Shared} {p : Addr} {xs : List V} (I : Inv X pins σ H s) (h : H p = some (.lst xs)) :
    ∃ (its : List Value) (n : Nat), Vals xs its ∧ s.heap.get? p = some { cls := .type "list", data := .seq its.toArray n } ∧ xs.length ≤ sizeLine := by
  obtain ⟨z, its, n, r, e⟩ := I.hok p _ h
  exact ⟨its, n, r, e, z⟩
/-- the list at p is written by an update of its object -/
theorem Inv.lstUpd {pins : List (Addr × Obj)} {σ : St} {H : Hp} {s : Shared} {p : Addr} {xs ys : List V} {its its' : List Value} {n n' : Nat} {f : Obj → Obj} (I : Inv X pins σ H s) (h : H p = some (.lst xs))
    (ho : s.heap.get? p = some { cls := .type "list", data := .seq its.toArray n }) (hf : f { cls := .type "list", data := .seq its.toArray n } = { cls := .type "list", data := .seq its'.toArray n' }) (r : Vals ys its') (hz : ys.length ≤ sizeLine) (t : Nat) :
    Inv X pins σ (upd H p (.lst ys)) { s with heap := s.heap.update p f, toks := t } := by
  have e : (s.heap.update p f).get? p = some { cls := .type "list", data := .seq its'.toArray n' } := by
    rw [Heap.get?_update_self f ho (by rw [hf] <;> rfl), hf]
  refine I.write (x := p) (e := p) (by rw [h]; trivial) (.inl rfl) (fun b u hb q => (Heap.get?_update_other _ _ (Ne.symm hb)).trans q) ⟨_, e⟩ ?_
  exact ⟨hz, its', n', r, e⟩
def rSetL : V → V → V → Hp → (Hp → Prop) → Prop := fun o i v H Q => ∃ p xs k j, o = .ref p ∧ i = .int k ∧ H p = some (.lst xs) ∧ ixN xs.length k = some j ∧ Q (upd H p (.lst (xs.set j v)))
theorem set_list : PSet X rSetL := by
  intro pins s σ H o i v ov iv u Q I ro ri rv h
  obtain ⟨p, xs, k, j, rfl, rfl, hp, hj, q⟩ := h
  cases ro
  obtain ⟨t, rfl⟩ := ri
  obtain ⟨its, n, r, ho, hz⟩ := I.lst hp
  obtain ⟨h1, h2, h3, h4⟩ := ixN_seq hj
  have hl := r.length
  have hn := line63
  have I' : Inv X pins σ (upd H p (.lst (xs.set j v))) { s with heap := s.heap.update p (Obj.mapSeq (·.setIfInBounds j u)) } :=
    I.lstUpd hp ho (mapSeq_set its n j u) (r.set rv j) (by rw [List.length_set]; exact hz) s.toks
  by_cases h0 : 0 ≤ k
  · have hk : k.toNat = j := by
      rw [seqIndex_of h0 h4] at h1
      exact Option.some.inj h1
    exact PySem.W.ki_setAt ho h0 (by omega) (by rw [List.size_toArray, ← hl]; exact h4) (by rw [hk]; exact ⟨_, I', q⟩)
  · have hk : (k + (its.toArray.size : Int)).toNat = j := by
      rw [seqIndex_neg (by omega) h3] at h1
      rw [List.size_toArray, ← hl]
      exact Option.some.inj h1
    exact PySem.W.ki_setBack ho (by omega) (by rw [List.size_toArray, ← hl]; exact h3) (by omega) (by rw [hk]; exact ⟨_, I', q⟩)

/-! ### slices -/
theorem slice_bounds (lo hi : Option Int) (n : Nat) : (sliceBounds lo hi none n).1 = ((HT.sIx n 0 lo : Nat) : Int) ∧ (sliceBounds lo hi none n).2.1 = ((HT.sIx n n hi : Nat) : Int) ∧ (sliceBounds lo hi none n).2.2 = 1 := by
  refine ⟨?_, ?_, rfl⟩
  · cases lo with
    | none => simp [sliceBounds, HT.sIx]
    | some i =>
      simp only [sliceBounds, HT.sIx, Option.getD_none, show (1 : Int) > 0 by decide, if_true]
      by_cases h : i < 0
      · simp only [h, if_true] <;> omega
      · simp only [h, if_false] <;> omega
  · cases hi with
    | none => simp [sliceBounds, HT.sIx]
    | some i =>
      simp only [sliceBounds, HT.sIx, Option.getD_none, show (1 : Int) > 0 by decide, if_true]
      by_cases h : i < 0
      · simp only [h, if_true] <;> omega
      · simp only [h, if_false] <;> omega
theorem slicePick_cut (its : List Value) (lo hi : Option Int) : slicePick its.toArray lo hi none = ((its.drop (HT.sIx its.length 0 lo)).take (HT.sIx its.length its.length hi - HT.sIx its.length 0 lo)).toArray := by
  obtain ⟨h1, h2, h3⟩ := slice_bounds lo hi its.toArray.size
  unfold slicePick
  rw [h1, h2, h3]
  simp only [sliceRange_one, pick_run, List.size_toArray] <;> rfl
/-- xs[lo:hi] of a list: a new list -/
def rSlL (K : PySem.W.Frag) : V → Option Int → Option Int → Hp → VK → Prop := fun x lo hi H Q => ∃ a xs, x = .ref a ∧ SqL K H a xs ∧ ∀ p, H p = none → Q (.ref p) (upd H p (.lst (cutV xs lo hi)))
theorem sl_list : SlR X (rSlL X.K) := by
  intro pins s σ H x v vl vu lo hi sl Q I rx hs pl pu h
  obtain ⟨a, xs, rfl, hx, q⟩ := h
  cases rx
  obtain ⟨its, r, ht, hz⟩ := I.list hx
  have hlen := r.length
  refine ⟨"list", _, slot_list_getitem.lookup, ht.isList.typeIs, ?_⟩
  refine wpAny_getItem_list_slice ht.isList hs pl pu .none (by simp) ?_ (by rw [List.size_toArray] <;> omega)
  rw [slicePick_cut, ← hlen]
  refine ⟨.ref s.heap.objs.size, _, I.laid (t' := s.toks) (o := .lst (cutV xs lo hi)) (fun b ob q => Heap.get?_push_of_some _ q) (Nat.le_refl _) ?_, rfl, q _ (I.hok.fresh (Nat.le_refl _))⟩
  exact ⟨Nat.le_trans (cutV_length xs lo hi) hz, _, 0, (r.drop (HT.sIx xs.length 0 lo)).take (HT.sIx xs.length xs.length hi - HT.sIx xs.length 0 lo), Heap.get?_push_size _ rfl⟩

/-! ### in, not in: flat items -/
def flatV : V → Bool
  | .non => true
  | .bl _ => true
  | .int _ => true
  | .str _ => true
  | _ => false
/-- == of flat values -/
def eqV : V → V → Bool
  | .non, .non => true
  | .bl a, .bl b => a == b
  | .bl a, .int b => (if a then 1 else 0) == b
  | .int a, .bl b => a == (if b then 1 else 0)
  | .int a, .int b => a == b
  | .str a, .str b => a == b
  | _, _ => false
theorem eqAt_V {A : Around} {s : Shared} {y x : V} {u v : Value} (ry : RelV y u) (rx : RelV x v) (fy : flatV y = true) (fx : flatV x = true) : SeqAt.EqAt A s u v (eqV y x) := by
  cases y with
  | non =>
    cases ry
    cases x with
    | non => cases rx; exact SeqAt.EqAt.same _
    | bl b => cases rx; exact SeqAt.EqAt.none_bool b
    | int b => obtain ⟨t, rfl⟩ := rx; exact SeqAt.EqAt.none_int b t
    | str b => obtain ⟨t, rfl⟩ := rx; exact SeqAt.EqAt.none_str b t
    | _ => exact absurd (show false = true from fx) Bool.false_ne_true
  | bl a =>
    cases ry
    cases x with
    | non => cases rx; exact SeqAt.EqAt.bool_none a
    | bl b => cases rx; exact SeqAt.EqAt.bool_bool a b
    | int b => obtain ⟨t, rfl⟩ := rx; exact SeqAt.EqAt.bool_int a b t
    | str b => obtain ⟨t, rfl⟩ := rx; exact SeqAt.EqAt.bool_str a b t
    | _ => exact absurd (show false = true from fx) Bool.false_ne_true
  | int a =>
    obtain ⟨t', rfl⟩ := ry
    cases x with
    | non => cases rx; exact SeqAt.EqAt.int_none a t'
    | bl b => cases rx; exact SeqAt.EqAt.int_bool a t' b
    | int b => obtain ⟨t, rfl⟩ := rx; exact SeqAt.EqAt.int_int a t' b t
    | str b => obtain ⟨t, rfl⟩ := rx; exact SeqAt.EqAt.int_str a t' b t
    | _ => exact absurd (show false = true from fx) Bool.false_ne_true
  | str a =>
    obtain ⟨t', rfl⟩ := ry
    cases x with
    | non => cases rx; exact SeqAt.EqAt.str_none a t'
    | bl b => cases rx; exact SeqAt.EqAt.str_bool a t' b
    | int b => obtain ⟨t, rfl⟩ := rx; exact SeqAt.EqAt.str_int a t' b t
    | str b => obtain ⟨t, rfl⟩ := rx; exact SeqAt.EqAt.str_str a t' b t
    | _ => exact absurd (show false = true from fx) Bool.false_ne_true
  | _ => exact absurd (show false = true from fy) Bool.false_ne_true
/-- the items' answers, read off the values (a value's own answer does not lean on its token) -/
def eqU (x : V) (u : Value) : Bool := match u with
  | .none => eqV .non x
  | .bool b => eqV (.bl b) x
  | .int i _ => eqV (.int i) x
  | .str z _ => eqV (.str z) x
  | _ => false
theorem eqU_of {x y : V} {u : Value} (r : RelV y u) (f : flatV y = true) : eqU x u = eqV y x := by
  cases y with
  | non => cases r; rfl
  | bl b => cases r; rfl
  | int i => obtain ⟨t, rfl⟩ := r; rfl
  | str z => obtain ⟨t, rfl⟩ := r; rfl
  | _ => exact absurd (show false = true from f) Bool.false_ne_true
theorem any_eqU {x : V} : ∀ {xs : List V} {us : List Value}, Vals xs us → xs.all flatV = true → us.any (eqU x) = xs.any fun y => eqV y x
  | _, _, .nil, _ => rfl
  | y :: xs, u :: us, .cons r t, f => by
    rw [List.all_cons, Bool.and_eq_true] at f
    rw [List.any_cons, List.any_cons, eqU_of r f.1, any_eqU t f.2]
theorem mem_eqAt {A : Around} {s : Shared} {x : V} {v : Value} (rx : RelV x v) (fx : flatV x = true) : ∀ {xs : List V} {us : List Value}, Vals xs us → xs.all flatV = true → ∀ u ∈ us, SeqAt.EqAt A s u v (eqU x u)
  | _, _, .nil, _ => fun u hu => by cases hu
  | y :: xs, u :: us, .cons r t, f => fun u' hu => by
    rw [List.all_cons, Bool.and_eq_true] at f
    rcases List.mem_cons.mp hu with rfl | hu
    · rw [eqU_of r f.1]; exact eqAt_V r rx f.1 fx
    · exact mem_eqAt rx fx t f.2 u' hu
def inV (x : V) (xs : List V) : Bool := xs.any fun y => eqV y x
/-- x in a list or tuple of flat items -/
def rIn (K : PySem.W.Frag) (neg : Bool) : R2 := fun x y H Q => ∃ p xs, y = .ref p ∧ (SqL K H p xs ∨ SqT K H p xs) ∧ flatV x = true ∧ xs.all flatV = true ∧ Q (.bl (if neg then !inV x xs else inV x xs)) H
theorem op_in_seq : OpR X (compareOp .In) (rIn X.K false) := by
  intro pins s σ H x y v u Q I rx ry h
  obtain ⟨p, xs, rfl, hq, fx, fs, q⟩ := h
  cases ry
  rcases hq with hq | hq
  · obtain ⟨its, r, pl, hz⟩ := I.list hq
    refine SeqAt.in_listAt (eqU x) pl.isList (fun w hw => mem_eqAt rx fx r fs w (by simpa using hw)) ⟨.bl _, H, I, rfl, ?_⟩
    rw [show its.toArray.any (eqU x) = its.any (eqU x) by simp, any_eqU r fs]
    exact q
  · obtain ⟨its, r, pl, hz⟩ := I.tuple hq
    refine SeqAt.in_tupleAt (eqU x) pl (fun w hw => mem_eqAt rx fx r fs w (by simpa using hw)) ⟨.bl _, H, I, rfl, ?_⟩
    rw [show its.toArray.any (eqU x) = its.any (eqU x) by simp, any_eqU r fs]
    exact q
theorem op_notIn_seq : OpR X (compareOp .NotIn) (rIn X.K true) := by
  intro pins s σ H x y v u Q I rx ry h
  obtain ⟨p, xs, rfl, hq, fx, fs, q⟩ := h
  cases ry
  rcases hq with hq | hq
  · obtain ⟨its, r, pl, hz⟩ := I.list hq
    refine SeqAt.notIn_listAt (eqU x) pl.isList (fun w hw => mem_eqAt rx fx r fs w (by simpa using hw)) ⟨.bl _, H, I, rfl, ?_⟩
    rw [show its.toArray.any (eqU x) = its.any (eqU x) by simp, any_eqU r fs]
    exact q
  · obtain ⟨its, r, pl, hz⟩ := I.tuple hq
    refine SeqAt.notIn_tupleAt (eqU x) pl (fun w hw => mem_eqAt rx fx r fs w (by simpa using hw)) ⟨.bl _, H, I, rfl, ?_⟩
    rw [show its.toArray.any (eqU x) = its.any (eqU x) by simp, any_eqU r fs]
    exact q
theorem op_notIn_str : OpR X (compareOp .NotIn) (fun x y H Q => ∃ i j, x = .str i ∧ y = .str j ∧ Q (.bl (!(!(Builtin.Str.occurrences j i 0 j.length 1).isEmpty))) H) := by
  intro pins s σ H x y v u Q I rx ry h
  obtain ⟨i, j, rfl, rfl, q⟩ := h
  obtain ⟨t, rfl⟩ := rx
  obtain ⟨t', rfl⟩ := ry
  exact notIn_str ⟨.bl _, H, I, rfl, q⟩

/-! ### len, list(x), tuple(x) of any list or tuple that is read -/
theorem call_len_seq : CallR X (.builtin "len") (fun xs H Q => ∃ p ys, xs = [.ref p] ∧ (SqL X.K H p ys ∨ SqT X.K H p ys) ∧ Q (.int ys.length) H) := by
  intro pins s σ H xs us Q I r h
  obtain ⟨p, ys, rfl, hq, q⟩ := h
  obtain ⟨u, rfl, rx⟩ := vals1 r
  cases rx
  have hn := line63
  rcases hq with hq | hq
  · obtain ⟨its, r', pl, hz⟩ := I.list hq
    have hlen := r'.length
    exact Calls.call_len_list pl.isList (by simp only [List.size_toArray] <;> omega) ⟨.int ys.length, H, I.tok _, ⟨s.toks + 1, by rw [List.size_toArray, hlen]⟩, q⟩
  · obtain ⟨its, r', pl, hz⟩ := I.tuple hq
    have hlen := r'.length
    exact len_tuple pl (by simp only [List.size_toArray] <;> omega) ⟨.int ys.length, H, I.tok _, ⟨s.toks + 1, by rw [List.size_toArray, hlen]⟩, q⟩
theorem call_len_str : CallR X (.builtin "len") (fun xs H Q => ∃ z, xs = [.str z] ∧ z.length ≤ sizeLine ∧ Q (.int z.length) H) := by
  intro pins s σ H xs us Q I r h
  obtain ⟨z, rfl, hz, q⟩ := h
  obtain ⟨u, rfl, t, rfl⟩ := vals1 r
  have hn := line63
  exact len_str (by omega) ⟨.int z.length, H, I.tok _, ⟨_, rfl⟩, q⟩
theorem CallR.or {f : Value} {r r' : List V → Hp → VK → Prop} (h : CallR X f r) (h' : CallR X f r') : CallR X f (fun xs H Q => r xs H Q ∨ r' xs H Q) := by
  intro pins s σ H xs us Q I rs q
  rcases q with q | q
  · exact h pins s σ H xs us Q I rs q
  · exact h' pins s σ H xs us Q I rs q
theorem call_list_of : CallR X (.type "list") (fun xs H Q => ∃ p ys, xs = [.ref p] ∧ (SqL X.K H p ys ∨ SqT X.K H p ys) ∧ ∀ l, H l = none → Q (.ref l) (upd H l (.lst ys))) := by
  intro pins s σ H xs us Q I r h
  obtain ⟨p, ys, rfl, hq, q⟩ := h
  obtain ⟨u, rfl, rx⟩ := vals1 r
  cases rx
  have fin : ∀ (its : List Value), Vals ys its → ys.length ≤ sizeLine → ∀ (h' : Heap) (c' : Nat), (∀ b o', s.heap.get? b = some o' → h'.get? b = some o') →
      h'.get? s.heap.objs.size = some { cls := .type "list", dict := none, data := .seq its.toArray c', slots := #[] } → EP X pins σ Q (.ref s.heap.objs.size) { s with heap := h' } := fun its r' hz h' c' kp e =>
    ⟨.ref s.heap.objs.size, _, I.laid (t' := s.toks) kp (Nat.le_refl _) (show ObjOk X.prog X.w _ h' _ (.lst ys) from ⟨hz, its, c', r', e⟩), rfl, q _ (I.hok.fresh (Nat.le_refl _))⟩
  rcases hq with hq | hq
  · obtain ⟨its, r', pl, hz⟩ := I.list hq
    have hlen := r'.length
    obtain ⟨o, ho, hc, n, hd⟩ := pl.isList
    exact call_list_seq p (.inl rfl) ho hc hd (fun h' c' kp e => fin its r' hz h' c' kp e) (by simp only [List.size_toArray] <;> omega)
  · obtain ⟨its, r', pl, hz⟩ := I.tuple hq
    have hlen := r'.length
    obtain ⟨o, ho, hc, n, hd⟩ := pl
    exact call_list_seq p (.inr rfl) ho hc hd (fun h' c' kp e => fin its r' hz h' c' kp e) (by simp only [List.size_toArray] <;> omega)
theorem call_tuple_of : CallR X (.type "tuple") (fun xs H Q => ∃ p ys, xs = [.ref p] ∧ ((SqL X.K H p ys ∧ ∀ l, H l = none → Q (.ref l) (upd H l (.tup ys))) ∨ (SqT X.K H p ys ∧ Q (.ref p) H))) := by
  intro pins s σ H xs us Q I r h
  obtain ⟨p, ys, rfl, h⟩ := h
  obtain ⟨u, rfl, rx⟩ := vals1 r
  cases rx
  rcases h with ⟨hq, q⟩ | ⟨hq, q⟩
  · obtain ⟨its, r', pl, hz⟩ := I.list hq
    have hlen := r'.length
    refine call_tuple_list pl.isList (fun h' kp => ?_) (by simp only [List.size_toArray] <;> omega)
    have I1 : Inv X pins σ H { s with heap := h' } := I.kept (t' := s.toks) kp
    have I2 : Inv X pins σ (upd H h'.objs.size (.tup ys)) { s with heap := h'.push { cls := .type "tuple", data := .seq its.toArray } } :=
      I1.laid (t' := s.toks) (fun b o e => Heap.get?_push_of_some _ e) (Nat.le_refl _) (show ObjOk X.prog X.w _ _ _ (.tup ys) from ⟨hz, its, r', IsTup.new _ _⟩)
    exact ⟨.ref h'.objs.size, _, I2, rfl, q _ (I1.hok.fresh (Nat.le_refl _))⟩
  · obtain ⟨its, r', pl, hz⟩ := I.tuple hq
    exact call_tuple_same pl ⟨.ref p, H, I, rfl, q⟩

/-! ### the call of a builtin's method: o.m(..) -/
/-- the value is of that builtin type -/
def tyV (K : PySem.W.Frag) (T : String) (x : V) (H : Hp) : Prop := match x with
  | .str _ => T = "str"
  | .int _ => T = "int"
  | .ref p => (T = "list" ∧ ∃ xs, SqL K H p xs) ∨ (T = "tuple" ∧ ∃ o, K.lookup p = some o ∧ o.cls = .type "tuple" ∧ o.dict = none) ∨
      (T = "dict" ∧ ((∃ kvs, H p = some (.dK kvs)) ∨ ∃ kvs, H p = some (.dT kvs))) ∨ (T = "set" ∧ ∃ S n, H p = some (.set S n))
  | _ => False
theorem tyV_is {pins : List (Addr × Obj)} {σ : St} {H : Hp} {s : Shared} {T : String} {x : V} {v : Value} (I : Inv X pins σ H s) (r : RelV x v) (ty : tyV X.K T x H) :
    s.TypeIs v T ∧ ∀ a, v = .ref a → ∃ ob, s.heap.get? a = some ob ∧ ob.dict = none := by
  cases x with
  | str z =>
    obtain ⟨t, rfl⟩ := r
    cases (show T = "str" from ty)
    exact ⟨typeIs_str s z t, fun _ e => nomatch e⟩
  | int i =>
    obtain ⟨t, rfl⟩ := r
    cases (show T = "int" from ty)
    exact ⟨typeIs_int s i t, fun _ e => nomatch e⟩
  | ref p =>
    cases r
    rcases ty with ⟨rfl, xs, hq⟩ | ⟨rfl, o, hk, hc, hd⟩ | ⟨rfl, hk⟩ | ⟨rfl, S, n, hk⟩
    · obtain ⟨its, _, pl, _⟩ := I.list hq
      refine ⟨pl.isList.typeIs, fun a e => ?_⟩
      cases e
      obtain ⟨o, n, e, c, hd, _⟩ := pl
      exact ⟨o, e, hd⟩
    · refine ⟨⟨o, I.kIn p o hk, hc⟩, fun a e => ?_⟩
      cases e
      exact ⟨o, I.kIn _ o hk, hd⟩
    · have z : ∃ o, s.heap.get? p = some o ∧ o.ExactDict := by
        rcases hk with ⟨kvs, hk⟩ | ⟨kvs, hk⟩
        · obtain ⟨_, _, _, _, o, _, _, e, ex, _⟩ := I.hok p _ hk
          exact ⟨o, e, ex⟩
        · obtain ⟨_, _, _, _, o, _, _, e, ex, _⟩ := I.hok p _ hk
          exact ⟨o, e, ex⟩
      obtain ⟨o, e, ex⟩ := z
      refine ⟨⟨o, e, ex.1⟩, fun a e2 => ?_⟩
      cases e2
      exact ⟨o, e, ex.2.1⟩
    · obtain ⟨o, _, _, _, e, ex, _⟩ := I.hok p _ hk
      refine ⟨⟨o, e, ex.1⟩, fun a e2 => ?_⟩
      cases e2
      exact ⟨o, e, ex.2.1⟩
  | _ => exact False.elim ty
def tBM0 (K : PySem.W.Frag) (T : String) (r : V → List V → Hp → VK → Prop) (to : TE) : TE := fun σ H Q => to σ H fun x H1 => tyV K T x H1 ∧ r x [] H1 Q
def tBM (K : PySem.W.Frag) (T : String) (r : V → List V → Hp → VK → Prop) (to : TE) (t : TA) : TE := fun σ H Q => to σ H fun x H1 => tyV K T x H1 ∧ t σ H1 fun xs H2 => r x xs H2 Q
variable {o e : Expr} {es : List Expr} {to : TE} {t : TA} {name : Str} {apos cpos : Pos} {T id : String} {r : V → List V → Hp → VK → Prop}
theorem pe_bm0 (pa : PlainAttrs T) (slot : Slot T name id) (hty : typeOf (.builtin id) = pure (.type "method_descriptor")) (hm : MtR X id r) (ho : PE X o to)
    (hbase : attributeBase o name X.env (eval o X.env) = eval o X.env := by rfl) (hline : (apos.endLine == cpos.line) = true := by rfl) : PE X (.Call (.Attribute o name apos) [] [] cpos) (tBM0 X.K T r to) := by
  intro pins s σ H Q I h
  refine wpAny_Call_method0_late hbase hline (thn (ho pins s σ H _ I h) fun v s1 ⟨x, H1, I1, r1, ty, q1⟩ => ?_)
  obtain ⟨h1, h2⟩ := tyV_is I1 r1 ty
  exact ⟨T, id, pa, slot, hty, h1, h2, Calls.callWith_builtin rfl (PySem.evalArgs_none (hm pins s1 σ H1 x [] v [] Q I1 r1 .nil q1))⟩
theorem pe_bm (pa : PlainAttrs T) (slot : Slot T name id) (hty : typeOf (.builtin id) = pure (.type "method_descriptor")) (hm : MtR X id r) (ho : PE X o to) (ha : PA X (e :: es) t)
    (hbase : attributeBase o name X.env (eval o X.env) = eval o X.env := by rfl)
    (hfew : ((backTo cpos (starEach (e :: es) X.env)).all (fun x => !x.1) && (backToKw cpos (keywordEach [] X.env)).all (fun x => x.1.isSome)
      && decide ((e :: es).length + ([] : List Keyword).length + (if ([] : List Keyword).isEmpty then 0 else 1) < 30)) = true := by rfl)
    (hline : (apos.endLine == cpos.line) = true := by rfl) (hs : starEach (e :: es) X.env = (false, eval e X.env) :: starEach es X.env := by rfl) (hplain : (backTo cpos (starEach es X.env)).any (·.1) = false := by rfl) :
    PE X (.Call (.Attribute o name apos) (e :: es) [] cpos) (tBM X.K T r to t) := by
  intro pins s σ H Q I h
  refine wpAny_Call_method_late hbase hfew hline rfl (thn (ho pins s σ H _ I h) fun v s1 ⟨x, H1, I1, r1, ty, q1⟩ => ?_)
  obtain ⟨h1, h2⟩ := tyV_is I1 r1 ty
  refine ⟨T, id, pa, slot, hty, h1, h2, ?_⟩
  have hA := ha cpos pins s1 σ H1 _ I1 q1
  rw [hs] at hA ⊢
  refine Calls.callWith_builtin (by show (false || (backTo cpos (starEach es X.env)).any (·.1)) = false; rw [hplain] <;> rfl) (Calls.evalArgs_plain ?_)
  exact thn hA fun us s2 ⟨vs, H2, I2, r2, q2⟩ => hm pins s2 σ H2 x vs v us Q I2 r1 r2 q2
/- xs.append(e), list.index on a module's tuple .. are MtR facts of 06m -/
end
end L2

namespace L2
open PySem PySem.Spec PyProof.Rows

def MtM (X : Cx) (id : String) (r : V → List V → Hp → VK → Prop) : Prop :=
  ∀ (pins : List (Addr × Obj)) (s : Shared) (σ : St) (H : Hp) (x : V) (xs : List V) (v : Value) (us : List Value) (Q : VK), Inv X pins σ H s → RelV x v → Vals xs us → r x xs H Q →
    wpAny (model X.prog X.w) X.A (call (.builtin id) (v :: us)) (EP X pins σ Q) X.xe s

/-! ### lists of values -/
theorem Vals.one : ∀ {x : V} {us : List Value}, Vals [x] us → ∃ u, us = [u] ∧ RelV x u
  | _, _, .cons r .nil => ⟨_, rfl, r⟩
theorem Vals.two : ∀ {x y : V} {us : List Value}, Vals [x, y] us → ∃ u v, us = [u, v] ∧ RelV x u ∧ RelV y v
  | _, _, _, .cons r (.cons q .nil) => ⟨_, _, rfl, r, q⟩
theorem Vals.zero : ∀ {us : List Value}, Vals [] us → us = []
  | _, .nil => rfl
theorem Vals.dropLast {xs : List V} {us : List Value} (h : Vals xs us) : Vals xs.dropLast us.dropLast := by
  induction h with
  | nil => exact .nil
  | cons r t ih =>
    cases t with
    | nil => exact .nil
    | cons q t' => exact .cons r ih
theorem Vals.eraseIdx : ∀ {xs : List V} {us : List Value} (i : Nat), Vals xs us → Vals (xs.eraseIdx i) (us.eraseIdx i)
  | _, _, _, .nil => .nil
  | _, _, 0, .cons _ t => t
  | _, _, i + 1, .cons r t => .cons r (Vals.eraseIdx i t)
theorem Vals.reverse {xs : List V} {us : List Value} (h : Vals xs us) : Vals xs.reverse us.reverse := by
  induction h with
  | nil => exact .nil
  | cons r t ih => rw [List.reverse_cons, List.reverse_cons]; exact Vals.append ih (.cons r .nil)
theorem Vals.rep {xs : List V} {us : List Value} (h : Vals xs us) : ∀ k : Nat, Vals (List.replicate k xs).flatten (List.replicate k us).flatten
  | 0 => .nil
  | k + 1 => by
    rw [List.replicate_succ, List.replicate_succ, List.flatten_cons, List.flatten_cons]
    exact Vals.append h (Vals.rep h k)
theorem erase_last {α : Type} (l : List α) : l.eraseIdx (l.length - 1) = l.dropLast := by
  induction l with
  | nil => rfl
  | cons a r ih =>
    cases r with
    | nil => rfl
    | cons b r =>
      have e : (a :: b :: r).length - 1 = ((b :: r).length - 1) + 1 := by
        have h1 : (a :: b :: r).length = r.length + 2 := rfl
        have h2 : (b :: r).length = r.length + 1 := rfl
        omega
      rw [e, List.eraseIdx_cons_succ, ih]
      all_goals rfl
theorem len_erase {α : Type} : ∀ (l : List α) (i : Nat), (l.eraseIdx i).length ≤ l.length
  | [], _ => Nat.le_refl _
  | _ :: _, 0 => Nat.le_succ _
  | _ :: r, i + 1 => Nat.succ_le_succ (len_erase r i)
theorem foldl_rep (its : List Value) : ∀ (k : Nat) (acc : List Value),
    List.foldl (fun x1 x2 => x1 ++ x2) acc.toArray (List.replicate k its.toArray) = (acc ++ (List.replicate k its).flatten).toArray
  | 0, acc => by simp
  | k + 1, acc => by
    have e : acc.toArray ++ its.toArray = (acc ++ its).toArray := by simp
    have e2 : (acc ++ its) ++ (List.replicate k its).flatten = acc ++ (List.replicate (k + 1) its).flatten := by
      rw [List.replicate_succ, List.flatten_cons, List.append_assoc]
    rw [← e2, ← foldl_rep its k (acc ++ its), ← e, List.replicate_succ, List.foldl_cons]

section
variable {X : Cx} {pins : List (Addr × Obj)} {σ : St} {H : Hp} {s : Shared} {l b : Addr} {xs ys zs : List V}

/-! ### the two steps: a tracked list is rewritten, a new list is laid -/
theorem Inv.lset {its its' : List Value} {n : Nat} {f : Array Value → Array Value} {t' : Nat} (I : Inv X pins σ H s) (hH : H l = some (.lst xs))
    (e : s.heap.get? l = some { cls := .type "list", data := .seq its.toArray n }) (hf : f its.toArray = its'.toArray) (hv : Vals ys its') (hz : ys.length ≤ sizeLine) :
    Inv X pins σ (upd H l (.lst ys)) { s with heap := s.heap.update l (Obj.mapSeq f), toks := t' } := by
  have q := PySem.IsL.update e f
  rw [hf] at q
  refine I.write (x := l) (e := l) (by rw [hH]; exact trivial) (.inl rfl) (fun b' u hb hu => (Heap.get?_update_other s.heap (Obj.mapSeq f) (Ne.symm hb)).trans hu) ⟨_, q⟩ ?_
  exact ⟨hz, its', _, hv, q⟩
theorem Inv.lnew {its : List Value} {t' : Nat} (I : Inv X pins σ H s) (hv : Vals ys its) (hz : ys.length ≤ sizeLine) :
    Inv X pins σ (upd H s.heap.objs.size (.lst ys)) { s with heap := s.heap.push { cls := .type "list", data := .seq its.toArray }, toks := t' } :=
  I.laid (fun _ _ q => Heap.get?_push_of_some _ q) (Nat.le_refl _) ⟨hz, its, 0, hv, Heap.get?_push_size _ rfl⟩
theorem Inv.fresh (I : Inv X pins σ H s) : H s.heap.objs.size = none := I.hok.fresh (Nat.le_refl _)
theorem Inv.lstM (I : Inv X pins σ H s) (hH : H l = some (.lst xs)) : xs.length ≤ sizeLine ∧ ∃ (its : List Value) (n : Nat), Vals xs its ∧ xs.length = its.length ∧ s.heap.get? l = some { cls := .type "list", data := .seq its.toArray n } := by
  obtain ⟨z, its, n, r, e⟩ := I.hok l _ hH
  exact ⟨z, its, n, r, r.length, e⟩

theorem notLongL {n : Nat} (h : n ≤ sizeLine) : Builtin.List.listTooLong n = false := by
  unfold Builtin.List.listTooLong
  exact decide_eq_false (by omega)
end

section
variable {X : Cx}

/-! ### methods -/
def rAppend : V → List V → Hp → VK → Prop := fun x vs H Q => ∃ l xs y, x = .ref l ∧ vs = [y] ∧ H l = some (.lst xs) ∧ xs.length < sizeLine ∧ Q .non (upd H l (.lst (xs ++ [y])))
theorem mt_append : MtM X "list.append" rAppend := by
  intro pins s σ H x vs v us Q I rx rv h
  obtain ⟨l, xs, y, rfl, rfl, hH, hz, q⟩ := h
  cases rx
  obtain ⟨u, rfl, ru⟩ := rv.one
  obtain ⟨z, its, n, r, hl, e⟩ := I.lstM hH
  refine call_meets F.slot_list_append ⟨_, e, rfl⟩ F.entry_list_append (F.args_list_append_2 _ _) (PySem.list_append l its.toArray n u (by rw [List.size_toArray]; omega)) ⟨e, ?_⟩
  refine ⟨.non, _, I.lset (its' := its ++ [u]) hH e (by simp) (r.append (.cons ru .nil)) ?_, rfl, q⟩
  rw [List.length_append, List.length_singleton]
  omega

def rExtend : V → List V → Hp → VK → Prop := fun x vs H Q => ∃ l b xs zs, x = .ref l ∧ vs = [.ref b] ∧ H l = some (.lst xs) ∧ H b = some (.lst zs) ∧ xs.length + zs.length ≤ sizeLine ∧ Q .non (upd H l (.lst (xs ++ zs)))
theorem mt_extend : MtM X "list.extend" rExtend := by
  intro pins s σ H x vs v us Q I rx rv h
  obtain ⟨l, b, xs, zs, rfl, rfl, hH, hB, hz, q⟩ := h
  cases rx
  obtain ⟨u, rfl, ru⟩ := rv.one
  cases ru
  obtain ⟨z, its, n, r, hl, e⟩ := I.lstM hH
  obtain ⟨z2, its2, n2, r2, hl2, e2⟩ := I.lstM hB
  have hsz : its.toArray.size + its2.toArray.size ≤ sizeLine := by rw [List.size_toArray, List.size_toArray]; omega
  have hlong : ¬ (!its.toArray.isEmpty && Builtin.List.listTooLong (its.toArray.size + its2.toArray.size)) = true := by
    rw [notLongL hsz, Bool.and_false]
    exact Bool.false_ne_true
  refine call_meets F.slot_list_extend ⟨_, e, rfl⟩ F.entry_list_extend (F.args_list_extend_2 _ _)
    (AutoSeq1.list_extend_list_list_0 l its.toArray n b its2.toArray n2 hlong (by rw [List.size_toArray]; omega) (by omega)) ⟨e, e2, ?_⟩
  refine ⟨.non, _, I.lset (its' := its ++ its2) hH e (by simp) (r.append r2) ?_, rfl, q⟩
  rw [List.length_append]
  omega

def rPop : V → List V → Hp → VK → Prop := fun x vs H Q => ∃ l xs y, x = .ref l ∧ vs = [] ∧ H l = some (.lst xs) ∧ xs[xs.length - 1]? = some y ∧ Q y (upd H l (.lst xs.dropLast))
theorem mt_pop : MtM X "list.pop" rPop := by
  intro pins s σ H x vs v us Q I rx rv h
  obtain ⟨l, xs, y, rfl, rfl, hH, hy, q⟩ := h
  cases rx
  have hus := rv.zero
  subst hus
  obtain ⟨z, its, n, r, hl, e⟩ := I.lstM hH
  obtain ⟨u, hu, ru⟩ := r.get hy
  have hy' : its.toArray[its.toArray.size - 1]? = some u := by
    show its.toArray[its.length - 1]? = some u
    rw [← Array.getElem?_toList, ← hl]
    exact hu
  refine call_meets F.slot_list_pop ⟨_, e, rfl⟩ F.entry_list_pop (F.args_list_pop_1 _) (MeetsSeq.list_pop_last l its.toArray n u hy' (by rw [List.size_toArray]; omega)) ⟨e, ?_⟩
  refine ⟨y, _, I.lset (its' := its.dropLast) hH e ?_ r.dropLast ?_, ru, q⟩
  · show its.toArray.eraseIdxIfInBounds (its.toArray.size - 1) = its.dropLast.toArray
    rw [List.size_toArray, List.eraseIdxIfInBounds_toArray, erase_last]
  · rw [List.length_dropLast]
    omega

def rPopAt : V → List V → Hp → VK → Prop := fun x vs H Q => ∃ l xs i k y, x = .ref l ∧ vs = [.int i] ∧ H l = some (.lst xs) ∧ -(2 ^ 63) ≤ i ∧ i < 2 ^ 63 ∧ seqIndex? i xs.length = some k ∧ xs[k]? = some y ∧ Q y (upd H l (.lst (xs.eraseIdx k)))
theorem mt_popAt : MtM X "list.pop" rPopAt := by
  intro pins s σ H x vs v us Q I rx rv h
  obtain ⟨l, xs, i, k, y, rfl, rfl, hH, h1, h2, hk, hy, q⟩ := h
  cases rx
  obtain ⟨u, rfl, ru⟩ := rv.one
  obtain ⟨t, rfl⟩ := ru
  obtain ⟨z, its, n, r, hl, e⟩ := I.lstM hH
  obtain ⟨w, hw, rw'⟩ := r.get hy
  refine call_meets F.slot_list_pop ⟨_, e, rfl⟩ F.entry_list_pop (F.args_list_pop_2 _ _)
    (MeetsSeq.list_pop_at l its.toArray n i t k w (fitsIndex_both h1 h2) (by rw [List.size_toArray, ← hl]; exact hk) (by rw [← Array.getElem?_toList]; exact hw) (by rw [List.size_toArray]; omega)) ⟨e, ?_⟩
  refine ⟨y, _, I.lset (its' := its.eraseIdx k) hH e ?_ (r.eraseIdx k) ?_, rw', q⟩
  · show its.toArray.eraseIdxIfInBounds k = (its.eraseIdx k).toArray
    rw [List.eraseIdxIfInBounds_toArray]
  · have := len_erase xs k
    omega

def rReverse : V → List V → Hp → VK → Prop := fun x vs H Q => ∃ l xs, x = .ref l ∧ vs = [] ∧ H l = some (.lst xs) ∧ Q .non (upd H l (.lst xs.reverse))
theorem mt_reverse : MtM X "list.reverse" rReverse := by
  intro pins s σ H x vs v us Q I rx rv h
  obtain ⟨l, xs, rfl, rfl, hH, q⟩ := h
  cases rx
  have hus := rv.zero
  subst hus
  obtain ⟨z, its, n, r, hl, e⟩ := I.lstM hH
  refine call_meets F.slot_list_reverse ⟨_, e, rfl⟩ F.entry_list_reverse (F.args_list_reverse_1 _) (AutoSeq1.list_reverse_list_0 l its.toArray n (by rw [List.size_toArray]; omega)) ⟨e, ?_⟩
  refine ⟨.non, _, I.lset (its' := its.reverse) hH e (by simp) r.reverse ?_, rfl, q⟩
  rw [List.length_reverse]
  omega

def rClear : V → List V → Hp → VK → Prop := fun x vs H Q => ∃ l xs, x = .ref l ∧ vs = [] ∧ H l = some (.lst xs) ∧ Q .non (upd H l (.lst []))
theorem mt_clear : MtM X "list.clear" rClear := by
  intro pins s σ H x vs v us Q I rx rv h
  obtain ⟨l, xs, rfl, rfl, hH, q⟩ := h
  cases rx
  have hus := rv.zero
  subst hus
  obtain ⟨z, its, n, r, hl, e⟩ := I.lstM hH
  refine call_meets F.slot_list_clear ⟨_, e, rfl⟩ F.entry_list_clear (F.args_list_clear_1 _) (AutoSeq1.list_clear_list_0 l its.toArray n (by rw [List.size_toArray]; omega)) ⟨e, ?_⟩
  exact ⟨.non, _, I.lset (its' := []) (ys := []) hH e rfl .nil (Nat.zero_le _), rfl, q⟩

/-! ### list + list, list += list, list * int -/
def rCat : R2 := fun x y H Q => ∃ l b xs zs, x = .ref l ∧ y = .ref b ∧ H l = some (.lst xs) ∧ H b = some (.lst zs) ∧ xs.length + zs.length ≤ sizeLine ∧ ∀ p, H p = none → Q (.ref p) (upd H p (.lst (xs ++ zs)))
theorem op_cat : OpR X (binaryOp .Add) rCat := by
  intro pins s σ H x y v u Q I rx ry h
  obtain ⟨l, b, xs, zs, rfl, rfl, hH, hB, hz, q⟩ := h
  cases rx
  cases ry
  obtain ⟨z, its, n, r, hl, e⟩ := I.lstM hH
  obtain ⟨z2, its2, n2, r2, hl2, e2⟩ := I.lstM hB
  refine PySem.P.add_list e e2 ?_ (by rw [List.size_toArray, List.size_toArray]; omega)
  have ea : its.toArray ++ its2.toArray = (its ++ its2).toArray := by simp
  rw [ea]
  exact ⟨.ref _, _, I.lnew (t' := s.toks) (r.append r2) (by rw [List.length_append]; omega), rfl, q _ I.fresh⟩
/-- a list times an int (a negative one is nothing) -/
def rRep : R2 := fun x y H Q => ∃ l k xs, x = .ref l ∧ y = .int k ∧ H l = some (.lst xs) ∧ -(2 ^ 63) ≤ k ∧ k < 2 ^ 63 ∧ xs.length * k.toNat ≤ sizeLine ∧
  ∀ p, H p = none → Q (.ref p) (upd H p (.lst (List.replicate k.toNat xs).flatten))
theorem len_rep {α : Type} (xs : List α) (k : Nat) : (List.replicate k xs).flatten.length = k * xs.length := by
  induction k with
  | zero => simp
  | succ k ih => rw [List.replicate_succ, List.flatten_cons, List.length_append, ih, Nat.succ_mul, Nat.add_comm]
theorem op_rep : OpR X (binaryOp .Mult) rRep := by
  intro pins s σ H x y v u Q I rx ry h
  obtain ⟨l, k, xs, rfl, rfl, hH, h1, h2, hz, q⟩ := h
  cases rx
  obtain ⟨t, rfl⟩ := ry
  obtain ⟨z, its, n, r, hl, e⟩ := I.lstM hH
  have hlen : its.toArray.size * k.toNat ≤ sizeLine := by rw [List.size_toArray, ← hl]; exact hz
  have hcap : ¬ its.toArray.size * k.toNat > (2 ^ 63 - 1) / 8 := by
    have : (sizeLine : Nat) ≤ (2 ^ 63 - 1) / 8 := by decide
    omega
  have hfit : ¬ (!Builtin.List.listFitsIndex k) = true := by
    rw [fitsIndex_both h1 h2]
    exact Bool.false_ne_true
  have hlong : ¬ Builtin.List.listTooLong (its.toArray.size * k.toNat) = true := by
    rw [notLongL hlen]
    exact Bool.false_ne_true
  have hnew : List.foldl (fun x1 x2 => x1 ++ x2) #[] (List.replicate (if its.toArray.isEmpty = true then 0 else k.toNat) its.toArray) = (List.replicate k.toNat its).flatten.toArray := by
    have f0 : ∀ m : Nat, List.foldl (fun x1 x2 => x1 ++ x2) #[] (List.replicate m its.toArray) = (List.replicate m its).flatten.toArray := fun m => by
      have := foldl_rep its m []
      rw [List.nil_append] at this
      exact this
    rw [f0]
    cases its with
    | nil => simp
    | cons a r' => rw [if_neg (by simp)]
  refine wpAny_binaryOp_repeat_ref (T := "list") (U := "int") (by decide) ⟨_, e, rfl⟩ (fun s' => typeIs_int s' k t) noFill_list_mul F.fills_int_mul F.slot_int_rmul repeat_list F.slot_int_index.lookup
    (call_meets F.slot_int_rmul (typeIs_int s k t) F.entry_int_rmul (F.args_int_rmul_2 _ _) (int___rmul___int_list k t l its.toArray n)
      ⟨e, rfl, ⟨_, e, rfl⟩, call_meets F.slot_list_mul ⟨_, e, rfl⟩ F.entry_list_mul (F.args_list_mul_2 _ _) (AutoListH.list___mul___list_int_3 l its.toArray n k t hfit hcap hlong) ⟨e, ?_⟩⟩)
  rw [hnew]
  exact ⟨.ref _, _, I.lnew (t' := s.toks) (r.rep k.toNat) (by rw [len_rep, Nat.mul_comm]; exact hz), rfl, q _ I.fresh⟩

/-! ### del xs[i] -/
theorem del_list {pins : List (Addr × Obj)} {s : Shared} {σ : St} {H : Hp} {l : Addr} {xs : List V} {i : Int} {t : Tok} {k : Nat} {Q : Unit → Shared → Prop} (I : Inv X pins σ H s) (hH : H l = some (.lst xs))
    (h1 : -(2 ^ 63) ≤ i) (h2 : i < 2 ^ 63) (hk : seqIndex? i xs.length = some k) (h : ∀ s', Inv X pins σ (upd H l (.lst (xs.eraseIdx k))) s' → Q () s') :
    wpAny (model X.prog X.w) X.A (delItem (.ref l) (.int i t)) Q X.xe s := by
  obtain ⟨z, its, n, r, hl, e⟩ := I.lstM hH
  refine PySem.P.delItem_list (k := k) e (fitsIndex_both h1 h2) (by rw [List.size_toArray, ← hl]; exact hk) (h _ ?_) (by rw [List.size_toArray]; omega)
  refine I.lset (its' := its.eraseIdx k) (t' := s.toks) hH e ?_ (r.eraseIdx k) ?_
  · show its.toArray.eraseIdxIfInBounds k = (its.eraseIdx k).toArray
    rw [List.eraseIdxIfInBounds_toArray]
  · have := len_erase xs k
    omega
end

/-! ### xs[a:b] = ys -/
section
variable {prog : Program} {w : World} {A : Around} {E : Value → Shared → Prop} {s : Shared}
theorem splice_eq (its its2 : List Value) (a c : Nat) : its.toArray.extract 0 a ++ its2.toArray ++ its.toArray.extract c its.toArray.size = (its.take a ++ its2 ++ its.drop c).toArray := by
  apply Array.toList_inj.mp
  first
    | (simp
       exact List.take_of_length_le (by simp))
    | simp [List.take_of_length_le]
    | simp
theorem bounds_run {a c n : Nat} (hac : a ≤ c) (hc : c ≤ n) : sliceBounds (some (a : Int)) (some (c : Int)) none n = ((a : Int), (c : Int), 1) := by
  simp only [sliceBounds, Option.getD_none]
  have h1 : ¬ ((a : Int) < 0) := by omega
  have h2 : ¬ ((c : Int) < 0) := by omega
  simp only [h1, h2, if_false, show (1 : Int) > 0 by decide, if_true]
  congr 1
  · omega
  · congr 1; omega
set_option maxRecDepth 100000 in
/-- list.__setitem__ with a slice of step one and another list -/
theorem setItem_slice {l b sl : Addr} {items new : Array Value} {n n2 : Nat} {vl vu : Value} {a c : Nat} {Q : Unit → Shared → Prop}
    (e : s.heap.get? l = some { cls := .type "list", data := .seq items n }) (e2 : s.heap.get? b = some { cls := .type "list", data := .seq new n2 }) (hne : l ≠ b)
    (hs : s.heap.IsSliceOf sl vl vu .none) (pl : IsPart vl (some (a : Int))) (pu : IsPart vu (some (c : Int))) (hac : a ≤ c) (hc : c ≤ items.size)
    (hsz : items.size + new.size ≤ sizeLine) (h : Q () { s with heap := s.heap.update l (Obj.mapSeq fun xs => xs.extract 0 a ++ new ++ xs.extract c xs.size) }) :
    wpAny (model prog w) A (setItem (.ref l) (.ref sl) (.ref b)) Q E s := by
  have hl : s.heap.IsList l items := PySem.IsL.isList e
  have hb : s.heap.IsList b new := PySem.IsL.isList e2
  obtain ⟨os, hos, hcs, hds⟩ := id hs
  have hTs : s.TypeIs (.ref sl) "slice" := ⟨os, hos, hcs⟩
  have hstep : ¬ ((rawPart none == rawInt 0) = true) := Bool.false_ne_true
  have hsame : Builtin.List.listSameRef (.ref l) (.ref b) = false := by
    unfold Builtin.List.listSameRef
    exact beq_eq_false_iff_ne.mpr hne
  have hmax : (max (a : Int) (c : Int)).toNat = c := by omega
  have hz' : ((fun xs : Array Value => xs.extract 0 a ++ new ++ xs.extract c xs.size) items).size ≤ sizeLine + 1 := by
    simp only [Array.size_append, Array.size_extract]
    omega
  unfold setItem
  try with_reducible refine wpAny_holding ?_
  first | refine wpAny_bind (wpAny_pure ?_) | skip
  refine wpAny_bind (wpAny_sequenceKey hl.typeIs (by decide) ?_)
  refine wpAny_bind (wpAny_callSpecial?_slot (name := Str.ofString "__setitem__") hl.typeIs slot_list_setitem
    (wpAny_call_entry slot_list_setitem hl.typeIs entry_list_setitem ?_ (args_list_setitem _ _ _)))
  show wpAny _ _ (Builtin.List.listSubscript? (.ref sl) >>= _) _ _ s
  refine wpAny_bind ?_
  unfold Builtin.List.listSubscript?
  refine wpAny_bind (wpAny_specialOf hTs slice_no_index ?_)
  simp only [Option.isNone_none, if_true]
  refine wpAny_pure ?_
  show wpAny _ _ (typeOf (.ref sl) >>= _) _ _ s
  refine wpAny_bind (wpAny_typeOf hTs ?_)
  first
    | rw [if_neg (by decide)]
    | refine PySem.W.KFB.if_not (by decide) ?_
  rw [listSliceParts_eq]
  refine wpAny_bind (wpAny_bind (wpAny_field hos hds (x := .none) rfl (wpAny_bind (wpAny_listPart .none ?_))))
  rw [if_neg hstep]
  refine wpAny_bind (wpAny_field hos hds (x := vl) rfl (wpAny_bind (wpAny_listPart pl ?_)))
  refine wpAny_bind (wpAny_field hos hds (x := vu) rfl (wpAny_bind (wpAny_listPart pu (wpAny_pure ?_))))
  first
    | simp only [hsame, Bool.false_eq_true, if_false]
    | refine PySem.W.KFB.if_not hsame ?_
    | (dsimp only
       rw [if_neg (by rw [hsame]; exact Bool.false_ne_true)])
  refine wpAny_bind (m := Builtin.List.listAllItems (.ref b) "must assign iterable to extended slice") ?_
  unfold Builtin.List.listAllItems
  refine wpAny_bind (wpAny_typeOf hb.typeIs ?_)
  first
    | refine PySem.W.KFB.if_so (by decide) ?_
    | rw [if_pos (by decide)]
    | simp only [beq_self_eq_true, Bool.true_or, if_true]
  unfold Builtin.List.listItems
  refine wpAny_bind (wpAny_seqItems e2 rfl (wpAny_pure ?_))
  refine wpAny_bind (wpAny_bind (wpAny_seqItems e rfl (wpAny_pure ?_)))
  refine wpAny_bind (wpAny_of_eq ((sliceIndices_raw (some (a : Int)) (some (c : Int)) none items.size (by simp)).trans (congrArg (pure : Int × Int × Int → Sem (Int × Int × Int)) (bounds_run hac hc))) ?_)
  show wpAny _ _ (if ((1 : Int) == 1) = true then _ else _) _ _ s
  rw [if_pos (by decide)]
  refine wpAny_bind (wpAny_rule ?_)
  first
    | simp only [notLongL hsz, Bool.false_eq_true, if_false]
    | refine PySem.W.KFB.if_not (notLongL hsz) ?_
  first | refine wpAny_bind (wpAny_pure ?_) | skip
  show wpAny _ _ (updateSeq l (fun xs => xs.extract 0 ((a : Int)).toNat ++ new ++ xs.extract (max (a : Int) (c : Int)).toNat xs.size) >>= _) _ _ s
  rw [hmax, Int.toNat_natCast]
  refine wpAny_bind (wpAny_updateSeq (hz := Nat.le_trans (Nat.le_add_right _ _) hsz) (_hz' := hz') e rfl ?_)
  refine wpAny_bind (wpAny_letGo ?_)
  first
    | exact wpAny_bind (wpAny_pure (wpAny_pure ⟨.none, rfl, wpAny_pure h⟩))
    | exact wpAny_pure ⟨.none, rfl, wpAny_pure h⟩
end

section
variable {X : Cx}
/-- xs[a:c] = ys of another list, at the value level: sl is the slice object that was just made -/
theorem set_slice {pins : List (Addr × Obj)} {s : Shared} {σ : St} {H : Hp} {l b sl : Addr} {xs ys : List V} {a c : Int} {vl vu : Value} {Q : Unit → Shared → Prop} (I : Inv X pins σ H s)
    (hH : H l = some (.lst xs)) (hB : H b = some (.lst ys)) (hne : l ≠ b) (hs : s.heap.IsSliceOf sl vl vu .none) (ra : RelV (.int a) vl) (rc : RelV (.int c) vu) (h0 : 0 ≤ a) (hac : a ≤ c) (hc : c ≤ xs.length)
    (hz : xs.length + ys.length ≤ sizeLine) (h : ∀ s', Inv X pins σ (upd H l (.lst (xs.take a.toNat ++ ys ++ xs.drop c.toNat))) s' → Q () s') :
    wpAny (model X.prog X.w) X.A (setItem (.ref l) (.ref sl) (.ref b)) Q X.xe s := by
  obtain ⟨ta, rfl⟩ := ra
  obtain ⟨tc, rfl⟩ := rc
  obtain ⟨z, its, n, r, hl, e⟩ := I.lstM hH
  obtain ⟨z2, its2, n2, r2, hl2, e2⟩ := I.lstM hB
  obtain ⟨a', rfl⟩ := Int.eq_ofNat_of_zero_le h0
  obtain ⟨c', rfl⟩ := Int.eq_ofNat_of_zero_le (Int.le_trans h0 hac)
  simp only [Int.toNat_natCast] at h
  refine setItem_slice (a := a') (c := c') e e2 hne hs (.int _ _) (.int _ _) (by omega) (by rw [List.size_toArray]; omega) (by rw [List.size_toArray, List.size_toArray]; omega) (h _ ?_)
  refine I.lset (its' := its.take a' ++ its2 ++ its.drop c') (t' := s.toks) hH e ?_ (Vals.append (Vals.append (r.take _) r2) (r.drop _)) ?_
  · exact splice_eq its its2 a' c'
  · rw [List.length_append, List.length_append, List.length_take, List.length_drop]
    omega
end
end L2

namespace Att
open PySem PySem.W PySem.Calls PyProof.Rows

/-! ### the script -/
theorem ints_of_wellAll {P : Params} {h : Heap} : ∀ (ns : List Int) (vs : List Value), WellAll P h vs (ns.map WData.int) → IntsAre vs ns := by
  intro ns
  induction ns with
  | nil =>
    intro vs w
    rw [List.map_nil] at w
    cases w
    exact .nil
  | cons n ns ih =>
    intro vs w
    rw [List.map_cons] at w
    cases w with
    | cons a b =>
      cases a
      exact .cons _ _ (ih _ b)

theorem script_of {l : OpenLaw} {n : Nat} (hn : l.most = some n) {P : Params} {h : Heap} {args : List WData} {vals : List Value}
    (hpre : l.row.toRowW.claim.pre args = true) (hwl : WellAll P h vals args) :
    ∃ a vs ns, vals = [Value.ref a] ∧ args = [WData.list (ns.map WData.int)] ∧ h.get? a = some { cls := .type "list", data := .seq vs.toArray } ∧ IntsAre vs ns ∧ ns.length ≤ n := by
  have hsh : WShape.hasAll [] args [.list .int] = true := (pre_splitW hpre).1
  have hc : l.pre.holds [] { args := args } = true := (pre_splitW hpre).2
  obtain ⟨d, r, rfl, h1, h2⟩ := hasAllW_cons hsh
  obtain rfl := hasAllW_nil h2
  obtain ⟨xs, rfl, h3⟩ := hasW_list h1
  obtain ⟨ns, rfl⟩ := items_int h3
  have hlen : ns.length ≤ n := by
    unfold OpenLaw.pre at hc
    have h4 : (WTm.not (.lt (.lit (.int (n : Int))) (.len (.arg 0)))).holds [] { args := [.list (ns.map .int)] } = true := by
      have h4 := (holds_andW hc).1
      rw [hn] at h4
      exact h4
    have h5 := condW_of h4 (w_not (w_lt w_lit (w_len_list (w_arg rfl))))
    rw [List.length_map] at h5
    refine Nat.le_of_not_lt fun q => ?_
    have q' : (n : Int) < ((ns.length : Nat) : Int) := by omega
    first
      | (rw [decide_eq_true q'] at h5; exact absurd h5 (by decide))
      | (simp at h5; omega)
  cases hwl with
  | cons w1 w2 =>
    cases w2
    cases w1 with
    | list ho hall => exact ⟨_, _, ns, rfl, rfl, ho, ints_of_wellAll ns _ hall, hlen⟩

theorem post_true (l : OpenLaw) (args : List WData) : l.row.toRowW.claim.post args (.bool true) args = true :=
  postW_of (r := l.row.toRowW) (X := (true == true))
    (show WShape.has [] (.bool true) .bool = true by first | rfl | decide | simp [WShape.has, WShape.arms, WShape.armsAll])
    (show (WTm.eq .res (.lit (.bool true))).value [] { args := args, res := some (.bool true), after := args } = some (.bool (true == true)) from w_eq_bool (w_res rfl) w_lit) rfl

/-! ### the attachment: holds_open's last premise (the goal 'hc' behind k_head) from a wpAny of the law's body -/
theorem attach {l : OpenLaw} {n : Nat} {q : Program} {loose : List Str} {XP : (Str → Option Value) → Heap → Prop} {YP : World → Heap → Prop} {d : DefRec} {x : Str}
    (hn : l.most = some n) (hdf : d.params.defaults = [])
    (hbind : ∀ pm cd doc v : Value, bindArgs (docDef d.name d.params d.body d.scope pm cd doc) ⟨[v], []⟩ = pure [(x, v)])
    (hx : d.scope.names.lookup x = some .local ∨ d.scope.names.lookup x = some .cell)
    (hk : d.scope.kind = .function) (hco : d.scope.isCoroutine = false) (hgen : d.scope.isGenerator = false)
    (body : ∀ (w : World) (s₀ s₁ s : Shared) (mg mb : Str → Option Value) (fa : Addr) (o : Obj) (pm cd doc : Value) (a : Addr) (vs : List Value) (ns : List Int),
      Ground q loose [] XP w s₀ mg mb s₁.heap → YP w s₁.heap →
      s₁.heap.get? fa = some o → o.data = .func (docDef d.name d.params d.body d.scope pm cd doc) → s₁.heap.CodeRec cd d.name → mg d.name = some (.ref fa) →
      s₁.heap.get? a = some { cls := .type "list", data := .seq vs.toArray } → IntsAre vs ns → ns.length ≤ n →
      s.gens = #[] → s.os = s₁.os →
      Fr s₁.heap s₁.heap.objs.size s.heap (bindL (envOfC d.name d.scope s₁.heap.objs.size fa cd).kindOf [(x, .ref a)] fun _ => none) →
      Cl s₁.heap.objs.size (cellsFrom (s₁.heap.objs.size + 1) d.scope.names []) s.heap (bindC (envOfC d.name d.scope s₁.heap.objs.size fa cd).kindOf [(x, .ref a)] fun _ => none) →
      wpAny (model l.prog w) (callerA.deeper (envOfC d.name d.scope s₁.heap.objs.size fa cd)) (execs d.body (envOfC d.name d.scope s₁.heap.objs.size fa cd))
        (fun f s' => f = .ret (.bool true) ∧ OldK s₁.heap s'.heap ∧ s'.os = s₁.os ∧ AllBare s'.gens) (fun _ _ => False) s) :
    WalkO q loose XP YP l.row.toRowW d [] (fun f vs => PySem.call f vs) := by
  intro w s₀ s₁ mg mb G Y fa o pm cd doc dV kV ho hd hcd hD hmg hg args vals as hpre hlay hrd hwl hlo
  obtain rfl : dV = .none := Dflts.none hD hdf
  obtain rfl : kV = .none := Dflts.noKw hD
  obtain ⟨a, vs, ns, rfl, rfl, hobj, hints, hlen⟩ := script_of hn hpre hwl
  refine enter_call ?_
  refine call_cells_ret (o := o) (by rw [depth_caller]; decide) ho (fd_plain hd) G.T.nolimit hcd (hbind pm cd doc (.ref a)) (fun y hy => ?_) (fun h₁ tk F X => ?_) hco hgen hk
  · obtain rfl : y = (x, Value.ref a) := List.mem_singleton.mp hy
    rcases hx with e | e
    · exact .inl e
    · exact .inr ⟨e, cellsFrom_some _ _ _ (.inl e)⟩
  · refine wpAny_mono (body w s₀ s₁ { s₁ with heap := h₁, toks := tk } mg mb fa o pm cd doc a vs ns G Y ho (fd_plain hd) hcd hmg hobj hints hlen hg rfl F X) (fun f s' hq => ?_) (fun _ _ hq => hq)
    obtain ⟨rfl, h2, h3, h4⟩ := hq
    exact ⟨.inl ⟨.bool true, .bool true, [], rfl, fun _ => rfl, .bool true, post_true l _, fun _ => ⟨List.Pairwise.nil, fun _ hm => (nomatch hm)⟩⟩, h2, h3, h4⟩

/-- the same from a codeAny of the CALL (for a layer whose function contracts speak of calls) -/
theorem attach_call {l : OpenLaw} {n : Nat} {q : Program} {loose : List Str} {XP : (Str → Option Value) → Heap → Prop} {YP : World → Heap → Prop} {d : DefRec}
    (hn : l.most = some n) (hdf : d.params.defaults = [])
    (call : ∀ (w : World) (s₀ s₁ : Shared) (mg mb : Str → Option Value) (fa : Addr) (o : Obj) (pm cd doc : Value) (a : Addr) (vs : List Value) (ns : List Int),
      Ground q loose [] XP w s₀ mg mb s₁.heap → YP w s₁.heap →
      s₁.heap.get? fa = some o → o.data = .func (docDef d.name d.params d.body d.scope pm cd doc) → s₁.heap.CodeRec cd d.name → mg d.name = some (.ref fa) →
      s₁.heap.get? a = some { cls := .type "list", data := .seq vs.toArray } → IntsAre vs ns → ns.length ≤ n → s₁.gens = #[] →
      codeAny (model l.prog w) callerA (.call (.ref fa) ⟨[.ref a], []⟩) (fun r s' => r = .ok (.ret (.bool true)) ∧ OldK s₁.heap s'.heap ∧ s'.os = s₁.os ∧ AllBare s'.gens) s₁) :
    WalkO q loose XP YP l.row.toRowW d [] (fun f vs => PySem.call f vs) := by
  intro w s₀ s₁ mg mb G Y fa o pm cd doc dV kV ho hd hcd hD hmg hg args vals as hpre hlay hrd hwl hlo
  obtain rfl : dV = .none := Dflts.none hD hdf
  obtain rfl : kV = .none := Dflts.noKw hD
  obtain ⟨a, vs, ns, rfl, rfl, hobj, hints, hlen⟩ := script_of hn hpre hwl
  refine enter_call (codeAny_mono (call w s₀ s₁ mg mb fa o pm cd doc a vs ns G Y ho (fd_plain hd) hcd hmg hobj hints hlen hg) fun r s' hq => ?_)
  obtain ⟨rfl, h2, h3, h4⟩ := hq
  exact ⟨.inl ⟨.bool true, .bool true, [], rfl, fun _ => rfl, .bool true, post_true l _, fun _ => ⟨List.Pairwise.nil, fun _ hm => (nomatch hm)⟩⟩, h2, h3, h4⟩

/-- the same where the top left finished generators (o_head chose holds_openN): nothing may have changed at all and no generator may be left -/
theorem attachN {l : OpenLaw} {n : Nat} {q : Program} {loose : List Str} {XP : (Str → Option Value) → Heap → Prop} {YP : World → Heap → Prop} {d : DefRec} {x : Str}
    (hn : l.most = some n) (hdf : d.params.defaults = [])
    (hbind : ∀ pm cd doc v : Value, bindArgs (docDef d.name d.params d.body d.scope pm cd doc) ⟨[v], []⟩ = pure [(x, v)])
    (hx : d.scope.names.lookup x = some .local ∨ d.scope.names.lookup x = some .cell)
    (hk : d.scope.kind = .function) (hco : d.scope.isCoroutine = false) (hgen : d.scope.isGenerator = false)
    (body : ∀ (w : World) (s₀ s₁ s : Shared) (mg mb : Str → Option Value) (fa : Addr) (o : Obj) (pm cd doc : Value) (a : Addr) (vs : List Value) (ns : List Int),
      Ground q loose [] XP w s₀ mg mb s₁.heap → YP w s₁.heap →
      s₁.heap.get? fa = some o → o.data = .func (docDef d.name d.params d.body d.scope pm cd doc) → s₁.heap.CodeRec cd d.name → mg d.name = some (.ref fa) →
      s₁.heap.get? a = some { cls := .type "list", data := .seq vs.toArray } → IntsAre vs ns → ns.length ≤ n →
      s.gens = #[] → s.os = s₁.os →
      Fr s₁.heap s₁.heap.objs.size s.heap (bindL (envOfC d.name d.scope s₁.heap.objs.size fa cd).kindOf [(x, .ref a)] fun _ => none) →
      Cl s₁.heap.objs.size (cellsFrom (s₁.heap.objs.size + 1) d.scope.names []) s.heap (bindC (envOfC d.name d.scope s₁.heap.objs.size fa cd).kindOf [(x, .ref a)] fun _ => none) →
      wpAny (model l.prog w) (callerA.deeper (envOfC d.name d.scope s₁.heap.objs.size fa cd)) (execs d.body (envOfC d.name d.scope s₁.heap.objs.size fa cd))
        (fun f s' => f = .ret (.bool true) ∧ (∀ b o, s₁.heap.get? b = some o → s'.heap.get? b = some o) ∧ s'.os = s₁.os ∧ s'.gens = #[]) (fun _ _ => False) s) :
    WalkN q loose XP YP l.row.toRowW d [] (fun f vs => PySem.call f vs) := by
  intro w s₀ s₁ mg mb G Y fa o pm cd doc dV kV ho hd hcd hD hmg hg args vals as hpre hlay hrd hwl hlo
  obtain rfl : dV = .none := Dflts.none hD hdf
  obtain rfl : kV = .none := Dflts.noKw hD
  obtain ⟨a, vs, ns, rfl, rfl, hobj, hints, hlen⟩ := script_of hn hpre hwl
  refine enter_callW ?_
  refine call_cells_ret (o := o) (by rw [depth_caller]; decide) ho (fd_plain hd) G.T.nolimit hcd (hbind pm cd doc (.ref a)) (fun y hy => ?_) (fun h₁ tk F X => ?_) hco hgen hk
  · obtain rfl : y = (x, Value.ref a) := List.mem_singleton.mp hy
    rcases hx with e | e
    · exact .inl e
    · exact .inr ⟨e, cellsFrom_some _ _ _ (.inl e)⟩
  · refine wpAny_mono (body w s₀ s₁ { s₁ with heap := h₁, toks := tk } mg mb fa o pm cd doc a vs ns G Y ho (fd_plain hd) hcd hmg hobj hints hlen hg rfl F X) (fun f s' hq => ?_) (fun _ _ hq => hq)
    obtain ⟨rfl, h2, h3, h4⟩ := hq
    exact ⟨.inl ⟨.bool true, .bool true, [], rfl, fun _ => rfl, .bool true, post_true l _, fun _ => ⟨List.Pairwise.nil, fun _ hm => (nomatch hm)⟩⟩, h2, h3, h4⟩

/-! ### rules over ANY heap (no ledger) from facts about the written part K: the library's own take a ledger (News) for what they write -/
section
variable {prog : Program} {w : World} {A : Around} {E : Value → Shared → Prop} {s : Shared} {K : Frag}

/-- a def of the module, or a method (qual 'C.m'), entered: the frame is the next address; cells behind it -/
theorem call_fn {R : Result → Shared → Prop} {name qual : Str} {params : Arguments} {body : List Stmt} {scope : Scope} {dV kV doc pm cdv ct oc : Value} {an od : Option Addr} {osl : Array (Option Value)} {f : Addr} {args : Args} {binds : List (Str × Value)}
    (X : K.In s.heap) (hlim : s.heap.NoLimit) (ho : K.lookup f = some ⟨oc, od, .func (fnOf name qual params body scope dV kV doc pm an cdv ct), osl⟩) (hcd : codeIn K cdv qual = true) (hroom : A.depth < recursionLimit)
    (hbind : BindsTo s (fnOf name qual params body scope dV kV doc pm an cdv ct) args binds)
    (hkind : (binds.all fun y => scope.names.lookup y.1 == some .local || scope.names.lookup y.1 == some .cell) = true)
    (h : ∀ s₁, InCallC s s.heap.objs.size (bindL (envOfC qual scope s.heap.objs.size f cdv).kindOf binds fun _ => none) (cellsFrom (s.heap.objs.size + 1) scope.names [])
        (bindC (envOfC qual scope s.heap.objs.size f cdv).kindOf binds fun _ => none) s₁ →
      wpAny (model prog w) (A.deeper (envOfC qual scope s.heap.objs.size f cdv)) (execs body (envOfC qual scope s.heap.objs.size f cdv))
        (fun fl s' => R (.ok (.ret (match fl with | .ret v => v | _ => .none))) s')
        (fun e s' => wpAny (model prog w) (A.deeper (envOfC qual scope s.heap.objs.size f cdv)) (leaving (envOfC qual scope s.heap.objs.size f cdv) e) (fun _ s'' => R (.error e) s'') (fun e' s'' => R (.error e') s'') s') s₁)
    (hco : scope.isCoroutine = false) (hgen : scope.isGenerator = false) (hk : scope.kind = .function) : codeAny (model prog w) A (.call (.ref f) args) R s := by
  refine codeAny_call_function hroom (X _ _ ho) rfl hco hgen rfl (codeRec_of X hcd) (hbind _ _ _ _ ?_)
  refine wpAny_newFunctionEnv_cells hk (kindsX hkind _) fun env he s₁ x => ?_
  subst he
  exact ⟨hlim.keeps x.toInCall.keep, codeAny_func (h s₁ x)⟩

/-- C(..): dict at size, instance at size + 1, then __init__ -/
theorem make_obj {R : Result → Shared → Prop} {C fI : Addr} {rest : List Value} {kw : List (Str × Value)}
    (X : K.In s.heap) (hm : makesIn K C = true) (hi : findIn K (.ref C) "__init__" = some (some (.ref fI))) (hf : isFn K (.ref fI) = true)
    (h : codeAny (model prog w) (A.under (.builtin "type.__call__" ⟨.ref C :: rest, kw⟩)) (.call (.ref fI) ⟨.ref (s.heap.objs.size + 1) :: rest, kw⟩) (InitBack (s.heap.objs.size + 1) R)
      { s with heap := (s.heap.push emptyDict).push (instObj C s.heap.objs.size) }) : codeAny (model prog w) A (.call (.ref C) ⟨rest, kw⟩) R s := by
  obtain ⟨hh, g, d, t, os⟩ := s
  exact make_core (makes_of X hm) (looks_findIn X hi) (fun self => bind_fn X self (beq_iff_eq.mp hf)) (.inl rfl) h

/-- x.name where the instance's dict holds the name and the class does not -/
theorem get_field {x C : Addr} {ox : Obj} {es : List DictEntry} {n : Nat} {name : Str} {expr : Bool} {v : Value} {Q : Value → Shared → Prop}
    (X : K.In s.heap) (I : PySem.W.InstAt s.heap x ox C (some (dictOf es n))) (hg : plainGet K C name = true) (hh : hasDictIn K C = true) (ha : findIn K (.ref C) name = some none)
    (hl : getL name es = some (some v)) (hv : handedIn v = true) (h : Q v { s with toks := s.toks + 1 }) : wpAny (model prog w) A (getAttr (.ref x) name expr) Q E s :=
  get_value X I (plainGet_of hg).1 (findObj_own hh ha rfl hl) hv h

/-- x.m(..): the method found in the class -/
theorem get_method {x C f : Addr} {ox : Obj} {es : List DictEntry} {n : Nat} {name : Str} {pl : Sem Bool} {Q : Value × List Value → Shared → Prop}
    (X : K.In s.heap) (I : PySem.W.InstAt s.heap x ox C (some (dictOf es n))) (hg : plainGet K C name = true) (hf : findIn K (.ref C) name = some (some (.ref f))) (ht : isFn K (.ref f) = true)
    (hl : getL name es = some none) (h : Q (.ref f, [.ref x]) s) : wpAny (model prog w) A (getMethod (.ref x) name pl) Q E s :=
  method_fn X I (plainGet_of hg).1 (plainGet_of hg).2 hf (beq_iff_eq.mp ht) (by show (lookIn name (dictOf es n)).map _ = _; rw [lookIn_dict, hl]; rfl) h

/-! the whole heap as the ledger: makes every rule that writes through a ledger a rule over any heap -/
def noObjs (h : Heap) : Heap := { h with objs := #[] }
theorem noObjs_get (h : Heap) (b : Addr) : (noObjs h).get? b = none := by
  cases e : (noObjs h).get? b with
  | none => rfl
  | some o => exact absurd (Heap.lt_size e) (Nat.not_lt_zero _)
def ledger (h : Heap) (L d : Addr) : List (Addr × Obj) := (List.range h.objs.size).filterMap fun a => if a = L ∨ a = d then none else (h.get? a).map fun o => (a, o)
theorem mem_ledger {h : Heap} {L d a : Addr} {o : Obj} : (a, o) ∈ ledger h L d ↔ a ≠ L ∧ a ≠ d ∧ h.get? a = some o := by
  unfold ledger
  rw [List.mem_filterMap]
  constructor
  · rintro ⟨b, _, e⟩
    split at e
    · cases e
    · rename_i hb
      obtain ⟨o', ho, e'⟩ := Option.map_eq_some_iff.mp e
      cases e'
      exact ⟨fun q => hb (.inl q), fun q => hb (.inr q), ho⟩
  · rintro ⟨n1, n2, ho⟩
    refine ⟨a, List.mem_range.mpr (Heap.lt_size ho), ?_⟩
    rw [if_neg (show ¬ (a = L ∨ a = d) from fun q => q.elim n1 n2), ho] <;> rfl
theorem news_ledger {h : Heap} {L d : Addr} {od : Obj} (hne : d ≠ L) (ho : h.get? d = some od) : News (noObjs h) L h ([] ++ (d, od) :: ledger h L d) := by
  rintro ⟨a, o⟩ hp
  rcases List.mem_cons.mp hp with e | hp
  · cases e
    exact ⟨ho, hne, noObjs_get _ _⟩
  · obtain ⟨n1, n2, e⟩ := mem_ledger.mp hp
    exact ⟨e, n1, noObjs_get _ _⟩
theorem fr_all {h : Heap} {L : Addr} {m : Str → Option Value} (n : h.Ns L m) : Fr (noObjs h) L h m :=
  ⟨n, fun b o e => (by rw [noObjs_get] at e; cases e), Nat.zero_le _⟩
/-- Upd of the head entry (for append_K, setItem_K ..) -/
theorem upd_ledger {h : Heap} {L d : Addr} {o o' : Obj} : Upd d o o' ((d, o) :: ledger h L d) ((d, o') :: ledger h L d) :=
  .head fun ⟨_, _⟩ hp => (mem_ledger.mp hp).2.1

/-- x.name = v over any heap: L is any namespace of the heap (the frame's, say): its map stays, its object is not told; all else but the dict stays -/
theorem set_field {x C dx L : Addr} {ox : Obj} {m : Str → Option Value} {es es' : List DictEntry} {n n' : Nat} {name : Str} {v : Value} {Q : Unit → Shared → Prop}
    (X : K.In s.heap) (I : PySem.W.InstAt s.heap x ox C (some (dictOf es n))) (hd : ox.dict = some dx) (hL : s.heap.Ns L m) (hne : dx ≠ L)
    (hs : findIn K (.ref C) "__setattr__" = some (some (.builtin "object.__setattr__"))) (hp : plainOver K C = true) (ht : takerIn K C name = some none) (hh : hasDictIn K C = true) (hl : (getL name es).isSome = true)
    (e : (putL name (PyData.keyHash w.params name) (.str name (s.toks + 1)) v es, putN name es n) = (es', n')) (hz : es'.length ≤ 1000)
    (h : ∀ h' : Heap, h'.Ns L m → h'.get? dx = some (dictOf es' n') → (∀ b o, b ≠ dx → b ≠ L → s.heap.get? b = some o → h'.get? b = some o) → Q () { s with heap := h', toks := s.toks + 2 }) :
    wpAny (model prog w) A (setAttr (.ref x) name v) Q E s := by
  obtain ⟨e1, e2⟩ := Prod.mk.inj e
  have hdx : s.heap.get? dx = some (dictOf es n) := by
    have := I.dict
    rw [hd] at this
    exact this
  refine set_plain X I hs (osa_dict (s := { s with toks := s.toks + 1 }) (h₀ := noObjs s.heap) (L := L) (m := m) (od := dictOf es n) (od' := dictOf es' n') (es := es') (n := n') (pre := []) (post := ledger s.heap L dx)
    (fr_all hL) (news_ledger hne hdx) X I hd hp ht hh hl (fun _ q => nomatch q) (fun ⟨_, _⟩ q => (mem_ledger.mp q).2.1) (by rw [putName_dict, e1, e2]) rfl hz fun h' F' N' => ?_)
  exact h h' F'.ns (N'.get (List.Mem.head _)) fun b o n1 n2 ho => N'.get (List.Mem.tail _ (mem_ledger.mpr ⟨n2, n1, ho⟩))
end
end Att

namespace L2
open PySem PySem.Spec PyProof.Rows

theorem vals_ints : ∀ {vs : List Value} {ns : List Int}, IntsAre vs ns → Vals (ns.map V.int) vs
  | _, _, .nil => .nil
  | _, _, .cons n t h => .cons ⟨t, rfl⟩ (vals_ints h)

/-- nothing is tracked but the script, known to the object (or it is an object of the module) -/
def Only (H : Hp) : Prop := ∀ b, H b = none ∨ ∃ o xs, H b = some (.frz o (.lst xs))

/-- THE HEAD: the law's promise, at the heap behind the top. F, the promise of the law's def, may use that base is part of the heap (so K.In base, base.Ns mainGlobals mg stand in Mod) -/
theorem law_call {P : Program} {w : World} {K : PySem.W.Frag} {mg mb : Str → Option Value} {CX : CXT} {k : Nat} {fa a : Addr} {fd : FuncData} {x : Str} {sp : Sp} {s₁ : Shared} {vs : List Value} {ns : List Int}
    (KX : K.In s₁.heap) (hns : s₁.heap.Ns mainGlobals mg) (hb : s₁.heap.Ns builtinsNs mb) (hbb : ∀ x : Str, x ≠ "__name__" → mb x = bootBuiltins x) (hlim : s₁.heap.NoLimit) (hg : s₁.gens = #[])
    (ha : s₁.heap.get? a = some { cls := .type "list", data := .seq vs.toArray }) (hi : IntsAre vs ns) (hl : ns.length ≤ sizeLine) (hr : Room k callerA)
    (F : ∀ base : Heap, K.In base → base.Ns mainGlobals mg → FnOk P w K mg base CX k fa fd [x] sp) (hbind : ∀ (s : Shared) (u : Value), BindsTo s fd ⟨[u], []⟩ [(x, u)])
    (hsp : ∀ H : Hp, Only H → SqL K H a (ns.map V.int) → sp [.ref a] H (fun v _ => v = .bl true) fun _ _ _ => False)
    (hCX : ∀ H e s', CX [] H s₁ (fun _ _ _ => False) e s' → False) :
    codeAny (model P w) callerA (.call (.ref fa) ⟨[.ref a], []⟩) (fun r s' => r = .ok (.ret (.bool true)) ∧ OldK s₁.heap s'.heap ∧ s'.os = s₁.os ∧ AllBare s'.gens) s₁ := by
  have rv := vals_ints hi
  have lenV := hi.length
  -- from an abstract heap in which nothing but the script may be tracked
  have core : ∀ H : Hp, Only H → SqL K H a (ns.map V.int) → HOk P w H s₁.heap → (∀ b, H b ≠ none → b = a) → (H a ≠ none → K.lookup a = none) →
      codeAny (model P w) callerA (.call (.ref fa) ⟨[.ref a], []⟩) (fun r s' => r = .ok (.ret (.bool true)) ∧ OldK s₁.heap s'.heap ∧ s'.os = s₁.os ∧ AllBare s'.gens) s₁ := by
    intro H hO hS hok hA hK
    have base_of : ∀ {b : Addr} {o : Obj}, s₁.heap.get? b = some o → H b = none → (hidT s₁.heap H).get? b = some o := fun e n => hidT_get e n
    have noA : ∀ {b : Addr} {o : Obj} {es : Array DictEntry} {ep : Nat}, s₁.heap.get? b = some o → o.data = .dict es ep → H b = none := fun {b o es ep} e d => by
      cases q : H b with
      | none => rfl
      | some u =>
        have e' : b = a := hA b (by rw [q]; simp)
        subst e'
        rw [ha] at e; cases e
        have d' : Data.seq vs.toArray _ = Data.dict es ep := d
        cases d'
    have nsK : ∀ {b : Addr} {m : Str → Option Value}, s₁.heap.Ns b m → (hidT s₁.heap H).Ns b m := fun {b m} ⟨o, es, ep, e, d, r⟩ => ⟨o, es, ep, base_of e (noA e d), d, r⟩
    have hKb : K.In (hidT s₁.heap H) := fun b o e => base_of (KX b o e) (by
      cases q : H b with
      | none => rfl
      | some u =>
        have e' : b = a := hA b (by rw [q]; simp)
        subst e'
        rw [hK (by rw [q]; simp)] at e; cases e)
    have hM : Mod K mg (hidT s₁.heap H) := ⟨hKb, nsK hns, ⟨mb, nsK hb, hbb⟩, let ⟨mc, h1, h2⟩ := hlim; ⟨mc, nsK h1, h2⟩⟩
    have e0 : Env0 P w K mg (hidT s₁.heap H) callerA [] s₁ H := ⟨rfl, hM, fun b o e => of_hidT e, Nat.le_of_eq (hidT_size _ _), trivial, fun b hb => absurd (show b ∈ ([] : List Addr) from hb) (by simp), hok, .of_eq hg⟩
    refine codeAny_mono ((F _ hKb (nsK hns)).run callerA [] s₁ H ⟨[.ref a], []⟩ [.ref a] [.ref a] _ _ hr e0 (hbind s₁ (.ref a)) (.cons rfl .nil) (hsp H hO hS)) fun r s' h => ?_
    cases r with
    | error e => exact (hCX H e s' h).elim
    | ok fl =>
      cases fl with
      | next => exact False.elim h
      | brk => exact False.elim h
      | cont => exact False.elim h
      | ret u =>
        obtain ⟨v, H', os, bare, un, hok', r', q⟩ := h
        have q' : v = .bl true := q
        subst q'
        obtain rfl : u = Value.bool true := r'
        refine ⟨rfl, OldK.of_keep fun b o e => ?_, os, bare⟩
        cases q : H b with
        | none => exact un.keep b o e q (by intro z; exact absurd (show b ∈ ([] : List Addr) from z) (by simp)) (by simp)
        | some u =>
          rcases hO b with z | ⟨ob, xs, z⟩
          · rw [q] at z; cases z
          · have z2 := un.frzs b ob _ z
            obtain ⟨e1, _⟩ := hok b _ z
            obtain ⟨e2, _⟩ := hok' b _ z2
            rw [e] at e1; cases e1
            exact e2
  cases hk : K.lookup a with
  | some o =>
    -- the script is one of the module's own objects
    have e := KX a o hk
    rw [ha] at e
    cases e
    refine core (fun _ => none) (fun _ => .inl rfl) (.inr ⟨_, vs.toArray, _, hk, rfl, rfl, rfl, by rw [List.size_toArray, lenV]; exact hl, by simpa using rv⟩) (fun b u z => by have z' : (none : Option HO) = some u := z; cases z') (fun b z => absurd rfl z) fun z => absurd rfl z
  | none =>
    refine core (fun b => if b = a then some (.frz { cls := .type "list", data := .seq vs.toArray } (.lst (ns.map V.int))) else none) (fun b => ?_) (.inl (.inr ⟨{ cls := .type "list", data := .seq vs.toArray }, if_pos rfl⟩)) (fun b u z => ?_) (fun b z => ?_) fun _ => hk
    · by_cases hb : b = a
      · exact .inr ⟨_, _, if_pos hb⟩
      · exact .inl (if_neg hb)
    · by_cases hb : b = a
      · have z' := (if_pos hb).symm.trans z
        cases z'
        subst hb
        exact ⟨ha, by rw [List.length_map]; exact hl, vs, _, rv, ha⟩
      · have z' := (if_neg hb).symm.trans z
        cases z'
    · by_cases hb : b = a
      · exact hb
      · exact absurd (if_neg hb) z
end L2

namespace L2
open PySem PySem.Spec PyProof.Rows

abbrev KOf {K : PySem.W.Frag} {h : Heap} (_ : K.In h) : PySem.W.Frag := K

/-- the goal that k_head leaves (case hc), from the law's promise. F gives the function object fd (K's own) once, then the promise over every base -/
theorem walk_of {l : PySem.W.OpenLaw} {n k : Nat} {q : Program} {loose : List Str} {XP : (Str → Option Value) → Heap → Prop} {YP : World → Heap → Prop} {d : DefRec} {K : Params → PySem.W.Frag} {CX : World → CXT} {sp : World → Sp} {x : Str}
    (hn : l.most = some n) (hn2 : n ≤ sizeLine) (hdf : d.params.defaults = []) (hr : Room k callerA)
    (hY : ∀ (w : World) (h : Heap), YP w h → (K w.params).In h)
    (F : ∀ (w : World) (mg : Str → Option Value) (fa : Addr) (h : Heap), (K w.params).In h → h.Ns mainGlobals mg → mg d.name = some (.ref fa) →
      ∃ fd : FuncData, (∀ (s : Shared) (u : Value), BindsTo s fd ⟨[u], []⟩ [(x, u)]) ∧
        ∀ base : Heap, (K w.params).In base → base.Ns mainGlobals mg → FnOk l.prog w (K w.params) mg base (CX w) k fa fd [x] (sp w))
    (hsp : ∀ (w : World) (H : Hp) (a : Addr) (ns : List Int), ns.length ≤ n → Only H → SqL (K w.params) H a (ns.map V.int) → sp w [.ref a] H (fun v _ => v = .bl true) fun _ _ _ => False)
    (hCX : ∀ (w : World) (H : Hp) (s : Shared) (e : Value) (s' : Shared), CX w [] H s (fun _ _ _ => False) e s' → False) :
    PySem.W.WalkO q loose XP YP l.row.toRowW d [] (fun f vs => PySem.call f vs) := by
  refine Att.attach_call hn hdf fun w s₀ s₁ mg mb fa o pm cd doc a vs ns G Y ho hd hcd hmg hobj hints hlen hg => ?_
  have KX := hY w _ Y
  obtain ⟨fd, hb, hF⟩ := F w mg fa _ KX G.T.g hmg
  exact law_call KX G.T.g G.T.b G.T.builtins G.T.nolimit hg hobj hints (Nat.le_trans hlen hn2) hr hF hb (fun H hO hS => hsp w H a ns hlen hO hS) fun H e s' => hCX w H s₁ e s'
/-- the same where the promise hangs on the written part alone: (sp := My.sp_law), no hole under a binder -/
theorem walk_ofK {l : PySem.W.OpenLaw} {n k : Nat} {q : Program} {loose : List Str} {XP : (Str → Option Value) → Heap → Prop} {YP : World → Heap → Prop} {d : DefRec} {K : Params → PySem.W.Frag} {CX : CXT} {sp : PySem.W.Frag → Sp} {x : Str}
    (hn : l.most = some n) (hn2 : n ≤ sizeLine) (hdf : d.params.defaults = []) (hr : Room k callerA)
    (hY : ∀ (w : World) (h : Heap), YP w h → (K w.params).In h)
    (F : ∀ (w : World) (mg : Str → Option Value) (fa : Addr) (h : Heap), (K w.params).In h → h.Ns mainGlobals mg → mg d.name = some (.ref fa) →
      ∃ fd : FuncData, (∀ (s : Shared) (u : Value), BindsTo s fd ⟨[u], []⟩ [(x, u)]) ∧
        ∀ base : Heap, (K w.params).In base → base.Ns mainGlobals mg → FnOk l.prog w (K w.params) mg base CX k fa fd [x] (sp (K w.params)))
    (hsp : ∀ (K : PySem.W.Frag) (H : Hp) (a : Addr) (ns : List Int), ns.length ≤ n → Only H → SqL K H a (ns.map V.int) → sp K [.ref a] H (fun v _ => v = .bl true) fun _ _ _ => False)
    (hCX : ∀ (H : Hp) (s : Shared) (e : Value) (s' : Shared), CX [] H s (fun _ _ _ => False) e s' → False) :
    PySem.W.WalkO q loose XP YP l.row.toRowW d [] (fun f vs => PySem.call f vs) :=
  walk_of (K := K) (CX := fun _ => CX) (sp := fun w => sp (K w.params)) hn hn2 hdf hr hY F (fun w H a ns h1 h2 h3 => hsp (K w.params) H a ns h1 h2 h3) fun _ H s e s' => hCX H s e s'
end L2

/- THE LAST THEOREM (shape; LID, My.* are yours):
   My.Adr: a structure of the addresses that your layer names (classes, functions); My.Txt K t: a structure (Prop) of the equations over K;
   My.txt_mk : {K} {implicit addresses ..} (e1 : nsIn K mainGlobals "law" = some (some (.ref f))) (e2 : K.lookup f = some ⟨oc, od, .func (fnOf "law" "law" params body scope dV kV doc pm an cdv ct), sl⟩) (e3 : codeIn K cdv "law" = true) .. : ∃ t, My.Txt K t

set_option maxRecDepth 100000 in
set_option maxHeartbeats 0 in
theorem PySem.Challenge.cw_LID_holds : PySem.Challenge.rw_LID.Holds := by
  w_on; o_law; k_head; (case hw => w_witness2)
  k_fill
  refine L2.walk_of (l := PySem.Challenge.rw_LID) (n := 63) (k := 40) (x := "script") (CX := fun w => ..) (sp := fun _ => My.sp_law) rfl (by decide) rfl ⟨rfl, by decide, by decide⟩ (fun w h Y => PySem.W.kIn_of Y) ?F ?S ?C
  case F =>
    intro w mg fa h KX G hmg
    have T : ∃ t, My.Txt (L2.KOf KX) t := by
      dsimp only [L2.KOf]                          -- K must stand as «<heap const> w.params» for k_is
      refine' My.txt_mk ?e1 ?e2 ?e3 ..
      (case e1 => PySem.W.k_is)                    -- in the order: a name -> its address -> its object -> its parts
      (case e2 => PySem.W.k_is)
      ..
    obtain ⟨t, T⟩ := T
    have e0 := hmg.symm.trans (PySem.W.mg_of KX G T.law)
    cases e0                                       -- fa is the law's own address
    exact ⟨_, fun s u => .of_eq rfl, fun base kb nb => My.law_fn T kb nb⟩     -- if «.of_eq rfl» comes too early: refine' ⟨_, ?b, fun base kb nb => My.law_fn T kb nb⟩; exact fun s u => .of_eq rfl
  case S => exact fun w H a ns hl hO hS => ..
  case C => exact ..
(the tactic k_is has no namespace: write k_is) -/

/-! SHORT WORDS over the layer: a def of the text, its body, what a loop and a test want. -/
namespace L2
open PySem PySem.Spec PyProof.Rows

/-! ### the text by places -/
/-- the j-th statement of a class's body -/
def inClass (s : Stmt) (j : Nat) : Stmt := match s with
  | .ClassDef _ _ _ body _ _ _ _ _ _ _ => body.getD j (.Pass ⟨0, 0, 0, 0⟩)
  | _ => .Pass ⟨0, 0, 0, 0⟩
def defArgs (s : Stmt) : Arguments := match s with
  | .FunctionDef _ a _ _ _ _ _ _ _ _ => a
  | _ => { posonlyargs := [], args := [], vararg := none, kwonlyargs := [], kw_defaults := [], kwarg := none, defaults := [] }
def defBody (s : Stmt) : List Stmt := match s with
  | .FunctionDef _ _ b _ _ _ _ _ _ _ => b
  | _ => []
def defScope (s : Stmt) : Scope := match s with
  | .FunctionDef _ _ _ _ _ _ sc _ _ _ => sc
  | _ => { kind := .function, names := [], isGenerator := false, isCoroutine := false }

/-! ### no exception leaves a def -/
abbrev CX0 : CXT := fun _ _ _ _ _ _ => False
abbrev E0 : XK := fun _ _ _ => False
theorem pass0 {X : Cx} : Passes CX0 X E0 := fun _ _ _ _ _ _ _ h => h.elim

/-! ### a def (or method) of the text as it stands behind the top -/
structure Fun (K : PySem.W.Frag) (x qual : Str) (st : Stmt) (f : Addr) (fd : FuncData) : Prop where
  ex : ∃ (oc : Value) (od : Option Addr) (kV doc pm : Value) (an : Option Addr) (cdv ct : Value) (osl : Array (Option Value)),
    fd = PySem.W.fnOf x qual (defArgs st) (defBody st) (defScope st) .none kV doc pm an cdv ct ∧ K.lookup f = some ⟨oc, od, .func fd, osl⟩ ∧ PySem.W.codeIn K cdv qual = true
  kp : PySem.W.keepIn K (.ref f) = true
section
variable {P : Program} {w : World} {K : PySem.W.Frag} {mg : Str → Option Value} {base : Heap}
/-- THE RULE for a def: its body as a term of rules, and the reading of that term -/
theorem Fun.ok {x qual : Str} {st : Stmt} {f : Addr} {fd : FuncData} {N ps : List Str} {k : Nat} {sp : Sp} (F : Fun K x qual st f fd) (S : FnScope N ps (defScope st)) (len : ∀ vs H Q E, sp vs H Q E → vs.length = ps.length)
    (hbody : ∀ (cdv : Value) (A : Around) (outer : List Env) (s : Shared) (H : Hp) (vs : List V) (Q : VK) (E : XK), Room k (A.deeper (envOfC qual (defScope st) s.heap.objs.size f cdv)) → sp vs H Q E →
      ∃ t, PSs (cxOf CX0 P w K mg base N qual (defScope st) f cdv A outer s H E).nox (defBody st) t ∧ t { nx := fun _ H' => Q .non H', rt := Q } (start N vs) H) : FnOk P w K mg base CX0 (k + 1) f fd ps sp := by
  obtain ⟨oc, od, kV, doc, pm, an, cdv, ct, osl, rfl, lk, hcd⟩ := F.ex
  refine fn_of lk hcd S len fun A outer s H vs Q E hr hsp => ?_
  obtain ⟨t, h, q⟩ := hbody cdv A outer s H vs Q E hr hsp
  exact ⟨t, h.nox, q⟩
/-- how its arguments bind (no defaults): h is «fun _ _ _ _ _ _ us hl => match us, hl with | [_, _], _ => rfl», one _ a parameter -/
theorem Fun.binds {x qual : Str} {st : Stmt} {f : Addr} {fd : FuncData} {ps : List Str} (F : Fun K x qual st f fd)
    (h : ∀ (kV doc pm : Value) (an : Option Addr) (cdv ct : Value) (us : List Value), us.length = ps.length → bindArgs (PySem.W.fnOf x qual (defArgs st) (defBody st) (defScope st) .none kV doc pm an cdv ct) ⟨us, []⟩ = pure (ps.zip us)) : Binds K fd ps [] := by
  obtain ⟨oc, od, kV, doc, pm, an, cdv, ct, osl, rfl, lk, hcd⟩ := F.ex
  exact .all (h kV doc pm an cdv ct)
theorem fun_mk {x qual : Str} {st : Stmt} {f : Addr} {oc : Value} {od an : Option Addr} {osl : Array (Option Value)} {kV doc pm cdv ct : Value} (l : K.lookup f = some ⟨oc, od, .func (PySem.W.fnOf x qual (defArgs st) (defBody st) (defScope st) .none kV doc pm an cdv ct), osl⟩)
    (c : PySem.W.codeIn K cdv qual = true) (k : PySem.W.keepIn K (.ref f) = true) : Fun K x qual st f (PySem.W.fnOf x qual (defArgs st) (defBody st) (defScope st) .none kV doc pm an cdv ct) := ⟨⟨oc, od, kV, doc, pm, an, cdv, ct, osl, rfl, l, c⟩, k⟩
end
theorem hu_of {A : Around} {k : Nat} (hr : Room k A) : A.units + 1 < cLine := Nat.lt_of_le_of_lt (Nat.add_le_add_left (by decide : 1 ≤ 64) _) hr.units
theorem small1000 {n : Nat} (h : n ≤ 1000) : n < sizeLine := Nat.lt_of_le_of_lt h (by decide)

/-! ### expressions in short: the name that stands in the i-th slot -/
section
variable {X : Cx}
theorem pv (i : Nat) {x : Str} {pos : Pos} (hN : X.N[i]? = some x := by rfl) (hv : Vis X.env.scope x := by first | exact Or.inl rfl | exact Or.inr (Or.inl rfl) | exact Or.inr (Or.inr rfl)) (hd : (x == ("__debug__" : Str)) = false := by decide)
    (hcd : (x == ("__classdict__" : Str)) = false := by decide) : PE X (.Name x pos) (tVar i) := pe_var hN hv hd hcd
end

/-! ### tests -/
theorem iteF {A B : Prop} (h : B) : if false = true then A else B := by
  rw [if_neg Bool.false_ne_true]
  exact h
theorem iteT {A B : Prop} (h : A) : if true = true then A else B := by
  rw [if_pos rfl]
  exact h
theorem ite2 {c A B : Prop} [Decidable c] (h1 : c → A) (h2 : ¬ c → B) : if c then A else B := by
  by_cases h : c
  · rw [if_pos h]
    exact h1 h
  · rw [if_neg h]
    exact h2 h
theorem iteNS {c A B : Prop} [Decidable c] (hc : c) (h : B) : if (!decide c) = true then A else B := by
  rw [decide_eq_true hc]
  exact iteF h

/-! ### heaps -/
/-- all that was tracked is as it was -/
def Same (H H' : Hp) : Prop := ∀ b o, H b = some o → H' b = some o
theorem Same.refl (H : Hp) : Same H H := fun _ _ h => h
theorem Same.trans {H H1 H2 : Hp} (a : Same H H1) (b : Same H1 H2) : Same H H2 := fun c o h => b c o (a c o h)
theorem Same.free {H H' : Hp} (e : Same H H') {l : Addr} (h : H' l = Option.none) : H l = Option.none := by
  cases q : H l with
  | none => rfl
  | some o =>
    rw [e l o q] at h
    cases h
theorem Same.seq {K : PySem.W.Frag} {H H' : Hp} {a : Addr} {xs : List V} (e : Same H H') (h : SqL K H a xs) : SqL K H' a xs := by
  rcases h with (h | ⟨o, h⟩) | h
  · exact .inl (.inl (e _ _ h))
  · exact .inl (.inr ⟨o, e _ _ h⟩)
  · exact .inr h

end L2
set_option Elab.async false
set_option linter.all false
set_option maxRecDepth 100000
/- how the pure reading stands to the layer's abstract heap -/
namespace OR
open PySem L2

mutual
/-- a pure value stands at v; lv: the mutable objects' addresses -/
def RP (K : PySem.W.Frag) (H : Hp) (lv : Addr → Prop) : PV → V → Prop
  | .non, v => v = .non
  | .bl b, v => v = .bl b
  | .int i, v => v = .int i
  | .str cs, v => v = .str ⟨cs.toArray⟩ ∧ cs.length ≤ sizeLine
  | .tup xs, v => ∃ a vs, v = .ref a ∧ SqT K H a vs ∧ RPs K H lv xs vs
  | .lst xs, v => ∃ a vs, v = .ref a ∧ SqL K H a vs ∧ ¬ lv a ∧ RPs K H lv xs vs
def RPs (K : PySem.W.Frag) (H : Hp) (lv : Addr → Prop) : List PV → List V → Prop
  | [], vs => vs = []
  | x :: r, vs => ∃ v vr, vs = v :: vr ∧ RP K H lv x v ∧ RPs K H lv r vr
end
/-- the addresses of the mutable objects, by number; lists under way (a comprehension's) that nothing names yet -/
structure Al where
  adr : List Addr
  rsv : Addr → Prop
/-- the live mutable objects -/
def Live (α : Al) (st : Store) (a : Addr) : Prop := α.rsv a ∨ ∃ n o, α.adr[n]? = some a ∧ objAt st n = some o ∧ o ≠ .dead
/-- a key of a dict -/
def keyOf : PV → Option Key
  | .int i => some (.inl i)
  | .str cs => some (.inr ⟨cs.toArray⟩)
  | _ => none
def RKV (K : PySem.W.Frag) (H : Hp) (lv : Addr → Prop) : List (PV × PV) → List (Key × V) → Prop
  | [], l => l = []
  | (k, x) :: r, l => ∃ k' v l', l = (k', v) :: l' ∧ keyOf k = some k' ∧ RP K H lv x v ∧ RKV K H lv r l'
structure RSt (K : PySem.W.Frag) (α : Al) (st : Store) (H : Hp) : Prop where
  len : α.adr.length = st.length
  lst : ∀ n xs, objAt st n = some (.lst xs) → ∃ a vs, α.adr[n]? = some a ∧ H a = some (.lst vs) ∧ RPs K H (Live α st) xs vs
  dct : ∀ n kvs, objAt st n = some (.dct kvs) → ∃ a l, α.adr[n]? = some a ∧ H a = some (.dK l) ∧ RKV K H (Live α st) kvs l
  inj : ∀ (n m : Nat) a o o', n ≠ m → α.adr[n]? = some a → α.adr[m]? = some a → objAt st n = some o → objAt st m = some o' → o = .dead ∨ o' = .dead
  nk : ∀ a, Live α st a → K.lookup a = none
  dis : ∀ (n : Nat) a o, α.adr[n]? = some a → objAt st n = some o → o ≠ .dead → ¬ α.rsv a
  rsv : ∀ a, α.rsv a → ∃ vs, H a = some (.lst vs)
def RV (K : PySem.W.Frag) (α : Al) (st : Store) (H : Hp) : Val → V → Prop
  | .p x, v => RP K H (Live α st) x v
  | .ref n, v => ∃ a, v = .ref a ∧ α.adr[n]? = some a
structure Ext (K : PySem.W.Frag) (α : Al) (st : Store) (H : Hp) (α' : Al) (st' : Store) (H' : Hp) : Prop where
  pre : ∀ (n : Nat) a, α.adr[n]? = some a → α'.adr[n]? = some a
  tup : ∀ a vs, SqT K H a vs → SqT K H' a vs
  lst : ∀ a vs, SqL K H a vs → ¬ Live α st a → SqL K H' a vs ∧ ¬ Live α' st' a
  rsv : α'.rsv = α.rsv
  raw : ∀ a, α.rsv a → H' a = H a

section
variable {K : PySem.W.Frag} {α α' α2 : Al} {st st' st2 : Store} {H H' H2 : Hp} {lv lv' : Addr → Prop}
theorem Ext.refl : Ext K α st H α st H := ⟨fun _ _ h => h, fun _ _ h => h, fun _ _ h n => ⟨h, n⟩, rfl, fun _ _ => rfl⟩
theorem Ext.trans (a : Ext K α st H α' st' H') (b : Ext K α' st' H' α2 st2 H2) : Ext K α st H α2 st2 H2 :=
  ⟨fun n x h => b.pre n x (a.pre n x h), fun x vs h => b.tup x vs (a.tup x vs h), fun x vs h n => let ⟨h1, n1⟩ := a.lst x vs h n; b.lst x vs h1 n1, b.rsv.trans a.rsv, fun x h => (b.raw x (by rw [a.rsv]; exact h)).trans (a.raw x h)⟩
mutual
theorem RP.mono (ht : ∀ a vs, SqT K H a vs → SqT K H' a vs) (hl : ∀ a vs, SqL K H a vs → ¬ lv a → SqL K H' a vs ∧ ¬ lv' a) : ∀ (x : PV) (v : V), RP K H lv x v → RP K H' lv' x v
  | .non, v, h => by rw [RP] at h ⊢; exact h
  | .bl b, v, h => by rw [RP] at h ⊢; exact h
  | .int i, v, h => by rw [RP] at h ⊢; exact h
  | .str cs, v, h => by rw [RP] at h ⊢; exact h
  | .tup xs, v, h => by
    rw [RP] at h ⊢
    obtain ⟨a, vs, e, q, r⟩ := h
    exact ⟨a, vs, e, ht a vs q, RPs.mono ht hl xs vs r⟩
  | .lst xs, v, h => by
    rw [RP] at h ⊢
    obtain ⟨a, vs, e, q, n, r⟩ := h
    obtain ⟨q', n'⟩ := hl a vs q n
    exact ⟨a, vs, e, q', n', RPs.mono ht hl xs vs r⟩
theorem RPs.mono (ht : ∀ a vs, SqT K H a vs → SqT K H' a vs) (hl : ∀ a vs, SqL K H a vs → ¬ lv a → SqL K H' a vs ∧ ¬ lv' a) : ∀ (xs : List PV) (vs : List V), RPs K H lv xs vs → RPs K H' lv' xs vs
  | [], vs, h => by rw [RPs] at h ⊢; exact h
  | x :: r, vs, h => by
    rw [RPs] at h ⊢
    obtain ⟨v, vr, e, q, t⟩ := h
    exact ⟨v, vr, e, RP.mono ht hl x v q, RPs.mono ht hl r vr t⟩
end
theorem RKV.mono (ht : ∀ a vs, SqT K H a vs → SqT K H' a vs) (hl : ∀ a vs, SqL K H a vs → ¬ lv a → SqL K H' a vs ∧ ¬ lv' a) : ∀ (kvs : List (PV × PV)) (l : List (Key × V)), RKV K H lv kvs l → RKV K H' lv' kvs l
  | [], l, h => by rw [RKV] at h ⊢; exact h
  | (k, x) :: r, l, h => by
    rw [RKV] at h ⊢
    obtain ⟨k', v, l', e, ek, q, t⟩ := h
    exact ⟨k', v, l', e, ek, RP.mono ht hl x v q, RKV.mono ht hl r l' t⟩
theorem Ext.rp (e : Ext K α st H α' st' H') {x : PV} {v : V} (h : RP K H (Live α st) x v) : RP K H' (Live α' st') x v := RP.mono e.tup e.lst x v h
theorem Ext.rps (e : Ext K α st H α' st' H') {x : List PV} {v : List V} (h : RPs K H (Live α st) x v) : RPs K H' (Live α' st') x v := RPs.mono e.tup e.lst x v h
theorem Ext.rv (e : Ext K α st H α' st' H') {x : Val} {v : V} (h : RV K α st H x v) : RV K α' st' H' x v := by
  cases x with
  | p x => exact e.rp h
  | ref n => obtain ⟨a, h1, h2⟩ := h; exact ⟨a, h1, e.pre n a h2⟩
/-- only new objects -/
theorem SqT.same {a : Addr} {vs : List V} (s : Same H H') (h : SqT K H a vs) : SqT K H' a vs := by
  rcases h with (h | ⟨o, h⟩) | h
  · exact .inl (.inl (s _ _ h))
  · exact .inl (.inr ⟨o, s _ _ h⟩)
  · exact .inr h
theorem Ext.of_same (r : RSt K α st H) (s : Same H H') : Ext K α st H α st H' := ⟨fun _ _ h => h, fun _ _ h => SqT.same s h, fun _ _ h n => ⟨Same.seq s h, n⟩, rfl, fun a ha => by
  obtain ⟨vs, e⟩ := r.rsv a ha
  rw [e, s _ _ e]⟩
theorem RSt.same (s : Same H H') (r : RSt K α st H) : RSt K α st H' := by
  refine ⟨r.len, fun n xs h => ?_, fun n kvs h => ?_, r.inj, r.nk, r.dis, fun a ha => let ⟨vs, e⟩ := r.rsv a ha; ⟨vs, s _ _ e⟩⟩
  · obtain ⟨a, vs, h1, h2, h3⟩ := r.lst n xs h
    exact ⟨a, vs, h1, s _ _ h2, (Ext.of_same r s).rps h3⟩
  · obtain ⟨a, vs, h1, h2, h3⟩ := r.dct n kvs h
    exact ⟨a, vs, h1, s _ _ h2, RKV.mono (fun _ _ h => SqT.same s h) (fun _ _ h n => ⟨Same.seq s h, n⟩) _ _ h3⟩
theorem same_new {p : Addr} (h : H p = none) (o : HO) : Same H (upd H p o) := fun b u q => by rw [upd_ne (ne_of_none q h)]; exact q
/-- a live object's address is tracked -/
theorem RSt.live (r : RSt K α st H) {a : Addr} (h : Live α st a) : (∃ vs, H a = some (.lst vs)) ∨ ∃ l, H a = some (.dK l) := by
  rcases h with h | ⟨n, o, h1, h2, h3⟩
  · exact .inl (r.rsv a h)
  cases o with
  | lst xs => obtain ⟨a', vs, e1, e2, _⟩ := r.lst n xs h2; rw [h1] at e1; cases e1; exact .inl ⟨vs, e2⟩
  | dct kvs => obtain ⟨a', vs, e1, e2, _⟩ := r.dct n kvs h2; rw [h1] at e1; cases e1; exact .inr ⟨vs, e2⟩
  | dead => exact absurd rfl h3
theorem RSt.notlive (r : RSt K α st H) {a : Addr} (h : H a = none) : ¬ Live α st a := fun l => by
  rcases r.live l with ⟨_, e⟩ | ⟨_, e⟩ <;> rw [h] at e <;> cases e
theorem RPs.length : ∀ {xs : List PV} {vs : List V}, RPs K H lv xs vs → xs.length = vs.length
  | [], vs, h => by rw [RPs] at h; subst h; rfl
  | x :: r, vs, h => by
    rw [RPs] at h
    obtain ⟨v, vr, e, _, t⟩ := h
    subst e
    simp [RPs.length t]
theorem RPs.get : ∀ {xs : List PV} {vs : List V} {i : Nat} {x : PV}, RPs K H lv xs vs → xs[i]? = some x → ∃ v, vs[i]? = some v ∧ RP K H lv x v
  | [], _, _, _, _, e => by simp at e
  | y :: r, vs, 0, x, h, e => by
    rw [RPs] at h
    obtain ⟨v, vr, e', q, t⟩ := h
    subst e'
    simp at e; subst e
    exact ⟨v, rfl, q⟩
  | y :: r, vs, i + 1, x, h, e => by
    rw [RPs] at h
    obtain ⟨v, vr, e', q, t⟩ := h
    subst e'
    obtain ⟨w, h1, h2⟩ := RPs.get (i := i) (x := x) t (by simpa using e)
    exact ⟨w, by simpa using h1, h2⟩
theorem RPs.append : ∀ {xs ys : List PV} {vs ws : List V}, RPs K H lv xs vs → RPs K H lv ys ws → RPs K H lv (xs ++ ys) (vs ++ ws)
  | [], _, vs, _, h, t => by rw [RPs] at h; subst h; exact t
  | x :: r, ys, vs, ws, h, t => by
    rw [RPs] at h
    obtain ⟨v, vr, e, q, t'⟩ := h
    subst e
    rw [List.cons_append, List.cons_append, RPs]
    exact ⟨v, _, rfl, q, RPs.append t' t⟩
theorem RPs.snoc {xs : List PV} {vs : List V} {x : PV} {v : V} (h : RPs K H lv xs vs) (q : RP K H lv x v) : RPs K H lv (xs ++ [x]) (vs ++ [v]) :=
  h.append (by rw [RPs]; exact ⟨v, [], rfl, q, by rw [RPs]⟩)
theorem RPs.take : ∀ (n : Nat) {xs : List PV} {vs : List V}, RPs K H lv xs vs → RPs K H lv (xs.take n) (vs.take n)
  | 0, _, _, _ => by rw [List.take_zero, List.take_zero, RPs]
  | n + 1, [], vs, h => by rw [RPs] at h; subst h; rw [List.take_nil, List.take_nil, RPs]
  | n + 1, x :: r, vs, h => by
    rw [RPs] at h
    obtain ⟨v, vr, e, q, t⟩ := h
    subst e
    rw [List.take_succ_cons, List.take_succ_cons, RPs]
    exact ⟨v, _, rfl, q, RPs.take n t⟩
theorem RPs.drop : ∀ (n : Nat) {xs : List PV} {vs : List V}, RPs K H lv xs vs → RPs K H lv (xs.drop n) (vs.drop n)
  | 0, _, _, h => h
  | n + 1, [], vs, h => by rw [RPs] at h; subst h; rw [List.drop_nil, List.drop_nil, RPs]
  | n + 1, x :: r, vs, h => by
    rw [RPs] at h
    obtain ⟨v, vr, e, q, t⟩ := h
    subst e
    exact RPs.drop n t
/-- a value as it is read: a mutable list may be live -/
def RW (K : PySem.W.Frag) (α : Al) (st : Store) (H : Hp) (x : PV) (v : V) : Prop :=
  RP K H (Live α st) x v ∨ ∃ xs a vs, x = .lst xs ∧ v = .ref a ∧ SqL K H a vs ∧ RPs K H (Live α st) xs vs
theorem RV.view {x : Val} {v : V} {y : PV} (r : RSt K α st H) (h : RV K α st H x v) (e : view st x = some y) : RW K α st H y v := by
  cases x with
  | p z => cases e; exact .inl h
  | ref n =>
    obtain ⟨a, rfl, ha⟩ := h
    have e : (match objAt st n with | some (.lst xs) => some (PV.lst xs) | _ => none) = some y := e
    cases q : objAt st n with
    | none => rw [q] at e; cases e
    | some o =>
      cases o with
      | lst xs =>
        rw [q] at e
        cases e
        obtain ⟨a', vs, h1, h2, h3⟩ := r.lst n xs q
        rw [ha] at h1; cases h1
        exact .inr ⟨xs, a, vs, rfl, rfl, SqL.of h2, h3⟩
      | dct _ => rw [q] at e; cases e
      | dead => rw [q] at e; cases e
end
/-- as Ext, but lists may be under way that were not -/
structure Lk (K : PySem.W.Frag) (α : Al) (st : Store) (H : Hp) (α' : Al) (st' : Store) (H' : Hp) : Prop where
  pre : ∀ (n : Nat) a, α.adr[n]? = some a → α'.adr[n]? = some a
  tup : ∀ a vs, SqT K H a vs → SqT K H' a vs
  lst : ∀ a vs, SqL K H a vs → ¬ Live α st a → SqL K H' a vs ∧ ¬ Live α' st' a
  sub : ∀ a, α.rsv a → α'.rsv a
  raw : ∀ a, α.rsv a → H' a = H a
theorem Lk.step {K : PySem.W.Frag} {α α' α2 : Al} {st st' st2 : Store} {H H' H2 : Hp} (l : Lk K α st H α' st' H') (e : Ext K α' st' H' α2 st2 H2) : Lk K α st H α2 st2 H2 :=
  ⟨fun n a h => e.pre n a (l.pre n a h), fun a vs h => e.tup a vs (l.tup a vs h), fun a vs h n => let ⟨h1, n1⟩ := l.lst a vs h n; e.lst a vs h1 n1, fun a h => by rw [e.rsv]; exact l.sub a h, fun a h => (e.raw a (l.sub a h)).trans (l.raw a h)⟩
theorem Ext.lk {K : PySem.W.Frag} {α α' : Al} {st st' : Store} {H H' : Hp} (e : Ext K α st H α' st' H') : Lk K α st H α' st' H' := ⟨e.pre, e.tup, e.lst, fun a h => by rw [e.rsv]; exact h, e.raw⟩
theorem Lk.rps {K : PySem.W.Frag} {α α' : Al} {st st' : Store} {H H' : Hp} (e : Lk K α st H α' st' H') {x : List PV} {v : List V} (h : RPs K H (Live α st) x v) : RPs K H' (Live α' st') x v := RPs.mono e.tup e.lst x v h
end OR
set_option Elab.async false
set_option linter.all false
set_option maxRecDepth 100000
/- the judgement: an expression of the text is read as the intermediate language says -/
namespace OR
open PySem L2

theorem Res.bind_inv {α β : Type} {r : Res α} {f : α → Store → Res β} {b : β} {st' : Store} (h : r.bind f = .ok b st') : ∃ a st1, r = .ok a st1 ∧ f a st1 = .ok b st' := by
  cases r with
  | ok a st1 => exact ⟨a, st1, rfl, h⟩
  | exn c as st => cases h
  | stuck => cases h
theorem Res.bindB_inv {β : Type} {r : Res Val} {f : Bool → Store → Res β} {b : β} {st' : Store} (h : r.bindB f = .ok b st') : ∃ k st1, r = .ok (.p (.bl k)) st1 ∧ f k st1 = .ok b st' := by
  obtain ⟨v, st1, h1, h2⟩ := Res.bind_inv h
  cases v with
  | ref n => cases h2
  | p x =>
    cases x with
    | bl k => exact ⟨k, st1, h1, h2⟩
    | _ => cases h2
theorem Res.bindP_inv {β : Type} {r : Res Val} {f : PV → Store → Res β} {b : β} {st' : Store} (h : r.bindP f = .ok b st') : ∃ x st1, r = .ok (.p x) st1 ∧ f x st1 = .ok b st' := by
  obtain ⟨v, st1, h1, h2⟩ := Res.bind_inv h
  cases v with
  | ref n => cases h2
  | p x => exact ⟨x, st1, h1, h2⟩
theorem Res.bindV_inv {β : Type} {r : Res Val} {f : PV → Store → Res β} {b : β} {st' : Store} (h : r.bindV f = .ok b st') : ∃ v x st1, r = .ok v st1 ∧ view st1 v = some x ∧ f x st1 = .ok b st' := by
  obtain ⟨v, st1, h1, h2⟩ := Res.bind_inv h
  cases e : view st1 v with
  | none => rw [e] at h2; cases h2
  | some x => rw [e] at h2; exact ⟨v, x, st1, h1, e, h2⟩
theorem okO_inv {o : Option PV} {st st' : Store} {v : Val} (h : okO o st = .ok v st') : ∃ x, o = some x ∧ v = .p x ∧ st' = st := by
  cases o with
  | none => cases h
  | some x => cases h; exact ⟨x, rfl, rfl, rfl⟩
theorem op1_inv {f : PV → Option PV} {v : Val} {st st' : Store} {z : Val} (h : op1 f v st = .ok z st') : ∃ x y, view st v = some x ∧ f x = some y ∧ z = .p y ∧ st' = st := by
  unfold op1 at h
  cases e : view st v with
  | none => rw [e] at h; cases h
  | some x =>
    rw [e] at h
    obtain ⟨y, h1, h2, h3⟩ := okO_inv h
    exact ⟨x, y, rfl, h1, h2, h3⟩
theorem op2_inv {f : PV → PV → Option PV} {v w : Val} {st st' : Store} {z : Val} (h : op2 f v w st = .ok z st') : ∃ x y u, view st v = some x ∧ view st w = some y ∧ f x y = some u ∧ z = .p u ∧ st' = st := by
  unfold op2 at h
  cases e : view st v with
  | none => rw [e] at h; cases h
  | some x =>
    rw [e] at h
    cases e2 : view st w with
    | none => rw [e2] at h; cases h
    | some y =>
      rw [e2] at h
      obtain ⟨u, h1, h2, h3⟩ := okO_inv h
      exact ⟨x, y, u, rfl, rfl, h1, h2, h3⟩

structure At (K : PySem.W.Frag) (α : Al) (st : Store) (H : Hp) (env : Env) (σ : L2.St) : Prop where
  len : env.length = σ.length
  rs : RSt K α st H
  env : ∀ (i : Nat) v, env[i]? = some (some v) → ∃ w, σ[i]? = some (some w) ∧ RV K α st H v w
theorem At.next {K : PySem.W.Frag} {α α' : Al} {st st' : Store} {H H' : Hp} {env : Env} {σ : L2.St} (a : At K α st H env σ) (e : Ext K α st H α' st' H') (r : RSt K α' st' H') : At K α' st' H' env σ :=
  ⟨a.len, r, fun i v h => let ⟨w, h1, h2⟩ := a.env i v h; ⟨w, h1, e.rv h2⟩⟩

/-- what an expression of the intermediate language gives, as a reading -/
def tP (K : PySem.W.Frag) (C : CallF) (ir : E) : TE := fun σ H Q => ∃ env α st v st', At K α st H env σ ∧ evalE C ir env st = .ok v st' ∧
  ∀ w H' α', Ext K α st H α' st' H' → RSt K α' st' H' → RV K α' st' H' v w → Q w H'
/-- as a test -/
def tT (K : PySem.W.Frag) (C : CallF) (ir : E) : TT := fun σ H Q => ∃ env α st b st', At K α st H env σ ∧ evalE C ir env st = .ok (.p (.bl b)) st' ∧
  ∀ H' α', Ext K α st H α' st' H' → RSt K α' st' H' → Q b H'
abbrev SE (X : Cx) (C : CallF) (e : Expr) (ir : E) : Prop := PE X e (tP X.K C ir)
abbrev ST (X : Cx) (C : CallF) (e : Expr) (ir : E) : Prop := PT X e (tT X.K C ir)
theorem PE.mono {X : Cx} {e : Expr} {t t' : TE} (h : PE X e t) (m : ∀ σ H Q, t' σ H Q → t σ H Q) : PE X e t' := fun pins s σ H Q I q => h pins s σ H Q I (m _ _ _ q)
theorem PT.mono {X : Cx} {e : Expr} {t t' : TT} (h : PT X e t) (m : ∀ σ H Q, t' σ H Q → t σ H Q) : PT X e t' := fun pins s σ H Q I q => h pins s σ H Q I (m _ _ _ q)
theorem PW.mono {X : Cx} {e : Expr} {t t' : TT} (h : PW X e t) (m : ∀ σ H Q, t' σ H Q → t σ H Q) : PW X e t' := fun wh pins s σ H Q I q => h wh pins s σ H Q I (m _ _ _ q)

section
variable {X : Cx} {C : CallF} {a b c : Expr} {ia ib ic : E} {pos : Pos}

/-- an expression that is a bool, as a test -/
theorem tT_of {K : PySem.W.Frag} {ir : E} {σ : L2.St} {H : Hp} {Q : Bool → Hp → Prop} (h : tT K C ir σ H Q) : tB (tP K C ir) σ H Q := by
  obtain ⟨env, α, st, b, st', a, e, q⟩ := h
  exact ⟨env, α, st, _, st', a, e, fun w H' α' x r v => by
    have v' : w = .bl b := by simpa [RV, RP] using v
    exact ⟨b, v', q H' α' x r⟩⟩
theorem st_val {e : Expr} {ir : E} (h : SE X C e ir) (he : ∀ whole, isTrue e X.env whole = (do let v ← whole; standAt e.pos; holding [v] (truthy v)) := by intro _; rfl) : ST X C e ir :=
  PT.mono (pt_val h he) fun _ _ _ q => tT_of q

/-! ### names and constants -/
theorem se_var {i : Nat} {x : Str} (hN : X.N[i]? = some x) (hv : Vis X.env.scope x) (hd : (x == ("__debug__" : Str)) = false := by decide) (hcd : (x == ("__classdict__" : Str)) = false := by decide) : SE X C (.Name x pos) (.var i) :=
  PE.mono (pe_var hN hv hd hcd) fun σ H Q ⟨env, α, st, v, st', a, e, q⟩ => by
    rw [ev_var] at e
    unfold varOf at e
    cases h : env[i]? with
    | none => rw [h] at e; cases e
    | some o =>
      cases o with
      | none => rw [h] at e; cases e
      | some u =>
        rw [h] at e
        cases e
        obtain ⟨w, h1, h2⟩ := a.env i _ h
        exact ⟨w, h1, q w H α .refl a.rs h2⟩
theorem se_c {e : Expr} {v : V} {x : PV} (h : PE X e (tC v)) (r : ∀ H lv, RP X.K H lv x v) : SE X C e (.const x) :=
  PE.mono h fun σ H Q ⟨env, α, st, u, st', a, e, q⟩ => by
    rw [ev_const] at e
    cases e
    exact q v H α .refl a.rs (r _ _)
theorem se_int {i j} : SE X C (.Constant (.int i) j pos) (.const (.int i)) := se_c pe_int fun _ _ => by rw [RP]
theorem se_bl {i j} : SE X C (.Constant (.bool i) j pos) (.const (.bl i)) := se_c pe_bl fun _ _ => by rw [RP]
theorem se_non {j} : SE X C (.Constant .none j pos) (.const .non) := se_c pe_non fun _ _ => by rw [RP]
theorem se_str {x j} {cs : List Nat} (h : x = ⟨cs.toArray⟩) (hl : cs.length ≤ 1000) : SE X C (.Constant (.str x) j pos) (.const (.str cs)) := se_c pe_str fun _ _ => by
  rw [RP]; exact ⟨by rw [h], Nat.le_trans hl (by decide)⟩

/-! ### two-place operations -/
/-- f upon values does what g tells of the pure ones -/
def Op2 (X : Cx) (f : Value → Value → Sem Value) (g : PV → PV → Option PV) : Prop :=
  OpR X f fun x y H Q => ∃ α st px py z, RSt X.K α st H ∧ RW X.K α st H px x ∧ RW X.K α st H py y ∧ g px py = some z ∧
    ∀ w H', Same H H' → RP X.K H' (Live α st) z w → Q w H'
theorem se_op {op : Operator} {g : PV → PV → Option PV} {ir : E} (ho : Op2 X (binaryOp op) g) (ha : SE X C a ia) (hb : SE X C b ib)
    (hi : ∀ env st, evalE C ir env st = (evalE C ia env st).bind fun x st => (evalE C ib env st).bind fun y st => op2 g x y st) : SE X C (.BinOp a op b pos) ir :=
  PE.mono (pe_op ho ha hb) fun σ H Q ⟨env, α, st, v, st', at', e, q⟩ => by
    rw [hi] at e
    obtain ⟨va, st1, e1, e⟩ := Res.bind_inv e
    obtain ⟨vb, st2, e2, e⟩ := Res.bind_inv e
    obtain ⟨x, y, u, h1, h2, h3, h4, h5⟩ := op2_inv e
    subst h4 h5
    refine ⟨env, α, st, va, st1, at', e1, fun w H1 α1 x1 r1 v1 => ?_⟩
    refine ⟨env, α1, st1, vb, st', at'.next x1 r1, e2, fun w2 H2 α2 x2 r2 v2 => ?_⟩
    refine ⟨α2, st', x, y, u, r2, (x2.rv v1).view r2 h1, v2.view r2 h2, h3, fun w3 H3 s3 rp => ?_⟩
    exact q w3 H3 α2 (x1.trans (x2.trans (.of_same r2 s3))) (r2.same s3) rp
theorem se_cmp {op : CmpOp} {g : PV → PV → Option PV} {ir : E} (ho : Op2 X (compareOp op) g) (ha : SE X C a ia) (hb : SE X C b ib) (hm : behindInMarks op b = false)
    (hi : ∀ env st, evalE C ir env st = (evalE C ia env st).bind fun x st => (evalE C ib env st).bind fun y st => op2 g x y st) : SE X C (.Compare a [op] [b] pos) ir :=
  PE.mono (pe_cmpR ho ha hb hm) fun σ H Q ⟨env, α, st, v, st', at', e, q⟩ => by
    rw [hi] at e
    obtain ⟨va, st1, e1, e⟩ := Res.bind_inv e
    obtain ⟨vb, st2, e2, e⟩ := Res.bind_inv e
    obtain ⟨x, y, u, h1, h2, h3, h4, h5⟩ := op2_inv e
    subst h4 h5
    refine ⟨env, α, st, va, st1, at', e1, fun w H1 α1 x1 r1 v1 => ?_⟩
    refine ⟨env, α1, st1, vb, st', at'.next x1 r1, e2, fun w2 H2 α2 x2 r2 v2 => ?_⟩
    refine ⟨α2, st', x, y, u, r2, (x2.rv v1).view r2 h1, v2.view r2 h2, h3, fun w3 H3 s3 rp => ?_⟩
    exact q w3 H3 α2 (x1.trans (x2.trans (.of_same r2 s3))) (r2.same s3) rp
end
end OR
set_option Elab.async false
set_option linter.all false
set_option maxRecDepth 100000
set_option maxHeartbeats 1000000
/- operations upon values -/
namespace OR
open PySem L2 PySem.SeqAt
section
variable {K : PySem.W.Frag} {α : Al} {st : Store} {H : Hp} {x : V}
theorem RW.int {i : Int} (h : RW K α st H (.int i) x) : x = .int i := by
  rcases h with h | ⟨_, _, _, e, _⟩
  · rw [RP] at h; exact h
  · cases e
theorem RW.bl {b : Bool} (h : RW K α st H (.bl b) x) : x = .bl b := by
  rcases h with h | ⟨_, _, _, e, _⟩
  · rw [RP] at h; exact h
  · cases e
theorem RW.non (h : RW K α st H .non x) : x = .non := by
  rcases h with h | ⟨_, _, _, e, _⟩
  · rw [RP] at h; exact h
  · cases e
theorem RW.str {cs : List Nat} (h : RW K α st H (.str cs) x) : x = .str ⟨cs.toArray⟩ ∧ cs.length ≤ sizeLine := by
  rcases h with h | ⟨_, _, _, e, _⟩
  · rw [RP] at h; exact h
  · cases e
theorem RW.tup {xs : List PV} (h : RW K α st H (.tup xs) x) : ∃ a vs, x = .ref a ∧ SqT K H a vs ∧ RPs K H (Live α st) xs vs := by
  rcases h with h | ⟨_, _, _, e, _⟩
  · rw [RP] at h; exact h
  · cases e
theorem RW.lst {xs : List PV} (h : RW K α st H (.lst xs) x) : ∃ a vs, x = .ref a ∧ SqL K H a vs ∧ RPs K H (Live α st) xs vs := by
  rcases h with h | ⟨xs', a, vs, e, e2, q, r⟩
  · rw [RP] at h
    obtain ⟨a, vs, e, q, _, r⟩ := h
    exact ⟨a, vs, e, q, r⟩
  · cases e; exact ⟨a, vs, e2, q, r⟩
theorem SZ_eq : SZ = sizeLine := by unfold SZ; decide
end
section
variable {X : Cx}
/-- two ints -/
theorem Op2.ints {f : Value → Value → Sem Value} {Cn : Int → Int → Prop} {k : Int → Int → V} {g : PV → PV → Option PV} (ho : OpR X f (rI Cn k))
    (hg : ∀ x y z, g x y = some z → ∃ i j, x = .int i ∧ y = .int j ∧ Cn i j ∧ ∀ H lv, RP X.K H lv z (k i j)) : Op2 X f g := by
  intro pins s σ H x y v u Q I rx ry ⟨α, st, px, py, z, r, hx, hy, hz, q⟩
  obtain ⟨i, j, rfl, rfl, hc, hk⟩ := hg _ _ _ hz
  exact ho pins s σ H x y v u Q I rx ry ⟨i, j, hx.int, hy.int, hc, q _ _ (Same.refl H) (hk _ _)⟩
theorem Op2.ints0 {f : Value → Value → Sem Value} {k : Int → Int → V} {g : PV → PV → Option PV} (ho : OpR X f (rI0 k))
    (hg : ∀ x y z, g x y = some z → ∃ i j, x = .int i ∧ y = .int j ∧ ∀ H lv, RP X.K H lv z (k i j)) : Op2 X f g := by
  intro pins s σ H x y v u Q I rx ry ⟨α, st, px, py, z, r, hx, hy, hz, q⟩
  obtain ⟨i, j, rfl, rfl, hk⟩ := hg _ _ _ hz
  exact ho pins s σ H x y v u Q I rx ry ⟨i, j, hx.int, hy.int, q _ _ (Same.refl H) (hk _ _)⟩
theorem o_sub : Op2 X (binaryOp .Sub) bSub := Op2.ints0 op_sub fun x y z h => by
  cases x <;> cases y <;> simp [bSub] at h
  exact ⟨_, _, rfl, rfl, fun _ _ => by rw [← h, RP]⟩
theorem o_mulI : OpR X (binaryOp .Mult) (fun x y H Q => ∃ i j, x = .int i ∧ y = .int j ∧ (small64 i || small64 j) = true ∧ Q (.int (i * j)) H) := by
  intro pins s σ H x y v u Q I rx ry ⟨i, j, h1, h2, hc, q⟩
  refine op_mul pins s σ H x y v u Q I rx ry ⟨i, j, h1, h2, ?_, q⟩
  rcases (Bool.or_eq_true _ _).mp hc with c | c
  · exact .inl (of_decide_eq_true c)
  · exact .inr (of_decide_eq_true c)
theorem foldl_flat (n : Nat) (a : List Nat) : (List.replicate n a.toArray).foldl (· ++ ·) #[] = ((List.replicate n a).flatten).toArray := by
  have gen : ∀ (n : Nat) (b : List Nat), (List.replicate n a.toArray).foldl (· ++ ·) b.toArray = (b ++ (List.replicate n a).flatten).toArray := by
    intro n
    induction n with
    | zero => intro b; simp
    | succ n ih =>
      intro b
      rw [List.replicate_succ, List.foldl_cons, List.append_toArray, ih, List.replicate_succ, List.flatten_cons, List.append_assoc]
  exact gen n []
theorem flat_len (n : Nat) (a : List Nat) : (List.replicate n a).flatten.length = a.length * n := by
  rw [List.length_flatten, List.map_replicate, List.sum_replicate_nat, Nat.mul_comm]
theorem str_len0 (cs : List Nat) : (Str.length ⟨cs.toArray⟩) = cs.length := by simp [Str.length]
theorem o_mul : Op2 X (binaryOp .Mult) bMul := by
  intro pins s σ H x y v u Q I rx ry ⟨α, st, px, py, z, r, hx, hy, hz, q⟩
  cases px <;> cases py <;> simp only [bMul, Option.ite_none_right_eq_some, reduceCtorEq, Option.some.injEq] at hz
  · obtain ⟨hc, hz⟩ := hz
    exact o_mulI pins s σ H x y v u Q I rx ry ⟨_, _, hx.int, hy.int, hc, q _ _ (Same.refl H) (by rw [← hz, RP])⟩
  · rename_i a n
    obtain ⟨⟨h0, h1, h2⟩, hz⟩ := hz
    rw [SZ_eq] at h2
    obtain ⟨e1, hl⟩ := hx.str
    have e2 := hy.int
    subst e1 e2
    obtain ⟨t1, rfl⟩ := rx
    obtain ⟨t2, rfl⟩ := ry
    have hsz : sizeLine = 16777216 := by decide
    refine PySem.P.mul_str (by simp; omega) (fun g1 g2 => ?_) (fun g1 g2 => ?_) ?_
    · rw [str_len0]
      have : (16777216 : Int) ≤ (2 ^ 63 - 1) / n := by
        rw [Int.le_ediv_iff_mul_le (by omega)]
        omega
      omega
    · rw [str_len0]
      unfold Builtin.Str.tooLong
      exact decide_eq_false (by omega)
    · split
      · have e0 : n = 0 := by omega
        subst e0
        exact ⟨by decide, .str _, H, I.tok _, ⟨_, rfl⟩, q _ _ (Same.refl H) (by rw [← hz, RP]; exact ⟨by rfl, by simp⟩)⟩
      · split
        · rename_i g1 g2
          refine ⟨.str _, H, I, ⟨_, rfl⟩, q _ _ (Same.refl H) ?_⟩
          rw [← hz, RP]
          rcases (Bool.or_eq_true _ _).mp g2 with c | c
          · have c' : n = 1 := eq_of_beq c
            subst c'
            have : (List.replicate (1 : Int).toNat a).flatten = a := by simp
            rw [this]
            exact ⟨rfl, hl⟩
          · have c' : a.length = 0 := by rw [str_len0] at c; exact eq_of_beq c
            have c2 : a = [] := List.eq_nil_of_length_eq_zero c'
            subst c2
            have : (List.replicate n.toNat ([] : List Nat)).flatten = [] := by simp
            rw [this]
            exact ⟨rfl, by simp⟩
        · have e3 : (List.replicate n.toNat (⟨a.toArray⟩ : Str).cps).foldl (· ++ ·) #[] = ((List.replicate n.toNat a).flatten).toArray := foldl_flat n.toNat a
          rw [e3]
          exact ⟨by rw [str_len0, flat_len]; exact h2, .str _, H, I.tok _, ⟨_, rfl⟩, q _ _ (Same.refl H) (by rw [← hz, RP]; exact ⟨rfl, by rw [flat_len]; exact h2⟩)⟩
theorem op_fdivB : OpR X (binaryOp .FloorDiv) (rI (fun _ j => 0 < j ∧ j < 1000000000000000000000000000000) fun i j => .int (i / j)) := opI fun i j _ _ _ _ _ hc q => by
  have h1 : (0 : Int) < j := hc.1
  have h2 : j < 1000000000000000000000000000000 := hc.2
  refine PyProof.Rows.floordiv_int (by omega) (by rw [Int.fdiv_eq_ediv_of_nonneg i (by omega)]; exact q) (.inl (PyProof.noPylong_of_log2 ?_))
  have h3 : j.natAbs.log2 < 100 := (Nat.log2_lt (by omega)).mpr (by omega)
  omega
theorem o_fdiv : Op2 X (binaryOp .FloorDiv) bFdiv := Op2.ints op_fdivB fun x y z h => by
  cases x <;> cases y <;> simp only [bFdiv, Option.ite_none_right_eq_some, reduceCtorEq, Option.some.injEq] at h
  exact ⟨_, _, rfl, rfl, h.1, fun _ _ => by rw [← h.2, RP]⟩
theorem o_mod : Op2 X (binaryOp .Mod) bMod := Op2.ints op_mod fun x y z h => by
  cases x <;> cases y <;> simp only [bMod, Option.ite_none_right_eq_some, reduceCtorEq, Option.some.injEq] at h
  exact ⟨_, _, rfl, rfl, h.1, fun _ _ => by rw [← h.2, RP]⟩
theorem o_pow : Op2 X (binaryOp .Pow) bPow := Op2.ints op_pow fun x y z h => by
  cases x <;> cases y <;> simp only [bPow, Option.ite_none_right_eq_some, reduceCtorEq, Option.some.injEq] at h
  obtain ⟨⟨h1, h2, h3⟩, h⟩ := h
  refine ⟨_, _, rfl, rfl, ⟨h1, h2, ?_⟩, fun _ _ => by rw [← h, RP]⟩
  have := of_decide_eq_true h3
  omega
theorem o_lt : Op2 X (compareOp .Lt) (cInt fun i j => decide (i < j)) := Op2.ints0 op_lt fun x y z h => by
  cases x <;> cases y <;> simp only [cInt, reduceCtorEq, Option.some.injEq] at h
  exact ⟨_, _, rfl, rfl, fun _ _ => by rw [← h, RP]⟩
theorem o_le : Op2 X (compareOp .LtE) (cInt fun i j => decide (i ≤ j)) := Op2.ints0 op_le fun x y z h => by
  cases x <;> cases y <;> simp only [cInt, reduceCtorEq, Option.some.injEq] at h
  exact ⟨_, _, rfl, rfl, fun _ _ => by rw [← h, RP]⟩
theorem o_gt : Op2 X (compareOp .Gt) (cInt fun i j => decide (j < i)) := Op2.ints0 op_gt fun x y z h => by
  cases x <;> cases y <;> simp only [cInt, reduceCtorEq, Option.some.injEq] at h
  exact ⟨_, _, rfl, rfl, fun _ _ => by rw [← h, RP]⟩
theorem o_ge : Op2 X (compareOp .GtE) (cInt fun i j => decide (j ≤ i)) := Op2.ints0 op_ge fun x y z h => by
  cases x <;> cases y <;> simp only [cInt, reduceCtorEq, Option.some.injEq] at h
  exact ⟨_, _, rfl, rfl, fun _ _ => by rw [← h, RP]⟩
theorem str_len (cs : List Nat) : (Str.length ⟨cs.toArray⟩) = cs.length := by simp [Str.length]
theorem str_cat (a b : List Nat) : ((⟨a.toArray⟩ : Str) ++ (⟨b.toArray⟩ : Str)) = ⟨(a ++ b).toArray⟩ := by
  show (Str.mk (a.toArray ++ b.toArray)) = _
  simp
theorem o_add : Op2 X (binaryOp .Add) bAdd := by
  intro pins s σ H x y v u Q I rx ry ⟨α, st, px, py, z, r, hx, hy, hz, q⟩
  cases px <;> cases py <;> simp only [bAdd, Option.ite_none_right_eq_some, reduceCtorEq, Option.some.injEq] at hz
  · exact op_add pins s σ H x y v u Q I rx ry ⟨_, _, hx.int, hy.int, q _ _ (Same.refl H) (by rw [← hz, RP])⟩
  · rename_i a b
    obtain ⟨hl, hz⟩ := hz
    rw [SZ_eq] at hl
    refine op_add_str pins s σ H x y v u Q I rx ry ⟨_, _, hx.str.1, hy.str.1, by rw [str_len, str_len]; exact hl, ?_⟩
    rw [str_cat]
    exact q _ _ (Same.refl H) (by rw [← hz, RP]; exact ⟨rfl, by rw [List.length_append]; exact hl⟩)
  · rename_i a b
    obtain ⟨⟨hn, hl⟩, hz⟩ := hz
    rw [SZ_eq] at hl
    obtain ⟨l1, vs, rfl, h1, h2⟩ := hx.tup
    obtain ⟨l2, ws, rfl, h3, h4⟩ := hy.tup
    have e1 := h2.length
    have e2 := h4.length
    refine op_catT pins s σ H _ _ v u Q I rx ry ⟨l1, l2, vs, ws, rfl, rfl, h1, h3, fun e => hn (by subst e; simpa using e1), by omega, fun e => ?_, fun e p hp => ?_⟩
    · subst e
      have : b = [] := by simpa using e2
      subst this
      exact q _ _ (Same.refl H) (by rw [← hz, RP, List.append_nil]; exact ⟨l1, vs, rfl, h1, h2⟩)
    · have s1 : Same H (upd H p (.tup (vs ++ ws))) := same_new hp _
      refine q _ _ s1 ?_
      rw [← hz, RP]
      exact ⟨p, _, rfl, SqT.of upd_same, ((Ext.of_same r s1).rps h2).append ((Ext.of_same r s1).rps h4)⟩
  · rename_i a b
    obtain ⟨hl, hz⟩ := hz
    rw [SZ_eq] at hl
    obtain ⟨l1, vs, rfl, h1, h2⟩ := hx.lst
    obtain ⟨l2, ws, rfl, h3, h4⟩ := hy.lst
    have e1 := h2.length
    have e2 := h4.length
    cases rx
    cases ry
    obtain ⟨its, r1, p1, _⟩ := I.list h1
    obtain ⟨its2, r2, p2, _⟩ := I.list h3
    obtain ⟨⟨cls, dd, data, sl⟩, n, ho, hc, _, hd⟩ := id p1
    obtain ⟨⟨cls2, dd2, data2, sl2⟩, n2, ho2, hc2, _, hd2⟩ := id p2
    simp only at hc hd hc2 hd2
    subst hc hd hc2 hd2
    have q1 := r1.length
    have q2 := r2.length
    refine PySem.concat_meets ⟨_, ho, rfl⟩ ⟨_, ho2, rfl⟩ PySem.noFill_list_add PySem.seq_list_add PySem.F.slot_list_add PySem.F.entry_list_add (PySem.F.args_list_add_2 _ _) (PyProof.Rows.list_addW l1 l2 its.toArray its2.toArray n n2 dd dd2 sl sl2 (by simp; omega)) ⟨ho, ho2, ?_⟩
    have ea : its.toArray ++ its2.toArray = (its ++ its2).toArray := by simp
    rw [ea]
    have s1 : Same H (upd H s.heap.objs.size (.lst (vs ++ ws))) := same_new I.fresh _
    refine ⟨.ref _, _, I.lnew (t' := s.toks) (r1.append r2) (by rw [List.length_append]; omega), rfl, q _ _ s1 ?_⟩
    rw [← hz, RP]
    exact ⟨_, _, rfl, SqL.of upd_same, r.notlive I.fresh, ((Ext.of_same r s1).rps h2).append ((Ext.of_same r s1).rps h4)⟩
end
end OR
set_option Elab.async false
set_option linter.all false
set_option maxRecDepth 100000
set_option maxHeartbeats 1000000
/- == and in -/
namespace OR
open PySem L2 PySem.SeqAt
mutual
theorem pyEq_refl : ∀ x : PV, pyEq x x = true
  | .non => by simp [pyEq]
  | .bl _ => by simp [pyEq]
  | .int _ => by simp [pyEq]
  | .str _ => by simp [pyEq]
  | .tup xs => by rw [pyEq]; exact pyEqs_refl xs
  | .lst xs => by rw [pyEq]; exact pyEqs_refl xs
theorem pyEqs_refl : ∀ xs : List PV, pyEqs xs xs = true
  | [] => by simp [pyEqs]
  | x :: r => by rw [pyEqs, pyEq_refl x, pyEqs_refl r]; rfl
end
theorem pyEqs_all : ∀ xs ys : List PV, pyEqs xs ys = ((List.range (min xs.length ys.length)).all (fun j => pyEq (xs.getD j .non) (ys.getD j .non)) && (xs.length == ys.length))
  | [], [] => by simp [pyEqs]
  | [], _ :: _ => by simp [pyEqs]
  | _ :: _, [] => by simp [pyEqs]
  | x :: r, y :: s => by
    rw [pyEqs, pyEqs_all r s]
    have e : min (x :: r).length (y :: s).length = min r.length s.length + 1 := by simp
    rw [e, List.range_succ_eq_map, List.all_cons, List.all_map]
    have e2 : ((x :: r).length == (y :: s).length) = (r.length == s.length) := by simp
    rw [e2, Bool.and_assoc]
    rfl
theorem dep_get : ∀ {xs : List PV} {j : Nat} {x : PV}, xs[j]? = some x → dep x ≤ deps xs
  | [], _, _, h => by simp at h
  | y :: r, 0, x, h => by simp at h; subst h; simp; omega
  | y :: r, j + 1, x, h => by
    have := dep_get (xs := r) (j := j) (x := x) (by simpa using h)
    simp; omega
theorem str_eq (a b : List Nat) : ((⟨a.toArray⟩ : Str) == ⟨b.toArray⟩) = decide (a = b) := by
  by_cases h : a = b
  · subst h; simp
  · rw [decide_eq_false h, beq_eq_false_iff_ne]
    intro e
    injection e with e
    exact h (by simpa using congrArg Array.toList e)
section
variable {X : Cx} {pins : List (Addr × Obj)} {σ : L2.St} {H : Hp} {s : Shared} {lv : Addr → Prop}
theorem no_both {a : Addr} {vs ws : List V} (I : Inv X pins σ H s) (h1 : SqT X.K H a vs) (h2 : SqL X.K H a ws) : False := by
  obtain ⟨_, _, p1, _⟩ := I.tuple h1
  obtain ⟨_, _, p2, _⟩ := I.list h2
  exact ne_of_list_tuple p2.isList p1 rfl
mutual
theorem RP.inj (I : Inv X pins σ H s) : ∀ (x y : PV) (v : V), RP X.K H lv x v → RP X.K H lv y v → x = y
  | .non, y, v, h, g => by
    rw [RP] at h; subst h
    cases y with
    | non => rfl
    | bl c => rw [RP] at g; cases g
    | int c => rw [RP] at g; cases g
    | str c => rw [RP] at g; cases g.1
    | tup c => rw [RP] at g; obtain ⟨_, _, e, _⟩ := g; cases e
    | lst c => rw [RP] at g; obtain ⟨_, _, e, _⟩ := g; cases e
  | .bl b, y, v, h, g => by
    rw [RP] at h; subst h
    cases y with
    | non => rw [RP] at g; cases g
    | bl c => rw [RP] at g; cases g; rfl
    | int c => rw [RP] at g; cases g
    | str c => rw [RP] at g; cases g.1
    | tup c => rw [RP] at g; obtain ⟨_, _, e, _⟩ := g; cases e
    | lst c => rw [RP] at g; obtain ⟨_, _, e, _⟩ := g; cases e
  | .int b, y, v, h, g => by
    rw [RP] at h; subst h
    cases y with
    | non => rw [RP] at g; cases g
    | bl c => rw [RP] at g; cases g
    | int c => rw [RP] at g; cases g; rfl
    | str c => rw [RP] at g; cases g.1
    | tup c => rw [RP] at g; obtain ⟨_, _, e, _⟩ := g; cases e
    | lst c => rw [RP] at g; obtain ⟨_, _, e, _⟩ := g; cases e
  | .str cs, y, v, h, g => by
    rw [RP] at h
    obtain ⟨h, _⟩ := h
    subst h
    cases y with
    | str c =>
      rw [RP] at g
      obtain ⟨e, _⟩ := g
      injection e with e
      injection e with e
      exact congrArg PV.str (by simpa using congrArg Array.toList e)
    | tup c => rw [RP] at g; obtain ⟨_, _, e, _⟩ := g; cases e
    | lst c => rw [RP] at g; obtain ⟨_, _, e, _⟩ := g; cases e
    | non => rw [RP] at g; cases g
    | bl c => rw [RP] at g; cases g
    | int c => rw [RP] at g; cases g
  | .tup xs, y, v, h, g => by
    rw [RP] at h
    obtain ⟨a, vs, rfl, h1, h2⟩ := h
    cases y with
    | tup ys =>
      rw [RP] at g
      obtain ⟨b, ws, e, g1, g2⟩ := g
      cases e
      have := I.tuple_inj h1 g1
      subst this
      rw [RPs.inj I xs ys vs h2 g2]
    | lst ys =>
      rw [RP] at g
      obtain ⟨b, ws, e, g1, _⟩ := g
      cases e
      exact (no_both I h1 g1).elim
    | str _ => rw [RP] at g; cases g.1
    | _ => rw [RP] at g; cases g
  | .lst xs, y, v, h, g => by
    rw [RP] at h
    obtain ⟨a, vs, rfl, h1, _, h2⟩ := h
    cases y with
    | lst ys =>
      rw [RP] at g
      obtain ⟨b, ws, e, g1, _, g2⟩ := g
      cases e
      have := I.list_inj h1 g1
      subst this
      rw [RPs.inj I xs ys vs h2 g2]
    | tup ys =>
      rw [RP] at g
      obtain ⟨b, ws, e, g1, _⟩ := g
      cases e
      exact (no_both I g1 h1).elim
    | str _ => rw [RP] at g; cases g.1
    | _ => rw [RP] at g; cases g
theorem RPs.inj (I : Inv X pins σ H s) : ∀ (xs ys : List PV) (vs : List V), RPs X.K H lv xs vs → RPs X.K H lv ys vs → xs = ys
  | [], ys, vs, h, g => by
    rw [RPs] at h; subst h
    cases ys with
    | nil => rfl
    | cons y r => rw [RPs] at g; obtain ⟨_, _, e, _⟩ := g; cases e
  | x :: r, ys, vs, h, g => by
    rw [RPs] at h
    obtain ⟨v, vr, rfl, h1, h2⟩ := h
    cases ys with
    | nil => rw [RPs] at g; cases g
    | cons y q =>
      rw [RPs] at g
      obtain ⟨w, wr, e, g1, g2⟩ := g
      cases e
      rw [RP.inj I x y _ h1 g1, RPs.inj I r q _ h2 g2]
end
/-- items of a pure list, by places -/
theorem RPs.at {xs : List PV} {vs : List V} {its : List Value} (h : RPs X.K H lv xs vs) (r : Vals vs its) {j : Nat} (hj : j < its.length) :
    ∃ x v, xs[j]? = some x ∧ xs.getD j .non = x ∧ RP X.K H lv x v ∧ RelV v its[j] := by
  have e1 := h.length
  have e2 := r.length
  have hx : xs[j]? = some xs[j] := List.getElem?_eq_getElem (by omega)
  obtain ⟨v, h1, h2⟩ := h.get hx
  obtain ⟨u, h3, h4⟩ := r.get h1
  refine ⟨xs[j], v, hx, by rw [List.getD_eq_getElem?_getD, hx]; rfl, h2, ?_⟩
  rw [List.getElem?_eq_getElem hj] at h3
  cases h3
  exact h4
theorem RW.inj {α : Al} {st : Store} (I : Inv X pins σ H s) {x y : PV} {v : V} (h : RW X.K α st H x v) (g : RW X.K α st H y v) : x = y := by
  rcases h with h | ⟨xs, a, vs, rfl, rfl, h1, h2⟩
  · rcases g with g | ⟨ys, b, ws, rfl, rfl, g1, g2⟩
    · exact RP.inj I x y v h g
    · cases x with
      | lst xs =>
        rw [RP] at h
        obtain ⟨a, vs, e, h1, _, h2⟩ := h
        cases e
        have := I.list_inj h1 g1
        subst this
        rw [RPs.inj I _ _ _ h2 g2]
      | tup xs =>
        rw [RP] at h
        obtain ⟨a, vs, e, h1, h2⟩ := h
        cases e
        exact (no_both I h1 g1).elim
      | str _ => rw [RP] at h; cases h.1
      | _ => rw [RP] at h; cases h
  · cases y with
    | lst ys =>
      obtain ⟨b, ws, e, g1, g2⟩ := g.lst
      cases e
      have := I.list_inj h1 g1
      subst this
      rw [RPs.inj I _ _ _ h2 g2]
    | tup ys =>
      obtain ⟨b, ws, e, g1, g2⟩ := g.tup
      cases e
      exact (no_both I g1 h1).elim
    | str _ => cases g.str.1
    | int _ => cases g.int
    | bl _ => cases g.bl
    | non => cases g.non
/-- two sequences item by item -/
theorem eq_at_items {α : Al} {st : Store} {n : Nat} {A : Around} {xs ys : List PV} {vs ws : List V} {its its2 : List Value}
    (ih : ∀ (px py : PV) (x y : V) (v u : Value) (A : Around), RW X.K α st H px x → RW X.K α st H py y → RelV x v → RelV y u → (dep px ≤ n ∨ dep py ≤ n) → A.units + n + 1 < cLine → RcAt A s v u (pyEq px py) ∧ EqAt A s v u (pyEq px py))
    (hx : RPs X.K H (Live α st) xs vs) (hy : RPs X.K H (Live α st) ys ws) (r1 : Vals vs its) (r2 : Vals ws its2) (hd : deps xs ≤ n ∨ deps ys ≤ n) (hu : A.units + (n + 1) + 1 < cLine) :
    ∀ j (h1 : j < its.toArray.size) (h2 : j < its2.toArray.size), EqAt A.in1 s its.toArray[j] its2.toArray[j] (pyEq (xs.getD j .non) (ys.getD j .non)) := by
  intro j h1 h2
  simp only [List.size_toArray] at h1 h2
  obtain ⟨x, v, a1, a2, a3, a4⟩ := hx.at r1 h1
  obtain ⟨y, u, b1, b2, b3, b4⟩ := hy.at r2 h2
  rw [a2, b2]
  have da := dep_get a1
  have db := dep_get b1
  have hu' : A.in1.units + n + 1 < cLine := by show A.units + 1 + n + 1 < cLine; omega
  simpa using (ih x y v u _ _ A.in1 (.inl a3) (.inl b3) a4 b4 (by omega) hu').2
/-- one step of it -/
theorem eq_at_step {α : Al} {st : Store} (I : Inv X pins σ H s) {n : Nat}
    (ih : 0 < n → ∀ (px py : PV) (x y : V) (v u : Value) (A : Around), RW X.K α st H px x → RW X.K α st H py y → RelV x v → RelV y u → (dep px ≤ n - 1 ∨ dep py ≤ n - 1) → A.units + (n - 1) + 1 < cLine → RcAt A s v u (pyEq px py) ∧ EqAt A s v u (pyEq px py))
    (px py : PV) (x y : V) (v u : Value) (A : Around) (hx : RW X.K α st H px x) (hy : RW X.K α st H py y) (rx : RelV x v) (ry : RelV y u) (hd : dep px ≤ n ∨ dep py ≤ n) (hu : A.units + n + 1 < cLine) :
    RcAt A s v u (pyEq px py) ∧ EqAt A s v u (pyEq px py) := by
  have hu0 : A.units < cLine := by omega
  have seqT : ∀ {xs : List PV} {w : V} {uu : Value}, RW X.K α st H (.tup xs) w → RelV w uu → ∃ a vs its, w = .ref a ∧ uu = .ref a ∧ RPs X.K H (Live α st) xs vs ∧ Vals vs its ∧ s.heap.IsTuple a its.toArray := fun h r => by
    obtain ⟨a, vs, rfl, h1, h2⟩ := h.tup
    cases r
    obtain ⟨its, r1, p, _⟩ := I.tuple h1
    exact ⟨a, vs, its, rfl, rfl, h2, r1, p⟩
  have seqL : ∀ {xs : List PV} {w : V} {uu : Value}, RW X.K α st H (.lst xs) w → RelV w uu → ∃ a vs its, w = .ref a ∧ uu = .ref a ∧ RPs X.K H (Live α st) xs vs ∧ Vals vs its ∧ s.heap.IsList a its.toArray := fun h r => by
    obtain ⟨a, vs, rfl, h1, h2⟩ := h.lst
    cases r
    obtain ⟨its, r1, p, _⟩ := I.list h1
    exact ⟨a, vs, its, rfl, rfl, h2, r1, p.isList⟩
  cases px with
  | non =>
    cases py with
    | non =>
      obtain rfl : x = V.non := hx.non
      obtain rfl : v = Value.none := rx
      obtain rfl : y = V.non := hy.non
      obtain rfl : u = Value.none := ry
      have e : pyEq .non .non = true := by simp [pyEq]
      rw [e]
      exact ⟨.none_none, .same _⟩
    | bl e2 =>
      obtain rfl : x = V.non := hx.non
      obtain rfl : v = Value.none := rx
      obtain rfl := hy.bl
      obtain rfl : u = Value.bool _ := ry
      have e : pyEq .non (.bl e2) = false := by simp [pyEq]
      rw [e]
      exact ⟨.none_bool _, .none_bool _⟩
    | int e2 =>
      obtain rfl : x = V.non := hx.non
      obtain rfl : v = Value.none := rx
      obtain rfl := hy.int
      obtain ⟨t', rfl⟩ := ry
      have e : pyEq .non (.int e2) = false := by simp [pyEq]
      rw [e]
      exact ⟨.none_int _ _, .none_int _ _⟩
    | str e2 =>
      obtain rfl : x = V.non := hx.non
      obtain rfl : v = Value.none := rx
      obtain rfl := hy.str.1
      obtain ⟨t', rfl⟩ := ry
      have e : pyEq .non (.str e2) = false := by simp [pyEq]
      rw [e]
      exact ⟨.none_str _ _, .none_str _ _⟩
    | tup e2 =>
      obtain rfl : x = V.non := hx.non
      obtain rfl : v = Value.none := rx
      obtain ⟨b, ws, its2, rfl, rfl, q2, r2, p2⟩ := seqT hy ry
      have e : pyEq .non (.tup e2) = false := by simp [pyEq]
      rw [e]
      exact ⟨.none_tuple p2 hu0, .none_tuple p2 hu0⟩
    | lst e2 =>
      obtain rfl : x = V.non := hx.non
      obtain rfl : v = Value.none := rx
      obtain ⟨b, ws, its2, rfl, rfl, q2, r2, p2⟩ := seqL hy ry
      have e : pyEq .non (.lst e2) = false := by simp [pyEq]
      rw [e]
      exact ⟨.none_list p2 hu0, .none_list p2 hu0⟩
  | bl e1 =>
    cases py with
    | non =>
      obtain rfl := hx.bl
      obtain rfl : v = Value.bool _ := rx
      obtain rfl : y = V.non := hy.non
      obtain rfl : u = Value.none := ry
      have e : pyEq (.bl e1) .non = false := by simp [pyEq]
      rw [e]
      exact ⟨.bool_none _, .bool_none _⟩
    | bl e2 =>
      obtain rfl := hx.bl
      obtain rfl : v = Value.bool _ := rx
      obtain rfl := hy.bl
      obtain rfl : u = Value.bool _ := ry
      rw [pyEq]
      exact ⟨.bool_bool _ _, .bool_bool _ _⟩
    | int e2 =>
      obtain rfl := hx.bl
      obtain rfl : v = Value.bool _ := rx
      obtain rfl := hy.int
      obtain ⟨t', rfl⟩ := ry
      rw [pyEq]
      exact ⟨.bool_int _ _ _, .bool_int _ _ _⟩
    | str e2 =>
      obtain rfl := hx.bl
      obtain rfl : v = Value.bool _ := rx
      obtain rfl := hy.str.1
      obtain ⟨t', rfl⟩ := ry
      have e : pyEq (.bl e1) (.str e2) = false := by simp [pyEq]
      rw [e]
      exact ⟨.bool_str _ _ _, .bool_str _ _ _⟩
    | tup e2 =>
      obtain rfl := hx.bl
      obtain rfl : v = Value.bool _ := rx
      obtain ⟨b, ws, its2, rfl, rfl, q2, r2, p2⟩ := seqT hy ry
      have e : pyEq (.bl e1) (.tup e2) = false := by simp [pyEq]
      rw [e]
      exact ⟨.bool_tuple _ p2 hu0, .bool_tuple _ p2 hu0⟩
    | lst e2 =>
      obtain rfl := hx.bl
      obtain rfl : v = Value.bool _ := rx
      obtain ⟨b, ws, its2, rfl, rfl, q2, r2, p2⟩ := seqL hy ry
      have e : pyEq (.bl e1) (.lst e2) = false := by simp [pyEq]
      rw [e]
      exact ⟨.bool_list _ p2 hu0, .bool_list _ p2 hu0⟩
  | int e1 =>
    cases py with
    | non =>
      obtain rfl := hx.int
      obtain ⟨t, rfl⟩ := rx
      obtain rfl : y = V.non := hy.non
      obtain rfl : u = Value.none := ry
      have e : pyEq (.int e1) .non = false := by simp [pyEq]
      rw [e]
      exact ⟨.int_none _ _, .int_none _ _⟩
    | bl e2 =>
      obtain rfl := hx.int
      obtain ⟨t, rfl⟩ := rx
      obtain rfl := hy.bl
      obtain rfl : u = Value.bool _ := ry
      rw [pyEq]
      exact ⟨.int_bool _ _ _, .int_bool _ _ _⟩
    | int e2 =>
      obtain rfl := hx.int
      obtain ⟨t, rfl⟩ := rx
      obtain rfl := hy.int
      obtain ⟨t', rfl⟩ := ry
      rw [pyEq]
      exact ⟨.int_int _ _ _ _, .int_int _ _ _ _⟩
    | str e2 =>
      obtain rfl := hx.int
      obtain ⟨t, rfl⟩ := rx
      obtain rfl := hy.str.1
      obtain ⟨t', rfl⟩ := ry
      have e : pyEq (.int e1) (.str e2) = false := by simp [pyEq]
      rw [e]
      exact ⟨.int_str _ _ _ _, .int_str _ _ _ _⟩
    | tup e2 =>
      obtain rfl := hx.int
      obtain ⟨t, rfl⟩ := rx
      obtain ⟨b, ws, its2, rfl, rfl, q2, r2, p2⟩ := seqT hy ry
      have e : pyEq (.int e1) (.tup e2) = false := by simp [pyEq]
      rw [e]
      exact ⟨.int_tuple _ _ p2 hu0, .int_tuple _ _ p2 hu0⟩
    | lst e2 =>
      obtain rfl := hx.int
      obtain ⟨t, rfl⟩ := rx
      obtain ⟨b, ws, its2, rfl, rfl, q2, r2, p2⟩ := seqL hy ry
      have e : pyEq (.int e1) (.lst e2) = false := by simp [pyEq]
      rw [e]
      exact ⟨.int_list _ _ p2 hu0, .int_list _ _ p2 hu0⟩
  | str e1 =>
    cases py with
    | non =>
      obtain rfl := hx.str.1
      obtain ⟨t, rfl⟩ := rx
      obtain rfl : y = V.non := hy.non
      obtain rfl : u = Value.none := ry
      have e : pyEq (.str e1) .non = false := by simp [pyEq]
      rw [e]
      exact ⟨.str_none _ _, .str_none _ _⟩
    | bl e2 =>
      obtain rfl := hx.str.1
      obtain ⟨t, rfl⟩ := rx
      obtain rfl := hy.bl
      obtain rfl : u = Value.bool _ := ry
      have e : pyEq (.str e1) (.bl e2) = false := by simp [pyEq]
      rw [e]
      exact ⟨.str_bool _ _ _, .str_bool _ _ _⟩
    | int e2 =>
      obtain rfl := hx.str.1
      obtain ⟨t, rfl⟩ := rx
      obtain rfl := hy.int
      obtain ⟨t', rfl⟩ := ry
      have e : pyEq (.str e1) (.int e2) = false := by simp [pyEq]
      rw [e]
      exact ⟨.str_int _ _ _ _, .str_int _ _ _ _⟩
    | str e2 =>
      obtain rfl := hx.str.1
      obtain ⟨t, rfl⟩ := rx
      obtain rfl := hy.str.1
      obtain ⟨t', rfl⟩ := ry
      have e : pyEq (.str e1) (.str e2) = ((⟨e1.toArray⟩ : Str) == ⟨e2.toArray⟩) := by rw [str_eq, pyEq]
      rw [e]
      exact ⟨.str_str _ _ _ _, .str_str _ _ _ _⟩
    | tup e2 =>
      obtain rfl := hx.str.1
      obtain ⟨t, rfl⟩ := rx
      obtain ⟨b, ws, its2, rfl, rfl, q2, r2, p2⟩ := seqT hy ry
      have e : pyEq (.str e1) (.tup e2) = false := by simp [pyEq]
      rw [e]
      exact ⟨.str_tuple _ _ p2 hu0, .str_tuple _ _ p2 hu0⟩
    | lst e2 =>
      obtain rfl := hx.str.1
      obtain ⟨t, rfl⟩ := rx
      obtain ⟨b, ws, its2, rfl, rfl, q2, r2, p2⟩ := seqL hy ry
      have e : pyEq (.str e1) (.lst e2) = false := by simp [pyEq]
      rw [e]
      exact ⟨.str_list _ _ p2 hu0, .str_list _ _ p2 hu0⟩
  | tup e1 =>
    cases py with
    | non =>
      obtain ⟨a, vs, its, rfl, rfl, q1, r1, p1⟩ := seqT hx rx
      obtain rfl : y = V.non := hy.non
      obtain rfl : u = Value.none := ry
      have e : pyEq (.tup e1) .non = false := by simp [pyEq]
      rw [e]
      exact ⟨.tuple_none p1 hu0, .tuple_none p1 hu0⟩
    | bl e2 =>
      obtain ⟨a, vs, its, rfl, rfl, q1, r1, p1⟩ := seqT hx rx
      obtain rfl := hy.bl
      obtain rfl : u = Value.bool _ := ry
      have e : pyEq (.tup e1) (.bl e2) = false := by simp [pyEq]
      rw [e]
      exact ⟨.tuple_bool _ p1 hu0, .tuple_bool _ p1 hu0⟩
    | int e2 =>
      obtain ⟨a, vs, its, rfl, rfl, q1, r1, p1⟩ := seqT hx rx
      obtain rfl := hy.int
      obtain ⟨t', rfl⟩ := ry
      have e : pyEq (.tup e1) (.int e2) = false := by simp [pyEq]
      rw [e]
      exact ⟨.tuple_int _ _ p1 hu0, .tuple_int _ _ p1 hu0⟩
    | str e2 =>
      obtain ⟨a, vs, its, rfl, rfl, q1, r1, p1⟩ := seqT hx rx
      obtain rfl := hy.str.1
      obtain ⟨t', rfl⟩ := ry
      have e : pyEq (.tup e1) (.str e2) = false := by simp [pyEq]
      rw [e]
      exact ⟨.tuple_str _ _ p1 hu0, .tuple_str _ _ p1 hu0⟩
    | tup e2 =>
      obtain ⟨a, vs, its, rfl, rfl, q1, r1, p1⟩ := seqT hx rx
      obtain ⟨b, ws, its2, rfl, rfl, q2, r2, p2⟩ := seqT hy ry
      have hn : 0 < n := by simp at hd; omega
      have hd' : deps e1 ≤ n - 1 ∨ deps e2 ≤ n - 1 := by simp at hd; omega
      have it := eq_at_items (n := n - 1) (A := A) (ih hn) q1 q2 r1 r2 hd' (by omega)
      have l1 := q1.length
      have l2 := q2.length
      have m1 := r1.length
      have m2 := r2.length
      have rc : RcAt A s (.ref a) (.ref b) (pyEq (.tup e1) (.tup e2)) := by
        have z := RcAt.tuples p1 p2 hu0 it
        rw [pyEq, pyEqs_all]
        simp only [List.size_toArray] at z
        rw [l1, l2, m1, m2]
        exact z
      refine ⟨rc, ?_⟩
      by_cases hab : a = b
      · subst hab
        have e := RW.inj I hx hy
        injection e with e
        subst e
        rw [pyEq_refl]
        exact EqAt.same _
      · exact .of_refs hab rc
    | lst e2 =>
      obtain ⟨a, vs, its, rfl, rfl, q1, r1, p1⟩ := seqT hx rx
      obtain ⟨b, ws, its2, rfl, rfl, q2, r2, p2⟩ := seqL hy ry
      have e : pyEq (.tup e1) (.lst e2) = false := by simp [pyEq]
      rw [e]
      exact ⟨.tuple_list p1 p2 hu0, .tuple_list p1 p2 hu0⟩
  | lst e1 =>
    cases py with
    | non =>
      obtain ⟨a, vs, its, rfl, rfl, q1, r1, p1⟩ := seqL hx rx
      obtain rfl : y = V.non := hy.non
      obtain rfl : u = Value.none := ry
      have e : pyEq (.lst e1) .non = false := by simp [pyEq]
      rw [e]
      exact ⟨.list_none p1 hu0, .list_none p1 hu0⟩
    | bl e2 =>
      obtain ⟨a, vs, its, rfl, rfl, q1, r1, p1⟩ := seqL hx rx
      obtain rfl := hy.bl
      obtain rfl : u = Value.bool _ := ry
      have e : pyEq (.lst e1) (.bl e2) = false := by simp [pyEq]
      rw [e]
      exact ⟨.list_bool _ p1 hu0, .list_bool _ p1 hu0⟩
    | int e2 =>
      obtain ⟨a, vs, its, rfl, rfl, q1, r1, p1⟩ := seqL hx rx
      obtain rfl := hy.int
      obtain ⟨t', rfl⟩ := ry
      have e : pyEq (.lst e1) (.int e2) = false := by simp [pyEq]
      rw [e]
      exact ⟨.list_int _ _ p1 hu0, .list_int _ _ p1 hu0⟩
    | str e2 =>
      obtain ⟨a, vs, its, rfl, rfl, q1, r1, p1⟩ := seqL hx rx
      obtain rfl := hy.str.1
      obtain ⟨t', rfl⟩ := ry
      have e : pyEq (.lst e1) (.str e2) = false := by simp [pyEq]
      rw [e]
      exact ⟨.list_str _ _ p1 hu0, .list_str _ _ p1 hu0⟩
    | tup e2 =>
      obtain ⟨a, vs, its, rfl, rfl, q1, r1, p1⟩ := seqL hx rx
      obtain ⟨b, ws, its2, rfl, rfl, q2, r2, p2⟩ := seqT hy ry
      have e : pyEq (.lst e1) (.tup e2) = false := by simp [pyEq]
      rw [e]
      exact ⟨.list_tuple p1 p2 hu0, .list_tuple p1 p2 hu0⟩
    | lst e2 =>
      obtain ⟨a, vs, its, rfl, rfl, q1, r1, p1⟩ := seqL hx rx
      obtain ⟨b, ws, its2, rfl, rfl, q2, r2, p2⟩ := seqL hy ry
      have hn : 0 < n := by simp at hd; omega
      have hd' : deps e1 ≤ n - 1 ∨ deps e2 ≤ n - 1 := by simp at hd; omega
      have it := eq_at_items (n := n - 1) (A := A) (ih hn) q1 q2 r1 r2 hd' (by omega)
      have l1 := q1.length
      have l2 := q2.length
      have m1 := r1.length
      have m2 := r2.length
      have rc : RcAt A s (.ref a) (.ref b) (pyEq (.lst e1) (.lst e2)) := by
        by_cases hz : its.length = its2.length
        · have z := RcAt.lists p1 p2 (by simpa using hz) hu0 it
          rw [pyEq, pyEqs_all]
          simp only [List.size_toArray] at z
          rw [l1, l2, m1, m2, ← hz, Nat.min_self, beq_self_eq_true, Bool.and_true]
          exact z
        · have z := RcAt.lists_lengths p1 p2 (by simpa using hz) hu0
          have e : pyEq (.lst e1) (.lst e2) = false := by
            rw [pyEq, pyEqs_all, Bool.and_eq_false_iff]
            exact .inr (by rw [beq_eq_false_iff_ne]; omega)
          rw [e]
          exact z
      refine ⟨rc, ?_⟩
      by_cases hab : a = b
      · subst hab
        have e := RW.inj I hx hy
        injection e with e
        subst e
        rw [pyEq_refl]
        exact EqAt.same _
      · exact .of_refs hab rc
theorem eq_at {α : Al} {st : Store} (I : Inv X pins σ H s) : ∀ (n : Nat) (px py : PV) (x y : V) (v u : Value) (A : Around), RW X.K α st H px x → RW X.K α st H py y → RelV x v → RelV y u →
    (dep px ≤ n ∨ dep py ≤ n) → A.units + n + 1 < cLine → RcAt A s v u (pyEq px py) ∧ EqAt A s v u (pyEq px py) := by
  intro n
  induction n with
  | zero =>
    intro px py x y v u A hx hy rx ry hd hu
    exact eq_at_step I (fun h => absurd h (by omega)) px py x y v u A hx hy rx ry hd hu
  | succ n ih => exact fun px py x y v u A hx hy rx ry hd hu => eq_at_step I (fun _ => ih) px py x y v u A hx hy rx ry hd hu

theorem o_eq (hu : X.A.units + 200 < cLine) : Op2 X (compareOp .Eq) (fun x y => if depOk (dep x) (dep y) then some (.bl (pyEq x y)) else none) := by
  intro pins s σ H x y v u Q I rx ry ⟨α, st, px, py, z, r, hx, hy, hz, q⟩
  simp only [Option.ite_none_right_eq_some, Option.some.injEq] at hz
  obtain ⟨hd, hz⟩ := hz
  have hd' : dep px ≤ 100 ∨ dep py ≤ 100 := by simpa [depOk] using hd
  exact (eq_at I 100 px py x y v u X.A hx hy rx ry hd' (by omega)).1 _ _ _ _ ⟨.bl _, H, I, rfl, q _ _ (Same.refl H) (by rw [← hz, RP])⟩
end
end OR
set_option Elab.async false
set_option linter.all false
set_option maxRecDepth 100000
set_option maxHeartbeats 1000000
/- texts: where one stands in another; in -/
namespace OR
open PySem L2 PySem.SeqAt PySem.StrLaws
open PySem.Builtin PySem.Builtin.Str
theorem occ_done (x y : Str) (hi k f : Nat) : ∀ l : List Nat, (forIn l ((#[k] : Array Nat), f) (occBody x y hi 1)).run.fst = #[k]
  | [] => rfl
  | a :: l => by
    rw [List.forIn_cons]
    unfold occBody
    split
    · rename_i hc
      simp at hc
    · exact occ_done x y hi k f l
theorem sub_iff (cs bs : List Nat) (i : Nat) (hi : i ≤ cs.length) : (i + bs.length ≤ cs.length ∧ subAt ⟨cs.toArray⟩ ⟨bs.toArray⟩ i = true) ↔ bs.isPrefixOf (cs.drop i) = true := by
  rw [List.isPrefixOf_iff_prefix, List.prefix_iff_eq_take]
  unfold subAt
  have e : (⟨bs.toArray⟩ : Str).length = bs.length := str_len bs
  rw [e]
  have e2 : (cs.toArray.extract i (i + bs.length)) = ((cs.drop i).take bs.length).toArray := by
    apply Array.ext'
    simp [List.extract_eq_take_drop]
  constructor
  · rintro ⟨_, h⟩
    have h' : cs.toArray.extract i (i + bs.length) = bs.toArray := by simpa using h
    rw [e2] at h'
    have := congrArg Array.toList h'
    simpa using this.symm
  · intro h
    have hl := congrArg List.length h
    rw [List.length_take, List.length_drop] at hl
    refine ⟨by omega, ?_⟩
    show (cs.toArray.extract i (i + bs.length) == bs.toArray) = true
    rw [e2, ← h]
    simp
theorem occ_from (cs bs : List Nat) : ∀ (n i : Nat), i + n = cs.length →
    (forIn (List.range' i (n + 1)) ((#[] : Array Nat), 0) (occBody ⟨cs.toArray⟩ ⟨bs.toArray⟩ cs.length 1)).run.fst.toList = match findIn bs (cs.drop i) i with | some k => [k] | none => []
  | 0, i, h => by
    have hd : cs.drop i = [] := List.drop_eq_nil_of_le (by omega)
    rw [List.range'_succ, List.forIn_cons]
    have q := sub_iff cs bs i (by omega)
    rw [hd] at q ⊢
    unfold occBody
    have e : (⟨bs.toArray⟩ : Str).length = bs.length := str_len bs
    by_cases hb : bs = []
    · subst hb
      have hs := q.mpr (by simp)
      rw [if_pos (by rw [e]; simp; exact ⟨by omega, hs.2⟩)]
      simp [findIn, List.range']
    · have hs : ¬ bs.isPrefixOf ([] : List Nat) = true := by cases bs <;> simp at hb ⊢
      rw [if_neg (by
        intro hc
        rw [e] at hc
        simp at hc
        exact hs (q.mp ⟨by omega, by have := hc.2; simpa using this⟩))]
      simp [findIn, List.range', hb]
  | n + 1, i, h => by
    rw [List.range'_succ, List.forIn_cons]
    have q := sub_iff cs bs i (by omega)
    obtain ⟨c, hc⟩ : ∃ c, cs.drop i = c :: cs.drop (i + 1) := ⟨cs[i], by rw [List.drop_eq_getElem_cons (by omega)]⟩
    have e : (⟨bs.toArray⟩ : Str).length = bs.length := str_len bs
    rw [hc] at q ⊢
    rw [findIn]
    unfold occBody
    by_cases hp : bs.isPrefixOf (c :: cs.drop (i + 1)) = true
    · have hs := q.mpr hp
      rw [if_pos (by rw [e]; simp; exact ⟨by omega, hs.2⟩), if_pos hp]
      have := occ_done ⟨cs.toArray⟩ ⟨bs.toArray⟩ cs.length i (i + (⟨bs.toArray⟩ : Str).length) (List.range' (i + 1) (n + 1))
      unfold occBody at this
      simpa using congrArg Array.toList this
    · rw [if_neg (by
        intro hc
        rw [e] at hc
        simp at hc
        exact hp (q.mp ⟨by omega, by have := hc.2; simpa using this⟩)), if_neg hp]
      have ih := occ_from cs bs n (i + 1) (by omega)
      unfold occBody at ih
      simpa using ih
theorem occ_find (cs bs : List Nat) : occurrences ⟨cs.toArray⟩ ⟨bs.toArray⟩ 0 (Str.length ⟨cs.toArray⟩) 1 = match findIn bs cs 0 with | some k => [k] | none => [] := by
  rw [occ_eq, str_len]
  have := occ_from cs bs cs.length 0 (by omega)
  rw [List.drop_zero] at this
  exact this
theorem infix_find (bs : List Nat) : ∀ (cs : List Nat) (k : Nat), infixOf bs cs = (findIn bs cs k).isSome
  | [], k => by rw [infixOf, findIn]; split <;> simp_all
  | c :: r, k => by
    rw [infixOf, findIn]
    split
    · rename_i h; rw [h]; rfl
    · rename_i h; rw [infix_find bs r (k + 1)]; simp at h; simp [h]
section
variable {X : Cx}
theorem o_in (hu : X.A.units + 200 < cLine) : Op2 X (compareOp .In) (fun x y => (isIn x y).map .bl) := by
  intro pins s σ H x y v u Q I rx ry ⟨α, st, px, py, z, r, hx, hy, hz, q⟩
  obtain ⟨b, hb, hz2⟩ := Option.map_eq_some_iff.mp hz
  have fin : EP X pins σ Q (.bool b) s := ⟨.bl b, H, I, rfl, q _ _ (Same.refl H) (by rw [← hz2, RP])⟩
  have seq : ∀ {xs : List PV} {vs : List V} {its : List Value}, RPs X.K H (Live α st) xs vs → Vals vs its → depOk (dep px) (deps xs) = true →
      ∃ e : Value → Bool, (∀ w, w ∈ its.toArray → EqAt X.A.in1 s w v (e w)) ∧ its.toArray.any e = itemIn px xs := by
    intro xs vs its h r1 hd
    have hd' : dep px ≤ 100 ∨ deps xs ≤ 100 := by simpa [depOk] using hd
    classical
    have l1 := h.length
    have l2 := r1.length
    have val : ∀ (j : Nat) (hj : j < its.length), ∃ y, xs[j]? = some y ∧ EqAt X.A.in1 s its[j] v (pyEq y px) ∧ ∃ w, RP X.K H (Live α st) y w ∧ RelV w its[j] := fun j hj => by
      obtain ⟨y, w, a1, a2, a3, a4⟩ := h.at r1 hj
      have da := dep_get a1
      exact ⟨y, a1, (eq_at I 100 y px w x its[j] v X.A.in1 (.inl a3) hx a4 rx (by omega) (by show X.A.units + 1 + 100 + 1 < cLine; omega)).2, w, a3, a4⟩
    refine ⟨fun w => decide (∃ (j : Nat) (y : PV), its[j]? = some w ∧ xs[j]? = some y ∧ pyEq y px = true), fun w hw => ?_, ?_⟩
    · have hw' : w ∈ its := by simpa using hw
      obtain ⟨j, hj, rfl⟩ := List.getElem_of_mem hw'
      obtain ⟨y, a1, a2, w1, a3, a4⟩ := val j hj
      have e : decide (∃ (k : Nat) (y : PV), its[k]? = some its[j] ∧ xs[k]? = some y ∧ pyEq y px = true) = pyEq y px := by
        rw [Bool.eq_iff_iff, decide_eq_true_eq]
        constructor
        · rintro ⟨k, y', b1, b2, b3⟩
          obtain ⟨hk, b1⟩ := List.getElem?_eq_some_iff.mp b1
          obtain ⟨y2, c1, _, w2, c3, c4⟩ := val k hk
          rw [b2] at c1; cases c1
          rw [b1] at c4
          have := a4.inj c4
          subst this
          rw [RP.inj I y y' _ a3 c3]
          exact b3
        · intro hp
          exact ⟨j, y, List.getElem?_eq_getElem hj, a1, hp⟩
      dsimp only
      rw [e]
      exact a2
    · rw [Bool.eq_iff_iff]
      unfold itemIn
      simp only [List.any_toArray, List.any_eq_true, decide_eq_true_eq]
      constructor
      · rintro ⟨w, _, j, y, b1, b2, b3⟩
        exact ⟨y, List.mem_of_getElem? b2, b3⟩
      · rintro ⟨y, hy', b3⟩
        obtain ⟨j, hj, rfl⟩ := List.getElem_of_mem hy'
        have hj' : j < its.length := by omega
        exact ⟨its[j], List.getElem_mem hj', j, xs[j], List.getElem?_eq_getElem hj', List.getElem?_eq_getElem hj, b3⟩
  cases py with
  | str cs =>
    cases px with
    | str bs =>
      have hb' : infixOf bs cs = b := by simpa [isIn] using hb
      refine op_in_str pins s σ H x y v u Q I rx ry ⟨_, _, hx.str.1, hy.str.1, ?_⟩
      rw [occ_find]
      have e : (!(match findIn bs cs 0 with | some k => [k] | none => ([] : List Nat)).isEmpty) = b := by
        rw [← hb', infix_find bs cs 0]
        cases findIn bs cs 0 <;> rfl
      rw [e]
      exact q _ _ (Same.refl H) (by rw [← hz2, RP])
    | _ => simp [isIn] at hb
  | tup xs =>
    obtain ⟨a, vs, rfl, h1, h2⟩ := hy.tup
    cases ry
    obtain ⟨its, r1, p, _⟩ := I.tuple h1
    have hc : depOk (dep px) (deps xs) = true ∧ itemIn px xs = b := by cases px <;> simpa [isIn] using hb
    obtain ⟨e, he, hany⟩ := seq h2 r1 hc.1
    exact in_tupleAt e p he (by rw [hany, hc.2]; exact fin)
  | lst xs =>
    obtain ⟨a, vs, rfl, h1, h2⟩ := hy.lst
    cases ry
    obtain ⟨its, r1, p, _⟩ := I.list h1
    have hc : depOk (dep px) (deps xs) = true ∧ itemIn px xs = b := by cases px <;> simpa [isIn] using hb
    obtain ⟨e, he, hany⟩ := seq h2 r1 hc.1
    exact in_listAt e p.isList he (by rw [hany, hc.2]; exact fin)
  | _ => cases px <;> simp [isIn] at hb
end
end OR
set_option Elab.async false
set_option linter.all false
set_option maxRecDepth 100000
set_option maxHeartbeats 1000000
/- and, or, not, if; displays; indexes, slices -/
namespace OR
open PySem L2 PySem.SeqAt
section
variable {X : Cx} {C : CallF} {a b c : Expr} {ia ib ic : E} {pos : Pos} {rest : List Expr}
theorem st_not (ha : ST X C a ia) : ST X C (.UnaryOp .Not a pos) (.not ia) :=
  PT.mono (pt_not ha) fun σ H Q ⟨env, α, st, k, st', at', e, q⟩ => by
    rw [ev_not] at e
    obtain ⟨k', st1, e1, e⟩ := Res.bindB_inv e
    cases e
    exact ⟨env, α, st, k', st', at', e1, q⟩
abbrev SW (X : Cx) (C : CallF) (e : Expr) (ir : E) : Prop := PW X e (tT X.K C ir)
theorem sw_pt {e : Expr} {ir : E} (h : SW X C e ir) : ST X C e ir := h.pt
theorem sw_and1 (ha : ST X C a ia) : SW X C (.BoolOp .And [a] pos) ia := pw_and1 ha
theorem sw_or1 (ha : ST X C a ia) : SW X C (.BoolOp .Or [a] pos) ia := pw_or1 ha
theorem sw_and (ha : ST X C a ia) (hb : SW X C (.BoolOp .And (b :: rest) pos) ib) : SW X C (.BoolOp .And (a :: b :: rest) pos) (.and ia ib) :=
  PW.mono (pw_and ha hb) fun σ H Q ⟨env, α, st, k, st', at', e, q⟩ => by
    rw [ev_and] at e
    obtain ⟨k', st1, e1, e⟩ := Res.bindB_inv e
    refine ⟨env, α, st, k', st1, at', e1, fun H1 α1 x1 r1 => ?_⟩
    cases k' with
    | true => exact ⟨env, α1, st1, k, st', at'.next x1 r1, e, fun H2 α2 x2 r2 => q H2 α2 (x1.trans x2) r2⟩
    | false => cases e; exact q H1 α1 x1 r1
theorem sw_or (ha : ST X C a ia) (hb : SW X C (.BoolOp .Or (b :: rest) pos) ib) : SW X C (.BoolOp .Or (a :: b :: rest) pos) (.or ia ib) :=
  PW.mono (pw_or ha hb) fun σ H Q ⟨env, α, st, k, st', at', e, q⟩ => by
    rw [ev_or] at e
    obtain ⟨k', st1, e1, e⟩ := Res.bindB_inv e
    refine ⟨env, α, st, k', st1, at', e1, fun H1 α1 x1 r1 => ?_⟩
    cases k' with
    | false => exact ⟨env, α1, st1, k, st', at'.next x1 r1, e, fun H2 α2 x2 r2 => q H2 α2 (x1.trans x2) r2⟩
    | true => cases e; exact q H1 α1 x1 r1
/-- .. as values -/
theorem bl_of {K : PySem.W.Frag} {α : Al} {st : Store} {H : Hp} {k : Bool} {w : V} (h : RV K α st H (.p (.bl k)) w) : w = .bl k := by simpa [RV, RP] using h
theorem se_one {op} (h : SE X C a ia) : SE X C (.BoolOp op [a] pos) ia := pe_one h
theorem se_and (ha : SE X C a ia) (hb : SE X C (.BoolOp .And (b :: rest) pos) ib) : SE X C (.BoolOp .And (a :: b :: rest) pos) (.and ia ib) :=
  PE.mono (pe_and ha hb) fun σ H Q ⟨env, α, st, v, st', at', e, q⟩ => by
    rw [ev_and] at e
    obtain ⟨k', st1, e1, e⟩ := Res.bindB_inv e
    refine ⟨env, α, st, _, st1, at', e1, fun w H1 α1 x1 r1 v1 => ⟨k', bl_of v1, ?_⟩⟩
    cases k' with
    | true => exact ⟨env, α1, st1, v, st', at'.next x1 r1, e, fun w H2 α2 x2 r2 => q w H2 α2 (x1.trans x2) r2⟩
    | false => cases e; exact q _ H1 α1 x1 r1 (by rw [RV, RP])
theorem se_or (ha : SE X C a ia) (hb : SE X C (.BoolOp .Or (b :: rest) pos) ib) : SE X C (.BoolOp .Or (a :: b :: rest) pos) (.or ia ib) :=
  PE.mono (pe_or ha hb) fun σ H Q ⟨env, α, st, v, st', at', e, q⟩ => by
    rw [ev_or] at e
    obtain ⟨k', st1, e1, e⟩ := Res.bindB_inv e
    refine ⟨env, α, st, _, st1, at', e1, fun w H1 α1 x1 r1 v1 => ⟨k', bl_of v1, ?_⟩⟩
    cases k' with
    | false => exact ⟨env, α1, st1, v, st', at'.next x1 r1, e, fun w H2 α2 x2 r2 => q w H2 α2 (x1.trans x2) r2⟩
    | true => cases e; exact q _ H1 α1 x1 r1 (by rw [RV, RP])
theorem se_not (ha : SE X C a ia) : SE X C (.UnaryOp .Not a pos) (.not ia) :=
  PE.mono (pe_not ha) fun σ H Q ⟨env, α, st, v, st', at', e, q⟩ => by
    rw [ev_not] at e
    obtain ⟨k', st1, e1, e⟩ := Res.bindB_inv e
    cases e
    exact ⟨env, α, st, _, st', at', e1, fun w H1 α1 x1 r1 v1 => ⟨k', bl_of v1, q _ H1 α1 x1 r1 (by rw [RV, RP])⟩⟩
theorem se_ite (hc : ST X C c ic) (ha : SE X C a ia) (hb : SE X C b ib) : SE X C (.IfExp c a b pos) (.ite ic ia ib) :=
  PE.mono (pe_ifExp hc ha hb) fun σ H Q ⟨env, α, st, v, st', at', e, q⟩ => by
    rw [ev_ite] at e
    obtain ⟨k', st1, e1, e⟩ := Res.bindB_inv e
    refine ⟨env, α, st, k', st1, at', e1, fun H1 α1 x1 r1 => ?_⟩
    cases k' with
    | true => exact ⟨env, α1, st1, v, st', at'.next x1 r1, e, fun w H2 α2 x2 r2 => q w H2 α2 (x1.trans x2) r2⟩
    | false => exact ⟨env, α1, st1, v, st', at'.next x1 r1, e, fun w H2 α2 x2 r2 => q w H2 α2 (x1.trans x2) r2⟩
/-- a test of a comparison -/
theorem st_cmp {op : CmpOp} {g : PV → PV → Option PV} {ir : E} (ho : Op2 X (compareOp op) g) (ha : SE X C a ia) (hb : SE X C b ib) (hm : behindInMarks op b = false)
    (hi : ∀ env st, evalE C ir env st = (evalE C ia env st).bind fun x st => (evalE C ib env st).bind fun y st => op2 g x y st) : ST X C (.Compare a [op] [b] pos) ir :=
  PT.mono (pt_cmpR ho ha hb hm) fun σ H Q ⟨env, α, st, k, st', at', e, q⟩ => by
    rw [hi] at e
    obtain ⟨va, st1, e1, e⟩ := Res.bind_inv e
    obtain ⟨vb, st2, e2, e⟩ := Res.bind_inv e
    obtain ⟨x, y, u, h1, h2, h3, h4, h5⟩ := op2_inv e
    cases h4
    subst h5
    refine ⟨env, α, st, va, st1, at', e1, fun w H1 α1 x1 r1 v1 => ?_⟩
    refine ⟨env, α1, st1, vb, st', at'.next x1 r1, e2, fun w2 H2 α2 x2 r2 v2 => ?_⟩
    refine ⟨α2, st', x, y, _, r2, (x2.rv v1).view r2 h1, v2.view r2 h2, h3, fun w3 H3 s3 rp => ?_⟩
    exact ⟨k, by rw [RP] at rp; exact rp, q H3 α2 (x1.trans (x2.trans (.of_same r2 s3))) (r2.same s3)⟩
/-- a < b < c -/
theorem chain_read {op op' : Cop} {g g' : PV → PV → Option PV} {σ : L2.St} {H : Hp} {Q : VK} {env : Env} {α : Al} {st st' : Store} {v : Val} (hg : cmpOp op = g) (hg' : cmpOp op' = g') (at' : At X.K α st H env σ)
    (e : evalE C (.chain op op' ia ib ic) env st = .ok v st') (hB : ∀ x y z, g x y = some z → ∃ k, z = .bl k)
    (q : ∀ w H' α', Ext X.K α st H α' st' H' → RSt X.K α' st' H' → RV X.K α' st' H' v w → Q w H') :
    tChain (fun x y H Q => ∃ α st px py z, RSt X.K α st H ∧ RW X.K α st H px x ∧ RW X.K α st H py y ∧ g px py = some z ∧ ∀ w H', Same H H' → RP X.K H' (Live α st) z w → Q w H')
      (fun x y H Q => ∃ α st px py z, RSt X.K α st H ∧ RW X.K α st H px x ∧ RW X.K α st H py y ∧ g' px py = some z ∧ ∀ w H', Same H H' → RP X.K H' (Live α st) z w → Q w H')
      (tP X.K C ia) (tP X.K C ib) (tP X.K C ic) σ H Q := by
  subst hg hg'
  rw [ev_chain] at e
  obtain ⟨va, st1, e1, e⟩ := Res.bind_inv e
  obtain ⟨vb, st2, e2, e⟩ := Res.bind_inv e
  obtain ⟨k, st3, e3, e⟩ := Res.bindB_inv e
  obtain ⟨x, y, u, h1, h2, h3, h4, h5⟩ := op2_inv e3
  cases h4
  subst h5
  refine ⟨env, α, st, va, st1, at', e1, fun w H1 α1 x1 r1 v1 => ?_⟩
  refine ⟨env, α1, st1, vb, st3, at'.next x1 r1, e2, fun w2 H2 α2 x2 r2 v2 => ?_⟩
  refine ⟨α2, st3, x, y, _, r2, (x2.rv v1).view r2 h1, v2.view r2 h2, h3, fun w3 H3 s3 rp => ?_⟩
  refine ⟨k, by rw [RP] at rp; exact rp, ?_⟩
  have ex3 : Ext X.K α st H α2 st3 H3 := x1.trans (x2.trans (.of_same r2 s3))
  cases k with
  | false =>
    cases e
    exact q _ H3 α2 ex3 (r2.same s3) (by rw [RV, RP])
  | true =>
    obtain ⟨vc, st4, e4, e⟩ := Res.bind_inv e
    obtain ⟨x', y', u', g1, g2, g3, g4, g5⟩ := op2_inv e
    subst g4 g5
    refine ⟨env, α2, st3, vc, st', at'.next ex3 (r2.same s3), e4, fun w4 H4 α4 x4 r4 v4 => ?_⟩
    refine ⟨α4, st', x', y', u', r4, (((Ext.of_same r2 s3).trans x4).rv v2).view r4 g1, v4.view r4 g2, g3, fun w5 H5 s5 rp5 => ?_⟩
    exact q _ H5 α4 (ex3.trans (x4.trans (.of_same r4 s5))) (r4.same s5) rp5
theorem st_chain {op op' : CmpOp} {cop cop' : Cop} (ho : Op2 X (compareOp op) (cmpOp cop)) (ho' : Op2 X (compareOp op') (cmpOp cop')) (hB : ∀ x y z, cmpOp cop x y = some z → ∃ k, z = .bl k) (ha : SE X C a ia) (hb : SE X C b ib) (hc : SE X C c ic)
    (hm : lastMarks [op, op'] [b, c] = false := by with_unfolding_all rfl) : ST X C (.Compare a [op, op'] [b, c] pos) (.chain cop cop' ia ib ic) :=
  PT.mono (pt_chain ho ho' ha hb hc hm) fun σ H Q ⟨env, α, st, k, st', at', e, q⟩ =>
    chain_read rfl rfl at' e hB fun w H' α' x r v => ⟨k, bl_of v, q H' α' x r⟩
/-! ### argument lists, displays -/
def tPs (K : PySem.W.Frag) (C : CallF) (irs : List E) : TA := fun σ H Q => ∃ env α st vs st', At K α st H env σ ∧ evalEs C irs env st = .ok vs st' ∧
  ∀ ws H' α', Ext K α st H α' st' H' → RSt K α' st' H' → Paired (RV K α' st' H') vs ws → Q ws H'
abbrev SA (X : Cx) (C : CallF) (es : List Expr) (irs : List E) : Prop := PA X es (tPs X.K C irs)
theorem PA.mono {es : List Expr} {t t' : TA} (h : PA X es t) (m : ∀ σ H Q, t' σ H Q → t σ H Q) : PA X es t' := fun pos pins s σ H Q I q => h pos pins s σ H Q I (m _ _ _ q)
theorem sa_nil : SA X C [] [] := PA.mono pa_nil fun σ H Q ⟨env, α, st, vs, st', at', e, q⟩ => by
  rw [evEs_nil] at e
  cases e
  exact q [] H α .refl at'.rs .nil
theorem sa_cons {es : List Expr} {irs : List E} (ha : SE X C a ia) (hr : SA X C es irs) (hs : starEach (a :: es) X.env = (false, eval a X.env) :: starEach es X.env := by rfl) : SA X C (a :: es) (ia :: irs) :=
  PA.mono (pa_cons ha hr hs) fun σ H Q ⟨env, α, st, vs, st', at', e, q⟩ => by
    rw [evEs_cons] at e
    obtain ⟨v, st1, e1, e⟩ := Res.bind_inv e
    obtain ⟨vr, st2, e2, e⟩ := Res.bind_inv e
    cases e
    exact ⟨env, α, st, v, st1, at', e1, fun w H1 α1 x1 r1 v1 => ⟨env, α1, st1, vr, st', at'.next x1 r1, e2, fun ws H2 α2 x2 r2 p => q _ H2 α2 (x1.trans x2) r2 (.cons (x2.rv v1) p)⟩⟩
/-- all of them pure -/
theorem evPs_of : ∀ {irs : List E} {env : Env} {st st' : Store} {xs : List PV}, evalPs C irs env st = .ok xs st' → evalEs C irs env st = .ok (xs.map .p) st'
  | [], env, st, st', xs, h => by rw [evPs_nil] at h; cases h; rw [evEs_nil]; rfl
  | i :: r, env, st, st', xs, h => by
    rw [evPs_cons] at h
    obtain ⟨x, st1, e1, h⟩ := Res.bindP_inv h
    obtain ⟨ys, st2, e2, h⟩ := Res.bind_inv h
    cases h
    rw [evEs_cons, e1, Res.bind_ok, evPs_of e2]
    rfl
theorem rps_of {K : PySem.W.Frag} {α : Al} {st : Store} {H : Hp} : ∀ {xs : List PV} {ws : List V}, Paired (RV K α st H) (xs.map .p) ws → RPs K H (Live α st) xs ws
  | [], ws, h => by cases h; rw [RPs]
  | x :: r, ws, h => by
    cases h with
    | cons q t => rw [RPs]; exact ⟨_, _, rfl, q, rps_of t⟩
theorem evPs_len : ∀ {irs : List E} {env : Env} {st st' : Store} {xs : List PV}, evalPs C irs env st = .ok xs st' → xs.length = irs.length
  | [], env, st, st', xs, h => by rw [evPs_nil] at h; cases h; rfl
  | i :: r, env, st, st', xs, h => by
    rw [evPs_cons] at h
    obtain ⟨x, st1, e1, h⟩ := Res.bindP_inv h
    obtain ⟨ys, st2, e2, h⟩ := Res.bind_inv h
    cases h
    simp [evPs_len e2]
theorem se_tup {es : List Expr} {irs : List E} {x1} (h : SA X C es irs) (hl : es.length ≤ 1000) (hi : irs.length = es.length) : SE X C (.Tuple es x1 pos) (.tup irs) :=
  PE.mono (pe_tup h) fun σ H Q ⟨env, α, st, v, st', at', e, q⟩ => by
    rw [ev_tup] at e
    obtain ⟨xs, st1, e1, e⟩ := Res.bind_inv e
    cases e
    refine ⟨env, α, st, _, st', at', evPs_of e1, fun ws H1 α1 x1 r1 p => ?_⟩
    have rp := rps_of p
    refine ⟨?_, fun a ha => ?_⟩
    · rw [← rp.length, evPs_len e1, hi]
      exact Nat.le_trans hl (by decide)
    · have s1 : Same H1 (upd H1 a (.tup ws)) := same_new ha _
      exact q _ _ α1 (x1.trans (.of_same r1 s1)) (r1.same s1) (by rw [RV, RP]; exact ⟨a, ws, rfl, SqT.of upd_same, (Ext.of_same r1 s1).rps rp⟩)

/-- a written list that stays as it is -/
theorem se_lst {es : List Expr} {irs : List E} (h : SA X C es irs) (hl : es.length ≤ 1000) (hi : irs.length = es.length) : SE X C (.List es pos) (.list false irs) :=
  PE.mono (pe_lst h) fun σ H Q ⟨env, α, st, v, st', at', e, q⟩ => by
    rw [ev_list] at e
    obtain ⟨xs, st1, e1, e⟩ := Res.bind_inv e
    simp only [mk, Bool.false_eq_true, if_false] at e
    cases e
    refine ⟨env, α, st, _, st', at', evPs_of e1, fun ws H1 α1 x1 r1 p => ?_⟩
    have rp := rps_of p
    refine ⟨?_, fun a ha => ?_⟩
    · rw [← rp.length, evPs_len e1, hi]
      exact Nat.le_trans hl (by decide)
    · have s1 : Same H1 (upd H1 a (.lst ws)) := same_new ha _
      exact q _ _ α1 (x1.trans (.of_same r1 s1)) (r1.same s1) (by rw [RV, RP]; exact ⟨a, ws, rfl, SqL.of upd_same, r1.notlive ha, (Ext.of_same r1 s1).rps rp⟩)
end
end OR
set_option Elab.async false
set_option linter.all false
set_option maxRecDepth 100000
set_option maxHeartbeats 1000000
/- indexes, slices, dicts -/
namespace OR
open PySem L2 PySem.SeqAt PyProof.Rows
section
variable {X : Cx} {C : CallF} {a b c : Expr} {ia ib ic : E} {pos : Pos}
theorem ix_dict (hu : X.A.units + 1 < cLine) : IxR X (fun x y H Q => ∃ a v, x = .ref a ∧ DGet H a y (some v) ∧ Q v H) := by
  intro value slice pins s σ H x y v u Q I rx ry ⟨a, w, ex, g, q⟩ hs
  subst ex
  obtain rfl : v = Value.ref a := rx
  have hT := dict_typeIs I g
  have h2 : wpAny (model X.prog X.w) X.A (getItem (.ref a) u) (EP X pins σ Q) X.xe s := d_getItem hu I g ry fun w' s3 I3 rw' => ⟨w, H, I3, rw', q⟩
  unfold subscriptTail
  refine wpAny_bind ?_
  rw [getitemInPython_of_ne hT.not_modules]
  refine wpAny_bind (wpAny_specialOf hT PySem.F.slot_dict_getitem.lookup ?_)
  have fin : wpAny (model X.prog X.w) X.A (subscripted slice false (.ref a) u) (fun r s₃ => wpAny (model X.prog X.w) X.A (letTemporaryGo value (.ref a) r >>= fun _ => pure r) (EP X pins σ Q) X.xe s₃) X.xe s := by
    rw [hs]
    exact wpAny_operating (wpAny_mono h2 (fun r s₃ h₃ => wpAny_bind (wpAny_letTemporaryGo (wpAny_pure h₃))) fun _ _ x => x)
  first
    | exact wpAny_pure (wpAny_bind fin)
    | exact wpAny_bind (wpAny_pure (wpAny_bind fin))
    | exact wpAny_bind fin
theorem keyOf_inj {a b : PV} {k : Key} (h1 : keyOf a = some k) (h2 : keyOf b = some k) : a = b := by
  cases a <;> simp only [keyOf, reduceCtorEq, Option.some.injEq] at h1 <;> cases b <;> simp only [keyOf, reduceCtorEq, Option.some.injEq] at h2 <;> subst h1
  · cases h2; rfl
  · cases h2
  · cases h2
  · injection h2 with h2
    injection h2 with h2
    exact congrArg PV.str (by simpa using (congrArg Array.toList h2).symm)
/-- a pure dict and the layer's -/
theorem rkv_get {K : PySem.W.Frag} {H : Hp} {lv : Addr → Prop} {k x : PV} {k' : Key} (hk : keyOf k = some k') : ∀ {kvs : List (PV × PV)} {l : List (Key × V)}, RKV K H lv kvs l → dGet k kvs = some x → ∃ v, valV l k' = some v ∧ RP K H lv x v
  | [], l, h, e => by simp [dGet] at e
  | (k1, x1) :: r, l, h, e => by
    rw [RKV] at h
    obtain ⟨k2, v, l', rfl, h1, h2, h3⟩ := h
    rw [dGet] at e
    by_cases hc : k1 = k
    · subst hc
      rw [if_pos rfl] at e
      cases e
      rw [h1] at hk; cases hk
      exact ⟨v, valV_pos rfl, h2⟩
    · rw [if_neg hc] at e
      obtain ⟨w, g1, g2⟩ := rkv_get hk h3 e
      refine ⟨w, ?_, g2⟩
      rw [valV_neg]
      · exact g1
      · intro e'
        have : k2 = k' := e'
        subst this
        exact hc (keyOf_inj h1 hk)
theorem rkv_key {K : PySem.W.Frag} {H : Hp} {lv : Addr → Prop} {k x : PV} : ∀ {kvs : List (PV × PV)} {l : List (Key × V)}, RKV K H lv kvs l → dGet k kvs = some x → ∃ k', keyOf k = some k'
  | [], l, h, e => by simp [dGet] at e
  | (k1, x1) :: r, l, h, e => by
    rw [RKV] at h
    obtain ⟨k2, v, l', rfl, h1, h2, h3⟩ := h
    rw [dGet] at e
    by_cases hc : k1 = k
    · subst hc; exact ⟨k2, h1⟩
    · rw [if_neg hc] at e
      exact rkv_key h3 e
theorem RW_int {K : PySem.W.Frag} {α : Al} {st : Store} {H : Hp} {x : PV} {v : V} {k : Key} (h : RW K α st H x v) (e : keyOf x = some k) : v = kV k := by
  cases x with
  | int i => cases e; exact h.int
  | str cs => cases e; exact h.str.1
  | _ => cases e
theorem se_ix (hu : X.A.units + 1 < cLine) (ha : SE X C a ia) (hb : SE X C b ib) (hs : PlainIx b) : SE X C (.Subscript a b pos) (.ix ia ib) :=
  PE.mono (pe_ix (ix_seq.or (ix_dict hu)) ha hb hs) fun σ H Q ⟨env, α, st, v, st', at', e, q⟩ => by
    rw [ev_ix] at e
    obtain ⟨o, st1, e1, e⟩ := Res.bind_inv e
    obtain ⟨iv, i, st2, e2, hi, e⟩ := Res.bindV_inv e
    refine ⟨env, α, st, o, st1, at', e1, fun w H1 α1 x1 r1 v1 => ?_⟩
    refine ⟨env, α1, st1, iv, st2, at'.next x1 r1, e2, fun w2 H2 α2 x2 r2 v2 => ?_⟩
    have wi := v2.view r2 hi
    have ro := x2.rv v1
    have seq : ∀ {x : PV}, RW X.K α2 st2 H2 x w → okO (ixOp x i) st2 = .ok v st' → (rIx X.K w w2 H2 Q) := by
      intro x rx hx
      obtain ⟨z, h1, h2, h3⟩ := okO_inv hx
      subst h2 h3
      have fin : ∀ {u : V}, RP X.K H2 (Live α2 st') z u → Q u H2 := fun h => q _ H2 α2 (x1.trans x2) r2 h
      cases x with
      | tup xs =>
        cases i with
        | int k =>
          obtain ⟨p, vs, rfl, g1, g2⟩ := rx.tup
          obtain ⟨j, hj, hz⟩ := Option.bind_eq_some_iff.mp (show (ixAt xs.length k).bind (fun j => xs[j]?) = some z from h1)
          obtain ⟨u, hu1, hu2⟩ := g2.get hz
          exact .inr (.inl ⟨p, vs, k, u, rfl, wi.int, g1, by show (ixAt vs.length k).bind (fun j => vs[j]?) = some u; rw [← g2.length, hj]; exact hu1, fin hu2⟩)
        | _ => simp [ixOp] at h1
      | lst xs =>
        cases i with
        | int k =>
          obtain ⟨p, vs, rfl, g1, g2⟩ := rx.lst
          obtain ⟨j, hj, hz⟩ := Option.bind_eq_some_iff.mp (show (ixAt xs.length k).bind (fun j => xs[j]?) = some z from h1)
          obtain ⟨u, hu1, hu2⟩ := g2.get hz
          exact .inl ⟨p, vs, k, u, rfl, wi.int, g1, by show (ixAt vs.length k).bind (fun j => vs[j]?) = some u; rw [← g2.length, hj]; exact hu1, fin hu2⟩
        | _ => simp [ixOp] at h1
      | str cs =>
        cases i with
        | int k =>
          obtain ⟨j, hj, hz⟩ := Option.bind_eq_some_iff.mp (show (ixAt cs.length k).bind (fun j => (cs[j]?).map fun c => PV.str [c]) = some z from h1)
          obtain ⟨ch, hc1, hc2⟩ := Option.map_eq_some_iff.mp hz
          obtain ⟨g1, g2⟩ := rx.str
          refine .inr (.inr ⟨_, k, ch, g1, wi.int, by rw [str_len]; exact g2, ?_, fin (by rw [← hc2, RP]; exact ⟨rfl, by show 1 ≤ sizeLine; decide⟩)⟩)
          show (ixAt cs.toArray.toList.length k).bind (fun j => cs.toArray.toList[j]?) = some ch
          simp only [List.toList_toArray]
          rw [hj]
          exact hc1
        | _ => simp [ixOp] at h1
      | _ => cases i <;> simp [ixOp] at h1
    cases o with
    | p x => exact .inl (seq (.inl ro) e)
    | ref n =>
      have e : (match objAt st2 n with | some (.lst xs) => okO (ixOp (.lst xs) i) st2 | some (.dct kvs) => okO (dGet i kvs) st2 | _ => .stuck) = Res.ok v st' := e
      obtain ⟨p, hw, hp⟩ := id ro
      cases ho : objAt st2 n with
      | none => rw [ho] at e; cases e
      | some ob =>
        rw [ho] at e
        cases ob with
        | dead => cases e
        | lst xs =>
          refine .inl (seq (x := .lst xs) ?_ e)
          obtain ⟨p', vs, h1, h2, h3⟩ := r2.lst n xs ho
          rw [hp] at h1; cases h1
          exact .inr ⟨xs, p, vs, rfl, hw, SqL.of h2, h3⟩
        | dct kvs =>
          obtain ⟨z, h1, h2, h3⟩ := okO_inv e
          subst h2 h3
          obtain ⟨p', l, g1, g2, g3⟩ := r2.dct n kvs ho
          rw [hp] at g1; cases g1
          cases hk : keyOf i with
          | none =>
            obtain ⟨k', hk'⟩ := rkv_key g3 h1
            rw [hk] at hk'; cases hk'
          | some k =>
            obtain ⟨u, f1, f2⟩ := rkv_get hk g3 h1
            refine .inr ⟨p, u, hw, ?_, q _ H2 α2 (x1.trans x2) r2 f2⟩
            rw [RW_int wi hk, ← f1]
            exact DGet.k g2
end
end OR
set_option Elab.async false
set_option linter.all false
set_option maxRecDepth 100000
set_option maxHeartbeats 1000000
/- calls of built-in functions; statements -/
namespace OR
open PySem L2 PySem.SeqAt PyProof.Rows
section
variable {X : Cx} {C : CallF} {e : Expr} {es : List Expr} {irs : List E} {pos p : Pos}
/-- what a built-in does with values as they are read -/
def CallN (X : Cx) (f : Value) (g : List PV → Option PV) : Prop :=
  CallR X f fun ws H Q => ∃ α st xs z, RSt X.K α st H ∧ Paired (RW X.K α st H) xs ws ∧ g xs = some z ∧ ∀ w H', Same H H' → RP X.K H' (Live α st) z w → Q w H'
theorem views_rw {K : PySem.W.Frag} {α : Al} {st : Store} {H : Hp} (r : RSt K α st H) : ∀ {vs : List Val} {ws : List V} {xs : List PV}, Paired (RV K α st H) vs ws → views st vs = some xs → Paired (RW K α st H) xs ws
  | [], ws, xs, h, e => by cases h; cases e; exact .nil
  | v :: vr, ws, xs, h, e => by
    cases h with
    | cons q t =>
      unfold views at e
      cases e1 : view st v with
      | none => rw [e1] at e; cases e
      | some x =>
        rw [e1] at e
        cases e2 : views st vr with
        | none => rw [e2] at e; cases e
        | some xr =>
          rw [e2] at e
          cases e
          exact .cons (q.view r e1) (views_rw r t e2)
theorem call_read {g : List PV → Option PV} {σ : L2.St} {H : Hp} {Q : VK} {irs : List E} {ir : E} (hi : ∀ env st, evalE C ir env st = (evalEs C irs env st).bind fun vs st => opN g vs st)
    (h : tP X.K C ir σ H Q) : tCB (fun ws H Q => ∃ α st xs z, RSt X.K α st H ∧ Paired (RW X.K α st H) xs ws ∧ g xs = some z ∧ ∀ w H', Same H H' → RP X.K H' (Live α st) z w → Q w H') (tPs X.K C irs) σ H Q := by
  obtain ⟨env, α, st, v, st', at', e, q⟩ := h
  rw [hi] at e
  obtain ⟨vs, st1, e1, e⟩ := Res.bind_inv e
  refine ⟨env, α, st, vs, st1, at', e1, fun ws H1 α1 x1 r1 pr => ?_⟩
  unfold opN at e
  cases e2 : views st1 vs with
  | none => rw [e2] at e; cases e
  | some xs =>
    rw [e2] at e
    obtain ⟨z, h1, h2, h3⟩ := okO_inv e
    subst h2 h3
    exact ⟨α1, st', xs, z, r1, views_rw r1 pr e2, h1, fun w H2 s2 rp => q w H2 α1 (x1.trans (.of_same r1 s2)) (r1.same s2) rp⟩
theorem se_callB {x : Str} {id : String} {g : List PV → Option PV} {ir : E} (hc : CallN X (.builtin id) g) (hi : ∀ env st, evalE C ir env st = (evalEs C irs env st).bind fun vs st => opN g vs st) (hg : Gl X x) (hm : X.mg x = none) (hv : bootBuiltins x = some (.builtin id))
    (ha : SA X C (e :: es) irs) (hn : x ≠ "__name__" := by decide) (hdb : (x == ("__debug__" : Str)) = false := by decide) (he : starEach (e :: es) X.env = (false, eval e X.env) :: starEach es X.env := by rfl) (hpl : (backTo pos (starEach es X.env)).any (·.1) = false := by rfl) :
    SE X C (.Call (.Name x p) (e :: es) [] pos) ir := PE.mono (pe_callB hc hg hm hv ha hn hdb he hpl) fun _ _ _ h => call_read hi h
theorem se_callTy {x : Str} {T : String} {g : List PV → Option PV} {ir : E} (hc : CallN X (.type T) g) (hi : ∀ env st, evalE C ir env st = (evalEs C irs env st).bind fun vs st => opN g vs st) (hg : Gl X x) (hm : X.mg x = none) (hv : bootBuiltins x = some (.type T))
    (ha : SA X C (e :: es) irs) (hn : x ≠ "__name__" := by decide) (hdb : (x == ("__debug__" : Str)) = false := by decide) (he : starEach (e :: es) X.env = (false, eval e X.env) :: starEach es X.env := by rfl) (hpl : (backTo pos (starEach es X.env)).any (·.1) = false := by rfl) :
    SE X C (.Call (.Name x p) (e :: es) [] pos) ir := PE.mono (pe_callTy hc hg hm hv ha hn hdb he hpl) fun _ _ _ h => call_read hi h
theorem n_len : CallN X (.builtin "len") (f1 fLen) := by
  intro pins s σ H ws us Q I rs ⟨α, st, xs, z, r, pr, hz, q⟩
  cases pr with
  | nil => cases hz
  | cons h t =>
    cases t with
    | cons _ _ => cases hz
    | nil =>
      rename_i x w
      have hz : fLen x = some z := hz
      have fin : ∀ {n : Int}, z = .int n → Q (.int n) H := fun e => q _ _ (Same.refl H) (by rw [e, RP])
      cases x with
      | tup l =>
        obtain ⟨a, vs, rfl, h1, h2⟩ := h.tup
        exact call_len_seq pins s σ H _ us Q I rs ⟨a, vs, rfl, .inr h1, fin (by rw [← h2.length]; cases hz; rfl)⟩
      | lst l =>
        obtain ⟨a, vs, rfl, h1, h2⟩ := h.lst
        exact call_len_seq pins s σ H _ us Q I rs ⟨a, vs, rfl, .inl h1, fin (by rw [← h2.length]; cases hz; rfl)⟩
      | str cs =>
        obtain ⟨h1, h2⟩ := h.str
        subst h1
        refine call_len_str pins s σ H _ us Q I rs ⟨_, rfl, by rw [str_len]; exact h2, fin ?_⟩
        rw [str_len]; cases hz; rfl
      | _ => cases hz
theorem f2_ints {k : Int → Int → Int} {xs : List PV} {z : PV} (h : f2 (fI2 k) xs = some z) : ∃ i j, xs = [.int i, .int j] ∧ z = .int (k i j) := by
  match xs, h with
  | [x, y], h =>
    have h : fI2 k x y = some z := h
    cases x <;> cases y <;> simp only [fI2, reduceCtorEq, Option.some.injEq] at h
    exact ⟨_, _, rfl, h.symm⟩
theorem n_max2 (hc : X.calm = true) : CallN X (.builtin "max") (f2 (fI2 fun i j => if i < j then j else i)) := by
  intro pins s σ H ws us Q I rs ⟨α, st, xs, z, r, pr, hz, q⟩
  obtain ⟨i, j, rfl, rfl⟩ := f2_ints hz
  cases pr with
  | cons h1 t =>
    cases t with
    | cons h2 t =>
      cases t
      have e1 := h1.int
      have e2 := h2.int
      subst e1 e2
      exact call_max2 hc pins s σ H _ us Q I rs ⟨i, j, rfl, q _ _ (Same.refl H) (by rw [RP])⟩
theorem n_int : CallN X (.type "int") (f1 fInt) := by
  intro pins s σ H ws us Q I rs ⟨α, st, xs, z, r, pr, hz, q⟩
  match xs, pr, hz with
  | [.int i], .cons h1 .nil, hz =>
    have e1 := h1.int
    subst e1
    exact call_int1 pins s σ H _ us Q I rs (.inl ⟨i, rfl, q _ _ (Same.refl H) (by cases hz; rw [RP])⟩)
  | [.bl b], .cons h1 .nil, hz =>
    have e1 := h1.bl
    subst e1
    exact call_int1 pins s σ H _ us Q I rs (.inr ⟨b, rfl, q _ _ (Same.refl H) (by cases hz; rw [RP])⟩)
  | [.non], _, hz => cases hz
  | [.str _], _, hz => cases hz
  | [.tup _], _, hz => cases hz
  | [.lst _], _, hz => cases hz
  | [], _, hz => cases hz
  | _ :: _ :: _, _, hz => cases hz

/-! ### statements -/
def tS (K : PySem.W.Frag) (C : CallF) (W : Nat) (ss : List S) : TS := fun D σ H => ∃ env α st fl st', At K α st H env σ ∧ execSs C W ss env st = .ok fl st' ∧
  match fl with
  | .next env' => ∀ σ' H' α', Ext K α st H α' st' H' → At K α' st' H' env' σ' → D.nx σ' H'
  | .ret v => ∀ w H' α', Ext K α st H α' st' H' → RSt K α' st' H' → RV K α' st' H' v w → D.rt w H'
def tS1 (K : PySem.W.Frag) (C : CallF) (W : Nat) (ss : S) : TS := fun D σ H => ∃ env α st fl st', At K α st H env σ ∧ execS C W ss env st = .ok fl st' ∧
  match fl with
  | .next env' => ∀ σ' H' α', Ext K α st H α' st' H' → At K α' st' H' env' σ' → D.nx σ' H'
  | .ret v => ∀ w H' α', Ext K α st H α' st' H' → RSt K α' st' H' → RV K α' st' H' v w → D.rt w H'
abbrev SSs (X : Cx) (C : CallF) (W : Nat) (b : List Stmt) (ss : List S) : Prop := PSs X b (tS X.K C W ss)
abbrev SS (X : Cx) (C : CallF) (W : Nat) (b : Stmt) (ss : S) : Prop := PS X b (tS1 X.K C W ss)
variable {W : Nat}
theorem PS.mono {st : Stmt} {t t' : TS} (h : PS X st t) (m : ∀ D σ H, t' D σ H → t D σ H) : PS X st t' := fun pins s σ H D I q => h pins s σ H D I (m _ _ _ q)
theorem PSs.mono {st : List Stmt} {t t' : TS} (h : PSs X st t) (m : ∀ D σ H, t' D σ H → t D σ H) : PSs X st t' := fun pins s σ H D I q => h pins s σ H D I (m _ _ _ q)
theorem At.same_nx {K : PySem.W.Frag} {α : Al} {st : Store} {H : Hp} {env : Env} {σ : L2.St} (a : At K α st H env σ) : Ext K α st H α st H ∧ At K α st H env σ := ⟨.refl, a⟩
theorem At.set {K : PySem.W.Frag} {α : Al} {st : Store} {H : Hp} {env : Env} {σ : L2.St} {i : Nat} {v : Val} {w : V} (a : At K α st H env σ) (h : RV K α st H v w) : At K α st H (env.set i (some v)) (σ.set i (some w)) := by
  refine ⟨by simp [a.len], a.rs, fun j u hj => ?_⟩
  by_cases hij : i = j
  · subst hij
    by_cases hl : i < env.length
    · rw [List.getElem?_set_self hl] at hj
      cases hj
      exact ⟨w, by rw [List.getElem?_set_self (by rw [← a.len]; exact hl)], h⟩
    · rw [List.getElem?_eq_none (by simp; omega)] at hj
      cases hj
  · rw [List.getElem?_set_ne hij] at hj
    obtain ⟨w', h1, h2⟩ := a.env j u hj
    exact ⟨w', by rw [List.getElem?_set_ne hij]; exact h1, h2⟩
theorem ss_nil : SSs X C W [] [] := PSs.mono pss_nil fun D σ H ⟨env, α, st, fl, st', at', e, q⟩ => by
  rw [exs_nil] at e
  cases e
  exact q σ H α .refl at'
theorem ss_cons {st : Stmt} {rest : List Stmt} {i : S} {ir : List S} (h1 : SS X C W st i) (h2 : SSs X C W rest ir) : SSs X C W (st :: rest) (i :: ir) :=
  PSs.mono (pss_cons h1 h2) fun D σ H ⟨env, α, st, fl, st', at', e, q⟩ => by
    rw [exs_cons] at e
    obtain ⟨f1, st1, e1, e⟩ := Res.bind_inv e
    refine ⟨env, α, st, f1, st1, at', e1, ?_⟩
    cases f1 with
    | ret v =>
      cases e
      exact q
    | next env1 =>
      intro σ1 H1 α1 x1 at1
      refine ⟨env1, α1, st1, fl, st', at1, e, ?_⟩
      cases fl with
      | next env2 => exact fun σ2 H2 α2 x2 at2 => q σ2 H2 α2 (x1.trans x2) at2
      | ret v => exact fun w H2 α2 x2 r2 rv => q w H2 α2 (x1.trans x2) r2 rv
theorem ss_expr {ie : E} (h : SE X C e ie) (hs : swapsWith e none pos.line X.env = pure false := by rfl) : SS X C W (.Expr e pos) (.expr ie) :=
  PS.mono (ps_expr h hs) fun D σ H ⟨env, α, st, fl, st', at', e, q⟩ => by
    rw [ex_expr] at e
    obtain ⟨v, st1, e1, e⟩ := Res.bind_inv e
    cases e
    exact ⟨env, α, st, v, st', at', e1, fun w H1 α1 x1 r1 v1 => q σ H1 α1 x1 (at'.next x1 r1)⟩
theorem ss_ret {ie : E} (h : SE X C e ie) : SS X C W (.Return (some e) pos) (.ret ie) :=
  PS.mono (ps_ret h) fun D σ H ⟨env, α, st, fl, st', at', e, q⟩ => by
    rw [ex_ret] at e
    obtain ⟨v, st1, e1, e⟩ := Res.bind_inv e
    cases e
    exact ⟨env, α, st, v, st', at', e1, q⟩
theorem ss_pass : SS X C W (.Pass pos) .pass := PS.mono ps_pass fun D σ H ⟨env, α, st, fl, st', at', e, q⟩ => by
  rw [ex_pass] at e
  cases e
  exact q σ H α .refl at'
theorem ss_if {c : Expr} {ic : E} {a b : List Stmt} {sa sb : List S} (hc : ST X C c ic) (ha : SSs X C W a sa) (hb : SSs X C W b sb) : SS X C W (.If c a b pos) (.ite ic sa sb) :=
  PS.mono (ps_if hc ha hb) fun D σ H ⟨env, α, st, fl, st', at', e, q⟩ => by
    rw [ex_ite] at e
    obtain ⟨k, st1, e1, e⟩ := Res.bindB_inv e
    refine ⟨env, α, st, k, st1, at', e1, fun H1 α1 x1 r1 => ?_⟩
    have go : ∀ {ss : List S}, execSs C W ss env st1 = .ok fl st' → tS X.K C W ss D σ H1 := fun {ss} e2 => by
      refine ⟨env, α1, st1, fl, st', at'.next x1 r1, e2, ?_⟩
      cases fl with
      | next env2 => exact fun σ2 H2 α2 x2 at2 => q σ2 H2 α2 (x1.trans x2) at2
      | ret v => exact fun w H2 α2 x2 r2 rv => q w H2 α2 (x1.trans x2) r2 rv
    cases k with
    | true => exact go e
    | false => exact go e
theorem ss_set {i : Nat} {x : Str} {ie : E} {pos' : Pos} (hN : X.N.Nodup) (hi : X.N[i]? = some x) (hx : Loc X.env.scope x) (h : SE X C e ie) (hs : swapsWith e (some (.Name x pos')) pos.line X.env = pure false := by rfl) (hf : X.fn x = true ∨ X.env.scope.names.lookup x = some .local := by first | exact .inl rfl | exact .inr rfl | assumption) :
    SS X C W (.Assign [.Name x pos'] e pos) (.set i ie) :=
  PS.mono (ps_set hN hi hx h hs hf) fun D σ H ⟨env, α, st, fl, st', at', e, q⟩ => by
    rw [ex_set] at e
    obtain ⟨v, st1, e1, e⟩ := Res.bind_inv e
    cases e
    exact ⟨env, α, st, v, st', at', e1, fun w H1 α1 x1 r1 v1 => q _ H1 α1 x1 ((at'.next x1 r1).set v1)⟩
end
end OR
set_option Elab.async false
set_option linter.all false
set_option maxRecDepth 100000
set_option maxHeartbeats 1000000
/- what is walked; for -/
namespace OR
open PySem L2 PySem.SeqAt PyProof.Rows
/-- the signs of a text -/
def Its (cs : List Nat) : L2.It := ⟨fun i _ => i < cs.length, fun i H x H' => H' = H ∧ ∃ c, cs[i]? = some c ∧ x = .str ⟨#[c]⟩, fun i _ => cs.length ≤ i⟩
theorem turn_str {P : Program} {w : World} {K : PySem.W.Frag} {tg : Expr} (it : Addr) (cs : List Nat) (t : Tok) (ty : String)
    (hty : ["enumerate", "zip", "dict_itemiterator", "dict_reverseitemiterator", "odict_iterator", "itertools.zip_longest", "itertools.pairwise"].contains ty = false)
    (item : ∀ {A : Around} {E : Value → Shared → Prop} {s : Shared} {i c : Nat} {Q : Option Value → Shared → Prop}, s.heap.IsStrIter it ty ⟨cs.toArray⟩ t i → (⟨cs.toArray⟩ : Str).cps[i]? = some c →
      (∀ h', h'.IsStrIter it ty ⟨cs.toArray⟩ t (i + 1) → Heap.SameBut it s.heap h' → Q (some (.str ⟨#[c]⟩ s.toks)) { s with heap := h', toks := s.toks + 1 }) → wpAny (model P w) A (pyNext (.ref it)) Q E s)
    (done : ∀ {A : Around} {E : Value → Shared → Prop} {s : Shared} {i : Nat} {Q : Option Value → Shared → Prop}, A.handled = none → s.heap.IsStrIter it ty ⟨cs.toArray⟩ t i → (⟨cs.toArray⟩ : Str).cps[i]? = none →
      (∀ h', Heap.ExtBut it s.heap h' → Q none { s with heap := h' }) → wpAny (model P w) A (pyNext (.ref it)) Q E s)
    (self : ∀ {A : Around} {E : Value → Shared → Prop} {s : Shared} {i : Nat} {Q : Value → Shared → Prop}, s.heap.IsStrIter it ty ⟨cs.toArray⟩ t i → Q (.ref it) s → wpAny (model P w) A (pyIter (.ref it)) Q E s) :
    Turn P w K tg (Its cs) [it] it (fun i h => h.IsStrIter it ty ⟨cs.toArray⟩ t i) where
  mem := by simp
  obj := fun i h st b hb => by
    have e : b = it := by simpa using hb
    subst e
    obtain ⟨o, e, c, d⟩ := st
    exact ⟨o, e, fun v z => by rw [d] at z; cases z⟩
  keep := fun i h h' st k => by
    obtain ⟨o, e, c, d⟩ := st
    exact ⟨o, k it (by simp) o e, c, d⟩
  item := by
    intro X hP hw hK hc i pins s σ H E I hf st hg
    subst hP hw hK
    obtain ⟨f0, f1, f2, f3, f4, f5⟩ := hf it (by simp)
    have hg : i < cs.length := hg
    refine item st (c := cs[i]) (by simp [hg]) fun h' st' sb => ?_
    have I1 : Inv X pins σ H { s with heap := h', toks := s.toks + 1 } := I.turned (fun b o hb e => (sb.2 b hb).trans e) f0 f1 f3 f4 f5
    obtain ⟨o, e, c, d⟩ := id st'
    exact ⟨_, rfl, go_of (s := { s with heap := h', toks := s.toks + 1 }) e c d hty ⟨.str ⟨#[cs[i]]⟩, H, I1, ⟨_, rfl⟩, ⟨rfl, cs[i], by simp [hg], rfl⟩, st', fun b hb => (hf b hb).1⟩⟩
  done := by
    intro X hP hw hK hc i pins s σ H E I hf st hg
    subst hP hw hK
    obtain ⟨f0, f1, f2, f3, f4, f5⟩ := hf it (by simp)
    have hg : cs.length ≤ i := hg
    exact done (I.ok.hd hc) st (by simp [hg]) fun h' eb => ⟨rfl, I.turned (t' := s.toks) (fun b o hb e => eb b o hb e) f0 f1 f3 f4 f5⟩
  self := fun _ _ _ _ _ st h => self st h
/-- a list, a tuple or a text -/
def iSeq (K : PySem.W.Frag) (tl : TE) : TI := fun σ H R => tl σ H fun x H1 =>
  (∃ a xs, x = .ref a ∧ SqL K H1 a xs ∧ (xs.length ≤ sizeLine → R (Itl K a) H1)) ∨ (∃ a xs, x = .ref a ∧ SqT K H1 a xs ∧ (xs.length ≤ sizeLine → R (Itt K a) H1)) ∨ ∃ cs, x = .str ⟨cs.toArray⟩ ∧ R (Its cs) H1
theorem pi_seq {X : Cx} {tg l : Expr} {tl : TE} (hl : PE X l tl) : PI X tg l (iSeq X.K tl) := by
  intro pins s σ H R I h
  refine thn (hl pins s σ H _ I h) fun v s1 ⟨x, H1, I1, r1, q1⟩ => ?_
  rcases q1 with ⟨a, xs, e, hq, q⟩ | ⟨a, xs, e, hq, q⟩ | ⟨cs, e, q⟩
  · subst e
    cases r1
    obtain ⟨its, rv, p, hz⟩ := I1.list hq
    refine wpAny_pyIter_list p.isList ?_
    refine ⟨s1.heap.objs.size, [s1.heap.objs.size], _, _, H1, rfl, I1.kept (t' := s1.toks) fun b o e => Heap.get?_push_of_some _ e, turn_list a _, ⟨_, Heap.get?_push_size _ rfl, rfl, rfl⟩, fun b hb => ?_, q hz⟩
    have e : b = s1.heap.objs.size := by simpa using hb
    subst e
    exact I1.fpOk (Nat.le_refl _) (I1.hok.fresh (Nat.le_refl _))
  · subst e
    cases r1
    obtain ⟨its, rv, p, hz⟩ := I1.tuple hq
    refine wpAny_pyIter_tuple (show s1.heap.IsTuple a its.toArray from p) ?_
    refine ⟨s1.heap.objs.size, [s1.heap.objs.size], _, _, H1, rfl, I1.kept (t' := s1.toks) fun b o e => Heap.get?_push_of_some _ e, turn_tuple a _, ⟨_, Heap.get?_push_size _ rfl, rfl, rfl⟩, fun b hb => ?_, q hz⟩
    have e : b = s1.heap.objs.size := by simpa using hb
    subst e
    exact I1.fpOk (Nat.le_refl _) (I1.hok.fresh (Nat.le_refl _))
  · subst e
    obtain ⟨t, rfl⟩ := r1
    have fp : ∀ b ∈ [s1.heap.objs.size], FpOk X pins H1 b := fun b hb => by
      have e : b = s1.heap.objs.size := by simpa using hb
      subst e
      exact I1.fpOk (Nat.le_refl _) (I1.hok.fresh (Nat.le_refl _))
    cases ha : (⟨cs.toArray⟩ : Str).cps.all (· < 128)
    · refine wpAny_pyIter_wide ha ?_
      exact ⟨s1.heap.objs.size, [s1.heap.objs.size], _, _, H1, rfl, I1.kept (t' := s1.toks) fun b o e => Heap.get?_push_of_some _ e,
        turn_str _ cs t "str_iterator" (by decide) (fun h1 h2 h3 => wpAny_pyNext_wide_item h1 h2 h3) (fun h0 h1 h2 h3 => wpAny_pyNext_wide_end h0 h1 h2 h3) (fun h1 h2 => wpAny_pyIter_striter_wide h1 h2), ⟨_, Heap.get?_push_size _ rfl, rfl, rfl⟩, fp, q⟩
    · refine wpAny_pyIter_ascii ha ?_
      exact ⟨s1.heap.objs.size, [s1.heap.objs.size], _, _, H1, rfl, I1.kept (t' := s1.toks) fun b o e => Heap.get?_push_of_some _ e,
        turn_str _ cs t "str_ascii_iterator" (by decide) (fun h1 h2 h3 => wpAny_pyNext_ascii_item h1 h2 h3) (fun h0 h1 h2 h3 => wpAny_pyNext_ascii_end h0 h1 h2 h3) (fun h1 h2 => wpAny_pyIter_striter_ascii h1 h2), ⟨_, Heap.get?_push_size _ rfl, rfl, rfl⟩, fp, q⟩

/-- J yields the values of xs, one a turn, whatever is done between that keeps what stands -/
structure WalkAt (K : PySem.W.Frag) (α : Al) (st : Store) (H : Hp) (J : L2.It) (xs : List PV) : Prop where
  go : ∀ (i : Nat), i < xs.length → J.go i H
  yld : ∀ (i : Nat) x w H', xs[i]? = some x → J.yld i H w H' → Same H H' ∧ RP K H' (Live α st) x w
  stop : ∀ (i : Nat), xs.length ≤ i → J.stop i H
def Walk (K : PySem.W.Frag) (α : Al) (st : Store) (H : Hp) (J : L2.It) (src : Option (Nat × List PV)) (xs : List PV) : Prop := ∀ α' st' H', Lk K α st H α' st' H' → RSt K α' st' H' → srcOk st' src = true → WalkAt K α' st' H' J xs
def tI (K : PySem.W.Frag) (C : CallF) (it : It) : TI := fun σ H R => ∃ env α st xs src st', At K α st H env σ ∧ evalIt C it env st = .ok (xs, src) st' ∧
  ∀ J H' α', Ext K α st H α' st' H' → RSt K α' st' H' → Walk K α' st' H' J src xs → xs.length ≤ sizeLine → R J H'
abbrev SI (X : Cx) (C : CallF) (tg iter : Expr) (it : It) : Prop := PI X tg iter (tI X.K C it)
theorem PI.mono {X : Cx} {tg iter : Expr} {t t' : TI} (h : PI X tg iter t) (m : ∀ σ H R, t' σ H R → t σ H R) : PI X tg iter t' := fun pins s σ H R I q => h pins s σ H R I (m _ _ _ q)
section
variable {X : Cx} {C : CallF} {W : Nat} {tg l : Expr} {il : E} {pos p : Pos}
theorem si_seq (hl : SE X C l il) : SI X C tg l (.of il) := PI.mono (pi_seq hl) fun σ H R ⟨env, α, st, xs, src, st', at', e, q⟩ => by
  rw [evIt_of] at e
  obtain ⟨v, st1, e1, e⟩ := Res.bind_inv e
  refine ⟨env, α, st, v, st1, at', e1, fun w H1 α1 x1 r1 v1 => ?_⟩
  unfold walkOf at e
  cases v with
  | ref n =>
    cases hv : view st1 (.ref n) with
    | none => rw [hv] at e; cases e
    | some y =>
      rw [hv] at e
      have hy : ∃ ys, y = .lst ys ∧ objAt st1 n = some (.lst ys) := by
        have hv : (match objAt st1 n with | some (.lst xs) => some (PV.lst xs) | _ => none) = some y := hv
        cases ho : objAt st1 n with
        | none => rw [ho] at hv; cases hv
        | some ob =>
          rw [ho] at hv
          cases ob with
          | lst ys => cases hv; exact ⟨ys, rfl, rfl⟩
          | dct _ => cases hv
          | dead => cases hv
      obtain ⟨ys, rfl, ho⟩ := hy
      cases e
      obtain ⟨a, hw, ha⟩ := v1
      obtain ⟨a', vs, h1, h2, h3⟩ := r1.lst n xs ho
      rw [ha] at h1; cases h1
      refine .inl ⟨a, vs, hw, SqL.of h2, fun hz => q _ _ _ x1 r1 (fun α2 st2 H2 x2 r2 so => ?_) (by rw [h3.length]; exact hz)⟩
      have so : view st2 (.ref n) = some (.lst xs) := of_decide_eq_true so
      have ho2 : objAt st2 n = some (.lst xs) := by
        have so : (match objAt st2 n with | some (.lst xs) => some (PV.lst xs) | _ => none) = some (.lst xs) := so
        cases ho : objAt st2 n with
        | none => rw [ho] at so; cases so
        | some ob =>
          rw [ho] at so
          cases ob with
          | lst ys => cases so; rfl
          | dct _ => cases so
          | dead => cases so
      obtain ⟨a', vs2, k1, k2, g2⟩ := r2.lst n xs ho2
      rw [x2.pre n a ha] at k1; cases k1
      have g1 : SqL X.K H2 a vs2 := SqL.of k2
      have gl := g2.length
      refine ⟨fun i hi => ⟨vs2, vs2[i], g1, List.getElem?_eq_getElem (by omega)⟩, fun i x w H' hx ⟨hy1, hy2⟩ => ?_, fun i hi => ⟨vs2, g1, by omega⟩⟩
      subst hy1
      obtain ⟨u, hu1, hu2⟩ := g2.get hx
      rw [hy2 vs2 g1] at hu1
      cases hu1
      exact ⟨Same.refl _, hu2⟩
  | p y =>
    have e : (match items y with | some xs => Res.ok (xs, none) st1 | none => .stuck) = Res.ok (xs, src) st' := e
    cases y with
    | tup ys =>
      cases e
      have v1 : RP X.K H1 (Live α1 st') (.tup xs) w := v1
      rw [RP] at v1
      obtain ⟨a, vs, rfl, h1, h2⟩ := v1
      refine .inr (.inl ⟨a, vs, rfl, h1, fun hz => q _ _ _ x1 r1 (fun α2 st2 H2 x2 _ _ => ?_) (by rw [h2.length]; exact hz)⟩)
      have g1 := x2.tup a vs h1
      have g2 := x2.rps h2
      have gl := g2.length
      refine ⟨fun i hi => ⟨vs, vs[i], g1, List.getElem?_eq_getElem (by omega)⟩, fun i x w H' hx ⟨hy1, hy2⟩ => ?_, fun i hi => ⟨vs, g1, by omega⟩⟩
      subst hy1
      obtain ⟨u, hu1, hu2⟩ := g2.get hx
      rw [hy2 vs g1] at hu1
      cases hu1
      exact ⟨Same.refl _, hu2⟩
    | lst ys =>
      cases e
      have v1 : RP X.K H1 (Live α1 st') (.lst xs) w := v1
      rw [RP] at v1
      obtain ⟨a, vs, rfl, h1, h0, h2⟩ := v1
      refine .inl ⟨a, vs, rfl, h1, fun hz => q _ _ _ x1 r1 (fun α2 st2 H2 x2 _ _ => ?_) (by rw [h2.length]; exact hz)⟩
      have g1 := (x2.lst a vs h1 h0).1
      have g2 := x2.rps h2
      have gl := g2.length
      refine ⟨fun i hi => ⟨vs, vs[i], g1, List.getElem?_eq_getElem (by omega)⟩, fun i x w H' hx ⟨hy1, hy2⟩ => ?_, fun i hi => ⟨vs, g1, by omega⟩⟩
      subst hy1
      obtain ⟨u, hu1, hu2⟩ := g2.get hx
      rw [hy2 vs g1] at hu1
      cases hu1
      exact ⟨Same.refl _, hu2⟩
    | str cs =>
      cases e
      have v1 : RP X.K H1 (Live α1 st') (.str cs) w := v1
      rw [RP] at v1
      refine .inr (.inr ⟨cs, v1.1, q _ _ _ x1 r1 (fun α2 st2 H2 x2 _ _ => ?_) (by simpa using v1.2)⟩)
      refine ⟨fun i hi => by simpa [Its] using hi, fun i x w H' hx ⟨hy1, c, hc, hw⟩ => ?_, fun i hi => by simpa [Its] using hi⟩
      subst hy1
      refine ⟨Same.refl _, ?_⟩
      rw [List.getElem?_map, hc] at hx
      cases hx
      rw [RP]
      exact ⟨hw, by show 1 ≤ sizeLine; decide⟩
    | _ => cases e
theorem si_range {a : Expr} {ia : E} (hg : Gl X "range") (hm : X.mg "range" = none) (ha : SE X C a ia) (hs : starEach [a] X.env = [(false, eval a X.env)] := by rfl) : SI X C tg (.Call (.Name "range" p) [a] [] pos) (.range ia) :=
  PI.mono (pi_range1 hg hm (sa_cons ha sa_nil hs) hs) fun σ H R ⟨env, α, st, xs, src, st', at', e, q⟩ => by
    rw [evIt_range] at e
    obtain ⟨v, y, st1, e1, hv, e⟩ := Res.bindV_inv e
    refine ⟨env, α, st, [v], st1, at', by rw [evEs_cons, e1]; rfl, fun ws H1 α1 x1 r1 pr => ?_⟩
    cases pr with
    | cons h t =>
      cases t
      cases y with
      | int i =>
        have e : (if -1000000 ≤ i ∧ i ≤ SZ then Res.ok ((List.range i.toNat).map (fun k : Nat => PV.int (k : Int)), none) st1 else .stuck) = Res.ok (xs, src) st' := e
        by_cases hc : -1000000 ≤ i ∧ i ≤ SZ
        · rw [if_pos hc] at e
          cases e
          have hi := (h.view r1 hv).int
          subst hi
          obtain ⟨c1, c2⟩ := hc
          unfold SZ at c2
          have hzl : ((List.range i.toNat).map (fun k : Nat => PV.int (k : Int))).length ≤ sizeLine := by
            have e : sizeLine = 16777216 := by decide
            rw [List.length_map, List.length_range, e]
            omega
          refine ⟨i, rfl, by omega, by omega, q _ _ _ x1 r1 (fun α2 st2 H2 x2 _ _ => ?_) hzl⟩
          refine ⟨fun k hk => by simpa [Itr] using hk, fun k x w H' hx ⟨hy1, hy2⟩ => ?_, fun k hk => by simpa [Itr] using hk⟩
          subst hy1 hy2
          refine ⟨Same.refl _, ?_⟩
          have hk : k < i.toNat := by
            have := (List.getElem?_eq_some_iff.mp hx).1
            simpa using this
          rw [List.getElem?_map, List.getElem?_range hk] at hx
          cases hx
          rw [RP]
          simp
        · rw [if_neg hc] at e; cases e
      | _ => cases e
/-! ### targets -/
def tG (K : PySem.W.Frag) (t : Tg) : TG := fun v σ H Q => ∃ env α st x env', At K α st H env σ ∧ RP K H (Live α st) x v ∧ bindTg t (.p x) st env = some env' ∧ ∀ σ', At K α st H env' σ' → Q σ' H
abbrev SG (X : Cx) (tg : Expr) (t : Tg) : Prop := PG X tg (tG X.K t)
theorem PG.mono {t t' : TG} (h : PG X tg t) (m : ∀ v σ H Q, t' v σ H Q → t v σ H Q) : PG X tg t' := fun pins s σ H v u Q I r q => h pins s σ H v u Q I r (m _ _ _ _ q)
theorem sg_name {i : Nat} {x : Str} (hN : X.N.Nodup) (hi : X.N[i]? = some x) (hx : Loc X.env.scope x) (hf : X.fn x = true ∨ X.env.scope.names.lookup x = some .local := by first | exact .inl rfl | exact .inr rfl | assumption) : SG X (.Name x pos) (.name i) :=
  PG.mono (pg_name hN hi hx hf) fun v σ H Q ⟨env, α, st, x, env', at', rp, e, q⟩ => by
    cases e
    exact q _ (at'.set rp)
/-! ### for -/
theorem ss_for {iter : Expr} {body : List Stmt} {it : It} {t : Tg} {ib : List S} (hp : PassesOwn (model X.prog X.w) X.A X.env X.xe) (hc : X.calm = true) (hi : SI X C tg iter it) (hg : SG X tg t) (hb : SSs X C W body ib)
    (hs : ∀ x, foldedSetIterable iter X.env x = pure x := by intro _; rfl) : SS X C W (.For tg iter body [] pos) (.for t it ib) :=
  PS.mono (ps_for hp hc hi hg hb hs) fun D σ H ⟨env, α, st, fl, st', at', e, q⟩ => by
    rw [ex_for] at e
    obtain ⟨⟨xs, src⟩, st1, e1, e⟩ := Res.bind_inv e
    refine ⟨env, α, st, xs, src, st1, at', e1, fun J H1 α1 x1 r1 wk _ => ?_⟩
    have e : forLoop (execSs C W ib) t src xs env st1 = .ok fl st' := e
    let Pv : Nat → L2.St → Hp → Prop := fun i σ H2 => ∃ env2 α2 st2, At X.K α2 st2 H2 env2 σ ∧ Ext X.K α1 st1 H1 α2 st2 H2 ∧ forLoop (execSs C W ib) t src (xs.drop i) env2 st2 = .ok fl st'
    refine ⟨fun i m σ H2 => m = xs.length - i ∧ i ≤ xs.length ∧ Pv i σ H2, ⟨xs.length, by simp, Nat.zero_le _, env, α1, st1, at'.next x1 r1, .refl, e⟩, ?_⟩
    rintro i m σ2 H2 ⟨rfl, hil, env2, α2, st2, at2, x2, e2⟩
    by_cases hlt : i < xs.length
    · rw [List.drop_eq_getElem_cons hlt, forLoop] at e2
      by_cases so : srcOk st2 src = true
      · rw [if_pos so] at e2
        have wa := wk α2 st2 H2 x2.lk at2.rs so
        refine .inr ⟨wa.go i hlt, Pv (i + 1), fun σ3 H3 p3 => ⟨xs.length - (i + 1), by omega, rfl, hlt, p3⟩, fun w H3 hy => ?_⟩
        obtain ⟨s3, rp⟩ := wa.yld i xs[i] w H3 (List.getElem?_eq_getElem hlt) hy
        have x3 : Ext X.K α2 st2 H2 α2 st2 H3 := .of_same at2.rs s3
        have at3 := at2.next x3 (at2.rs.same s3)
        cases hbt : bindTg t (.p xs[i]) st2 env2 with
        | none => rw [hbt] at e2; cases e2
        | some env3 =>
          rw [hbt] at e2
          obtain ⟨f, st4, e4, e2⟩ := Res.bind_inv e2
          refine ⟨env2, α2, st2, xs[i], env3, at3, rp, hbt, fun σ3 at3' => ?_⟩
          refine ⟨env3, α2, st2, f, st4, at3', e4, ?_⟩
          cases f with
          | next env4 => exact fun σ5 H5 α5 x5 at5 => ⟨env4, α5, st4, at5, x2.trans (x3.trans x5), e2⟩
          | ret v =>
            cases e2
            exact fun w H5 α5 x5 r5 rv => q w H5 α5 (x1.trans (x2.trans (x3.trans x5))) r5 rv
      · rw [if_neg so] at e2; cases e2
    · have hie : xs.drop i = [] := List.drop_eq_nil_of_le (by omega)
      rw [hie, forLoop] at e2
      by_cases so : srcOk st2 src = true
      · rw [if_pos so] at e2
        cases e2
        exact .inl ⟨(wk α2 st' H2 x2.lk at2.rs so).stop i (by omega), q σ2 H2 α2 (x1.trans x2) at2⟩
      · rw [if_neg so] at e2; cases e2
end
end OR
set_option Elab.async false
set_option linter.all false
set_option maxRecDepth 100000
set_option maxHeartbeats 1000000
/- a comprehension -/
namespace OR
open PySem L2 PySem.SeqAt PyProof.Rows
theorem closure_go {env : PySem.Env} (f : (Str × NameKind) → List (Str × Addr) → Sem (ForInStep (List (Str × Addr))))
    (h1 : ∀ x r c, x.2 = .free → env.cells.lookup x.1 = some c → f x r = pure (.yield ((x.1, c) :: r))) (h2 : ∀ x r, x.2 ≠ .free → f x r = pure (.yield r)) :
    ∀ (l : List (Str × NameKind)) (acc : List (Str × Addr)), (∀ x ∈ l, x.2 = .free → ∃ c, env.cells.lookup x.1 = some c) → (∀ x c, acc.lookup x = some c → env.cells.lookup x = some c) →
      ∃ cl, forIn l acc f = pure cl ∧ (∀ x c, cl.lookup x = some c → env.cells.lookup x = some c) ∧ (∀ x ∈ l, x.2 = .free → ∃ c, cl.lookup x.1 = some c) ∧ ∀ x, (∃ c, acc.lookup x = some c) → ∃ c, cl.lookup x = some c
  | [], acc, _, ha => ⟨acc, rfl, ha, fun x hx => absurd hx (by simp), fun x h => h⟩
  | y :: r, acc, hl, ha => by
    by_cases hy : y.2 = .free
    · obtain ⟨c, hc⟩ := hl y List.mem_cons_self hy
      have ha' : ∀ x c', ((y.1, c) :: acc).lookup x = some c' → env.cells.lookup x = some c' := fun x c' e => by
        rw [List.lookup_cons] at e
        split at e
        · rename_i hx
          cases e
          have : x = y.1 := by simpa using hx
          rw [this]; exact hc
        · exact ha x c' e
      obtain ⟨cl, g1, g2, g3, g4⟩ := closure_go f h1 h2 r ((y.1, c) :: acc) (fun x hx => hl x (List.mem_cons_of_mem _ hx)) ha'
      have keep : ∀ x, (∃ c', acc.lookup x = some c') → ∃ c', ((y.1, c) :: acc).lookup x = some c' := fun x ⟨c', e⟩ => by
        rw [List.lookup_cons]
        split
        · exact ⟨c, rfl⟩
        · exact ⟨c', e⟩
      refine ⟨cl, ?_, g2, fun x hx hf => ?_, fun x hx => g4 x (keep x hx)⟩
      · rw [List.forIn_cons, h1 y acc c hy hc]
        exact g1
      · rcases List.mem_cons.mp hx with e | hx
        · subst e
          exact g4 _ ⟨c, by rw [List.lookup_cons]; simp⟩
        · exact g3 x hx hf
    · obtain ⟨cl, g1, g2, g3, g4⟩ := closure_go f h1 h2 r acc (fun x hx => hl x (List.mem_cons_of_mem _ hx)) ha
      refine ⟨cl, ?_, g2, fun x hx hf => ?_, g4⟩
      · rw [List.forIn_cons, h2 y acc hy]
        exact g1
      · rcases List.mem_cons.mp hx with e | hx
        · subst e; exact absurd hf hy
        · exact g3 x hx hf
/-- the closure of a block: the cells of the names that it takes from around -/
theorem closure_ok {env : PySem.Env} {scope : Scope} (h : ∀ x ∈ scope.names, x.2 = .free → ∃ c, env.cells.lookup x.1 = some c) :
    ∃ cl, closureFor scope env = pure cl ∧ (∀ x c, cl.lookup x = some c → env.cells.lookup x = some c) ∧ ∀ x ∈ scope.names, x.2 = .free → ∃ c, cl.lookup x.1 = some c := by
  unfold closureFor
  obtain ⟨cl, g1, g2, g3, _⟩ := closure_go (env := env) (fun (x : Str × NameKind) (r : List (Str × Addr)) => (match x with
    | (name, kind) => if (kind == .free) = true then (do
        let c ← cellOf env name
        pure (ForInStep.yield ((name, c) :: r))) else pure (ForInStep.yield r) : Sem (ForInStep (List (Str × Addr)))))
    (fun x r c hx hc => by
      obtain ⟨n, k⟩ := x
      simp only at hx hc ⊢
      subst hx
      unfold cellOf
      rw [hc]
      rfl)
    (fun x r hx => by
      obtain ⟨n, k⟩ := x
      simp only at hx ⊢
      rw [if_neg (by simpa using hx)])
    scope.names [] h (fun x c e => by simp at e)
  refine ⟨cl, ?_, g2, g3⟩
  show (forIn scope.names [] _ >>= fun cs => pure cs) = pure cl
  rw [show (forIn scope.names ([] : List (Str × Addr)) _) = pure cl from g1]
  rfl
/-- the context of a block -/
def compCx (X : Cx) (scope : Scope) (N : List Str) (cl : List (Str × Addr)) (s₀ : Shared) (H₀ : Hp) (ex : List Addr) (pn : List (Addr × Obj)) : Cx where
  prog := X.prog
  w := X.w
  K := X.K
  mg := X.mg
  base := X.base
  A := X.A
  N := N
  s₀ := s₀
  H₀ := H₀
  env := compEnvC scope cl s₀.heap.objs.size X.env
  outer := X.stack
  stack := X.stack
  ex := ex
  fn := fun _ => false
  calm := X.calm
  pn := pn
  xe := fun _ _ => False
section
variable {X : Cx} {pins : List (Addr × Obj)} {σ : L2.St} {H : Hp} {s : Shared} {scope : Scope} {N : List Str} {cl : List (Str × Addr)} {fp : List Addr} {caps : List Nat}
/-- the block's entry -/
theorem comp_inv {h1 : Heap} {σ' : L2.St} (I : Inv X pins σ H s) (hk : scope.kind = .function) (hcl : ∀ x c, cl.lookup x = some c → X.env.cells.lookup x = some c) (hclf : ∀ x, (compEnvC scope cl s.heap.objs.size X.env).kindOf x = some .cell ∨ (compEnvC scope cl s.heap.objs.size X.env).kindOf x = some .free → ∃ c, cl.lookup x = some c)
    (hfp : ∀ b ∈ fp, FpOk X pins H b) (hfs : ∀ b ∈ fp, b < s.heap.objs.size) (hn : h1.Ns s.heap.objs.size fun _ => none) (hkept : ∀ b o, s.heap.get? b = some o → h1.get? b = some o) (hl : σ'.length = N.length)
    (hσ : ∀ (j : Nat) x v, N[j]? = some x → σ'[j]? = some (some v) → ∃ (i : Nat), X.N[i]? = some x ∧ σ[i]? = some (some v) ∧ (X.env.kindOf x = some .cell ∨ X.env.kindOf x = some .free) ∧ ((compEnvC scope cl s.heap.objs.size X.env).kindOf x = some .cell ∨ (compEnvC scope cl s.heap.objs.size X.env).kindOf x = some .free) ∧ Vis X.env.scope x) :
    Inv (compCx X scope N cl s H fp (X.pn ++ pins)) [] σ' H { s with heap := h1 } := by
  have nofr : ∀ {b : Addr}, b ≠ X.env.locals → b ∉ X.fs → b ∉ frs X.stack := fun h1 h2 z => by
    rcases List.mem_cons.mp (I.stkSub _ z) with e | e
    · exact h1 e
    · exact h2 e
  refine ⟨⟨I.ok.mod, hk, I.ok.glob, I.ok.blt, Nat.le_refl _, fun x y c e1 e2 => I.ok.inj x y c (hcl x c e1) (hcl y c e2), hclf, fun x c e _ => (by cases e), I.ok.hd, I.ok.frames, .inl rfl, fun b hb => ?_, I.bs, Nat.le_trans I.ok.bsz I.sz, fun b o e hb => ?_, fun b hb => ?_, I.stack, I.stkFree⟩,
    rfl, I.bare, Un.kept hkept, ⟨_, hn, fun j x v e1 e2 e3 => ?_⟩, fun x c e => ?_, I.hok.fresh (Nat.le_refl _), fun x c e => I.freeC x c (hcl x c e), fun p hp => ?_, I.hok.kept hkept, hl⟩
  · exact ⟨Nat.ne_of_lt (hfs b hb), fun x c e => (hfp b hb).2.2.2.2.1 x c (hcl x c e)⟩
  · have hb : b ∈ fp := hb
    obtain ⟨_, _, _, f3, _⟩ := hfp b hb
    rcases f3 with z | z
    · exact I.ok.noex b o e z
    · exact absurd (Nat.lt_of_lt_of_le (Heap.lt_size e) (Nat.le_trans I.ok.bsz z)) (Nat.lt_irrefl _)
  · have hb : b ∈ fp := hb
    obtain ⟨_, f1, f2, _⟩ := hfp b hb
    exact nofr f1 f2
  · obtain ⟨i, a1, a2, a3, a4, a5⟩ := hσ j x v e1 e2
    obtain ⟨m, hm, hlk⟩ := I.loc
    obtain ⟨u, r, l⟩ := hlk i x v a1 a2 a5
    refine ⟨u, r, .inr ⟨a4, ?_⟩⟩
    rcases l with ⟨k, _⟩ | ⟨_, c, e, z⟩
    · rcases a3 with a3 | a3 <;> rw [k] at a3 <;> cases a3
    · obtain ⟨c', hc'⟩ := hclf x a4
      have := hcl x c' hc'
      rw [e] at this
      cases this
      obtain ⟨o, ho, hd⟩ := z
      exact ⟨c, hc', o, hkept c o ho, hd⟩
  · obtain ⟨v, o, ho, hd⟩ := I.cell x c (hcl x c e)
    exact ⟨v, o, hkept c o ho, hd⟩
  · have hp : p ∈ (X.pn ++ pins) ++ [] := hp
    rw [List.append_nil] at hp
    obtain ⟨e, n, ne, nf, d⟩ := I.pin p hp
    exact ⟨hkept _ _ e, n, Nat.ne_of_lt (Heap.lt_size e), nofr ne nf, d⟩
end
end OR
namespace OR
open PySem L2 PySem.SeqAt PyProof.Rows
section
variable {prog : Program} {w : World} {A : Around} {R : Result → Shared → Prop} {s : Shared}
/-- the loop of a block -/
theorem comp_loop {elt target iter : Expr} {ifs : List Expr} {scope : Scope} {pos : Pos} {it acc : Value} {env : PySem.Env} (I : Nat → Shared → Prop)
    (turn : ∀ n s, I n s → wpAny (model prog w) A (pyNext it) (fun r s₁ => match r with
      | none => R (.ok .next) s₁
      | some v => wpAny (model prog w) A (letOwnedTupleGo target it v) (fun _ s₁' => wpAny (model prog w) A (assign target env v) (fun _ s₂ =>
          wpAny (model prog w) A (forIn ifs true fun c r => if r = true then do let ok ← isTrue c env (eval c env); pure (ForInStep.yield ok) else pure (ForInStep.yield r)) (fun ok s₃ =>
            if ok = true then wpAny (model prog w) A (eval elt env) (fun x s₄ =>
              wpAny (model prog w) A (call (.builtin "list.append") [acc, x]) (fun _ s₅ => ∃ m, m < n ∧ I m s₅) (fun _ _ => False) s₄) (fun _ _ => False) s₃
            else ∃ m, m < n ∧ I m s₃) (fun _ _ => False) s₂) (fun _ _ => False) s₁') (fun _ _ => False) s₁) (fun _ _ => False) s)
    (n : Nat) (h : I n s) : codeAny (model prog w) A (.compLoop (.ListComp elt [⟨target, iter, ifs, 0⟩] scope pos) 0 it acc env) R s := by
  refine codeAny_loop rfl I (fun n s hI => ?_) n h
  show wpAny _ A ((compTurn (.ListComp elt [⟨target, iter, ifs, 0⟩] scope pos) 0 it acc env).onRaise (fun x => do noteFrame x env; theTreesLotGoes x)) _ _ s
  refine wpAny_noted ?_
  rw [compTurn_list]
  refine wpAny_bind (wpAny_standAt (wpAny_bind (wpAny_mono (turn n s hI) (fun r s₁ h₁ => ?_) fun _ _ h' => h'.elim)))
  cases r with
  | none => exact wpAny_pure h₁
  | some v =>
    refine wpAny_bind (wpAny_mono h₁ (fun _ s₁' h₁' => ?_) fun _ _ h' => h'.elim)
    refine wpAny_bind (wpAny_mono h₁' (fun _ s₂ h₂ => wpAny_bind (wpAny_mono h₂ (fun ok s₃ h₃ => ?_) fun _ _ h' => h'.elim)) fun _ _ h' => h'.elim)
    cases ok with
    | false => exact wpAny_pure ⟨rfl, h₃⟩
    | true =>
      exact wpAny_bind (wpAny_bind (wpAny_mono h₃ (fun x s₄ h₄ => wpAny_bind (wpAny_mono h₄ (fun _ s₅ h₅ => wpAny_pure (wpAny_pure ⟨rfl, h₅⟩)) fun _ _ h' => h'.elim)) fun _ _ h' => h'.elim))
end
/-- the values of the names that a block takes from around -/
def capsσ (caps : List Nat) (n : Nat) (σ : L2.St) : L2.St := caps.map (fun i => (σ[i]?).join) ++ List.replicate n none
def tComp (K : PySem.W.Frag) (caps : List Nat) (n : Nat) (wi : TI) (g : TG) (tc : TT) (te : TE) : TE := fun σ H Q => wi σ H fun J H1 => ∀ D, H1 D = none → K.lookup D = none → ∃ W : Nat → Nat → L2.St → Hp → List V → Prop,
  (∃ m, W 0 m (capsσ caps n σ) (upd H1 D (.lst [])) []) ∧
  ∀ i m σ' H' ys, W i m σ' H' ys → H' D = some (.lst ys) ∧ ((J.stop i H' ∧ Q (.ref D) H') ∨ (J.go i H' ∧ ys.length < sizeLine ∧ ∀ x H2, J.yld i H' x H2 → g x σ' H2 fun σ2 H3 => tc σ2 H3 fun b H4 =>
    if b = true then te σ2 H4 fun y H5 => H5 D = some (.lst ys) ∧ ∃ m', m' < m ∧ W (i + 1) m' σ2 (upd H5 D (.lst (ys ++ [y]))) (ys ++ [y]) else ∃ m', m' < m ∧ W (i + 1) m' σ2 H4 ys))
/-- the tests of a block -/
def PTs (X : Cx) (ifs : List Expr) (t : TT) : Prop :=
  ∀ (pins : List (Addr × Obj)) (s : Shared) (σ : L2.St) (H : Hp) (Q : Bool → Hp → Prop), Inv X pins σ H s → t σ H Q →
    wpAny (model X.prog X.w) X.A (forIn ifs true fun c r => if r = true then do let ok ← isTrue c X.env (eval c X.env); pure (ForInStep.yield ok) else pure (ForInStep.yield r)) (TP X pins σ Q) X.xe s
theorem pts_nil {X : Cx} : PTs X [] (fun _ H Q => Q true H) := fun pins s σ H Q I h => wpAny_tests_nil ⟨H, I, h⟩
theorem pts_one {X : Cx} {c : Expr} {t : TT} (h : PT X c t) : PTs X [c] t := fun pins s σ H Q I q => wpAny_tests_one (h pins s σ H Q I q)
end OR
set_option Elab.async false
set_option linter.all false
set_option maxRecDepth 100000
set_option maxHeartbeats 2000000
/- a comprehension: the rule -/
namespace OR
open PySem L2 PySem.SeqAt PyProof.Rows
/-- what is asked of a block's names -/
structure CompOk (X : Cx) (scope : Scope) (N : List Str) (caps : List Nat) (n : Nat) : Prop where
  kind : scope.kind = .function
  names : ∀ x ∈ scope.names, x.2 = .local → scope.names.lookup x.1 = some .local
  cell : ∀ x ∈ scope.names, x.2 ≠ .cell
  free : ∀ x ∈ scope.names, x.2 = .free → X.env.kindOf x.1 = some .cell ∨ X.env.kindOf x.1 = some .free
  look : ∀ x, scope.names.lookup x = some .free → ∃ k, (relabel scope X.env).names.lookup x = some k ∧ (k = .cell ∨ k = .free)
  back : ∀ x, (relabel scope X.env).names.lookup x = some .cell ∨ (relabel scope X.env).names.lookup x = some .free → (x, NameKind.free) ∈ scope.names
  cap : ∀ (j i : Nat), caps[j]? = some i → ∃ x, N[j]? = some x ∧ X.N[i]? = some x ∧ scope.names.lookup x = some .free
  len : N.length = caps.length + n
/-- the block is left -/
theorem comp_leave {X : Cx} {pins : List (Addr × Obj)} {σ σ' : L2.St} {H3 H' : Hp} {s3 s1 : Shared} {h' : Heap} {scope : Scope} {N : List Str} {cl : List (Str × Addr)} {fp : List Addr} (I3 : Inv X pins σ H3 s3)
    (I' : Inv (compCx X scope N cl s3 H3 fp (X.pn ++ pins)) [] σ' H' s1) (hsb : Heap.SameBut s3.heap.objs.size s1.heap h') (hfp : ∀ b ∈ fp, FpOk X pins H3 b) : Inv X pins σ H' { s1 with heap := h' } := by
  have old : ∀ b o, s3.heap.get? b = some o → ∀ o', s1.heap.get? b = some o' → h'.get? b = some o' := fun b o e o' e' => (hsb.2 b (Nat.ne_of_lt (Heap.lt_size e))).trans e'
  have B := I'.base
  have free : H' s3.heap.objs.size = none := I'.free
  refine I3.call' (s' := { s1 with heap := h' }) (ch := fp) I'.os ⟨fun b o e n hb hx => ?_, fun b o e n hb hx => ?_, fun b o e n hx => B.free b o e n hx, fun b o e hx => ?_, B.tups, B.frzs, B.tbls⟩ (fun b u e => ?_) I'.bare (fun b hb => ?_)
  · exact old b o e _ (B.keep b o e n hb hx)
  · obtain ⟨sl, e1⟩ := B.slot b o e n hb hx
    exact ⟨sl, old b o e _ e1⟩
  · obtain ⟨o', e1⟩ := B.there b o e hx
    exact ⟨o', old b o e _ e1⟩
  · refine (I'.hok b u e).stay (fun c v hc q => (hsb.2 c ?_).trans q) (fun _ q => q) fun _ _ q => q
    rintro rfl
    rcases hc with z | z
    · rw [← z, free] at e; cases e
    · rw [free] at z; cases z
  · obtain ⟨f0, f1, f2, f3, f4, f5⟩ := hfp b hb
    exact ⟨f3, f1, f4, f5⟩
section
variable {X : Cx} {elt iter tg : Expr} {ifs : List Expr} {scope : Scope} {pos : Pos} {N : List Str} {caps : List Nat} {n : Nat} {wi : TI} {g : TG} {tc : TT} {te : TE}
theorem mem_of_look {l : List (Str × NameKind)} {x : Str} {k : NameKind} (h : l.lookup x = some k) : (x, k) ∈ l := PySem.mem_of_lookup h
theorem pe_comp (hcalm : X.calm = true) (ok : CompOk X scope N caps n) (hi : PI X tg iter wi)
    (hg : ∀ cl s₀ H₀ ex pn, PG (compCx X scope N cl s₀ H₀ ex pn) tg g) (ht : ∀ cl s₀ H₀ ex pn, PTs (compCx X scope N cl s₀ H₀ ex pn) ifs tc) (he : ∀ cl s₀ H₀ ex pn, PE (compCx X scope N cl s₀ H₀ ex pn) elt te)
    (hs : ∀ x, foldedSetIterable iter X.env x = pure x := by intro _; rfl) : PE X (.ListComp elt [⟨tg, iter, ifs, 0⟩] scope pos) (tComp X.K caps n wi g tc te) := by
  intro pins s σ H Q I h
  have hcells : ∀ x ∈ scope.names, x.2 = .free → ∃ c, X.env.cells.lookup x.1 = some c := fun x hx hf => I.ok.has x.1 (ok.free x hx hf)
  obtain ⟨cl, hclo, hcl, hclf⟩ := closure_ok hcells
  rw [eval_ListComp]
  refine wpAny_comprehension_free (use := none) rfl hs hclo ok.kind ok.names (thn (hi pins s σ H _ I h) fun xv s1 h1 => thn h1 fun itv s2 h2 => ?_)
  obtain ⟨it, fp, tn, J, H2, rfl, I2, T, st2, f2, q2⟩ := h2
  have hKD : X.K.lookup s2.heap.objs.size = none := by
    cases e : X.K.lookup s2.heap.objs.size with
    | none => rfl
    | some o => exact absurd (Heap.lt_size (I2.kIn _ _ e)) (Nat.lt_irrefl _)
  obtain ⟨W, ⟨m0, w0⟩, turn⟩ := q2 s2.heap.objs.size I2.fresh hKD
  refine wpAny_newObj_type ?_
  have I3 : Inv X pins σ (upd H2 s2.heap.objs.size (.lst [])) { s2 with heap := s2.heap.push { cls := .type "list", data := .seq ([] : List Value).toArray }, toks := s2.toks } := I2.lnew .nil (by decide)
  generalize hD : s2.heap.objs.size = D at *
  generalize hs3 : ({ s2 with heap := s2.heap.push { cls := .type "list", data := .seq ([] : List Value).toArray }, toks := s2.toks } : Shared) = s3 at I3
  refine wpAny_newFunctionEnv ok.cell (by intro y hy; simp at hy) (fun h1 hns hsb => ?_) ok.kind
  have e3 : s3.heap.objs.size = D + 1 := by rw [← hs3, ← hD]; exact Heap.size_push _ _
  have hkept : ∀ b o, s3.heap.get? b = some o → h1.get? b = some o := fun b o e => (hsb.2 b (Nat.ne_of_lt (Heap.lt_size e))).trans (Heap.get?_push_of_some _ e)
  have h23 : ∀ b o, s2.heap.get? b = some o → s3.heap.get? b = some o := fun b o e => by rw [← hs3]; exact Heap.get?_push_of_some _ e
  have hfD : ∀ b ∈ fp, b < D := fun b hb => by
    obtain ⟨o, e, _⟩ := T.obj 0 _ st2 b hb
    rw [← hD]; exact Heap.lt_size e
  have f3 : ∀ b ∈ fp, FpOk X pins (upd H2 D (.lst [])) b := fun b hb => ⟨by rw [upd_ne (Nat.ne_of_lt (hfD b hb))]; exact (f2 b hb).1, (f2 b hb).2⟩
  have kX : ∀ x, X.env.kindOf x = X.env.scope.names.lookup x := fun x => rfl
  have I4 : Inv (compCx X scope N cl s3 (upd H2 D (.lst [])) fp (X.pn ++ pins)) [] (capsσ caps n σ) (upd H2 D (.lst [])) { s3 with heap := h1 } := by
    refine comp_inv I3 ok.kind hcl (fun x hx => hclf (x, .free) (ok.back x hx) rfl) f3 (fun b hb => by rw [e3]; exact Nat.lt_succ_of_lt (hfD b hb)) (by simpa using hns) hkept ?_ (fun j x v e1 e2 => ?_)
    · unfold capsσ
      rw [List.length_append, List.length_map, List.length_replicate, ok.len]
    · have hj : j < caps.length := by
        by_cases hj : j < caps.length
        · exact hj
        · unfold capsσ at e2
          rw [List.getElem?_append_right (by simpa using hj), List.getElem?_replicate] at e2
          split at e2 <;> cases e2
      unfold capsσ at e2
      rw [List.getElem?_append_left (by simpa using hj), List.getElem?_map, List.getElem?_eq_getElem hj] at e2
      obtain ⟨x', a1, a2, a3⟩ := ok.cap j caps[j] (List.getElem?_eq_getElem hj)
      rw [e1] at a1; cases a1
      have fr := ok.free (x, .free) (mem_of_look a3) rfl
      obtain ⟨k, b1, b2⟩ := ok.look x a3
      refine ⟨caps[j], a2, ?_, fr, ?_, ?_⟩
      · have e2 : (σ[caps[j]]?).join = some v := Option.some.inj e2
        cases hσ : σ[caps[j]]? with
        | none => rw [hσ] at e2; cases e2
        | some o => rw [hσ] at e2; exact congrArg some e2
      · rcases b2 with rfl | rfl
        · exact .inl b1
        · exact .inr b1
      · rcases fr with z | z
        · exact .inr (.inl z)
        · exact .inr (.inr z)
  have fpc : ∀ {H' : Hp}, (∀ b ∈ fp, H' b = none) → ∀ b ∈ fp, FpOk (compCx X scope N cl s3 (upd H2 D (.lst [])) fp (X.pn ++ pins)) [] H' b := fun {H'} hn b hb => by
    obtain ⟨f0, f1, f2', f3', f4, f5⟩ := f3 b hb
    refine ⟨hn b hb, Nat.ne_of_lt (show b < s3.heap.objs.size by rw [e3]; exact Nat.lt_succ_of_lt (hfD b hb)), fun z => ?_, .inl hb, fun x c e => f4 x c (hcl x c e), fun p hp => f5 p (by have hp : p ∈ (X.pn ++ pins) ++ [] := hp; rwa [List.append_nil] at hp)⟩
    rcases List.mem_cons.mp (I3.stkSub _ z) with e | e
    · exact f1 e
    · exact f2' e
  have st4 : tn 0 h1 := T.keep 0 _ _ st2 fun b _ o e => hkept b o (h23 b o e)
  have loop : ∀ s4 : Shared, s4 = { s3 with heap := h1 } → codeAny (model X.prog X.w) X.A (.compLoop (.ListComp elt [⟨tg, iter, ifs, 0⟩] scope pos) 0 (.ref it) (.ref D) (compEnvC scope cl s3.heap.objs.size X.env))
      (compPost (model X.prog X.w) X.A X.xe none (EP X pins σ Q) (.ref D) s3.heap.objs.size) s4 := by
    rintro s4 rfl
    refine comp_loop (fun m s' => ∃ i σ' H' ys, Inv (compCx X scope N cl s3 (upd H2 D (.lst [])) fp (X.pn ++ pins)) [] σ' H' s' ∧ tn i s'.heap ∧ (∀ b ∈ fp, H' b = none) ∧ W i m σ' H' ys) ?_ m0 ⟨0, _, _, [], I4, st4, fun b hb => (f3 b hb).1, w0⟩
    rintro m s5 ⟨i, σ5, H5, ys, I5, st5, fr5, w5⟩
    obtain ⟨hDl, tu⟩ := turn i m σ5 H5 ys w5
    rcases tu with ⟨stop, qn⟩ | ⟨go, hz, step⟩
    · refine thn (T.done (compCx X scope N cl s3 (upd H2 D (.lst [])) fp (X.pn ++ pins)) rfl rfl rfl hcalm i [] s5 σ5 H5 (fun _ _ => False) I5 (fpc fr5) st5 stop) fun r s6 ⟨hr, I6⟩ => ?_
      subst hr
      obtain ⟨mm, hmm, _⟩ := I6.loc
      exact ⟨mm, hmm, fun h' hb' => ⟨.ref D, H5, comp_leave I3 I6 hb' f3, rfl, qn⟩⟩
    · refine thn (T.item (compCx X scope N cl s3 (upd H2 D (.lst [])) fp (X.pn ++ pins)) rfl rfl rfl hcalm i [] s5 σ5 H5 (fun _ _ => False) I5 (fpc fr5) st5 go) fun r s6 ⟨u, hr, h6⟩ => ?_
      subst hr
      refine thn h6 fun _ s7 ⟨x, H7, I7, r7, y7, st7, fr7⟩ => ?_
      have I7' := I7.pinned (fpc fr7) (T.obj _ _ st7)
      refine thn (hg _ _ _ _ _ _ s7 σ5 H7 x u _ I7' r7 (step x H7 y7)) fun _ s8 ⟨σ8, H8, I8, q8⟩ => ?_
      refine thn (ht _ _ _ _ _ _ s8 σ8 H8 _ I8 q8) fun b s9 ⟨H9, I9, q9⟩ => ?_
      have pinsK : ∀ {σ7 : L2.St} {Hx : Hp} {sx : Shared}, Inv (compCx X scope N cl s3 (upd H2 D (.lst [])) fp (X.pn ++ pins)) ([] ++ pinsAt fp s7.heap) σ7 Hx sx → tn (i + 1) sx.heap ∧ ∀ b ∈ fp, Hx b = none := fun Ix => by
        refine ⟨T.keep _ _ _ st7 fun b hb o e => (Ix.pin (b, o) (List.mem_append_right _ (List.mem_append_right _ (mem_pinsAt hb e)))).1, fun b hb => ?_⟩
        obtain ⟨o, e, d⟩ := T.obj _ _ st7 b hb
        exact (Ix.pin (b, o) (List.mem_append_right _ (List.mem_append_right _ (mem_pinsAt hb e)))).2.1
      cases b with
      | false =>
        obtain ⟨m', hm, w9⟩ := q9
        exact ⟨m', hm, i + 1, σ8, H9, ys, I9.unpinned, (pinsK I9).1, (pinsK I9).2, w9⟩
      | true =>
        refine thn (he _ _ _ _ _ _ s9 σ8 H9 _ I9 q9) fun yv s10 ⟨y, H10, I10, r10, hD10, m', hm, w10⟩ => ?_
        refine thn (mt_append _ s10 σ8 H10 (.ref D) [y] (.ref D) [yv] (fun v Hx => v = .non ∧ Hx = upd H10 D (.lst (ys ++ [y]))) I10 rfl (.cons r10 .nil) ⟨D, ys, y, rfl, rfl, hD10, hz, rfl, rfl⟩) fun _ s11 ⟨_, H11, I11, _, _, e11⟩ => ?_
        subst e11
        exact ⟨m', hm, i + 1, σ8, _, ys ++ [y], I11.unpinned, (pinsK I11).1, (pinsK I11).2, w10⟩
  exact codeAny_compStart_list (loop _ rfl) (T.self _ 0 _ _ _ st4 (loop _ rfl))
end
end OR
set_option Elab.async false
set_option linter.all false
set_option maxRecDepth 100000
set_option maxHeartbeats 2000000
/- a comprehension, read -/
namespace OR
open PySem L2 PySem.SeqAt PyProof.Rows
section
variable {X : Cx} {C : CallF} {elt iter tg : Expr} {ielt : E} {it : It} {t : Tg} {scope : Scope} {pos : Pos} {N : List Str} {caps : List Nat} {n : Nat}
/-- with one more list under way -/
def Al.hold (α : Al) (D : Addr) : Al := ⟨α.adr, fun a => a = D ∨ α.rsv a⟩
theorem live_hold {α : Al} {st : Store} {D a : Addr} : Live (α.hold D) st a ↔ a = D ∨ Live α st a := by
  unfold Live Al.hold
  simp only
  constructor
  · rintro ((h | h) | h)
    · exact .inl h
    · exact .inr (.inl h)
    · exact .inr (.inr h)
  · rintro (h | h | h)
    · exact .inl (.inl h)
    · exact .inl (.inr h)
    · exact .inr h
/-- the list under way is laid -/
theorem hold_mono {K : PySem.W.Frag} {α : Al} {st : Store} {H : Hp} {D : Addr} {o : HO} (hD : H D = none) (hK : K.lookup D = none) :
    (∀ a vs, SqT K H a vs → SqT K (upd H D o) a vs) ∧ ∀ a vs, SqL K H a vs → ¬ Live α st a → SqL K (upd H D o) a vs ∧ ¬ Live (α.hold D) st a := by
  have s := same_new hD o
  refine ⟨fun a vs h => SqT.same s h, fun a vs h n => ⟨Same.seq s h, fun l => ?_⟩⟩
  rcases live_hold.mp l with e | e
  · subst e
    rcases h with (h | ⟨_, h⟩) | ⟨_, _, _, h, _⟩
    · rw [hD] at h; cases h
    · rw [hD] at h; cases h
    · rw [hK] at h; cases h
  · exact n e
theorem hold_rst {K : PySem.W.Frag} {α : Al} {st : Store} {H : Hp} {D : Addr} {vs : List V} (r : RSt K α st H) (hD : H D = none) (hK : K.lookup D = none) : RSt K (α.hold D) st (upd H D (.lst vs)) := by
  obtain ⟨mt, ml⟩ := hold_mono (α := α) (st := st) (o := .lst vs) hD hK
  have s := same_new hD (.lst vs)
  refine ⟨r.len, fun m xs h => ?_, fun m kvs h => ?_, r.inj, fun a h => ?_, fun m a o h1 h2 h3 hr => ?_, fun a h => ?_⟩
  · obtain ⟨a, ws, h1, h2, h3⟩ := r.lst m xs h
    exact ⟨a, ws, h1, s _ _ h2, RPs.mono mt ml _ _ h3⟩
  · obtain ⟨a, ws, h1, h2, h3⟩ := r.dct m kvs h
    exact ⟨a, ws, h1, s _ _ h2, RKV.mono mt ml _ _ h3⟩
  · rcases live_hold.mp h with e | e
    · subst e; exact hK
    · exact r.nk a e
  · rcases hr with e | e
    · subst e
      rcases r.live (.inr ⟨m, o, h1, h2, h3⟩) with ⟨_, z⟩ | ⟨_, z⟩ <;> rw [hD] at z <;> cases z
    · exact r.dis m a o h1 h2 h3 e
  · rcases h with e | e
    · subst e; exact ⟨vs, upd_same⟩
    · obtain ⟨ws, h1⟩ := r.rsv a e
      exact ⟨ws, s _ _ h1⟩
/-- the list under way has changed: nothing names it -/
theorem held_mono {K : PySem.W.Frag} {α : Al} {st : Store} {H : Hp} {D : Addr} {ys zs : List V} (hr : α.rsv D) (hH : H D = some (.lst ys)) (hK : K.lookup D = none) :
    (∀ a vs, SqT K H a vs → SqT K (upd H D (.lst zs)) a vs) ∧ ∀ a vs, SqL K H a vs → ¬ Live α st a → SqL K (upd H D (.lst zs)) a vs ∧ ¬ Live α st a := by
  refine ⟨fun a vs h => ?_, fun a vs h n => ⟨?_, n⟩⟩
  · rcases h with (h | ⟨o, h⟩) | h
    · exact .inl (.inl (by rw [upd_ne (by rintro rfl; rw [hH] at h; cases h)]; exact h))
    · exact .inl (.inr ⟨o, by rw [upd_ne (by rintro rfl; rw [hH] at h; cases h)]; exact h⟩)
    · exact .inr h
  · have ne : a ≠ D := by rintro rfl; exact n (.inl hr)
    rcases h with (h | ⟨o, h⟩) | h
    · exact .inl (.inl (by rw [upd_ne ne]; exact h))
    · exact .inl (.inr ⟨o, by rw [upd_ne ne]; exact h⟩)
    · exact .inr h
theorem held_rst {K : PySem.W.Frag} {α : Al} {st : Store} {H : Hp} {D : Addr} {ys zs : List V} (r : RSt K α st H) (hr : α.rsv D) (hH : H D = some (.lst ys)) : RSt K α st (upd H D (.lst zs)) := by
  have hK := r.nk D (.inl hr)
  obtain ⟨mt, ml⟩ := held_mono (K := K) (α := α) (st := st) (zs := zs) hr hH hK
  have ne : ∀ {m : Nat} {a : Addr} {o : PObj}, α.adr[m]? = some a → objAt st m = some o → o ≠ .dead → a ≠ D := fun h1 h2 h3 e => r.dis _ _ _ h1 h2 h3 (e ▸ hr)
  refine ⟨r.len, fun m xs h => ?_, fun m kvs h => ?_, r.inj, r.nk, r.dis, fun a h => ?_⟩
  · obtain ⟨a, ws, h1, h2, h3⟩ := r.lst m xs h
    exact ⟨a, ws, h1, by rw [upd_ne (ne h1 h (by intro z; cases z))]; exact h2, RPs.mono mt ml _ _ h3⟩
  · obtain ⟨a, ws, h1, h2, h3⟩ := r.dct m kvs h
    exact ⟨a, ws, h1, by rw [upd_ne (ne h1 h (by intro z; cases z))]; exact h2, RKV.mono mt ml _ _ h3⟩
  · by_cases e : a = D
    · subst e; exact ⟨zs, upd_same⟩
    · obtain ⟨ws, h1⟩ := r.rsv a h
      exact ⟨ws, by rw [upd_ne e]; exact h1⟩
end
end OR
set_option Elab.async false
set_option linter.all false
set_option maxRecDepth 100000
set_option maxHeartbeats 2000000
/- a comprehension, read: the rule of the intermediate language -/
namespace OR
open PySem L2 PySem.SeqAt PyProof.Rows
/-- the list under way is let go -/
def Al.as (α : Al) (ρ : Addr → Prop) : Al := ⟨α.adr, ρ⟩
theorem live_as {α : Al} {ρ : Addr → Prop} {st : Store} {a : Addr} (hs : ∀ a, ρ a → α.rsv a) (h : Live (α.as ρ) st a) : Live α st a := by
  rcases h with h | h
  · exact .inl (hs a h)
  · exact .inr h
theorem RSt.as {K : PySem.W.Frag} {α : Al} {ρ : Addr → Prop} {st : Store} {H : Hp} (r : RSt K α st H) (hs : ∀ a, ρ a → α.rsv a) : RSt K (α.as ρ) st H := by
  have ml : ∀ a vs, SqL K H a vs → ¬ Live α st a → SqL K H a vs ∧ ¬ Live (α.as ρ) st a := fun a vs h n => ⟨h, fun l => n (live_as hs l)⟩
  refine ⟨r.len, fun m xs h => ?_, fun m kvs h => ?_, r.inj, fun a h => r.nk a (live_as hs h), fun m a o h1 h2 h3 h4 => r.dis m a o h1 h2 h3 (hs a h4), fun a h => r.rsv a (hs a h)⟩
  · obtain ⟨a, ws, h1, h2, h3⟩ := r.lst m xs h
    exact ⟨a, ws, h1, h2, RPs.mono (fun _ _ h => h) ml _ _ h3⟩
  · obtain ⟨a, ws, h1, h2, h3⟩ := r.dct m kvs h
    exact ⟨a, ws, h1, h2, RKV.mono (fun _ _ h => h) ml _ _ h3⟩
section
variable {X : Cx} {C : CallF} {elt iter tg : Expr} {ifs : List Expr} {ielt : E} {it : It} {t : Tg} {scope : Scope} {pos : Pos} {N : List Str} {caps : List Nat} {n : Nat}
theorem capsAt {K : PySem.W.Frag} {α : Al} {st : Store} {H : Hp} {env : Env} {σ : L2.St} (a : At K α st H env σ) : At K α st H (capsOf caps n env) (capsσ caps n σ) := by
  refine ⟨by simp [capsOf, capsσ], a.rs, fun j v h => ?_⟩
  unfold capsOf at h
  unfold capsσ
  by_cases hj : j < caps.length
  · rw [List.getElem?_append_left (by simpa using hj), List.getElem?_map, List.getElem?_eq_getElem hj] at h ⊢
    have h : (env[caps[j]]?).join = some v := Option.some.inj h
    cases he : env[caps[j]]? with
    | none => rw [he] at h; cases h
    | some o =>
      rw [he] at h
      have h : o = some v := h
      subst h
      obtain ⟨w, h1, h2⟩ := a.env _ v he
      exact ⟨w, by show some ((σ[caps[j]]?).join) = some (some w); rw [h1]; rfl, h2⟩
  · rw [List.getElem?_append_right (by simpa using hj), List.getElem?_replicate] at h
    split at h <;> cases h
/-- a test of the turn: none, or one -/
def tTs (K : PySem.W.Frag) (C : CallF) : Option E → TT
  | none => fun _ H Q => Q true H
  | some c => tT K C c
def condF (C : CallF) : Option E → Option (Env → Store → Res Val)
  | none => none
  | some c => some (evalE C c)
theorem compE_eq {cond : Option E} {src : Option (Nat × List PV)} {xs : List PV} {env : Env} {st : Store} {acc : List PV} : compE C ielt cond t src xs env st acc = compLoop (evalE C ielt) (condF C cond) t src xs env st acc := by cases cond <;> rfl
theorem se_comp {cond : Option E} (hcalm : X.calm = true) (ok : CompOk X scope N caps n) (hi : SI X C tg iter it)
    (hg : ∀ cl s₀ H₀ ex pn, SG (compCx X scope N cl s₀ H₀ ex pn) tg t) (ht : ∀ cl s₀ H₀ ex pn, PTs (compCx X scope N cl s₀ H₀ ex pn) ifs (tTs X.K C cond)) (he : ∀ cl s₀ H₀ ex pn, SE (compCx X scope N cl s₀ H₀ ex pn) C elt ielt)
    (hs : ∀ x, foldedSetIterable iter X.env x = pure x := by intro _; rfl) : SE X C (.ListComp elt [⟨tg, iter, ifs, 0⟩] scope pos) (.comp false ielt t it cond caps n) :=
  PE.mono (pe_comp (g := tG X.K t) (te := tP X.K C ielt) hcalm ok hi hg ht he hs) fun σ H Q ⟨env, α, st, v, st', at', e, q⟩ => by
    rw [ev_comp] at e
    obtain ⟨⟨xs, src⟩, st1, e1, e⟩ := Res.bind_inv e
    obtain ⟨zs, st2, e2, e⟩ := Res.bind_inv e
    simp only [mk, Bool.false_eq_true, if_false] at e
    cases e
    refine ⟨env, α, st, xs, src, st1, at', e1, fun J H1 α1 x1 r1 wk hz D hD hK => ?_⟩
    rw [compE_eq] at e2
    have at1 := at'.next x1 r1
    have nD : ¬ α1.rsv D := fun h => by obtain ⟨vs, z⟩ := r1.rsv D h; rw [hD] at z; cases z
    refine ⟨fun i m σ' H' ys => m = xs.length - i ∧ i ≤ xs.length ∧ H' D = some (.lst ys) ∧ ∃ env2 α2 st2 acc, At X.K α2 st2 H' env2 σ' ∧ (α2.rsv = (α1.hold D).rsv) ∧ Lk X.K α1 st1 H1 α2 st2 H' ∧ RPs X.K H' (Live α2 st2) acc ys ∧ acc.length ≤ i ∧
      compLoop (evalE C ielt) (condF C cond) t src (xs.drop i) env2 st2 acc = .ok zs st', ⟨xs.length, by simp, Nat.zero_le _, upd_same, capsOf caps n env, α1.hold D, st1, [], ?_, rfl, ?_, by rw [RPs], Nat.le_refl _, e2⟩, ?_⟩
    · have rh := hold_rst (vs := []) at1.rs hD hK
      obtain ⟨mt, ml⟩ := hold_mono (α := α1) (st := st1) (o := .lst []) hD hK
      have a2 : At X.K (α1.hold D) st1 (upd H1 D (.lst [])) env σ := ⟨at1.len, rh, fun i v h => by
        obtain ⟨w, h1, h2⟩ := at1.env i v h
        refine ⟨w, h1, ?_⟩
        cases v with
        | p x => exact RP.mono mt ml _ _ h2
        | ref k => exact h2⟩
      exact capsAt a2
    · obtain ⟨mt, ml⟩ := hold_mono (K := X.K) (α := α1) (st := st1) (o := .lst []) hD hK
      exact ⟨fun _ _ h => h, mt, ml, fun a h => .inr h, fun a h => by rw [upd_ne (by rintro rfl; exact nD h)]⟩
    rintro i m σ2 H2 ys ⟨rfl, hil, hDl, env2, α2, st2, acc, at2, hrs, lk, rps, hacc, e3⟩
    have hrD : α2.rsv D := by rw [hrs]; exact .inl rfl
    refine ⟨hDl, ?_⟩
    -- the walk as it stands here: seen without the list under way
    have sub1 : ∀ a, α1.rsv a → α2.rsv a := lk.sub
    have exB : Ext X.K α1 st1 H1 (α2.as α1.rsv) st2 H2 := ⟨lk.pre, lk.tup, fun a vs h nn => let ⟨h1, n1⟩ := lk.lst a vs h nn; ⟨h1, fun l => n1 (live_as sub1 l)⟩, rfl, lk.raw⟩
    have rsB : RSt X.K (α2.as α1.rsv) st2 H2 := at2.rs.as sub1
    by_cases hlt : i < xs.length
    · rw [List.drop_eq_getElem_cons hlt, compLoop] at e3
      by_cases so : srcOk st2 src = true
      · rw [if_pos so] at e3
        have wa := wk α2 st2 H2 lk at2.rs so
        have lyl : acc.length = ys.length := rps.length
        refine .inr ⟨wa.go i hlt, by omega, fun w H3 hy => ?_⟩
        obtain ⟨s3, rp⟩ := wa.yld i xs[i] w H3 (List.getElem?_eq_getElem hlt) hy
        have x3 : Ext X.K α2 st2 H2 α2 st2 H3 := .of_same at2.rs s3
        have at3 := at2.next x3 (at2.rs.same s3)
        have lk3 := lk.step x3
        have rps3 := x3.rps rps
        have hD3 : H3 D = some (.lst ys) := s3 _ _ hDl
        cases hbt : bindTg t (.p xs[i]) st2 env2 with
        | none => rw [hbt] at e3; cases e3
        | some env3 =>
          rw [hbt] at e3
          refine ⟨env2, α2, st2, xs[i], env3, at3, rp, hbt, fun σ3 at3' => ?_⟩
          -- behind the test
          have go : ∀ {b : Bool} {st4 : Store} {H4 : Hp} {α4 : Al}, Ext X.K α2 st2 H3 α4 st4 H4 → RSt X.K α4 st4 H4 →
              (if b then (evalE C ielt env3 st4).bindP fun y st5 => compLoop (evalE C ielt) (condF C cond) t src (xs.drop (i + 1)) env3 st5 (acc ++ [y]) else compLoop (evalE C ielt) (condF C cond) t src (xs.drop (i + 1)) env3 st4 acc) = .ok zs st' →
              if b = true then tP X.K C ielt σ3 H4 (fun y H5 => H5 D = some (.lst ys) ∧ ∃ m', m' < xs.length - i ∧ (m' = xs.length - (i + 1) ∧ i + 1 ≤ xs.length ∧ (upd H5 D (.lst (ys ++ [y]))) D = some (.lst (ys ++ [y])) ∧ ∃ env2 α2 st2 acc, At X.K α2 st2 (upd H5 D (.lst (ys ++ [y]))) env2 σ3 ∧ (α2.rsv = (α1.hold D).rsv) ∧ Lk X.K α1 st1 H1 α2 st2 (upd H5 D (.lst (ys ++ [y]))) ∧ RPs X.K (upd H5 D (.lst (ys ++ [y]))) (Live α2 st2) acc (ys ++ [y]) ∧ acc.length ≤ i + 1 ∧
                  compLoop (evalE C ielt) (condF C cond) t src (xs.drop (i + 1)) env2 st2 acc = .ok zs st'))
              else ∃ m', m' < xs.length - i ∧ (m' = xs.length - (i + 1) ∧ i + 1 ≤ xs.length ∧ H4 D = some (.lst ys) ∧ ∃ env2 α2 st2 acc, At X.K α2 st2 H4 env2 σ3 ∧ (α2.rsv = (α1.hold D).rsv) ∧ Lk X.K α1 st1 H1 α2 st2 H4 ∧ RPs X.K H4 (Live α2 st2) acc ys ∧ acc.length ≤ i + 1 ∧
                  compLoop (evalE C ielt) (condF C cond) t src (xs.drop (i + 1)) env2 st2 acc = .ok zs st') := by
            intro b st4 H4 α4 x4 r4 e4
            have at4 := at3'.next x4 r4
            have hD4 : H4 D = some (.lst ys) := (x4.raw D hrD).trans hD3
            cases b with
            | false => exact ⟨_, by omega, rfl, hlt, hD4, env3, α4, st4, acc, at4, x4.rsv.trans hrs, lk3.step x4, x4.rps rps3, by omega, e4⟩
            | true =>
              obtain ⟨y0, st5, e5, e6⟩ := Res.bindP_inv e4
              refine ⟨env3, α4, st4, _, st5, at4, e5, fun y H5 α5 x5 r5 rv => ?_⟩
              have hr5 : α5.rsv D := by rw [x5.rsv, x4.rsv]; exact hrD
              have hD5 : H5 D = some (.lst ys) := (x5.raw D (by rw [x4.rsv]; exact hrD)).trans hD4
              have at5 := at4.next x5 r5
              have lk5 := (lk3.step x4).step x5
              obtain ⟨mt, ml⟩ := held_mono (K := X.K) (α := α5) (st := st5) (zs := ys ++ [y]) hr5 hD5 (r5.nk D (.inl hr5))
              refine ⟨hD5, _, by omega, rfl, hlt, upd_same, env3, α5, st5, acc ++ [y0], ⟨at5.len, held_rst r5 hr5 hD5, fun k v h => ?_⟩, x5.rsv.trans (x4.rsv.trans hrs), ⟨lk5.pre, fun a vs h => mt a vs (lk5.tup a vs h), fun a vs h nn => let ⟨h1, n1⟩ := lk5.lst a vs h nn; ml a vs h1 n1, lk5.sub, fun a h => ?_⟩, ?_, by simp; omega, e6⟩
              · obtain ⟨w', h1, h2⟩ := at5.env k v h
                refine ⟨w', h1, ?_⟩
                cases v with
                | p z => exact RP.mono mt ml _ _ h2
                | ref _ => exact h2
              · rw [upd_ne (by rintro rfl; exact nD h)]
                exact lk5.raw a h
              · exact RPs.mono mt ml _ _ ((x5.rps (x4.rps rps3)).snoc rv)
          cases cond with
          | none => exact go (b := true) .refl at3.rs e3
          | some c =>
            obtain ⟨b, st4, e4, e5⟩ := Res.bindB_inv e3
            exact ⟨env3, α2, st2, b, st4, at3', e4, fun H4 α4 x4 r4 => go x4 r4 e5⟩
      · rw [if_neg so] at e3; cases e3
    · have hie : xs.drop i = [] := List.drop_eq_nil_of_le (by omega)
      rw [hie, compLoop] at e3
      by_cases so : srcOk st2 src = true
      · rw [if_pos so] at e3
        cases e3
        refine .inl ⟨(wk α2 st' H2 lk at2.rs so).stop i (by omega), q _ H2 (α2.as α1.rsv) (x1.trans exB) rsB ?_⟩
        rw [RV, RP]
        refine ⟨D, ys, rfl, SqL.of hDl, fun l => ?_, RPs.mono (fun _ _ h => h) (fun a vs h nn => ⟨h, fun l => nn (live_as sub1 l)⟩) _ _ rps⟩
        rcases l with l | ⟨k, o, l1, l2, l3⟩
        · exact nD l
        · exact at2.rs.dis k D o l1 l2 l3 hrD
      · rw [if_neg so] at e3; cases e3
end
end OR
set_option Elab.async false
set_option linter.all false
set_option maxRecDepth 100000
set_option maxHeartbeats 2000000
/- calls of the text's own defs -/
namespace OR
open PySem L2 PySem.SeqAt PyProof.Rows
/-- what a def promises: what the evaluator tells -/
def spF (K : PySem.W.Frag) (P : List FD) (W d k : Nat) (np : Nat) : Sp := fun vs H Q _ => vs.length = np ∧ ∃ α st us v st', RSt K α st H ∧ Paired (RV K α st H) us vs ∧ runF P W d k us st = .ok v st' ∧
  ∀ w H' α', Ext K α st H α' st' H' → RSt K α' st' H' → RV K α' st' H' v w → Q w H'
def Al.cut (α : Al) (k : Nat) : Al := ⟨α.adr.take k, α.rsv⟩
theorem objAt_take {st : Store} {k n : Nat} {o : PObj} (h : objAt (st.take k) n = some o) : n < k ∧ objAt st n = some o := by
  unfold objAt at h ⊢
  rw [List.getElem?_take] at h
  split at h
  · exact ⟨by assumption, h⟩
  · cases h
theorem adr_take {l : List Addr} {k n : Nat} {a : Addr} (h : (l.take k)[n]? = some a) : l[n]? = some a := by
  rw [List.getElem?_take] at h
  split at h
  · exact h
  · cases h
theorem live_cut {α : Al} {st : Store} {k : Nat} {a : Addr} (h : Live (α.cut k) (st.take k) a) : Live α st a := by
  rcases h with h | ⟨n, o, h1, h2, h3⟩
  · exact .inl h
  · exact .inr ⟨n, o, adr_take h1, (objAt_take h2).2, h3⟩
theorem RSt.cut {K : PySem.W.Frag} {α : Al} {st : Store} {H : Hp} (r : RSt K α st H) (k : Nat) : RSt K (α.cut k) (st.take k) H := by
  have ml : ∀ a vs, SqL K H a vs → ¬ Live α st a → SqL K H a vs ∧ ¬ Live (α.cut k) (st.take k) a := fun a vs h n => ⟨h, fun l => n (live_cut l)⟩
  have up : ∀ {n : Nat} {a : Addr}, n < k → α.adr[n]? = some a → (α.adr.take k)[n]? = some a := fun hn h => by rw [List.getElem?_take, if_pos hn]; exact h
  refine ⟨?_, fun m xs h => ?_, fun m kvs h => ?_, fun n m a o o' hne h1 h2 h3 h4 => r.inj n m a o o' hne (adr_take h1) (adr_take h2) (objAt_take h3).2 (objAt_take h4).2, fun a h => r.nk a (live_cut h), fun m a o h1 h2 h3 => r.dis m a o (adr_take h1) (objAt_take h2).2 h3, r.rsv⟩
  · show (α.adr.take k).length = (st.take k).length
    rw [List.length_take, List.length_take, r.len]
  · obtain ⟨hm, h⟩ := objAt_take h
    obtain ⟨a, ws, h1, h2, h3⟩ := r.lst m xs h
    exact ⟨a, ws, up hm h1, h2, RPs.mono (fun _ _ h => h) ml _ _ h3⟩
  · obtain ⟨hm, h⟩ := objAt_take h
    obtain ⟨a, ws, h1, h2, h3⟩ := r.dct m kvs h
    exact ⟨a, ws, up hm h1, h2, RKV.mono (fun _ _ h => h) ml _ _ h3⟩
theorem Ext.cut {K : PySem.W.Frag} {α α' : Al} {st st' : Store} {H H' : Hp} (e : Ext K α st H α' st' H') (hl : α.adr.length = st.length) : Ext K α st H (α'.cut st.length) (st'.take st.length) H' := by
  refine ⟨fun n a h => ?_, e.tup, fun a vs h n => let ⟨h1, n1⟩ := e.lst a vs h n; ⟨h1, fun l => n1 (live_cut l)⟩, e.rsv, e.raw⟩
  have hn : n < st.length := by rw [← hl]; exact (List.getElem?_eq_some_iff.mp h).1
  show (α'.adr.take st.length)[n]? = some a
  rw [List.getElem?_take, if_pos hn]
  exact e.pre n a h
theorem paired_len {α β : Type} {F : α → β → Prop} {a : List α} {b : List β} (h : Paired F a b) : a.length = b.length := Paired.length h
theorem at_start {K : PySem.W.Frag} {α : Al} {st : Store} {H : Hp} {N : List Str} : ∀ {us : List Val} {vs : List V}, RSt K α st H → Paired (RV K α st H) us vs → At K α st H (us.map some ++ List.replicate (N.length - us.length) none) (L2.start N vs) := by
  intro us vs r p
  have hl := paired_len p
  refine ⟨by unfold L2.start; simp [hl], r, fun i v h => ?_⟩
  have get : ∀ {us : List Val} {vs : List V} {i : Nat} {v : Val}, Paired (RV K α st H) us vs → us[i]? = some v → ∃ w, vs[i]? = some w ∧ RV K α st H v w := by
    intro us vs i v p
    induction p generalizing i with
    | nil => intro h; simp at h
    | cons q t ih =>
      intro h
      cases i with
      | zero => simp at h; subst h; exact ⟨_, rfl, q⟩
      | succ i => simpa using ih (by simpa using h)
  by_cases hi : i < us.length
  · rw [List.getElem?_append_left (by simpa using hi), List.getElem?_map, List.getElem?_eq_getElem hi] at h
    cases h
    obtain ⟨w, h1, h2⟩ := get p (List.getElem?_eq_getElem hi)
    refine ⟨w, ?_, h2⟩
    unfold L2.start
    rw [List.getElem?_append_left (by rw [List.length_map]; omega), List.getElem?_map, h1]
    rfl
  · rw [List.getElem?_append_right (by simpa using hi), List.getElem?_replicate] at h
    split at h <;> cases h
section
variable {P : Program} {w : World} {K : PySem.W.Frag} {mg : Str → Option Value} {base : Heap} {PR : List FD} {W d k : Nat}
theorem fn_zero {f : Addr} {fd : FuncData} {ps : List Str} : FnOk P w K mg base CX0 0 f fd ps (spF K PR W 0 k ps.length) := by
  refine ⟨fun vs H Q E h => h.1, fun A outer s H args us vs Q E _ _ _ _ h => ?_⟩
  obtain ⟨_, α, st, us', v, st', _, _, e, _⟩ := h
  cases e
theorem fn_succ {x qual : Str} {st : Stmt} {f : Addr} {fd : FuncData} {N ps : List Str} {ib : List S} (F : Fun K x qual st f fd) (S : FnScope N ps (defScope st)) (hP : PR[k]? = some ⟨ps.length, N.length, ib⟩)
    (hb : ∀ (cdv : Value) (A : Around) (outer : List PySem.Env) (s : Shared) (H : Hp) (E : XK), Room d (A.deeper (envOfC qual (defScope st) s.heap.objs.size f cdv)) →
      SSs (cxOf CX0 P w K mg base N qual (defScope st) f cdv A outer s H E).nox (runF PR W d) W (defBody st) ib) : FnOk P w K mg base CX0 (d + 1) f fd ps (spF K PR W (d + 1) k ps.length) := by
  refine F.ok S (fun vs H Q E h => h.1) fun cdv A outer s H vs Q E hr h => ⟨_, hb cdv A outer s H E hr, ?_⟩
  obtain ⟨hl, α, st0, us, v, st', r, pr, e, q⟩ := h
  have hus : us.length = ps.length := by rw [paired_len pr, hl]
  rw [run_def hP (by exact hus)] at e
  obtain ⟨fl, st1, e1, e2⟩ := Res.bind_inv e
  have at0 := at_start (N := N) r pr
  rw [hus] at at0
  refine ⟨_, α, st0, fl, st1, at0, e1, ?_⟩
  cases fl with
  | next env' =>
    intro σ' H' α' x1 at1
    cases e2
    exact q _ H' (α'.cut st0.length) (x1.cut r.len) (at1.rs.cut _) (by rw [RV, RP])
  | ret u =>
    intro w1 H' α' x1 r1 rv
    rw [leave_ret] at e2
    cases e2
    cases v with
    | p y => exact q _ H' (α'.cut st0.length) (x1.cut r.len) (r1.cut _) (RP.mono (fun _ _ h => h) (fun a vs h n => ⟨h, fun l => n (live_cut l)⟩) _ _ rv)
    | ref m =>
      unfold trim at q
      by_cases hm : m < st0.length
      · simp only [hm, if_true] at q
        obtain ⟨a, h1, h2⟩ := rv
        exact q _ H' (α'.cut st0.length) (x1.cut r.len) (r1.cut _) ⟨a, h1, by show (α'.adr.take st0.length)[m]? = some a; rw [List.getElem?_take, if_pos hm]; exact h2⟩
      · simp only [hm, if_false] at q
        exact q _ H' α' x1 r1 rv
end
section
variable {X : Cx} {PR : List FD} {W d k : Nat} {e : Expr} {es : List Expr} {irs : List E} {pos p : Pos}
theorem se_call {x : Str} {f : Addr} {fd : FuncData} {ps : List Str} (F : FnOk X.prog X.w X.K X.mg X.base CX0 d f fd ps (spF X.K PR W d k ps.length)) (hr : Room d X.A) (hg : Gl X x) (hm : X.mg x = some (.ref f)) (hk : PySem.W.keepIn X.K (.ref f) = true) (hb : Binds X.K fd ps [])
    (ha : SA X (runF PR W d) (e :: es) irs) (hn : irs.length = ps.length) (hdb : (x == ("__debug__" : Str)) = false := by decide) (he : starEach (e :: es) X.env = (false, eval e X.env) :: starEach es X.env := by rfl) (hpl : (backTo pos (starEach es X.env)).any (·.1) = false := by rfl) :
    SE X (runF PR W d) (.Call (.Name x p) (e :: es) [] pos) (.call k irs) :=
  PE.mono (pe_call F hr hg hm hk hb .nil pass0 ha hdb he hpl) fun σ H Q ⟨env, α, st, v, st', at', e, q⟩ => by
    rw [ev_call] at e
    obtain ⟨vs, st1, e1, e⟩ := Res.bind_inv e
    refine ⟨env, α, st, vs, st1, at', e1, fun ws H1 α1 x1 r1 pr => ?_⟩
    show spF X.K PR W d k ps.length (ws ++ []) H1 Q E0
    rw [List.append_nil]
    have lv : ∀ {irs : List E} {env : Env} {st st' : Store} {vs : List Val}, evalEs (runF PR W d) irs env st = .ok vs st' → vs.length = irs.length := by
      intro irs
      induction irs with
      | nil => intro env st st' vs h; rw [evEs_nil] at h; cases h; rfl
      | cons i r ih =>
        intro env st st' vs h
        rw [evEs_cons] at h
        obtain ⟨x, st1, e1, h⟩ := Res.bind_inv h
        obtain ⟨ys, st2, e2, h⟩ := Res.bind_inv h
        cases h
        simp [ih e2]
    exact ⟨by rw [← paired_len pr, lv e1, hn], α1, st1, vs, v, st', r1, pr, e, fun w H2 α2 x2 r2 rv => q w H2 α2 (x1.trans x2) r2 rv⟩
end
end OR
set_option Elab.async false
set_option linter.all false
set_option maxRecDepth 100000
set_option maxHeartbeats 2000000
/- changes of mutable objects -/
namespace OR
open PySem L2 PySem.SeqAt PyProof.Rows
section
variable {K : PySem.W.Frag} {α : Al} {st : Store} {H : Hp} {n : Nat} {a : Addr} {o o' : PObj}
theorem objAt_of_set {m : Nat} {x : PObj} (h : objAt (st.set n o') m = some x) : (m = n ∧ x = o') ∨ (m ≠ n ∧ objAt st m = some x) := by
  by_cases hm : m = n
  · subst hm
    have hl : m < st.length := by have := objAt_lt h; simpa using this
    rw [objAt_set hl] at h
    cases h
    exact .inl ⟨rfl, rfl⟩
  · rw [objAt_set_ne hm] at h
    exact .inr ⟨hm, h⟩
theorem live_set (ho : objAt st n = some o) (h1 : o ≠ .dead) (h2 : o' ≠ .dead) {b : Addr} : Live α (st.set n o') b ↔ Live α st b := by
  constructor
  · rintro (h | ⟨m, x, e1, e2, e3⟩)
    · exact .inl h
    · rcases objAt_of_set e2 with ⟨rfl, rfl⟩ | ⟨_, e2⟩
      · exact .inr ⟨m, o, e1, ho, h1⟩
      · exact .inr ⟨m, x, e1, e2, e3⟩
  · rintro (h | ⟨m, x, e1, e2, e3⟩)
    · exact .inl h
    · by_cases hm : m = n
      · subst hm
        exact .inr ⟨m, o', e1, objAt_set (objAt_lt ho), h2⟩
      · exact .inr ⟨m, x, e1, by rw [objAt_set_ne hm]; exact e2, e3⟩
/-- the object of number n is another one now -/
theorem set_ext {h' : HO} (r : RSt K α st H) (ha : α.adr[n]? = some a) (ho : objAt st n = some o) (h1 : o ≠ .dead) (h2 : o' ≠ .dead) : Ext K α st H α (st.set n o') (upd H a h') := by
  have la : Live α st a := .inr ⟨n, o, ha, ho, h1⟩
  have nt : ∀ b vs, SqT K H b vs → SqT K (upd H a h') b vs := fun b vs h => by
    rcases h with (h | ⟨x, h⟩) | h
    · refine .inl (.inl ?_)
      rw [upd_ne]
      · exact h
      · rintro rfl
        rcases r.live la with ⟨_, z⟩ | ⟨_, z⟩ <;> rw [z] at h <;> cases h
    · refine .inl (.inr ⟨x, ?_⟩)
      rw [upd_ne]
      · exact h
      · rintro rfl
        rcases r.live la with ⟨_, z⟩ | ⟨_, z⟩ <;> rw [z] at h <;> cases h
    · exact .inr h
  refine ⟨fun _ _ h => h, nt, fun b vs h nl => ⟨?_, fun l => nl ((live_set ho h1 h2).mp l)⟩, rfl, fun b hb => ?_⟩
  · have ne : b ≠ a := by rintro rfl; exact nl la
    rcases h with (h | ⟨x, h⟩) | h
    · exact .inl (.inl (by rw [upd_ne ne]; exact h))
    · exact .inl (.inr ⟨x, by rw [upd_ne ne]; exact h⟩)
    · exact .inr h
  · rw [upd_ne]
    rintro rfl
    exact r.dis n _ o ha ho h1 hb
theorem set_rst {h' : HO} (r : RSt K α st H) (ha : α.adr[n]? = some a) (ho : objAt st n = some o) (h1 : o ≠ .dead) (h2 : o' ≠ .dead)
    (hl : ∀ xs, o' = .lst xs → ∃ vs, h' = .lst vs ∧ RPs K H (Live α st) xs vs) (hd : ∀ kvs, o' = .dct kvs → ∃ l, h' = .dK l ∧ RKV K H (Live α st) kvs l) : RSt K α (st.set n o') (upd H a h') := by
  have ex := set_ext (h' := h') r ha ho h1 h2
  have ne : ∀ {m : Nat} {b : Addr} {x : PObj}, m ≠ n → α.adr[m]? = some b → objAt st m = some x → x ≠ .dead → b ≠ a := fun hm e1 e2 e3 z => by
    subst z
    rcases r.inj _ _ _ _ _ hm e1 ha e2 ho with z | z
    · exact e3 z
    · exact h1 z
  refine ⟨by rw [List.length_set]; exact r.len, fun m xs h => ?_, fun m kvs h => ?_, fun m m' b x x' hne e1 e2 e3 e4 => ?_, fun b h => r.nk b ((live_set ho h1 h2).mp h), fun m b x e1 e2 e3 => ?_, fun b hb => ?_⟩
  · rcases objAt_of_set h with ⟨rfl, e⟩ | ⟨hm, h⟩
    · obtain ⟨vs, rfl, rp⟩ := hl xs e.symm
      exact ⟨a, vs, ha, upd_same, ex.rps rp⟩
    · obtain ⟨b, vs, e1, e2, e3⟩ := r.lst m xs h
      exact ⟨b, vs, e1, by rw [upd_ne (ne hm e1 h (by intro z; cases z))]; exact e2, ex.rps e3⟩
  · rcases objAt_of_set h with ⟨rfl, e⟩ | ⟨hm, h⟩
    · obtain ⟨l, rfl, rp⟩ := hd kvs e.symm
      exact ⟨a, l, ha, upd_same, RKV.mono ex.tup ex.lst _ _ rp⟩
    · obtain ⟨b, vs, e1, e2, e3⟩ := r.dct m kvs h
      exact ⟨b, vs, e1, by rw [upd_ne (ne hm e1 h (by intro z; cases z))]; exact e2, RKV.mono ex.tup ex.lst _ _ e3⟩
  · rcases objAt_of_set e3 with ⟨rfl, rfl⟩ | ⟨hm, e3'⟩
    · rcases objAt_of_set e4 with ⟨rfl, rfl⟩ | ⟨hm', e4⟩
      · exact absurd rfl hne
      · rcases r.inj m m' b o x' hne e1 e2 ho e4 with z | z
        · exact absurd z h1
        · exact .inr z
    · rcases objAt_of_set e4 with ⟨rfl, rfl⟩ | ⟨hm', e4⟩
      · rcases r.inj m m' b x o hne e1 e2 e3' ho with z | z
        · exact .inl z
        · exact absurd z h1
      · exact r.inj m m' b x x' hne e1 e2 e3' e4
  · rcases objAt_of_set e2 with ⟨rfl, rfl⟩ | ⟨hm, e2⟩
    · exact r.dis m b o e1 ho h1
    · exact r.dis m b x e1 e2 e3
  · obtain ⟨vs, e⟩ := r.rsv b hb
    refine ⟨vs, ?_⟩
    rw [upd_ne]
    · exact e
    · rintro rfl
      exact r.dis n _ o ha ho h1 hb
/-- d[k] = v, pure and in the layer -/
theorem rkv_any {lv : Addr → Prop} {k : PV} {k' : Key} (hk : keyOf k = some k') : ∀ {kvs : List (PV × PV)} {l : List (Key × V)}, RKV K H lv kvs l → (kvs.any fun p => decide (p.1 = k)) = l.any fun kv => decide (kv.1 = k')
  | [], l, h => by rw [RKV] at h; subst h; rfl
  | (k1, x1) :: r, l, h => by
    rw [RKV] at h
    obtain ⟨k2, v, l', rfl, h1, h2, h3⟩ := h
    rw [List.any_cons, List.any_cons, rkv_any hk h3]
    congr 1
    by_cases e : k1 = k
    · subst e
      rw [hk] at h1; cases h1
      simp
    · have : k2 ≠ k' := fun z => e (keyOf_inj h1 (z ▸ hk))
      simp [e, this]
theorem rkv_map {lv : Addr → Prop} {k x : PV} {k' : Key} {v : V} (hk : keyOf k = some k') (hx : RP K H lv x v) : ∀ {kvs : List (PV × PV)} {l : List (Key × V)}, RKV K H lv kvs l → RKV K H lv (kvs.map fun p => if p.1 = k then (p.1, x) else p) (l.map fun kv => if kv.1 = k' then (kv.1, v) else kv)
  | [], l, h => by rw [RKV] at h; subst h; rw [List.map_nil, List.map_nil, RKV]
  | (k1, x1) :: r, l, h => by
    rw [RKV] at h
    obtain ⟨k2, v2, l', rfl, h1, h2, h3⟩ := h
    rw [List.map_cons, List.map_cons]
    have ih := rkv_map hk hx h3
    by_cases e : k1 = k
    · subst e
      rw [hk] at h1; cases h1
      rw [if_pos rfl, if_pos rfl, RKV]
      exact ⟨_, v, _, rfl, hk, hx, ih⟩
    · have : k2 ≠ k' := fun z => e (keyOf_inj h1 (z ▸ hk))
      rw [if_neg e, if_neg this, RKV]
      exact ⟨k2, v2, _, rfl, h1, h2, ih⟩
theorem rkv_snoc {lv : Addr → Prop} {k x : PV} {k' : Key} {v : V} (hk : keyOf k = some k') (hx : RP K H lv x v) : ∀ {kvs : List (PV × PV)} {l : List (Key × V)}, RKV K H lv kvs l → RKV K H lv (kvs ++ [(k, x)]) (l ++ [(k', v)])
  | [], l, h => by rw [RKV] at h; subst h; rw [List.nil_append, List.nil_append, RKV]; exact ⟨k', v, [], rfl, hk, hx, by rw [RKV]⟩
  | (k1, x1) :: r, l, h => by
    rw [RKV] at h
    obtain ⟨k2, v2, l', rfl, h1, h2, h3⟩ := h
    rw [List.cons_append, List.cons_append, RKV]
    exact ⟨k2, v2, _, rfl, h1, h2, rkv_snoc hk hx h3⟩
theorem rkv_put {lv : Addr → Prop} {k x : PV} {k' : Key} {v : V} (hk : keyOf k = some k') (hx : RP K H lv x v) {kvs : List (PV × PV)} {l : List (Key × V)} (h : RKV K H lv kvs l) : RKV K H lv (dPut k x kvs) (putK l k' v) := by
  unfold dPut putK
  rw [rkv_any hk h]
  split
  · exact rkv_map hk hx h
  · exact rkv_snoc hk hx h
theorem RKV.length {lv : Addr → Prop} : ∀ {kvs : List (PV × PV)} {l : List (Key × V)}, RKV K H lv kvs l → kvs.length = l.length
  | [], l, h => by rw [RKV] at h; subst h; rfl
  | (k1, x1) :: r, l, h => by
    rw [RKV] at h
    obtain ⟨k2, v2, l', rfl, h1, h2, h3⟩ := h
    simp [RKV.length h3]
end
section
variable {X : Cx} {C : CallF} {W : Nat} {o i value : Expr} {io ii iv : E} {pos pos' : Pos}
/-- d[k] = v, by values -/
theorem pset_dict (hu : X.A.units + 1 < cLine) : PSet X (fun o i v H Q => ∃ a H', o = .ref a ∧ DPut H a i v H' ∧ Q H') := by
  intro pins s σ H o i v ov iv u Q I ro ri rv ⟨a, H', e, g, q⟩
  subst e
  obtain rfl : ov = Value.ref a := ro
  exact d_setItem hu I g ri rv fun s' I' => ⟨H', I', q⟩
theorem PSet.or {t t' : TSet} (h : PSet X t) (h' : PSet X t') : PSet X (fun o i v H Q => t o i v H Q ∨ t' o i v H Q) := by
  intro pins s σ H o i v ov iv u Q I ro ri rv q
  rcases q with q | q
  · exact h pins s σ H o i v ov iv u Q I ro ri rv q
  · exact h' pins s σ H o i v ov iv u Q I ro ri rv q
/-- o[i] = v -/
theorem ss_setIx (hu : X.A.units + 1 < cLine) (ho : SE X C o io) (hi : SE X C i ii) (hv : SE X C value iv)
    (ha : ∀ v, assign (.Subscript o i pos') X.env v = (do
      let ov ← holding [v] (eval o X.env)
      let iv ← holding [v, ov] (eval i X.env)
      standAt pos'
      holding [v, ov, iv] (setItem ov iv v)
      release [v, ov, iv] []) := by intro _; rfl)
    (hs : swapsWithSole [.Subscript o i pos'] value pos.line X.env = pure false := by rfl) (hw : swappedStores [.Subscript o i pos'] value X.env = pure none := by rfl)
    (h1 : (assignEach [.Subscript o i pos'] X.env).map (·.2) = [assign (.Subscript o i pos') X.env] := by rfl) : SS X C W (.Assign [.Subscript o i pos'] value pos) (.setIx io ii iv) :=
  PS.mono (ps_asg hv (pg_sub ho hi (PSet.or set_list (pset_dict hu)) ha) hs hw h1) fun D σ H ⟨env, α, st, fl, st', at', e, q⟩ => by
    rw [ex_setIx] at e
    obtain ⟨x, st1, e1, e⟩ := Res.bindP_inv e
    obtain ⟨ov, st2, e2, e⟩ := Res.bind_inv e
    obtain ⟨iv', y, st3, e3, hy, e⟩ := Res.bindV_inv e
    obtain ⟨_, st4, e4, e⟩ := Res.bind_inv e
    cases e
    refine ⟨env, α, st, _, st1, at', e1, fun w H1 α1 x1 r1 v1 => ?_⟩
    refine ⟨env, α1, st1, ov, st2, at'.next x1 r1, e2, fun w2 H2 α2 x2 r2 v2 => ?_⟩
    refine ⟨env, α2, st2, iv', st3, (at'.next x1 r1).next x2 r2, e3, fun w3 H3 α3 x3 r3 v3 => ?_⟩
    have rx := (x2.trans x3).rv v1
    have ro := x3.rv v2
    have wy := v3.view r3 hy
    have at3 := ((at'.next x1 r1).next x2 r2).next x3 r3
    cases ov with
    | p z => cases e4
    | ref n =>
      obtain ⟨a, rfl, ha⟩ := ro
      have e4 : (match objAt st3 n with | some (.lst xs) => (match setL xs y x with | some ys => Res.ok () (st3.set n (.lst ys)) | none => .stuck) | some (.dct kvs) => (if kvs.length < 1000000 ∧ isKey y = true then Res.ok () (st3.set n (.dct (dPut y x kvs))) else .stuck) | _ => .stuck) = Res.ok () st' := e4
      cases hob : objAt st3 n with
      | none => rw [hob] at e4; cases e4
      | some ob =>
        rw [hob] at e4
        cases ob with
        | dead => cases e4
        | lst xs =>
          cases hsl : setL xs y x with
          | none => simp only [hsl] at e4; cases e4
          | some ys =>
            simp only [hsl] at e4
            cases e4
            obtain ⟨a', vs, g1, g2, g3⟩ := r3.lst n xs hob
            rw [ha] at g1; cases g1
            cases y with
            | int k =>
              obtain ⟨j, hj, hys⟩ := Option.map_eq_some_iff.mp (show (ixAt xs.length k).map (fun j => xs.set j x) = some ys from hsl)
              subst hys
              have nd1 : PObj.lst xs ≠ .dead := by intro z; cases z
              have nd2 : PObj.lst (xs.set j x) ≠ .dead := by intro z; cases z
              refine .inl ⟨a, vs, k, j, rfl, wy.int, g2, by rw [← g3.length]; exact hj, ?_⟩
              have setR : ∀ {xs : List PV} {vs : List V} (j : Nat), RPs X.K H3 (Live α3 st3) xs vs → RPs X.K H3 (Live α3 st3) (xs.set j x) (vs.set j w) := by
                intro xs
                induction xs with
                | nil => intro vs j h; rw [RPs] at h; subst h; rw [List.set_nil, List.set_nil, RPs]
                | cons z zs ih =>
                  intro vs j h
                  rw [RPs] at h
                  obtain ⟨u, ur, rfl, h1, h2⟩ := h
                  cases j with
                  | zero => rw [List.set_cons_zero, List.set_cons_zero, RPs]; exact ⟨w, ur, rfl, rx, h2⟩
                  | succ j => rw [List.set_cons_succ, List.set_cons_succ, RPs]; exact ⟨u, _, rfl, h1, ih j h2⟩
              have ex := set_ext (o' := .lst (xs.set j x)) (h' := .lst (vs.set j w)) r3 ha hob nd1 nd2
              have rs := set_rst (o' := .lst (xs.set j x)) (h' := .lst (vs.set j w)) r3 ha hob nd1 nd2 (fun ys e => by cases e; exact ⟨_, rfl, setR j g3⟩) (fun kvs e => by cases e)
              exact q σ _ α3 (x1.trans (x2.trans (x3.trans ex))) (at3.next ex rs)
            | _ => simp [setL] at hsl
        | dct kvs =>
          by_cases hlen : kvs.length < 1000000 ∧ isKey y = true
          · simp only [hlen, and_self, if_true] at e4
            cases e4
            obtain ⟨a', l, g1, g2, g3⟩ := r3.dct n kvs hob
            rw [ha] at g1; cases g1
            obtain ⟨k, hk⟩ : ∃ k, keyOf y = some k := by
              cases y with
              | int z => exact ⟨_, rfl⟩
              | str z => exact ⟨_, rfl⟩
              | _ => cases hlen.2
            have nd1 : PObj.dct kvs ≠ .dead := by intro z; cases z
            have nd2 : PObj.dct (dPut y x kvs) ≠ .dead := by intro z; cases z
            have hz : sizeLine = 16777216 := by decide
            have ll := g3.length
            refine .inr ⟨a, _, rfl, by rw [RW_int wy hk]; exact DPut.k g2 (by rw [hz]; omega), ?_⟩
            have ex := set_ext (o' := .dct (dPut y x kvs)) (h' := .dK (putK l k w)) r3 ha hob nd1 nd2
            have rs := set_rst (o' := .dct (dPut y x kvs)) (h' := .dK (putK l k w)) r3 ha hob nd1 nd2 (fun ys e => by cases e) (fun kvs' e => by cases e; exact ⟨_, rfl, rkv_put hk rx g3⟩)
            exact q σ _ α3 (x1.trans (x2.trans (x3.trans ex))) (at3.next ex rs)
          · have e4 : (if kvs.length < 1000000 ∧ isKey y = true then Res.ok () (st3.set n (.dct (dPut y x kvs))) else .stuck) = Res.ok () st' := e4
            rw [if_neg hlen] at e4
            cases e4
end
end OR
set_option Elab.async false
set_option linter.all false
set_option maxRecDepth 100000
set_option maxHeartbeats 2000000
/- more built-in functions -/
namespace OR
open PySem L2 PySem.SeqAt PyProof.Rows
section
variable {X : Cx}
theorem boolsAll_at : ∀ {xs : List PV} {b : Bool}, boolsAll xs = some b → ∃ bs : List Bool, xs = bs.map .bl ∧ b = bs.all id
  | [], b, h => by cases h; exact ⟨[], rfl, rfl⟩
  | x :: r, b, h => by
    cases x with
    | bl k =>
      obtain ⟨c, h1, h2⟩ := Option.map_eq_some_iff.mp (show (boolsAll r).map (k && ·) = some b from h)
      obtain ⟨bs, rfl, rfl⟩ := boolsAll_at h1
      exact ⟨k :: bs, rfl, by rw [← h2]; rfl⟩
    | _ => cases h
theorem rps_bools {K : PySem.W.Frag} {H : Hp} {lv : Addr → Prop} : ∀ {bs : List Bool} {vs : List V}, RPs K H lv (bs.map .bl) vs → vs = bs.map .bl
  | [], vs, h => by rw [List.map_nil, RPs] at h; exact h
  | b :: r, vs, h => by
    rw [List.map_cons, RPs] at h
    obtain ⟨v, vr, rfl, h1, h2⟩ := h
    rw [RP] at h1
    rw [h1, rps_bools h2]
    rfl
theorem vals_bools : ∀ {bs : List Bool} {its : List Value}, Vals (bs.map .bl) its → its = bs.map .bool
  | [], its, h => by cases h; rfl
  | b :: r, its, h => by
    cases h with
    | cons q t =>
      obtain rfl := (show _ = Value.bool b from q)
      rw [vals_bools t]
      rfl
theorem all_range (bs : List Bool) : (List.range bs.length).all (fun i => bs.getD i false) = bs.all id := by
  induction bs with
  | nil => rfl
  | cons b r ih =>
    rw [List.length_cons, List.range_succ_eq_map, List.all_cons, List.all_map, List.all_cons, ← ih]
    rfl
theorem n_all (hc : X.calm = true) : CallN X (.builtin "all") (f1 (onLst fun l => (boolsAll l).map .bl)) := by
  intro pins s σ H ws us Q I rs ⟨α, st, xs, z, r, pr, hz, q⟩
  cases pr with
  | nil => cases hz
  | cons h t =>
    cases t with
    | cons _ _ => cases hz
    | nil =>
      rename_i x w
      cases x with
      | lst l =>
        obtain ⟨b, hb, hz2⟩ := Option.map_eq_some_iff.mp (show (boolsAll l).map PV.bl = some z from hz)
        obtain ⟨bs, rfl, rfl⟩ := boolsAll_at hb
        obtain ⟨a, vs, rfl, h1, h2⟩ := h.lst
        cases rs with
        | cons ra rt =>
          cases rt
          obtain rfl := (show _ = Value.ref a from ra)
          obtain ⟨its, r1, p, _⟩ := I.list h1
          have ev := rps_bools h2
          subst ev
          have ei := vals_bools r1
          subst ei
          refine call_all_walk (wpAny_pyIter_list p.isList ?_)
          have hne : a ≠ s.heap.objs.size := by
            obtain ⟨o, _, e, _⟩ := p
            exact Nat.ne_of_lt (Heap.lt_size e)
          refine ⟨_, _, _, _, _, _, fun i => bs.getD i false, rfl, Walks.list (A := X.A.in1) (show X.A.in1.handled = none from I.ok.hd hc) s.heap.objs.size a hne (bs.map Value.bool).toArray, ⟨⟨_, Heap.get?_push_size _ rfl, rfl, rfl⟩, ?_⟩, ?_, fun h' tk hk => ?_⟩
          · obtain ⟨o, n, e, c, _, d⟩ := p
            exact ⟨o, Heap.get?_push_of_some _ e, c, n, d⟩
          · intro i v s' Q' E' hv hQ
            have hv : (bs.map Value.bool).toArray[i]? = some v := hv
            rw [List.getElem?_toArray, List.getElem?_map] at hv
            obtain ⟨b, hb', rfl⟩ := Option.map_eq_some_iff.mp hv
            have e : bs.getD i false = b := by rw [List.getD_eq_getElem?_getD, hb']; rfl
            have hQ : Q' (bs.getD i false) s' := hQ
            rw [e] at hQ
            exact wpAny_truthy_bool hQ
          · refine ⟨.bl _, H, I.kept (fun b o e => hk b o ?_ (Heap.get?_push_of_some _ e)), rfl, ?_⟩
            · simp only [List.mem_singleton]
              exact Nat.ne_of_lt (Heap.lt_size e)
            · have : (List.range (bs.map Value.bool).toArray.size).all (fun i => bs.getD i false) = bs.all id := by
                rw [List.size_toArray, List.length_map]; exact all_range bs
              rw [this]
              exact q _ _ (Same.refl H) (by rw [← hz2, RP])
      | _ => cases hz
theorem n_repr : CallN X (.builtin "repr") (f1 fun v => (reprOf v).map .str) := by
  intro pins s σ H ws us Q I rs ⟨α, st, xs, z, r, pr, hz, q⟩
  cases pr with
  | nil => cases hz
  | cons h t =>
    cases t with
    | cons _ _ => cases hz
    | nil =>
      rename_i x w
      cases x with
      | bl b =>
        have e := h.bl
        subst e
        cases rs with
        | cons ra rt =>
          cases rt
          obtain rfl := (show _ = Value.bool b from ra)
          refine PySem.P.repr_of_bool ⟨.str (if b then "True" else "False"), H, I.tok _, ⟨_, rfl⟩, q _ _ (Same.refl H) ?_⟩
          cases b
          · cases hz
            rw [RP]
            exact ⟨by decide +kernel, by decide⟩
          · cases hz
            rw [RP]
            exact ⟨by decide +kernel, by decide⟩
      | _ => cases hz

theorem ints_of : ∀ {xs : List PV} {ns : List Int}, intsOf xs = some ns → xs = ns.map .int
  | [], ns, h => by cases h; rfl
  | x :: r, ns, h => by
    cases x with
    | int i =>
      obtain ⟨ms, h1, h2⟩ := Option.map_eq_some_iff.mp (show (intsOf r).map (i :: ·) = some ns from h)
      rw [← h2, ints_of h1]
      rfl
    | _ => cases h
theorem rps_ints {K : PySem.W.Frag} {H : Hp} {lv : Addr → Prop} : ∀ {ns : List Int} {vs : List V}, RPs K H lv (ns.map .int) vs → vs = ns.map .int
  | [], vs, h => by rw [List.map_nil, RPs] at h; exact h
  | b :: r, vs, h => by
    rw [List.map_cons, RPs] at h
    obtain ⟨v, vr, rfl, h1, h2⟩ := h
    rw [RP] at h1
    rw [h1, rps_ints h2]
    rfl
theorem vals_ints' : ∀ {ns : List Int} {its : List Value}, Vals (ns.map .int) its → ∃ ps : List (Int × Tok), its = ps.map (fun p => Value.int p.1 p.2) ∧ ps.map (·.1) = ns
  | [], its, h => by cases h; exact ⟨[], rfl, rfl⟩
  | b :: r, its, h => by
    cases h with
    | cons q t =>
      obtain ⟨tk, rfl⟩ := q
      obtain ⟨ps, rfl, h2⟩ := vals_ints' t
      exact ⟨(b, tk) :: ps, rfl, by rw [List.map_cons, h2]⟩
/-- the best place, by the least value -/
theorem best_min (f : Nat → Int) : ∀ k : Nat, f (argBest (fun i j => decide (f i < f j)) k) = minL (f 0) ((List.range k).map fun i => f (i + 1))
  | 0 => rfl
  | k + 1 => by
    have snoc : ∀ (r : List Int) (m x : Int), minL m (r ++ [x]) = (if x < minL m r then x else minL m r) := by
      intro r
      induction r with
      | nil => intro m x; rfl
      | cons y r ih => intro m x; rw [List.cons_append, minL, ih, minL]
    rw [List.range_succ, List.map_append, List.map_singleton, snoc, ← best_min f k, argBest]
    by_cases h : f (k + 1) < f (argBest (fun i j => decide (f i < f j)) k)
    · rw [if_pos (by simpa using h), if_pos h]
    · rw [if_neg (by simpa using h), if_neg h]
theorem n_min (hc : X.calm = true) : CallN X (.builtin "min") (f1 (onLst fMin)) := by
  intro pins s σ H ws us Q I rs ⟨α, st, xs, z, r, pr, hz, q⟩
  cases pr with
  | nil => cases hz
  | cons h t =>
    cases t with
    | cons _ _ => cases hz
    | nil =>
      rename_i x w
      cases x with
      | lst l =>
        have hz : fMin l = some z := hz
        unfold fMin at hz
        cases hi : intsOf l with
        | none => rw [hi] at hz; cases hz
        | some ns =>
          rw [hi] at hz
          cases ns with
          | nil => cases hz
          | cons n0 nr =>
            have hz2 : PV.int (minL n0 nr) = z := Option.some.inj hz
            have el := ints_of hi
            subst el
            obtain ⟨a, vs, rfl, h1, h2⟩ := h.lst
            cases rs with
            | cons ra rt =>
              cases rt
              obtain rfl := (show _ = Value.ref a from ra)
              obtain ⟨its, r1, p, _⟩ := I.list h1
              have ev := rps_ints h2
              subst ev
              obtain ⟨ps, rfl, hps⟩ := vals_ints' r1
              have hit : (ps.map (fun p => Value.int p.1 p.2)).toArray = intItems ps.toArray := by simp [intItems]
              have hpl : ps.length = nr.length + 1 := by have := congrArg List.length hps; simpa using this
              refine min_intList (xs := ps.toArray) (I.ok.hd hc) (by rw [← hit]; exact p.isList) (by simp; omega) fun v h' tk hv hk => ?_
              obtain ⟨tv, rfl⟩ := intItems_at hv
              refine ⟨.int _, H, I.kept hk, ⟨_, rfl⟩, q _ _ (Same.refl H) ?_⟩
              rw [← hz2, RP, best_min (numAt ps.toArray)]
              congr 1
              have at' : ∀ i, numAt ps.toArray i = ((n0 :: nr)[i]?).getD 0 := fun i => by
                rw [← hps]
                simp [numAt]
              have e0 : numAt ps.toArray 0 = n0 := by rw [at']; rfl
              have er : (List.range (ps.toArray.size - 1)).map (fun i => numAt ps.toArray (i + 1)) = nr := by
                have : ps.toArray.size - 1 = nr.length := by simp; omega
                rw [this]
                apply List.ext_getElem
                · simp
                · intro i h1 h2
                  simp [at', h2]
              rw [e0, er]
      | _ => cases hz
end
end OR
set_option Elab.async false
set_option linter.all false
set_option maxRecDepth 100000
set_option maxHeartbeats 2000000
/- isinstance; texts' methods -/
namespace OR
open PySem L2 PySem.SeqAt PyProof.Rows
def tyName : Ty → String
  | .int => "int"
  | .str => "str"
  | .bool => "bool"
  | .list => "list"
  | .tuple => "tuple"
section
variable {X : Cx} {C : CallF} {a : Expr} {ia : E} {pos p p2 : Pos}
theorem call_isinst (t : Ty) : CallR X (.builtin "isinstance") (fun ws H Q => ∃ α st px x, ws = [x, .ty (tyName t)] ∧ RSt X.K α st H ∧ RW X.K α st H px x ∧ Q (.bl (isTy t px)) H) := by
  intro pins s σ H ws us Q I rs ⟨α, st, px, x, e, r, h, q⟩
  subst e
  cases rs with
  | cons rx rt =>
    cases rt with
    | cons r2 rt =>
      cases rt
      obtain rfl := (show _ = Value.type (tyName t) from r2)
      have fin : ∀ tk, EP X pins σ Q (.bool (isTy t px)) { s with toks := tk } := fun tk => ⟨.bl _, H, I.tok tk, rfl, q⟩
      cases px with
      | non => have e := h.non; subst e; exact isinst_ok I rx .non (by cases t <;> rfl) fin
      | bl b => have e := h.bl; subst e; exact isinst_ok I rx (.bl b) (by cases t <;> rfl) fin
      | int i => have e := h.int; subst e; exact isinst_ok I rx (.int i) (by cases t <;> rfl) fin
      | str cs => have e := h.str.1; subst e; exact isinst_ok I rx (.str _) (by cases t <;> rfl) fin
      | tup xs =>
        obtain ⟨b, vs, rfl, h1, _⟩ := h.tup
        obtain rfl := (show _ = Value.ref b from rx)
        obtain ⟨its, _, ⟨o, e1, e2, _⟩, _⟩ := I.tuple h1
        exact PySem.W.kia_one PySem.W.kitx_tuple I.kIn ⟨o, e1, e2⟩ (by cases t <;> rfl) (fun z => nomatch z) fin
      | lst xs =>
        obtain ⟨b, vs, rfl, h1, _⟩ := h.lst
        obtain rfl := (show _ = Value.ref b from rx)
        obtain ⟨its, _, ⟨o, n, e1, e2, _⟩, _⟩ := I.list h1
        exact PySem.W.kia_one PySem.W.kitx_list I.kIn ⟨o, e1, e2⟩ (by cases t <;> rfl) (fun z => nomatch z) fin
theorem se_isinst {x : Str} (t : Ty) (hg : Gl X "isinstance") (hm : X.mg "isinstance" = none) (hv : bootBuiltins "isinstance" = some (.builtin "isinstance")) (hg2 : Gl X x) (hm2 : X.mg x = none) (hv2 : bootBuiltins x = some (.type (tyName t)))
    (ha : SE X C a ia) (hn2 : x ≠ "__name__" := by decide) (hd2 : (x == ("__debug__" : Str)) = false := by decide)
    (hs : starEach [a, .Name x p2] X.env = (false, eval a X.env) :: starEach [.Name x p2] X.env := by rfl) (hs2 : starEach [.Name x p2] X.env = (false, eval (.Name x p2) X.env) :: starEach [] X.env := by rfl)
    (hpl : (backTo pos (starEach [.Name x p2] X.env)).any (·.1) = false := by rfl) : SE X C (.Call (.Name "isinstance" p) [a, .Name x p2] [] pos) (.blt (.isinst t) [ia]) :=
  PE.mono (pe_callB (call_isinst t) hg hm hv (pa_cons ha (pa_cons (pe_bltn hg2 hm2 hv2 (v := .ty (tyName t)) rfl hn2 hd2) pa_nil hs2) hs) (by decide) (by decide) hs hpl) fun σ H Q ⟨env, α, st, v, st', at', e, q⟩ => by
    rw [ev_blt, evEs_cons] at e
    obtain ⟨vs, st1, e1, e⟩ := Res.bind_inv e
    obtain ⟨va, st2, e2, e1⟩ := Res.bind_inv e1
    rw [evEs_nil] at e1
    cases e1
    refine ⟨env, α, st, va, st1, at', e2, fun w H1 α1 x1 r1 v1 => ?_⟩
    unfold opN at e
    cases hv' : view st1 va with
    | none => simp only [views, hv'] at e; cases e
    | some y =>
      simp only [views, hv'] at e
      cases e
      exact ⟨α1, st', y, w, rfl, r1, v1.view r1 hv', q _ H1 α1 x1 r1 (by rw [RV, RP])⟩

/-! ### methods of texts -/
variable {o e : Expr} {es : List Expr} {io : E} {irs : List E} {apos cpos : Pos} {name : Str} {id : String} {m : Mt}
/-- what a text's method does with values as they are read -/
def MtS (X : Cx) (id : String) (g : PV → List PV → Option PV) : Prop :=
  MtR X id fun x ws H Q => ∃ α st px xs z, RSt X.K α st H ∧ RW X.K α st H px x ∧ Paired (RW X.K α st H) xs ws ∧ g px xs = some z ∧ ∀ w H', Same H H' → RP X.K H' (Live α st) z w → Q w H'
theorem se_mtS {g : PV → List PV → Option PV} (slot : Slot "str" name id) (hty : typeOf (.builtin id) = pure (.type "method_descriptor")) (hm : MtS X id g) (ho : SE X C o io) (ha : SA X C (e :: es) irs)
    (hg : ∀ v vs st, methN m v vs st = (match views st vs with | some xs => (match view st v with | some x => okO (g x xs) st | none => .stuck) | none => .stuck)) (hstr : ∀ x xs z, g x xs = some z → ∃ cs, x = .str cs)
    (hbase : attributeBase o name X.env (eval o X.env) = eval o X.env := by rfl)
    (hfew : ((backTo cpos (starEach (e :: es) X.env)).all (fun x => !x.1) && (backToKw cpos (keywordEach [] X.env)).all (fun x => x.1.isSome)
      && decide ((e :: es).length + ([] : List Keyword).length + (if ([] : List Keyword).isEmpty then 0 else 1) < 30)) = true := by rfl)
    (hline : (apos.endLine == cpos.line) = true := by rfl) (hs : starEach (e :: es) X.env = (false, eval e X.env) :: starEach es X.env := by rfl) (hplain : (backTo cpos (starEach es X.env)).any (·.1) = false := by rfl) :
    SE X C (.Call (.Attribute o name apos) (e :: es) [] cpos) (.meth m io irs) :=
  PE.mono (pe_bm PySem.F.plainAttrs_str slot hty hm ho ha hbase hfew hline hs hplain) fun σ H Q ⟨env, α, st, v, st', at', e, q⟩ => by
    rw [ev_meth] at e
    obtain ⟨ov, st1, e1, e⟩ := Res.bind_inv e
    obtain ⟨_, st0, e0, e⟩ := Res.bind_inv e
    obtain ⟨⟨x0, hv0⟩, hst⟩ := seen_inv e0
    rw [hst] at e
    obtain ⟨vs, st2, e2, e⟩ := Res.bind_inv e
    rw [hg] at e
    cases hv : views st2 vs with
    | none => rw [hv] at e; cases e
    | some xs =>
      rw [hv] at e
      cases hx : view st2 ov with
      | none => simp only [hx] at e; cases e
      | some x =>
        simp only [hx] at e
        obtain ⟨z, h1, h2, h3⟩ := okO_inv e
        subst h2 h3
        obtain ⟨cs, rfl⟩ := hstr _ _ _ h1
        have hov : ov = .p (.str cs) := by
          cases ov with
          | p y => cases hx; rfl
          | ref n =>
            have hx : (match objAt st' n with | some (.lst xs) => some (PV.lst xs) | _ => none) = some (PV.str cs) := hx
            cases ho : objAt st' n with
            | none => rw [ho] at hx; cases hx
            | some ob => rw [ho] at hx; cases ob <;> cases hx
        subst hov
        refine ⟨env, α, st, _, st1, at', e1, fun w H1 α1 x1 r1 v1 => ?_⟩
        have v1' : RP X.K H1 (Live α1 st1) (.str cs) w := v1
        rw [RP] at v1'
        obtain ⟨hw, hl⟩ := v1'
        subst hw
        refine ⟨rfl, env, α1, st1, vs, st', at'.next x1 r1, e2, fun ws H2 α2 x2 r2 pr => ?_⟩
        exact ⟨α2, st', .str cs, xs, z, r2, .inl (by rw [RP]; exact ⟨rfl, hl⟩), views_rw r2 pr hv, h1, fun w H3 s3 rp => q w H3 α2 (x1.trans (x2.trans (.of_same r2 s3))) (r2.same s3) rp⟩
end
end OR
set_option Elab.async false
set_option linter.all false
set_option maxRecDepth 100000
set_option maxHeartbeats 2000000
/- methods of texts -/
namespace OR
open PySem L2 PySem.SeqAt PyProof.Rows
open PySem.Builtin PySem.Builtin.Str
section
variable {X : Cx}
theorem m_find : MtS X "str.find" mFind := by
  intro pins s σ H x ws v us Q I rx rs ⟨α, st, px, xs, z, r, hx, pr, hz, q⟩
  cases px with
  | str a =>
    cases pr with
    | nil => cases hz
    | cons h t =>
      cases t with
      | cons _ _ => rename_i y _ _ _ _ _ _ _; cases y <;> cases hz
      | nil =>
        rename_i y w
        cases y with
        | str b =>
          obtain ⟨e1, _⟩ := hx.str
          obtain ⟨e2, _⟩ := h.str
          subst e1 e2
          obtain ⟨t1, rfl⟩ := rx
          cases rs with
          | cons ru rt =>
            cases rt
            obtain ⟨t2, rfl⟩ := ru
            refine call_gives PySem.F.slot_str_find (typeIs_str _ _ _) PySem.F.entry_str_find (PySem.F.args_str_find_2 _ _) (gives_str_find _ _ _ _) ?_
            have ez : PV.int (findI b a) = z := Option.some.inj hz
            rw [occ_find]
            unfold findI at ez
            cases hf : findIn b a 0 with
            | none =>
              rw [hf] at ez
              exact ⟨.int _, H, I.tok _, ⟨_, rfl⟩, q _ _ (Same.refl H) (by rw [← ez, RP])⟩
            | some k =>
              rw [hf] at ez
              exact ⟨.int _, H, I.tok _, ⟨_, rfl⟩, q _ _ (Same.refl H) (by rw [← ez, RP])⟩
        | _ => cases hz
  | _ => cases hz

theorem m_upper : MtS X "str.upper" mUpper := by
  intro pins s σ H x ws v us Q I rx rs ⟨α, st, px, xs, z, r, hx, pr, hz, q⟩
  cases px with
  | str a =>
    cases pr with
    | cons h t => cases hz
    | nil =>
      cases rs
      obtain ⟨e1, hl⟩ := hx.str
      subst e1
      obtain ⟨t1, rfl⟩ := rx
      have hz : (if a.all (· < 128) then some (PV.str (a.map upC)) else none) = some z := hz
      by_cases ha : (a.all (· < 128)) = true
      · rw [if_pos ha] at hz
        have ez : PV.str (a.map upC) = z := Option.some.inj hz
        have hA : ∀ c ∈ (⟨a.toArray⟩ : Str).cps.toList, c < 128 := fun c hc => by
          have := List.all_eq_true.mp ha c (by simpa using hc)
          exact of_decide_eq_true this
        have pl : placed (⟨a.toArray⟩ : Str) (fun _ c => PySem.Unicode.upperOf c) = (a.map upC).toArray := by
          rw [placed_single (⟨a.toArray⟩ : Str) _ up1 fun i c hc => upperOf_ascii c (hA c (List.mem_of_getElem? hc))]
          show a.toArray.map up1 = _
          rw [List.map_toArray]
          rfl
        refine call_gives PySem.F.slot_str_upper (typeIs_str _ _ _) PySem.F.entry_str_upper (PySem.F.args_str_upper_1 _) (gives_str_upper _ _ ?_) ?_
        · rw [pl]
          show decide ((a.map upC).toArray.size > sizeLine) = false
          rw [List.size_toArray, List.length_map]
          exact decide_eq_false (by omega)
        · rw [pl]
          exact ⟨by rw [str_len, List.length_map]; exact hl, .str _, H, I.tok _, ⟨_, rfl⟩, q _ _ (Same.refl H) (by rw [← ez, RP]; exact ⟨rfl, by rw [List.length_map]; exact hl⟩)⟩
      · rw [if_neg ha] at hz; cases hz
  | _ => cases hz
end
end OR
set_option Elab.async false
set_option linter.all false
set_option maxRecDepth 100000
set_option maxHeartbeats 2000000
/- slices -/
namespace OR
open PySem L2 PySem.SeqAt PyProof.Rows
open PySem.Builtin PySem.Builtin.Str
theorem sIx_HT (n d : Nat) (o : Option Int) : HT.sIx n d o = sIx n d o := by
  cases o with
  | none => rfl
  | some i =>
    show (if i < 0 then (i + (n : Int)).toNat else min i.toNat n) = (if 0 ≤ i then min i.toNat n else ((n : Int) + i).toNat)
    by_cases h : 0 ≤ i
    · rw [if_neg (by omega), if_pos h]
    · rw [if_pos (by omega), if_neg h]
      congr 1
      omega
theorem clip_at (i : Int) (n d : Nat) : max 0 (min (if i < 0 then i + (n : Int) else i) (n : Int)) = ((sIx n d (some i) : Nat) : Int) := by
  show max 0 (min (if i < 0 then i + (n : Int) else i) (n : Int)) = (((if 0 ≤ i then min i.toNat n else ((n : Int) + i).toNat) : Nat) : Int)
  by_cases h : 0 ≤ i
  · rw [if_neg (by omega), if_pos h]; omega
  · rw [if_pos (by omega), if_neg h]; omega
theorem strIdx (lo hi : Option Int) (n : Nat) : strSliceIndices lo hi 1 n = (List.range (sIx n n hi - sIx n 0 lo)).map (sIx n 0 lo + ·) := by
  rw [← sliceRange_one]
  have h1 : (1 : Int) > 0 := by decide
  unfold strSliceIndices
  simp only [h1, if_true]
  congr 1
  · cases lo with
    | none => rfl
    | some i => exact clip_at i n 0
  · cases hi with
    | none => rfl
    | some i => exact clip_at i n n
section
variable {X : Cx} {C : CallF} {e : Expr} {ie : E} {pos p2 : Pos}
theorem cut_len' {α : Type} (xs : List α) (lo hi : Option Int) : (cut xs lo hi).length ≤ xs.length := by
  unfold cut
  rw [List.length_take, List.length_drop]
  omega
theorem cut_whole {α : Type} (xs : List α) (lo hi : Option Int) (h : (cut xs lo hi).length = xs.length) : cut xs lo hi = xs :=
  (((List.take_sublist _ _).trans (List.drop_sublist _ _)) : (cut xs lo hi).Sublist xs).eq_of_length h
def rSlS : V → Option Int → Option Int → Hp → VK → Prop := fun x lo hi H Q => ∃ cs : List Nat, x = .str ⟨cs.toArray⟩ ∧ cs.length ≤ sizeLine ∧ Q (.str ⟨(cut cs lo hi).toArray⟩) H
theorem part_of {v : Value} {o : Option Int} (p : IsPart v o) : ∃ l : Option (Int × Tok), v = partValue l ∧ l.map (·.1) = o := by
  cases p with
  | none => exact ⟨none, rfl, rfl⟩
  | int i t => exact ⟨some (i, t), rfl, rfl⟩
theorem sl_str : SlR X rSlS := by
  intro pins s σ H x v vl vu lo hi sl Q I rx hs pl pu ⟨cs, e, hl, q⟩
  subst e
  obtain ⟨t, rfl⟩ := rx
  obtain ⟨l, rfl, rfl⟩ := part_of pl
  obtain ⟨u, rfl, rfl⟩ := part_of pu
  have pk : slicePicked ⟨cs.toArray⟩ l u none = (List.range (sIx cs.length cs.length (u.map (·.1)) - sIx cs.length 0 (l.map (·.1)))).map (sIx cs.length 0 (l.map (·.1)) + ·) := by
    unfold slicePicked
    rw [str_len]
    exact strIdx _ _ _
  have pf : (slicePicked ⟨cs.toArray⟩ l u none).filterMap (fun i => (⟨cs.toArray⟩ : Str).cps[i]?) = cut cs (l.map (·.1)) (u.map (·.1)) := by
    rw [pk]
    exact pick_run cs.toArray _ _
  refine ⟨"str", _, PySem.F.slot_str_getitem.lookup, typeIs_str _ _ _, wpAny_getItem_str_slice (l := l) (u := u) (st := none) hs rfl ?_⟩
  unfold sliceMade
  split
  · rename_i h
    have h2 : (slicePicked ⟨cs.toArray⟩ l u none).length = cs.length := by
      have := (Bool.and_eq_true _ _ ▸ h : _ ∧ _).2
      rw [str_len] at this
      exact eq_of_beq this
    have h3 : cut cs (l.map (·.1)) (u.map (·.1)) = cs := by
      refine cut_whole _ _ _ ?_
      rw [pk, List.length_map, List.length_range] at h2
      unfold cut
      rw [List.length_take, List.length_drop]
      have h4 : sIx cs.length cs.length (u.map (·.1)) ≤ cs.length := by rw [← sIx_HT]; exact HT.sIx_le _ _ (Nat.le_refl _) _
      omega
    rw [h3] at q
    exact ⟨.str _, H, I, ⟨t, rfl⟩, q⟩
  · rw [pf]
    exact ⟨by rw [str_len]; exact Nat.le_trans (cut_len' _ _ _) hl, .str _, H, I.tok _, ⟨_, rfl⟩, q⟩
theorem RPs.cut {K : PySem.W.Frag} {H : Hp} {lv : Addr → Prop} {xs : List PV} {vs : List V} (lo hi : Option Int) (h : RPs K H lv xs vs) : RPs K H lv (cut xs lo hi) (cutV vs lo hi) := by
  unfold OR.cut cutV
  rw [sIx_HT, sIx_HT, ← h.length]
  exact RPs.take _ (RPs.drop _ h)
theorem sl_any : SlR X (fun x lo hi H Q => ∃ α st px z, RSt X.K α st H ∧ RW X.K α st H px x ∧ sliceOp px lo hi = some z ∧ ∀ w H', Same H H' → RP X.K H' (Live α st) z w → Q w H') := by
  intro pins s σ H x v vl vu lo hi sl Q I rx hs pl pu ⟨α, st, px, z, r, h, hz, q⟩
  cases px with
  | str cs =>
    obtain ⟨h1, h2⟩ := h.str
    subst h1
    refine sl_str pins s σ H _ v vl vu lo hi sl Q I rx hs pl pu ⟨cs, rfl, h2, q _ _ (Same.refl H) ?_⟩
    cases hz
    rw [RP]
    exact ⟨rfl, Nat.le_trans (cut_len' _ _ _) h2⟩
  | lst xs =>
    obtain ⟨a, vs, rfl, h1, h2⟩ := h.lst
    refine sl_list pins s σ H _ v vl vu lo hi sl Q I rx hs pl pu ⟨a, vs, rfl, h1, fun p hp => q _ _ (same_new hp _) ?_⟩
    cases hz
    rw [RP]
    exact ⟨p, _, rfl, SqL.of upd_same, r.notlive hp, (Ext.of_same r (same_new hp _)).rps (h2.cut lo hi)⟩
  | tup xs =>
    obtain ⟨a, vs, rfl, h1, h2⟩ := h.tup
    have hz : (if sIx xs.length 0 lo = 0 ∧ sIx xs.length xs.length hi = xs.length then none else some (PV.tup (OR.cut xs lo hi))) = some z := hz
    by_cases hw : sIx xs.length 0 lo = 0 ∧ sIx xs.length xs.length hi = xs.length
    · rw [if_pos hw] at hz; cases hz
    · rw [if_neg hw] at hz
      cases hz
      refine sl_tup pins s σ H _ v vl vu lo hi sl Q I rx hs pl pu ⟨a, vs, rfl, h1, by rw [sIx_HT, sIx_HT, ← h2.length]; exact hw, fun p hp => q _ _ (same_new hp _) ?_⟩
      rw [RP]
      exact ⟨p, _, rfl, SqT.of upd_same, (Ext.of_same r (same_new hp _)).rps (h2.cut lo hi)⟩
  | _ => cases hz
/-- the parts -/
def tO (K : PySem.W.Frag) (C : CallF) (ir : Option E) : TO := fun σ H Q => ∃ env α st o st', At K α st H env σ ∧ evalO C ir env st = .ok o st' ∧
  ∀ H' α', Ext K α st H α' st' H' → RSt K α' st' H' → Q o H'
abbrev SO (X : Cx) (C : CallF) (e : Option Expr) (ir : Option E) : Prop := PO X e (tO X.K C ir)
theorem PO.mono {e : Option Expr} {t t' : TO} (h : PO X e t) (m : ∀ σ H Q, t' σ H Q → t σ H Q) : PO X e t' := fun pins s σ H Q I q => h pins s σ H Q I (m _ _ _ q)
theorem so_none : SO X C none none := PO.mono po_none fun σ H Q ⟨env, α, st, o, st', at', e, q⟩ => by
  rw [evO_none] at e
  cases e
  exact q H α .refl at'.rs
theorem so_some (h : SE X C e ie) : SO X C (some e) (some ie) := PO.mono (po_some h) fun σ H Q ⟨env, α, st, o, st', at', e, q⟩ => by
  rw [evO_some] at e
  obtain ⟨v, x, st1, e1, hv, e⟩ := Res.bindV_inv e
  refine ⟨env, α, st, v, st1, at', e1, fun w H1 α1 x1 r1 v1 => ?_⟩
  cases x with
  | int i =>
    cases e
    exact ⟨i, (v1.view r1 hv).int, q H1 α1 x1 r1⟩
  | _ => cases e
theorem se_slice {lo hi : Option Expr} {ilo ihi : Option E} (he : SE X C e ie) (hl : SO X C lo ilo) (hh : SO X C hi ihi) : SE X C (.Subscript e (.Slice lo hi none p2) pos) (.slice ie ilo ihi) :=
  PE.mono (pe_slice sl_any he hl hh) fun σ H Q ⟨env, α, st, v, st', at', e, q⟩ => by
    rw [ev_slice] at e
    obtain ⟨va, st1, e1, e⟩ := Res.bind_inv e
    obtain ⟨l, st2, e2, e⟩ := Res.bind_inv e
    obtain ⟨h, st3, e3, e⟩ := Res.bind_inv e
    obtain ⟨x, y, g1, g2, g3, g4⟩ := op1_inv e
    subst g3 g4
    refine ⟨env, α, st, va, st1, at', e1, fun w H1 α1 x1 r1 v1 => ?_⟩
    have at1 := at'.next x1 r1
    refine ⟨env, α1, st1, l, st2, at1, e2, fun H2 α2 x2 r2 => ?_⟩
    refine ⟨env, α2, st2, h, st', at1.next x2 r2, e3, fun H3 α3 x3 r3 => ?_⟩
    refine ⟨α3, st', x, y, r3, ((x2.trans x3).rv v1).view r3 g1, g2, fun w3 H4 s4 rp => ?_⟩
    exact q w3 H4 α3 (x1.trans (x2.trans (x3.trans (.of_same r3 s4)))) (r3.same s4) rp
end
end OR
set_option Elab.async false
set_option linter.all false
set_option maxRecDepth 100000
set_option maxHeartbeats 2000000
/- new mutable objects: displays of dicts and lists -/
namespace OR
open PySem L2 PySem.SeqAt PyProof.Rows
def Al.add (α : Al) (p : Addr) : Al := ⟨α.adr ++ [p], α.rsv⟩
section
variable {K : PySem.W.Frag} {α : Al} {st : Store} {H : Hp} {p : Addr} {o : PObj}
theorem objAt_snoc {n : Nat} {x : PObj} (h : objAt (st ++ [o]) n = some x) : (n < st.length ∧ objAt st n = some x) ∨ (n = st.length ∧ x = o) := by
  by_cases hn : n < st.length
  · rw [objAt_old hn] at h
    exact .inl ⟨hn, h⟩
  · have hl := objAt_lt h
    rw [List.length_append, List.length_singleton] at hl
    have e : n = st.length := by omega
    subst e
    rw [objAt_new] at h
    cases h
    exact .inr ⟨rfl, rfl⟩
theorem adr_snoc {l : List Addr} {n : Nat} {a : Addr} (h : (l ++ [p])[n]? = some a) : (n < l.length ∧ l[n]? = some a) ∨ (n = l.length ∧ a = p) := by
  by_cases hn : n < l.length
  · rw [List.getElem?_append_left hn] at h
    exact .inl ⟨hn, h⟩
  · have hl := (List.getElem?_eq_some_iff.mp h).1
    rw [List.length_append, List.length_singleton] at hl
    have e : n = l.length := by omega
    subst e
    rw [List.getElem?_concat_length] at h
    cases h
    exact .inr ⟨rfl, rfl⟩
theorem live_add (hl : α.adr.length = st.length) {a : Addr} (h : Live (α.add p) (st ++ [o]) a) : a = p ∨ Live α st a := by
  rcases h with h | ⟨n, x, h1, h2, h3⟩
  · exact .inr (.inl h)
  · rcases adr_snoc h1 with ⟨g1, g2⟩ | ⟨g1, g2⟩
    · rcases objAt_snoc h2 with ⟨_, k2⟩ | ⟨k1, _⟩
      · exact .inr (.inr ⟨n, x, g2, k2, h3⟩)
      · omega
    · exact .inl g2
theorem no_seq {a : Addr} {vs : List V} (hp : H p = none) (hK : K.lookup p = none) (h : SqL K H a vs) : a ≠ p := by
  rintro rfl
  rcases h with (h | ⟨_, h⟩) | ⟨_, _, _, h, _⟩
  · rw [hp] at h; cases h
  · rw [hp] at h; cases h
  · rw [hK] at h; cases h
theorem add_ext {h' : HO} (r : RSt K α st H) (hp : H p = none) (hK : K.lookup p = none) : Ext K α st H (α.add p) (st ++ [o]) (upd H p h') := by
  have s := same_new hp h'
  refine ⟨fun n a h => ?_, fun a vs h => SqT.same s h, fun a vs h n => ⟨Same.seq s h, fun l => ?_⟩, rfl, fun a ha => ?_⟩
  · show (α.adr ++ [p])[n]? = some a
    rw [List.getElem?_append_left (List.getElem?_eq_some_iff.mp h).1]
    exact h
  · rcases live_add r.len l with e | e
    · exact no_seq hp hK h e
    · exact n e
  · obtain ⟨vs, e⟩ := r.rsv a ha
    rw [e, s _ _ e]
theorem add_rst {h' : HO} (r : RSt K α st H) (hp : H p = none) (hK : K.lookup p = none)
    (hl : ∀ xs, o = .lst xs → ∃ vs, h' = .lst vs ∧ RPs K H (Live α st) xs vs) (hd : ∀ kvs, o = .dct kvs → ∃ l, h' = .dK l ∧ RKV K H (Live α st) kvs l) : RSt K (α.add p) (st ++ [o]) (upd H p h') := by
  have s := same_new hp h'
  have ex := add_ext (o := o) (h' := h') r hp hK
  have old : ∀ {n : Nat} {a : Addr}, α.adr[n]? = some a → (α.add p).adr[n]? = some a := fun h => ex.pre _ _ h
  have new : (α.add p).adr[st.length]? = some p := by
    show (α.adr ++ [p])[st.length]? = some p
    rw [← r.len, List.getElem?_concat_length]
  have dead : ∀ {n : Nat} {x : PObj}, α.adr[n]? = some p → objAt st n = some x → x = .dead := fun {n x} h1 h2 => by
    by_cases hx : x = .dead
    · exact hx
    · exact absurd (.inr ⟨n, x, h1, h2, hx⟩) (r.notlive hp)
  refine ⟨?_, fun n xs h => ?_, fun n kvs h => ?_, fun n m a x x' hne h1 h2 h3 h4 => ?_, fun a h => ?_, fun n a x h1 h2 h3 h4 => ?_, fun a ha => ?_⟩
  · show (α.adr ++ [p]).length = (st ++ [o]).length
    rw [List.length_append, List.length_append, r.len]
    rfl
  · rcases objAt_snoc h with ⟨_, h⟩ | ⟨rfl, e⟩
    · obtain ⟨a, vs, e1, e2, e3⟩ := r.lst n xs h
      exact ⟨a, vs, old e1, s _ _ e2, ex.rps e3⟩
    · obtain ⟨vs, rfl, e3⟩ := hl xs e.symm
      exact ⟨p, vs, new, upd_same, ex.rps e3⟩
  · rcases objAt_snoc h with ⟨_, h⟩ | ⟨rfl, e⟩
    · obtain ⟨a, vs, e1, e2, e3⟩ := r.dct n kvs h
      exact ⟨a, vs, old e1, s _ _ e2, RKV.mono ex.tup ex.lst _ _ e3⟩
    · obtain ⟨l, rfl, e3⟩ := hd kvs e.symm
      exact ⟨p, l, new, upd_same, RKV.mono ex.tup ex.lst _ _ e3⟩
  · have ll := r.len
    rcases adr_snoc h1 with ⟨a1, b1⟩ | ⟨a1, rfl⟩
    · rcases objAt_snoc h3 with ⟨_, h3⟩ | ⟨z, _⟩
      · rcases adr_snoc h2 with ⟨a2, b2⟩ | ⟨a2, rfl⟩
        · rcases objAt_snoc h4 with ⟨_, h4⟩ | ⟨z, _⟩
          · exact r.inj n m a x x' hne b1 b2 h3 h4
          · omega
        · exact .inl (dead b1 h3)
      · omega
    · rcases adr_snoc h2 with ⟨a2, b2⟩ | ⟨a2, _⟩
      · rcases objAt_snoc h4 with ⟨_, h4⟩ | ⟨z, _⟩
        · exact .inr (dead b2 h4)
        · omega
      · omega
  · rcases live_add r.len h with rfl | e
    · exact hK
    · exact r.nk a e
  · have ll := r.len
    rcases adr_snoc h1 with ⟨a1, b1⟩ | ⟨a1, rfl⟩
    · rcases objAt_snoc h2 with ⟨_, h2⟩ | ⟨z, _⟩
      · exact r.dis n a x b1 h2 h3 h4
      · omega
    · obtain ⟨vs, e⟩ := r.rsv a h4
      rw [hp] at e; cases e
  · obtain ⟨vs, e⟩ := r.rsv a ha
    exact ⟨vs, s _ _ e⟩
theorem new_at (r : RSt K α st H) : (α.add p).adr[st.length]? = some p := by
  show (α.adr ++ [p])[st.length]? = some p
  rw [← r.len, List.getElem?_concat_length]
end
section
variable {X : Cx} {C : CallF} {pos : Pos} {es : List Expr} {irs : List E} {t : TA}
theorem lookup_new {pins : List (Addr × Obj)} {σ : L2.St} {H : Hp} {s : Shared} (I : Inv X pins σ H s) : X.K.lookup s.heap.objs.size = none := by
  cases e : X.K.lookup s.heap.objs.size with
  | none => rfl
  | some o => exact absurd (Heap.lt_size (I.kIn _ _ e)) (Nat.lt_irrefl _)
/-! ### dicts -/
def tDispK (K : PySem.W.Frag) (trs : List (TE × TE)) : TE := fun σ H Q => ∀ p, H p = none → K.lookup p = none → tPairs trs σ (upd H p (.dK [])) fun ps H2 => H2 p = some (.dK []) ∧ ∃ kvs : List (Key × V), ps = kvs.map (fun kv => (kV kv.1, kv.2)) ∧ kvs.length ≤ 15 ∧ Q (.ref p) (upd H2 p (.dK (mergeK [] kvs)))
theorem pe_dispK {keys : List (Option Expr)} {values : List Expr} {trs : List (TE × TE)} (h : PPs X pos keys values trs) (hall : keys.all (·.isSome) = true) (hl : keys.length = values.length) (h0 : keys ≠ [])
    (h15 : keys.length ≤ 15) : PE X (.Dict keys values pos) (tDispK X.K trs) := by
  intro pins s σ H Q I q
  have hn := I.hok.fresh (Nat.le_refl s.heap.objs.size)
  have I1 := I.laid (a := s.heap.objs.size) (o := .dK []) (h' := s.heap.push { cls := .type "dict", data := .dict #[] }) (t' := s.toks) (fun _ _ q => Heap.get?_push_of_some _ q) (Nat.le_refl _) (dk_empty s.heap I.big)
  refine wpAny_Dict_walk (knd := mixKind X.prog X.w) hall hl h0 h15 (thn (h pins _ σ _ _ I1 (q _ hn (lookup_new I))) fun ws s2 ⟨ps, H2, I2, rel, e, kvs, ep, lk, q2⟩ => ?_)
  subst ep
  obtain ⟨rs, c, rk⟩ := carries_of (P := X.prog) (w := X.w) rel
  obtain ⟨z, hd, vs0, r0, dd⟩ := dk_of I2.hok e
  cases r0
  refine ⟨rs, c, dd, fun h' dd' hs => ⟨.ref s.heap.objs.size, _, ?_, rfl, q2⟩⟩
  have hz : (mergeK [] kvs).length ≤ sizeLine := by
    have h1 := length_mergeK kvs []
    rw [List.length_nil] at h1
    rw [sizeLine_eq]; omega
  have he : ∃ q, h'.get? s.heap.objs.size = some q := let ⟨q, _, _, hq, _⟩ := dd'; ⟨q, hq⟩
  exact d_write I2 (by rw [e]; exact True.intro) hs he (dk_new hz hd (rk.merge .nil) dd')
def keyF : PV → Key
  | .int i => .inl i
  | .str cs => .inr ⟨cs.toArray⟩
  | _ => .inl 0
def prs (K : PySem.W.Frag) (C : CallF) : List PV → List E → List (TE × TE)
  | k :: ks, i :: is => (tC (kV (keyF k)), tP K C i) :: prs K C ks is
  | _, _ => []
theorem sp_nil : PPs X pos [] [] (prs X.K C [] []) := pps_nil
theorem sp_cons {k v : Expr} {ks : List (Option Expr)} {vs : List Expr} {pk : PV} {iv : E} {pks : List PV} (hk : PE X k (tC (kV (keyF pk)))) (hv : SE X C v iv) (hr : PPs X pos ks vs (prs X.K C pks irs)) :
    PPs X pos (some k :: ks) (v :: vs) (prs X.K C (pk :: pks) (iv :: irs)) := pps_cons hk hv hr
theorem sk_str {x : Str} {j} {cs : List Nat} (h : x = ⟨cs.toArray⟩) : PE X (.Constant (.str x) j pos) (tC (kV (keyF (.str cs)))) := by subst h; exact pe_str
theorem sk_int {i : Int} {j} : PE X (.Constant (.int i) j pos) (tC (kV (keyF (.int i)))) := pe_int
theorem pairs_read {K : PySem.W.Frag} : ∀ {ks : List PV} {irs : List E} {env : Env} {α : Al} {st st' : Store} {xs : List PV} {σ : L2.St} {H : Hp} {Q : List (V × V) → Hp → Prop}, At K α st H env σ → ks.length = irs.length → evalPs C irs env st = .ok xs st' →
    (∀ ps H' α', Ext K α st H α' st' H' → RSt K α' st' H' → (∃ ws, ps = (ks.zip ws).map (fun kv => (kV (keyF kv.1), kv.2)) ∧ RPs K H' (Live α' st') xs ws) → Q ps H') → tPairs (prs K C ks irs) σ H Q
  | [], [], env, α, st, st', xs, σ, H, Q, at', _, e, q => by
    rw [evPs_nil] at e
    cases e
    exact q [] H α .refl at'.rs ⟨[], rfl, by rw [RPs]⟩
  | k :: ks, i :: is, env, α, st, st', xs, σ, H, Q, at', hl, e, q => by
    rw [evPs_cons] at e
    obtain ⟨x, st1, e1, e⟩ := Res.bindP_inv e
    obtain ⟨ys, st2, e2, e⟩ := Res.bind_inv e
    cases e
    refine ⟨env, α, st, _, st1, at', e1, fun w H1 α1 x1 r1 v1 => ?_⟩
    refine pairs_read (at'.next x1 r1) (by simpa using hl) e2 fun ps H2 α2 x2 r2 ⟨ws, hps, rp⟩ => ?_
    refine q _ H2 α2 (x1.trans x2) r2 ⟨w :: ws, by rw [hps]; rfl, ?_⟩
    rw [RPs]
    exact ⟨w, ws, rfl, x2.rp v1, rp⟩
  | [], _ :: _, _, _, _, _, _, _, _, _, _, hl, _, _ => by cases hl
  | _ :: _, [], _, _, _, _, _, _, _, _, _, hl, _, _ => by cases hl
theorem rkv_merge {K : PySem.W.Frag} {H : Hp} {lv : Addr → Prop} : ∀ {ks xs : List PV} {ws : List V} {d : List (PV × PV)} {l : List (Key × V)}, (∀ k ∈ ks, isKey k = true) → RPs K H lv xs ws → RKV K H lv d l →
    RKV K H lv ((ks.zip xs).foldl (fun d p => dPut p.1 p.2 d) d) (mergeK l ((ks.zip ws).map fun kv => (keyF kv.1, kv.2)))
  | [], xs, ws, d, l, _, _, h => by
    rw [List.zip_nil_left, List.zip_nil_left]
    exact h
  | k :: ks, [], ws, d, l, hk, hx, h => by
    rw [RPs] at hx
    subst hx
    exact h
  | k :: ks, x :: xs, ws, d, l, hk, hx, h => by
    rw [RPs] at hx
    obtain ⟨w, wr, rfl, h1, h2⟩ := hx
    have hkk : keyOf k = some (keyF k) := by
      have := hk k (List.mem_cons_self ..)
      cases k <;> first | rfl | cases this
    exact rkv_merge (ks := ks) (xs := xs) (ws := wr) (d := dPut k x d) (l := putK l (keyF k) w) (fun k' hk' => hk k' (List.mem_cons_of_mem _ hk')) h2 (rkv_put hkk h1 h)
theorem se_dict {keys : List (Option Expr)} {values : List Expr} {ks : List PV} (h : PPs X pos keys values (prs X.K C ks irs)) (hk : ks.all isKey = true) (hl1 : ks.length = irs.length) (hall : keys.all (·.isSome) = true) (hl : keys.length = values.length) (h0 : keys ≠ [])
    (h15 : keys.length ≤ 15) (hks : ks.length ≤ 15) : SE X C (.Dict keys values pos) (.dict ks irs) :=
  PE.mono (pe_dispK h hall hl h0 h15) fun σ H Q ⟨env, α, st, v, st', at', e, q⟩ => by
    rw [ev_dict] at e
    obtain ⟨xs, st1, e1, e⟩ := Res.bind_inv e
    intro p hp hK
    have ex0 := add_ext (o := .dct []) (h' := .dK []) at'.rs hp hK
    have rs0 := add_rst (o := .dct []) (h' := .dK []) at'.rs hp hK (fun xs z => by cases z) (fun kvs z => by cases z; exact ⟨[], rfl, by rw [RKV]⟩)
    refine pairs_read (at'.next ex0 rs0) hl1 e1 fun ps H2 α2 x2 r2 ⟨ws, e2, rp⟩ => ?_
    have ha : α2.adr[st.length]? = some p := x2.pre _ _ (new_at at'.rs)
    have e : (match objAt st1 st.length with | some (.dct []) => Res.ok (Val.ref st.length) (st1.set st.length (.dct ((ks.zip xs).foldl (fun (d : List (PV × PV)) (p : PV × PV) => dPut p.1 p.2 d) []))) | _ => .stuck) = .ok v st' := e
    cases hob : objAt st1 st.length with
    | none => rw [hob] at e; cases e
    | some ob =>
      rw [hob] at e
      cases ob with
      | lst _ => cases e
      | dead => cases e
      | dct kv0 =>
        cases kv0 with
        | cons _ _ => cases e
        | nil =>
          cases e
          obtain ⟨a', l, g1, g2, g3⟩ := r2.dct st.length [] hob
          rw [ha] at g1; cases g1
          rw [RKV] at g3
          subst g3
          have hk' : ∀ k ∈ ks, isKey k = true := List.all_eq_true.mp hk
          have nd : ∀ d, PObj.dct d ≠ .dead := fun d z => by cases z
          have ex2 := set_ext (o' := .dct ((ks.zip xs).foldl (fun d p => dPut p.1 p.2 d) [])) (h' := .dK (mergeK [] ((ks.zip ws).map fun kv => (keyF kv.1, kv.2)))) r2 ha hob (nd _) (nd _)
          have rs2 := set_rst (o' := .dct ((ks.zip xs).foldl (fun d p => dPut p.1 p.2 d) [])) (h' := .dK (mergeK [] ((ks.zip ws).map fun kv => (keyF kv.1, kv.2)))) r2 ha hob (nd _) (nd _) (fun xs z => by cases z) (fun kvs z => by cases z; exact ⟨_, rfl, rkv_merge hk' rp (by rw [RKV])⟩)
          refine ⟨g2, (ks.zip ws).map (fun kv => (keyF kv.1, kv.2)), by rw [e2, List.map_map]; rfl, ?_, ?_⟩
          · rw [List.length_map, List.length_zip]
            omega
          · exact q _ _ α2 (ex0.trans (x2.trans ex2)) rs2 ⟨p, rfl, ha⟩
/-! ### lists that will be changed -/
def tLstK (K : PySem.W.Frag) (t : TA) : TE := fun σ H Q => t σ H fun xs H1 => xs.length ≤ sizeLine ∧ ∀ p, H1 p = none → K.lookup p = none → Q (.ref p) (upd H1 p (.lst xs))
theorem pe_lstK (h : PA X es t) : PE X (.List es pos) (tLstK X.K t) := by
  intro pins s σ H Q I hq
  refine wpAny_List_spliced (thn (h pos pins s σ H _ I hq) fun us s1 ⟨xs, H1, I1, r, z, q⟩ => ⟨by rw [← r.length]; exact z, ?_⟩)
  have hf : H1 s1.heap.objs.size = none := I1.hok.fresh (Nat.le_refl _)
  refine ⟨.ref s1.heap.objs.size, upd H1 s1.heap.objs.size (.lst xs), I1.laid (t' := s1.toks) (fun b u e => Heap.get?_push_of_some _ e) (Nat.le_refl _) ?_, rfl, q _ hf (lookup_new I1)⟩
  exact ⟨z, us, 0, r, Heap.get?_push_size _ rfl⟩
theorem se_lstM (h : SA X C es irs) (hl : es.length ≤ 1000) (hi : irs.length = es.length) : SE X C (.List es pos) (.list true irs) :=
  PE.mono (pe_lstK h) fun σ H Q ⟨env, α, st, v, st', at', e, q⟩ => by
    rw [ev_list] at e
    obtain ⟨xs, st1, e1, e⟩ := Res.bind_inv e
    simp only [mk, if_true] at e
    cases e
    refine ⟨env, α, st, _, st1, at', evPs_of e1, fun ws H1 α1 x1 r1 p => ?_⟩
    have rp := rps_of p
    refine ⟨?_, fun a ha hK => ?_⟩
    · rw [← rp.length, evPs_len e1, hi]
      exact Nat.le_trans hl (by decide)
    · have ex := add_ext (o := .lst xs) (h' := .lst ws) r1 ha hK
      have rs := add_rst (o := .lst xs) (h' := .lst ws) r1 ha hK (fun ys z => by cases z; exact ⟨ws, rfl, rp⟩) (fun kvs z => by cases z)
      exact q _ _ _ (x1.trans ex) rs ⟨a, rfl, new_at r1⟩
end
end OR
set_option Elab.async false
set_option linter.all false
set_option maxRecDepth 100000
set_option maxHeartbeats 2000000
/- methods of texts without arguments; join -/
namespace OR
open PySem L2 PySem.SeqAt PyProof.Rows
open PySem.Builtin PySem.Builtin.Str
section
variable {X : Cx} {C : CallF} {o : Expr} {io : E} {apos cpos : Pos} {name : Str} {id : String} {m : Mt}
theorem se_mtS0 {g : PV → List PV → Option PV} (slot : Slot "str" name id) (hty : typeOf (.builtin id) = pure (.type "method_descriptor")) (hm : MtS X id g) (ho : SE X C o io)
    (hg : ∀ v st, methN m v [] st = (match view st v with | some x => okO (g x []) st | none => .stuck)) (hstr : ∀ x xs z, g x xs = some z → ∃ cs, x = .str cs)
    (hbase : attributeBase o name X.env (eval o X.env) = eval o X.env := by rfl) (hline : (apos.endLine == cpos.line) = true := by rfl) :
    SE X C (.Call (.Attribute o name apos) [] [] cpos) (.meth m io []) :=
  PE.mono (pe_bm0 PySem.F.plainAttrs_str slot hty hm ho hbase hline) fun σ H Q ⟨env, α, st, v, st', at', e, q⟩ => by
    rw [ev_meth] at e
    obtain ⟨ov, st1, e1, e⟩ := Res.bind_inv e
    obtain ⟨_, st0, e0, e⟩ := Res.bind_inv e
    obtain ⟨⟨x0, hv0⟩, hst⟩ := seen_inv e0
    rw [hst] at e
    obtain ⟨vs, st2, e2, e⟩ := Res.bind_inv e
    rw [evEs_nil] at e2
    cases e2
    rw [hg] at e
    cases hx : view st1 ov with
    | none => rw [hx] at e; cases e
    | some x =>
      rw [hx] at e
      obtain ⟨z, h1, h2, h3⟩ := okO_inv e
      subst h2 h3
      obtain ⟨cs, rfl⟩ := hstr _ _ _ h1
      refine ⟨env, α, st, _, st', at', e1, fun w H1 α1 x1 r1 v1 => ?_⟩
      have hw := v1.view r1 hx
      obtain ⟨ew, hl⟩ := hw.str
      subst ew
      exact ⟨rfl, α1, st', .str cs, [], z, r1, hw, .nil, h1, fun w H3 s3 rp => q w H3 α1 (x1.trans (.of_same r1 s3)) (r1.same s3) rp⟩
theorem strs_of : ∀ {xs : List PV} {ls : List (List Nat)}, strsOf xs = some ls → xs = ls.map .str
  | [], ls, h => by cases h; rfl
  | .str c :: r, ls, h => by
    have h : (strsOf r).map (c :: ·) = some ls := h
    obtain ⟨l, h1, rfl⟩ := Option.map_eq_some_iff.mp h
    rw [strs_of h1]; rfl
  | .non :: _, _, h => by cases h
  | .bl _ :: _, _, h => by cases h
  | .int _ :: _, _, h => by cases h
  | .tup _ :: _, _, h => by cases h
  | .lst _ :: _, _, h => by cases h
def txt (cs : List Nat) : Str := ⟨cs.toArray⟩
theorem rps_strs {K : PySem.W.Frag} {H : Hp} {lv : Addr → Prop} : ∀ {ls : List (List Nat)} {vs : List V}, RPs K H lv (ls.map .str) vs → vs = ls.map fun c => V.str (txt c)
  | [], vs, h => by rw [List.map_nil, RPs] at h; exact h
  | c :: r, vs, h => by
    rw [List.map_cons, RPs] at h
    obtain ⟨v, vr, rfl, h1, h2⟩ := h
    rw [RP] at h1
    rw [h1.1, rps_strs h2]
    rfl
theorem vals_strs : ∀ {ls : List (List Nat)} {its : List Value}, Vals (ls.map fun c => V.str (txt c)) its → StrsAre its (ls.map txt)
  | [], its, h => by rw [List.map_nil] at h; cases h; exact .nil
  | c :: r, its, h => by
    rw [List.map_cons] at h
    cases h with
    | cons h1 h2 =>
      obtain ⟨t, rfl⟩ := h1
      exact .cons _ t (vals_strs h2)
theorem join_txt (sep : List Nat) : ∀ ls : List (List Nat), Str.join (txt sep) (ls.map txt) = txt (joinS sep ls)
  | [] => rfl
  | [x] => rfl
  | x :: y :: r => by
    have ih := join_txt sep (y :: r)
    show txt x ++ txt sep ++ Str.join (txt sep) ((y :: r).map txt) = txt (x ++ sep ++ joinS sep (y :: r))
    rw [ih]
    show (⟨(x.toArray ++ sep.toArray) ++ (joinS sep (y :: r)).toArray⟩ : Str) = ⟨(x ++ sep ++ joinS sep (y :: r)).toArray⟩
    simp
theorem joinS_len (sep : List Nat) : ∀ ls : List (List Nat), (joinS sep ls).length ≤ (ls.map List.length).sum + ls.length * sep.length
  | [] => Nat.zero_le _
  | [x] => by simp [joinS]
  | x :: y :: r => by
    have ih := joinS_len sep (y :: r)
    have e : joinS sep (x :: y :: r) = x ++ sep ++ joinS sep (y :: r) := rfl
    rw [e, List.length_append, List.length_append, List.map_cons, List.sum_cons, List.length_cons (as := y :: r), Nat.add_mul]
    omega
theorem SZ_val : SZ = 16777216 := by unfold SZ; rfl
theorem m_join : MtS X "str.join" mJoin := by
  intro pins s σ H x ws v us Q I rx rs ⟨α, st, px, xs, z, r, hx, pr, hz, q⟩
  cases px with
  | str sep =>
    cases pr with
    | nil => cases hz
    | cons h t =>
      cases t with
      | cons _ _ => rename_i y _ _ _ _ _ _ _; cases y <;> cases hz
      | nil =>
        rename_i y w
        cases y with
        | lst l =>
          have hz : (match strsOf l with | some l => if (l.map List.length).sum + l.length * sep.length ≤ SZ then some (PV.str (joinS sep l)) else none | none => none) = some z := hz
          cases hs : strsOf l with
          | none => rw [hs] at hz; cases hz
          | some ls =>
            rw [hs] at hz
            by_cases hc : (ls.map List.length).sum + ls.length * sep.length ≤ SZ
            · have hz : (if (ls.map List.length).sum + ls.length * sep.length ≤ SZ then some (PV.str (joinS sep ls)) else none) = some z := hz
              rw [if_pos hc] at hz
              have ez : PV.str (joinS sep ls) = z := Option.some.inj hz
              have el := strs_of hs
              subst el
              obtain ⟨e1, _⟩ := hx.str
              subst e1
              obtain ⟨t1, rfl⟩ := rx
              obtain ⟨a, vs, rfl, h1, h2⟩ := h.lst
              cases rs with
              | cons ra rt =>
                cases rt
                obtain rfl := (show _ = Value.ref a from ra)
                obtain ⟨its, r1, p, _⟩ := I.list h1
                have ev := rps_strs h2
                subst ev
                have sa := vals_strs r1
                have hm : ((ls.map txt).map (·.length)) = ls.map List.length := by
                  rw [List.map_map]
                  exact List.map_congr_left fun c _ => str_len c
                have hok : ((ls.map txt).map (·.length)).sum + (ls.map txt).length * (Str.length ⟨sep.toArray⟩) ≤ 16777216 := by
                  rw [hm, List.length_map, str_len, ← SZ_val]
                  exact hc
                refine join_list p.isList sa hok fun t' k => ?_
                have ej : Txt.join ⟨sep.toArray⟩ (ls.map txt) = txt (joinS sep ls) := (PySem.StrLaws.glued_eq_join _ _).trans (join_txt sep ls)
                rw [ej]
                refine ⟨.str _, H, I.tok _, ⟨_, rfl⟩, q _ _ (Same.refl H) ?_⟩
                rw [← ez, RP]
                refine ⟨rfl, Nat.le_trans (joinS_len sep ls) ?_⟩
                rw [SZ_val] at hc
                rw [sizeLine_eq]
                exact hc
            · have hz : (if (ls.map List.length).sum + ls.length * sep.length ≤ SZ then some (PV.str (joinS sep ls)) else none) = some z := hz
              rw [if_neg hc] at hz; cases hz
        | _ => cases hz
  | _ => cases hz
end
end OR
set_option Elab.async false
set_option linter.all false
set_option maxRecDepth 100000
set_option maxHeartbeats 2000000
/- short words for derivations; blocks' names; a module's constants -/
namespace OR
open PySem L2 PySem.SeqAt PyProof.Rows
def relabel' (scope up : Scope) : List (Str × NameKind) := scope.names.map fun (n, k) => if (k == .free && up.kind == .function && up.names.lookup n == some .cell) then (n, .cell) else (n, k)
def capOk (XN : List Str) (sc : Scope) : List Nat → List Str → Bool
  | [], _ => true
  | i :: caps, x :: N => decide (XN[i]? = some x) && decide (sc.names.lookup x = some .free) && capOk XN sc caps N
  | _ :: _, [] => false
def compChk (XN : List Str) (up scope : Scope) (N : List Str) (caps : List Nat) (n : Nat) : Bool :=
  decide (scope.kind = .function) && scope.names.all (fun x => decide (x.2 ≠ .local) || decide (scope.names.lookup x.1 = some .local)) && scope.names.all (fun x => decide (x.2 ≠ .cell))
  && scope.names.all (fun x => decide (x.2 ≠ .free) || decide (up.names.lookup x.1 = some .cell) || decide (up.names.lookup x.1 = some .free))
  && scope.names.all (fun x => decide (x.2 ≠ .free) || decide ((relabel' scope up).lookup x.1 = some .cell) || decide ((relabel' scope up).lookup x.1 = some .free))
  && (relabel' scope up).all (fun x => (decide (x.2 ≠ .cell) && decide (x.2 ≠ .free)) || decide ((x.1, NameKind.free) ∈ scope.names))
  && capOk XN scope caps N && decide (N.length = caps.length + n)
theorem cap_at {XN : List Str} {sc : Scope} : ∀ {caps : List Nat} {N : List Str}, capOk XN sc caps N = true → ∀ (j i : Nat), caps[j]? = some i → ∃ x, N[j]? = some x ∧ XN[i]? = some x ∧ sc.names.lookup x = some .free
  | [], _, _, j, i, e => by simp at e
  | k :: caps, [], h, _, _, _ => by cases h
  | k :: caps, x :: N, h, j, i, e => by
    unfold capOk at h
    rw [Bool.and_eq_true, Bool.and_eq_true] at h
    obtain ⟨⟨h1, h2⟩, h3⟩ := h
    cases j with
    | zero => simp at e; subst e; exact ⟨x, rfl, of_decide_eq_true h1, of_decide_eq_true h2⟩
    | succ j => simpa using cap_at h3 j i (by simpa using e)
theorem compOk_of {X : Cx} {up scope : Scope} {XN N : List Str} {caps : List Nat} {n : Nat} (hu : X.env.scope = up) (hN : X.N = XN) (h : compChk XN up scope N caps n = true) : CompOk X scope N caps n := by
  subst hu hN
  unfold compChk at h
  rw [Bool.and_eq_true, Bool.and_eq_true, Bool.and_eq_true, Bool.and_eq_true, Bool.and_eq_true, Bool.and_eq_true, Bool.and_eq_true] at h
  obtain ⟨⟨⟨⟨⟨⟨⟨h1, h2⟩, h3⟩, h4⟩, h5⟩, h6⟩, h7⟩, h8⟩ := h
  rw [List.all_eq_true] at h2 h3 h4 h5 h6
  have rl : (relabel scope X.env).names = relabel' scope X.env.scope := rfl
  refine ⟨of_decide_eq_true h1, fun x hx e => ?_, fun x hx => of_decide_eq_true (h3 x hx), fun x hx e => ?_, fun x e => ?_, fun x e => ?_, cap_at h7, of_decide_eq_true h8⟩
  · have := h2 x hx
    rw [Bool.or_eq_true] at this
    rcases this with z | z
    · exact absurd e (of_decide_eq_true z)
    · exact of_decide_eq_true z
  · have := h4 x hx
    rw [Bool.or_eq_true, Bool.or_eq_true] at this
    rcases this with (z | z) | z
    · exact absurd e (of_decide_eq_true z)
    · exact .inl (of_decide_eq_true z)
    · exact .inr (of_decide_eq_true z)
  · have := h5 (x, .free) (mem_of_look e)
    rw [Bool.or_eq_true, Bool.or_eq_true] at this
    rcases this with (z | z) | z
    · exact absurd rfl (of_decide_eq_true z)
    · exact ⟨_, by rw [rl]; exact of_decide_eq_true z, .inl rfl⟩
    · exact ⟨_, by rw [rl]; exact of_decide_eq_true z, .inr rfl⟩
  · rw [rl] at e
    rcases e with e | e
    · have := h6 (x, .cell) (mem_of_look e)
      rw [Bool.or_eq_true, Bool.and_eq_true] at this
      rcases this with z | z
      · exact absurd rfl (of_decide_eq_true z.1)
      · exact of_decide_eq_true z
    · have := h6 (x, .free) (mem_of_look e)
      rw [Bool.or_eq_true, Bool.and_eq_true] at this
      rcases this with z | z
      · exact absurd rfl (of_decide_eq_true z.2)
      · exact of_decide_eq_true z
section
variable {X : Cx} {C : CallF}
theorem sv (i : Nat) {x : Str} {pos : Pos} (hN : X.N[i]? = some x := by rfl) (hv : Vis X.env.scope x := by first | exact Or.inl rfl | exact Or.inr (Or.inl rfl) | exact Or.inr (Or.inr rfl)) (hd : (x == ("__debug__" : Str)) = false := by decide)
    (hcd : (x == ("__classdict__" : Str)) = false := by decide) : SE X C (.Name x pos) (.var i) := se_var hN hv hd hcd
theorem pts0 : PTs X [] (tTs X.K C none) := pts_nil
theorem pts1 {c : Expr} {ic : E} (h : ST X C c ic) : PTs X [c] (tTs X.K C (some ic)) := pts_one h
/-- a text at the top -/
theorem se_gs {x : Str} {y : Str} {t : Tok} {pos : Pos} {cs : List Nat} (hg : Gl X x) (hm : X.mg x = some (.str y t)) (h : y = ⟨cs.toArray⟩) (hl : cs.length ≤ 1000) (hd : (x == ("__debug__" : Str)) = false := by decide) : SE X C (.Name x pos) (.const (.str cs)) :=
  se_c (v := .str y) (pe_glob hg hm ⟨t, rfl⟩ hd) fun _ _ => by rw [RP]; exact ⟨by rw [h], Nat.le_trans hl (by decide)⟩
theorem se_gi {x : Str} {i : Int} {t : Tok} {pos : Pos} (hg : Gl X x) (hm : X.mg x = some (.int i t)) (hd : (x == ("__debug__" : Str)) = false := by decide) : SE X C (.Name x pos) (.const (.int i)) :=
  se_c (v := .int i) (pe_glob hg hm ⟨t, rfl⟩ hd) fun _ _ => by rw [RP]
/-- texts written at the top, as items of a tuple there -/
def strItems : List (List Nat) → List Tok → List Value
  | c :: cs, t :: ts => .str ⟨c.toArray⟩ t :: strItems cs ts
  | _, _ => []
theorem se_gt {x : Str} {a : Addr} {pos : Pos} {od : Option Addr} {its : Array Value} {n : Nat} {sl : Array (Option Value)} {oc : Value} {cs : List (List Nat)} {ts : List Tok} (hg : Gl X x) (hm : X.mg x = some (.ref a)) (hk : X.K.lookup a = some ⟨oc, od, .seq its n, sl⟩) (hoc : oc = .type "tuple")
    (hi : its.toList = strItems cs ts) (hts : ts.length = cs.length) (hl : cs.length ≤ 1000) (hcs : cs.all (fun c => decide (c.length ≤ 1000)) = true) (hd : (x == ("__debug__" : Str)) = false := by decide) : SE X C (.Name x pos) (.const (.tup (cs.map .str))) :=
  se_c (v := .ref a) (pe_glob hg hm rfl hd) fun H lv => by
    subst hoc
    have vs : ∀ {cs : List (List Nat)} {ts : List Tok}, ts.length = cs.length → Vals (cs.map fun c => V.str ⟨c.toArray⟩) (strItems cs ts) := by
      intro cs
      induction cs with
      | nil => intro ts h; cases ts; exact .nil; cases h
      | cons c cs ih =>
        intro ts h
        cases ts with
        | nil => cases h
        | cons t ts => exact .cons ⟨t, rfl⟩ (ih (by simpa using h))
    have rp : ∀ {cs : List (List Nat)}, cs.all (fun c => decide (c.length ≤ 1000)) = true → RPs X.K H lv (cs.map .str) (cs.map fun c => V.str ⟨c.toArray⟩) := by
      intro cs
      induction cs with
      | nil => intro _; rw [List.map_nil, List.map_nil, RPs]
      | cons c cs ih =>
        intro h
        rw [List.all_cons, Bool.and_eq_true] at h
        rw [List.map_cons, List.map_cons, RPs]
        exact ⟨_, _, rfl, by rw [RP]; exact ⟨rfl, Nat.le_trans (of_decide_eq_true h.1) (by decide)⟩, ih h.2⟩
    have sl' : ∀ {cs : List (List Nat)} {ts : List Tok}, ts.length = cs.length → (strItems cs ts).length = cs.length := by
      intro cs
      induction cs with
      | nil => intro ts h; cases ts; rfl; cases h
      | cons c cs ih =>
        intro ts h
        cases ts with
        | nil => cases h
        | cons t ts => show (strItems cs ts).length + 1 = cs.length + 1; rw [ih (by simpa using h)]
    rw [RP]
    refine ⟨a, _, rfl, .inr ⟨_, its, n, hk, rfl, rfl, ?_, by rw [hi]; exact vs hts⟩, rp hcs⟩
    rw [← Array.length_toList, hi, sl' hts]
    exact Nat.le_trans hl (by decide)
end
end OR
namespace OR
theorem cB_int (p : Int → Int → Bool) : ∀ x y z, cInt p x y = some z → ∃ k, z = PV.bl k := by
  intro x y z h
  cases x <;> cases y <;> simp only [cInt, reduceCtorEq, Option.some.injEq] at h
  exact ⟨_, h.symm⟩
theorem g_find (v : Val) (vs : List Val) (st : Store) : methN .find v vs st = (match views st vs with | some xs => (match view st v with | some x => okO (mFind x xs) st | none => .stuck) | none => .stuck) := by
  show (match views st vs with | some xs => methOp .find v xs st | none => .stuck) = _
  cases views st vs with
  | none => rfl
  | some xs => rfl
theorem q_find : ∀ x xs z, mFind x xs = some z → ∃ cs, x = .str cs := by
  intro x xs z h
  cases x <;> first | exact ⟨_, rfl⟩ | cases h
theorem g_join (v : Val) (vs : List Val) (st : Store) : methN .join v vs st = (match views st vs with | some xs => (match view st v with | some x => okO (mJoin x xs) st | none => .stuck) | none => .stuck) := by
  show (match views st vs with | some xs => methOp .join v xs st | none => .stuck) = _
  cases views st vs with
  | none => rfl
  | some xs => rfl
theorem q_join : ∀ x xs z, mJoin x xs = some z → ∃ cs, x = .str cs := by
  intro x xs z h
  cases x <;> first | exact ⟨_, rfl⟩ | cases h
theorem g_upper (v : Val) (st : Store) : methN .upper v [] st = (match view st v with | some x => okO (mUpper x []) st | none => .stuck) := rfl
theorem q_upper : ∀ x xs z, mUpper x xs = some z → ∃ cs, x = .str cs := by
  intro x xs z h
  cases x <;> first | exact ⟨_, rfl⟩ | cases h
end OR
namespace OR
open PySem L2 PySem.SeqAt PyProof.Rows
/-! ### the law's call -/
def al0 : Al := ⟨[], fun _ => False⟩
theorem start_rst {K : PySem.W.Frag} {H : Hp} : RSt K al0 [] H := by
  have no : ∀ {n : Nat} {o : PObj}, objAt [] n = some o → False := fun {n o} h => by unfold objAt at h; simp at h
  refine ⟨rfl, fun n xs h => (no h).elim, fun n kvs h => (no h).elim, fun n m a o o' _ _ _ h _ => (no h).elim, fun a h => ?_, fun n a o _ h _ => (no h).elim, fun a h => h.elim⟩
  rcases h with h | ⟨n, o, _, h, _⟩
  · exact h.elim
  · exact (no h).elim
theorem rps_of_ints {K : PySem.W.Frag} {H : Hp} {lv : Addr → Prop} : ∀ ns : List Int, RPs K H lv (ns.map .int) (ns.map .int)
  | [] => by rw [List.map_nil, List.map_nil, RPs]
  | i :: r => by rw [List.map_cons, List.map_cons, RPs]; exact ⟨_, _, rfl, by rw [RP], rps_of_ints r⟩
theorem script_at {K : PySem.W.Frag} {H : Hp} {a : Addr} {ns : List Int} (h : SqL K H a (ns.map V.int)) : Paired (RV K al0 [] H) [.p (.lst (ns.map .int))] [.ref a] := by
  refine .cons ?_ .nil
  show RP K H (Live al0 []) (.lst (ns.map .int)) (.ref a)
  rw [RP]
  refine ⟨a, _, rfl, h, fun l => ?_, rps_of_ints ns⟩
  rcases l with l | ⟨n, o, _, l, _⟩
  · exact l
  · unfold objAt at l; simp at l
end OR
set_option Elab.async false
set_option linter.all false
set_option maxRecDepth 100000
set_option maxHeartbeats 4000000
namespace K01
open PySem L2 OR PySem.SeqAt PyProof.Rows
def top (i : Nat) : Stmt := PySem.Challenge.pw_onlyrise_k01_names_and_marks.main.body.getD i (.Pass ⟨0, 0, 0, 0⟩)
abbrev s_is_name : Stmt := top 3
abbrev s_is_mark : Stmt := top 4
abbrev s_law_well : Stmt := top 6
abbrev s_law_draw : Stmt := top 7
abbrev s_law_is_name : Stmt := top 8
abbrev s_law_right : Stmt := top 9
abbrev s_law : Stmt := top 10
theorem sc_is_name : FnScope ["thing"] ["thing"] (defScope s_is_name) := ⟨rfl, rfl, rfl, by decide +kernel, rfl, by decide +kernel, by decide +kernel⟩
theorem sc_is_mark : FnScope ["thing"] ["thing"] (defScope s_is_mark) := ⟨rfl, rfl, rfl, by decide +kernel, rfl, by decide +kernel, by decide +kernel⟩
theorem sc_law_well : FnScope ["_law_script", "_law_k", "_law_cell"] ["_law_script", "_law_k"] (defScope s_law_well) := ⟨rfl, rfl, rfl, by decide +kernel, rfl, by decide +kernel, by decide +kernel⟩
theorem sc_law_draw : FnScope ["_law_well_here", "_law_many", "_law_turn", "_law_left", "_law_here", "_law_mixed"] ["_law_well_here", "_law_many"] (defScope s_law_draw) := ⟨rfl, rfl, rfl, by decide +kernel, rfl, by decide +kernel, by decide +kernel⟩
theorem sc_law_is_name : FnScope ["_law_thing"] ["_law_thing"] (defScope s_law_is_name) := ⟨rfl, rfl, rfl, by decide +kernel, rfl, by decide +kernel, by decide +kernel⟩
theorem sc_law_right : FnScope ["_law_thing", "_law_due", "_law_marked"] ["_law_thing"] (defScope s_law_right) := ⟨rfl, rfl, rfl, by decide +kernel, rfl, by decide +kernel, by decide +kernel⟩
theorem sc_law : FnScope ["_law_script", "_law_signs", "_law_odd", "_law_k", "_law_well_here", "_law_size", "_law_text", "_law_at", "_law_sign", "_law_one", "_law_some", "_law_thing"] ["_law_script"] (defScope s_law) := ⟨rfl, rfl, rfl, by decide +kernel, rfl, by decide +kernel, by decide +kernel⟩
theorem nd0 : (["sign"] : List Str).Nodup := by decide +kernel
theorem nd1 : (["_law_sign"] : List Str).Nodup := by decide +kernel
theorem nd2 : (["_law_signs", "_law_well_here", "_law_j"] : List Str).Nodup := by decide +kernel
theorem bb_all : bootBuiltins "all" = some (.builtin "all") := by decide +kernel
theorem bb_int : bootBuiltins "int" = some (.type "int") := by decide +kernel
theorem bb_isinstance : bootBuiltins "isinstance" = some (.builtin "isinstance") := by decide +kernel
theorem bb_len : bootBuiltins "len" = some (.builtin "len") := by decide +kernel
theorem bb_max : bootBuiltins "max" = some (.builtin "max") := by decide +kernel
theorem bb_min : bootBuiltins "min" = some (.builtin "min") := by decide +kernel
theorem bb_repr : bootBuiltins "repr" = some (.builtin "repr") := by decide +kernel
theorem bb_str : bootBuiltins "str" = some (.type "str") := by decide +kernel
/-- what stands at the top -/
structure Md (K : PySem.W.Frag) (mg : Str → Option Value) (f : Nat → Addr) (fd : Nat → FuncData) : Prop where
  m0 : mg "is_name" = some (.ref (f 0))
  F0 : Fun K "is_name" "is_name" s_is_name (f 0) (fd 0)
  b0 : Binds K (fd 0) ["thing"] []
  m1 : mg "is_mark" = some (.ref (f 1))
  F1 : Fun K "is_mark" "is_mark" s_is_mark (f 1) (fd 1)
  b1 : Binds K (fd 1) ["thing"] []
  m2 : mg "_law_well" = some (.ref (f 2))
  F2 : Fun K "_law_well" "_law_well" s_law_well (f 2) (fd 2)
  b2 : Binds K (fd 2) ["_law_script", "_law_k"] []
  m3 : mg "_law_draw" = some (.ref (f 3))
  F3 : Fun K "_law_draw" "_law_draw" s_law_draw (f 3) (fd 3)
  b3 : Binds K (fd 3) ["_law_well_here", "_law_many"] []
  m4 : mg "_law_is_name" = some (.ref (f 4))
  F4 : Fun K "_law_is_name" "_law_is_name" s_law_is_name (f 4) (fd 4)
  b4 : Binds K (fd 4) ["_law_thing"] []
  m5 : mg "_law_right" = some (.ref (f 5))
  F5 : Fun K "_law_right" "_law_right" s_law_right (f 5) (fd 5)
  b5 : Binds K (fd 5) ["_law_thing"] []
  m6 : mg "law" = some (.ref (f 6))
  F6 : Fun K "law" "law" s_law (f 6) (fd 6)
  b6 : Binds K (fd 6) ["_law_script"] []
  z_all : mg "all" = none
  z_int : mg "int" = none
  z_isinstance : mg "isinstance" = none
  z_len : mg "len" = none
  z_max : mg "max" = none
  z_min : mg "min" = none
  z_range : mg "range" = none
  z_repr : mg "repr" = none
  z_str : mg "str" = none
  c_MARKS : ∀ {X : Cx} {C : CallF} {pos : Pos}, X.K = K → X.mg = mg → Gl X "MARKS" → SE X C (.Name "MARKS" pos) (.const (.tup [(.str [65]), (.str [66]), (.str [67]), (.str [68]), (.str [69]), (.str [70])]))
  c_SMALL_LETTERS : ∀ {X : Cx} {C : CallF} {pos : Pos}, X.K = K → X.mg = mg → Gl X "SMALL_LETTERS" → SE X C (.Name "SMALL_LETTERS" pos) (.const (.str [97, 98, 99, 100, 101, 102, 103, 104, 105, 106, 107, 108, 109, 110, 111, 112, 113, 114, 115, 116, 117, 118, 119, 120, 121, 122]))
structure Ih (P : Program) (w : World) (K : PySem.W.Frag) (mg : Str → Option Value) (base : Heap) (f : Nat → Addr) (fd : Nat → FuncData) (W d : Nat) : Prop where
  h0 : FnOk P w K mg base CX0 d (f 0) (fd 0) ["thing"] (spF K prog W d 0 1)
  h1 : FnOk P w K mg base CX0 d (f 1) (fd 1) ["thing"] (spF K prog W d 1 1)
  h2 : FnOk P w K mg base CX0 d (f 2) (fd 2) ["_law_script", "_law_k"] (spF K prog W d 2 2)
  h3 : FnOk P w K mg base CX0 d (f 3) (fd 3) ["_law_well_here", "_law_many"] (spF K prog W d 3 2)
  h4 : FnOk P w K mg base CX0 d (f 4) (fd 4) ["_law_thing"] (spF K prog W d 4 1)
  h5 : FnOk P w K mg base CX0 d (f 5) (fd 5) ["_law_thing"] (spF K prog W d 5 1)
  h6 : FnOk P w K mg base CX0 d (f 6) (fd 6) ["_law_script"] (spF K prog W d 6 1)
section
variable {P : Program} {w : World} {K : PySem.W.Frag} {mg : Str → Option Value} {base : Heap} {f : Nat → Addr} {fd : Nat → FuncData} {W d : Nat} {cdv : Value} {A : Around} {outer : List PySem.Env} {s : Shared} {H : Hp} {E : XK}
theorem d_is_name (M : Md K mg f fd) (ih : Ih P w K mg base f fd W d) (hr : Room d (A.deeper (envOfC "is_name" (defScope s_is_name) s.heap.objs.size (f 0) cdv))) :
    SSs (cxOf CX0 P w K mg base ["thing"] "is_name" (defScope s_is_name) (f 0) cdv A outer s H E).nox (runF prog W d) W (defBody s_is_name) b_is_name :=
  have hu1 : (A.deeper (envOfC "is_name" (defScope s_is_name) s.heap.objs.size (f 0) cdv)).units + 1 < cLine := by have := hr.un; omega
  have hu2 : (A.deeper (envOfC "is_name" (defScope s_is_name) s.heap.objs.size (f 0) cdv)).units + 200 < cLine := by have := hr.un; omega
  (ss_cons (ss_if (sw_pt (sw_or (st_not (st_val (se_isinst .str rfl M.z_isinstance bb_isinstance rfl M.z_str bb_str (sv 0)))) (sw_or1 (st_not (st_chain o_le o_le (cB_int _) se_int (se_callB n_len (fun _ _ => ev_blt) rfl M.z_len bb_len (sa_cons (sv 0) sa_nil)) se_int)))))
     (ss_cons (ss_ret se_bl)
     ss_nil)
     ss_nil)
    (ss_cons (ss_ret (se_callB (n_all rfl) (fun _ _ => ev_blt) rfl M.z_all bb_all (sa_cons (se_comp (N := ["sign"]) rfl (compOk_of (up := defScope s_is_name) (XN := ["thing"]) rfl rfl (by decide +kernel)) (si_seq (sv 0)) (fun _ _ _ _ _ => sg_name (i := 0) nd0 rfl (Or.inl rfl)) (fun _ _ _ _ _ => pts0) (fun _ _ _ _ _ => (se_cmp (o_in hu2) (sv 0) (M.c_SMALL_LETTERS rfl rfl rfl) (by with_unfolding_all rfl) fun _ _ => ev_cmp))) sa_nil)))
    ss_nil))
theorem d_is_mark (M : Md K mg f fd) (ih : Ih P w K mg base f fd W d) (hr : Room d (A.deeper (envOfC "is_mark" (defScope s_is_mark) s.heap.objs.size (f 1) cdv))) :
    SSs (cxOf CX0 P w K mg base ["thing"] "is_mark" (defScope s_is_mark) (f 1) cdv A outer s H E).nox (runF prog W d) W (defBody s_is_mark) b_is_mark :=
  have hu1 : (A.deeper (envOfC "is_mark" (defScope s_is_mark) s.heap.objs.size (f 1) cdv)).units + 1 < cLine := by have := hr.un; omega
  have hu2 : (A.deeper (envOfC "is_mark" (defScope s_is_mark) s.heap.objs.size (f 1) cdv)).units + 200 < cLine := by have := hr.un; omega
  (ss_cons (ss_ret (se_cmp (o_in hu2) (sv 0) (M.c_MARKS rfl rfl rfl) (by with_unfolding_all rfl) fun _ _ => ev_cmp))
    ss_nil)
theorem d_law_well (M : Md K mg f fd) (ih : Ih P w K mg base f fd W d) (hr : Room d (A.deeper (envOfC "_law_well" (defScope s_law_well) s.heap.objs.size (f 2) cdv))) :
    SSs (cxOf CX0 P w K mg base ["_law_script", "_law_k", "_law_cell"] "_law_well" (defScope s_law_well) (f 2) cdv A outer s H E).nox (runF prog W d) W (defBody s_law_well) b_law_well :=
  have hu1 : (A.deeper (envOfC "_law_well" (defScope s_law_well) s.heap.objs.size (f 2) cdv)).units + 1 < cLine := by have := hr.un; omega
  have hu2 : (A.deeper (envOfC "_law_well" (defScope s_law_well) s.heap.objs.size (f 2) cdv)).units + 200 < cLine := by have := hr.un; omega
  (ss_cons (ss_set (i := 2) sc_law_well.nd rfl (by first | exact Or.inl rfl | exact Or.inr rfl) (se_op o_mul se_int (sv 1) fun _ _ => ev_bin))
    (ss_cons (ss_if (st_cmp o_gt (se_callB n_len (fun _ _ => ev_blt) rfl M.z_len bb_len (sa_cons (sv 0) sa_nil)) se_int (nomark _) fun _ _ => ev_cmp)
     (ss_cons (ss_set (i := 2) sc_law_well.nd rfl (by first | exact Or.inl rfl | exact Or.inr rfl) (se_op o_add (se_ix hu1 (sv 0) (se_op o_mod (sv 1) (se_callB n_len (fun _ _ => ev_blt) rfl M.z_len bb_len (sa_cons (sv 0) sa_nil)) fun _ _ => ev_bin) (fun _ _ => rfl)) (se_op o_mul se_int (se_op o_fdiv (sv 1) (se_callB n_len (fun _ _ => ev_blt) rfl M.z_len bb_len (sa_cons (sv 0) sa_nil)) fun _ _ => ev_bin) fun _ _ => ev_bin) fun _ _ => ev_bin))
     ss_nil)
     ss_nil)
    (ss_cons (ss_ret (se_dict (sp_cons (sk_str (cs := [99, 101, 108, 108]) (by decide +kernel)) (sv 2) (sp_cons (sk_str (cs := [108, 101, 102, 116]) (by decide +kernel)) (se_op o_mul (se_callB (n_max2 rfl) (fun _ _ => ev_blt) rfl M.z_max bb_max (sa_cons se_int (sa_cons (sv 2) sa_nil))) (se_callTy n_int (fun _ _ => ev_blt) rfl M.z_int bb_int (sa_cons (se_cmp o_ge (sv 2) (se_op o_pow se_int se_int fun _ _ => ev_bin) (nomark _) fun _ _ => ev_cmp) sa_nil)) fun _ _ => ev_bin) (sp_cons (sk_str (cs := [116, 117, 114, 110]) (by decide +kernel)) se_int sp_nil))) rfl rfl rfl rfl (fun z => nomatch z) (by decide) (by decide)))
    ss_nil)))
theorem d_law_draw (M : Md K mg f fd) (ih : Ih P w K mg base f fd W d) (hr : Room d (A.deeper (envOfC "_law_draw" (defScope s_law_draw) s.heap.objs.size (f 3) cdv))) :
    SSs (cxOf CX0 P w K mg base ["_law_well_here", "_law_many", "_law_turn", "_law_left", "_law_here", "_law_mixed"] "_law_draw" (defScope s_law_draw) (f 3) cdv A outer s H E).nox (runF prog W d) W (defBody s_law_draw) b_law_draw :=
  have hu1 : (A.deeper (envOfC "_law_draw" (defScope s_law_draw) s.heap.objs.size (f 3) cdv)).units + 1 < cLine := by have := hr.un; omega
  have hu2 : (A.deeper (envOfC "_law_draw" (defScope s_law_draw) s.heap.objs.size (f 3) cdv)).units + 200 < cLine := by have := hr.un; omega
  (ss_cons (ss_set (i := 2) sc_law_draw.nd rfl (by first | exact Or.inl rfl | exact Or.inr rfl) (se_ix hu1 (sv 0) (se_str (cs := [116, 117, 114, 110]) (by decide +kernel) (by decide)) (fun _ _ => rfl)))
    (ss_cons (ss_setIx hu1 (sv 0) (se_str (cs := [116, 117, 114, 110]) (by decide +kernel) (by decide)) (se_op o_add (sv 2) se_int fun _ _ => ev_bin))
    (ss_cons (ss_set (i := 3) sc_law_draw.nd rfl (by first | exact Or.inl rfl | exact Or.inr rfl) (se_ix hu1 (sv 0) (se_str (cs := [108, 101, 102, 116]) (by decide +kernel) (by decide)) (fun _ _ => rfl)))
    (ss_cons (ss_if (st_cmp o_gt (sv 3) se_int (nomark _) fun _ _ => ev_cmp)
     (ss_cons (ss_setIx hu1 (sv 0) (se_str (cs := [108, 101, 102, 116]) (by decide +kernel) (by decide)) (se_op o_fdiv (sv 3) (sv 1) fun _ _ => ev_bin))
     (ss_cons (ss_ret (se_op o_mod (sv 3) (sv 1) fun _ _ => ev_bin))
     ss_nil))
     ss_nil)
    (ss_cons (ss_set (i := 4) sc_law_draw.nd rfl (by first | exact Or.inl rfl | exact Or.inr rfl) (se_op o_add (se_op o_add (se_op o_mod (se_ix hu1 (sv 0) (se_str (cs := [99, 101, 108, 108]) (by decide +kernel) (by decide)) (fun _ _ => rfl)) se_int fun _ _ => ev_bin) (se_op o_mul (se_op o_mul se_int (sv 2) fun _ _ => ev_bin) (sv 2) fun _ _ => ev_bin) fun _ _ => ev_bin) se_int fun _ _ => ev_bin))
    (ss_cons (ss_set (i := 5) sc_law_draw.nd rfl (by first | exact Or.inl rfl | exact Or.inr rfl) (se_op o_mod (se_op o_mul (sv 4) (se_op o_add se_int (se_op o_mul se_int (sv 2) fun _ _ => ev_bin) fun _ _ => ev_bin) fun _ _ => ev_bin) se_int fun _ _ => ev_bin))
    (ss_cons (ss_ret (se_op o_mod (se_op o_fdiv (se_op o_mod (se_op o_add (se_op o_mul (se_op o_fdiv (sv 5) se_int fun _ _ => ev_bin) se_int fun _ _ => ev_bin) (sv 2) fun _ _ => ev_bin) se_int fun _ _ => ev_bin) se_int fun _ _ => ev_bin) (sv 1) fun _ _ => ev_bin))
    ss_nil)))))))
theorem d_law_is_name (M : Md K mg f fd) (ih : Ih P w K mg base f fd W d) (hr : Room d (A.deeper (envOfC "_law_is_name" (defScope s_law_is_name) s.heap.objs.size (f 4) cdv))) :
    SSs (cxOf CX0 P w K mg base ["_law_thing"] "_law_is_name" (defScope s_law_is_name) (f 4) cdv A outer s H E).nox (runF prog W d) W (defBody s_law_is_name) b_law_is_name :=
  have hu1 : (A.deeper (envOfC "_law_is_name" (defScope s_law_is_name) s.heap.objs.size (f 4) cdv)).units + 1 < cLine := by have := hr.un; omega
  have hu2 : (A.deeper (envOfC "_law_is_name" (defScope s_law_is_name) s.heap.objs.size (f 4) cdv)).units + 200 < cLine := by have := hr.un; omega
  (ss_cons (ss_if (sw_pt (sw_or (st_not (st_val (se_isinst .str rfl M.z_isinstance bb_isinstance rfl M.z_str bb_str (sv 0)))) (sw_or (st_cmp (o_eq hu2) (se_callB n_len (fun _ _ => ev_blt) rfl M.z_len bb_len (sa_cons (sv 0) sa_nil)) se_int (nomark _) fun _ _ => ev_cmp) (sw_or1 (st_cmp o_gt (se_callB n_len (fun _ _ => ev_blt) rfl M.z_len bb_len (sa_cons (sv 0) sa_nil)) se_int (nomark _) fun _ _ => ev_cmp)))))
     (ss_cons (ss_ret se_bl)
     ss_nil)
     ss_nil)
    (ss_cons (ss_ret (se_cmp o_ge (se_callB (n_min rfl) (fun _ _ => ev_blt) rfl M.z_min bb_min (sa_cons (se_comp (N := ["_law_sign"]) rfl (compOk_of (up := defScope s_law_is_name) (XN := ["_law_thing"]) rfl rfl (by decide +kernel)) (si_seq (sv 0)) (fun _ _ _ _ _ => sg_name (i := 0) nd1 rfl (Or.inl rfl)) (fun _ _ _ _ _ => pts0) (fun _ _ _ _ _ => (se_mtS PySem.F.slot_str_find PySem.F.type_str_find m_find (se_str (cs := [97, 98, 99, 100, 101, 102, 103, 104, 105, 106, 107, 108, 109, 110, 111, 112, 113, 114, 115, 116, 117, 118, 119, 120, 121, 122]) (by decide +kernel) (by decide)) (sa_cons (sv 0) sa_nil) g_find q_find))) sa_nil)) se_int (nomark _) fun _ _ => ev_cmp))
    ss_nil))
theorem d_law_right (M : Md K mg f fd) (ih : Ih P w K mg base f fd W d) (hr : Room d (A.deeper (envOfC "_law_right" (defScope s_law_right) s.heap.objs.size (f 5) cdv))) :
    SSs (cxOf CX0 P w K mg base ["_law_thing", "_law_due", "_law_marked"] "_law_right" (defScope s_law_right) (f 5) cdv A outer s H E).nox (runF prog W d) W (defBody s_law_right) b_law_right :=
  have hu1 : (A.deeper (envOfC "_law_right" (defScope s_law_right) s.heap.objs.size (f 5) cdv)).units + 1 < cLine := by have := hr.un; omega
  have hu2 : (A.deeper (envOfC "_law_right" (defScope s_law_right) s.heap.objs.size (f 5) cdv)).units + 200 < cLine := by have := hr.un; omega
  (ss_cons (ss_set (i := 1) sc_law_right.nd rfl (by first | exact Or.inl rfl | exact Or.inr rfl) (se_call (ps := ["_law_thing"]) ih.h4 hr rfl M.m4 M.F4.kp M.b4 (sa_cons (sv 0) sa_nil) rfl))
    (ss_cons (ss_set (i := 2) sc_law_right.nd rfl (by first | exact Or.inl rfl | exact Or.inr rfl) (se_and (se_isinst .str rfl M.z_isinstance bb_isinstance rfl M.z_str bb_str (sv 0)) (se_and (se_cmp (o_eq hu2) (se_callB n_len (fun _ _ => ev_blt) rfl M.z_len bb_len (sa_cons (sv 0) sa_nil)) se_int (nomark _) fun _ _ => ev_cmp) (se_one (se_cmp o_ge (se_mtS PySem.F.slot_str_find PySem.F.type_str_find m_find (se_str (cs := [65, 66, 67, 68, 69, 70]) (by decide +kernel) (by decide)) (sa_cons (sv 0) sa_nil) g_find q_find) se_int (nomark _) fun _ _ => ev_cmp)))))
    (ss_cons (ss_ret (se_and (se_cmp (o_eq hu2) (se_callB n_repr (fun _ _ => ev_blt) rfl M.z_repr bb_repr (sa_cons (se_call (ps := ["thing"]) ih.h0 hr rfl M.m0 M.F0.kp M.b0 (sa_cons (sv 0) sa_nil) rfl) sa_nil)) (se_callB n_repr (fun _ _ => ev_blt) rfl M.z_repr bb_repr (sa_cons (sv 1) sa_nil)) (nomark _) fun _ _ => ev_cmp) (se_one (se_cmp (o_eq hu2) (se_callB n_repr (fun _ _ => ev_blt) rfl M.z_repr bb_repr (sa_cons (se_call (ps := ["thing"]) ih.h1 hr rfl M.m1 M.F1.kp M.b1 (sa_cons (sv 0) sa_nil) rfl) sa_nil)) (se_callB n_repr (fun _ _ => ev_blt) rfl M.z_repr bb_repr (sa_cons (sv 2) sa_nil)) (nomark _) fun _ _ => ev_cmp))))
    ss_nil)))
theorem d_law (M : Md K mg f fd) (ih : Ih P w K mg base f fd W d) (hr : Room d (A.deeper (envOfC "law" (defScope s_law) s.heap.objs.size (f 6) cdv))) :
    SSs (cxOf CX0 P w K mg base ["_law_script", "_law_signs", "_law_odd", "_law_k", "_law_well_here", "_law_size", "_law_text", "_law_at", "_law_sign", "_law_one", "_law_some", "_law_thing"] "law" (defScope s_law) (f 6) cdv A outer s H E).nox (runF prog W d) W (defBody s_law) b_law :=
  have hu1 : (A.deeper (envOfC "law" (defScope s_law) s.heap.objs.size (f 6) cdv)).units + 1 < cLine := by have := hr.un; omega
  have hu2 : (A.deeper (envOfC "law" (defScope s_law) s.heap.objs.size (f 6) cdv)).units + 200 < cLine := by have := hr.un; omega
  (ss_cons (ss_set (i := 1) sc_law.nd rfl (by first | exact Or.inl rfl | exact Or.inr rfl) (se_str (cs := [97, 98, 99, 100, 101, 102, 103, 104, 105, 106, 107, 108, 109, 110, 111, 112, 113, 114, 115, 116, 117, 118, 119, 120, 121, 122]) (by decide +kernel) (by decide)))
    (ss_cons (ss_set (i := 2) sc_law.nd rfl (by first | exact Or.inl rfl | exact Or.inr rfl) (se_str (cs := [65, 66, 70, 71, 90, 48, 49, 57, 32, 46, 44, 45, 43, 42, 95, 60, 62, 61, 40, 41, 59, 58, 123, 124, 125, 126, 91, 96]) (by decide +kernel) (by decide)))
    (ss_cons (ss_for PassesOwn.never rfl (si_range rfl M.z_range se_int) (sg_name (i := 3) sc_law.nd rfl (by first | exact Or.inl rfl | exact Or.inr rfl))
     (ss_cons (ss_set (i := 4) sc_law.nd rfl (by first | exact Or.inl rfl | exact Or.inr rfl) (se_call (ps := ["_law_script", "_law_k"]) ih.h2 hr rfl M.m2 M.F2.kp M.b2 (sa_cons (sv 0) (sa_cons (sv 3) sa_nil)) rfl))
     (ss_cons (ss_set (i := 5) sc_law.nd rfl (by first | exact Or.inl rfl | exact Or.inr rfl) (se_call (ps := ["_law_well_here", "_law_many"]) ih.h3 hr rfl M.m3 M.F3.kp M.b3 (sa_cons (sv 4) (sa_cons se_int sa_nil)) rfl))
     (ss_cons (ss_set (i := 6) sc_law.nd rfl (by first | exact Or.inl rfl | exact Or.inr rfl) (se_mtS PySem.F.slot_str_join PySem.F.type_str_join m_join (se_str (cs := []) (by decide +kernel) (by decide)) (sa_cons (se_comp (N := ["_law_signs", "_law_well_here", "_law_j"]) rfl (compOk_of (up := defScope s_law) (XN := ["_law_script", "_law_signs", "_law_odd", "_law_k", "_law_well_here", "_law_size", "_law_text", "_law_at", "_law_sign", "_law_one", "_law_some", "_law_thing"]) rfl rfl (by decide +kernel)) (si_range rfl M.z_range (sv 5)) (fun _ _ _ _ _ => sg_name (i := 2) nd2 rfl (Or.inl rfl)) (fun _ _ _ _ _ => pts0) (fun _ _ _ _ _ => (se_ix hu1 (sv 0) (se_call (ps := ["_law_well_here", "_law_many"]) ih.h3 hr rfl M.m3 M.F3.kp M.b3 (sa_cons (sv 1) (sa_cons se_int sa_nil)) rfl) (fun _ _ => rfl)))) sa_nil) g_join q_join))
     (ss_cons (ss_set (i := 7) sc_law.nd rfl (by first | exact Or.inl rfl | exact Or.inr rfl) (se_call (ps := ["_law_well_here", "_law_many"]) ih.h3 hr rfl M.m3 M.F3.kp M.b3 (sa_cons (sv 4) (sa_cons (se_op o_add (sv 5) se_int fun _ _ => ev_bin) sa_nil)) rfl))
     (ss_cons (ss_set (i := 8) sc_law.nd rfl (by first | exact Or.inl rfl | exact Or.inr rfl) (se_ix hu1 (sv 2) (se_call (ps := ["_law_well_here", "_law_many"]) ih.h3 hr rfl M.m3 M.F3.kp M.b3 (sa_cons (sv 4) (sa_cons (se_callB n_len (fun _ _ => ev_blt) rfl M.z_len bb_len (sa_cons (sv 2) sa_nil)) sa_nil)) rfl) (fun _ _ => rfl)))
     (ss_cons (ss_for PassesOwn.never rfl (si_seq (se_tup (sa_cons (sv 6) (sa_cons (se_op o_add (se_op o_add (se_slice (sv 6) so_none (so_some (sv 7))) (sv 8) fun _ _ => ev_bin) (se_slice (sv 6) (so_some (sv 7)) so_none) fun _ _ => ev_bin) (sa_cons (se_op o_add (se_op o_add (se_slice (sv 6) so_none (so_some (sv 7))) (sv 8) fun _ _ => ev_bin) (se_slice (sv 6) (so_some (se_op o_add (sv 7) se_int fun _ _ => ev_bin)) so_none) fun _ _ => ev_bin) (sa_cons (sv 8) (sa_cons (se_slice (sv 6) so_none (so_some se_int)) (sa_cons (se_mtS0 PySem.F.slot_str_upper PySem.F.type_str_upper m_upper (sv 6) g_upper q_upper) sa_nil)))))) (by decide) rfl)) (sg_name (i := 9) sc_law.nd rfl (by first | exact Or.inl rfl | exact Or.inr rfl))
      (ss_cons (ss_if (st_not (st_val (se_call (ps := ["_law_thing"]) ih.h5 hr rfl M.m5 M.F5.kp M.b5 (sa_cons (sv 9) sa_nil) rfl)))
       (ss_cons (ss_ret se_bl)
       ss_nil)
       ss_nil)
      ss_nil))
     (ss_cons (ss_if (sw_pt (sw_or (st_not (st_val (se_call (ps := ["_law_thing"]) ih.h5 hr rfl M.m5 M.F5.kp M.b5 (sa_cons (se_tup (sa_cons (sv 6) sa_nil) (by decide) rfl) sa_nil) rfl))) (sw_or1 (st_not (st_val (se_call (ps := ["_law_thing"]) ih.h5 hr rfl M.m5 M.F5.kp M.b5 (sa_cons (se_lst (sa_cons (sv 6) sa_nil) (by decide) rfl) sa_nil) rfl))))))
      (ss_cons (ss_ret se_bl)
      ss_nil)
      ss_nil)
     ss_nil))))))))
    (ss_cons (ss_set (i := 10) sc_law.nd rfl (by first | exact Or.inl rfl | exact Or.inr rfl) (se_lst (sa_cons se_non (sa_cons se_bl (sa_cons se_bl (sa_cons se_int (sa_cons se_int (sa_cons (se_op o_pow se_int se_int fun _ _ => ev_bin) (sa_cons (se_str (cs := []) (by decide +kernel) (by decide)) (sa_cons (se_str (cs := [65]) (by decide +kernel) (by decide)) (sa_cons (se_str (cs := [70]) (by decide +kernel) (by decide)) (sa_cons (se_str (cs := [71]) (by decide +kernel) (by decide)) (sa_cons (se_str (cs := [65, 66]) (by decide +kernel) (by decide)) (sa_cons (se_str (cs := [97]) (by decide +kernel) (by decide)) (sa_cons (se_str (cs := [122]) (by decide +kernel) (by decide)) (sa_cons (se_str (cs := [97, 98, 99, 100, 101, 102, 103, 104]) (by decide +kernel) (by decide)) (sa_cons (se_str (cs := [97, 98, 99, 100, 101, 102, 103, 104, 105]) (by decide +kernel) (by decide)) sa_nil))))))))))))))) (by decide) rfl))
    (ss_cons (ss_set (i := 10) sc_law.nd rfl (by first | exact Or.inl rfl | exact Or.inr rfl) (se_op o_add (sv 10) (se_lst (sa_cons (se_tup sa_nil (by decide) rfl) (sa_cons (se_lst sa_nil (by decide) rfl) (sa_cons (se_tup (sa_cons (se_str (cs := [97]) (by decide +kernel) (by decide)) sa_nil) (by decide) rfl) sa_nil))) (by decide) rfl) fun _ _ => ev_bin))
    (ss_cons (ss_for PassesOwn.never rfl (si_seq (sv 10)) (sg_name (i := 11) sc_law.nd rfl (by first | exact Or.inl rfl | exact Or.inr rfl))
     (ss_cons (ss_if (st_not (st_val (se_call (ps := ["_law_thing"]) ih.h5 hr rfl M.m5 M.F5.kp M.b5 (sa_cons (sv 11) sa_nil) rfl)))
      (ss_cons (ss_ret se_bl)
      ss_nil)
      ss_nil)
     ss_nil))
    (ss_cons (ss_ret se_bl)
    ss_nil)))))))
end
section
variable {P : Program} {w : World} {K : PySem.W.Frag} {mg : Str → Option Value} {base : Heap} {f : Nat → Addr} {fd : Nat → FuncData}
theorem all (M : Md K mg f fd) (W : Nat) : ∀ d : Nat, Ih P w K mg base f fd W d
  | 0 => ⟨fn_zero, fn_zero, fn_zero, fn_zero, fn_zero, fn_zero, fn_zero⟩
  | d + 1 => by
    have ih := all M W d
    exact ⟨fn_succ M.F0 sc_is_name rfl fun cdv A outer s H E hr => d_is_name M ih hr,
      fn_succ M.F1 sc_is_mark rfl fun cdv A outer s H E hr => d_is_mark M ih hr,
      fn_succ M.F2 sc_law_well rfl fun cdv A outer s H E hr => d_law_well M ih hr,
      fn_succ M.F3 sc_law_draw rfl fun cdv A outer s H E hr => d_law_draw M ih hr,
      fn_succ M.F4 sc_law_is_name rfl fun cdv A outer s H E hr => d_law_is_name M ih hr,
      fn_succ M.F5 sc_law_right rfl fun cdv A outer s H E hr => d_law_right M ih hr,
      fn_succ M.F6 sc_law rfl fun cdv A outer s H E hr => d_law M ih hr⟩
end
theorem all_mk {l : PySem.W.OpenLaw} {w : World} {K : PySem.W.Frag} {h : Heap} {mg : Str → Option Value} {fa f0 f1 f2 f3 f4 f5 f6 : Addr} (X : K.In h) (G : h.Ns mainGlobals mg) (hfa : mg "law" = some (.ref fa)) (D : Nat)
    {od0 an0 od1 an1 od2 an2 od3 an3 od4 an4 od5 an5 od6 an6 : Option Addr} {sl0 sl1 sl2 sl3 sl4 sl5 sl6 : Array (Option Value)} {oc0 kV0 dc0 pm0 cd0 ct0 oc1 kV1 dc1 pm1 cd1 ct1 oc2 kV2 dc2 pm2 cd2 ct2 oc3 kV3 dc3 pm3 cd3 ct3 oc4 kV4 dc4 pm4 cd4 ct4 oc5 kV5 dc5 pm5 cd5 ct5 oc6 kV6 dc6 pm6 cd6 ct6 : Value}
    (a0 : PySem.W.nsIn K mainGlobals "is_name" = some (some (.ref f0))) (l0 : K.lookup f0 = some ⟨oc0, od0, .func (PySem.W.fnOf "is_name" "is_name" (defArgs s_is_name) (defBody s_is_name) (defScope s_is_name) .none kV0 dc0 pm0 an0 cd0 ct0), sl0⟩) (c0 : PySem.W.codeIn K cd0 "is_name" = true) (k0 : PySem.W.keepIn K (.ref f0) = true)
    (a1 : PySem.W.nsIn K mainGlobals "is_mark" = some (some (.ref f1))) (l1 : K.lookup f1 = some ⟨oc1, od1, .func (PySem.W.fnOf "is_mark" "is_mark" (defArgs s_is_mark) (defBody s_is_mark) (defScope s_is_mark) .none kV1 dc1 pm1 an1 cd1 ct1), sl1⟩) (c1 : PySem.W.codeIn K cd1 "is_mark" = true) (k1 : PySem.W.keepIn K (.ref f1) = true)
    (a2 : PySem.W.nsIn K mainGlobals "_law_well" = some (some (.ref f2))) (l2 : K.lookup f2 = some ⟨oc2, od2, .func (PySem.W.fnOf "_law_well" "_law_well" (defArgs s_law_well) (defBody s_law_well) (defScope s_law_well) .none kV2 dc2 pm2 an2 cd2 ct2), sl2⟩) (c2 : PySem.W.codeIn K cd2 "_law_well" = true) (k2 : PySem.W.keepIn K (.ref f2) = true)
    (a3 : PySem.W.nsIn K mainGlobals "_law_draw" = some (some (.ref f3))) (l3 : K.lookup f3 = some ⟨oc3, od3, .func (PySem.W.fnOf "_law_draw" "_law_draw" (defArgs s_law_draw) (defBody s_law_draw) (defScope s_law_draw) .none kV3 dc3 pm3 an3 cd3 ct3), sl3⟩) (c3 : PySem.W.codeIn K cd3 "_law_draw" = true) (k3 : PySem.W.keepIn K (.ref f3) = true)
    (a4 : PySem.W.nsIn K mainGlobals "_law_is_name" = some (some (.ref f4))) (l4 : K.lookup f4 = some ⟨oc4, od4, .func (PySem.W.fnOf "_law_is_name" "_law_is_name" (defArgs s_law_is_name) (defBody s_law_is_name) (defScope s_law_is_name) .none kV4 dc4 pm4 an4 cd4 ct4), sl4⟩) (c4 : PySem.W.codeIn K cd4 "_law_is_name" = true) (k4 : PySem.W.keepIn K (.ref f4) = true)
    (a5 : PySem.W.nsIn K mainGlobals "_law_right" = some (some (.ref f5))) (l5 : K.lookup f5 = some ⟨oc5, od5, .func (PySem.W.fnOf "_law_right" "_law_right" (defArgs s_law_right) (defBody s_law_right) (defScope s_law_right) .none kV5 dc5 pm5 an5 cd5 ct5), sl5⟩) (c5 : PySem.W.codeIn K cd5 "_law_right" = true) (k5 : PySem.W.keepIn K (.ref f5) = true)
    (a6 : PySem.W.nsIn K mainGlobals "law" = some (some (.ref f6))) (l6 : K.lookup f6 = some ⟨oc6, od6, .func (PySem.W.fnOf "law" "law" (defArgs s_law) (defBody s_law) (defScope s_law) .none kV6 dc6 pm6 an6 cd6 ct6), sl6⟩) (c6 : PySem.W.codeIn K cd6 "law" = true) (k6 : PySem.W.keepIn K (.ref f6) = true)
    (z_all : PySem.W.nsIn K mainGlobals "all" = some none)
    (z_int : PySem.W.nsIn K mainGlobals "int" = some none)
    (z_isinstance : PySem.W.nsIn K mainGlobals "isinstance" = some none)
    (z_len : PySem.W.nsIn K mainGlobals "len" = some none)
    (z_max : PySem.W.nsIn K mainGlobals "max" = some none)
    (z_min : PySem.W.nsIn K mainGlobals "min" = some none)
    (z_range : PySem.W.nsIn K mainGlobals "range" = some none)
    (z_repr : PySem.W.nsIn K mainGlobals "repr" = some none)
    (z_str : PySem.W.nsIn K mainGlobals "str" = some none)
    {p_MARKS : Addr} {t0_MARKS t1_MARKS t2_MARKS t3_MARKS t4_MARKS t5_MARKS : Tok} {o_MARKS : Value} {q_MARKS : Option Addr} {e_MARKS : Array Value} {n_MARKS : Nat} {s_MARKS : Array (Option Value)}
    (g_MARKS : PySem.W.nsIn K mainGlobals "MARKS" = some (some (.ref p_MARKS))) (h_MARKS : K.lookup p_MARKS = some ⟨o_MARKS, q_MARKS, .seq e_MARKS n_MARKS, s_MARKS⟩) (j_MARKS : o_MARKS = .type "tuple") (i_MARKS : e_MARKS.toList = strItems [[65], [66], [67], [68], [69], [70]] [t0_MARKS, t1_MARKS, t2_MARKS, t3_MARKS, t4_MARKS, t5_MARKS])
    {y_SMALL_LETTERS : Str} {t_SMALL_LETTERS : Tok} (g_SMALL_LETTERS : PySem.W.nsIn K mainGlobals "SMALL_LETTERS" = some (some (.str y_SMALL_LETTERS t_SMALL_LETTERS))) (i_SMALL_LETTERS : y_SMALL_LETTERS = ⟨([97, 98, 99, 100, 101, 102, 103, 104, 105, 106, 107, 108, 109, 110, 111, 112, 113, 114, 115, 116, 117, 118, 119, 120, 121, 122] : List Nat).toArray⟩)
    : ∃ fd : FuncData, (∀ (s : Shared) (v : Value), BindsTo s fd ⟨[v], []⟩ [("_law_script", v)]) ∧ ∀ base : Heap, K.In base → base.Ns mainGlobals mg → FnOk l.prog w K mg base CX0 D fa fd ["_law_script"] (spF K prog 0 D 6 1) := by
  have X0 := X
  have e := hfa.symm.trans (PySem.W.mg_of X G a6)
  cases e
  refine ⟨PySem.W.fnOf "law" "law" (defArgs s_law) (defBody s_law) (defScope s_law) .none kV6 dc6 pm6 an6 cd6 ct6, fun s v => .of_eq rfl, fun base _ _ => ?_⟩
  have F0 := fun_mk (st := s_is_name) l0 c0 k0
  have b0 := F0.binds (ps := ["thing"]) fun _ _ _ _ _ _ us hl => match us, hl with | [_], _ => rfl
  have F1 := fun_mk (st := s_is_mark) l1 c1 k1
  have b1 := F1.binds (ps := ["thing"]) fun _ _ _ _ _ _ us hl => match us, hl with | [_], _ => rfl
  have F2 := fun_mk (st := s_law_well) l2 c2 k2
  have b2 := F2.binds (ps := ["_law_script", "_law_k"]) fun _ _ _ _ _ _ us hl => match us, hl with | [_, _], _ => rfl
  have F3 := fun_mk (st := s_law_draw) l3 c3 k3
  have b3 := F3.binds (ps := ["_law_well_here", "_law_many"]) fun _ _ _ _ _ _ us hl => match us, hl with | [_, _], _ => rfl
  have F4 := fun_mk (st := s_law_is_name) l4 c4 k4
  have b4 := F4.binds (ps := ["_law_thing"]) fun _ _ _ _ _ _ us hl => match us, hl with | [_], _ => rfl
  have F5 := fun_mk (st := s_law_right) l5 c5 k5
  have b5 := F5.binds (ps := ["_law_thing"]) fun _ _ _ _ _ _ us hl => match us, hl with | [_], _ => rfl
  have F6 := fun_mk (st := s_law) l6 c6 k6
  have b6 := F6.binds (ps := ["_law_script"]) fun _ _ _ _ _ _ us hl => match us, hl with | [_], _ => rfl
  have M : Md K mg (fun i => [f0, f1, f2, f3, f4, f5, fa].getD i f0) (fun i => [PySem.W.fnOf "is_name" "is_name" (defArgs s_is_name) (defBody s_is_name) (defScope s_is_name) .none kV0 dc0 pm0 an0 cd0 ct0, PySem.W.fnOf "is_mark" "is_mark" (defArgs s_is_mark) (defBody s_is_mark) (defScope s_is_mark) .none kV1 dc1 pm1 an1 cd1 ct1, PySem.W.fnOf "_law_well" "_law_well" (defArgs s_law_well) (defBody s_law_well) (defScope s_law_well) .none kV2 dc2 pm2 an2 cd2 ct2, PySem.W.fnOf "_law_draw" "_law_draw" (defArgs s_law_draw) (defBody s_law_draw) (defScope s_law_draw) .none kV3 dc3 pm3 an3 cd3 ct3, PySem.W.fnOf "_law_is_name" "_law_is_name" (defArgs s_law_is_name) (defBody s_law_is_name) (defScope s_law_is_name) .none kV4 dc4 pm4 an4 cd4 ct4, PySem.W.fnOf "_law_right" "_law_right" (defArgs s_law_right) (defBody s_law_right) (defScope s_law_right) .none kV5 dc5 pm5 an5 cd5 ct5, PySem.W.fnOf "law" "law" (defArgs s_law) (defBody s_law) (defScope s_law) .none kV6 dc6 pm6 an6 cd6 ct6].getD i (PySem.W.fnOf "is_name" "is_name" (defArgs s_is_name) (defBody s_is_name) (defScope s_is_name) .none kV0 dc0 pm0 an0 cd0 ct0)) :=
    ⟨PySem.W.mg_of X G a0, F0, b0, PySem.W.mg_of X G a1, F1, b1, PySem.W.mg_of X G a2, F2, b2, PySem.W.mg_of X G a3, F3, b3, PySem.W.mg_of X G a4, F4, b4, PySem.W.mg_of X G a5, F5, b5, PySem.W.mg_of X G a6, F6, b6,
     PySem.W.mg_none_of X G z_all, PySem.W.mg_none_of X G z_int, PySem.W.mg_none_of X G z_isinstance, PySem.W.mg_none_of X G z_len, PySem.W.mg_none_of X G z_max, PySem.W.mg_none_of X G z_min, PySem.W.mg_none_of X G z_range, PySem.W.mg_none_of X G z_repr, PySem.W.mg_none_of X G z_str,
     fun {X C pos} eK em hg => by subst eK em; exact se_gt hg (PySem.W.mg_of X0 G g_MARKS) h_MARKS j_MARKS i_MARKS rfl (by decide) (by decide),
     fun {X C pos} eK em hg => by subst eK em; exact se_gs hg (PySem.W.mg_of X0 G g_SMALL_LETTERS) i_SMALL_LETTERS (by decide)⟩
  exact (all (P := l.prog) (w := w) (base := base) M 0 D).h6
theorem law_sp {K : PySem.W.Frag} {H : Hp} {a : Addr} {ns : List Int} {E : XK} (h63 : ns.length ≤ 63) (hS : SqL K H a (ns.map V.int)) : spF K prog 0 5 6 1 [.ref a] H (fun v _ => v = .bl true) E := by
  obtain ⟨st, e⟩ := law_eq 0 2 ns h63
  exact ⟨rfl, al0, [], _, _, st, start_rst, script_at hS, e, fun w H x r v h => bl_of h⟩
theorem walk {l : PySem.W.OpenLaw} {q : Program} {loose : List Str} {XP : (Str → Option Value) → Heap → Prop} {YP : World → Heap → Prop} {d : DefRec} {K : Params → PySem.W.Frag} (hn : l.most = some 63) (hdf : d.params.defaults = []) (hY : ∀ (w : World) (h : Heap), YP w h → (K w.params).In h)
    (F : ∀ (w : World) (mg : Str → Option Value) (fa : Addr) (h : Heap), (K w.params).In h → h.Ns mainGlobals mg → mg d.name = some (.ref fa) →
      ∃ fd : FuncData, (∀ (s : Shared) (u : Value), BindsTo s fd ⟨[u], []⟩ [("_law_script", u)]) ∧ ∀ base : Heap, (K w.params).In base → base.Ns mainGlobals mg → FnOk l.prog w (K w.params) mg base CX0 5 fa fd ["_law_script"] (spF (K w.params) prog 0 5 6 1)) :
    PySem.W.WalkO q loose XP YP l.row.toRowW d [] (fun f vs => PySem.call f vs) :=
  L2.walk_of (n := 63) (k := 5) (x := "_law_script") (CX := fun _ => CX0) (sp := fun w => spF (K w.params) prog 0 5 6 1) hn (by decide) hdf ⟨rfl, by decide, by decide⟩ hY F (fun _ _ a ns hl _ hS => law_sp hl hS) fun _ _ _ _ _ z => z
end K01
open PySem PySem.W PyProof.Rows
set_option maxRecDepth 100000 in
set_option maxHeartbeats 0 in
theorem PySem.Challenge.cw_onlyrise_k01_names_and_marks_holds : PySem.Challenge.rw_onlyrise_k01_names_and_marks.Holds := by
  w_on; o_law; k_head; (case hw => w_witness2)
  k_fill
  refine K01.walk (l := PySem.Challenge.rw_onlyrise_k01_names_and_marks) rfl rfl (fun w h Y => PySem.W.kIn_of Y) ?F
  case F =>
    intro w mg fa h KX G hmg
    refine' K01.all_mk KX G hmg 5 ?a0 ?l0 ?c0 ?k0 ?a1 ?l1 ?c1 ?k1 ?a2 ?l2 ?c2 ?k2 ?a3 ?l3 ?c3 ?k3 ?a4 ?l4 ?c4 ?k4 ?a5 ?l5 ?c5 ?k5 ?a6 ?l6 ?c6 ?k6 ?z_all ?z_int ?z_isinstance ?z_len ?z_max ?z_min ?z_range ?z_repr ?z_str ?g_MARKS ?h_MARKS ?j_MARKS ?i_MARKS ?g_SMALL_LETTERS ?i_SMALL_LETTERS
    (case a0 => k_is)
    (case l0 => k_is)
    (case c0 => k_is)
    (case k0 => k_is)
    (case a1 => k_is)
    (case l1 => k_is)
    (case c1 => k_is)
    (case k1 => k_is)
    (case a2 => k_is)
    (case l2 => k_is)
    (case c2 => k_is)
    (case k2 => k_is)
    (case a3 => k_is)
    (case l3 => k_is)
    (case c3 => k_is)
    (case k3 => k_is)
    (case a4 => k_is)
    (case l4 => k_is)
    (case c4 => k_is)
    (case k4 => k_is)
    (case a5 => k_is)
    (case l5 => k_is)
    (case c5 => k_is)
    (case k5 => k_is)
    (case a6 => k_is)
    (case l6 => k_is)
    (case c6 => k_is)
    (case k6 => k_is)
    (case z_all => k_is)
    (case z_int => k_is)
    (case z_isinstance => k_is)
    (case z_len => k_is)
    (case z_max => k_is)
    (case z_min => k_is)
    (case z_range => k_is)
    (case z_repr => k_is)
    (case z_str => k_is)
    (case g_MARKS => k_is)
    (case h_MARKS => k_is)
    (case j_MARKS => first | rfl | decide +kernel)
    (case i_MARKS => first | rfl | decide +kernel)
    (case g_SMALL_LETTERS => k_is)
    (case i_SMALL_LETTERS => first | rfl | decide +kernel)
