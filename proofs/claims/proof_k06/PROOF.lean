import PyProof.Rows.All
import Wide.All
import OpenK.AllK
import Wide.FinOn
import Lean
import PyProof.EqAt
import PyProof.EqKinds
import PyProof.TupleCall
import PyProof.ZipIter
import PyProof.TupleIter
import PyProof.WalksMore
import PySem.Challenge.RW_onlyrise_k06_met_and_below
set_option bootstrap.genMatcherCode false
set_option genSizeOf false
set_option Elab.async false
set_option linter.all false
set_option maxRecDepth 100000
set_option maxHeartbeats 4000000
namespace OR
inductive PV where
 | non
 | bl (b:Bool)
 | int (i:Int)
 | str (cs:List Nat)
 | tup (xs:List PV)
 | lst (xs:List PV)
deriving Inhabited
mutual
noncomputable def PV.beq:PV→PV→Bool
 | .non,.non=>true
 | .bl a,.bl b=>a==b
 | .int a,.int b=>decide (a=b)
 | .str a,.str b=>decide (a=b)
 | .tup a,.tup b=>PV.beqs a b
 | .lst a,.lst b=>PV.beqs a b
 | _,_=>false
noncomputable def PV.beqs:List PV→List PV→Bool
 | [],[]=>true
 | a::r,b::s=>PV.beq a b&&PV.beqs r s
 | _,_=>false
end
mutual
theorem PV.eq_of_beq:∀ {a b:PV},PV.beq a b=true→a=b
 | .non,b,h=>by cases b <;> simp [PV.beq] at h <;> rfl
 | .bl a,b,h=>by cases b <;> simp [PV.beq] at h <;> rw [h]
 | .int a,b,h=>by cases b <;> simp [PV.beq] at h <;> rw [h]
 | .str a,b,h=>by cases b <;> simp [PV.beq] at h <;> rw [h]
 | .tup a,b,h=>by
  cases b <;> simp only [PV.beq,Bool.false_eq_true] at h
  rw [PV.eqs_of_beqs h]
 | .lst a,b,h=>by
  cases b <;> simp only [PV.beq,Bool.false_eq_true] at h
  rw [PV.eqs_of_beqs h]
theorem PV.eqs_of_beqs:∀ {a b:List PV},PV.beqs a b=true→a=b
 | [],b,h=>by cases b <;> simp [PV.beqs] at h <;> rfl
 | x::r,b,h=>by
  cases b with
  | nil=>simp [PV.beqs] at h
  | cons y s =>
   simp only [PV.beqs,Bool.and_eq_true] at h
   rw [PV.eq_of_beq h.1,PV.eqs_of_beqs h.2]
end
mutual
theorem PV.beq_self:∀ (a:PV),PV.beq a a=true
 | .non=>rfl
 | .bl _=>by simp [PV.beq]
 | .int _=>by simp [PV.beq]
 | .str _=>by simp [PV.beq]
 | .tup a=>by rw [PV.beq];exact PV.beqs_self a
 | .lst a=>by rw [PV.beq];exact PV.beqs_self a
theorem PV.beqs_self:∀ (a:List PV),PV.beqs a a=true
 | []=>rfl
 | x::r=>by rw [PV.beqs,PV.beq_self x,PV.beqs_self r];rfl
end
noncomputable instance:DecidableEq PV:=fun a b=>if h:PV.beq a b=true then .isTrue (PV.eq_of_beq h) else .isFalse fun e=>h (e▸PV.beq_self a)
mutual
/-- == of the language -/
noncomputable def pyEq:PV→PV→Bool
 | .non,.non=>true
 | .bl a,.bl b=>a==b
 | .bl a,.int i=>decide ((if a then 1 else 0)=i)
 | .int i,.bl a=>decide (i=(if a then 1 else 0))
 | .int a,.int b=>decide (a=b)
 | .str a,.str b=>decide (a=b)
 | .tup a,.tup b=>pyEqs a b
 | .lst a,.lst b=>pyEqs a b
 | _,_=>false
noncomputable def pyEqs:List PV→List PV→Bool
 | [],[]=>true
 | a::r,b::s=>pyEq a b&&pyEqs r s
 | _,_=>false
end
mutual
/-- how deep a value goes -/
noncomputable def dep:PV→Nat
 | .tup xs=>deps xs+1
 | .lst xs=>deps xs+1
 | _=>0
noncomputable def deps:List PV→Nat
 | []=>0
 | x::r=>max (dep x) (deps r)
end
@[simp] theorem dep_non:dep .non=0:=by rw [dep] <;> simp
@[simp] theorem dep_bl {b}:dep (.bl b)=0:=by rw [dep] <;> simp
@[simp] theorem dep_int {b}:dep (.int b)=0:=by rw [dep] <;> simp
@[simp] theorem dep_str {b}:dep (.str b)=0:=by rw [dep] <;> simp
@[simp] theorem dep_tup {xs}:dep (.tup xs)=deps xs+1:=by rw [dep]
@[simp] theorem dep_lst {xs}:dep (.lst xs)=deps xs+1:=by rw [dep]
@[simp] theorem deps_nil:deps []=0:=by rw [deps]
@[simp] theorem deps_cons {x r}:deps (x::r)=max (dep x) (deps r):=by rw [deps]
noncomputable def depOk (m n:Nat):Bool:=decide (m≤100) || decide (n≤100)
@[simp] theorem depOk_l {n}:depOk 0 n=true:=by simp [depOk]
@[simp] theorem depOk_r {n}:depOk n 0=true:=by simp [depOk]
inductive Val where
 | p (v:PV)
 | ref (n:Nat)
deriving Inhabited
inductive PObj where
 | lst (xs:List PV)
 | dct (kvs:List (PV×PV))
 | dead
deriving Inhabited
noncomputable abbrev Store:=List PObj
noncomputable abbrev Env:=List (Option Val)
inductive Res (α:Type) where
 | ok (a:α) (st:Store)
 | exn (cls:Nat) (args:List PV) (st:Store)
 | stuck
noncomputable def Res.bind {α β:Type}:Res α→(α→Store→Res β)→Res β
 | .ok a st,f=>f a st
 | .exn c as st,_=>.exn c as st
 | .stuck,_=>.stuck
@[simp] theorem Res.bind_ok {α β:Type} (a:α) (st:Store) (f:α→Store→Res β):(Res.ok a st).bind f=f a st:=rfl
@[simp] theorem Res.bind_stuck {α β:Type} (f:α→Store→Res β):(Res.stuck:Res α).bind f=.stuck:=rfl
@[simp] theorem Res.bind_exn {α β:Type} (c as st) (f:α→Store→Res β):(Res.exn c as st:Res α).bind f=.exn c as st:=rfl
noncomputable def objAt (st:Store) (n:Nat):Option PObj:=st[n]?
theorem zp1 {st:Store} {n:Nat} {o:PObj} (h:n<st.length):objAt (st.set n o) n=some o:=by unfold objAt;simp [h]
theorem zq5 {st:Store} {n m:Nat} {o:PObj} (h:m≠n):objAt (st.set n o) m=objAt st m:=by unfold objAt;simp [Ne.symm h]
@[simp] theorem objAt_new {st:Store} {o:PObj}:objAt (st++[o]) st.length=some o:=by unfold objAt;simp
theorem zq6 {st r:Store} {n:Nat} (h:n<st.length):objAt (st++r) n=objAt st n:=by unfold objAt;rw [List.getElem?_append_left h]
theorem zn3 {st:Store} {n:Nat} {o:PObj} (h:objAt st n=some o):n<st.length:=(List.getElem?_eq_some_iff.mp h).1
noncomputable def view (st:Store):Val→Option PV
 | .p v=>some v
 | .ref n=>match objAt st n with
  | some (.lst xs)=>some (.lst xs)
  | _=>none
@[simp] theorem view_p (st:Store) (v:PV):view st (.p v)=some v:=rfl
noncomputable def Res.bindV {β:Type} (r:Res Val) (f:PV→Store→Res β):Res β:=r.bind fun v st=>match view st v with
 | some x=>f x st
 | none=>.stuck
@[simp] theorem Res.bindV_ok {β:Type} (v:PV) (st:Store) (f:PV→Store→Res β):(Res.ok (Val.p v) st).bindV f=f v st:=rfl
noncomputable def Res.bindB {β:Type} (r:Res Val) (f:Bool→Store→Res β):Res β:=r.bind fun v st=>match v with
 | .p (.bl b)=>f b st
 | _=>.stuck
@[simp] theorem Res.bindB_ok {β:Type} (b:Bool) (st:Store) (f:Bool→Store→Res β):(Res.ok (Val.p (.bl b)) st).bindB f=f b st:=rfl
noncomputable def Res.bindP {β:Type} (r:Res Val) (f:PV→Store→Res β):Res β:=r.bind fun v st=>match v with
 | .p x=>f x st
 | _=>.stuck
@[simp] theorem Res.bindP_ok {β:Type} (v:PV) (st:Store) (f:PV→Store→Res β):(Res.ok (Val.p v) st).bindP f=f v st:=rfl
inductive Bop where | add | sub | mul | fdiv | mod | pow
inductive Cop where | eq | ne | lt | le | gt | ge | isIn | notIn | isNone | notNone
inductive Ty where | int | str | bool | list | tuple
inductive Bf where
 | len | isinst (t:Ty) | all | any | min1 | max1 | min2 | max2 | sum | toInt | toStr | repr | tuple | list | sorted | lenSet | abs | sortSet
inductive Mt where
 | find | upper | join | index | count | split | partition | startswith | endswith
 | append | extend | insert | pop | reverse | clear
inductive Tg where | name (i:Nat) | tup (is:List Nat)
mutual
inductive E where
 | var (i:Nat)
 | const (v:PV)
 | bin (op:Bop) (a b:E)
 | neg (a:E)
 | not (a:E)
 | cmp (op:Cop) (a b:E)
 | chain (op op':Cop) (a b c:E)
 | and (a b:E)
 | or (a b:E)
 | ite (c a b:E)
 | tup (es:List E)
 | list (mt:Bool) (es:List E)
 | dict (ks:List PV) (es:List E)
 | ix (a b:E)
 | slice (a:E) (lo hi:Option E)
 | call (f:Nat) (es:List E)
 | blt (f:Bf) (es:List E)
 | meth (m:Mt) (o:E) (es:List E)
 | comp (mt:Bool) (elt:E) (tgt:Tg) (it:It) (cond:Option E) (caps:List Nat) (n:Nat)
 | freeze (e:E)
 | thaw (e:E)
 | rev (e:E)
inductive It where
 | of (e:E)
 | range (e:E)
 | zip (es:List E)
 | enum (e:E)
end
inductive S where
 | expr (e:E)
 | ret (e:E)
 | set (i:Nat) (e:E)
 | setT (is:List Nat) (e:E)
 | setIx (o i v:E)
 | aug (i:Nat) (op:Bop) (e:E)
 | augI (i:Nat) (op:Bop) (e:E)
 | ite (c:E) (a b:List S)
 | for (tgt:Tg) (it:It) (body:List S)
 | while (c:E) (body:List S)
 | pass
inductive Flow where
 | next (env:Env)
 | ret (v:Val)
@[irreducible] noncomputable def SZ:Nat:=16777216
noncomputable def small64 (i:Int):Bool:=decide (-(2 ^ 64)<i∧i<2 ^ 64)
@[simp] noncomputable def bAdd:PV→PV→Option PV
 | .int i,.int j=>some (.int (i+j))
 | .str a,.str b=>if a.length+b.length≤SZ then some (.str (a++b)) else none
 | .tup a,.tup b=>if a.length+b.length≤SZ then some (.tup (a++b)) else none
 | .lst a,.lst b=>if a.length+b.length≤SZ then some (.lst (a++b)) else none
 | _,_=>none
@[simp] noncomputable def bSub:PV→PV→Option PV
 | .int i,.int j=>some (.int (i - j))
 | _,_=>none
@[simp] noncomputable def bMul:PV→PV→Option PV
 | .int i,.int j=>if small64 i || small64 j then some (.int (i * j)) else none
 | .str a,.int n=>if 0≤n∧n≤1000000∧a.length * n.toNat≤SZ then some (.str (List.replicate n.toNat a).flatten) else none
 | .lst a,.int n=>if 0≤n∧n≤1000000∧a.length * n.toNat≤SZ then some (.lst (List.replicate n.toNat a).flatten) else none
 | _,_=>none
@[simp] noncomputable def bFdiv:PV→PV→Option PV
 | .int i,.int j=>if 0<j∧j<1000000000000000000000000000000 then some (.int (i / j)) else none
 | _,_=>none
@[simp] noncomputable def bMod:PV→PV→Option PV
 | .int i,.int j=>if 0<j then some (.int (i % j)) else none
 | _,_=>none
@[simp] noncomputable def bPow:PV→PV→Option PV
 | .int i,.int j=>if 0≤j∧j≤1000000∧small64 i then some (.int (i ^ j.toNat)) else none
 | _,_=>none
@[simp] noncomputable def binOp (op:Bop) (x y:PV):Option PV:=match op with
 | .add=>bAdd x y
 | .sub=>bSub x y
 | .mul=>bMul x y
 | .fdiv=>bFdiv x y
 | .mod=>bMod x y
 | .pow=>bPow x y
noncomputable def infixOf (b:List Nat):List Nat→Bool
 | []=>b.isEmpty
 | x::r=>b.isPrefixOf (x::r) || infixOf b r
noncomputable def findIn (b:List Nat):List Nat→Nat→Option Nat
 | [],k=>if b.isEmpty then some k else none
 | x::r,k=>if b.isPrefixOf (x::r) then some k else findIn b r (k+1)
noncomputable def findI (b a:List Nat):Int:=match findIn b a 0 with
 | some k=>(k:Int)
 | none=>-1
noncomputable def itemIn (x:PV) (xs:List PV):Bool:=xs.any fun y=>pyEq y x
@[simp] noncomputable def isIn:PV→PV→Option Bool
 | .str a,.str b=>some (infixOf a b)
 | x,.tup xs=>if depOk (dep x) (deps xs) then some (itemIn x xs) else none
 | x,.lst xs=>if depOk (dep x) (deps xs) then some (itemIn x xs) else none
 | _,_=>none
@[simp] noncomputable def cInt (p:Int→Int→Bool):PV→PV→Option PV
 | .int i,.int j=>some (.bl (p i j))
 | _,_=>none
@[simp] noncomputable def cNone (neg:Bool):PV→PV→Option PV
 | .non,.non=>some (.bl (!neg))
 | _,.non=>some (.bl neg)
 | .bl a,.bl b=>some (.bl ((a==b) != neg))
 | _,.bl _=>some (.bl neg)
 | _,_=>none
@[simp] noncomputable def cmpOp (op:Cop) (x y:PV):Option PV:=match op with
 | .eq=>if depOk (dep x) (dep y) then some (.bl (pyEq x y)) else none
 | .ne=>if depOk (dep x) (dep y) then some (.bl (!pyEq x y)) else none
 | .lt=>cInt (fun i j=>decide (i<j)) x y
 | .le=>cInt (fun i j=>decide (i≤j)) x y
 | .gt=>cInt (fun i j=>decide (j<i)) x y
 | .ge=>cInt (fun i j=>decide (j≤i)) x y
 | .isIn=>(isIn x y).map .bl
 | .notIn=>(isIn x y).map fun b=>.bl (!b)
 | .isNone=>cNone false x y
 | .notNone=>cNone true x y
noncomputable def ixAt (n:Nat) (i:Int):Option Nat:=if 0≤i then (if i<n then some i.toNat else none) else if -(n:Int)≤i then some (i+n).toNat else none
@[simp] noncomputable def ixOp:PV→PV→Option PV
 | .tup xs,.int i=>(ixAt xs.length i).bind fun j=>xs[j]?
 | .lst xs,.int i=>(ixAt xs.length i).bind fun j=>xs[j]?
 | .str cs,.int i=>(ixAt cs.length i).bind fun j=>(cs[j]?).map fun c=>.str [c]
 | _,_=>none
noncomputable def sIx (n d:Nat):Option Int→Nat
 | none=>d
 | some i=>if 0≤i then min i.toNat n else (n+i).toNat
noncomputable def cut {α:Type} (xs:List α) (lo hi:Option Int):List α:=(xs.drop (sIx xs.length 0 lo)).take (sIx xs.length xs.length hi - sIx xs.length 0 lo)
@[simp] noncomputable def sliceOp:PV→Option Int→Option Int→Option PV
 | .tup xs,lo,hi=>some (.tup (cut xs lo hi))
 | .lst xs,lo,hi=>some (.lst (cut xs lo hi))
 | .str cs,lo,hi=>some (.str (cut cs lo hi))
 | _,_,_=>none
noncomputable def dGet (k:PV):List (PV×PV)→Option PV
 | []=>none
 | (k',v)::r=>if k'=k then some v else dGet k r
noncomputable def dPut (k v:PV) (kvs:List (PV×PV)):List (PV×PV):=if (kvs.any fun p=>decide (p.1=k))=true then kvs.map (fun p=>if p.1=k then (p.1,v) else p) else kvs++[(k,v)]
@[simp] noncomputable def isTy:Ty→PV→Bool
 | .int,.int _=>true
 | .int,.bl _=>true
 | .str,.str _=>true
 | .bool,.bl _=>true
 | .list,.lst _=>true
 | .tuple,.tup _=>true
 | _,_=>false
noncomputable def boolsAll:List PV→Option Bool
 | []=>some true
 | .bl b::r=>(boolsAll r).map (b && ·)
 | _=>none
noncomputable def intsOf:List PV→Option (List Int)
 | []=>some []
 | .int i::r=>(intsOf r).map (i :: ·)
 | _=>none
noncomputable def minL:Int→List Int→Int
 | m,[]=>m
 | m,x::r=>minL (if x<m then x else m) r
noncomputable def maxL:Int→List Int→Int
 | m,[]=>m
 | m,x::r=>maxL (if m<x then x else m) r
noncomputable def okO (o:Option PV) (st:Store):Res Val:=match o with | some v=>.ok (.p v) st | none=>.stuck
@[simp] theorem okO_some (v:PV) (st:Store):okO (some v) st=.ok (.p v) st:=rfl
@[simp] theorem okO_none (st:Store):okO none st=.stuck:=rfl
noncomputable def tTrue:List Nat:=[84,114,117,101]
noncomputable def tFalse:List Nat:=[70,97,108,115,101]
noncomputable def okC (c:Nat):Bool:=decide (32≤c∧c≤126∧c≠39∧c≠92)
noncomputable def intTxt (i:Int):List Nat:=(toString i).toList.map Char.toNat
noncomputable def joinC:List (List Nat)→List Nat
 | []=>[]
 | [x]=>x
 | x::r=>x++[44,32]++joinC r
noncomputable def tupTxt (ts:List (List Nat)):List Nat:=[40]++joinC ts++(if ts.length=1 then [44,41] else [41])
noncomputable def lstTxt (ts:List (List Nat)):List Nat:=[91]++joinC ts++[93]
mutual
/-- a value written -/
noncomputable def shownP:PV→Option (List Nat)
 | .non=>some [78,111,110,101]
 | .bl true=>some tTrue
 | .bl false=>some tFalse
 | .int i=>if i.natAbs.log2<1920 then some (intTxt i) else none
 | .str cs=>if cs.all okC then some ([39]++cs++[39]) else none
 | .tup xs=>match shownPs xs with
  | some ts=>some (tupTxt ts)
  | none=>none
 | .lst xs=>match shownPs xs with
  | some ts=>some (lstTxt ts)
  | none=>none
noncomputable def shownPs:List PV→Option (List (List Nat))
 | []=>some []
 | x::r=>match shownP x with
  | some t=>match shownPs r with
   | some ts=>some (t::ts)
   | none=>none
  | none=>none
end
noncomputable def deepRepr (x:PV):Option (List Nat):=match shownP x with
 | some t=>if dep x≤100∧t.length≤SZ then some t else none
 | none=>none
@[simp] noncomputable def reprOf:PV→Option (List Nat)
 | .bl true=>some tTrue
 | .bl false=>some tFalse
 | x=>deepRepr x
@[simp] noncomputable def items:PV→Option (List PV)
 | .tup xs=>some xs
 | .lst xs=>some xs
 | .str cs=>some (cs.map fun c=>.str [c])
 | _=>none
@[simp] noncomputable def fLen:PV→Option PV
 | .tup xs=>some (.int xs.length)
 | .lst xs=>some (.int xs.length)
 | .str cs=>some (.int cs.length)
 | _=>none
@[simp] noncomputable def onLst (f:List PV→Option PV):PV→Option PV
 | .lst xs=>f xs
 | _=>none
@[simp] noncomputable def f1 (f:PV→Option PV):List PV→Option PV
 | [x]=>f x
 | _=>none
@[simp] noncomputable def f2 (f:PV→PV→Option PV):List PV→Option PV
 | [x,y]=>f x y
 | _=>none
@[simp] noncomputable def fI2 (f:Int→Int→Int):PV→PV→Option PV
 | .int i,.int j=>some (.int (f i j))
 | _,_=>none
@[simp] noncomputable def fInt:PV→Option PV
 | .int i=>some (.int i)
 | .bl b=>some (.int (if b then 1 else 0))
 | _=>none
@[simp] noncomputable def fTuple:PV→Option PV
 | .tup xs=>some (.tup xs)
 | .lst xs=>some (.tup xs)
 | _=>none
@[simp] noncomputable def fList:PV→Option PV
 | .tup xs=>some (.lst xs)
 | .lst xs=>some (.lst xs)
 | _=>none
noncomputable def insD (i:Int):List Int→List Int
 | []=>[i]
 | x::r=>if i<x then i::x::r else if x<i then x::insD i r else x::r
noncomputable def fSortSet (xs:List PV):Option PV:=(intsOf xs).map fun l=>.lst ((l.foldl (fun d i=>insD i d) []).map .int)
noncomputable def fMin (xs:List PV):Option PV:=match intsOf xs with
 | some (i::r)=>some (.int (minL i r))
 | _=>none
noncomputable def fMax (xs:List PV):Option PV:=match intsOf xs with
 | some (i::r)=>some (.int (maxL i r))
 | _=>none
@[simp] noncomputable def bfOp (f:Bf) (xs:List PV):Option PV:=match f with
 | .len=>f1 fLen xs
 | .isinst t=>f1 (fun v=>some (.bl (isTy t v))) xs
 | .all=>f1 (onLst fun l=>(boolsAll l).map .bl) xs
 | .min1=>f1 (onLst fMin) xs
 | .max1=>f1 (onLst fMax) xs
 | .min2=>f2 (fI2 fun i j=>if j<i then j else i) xs
 | .max2=>f2 (fI2 fun i j=>if i<j then j else i) xs
 | .sum=>f1 (onLst fun l=>(intsOf l).map fun l=>.int l.sum) xs
 | .toInt=>f1 fInt xs
 | .repr=>f1 (fun v=>(reprOf v).map .str) xs
 | .tuple=>f1 fTuple xs
 | .list=>f1 fList xs
 | .sortSet=>f1 (onLst fSortSet) xs
 | _=>none
noncomputable def upC (c:Nat):Nat:=if 97≤c∧c≤122 then c - 32 else c
noncomputable def strsOf:List PV→Option (List (List Nat))
 | []=>some []
 | .str c::r=>(strsOf r).map (c :: ·)
 | _=>none
noncomputable def joinS (sep:List Nat):List (List Nat)→List Nat
 | []=>[]
 | [x]=>x
 | x::r=>x++sep++joinS sep r
@[simp] noncomputable def mFind:PV→List PV→Option PV
 | .str a,[.str b]=>some (.int (findI b a))
 | _,_=>none
@[simp] noncomputable def mUpper:PV→List PV→Option PV
 | .str a,[]=>if a.all (· < 128) then some (.str (a.map upC)) else none
 | _,_=>none
@[simp] noncomputable def mJoin:PV→List PV→Option PV
 | .str sep,[.lst xs]=>match strsOf xs with
  | some l=>if (l.map List.length).sum+l.length * sep.length≤SZ then some (.str (joinS sep l)) else none
  | none=>none
 | _,_=>none
noncomputable def indexIn (x:PV):List PV→Option Nat
 | []=>none
 | y::r=>if pyEq y x then some 0 else (indexIn x r).map (· + 1)
noncomputable def ixFind (x:PV) (xs:List PV):Option PV:=if depOk (dep x) (deps xs) then (indexIn x xs).map fun k=>.int (k:Int) else none
@[simp] noncomputable def mIndex:PV→List PV→Option PV
 | .lst xs,[x]=>ixFind x xs
 | .tup xs,[x]=>ixFind x xs
 | _,_=>none
@[simp] noncomputable def mCount:PV→List PV→Option PV
 | .lst xs,[x]=>if depOk (dep x) (deps xs) then some (.int ((xs.filter fun y=>pyEq y x).length:Nat)) else none
 | .tup xs,[x]=>if depOk (dep x) (deps xs) then some (.int ((xs.filter fun y=>pyEq y x).length:Nat)) else none
 | _,_=>none
@[simp] noncomputable def mtOp (m:Mt) (o:PV) (xs:List PV):Option PV:=match m with
 | .find=>mFind o xs
 | .upper=>mUpper o xs
 | .join=>mJoin o xs
 | .index=>mIndex o xs
 | .count=>mCount o xs
 | _=>none
@[simp] noncomputable def bindTg:Tg→Val→Store→Env→Option Env
 | .name i,v,_,env=>some (env.set i (some v))
 | .tup is,v,st,env=>match view st v with
  | some (.tup xs)=>if is.length=xs.length then some ((is.zip xs).foldl (fun e p=>e.set p.1 (some (.p p.2))) env) else none
  | _=>none
noncomputable def srcOk (st:Store):Option (Nat×List PV)→Bool
 | none=>true
 | some (n,xs)=>decide (view st (.ref n)=some (.lst xs))
@[simp] theorem srcOk_none (st:Store):srcOk st none=true:=rfl
noncomputable def compLoop (fe:Env→Store→Res Val) (fc:Option (Env→Store→Res Val)) (tgt:Tg) (src:Option (Nat×List PV)):List PV→Env→Store→List PV→Res (List PV)
 | [],_,st,acc=>if srcOk st src then .ok acc st else .stuck
 | x::r,env,st,acc =>
  if srcOk st src then
   match bindTg tgt (.p x) st env with
   | none=>.stuck
   | some env'=>(match fc with | none=>Res.ok (Val.p (.bl true)) st | some f=>f env' st).bindB fun b st1 =>
     if b then (fe env' st1).bindP fun y st2=>compLoop fe fc tgt src r env' st2 (acc++[y])
     else compLoop fe fc tgt src r env' st1 acc
  else .stuck
noncomputable def forLoop (body:Env→Store→Res Flow) (tgt:Tg) (src:Option (Nat×List PV)):List PV→Env→Store→Res Flow
 | [],env,st=>if srcOk st src then .ok (.next env) st else .stuck
 | x::r,env,st =>
  if srcOk st src then
   match bindTg tgt (.p x) st env with
   | none=>.stuck
   | some env'=>(body env' st).bind fun f st1=>match f with
    | .next env2=>forLoop body tgt src r env2 st1
    | .ret v=>.ok (.ret v) st1
  else .stuck
noncomputable def whileLoop (c:Env→Store→Res Val) (body:Env→Store→Res Flow):Nat→Env→Store→Res Flow
 | 0,_,_=>.stuck
 | k+1,env,st=>(c env st).bindB fun b st1=>if b then (body env st1).bind fun f st2=>match f with
   | .next env2=>whileLoop c body k env2 st2
   | .ret v=>.ok (.ret v) st2
  else .ok (.next env) st1
noncomputable abbrev CallF:=Nat→List Val→Store→Res Val
@[simp] noncomputable def mk (mt:Bool) (xs:List PV) (st:Store):Res Val:=if mt then .ok (.ref st.length) (st++[.lst xs]) else .ok (.p (.lst xs)) st
@[simp] noncomputable def mkDict (ks:List PV) (n:Nat) (xs:List PV) (st:Store):Res Val:=match objAt st n with
 | some (.dct [])=>.ok (.ref n) (st.set n (.dct ((ks.zip xs).foldl (fun d p=>dPut p.1 p.2 d) [])))
 | _=>.stuck
@[simp] noncomputable def capsOf (caps:List Nat) (n:Nat) (env:Env):Env:=caps.map (fun i=>(env[i]?).join)++List.replicate n none
@[simp] noncomputable def srcOf:Val→List PV→Option (Nat×List PV)
 | .ref n,xs=>some (n,xs)
 | .p _,_=>none
noncomputable def zipRows:List (List PV)→List PV
 | [a,b]=>(a.zip b).map fun p=>.tup [p.1,p.2]
 | [a,b,c]=>(a.zip (b.zip c)).map fun p=>.tup [p.1,p.2.1,p.2.2]
 | _=>[]
noncomputable def enumRows (xs:List PV):List PV:=xs.zipIdx.map fun p=>.tup [.int p.2,p.1]
noncomputable def lstAt (st:Store) (n:Nat):Option (List PV):=match objAt st n with
 | some (.lst l)=>some l
 | _=>none
@[simp] noncomputable def onRef (o:Val) (st:Store) (f:List PV→Option (PV×List PV)):Res Val:=match o with
 | .p _=>.stuck
 | .ref n=>match lstAt st n with
  | some l=>match f l with
   | some (x,l')=>.ok (.p x) (st.set n (.lst l'))
   | none=>.stuck
  | none=>.stuck
noncomputable def gAppend (xs:List PV) (l:List PV):Option (PV×List PV):=match xs with
 | [x]=>if l.length<SZ then some (.non,l++[x]) else none
 | _=>none
noncomputable def gExtend (xs:List PV) (l:List PV):Option (PV×List PV):=match xs with
 | [.lst ys]=>if l.length+ys.length≤SZ then some (.non,l++ys) else none
 | [.tup ys]=>if l.length+ys.length≤SZ then some (.non,l++ys) else none
 | _=>none
noncomputable def gReverse (xs:List PV) (l:List PV):Option (PV×List PV):=match xs with
 | []=>some (.non,l.reverse)
 | _=>none
noncomputable def gClear (xs:List PV) (_:List PV):Option (PV×List PV):=match xs with
 | []=>some (.non,[])
 | _=>none
noncomputable def gInsert (xs:List PV) (l:List PV):Option (PV×List PV):=match xs with
 | [.int i,x]=>if 0≤i∧i≤(l.length:Int)∧l.length<SZ then some (.non,l.take i.toNat++x::l.drop i.toNat) else none
 | _=>none
noncomputable def gPop (xs:List PV) (l:List PV):Option (PV×List PV):=match xs with
 | []=>match l.getLast? with
  | some x=>some (x,l.dropLast)
  | none=>none
 | _=>none
@[simp] noncomputable def methOp (m:Mt) (o:Val) (xs:List PV) (st:Store):Res Val:=match m with
 | .append=>onRef o st (gAppend xs)
 | .extend=>onRef o st (gExtend xs)
 | .reverse=>onRef o st (gReverse xs)
 | .pop=>onRef o st (gPop xs)
 | .clear=>onRef o st (gClear xs)
 | .insert=>onRef o st (gInsert xs)
 | m=>match view st o with
  | some v=>okO (mtOp m v xs) st
  | none=>.stuck
@[simp] noncomputable def ixVal (o:Val) (i:PV) (st:Store):Res Val :=
 match o with
 | .p v=>okO (ixOp v i) st
 | .ref n=>match objAt st n with
  | some (.lst xs)=>okO (ixOp (.lst xs) i) st
  | some (.dct kvs)=>okO (dGet i kvs) st
  | _=>.stuck
@[simp] noncomputable def isKey:PV→Bool
 | .int _=>true
 | .str _=>true
 | _=>false
@[simp] noncomputable def setL (xs:List PV) (i v:PV):Option (List PV):=match i with
 | .int k=>(ixAt xs.length k).map fun j=>xs.set j v
 | _=>none
@[simp] noncomputable def setIxVal (o:Val) (i v:PV) (st:Store):Res Unit :=
 match o with
 | .p _=>.stuck
 | .ref n=>match objAt st n with
  | some (.lst xs)=>match setL xs i v with
   | some ys=>.ok () (st.set n (.lst ys))
   | none=>.stuck
  | some (.dct kvs)=>if kvs.length<1000000∧isKey i=true then .ok () (st.set n (.dct (dPut i v kvs))) else .stuck
  | _=>.stuck
@[simp] noncomputable def freezeVal (v:Val) (st:Store):Res Val :=
 match v with
 | .p x=>.ok (.p x) st
 | .ref n=>match objAt st n with
  | some (.lst xs)=>.ok (.p (.lst xs)) (st.set n .dead)
  | _=>.stuck
@[simp] noncomputable def thawVal (x:PV) (st:Store):Res Val:=match x with
 | .lst xs=>.ok (.ref st.length) (st++[.lst xs])
 | _=>.stuck
@[simp] noncomputable def revOp:PV→Option PV
 | .tup xs=>some (.tup xs.reverse)
 | _=>none
noncomputable def op1 (f:PV→Option PV) (v:Val) (st:Store):Res Val:=match view st v with
 | some x=>okO (f x) st
 | none=>.stuck
@[simp] theorem op1_p {f x st}:op1 f (.p x) st=okO (f x) st:=rfl
noncomputable def op2 (f:PV→PV→Option PV) (v w:Val) (st:Store):Res Val:=match view st v with
 | some x=>match view st w with
  | some y=>okO (f x y) st
  | none=>.stuck
 | none=>.stuck
@[simp] theorem op2_p {f x y st}:op2 f (.p x) (.p y) st=okO (f x y) st:=rfl
noncomputable def views (st:Store):List Val→Option (List PV)
 | []=>some []
 | v::r=>match view st v with
  | some x=>match views st r with
   | some xs=>some (x::xs)
   | none=>none
  | none=>none
@[simp] theorem views_nil {st}:views st []=some []:=rfl
@[simp] theorem views_1 {st x}:views st [.p x]=some [x]:=rfl
@[simp] theorem views_2 {st x y}:views st [.p x,.p y]=some [x,y]:=rfl
noncomputable def opN (f:List PV→Option PV) (vs:List Val) (st:Store):Res Val:=match views st vs with
 | some xs=>okO (f xs) st
 | none=>.stuck
@[simp] theorem opN_1 {f x st}:opN f [.p x] st=okO (f [x]) st:=rfl
@[simp] theorem opN_2 {f x y st}:opN f [.p x,.p y] st=okO (f [x,y]) st:=rfl
@[simp] noncomputable def augOp (op:Bop) (x y:PV) (st:Store):Res Val:=match x,y with
 | .int i,.int j=>okO (binOp op (.int i) (.int j)) st
 | _,_=>.stuck
@[simp] noncomputable def seen (v:Val) (st:Store):Res Unit:=match view st v with
 | some _=>.ok () st
 | none=>.stuck
theorem zG5 {v:Val} {st st':Store} {u:Unit} (h:seen v st=.ok u st'):(∃ x,view st v=some x)∧st'=st:=by
 unfold seen at h
 cases e:view st v with
 | none=>rw [e] at h;cases h
 | some x=>rw [e] at h;cases h;exact ⟨⟨x,rfl⟩,rfl⟩
noncomputable def purs:List Val→Option (List PV)
 | []=>some []
 | .p x::r=>match purs r with
  | some xs=>some (x::xs)
  | none=>none
 | .ref _::_=>none
noncomputable def keeps:Mt→Bool
 | .append=>true
 | .insert=>true
 | _=>false
noncomputable def methN (m:Mt) (o:Val) (vs:List Val) (st:Store):Res Val:=match (if keeps m then purs vs else views st vs) with
 | some xs=>methOp m o xs st
 | none=>.stuck
@[simp] theorem methN_0 {m o st}:methN m o [] st=methOp m o [] st:=by unfold methN;cases m <;> rfl
@[simp] theorem methN_1 {m o x st}:methN m o [.p x] st=methOp m o [x] st:=by unfold methN;cases m <;> rfl
@[simp] theorem methN_2 {m o x y st}:methN m o [.p x,.p y] st=methOp m o [x,y] st:=by unfold methN;cases m <;> rfl
@[simp] noncomputable def varOf (env:Env) (i:Nat) (st:Store):Res Val:=match env[i]? with
 | some (some v)=>.ok v st
 | _=>.stuck
@[simp] noncomputable def negOp:PV→Option PV
 | .int i=>some (.int (-i))
 | _=>none
@[simp] noncomputable def walkOf (v:Val) (st:Store):Res (List PV×Option (Nat×List PV)):=match view st v with
 | some x=>match items x with
  | some xs=>.ok (xs,srcOf v xs) st
  | none=>.stuck
 | none=>.stuck
@[simp] noncomputable def walkR (x:PV) (st:Store):Res (List PV×Option (Nat×List PV)):=match x with
 | .int i=>if -1000000≤i∧i≤SZ then .ok ((List.range i.toNat).map (fun k:Nat=>PV.int (k:Int)),none) st else .stuck
 | _=>.stuck
@[simp] noncomputable def zItems:PV→Option (List PV)
 | .tup xs=>some xs
 | .lst xs=>some xs
 | _=>none
@[simp] noncomputable def walkZ (xs:List PV) (st:Store):Res (List PV×Option (Nat×List PV)):=match xs.mapM zItems with
 | some ls=>.ok (zipRows ls,none) st
 | none=>.stuck
@[simp] noncomputable def walkN (x:PV) (st:Store):Res (List PV×Option (Nat×List PV)):=match items x with
 | some xs=>.ok (enumRows xs,none) st
 | none=>.stuck
@[simp] noncomputable def intOf (x:PV) (st:Store):Res (Option Int):=match x with
 | .int i=>.ok (some i) st
 | _=>.stuck
mutual
noncomputable def evalE (C:CallF):E→Env→Store→Res Val
 | .var i,env,st=>varOf env i st
 | .const v,_,st=>.ok (.p v) st
 | .bin op a b,env,st=>(evalE C a env st).bind fun x st=>(evalE C b env st).bind fun y st=>op2 (binOp op) x y st
 | .neg a,env,st=>(evalE C a env st).bindV fun x st=>okO (negOp x) st
 | .not a,env,st=>(evalE C a env st).bindB fun b st=>.ok (.p (.bl (!b))) st
 | .cmp op a b,env,st=>(evalE C a env st).bind fun x st=>(evalE C b env st).bind fun y st=>op2 (cmpOp op) x y st
 | .chain op op' a b c,env,st=>(evalE C a env st).bind fun x st=>(evalE C b env st).bind fun y st=>(op2 (cmpOp op) x y st).bindB fun k st =>
   if k then (evalE C c env st).bind fun z st=>op2 (cmpOp op') y z st else .ok (.p (.bl false)) st
 | .and a b,env,st=>(evalE C a env st).bindB fun k st=>if k then evalE C b env st else .ok (.p (.bl false)) st
 | .or a b,env,st=>(evalE C a env st).bindB fun k st=>if k then .ok (.p (.bl true)) st else evalE C b env st
 | .ite c a b,env,st=>(evalE C c env st).bindB fun k st=>if k then evalE C a env st else evalE C b env st
 | .tup es,env,st=>(evalPs C es env st).bind fun xs st=>.ok (.p (.tup xs)) st
 | .list mt es,env,st=>(evalPs C es env st).bind fun xs st=>mk mt xs st
 | .dict ks es,env,st=>(evalPs C es env (st++[.dct []])).bind (mkDict ks st.length)
 | .ix a b,env,st=>(evalE C a env st).bind fun o st=>(evalE C b env st).bindV fun i st=>ixVal o i st
 | .slice a lo hi,env,st=>(evalE C a env st).bind fun x st=>(evalO C lo env st).bind fun l st=>(evalO C hi env st).bind fun h st=>op1 (fun x=>sliceOp x l h) x st
 | .call f es,env,st=>(evalEs C es env st).bind fun vs st=>C f vs st
 | .blt f es,env,st=>(evalEs C es env st).bind fun vs st=>opN (bfOp f) vs st
 | .meth m o es,env,st=>(evalE C o env st).bind fun v st=>(seen v st).bind fun _ st=>(evalEs C es env st).bind fun vs st=>methN m v vs st
 | .comp mt elt tgt it cond caps n,env,st=>(evalIt C it env st).bind fun p st =>
   (compLoop (evalE C elt) (match cond with | none=>none | some c=>some (evalE C c)) tgt p.2 p.1 (capsOf caps n env) st []).bind fun xs st=>mk mt xs st
 | .freeze e,env,st=>(evalE C e env st).bind freezeVal
 | .thaw e,env,st=>(evalE C e env st).bindP thawVal
 | .rev e,env,st=>(evalE C e env st).bind fun x st=>op1 revOp x st
/-- pure values,left to right -/
noncomputable def evalPs (C:CallF):List E→Env→Store→Res (List PV)
 | [],_,st=>.ok [] st
 | e::r,env,st=>(evalE C e env st).bindP fun x st=>(evalPs C r env st).bind fun xs st=>.ok (x::xs) st
/-- values as they are -/
noncomputable def evalEs (C:CallF):List E→Env→Store→Res (List Val)
 | [],_,st=>.ok [] st
 | e::r,env,st=>(evalE C e env st).bind fun x st=>(evalEs C r env st).bind fun xs st=>.ok (x::xs) st
noncomputable def evalO (C:CallF):Option E→Env→Store→Res (Option Int)
 | none,_,st=>.ok none st
 | some e,env,st=>(evalE C e env st).bindV intOf
/-- what is walked,and the list that must stay as it is -/
noncomputable def evalIt (C:CallF):It→Env→Store→Res (List PV×Option (Nat×List PV))
 | .of e,env,st=>(evalE C e env st).bind walkOf
 | .range e,env,st=>(evalE C e env st).bindV walkR
 | .zip es,env,st=>(evalPs C es env st).bind walkZ
 | .enum e,env,st=>(evalE C e env st).bindP walkN
end
@[simp] noncomputable def okN (o:Option Env) (st:Store):Res Flow:=match o with
 | some env=>.ok (.next env) st
 | none=>.stuck
mutual
noncomputable def execS (C:CallF) (W:Nat):S→Env→Store→Res Flow
 | .expr e,env,st=>(evalE C e env st).bind fun _ st=>.ok (.next env) st
 | .ret e,env,st=>(evalE C e env st).bind fun v st=>.ok (.ret v) st
 | .set i e,env,st=>(evalE C e env st).bind fun v st=>.ok (.next (env.set i (some v))) st
 | .setT is e,env,st=>(evalE C e env st).bind fun v st=>okN (bindTg (.tup is) v st env) st
 | .setIx o i v,env,st=>(evalE C v env st).bindP fun x st=>(evalE C o env st).bind fun ov st=>(evalE C i env st).bindV fun iv st=>(setIxVal ov iv x st).bind fun _ st=>.ok (.next env) st
 | .aug i op e,env,st=>(varOf env i st).bindP fun x st=>(evalE C e env st).bindV fun y st=>(okO (binOp op x y) st).bind fun v st=>.ok (.next (env.set i (some v))) st
 | .augI i op e,env,st=>(varOf env i st).bindP fun x st=>(evalE C e env st).bindV fun y st=>(augOp op x y st).bind fun v st=>.ok (.next (env.set i (some v))) st
 | .ite c a b,env,st=>(evalE C c env st).bindB fun k st=>if k then execSs C W a env st else execSs C W b env st
 | .for tgt it body,env,st=>(evalIt C it env st).bind fun p st=>forLoop (execSs C W body) tgt p.2 p.1 env st
 | .while c body,env,st=>whileLoop (evalE C c) (execSs C W body) W env st
 | .pass,env,st=>.ok (.next env) st
noncomputable def execSs (C:CallF) (W:Nat):List S→Env→Store→Res Flow
 | [],env,st=>.ok (.next env) st
 | s::r,env,st=>(execS C W s env st).bind fun f st=>match f with
  | .next env'=>execSs C W r env' st
  | .ret v=>.ok (.ret v) st
end
structure FD where
 params:Nat
 slots:Nat
 body:List S
noncomputable def trim (k:Nat) (v:Val) (st:Store):Store:=match v with
 | .p _=>st.take k
 | .ref n=>if n<k then st.take k else st
noncomputable def runF (P:List FD) (W:Nat):Nat→CallF
 | 0=>fun _ _ _=>.stuck
 | d+1=>fun f vs st=>match P[f]? with
  | none=>.stuck
  | some fd=>if vs.length=fd.params then
    (execSs (runF P W d) W fd.body (vs.map some++List.replicate (fd.slots - fd.params) none) st).bind fun fl st'=>match fl with
     | .ret v=>.ok v (trim st.length v st')
     | .next _=>.ok (.p .non) (st'.take st.length)
   else .stuck
noncomputable def compE (C:CallF) (elt:E) (cond:Option E) (tgt:Tg) (src:Option (Nat×List PV)) (xs:List PV) (env:Env) (st:Store) (acc:List PV):Res (List PV) :=
 compLoop (evalE C elt) (match cond with | none=>none | some c=>some (evalE C c)) tgt src xs env st acc
noncomputable def forE (C:CallF) (W:Nat) (body:List S) (tgt:Tg) (src:Option (Nat×List PV)) (xs:List PV) (env:Env) (st:Store):Res Flow:=forLoop (execSs C W body) tgt src xs env st
noncomputable def whileE (C:CallF) (W:Nat) (c:E) (body:List S) (k:Nat) (env:Env) (st:Store):Res Flow:=whileLoop (evalE C c) (execSs C W body) k env st
section
variable {C:CallF} {W:Nat} {env:Env} {st:Store}
@[simp] theorem ev_var {i}:evalE C (.var i) env st=varOf env i st:=rfl
@[simp] theorem ev_const {v}:evalE C (.const v) env st=.ok (.p v) st:=rfl
@[simp] theorem ev_bin {op a b}:evalE C (.bin op a b) env st=(evalE C a env st).bind fun x st=>(evalE C b env st).bind fun y st=>op2 (binOp op) x y st:=rfl
@[simp] theorem ev_neg {a}:evalE C (.neg a) env st=(evalE C a env st).bindV fun x st=>okO (negOp x) st:=rfl
@[simp] theorem ev_not {a}:evalE C (.not a) env st=(evalE C a env st).bindB fun b st=>.ok (.p (.bl (!b))) st:=rfl
@[simp] theorem ev_cmp {op a b}:evalE C (.cmp op a b) env st=(evalE C a env st).bind fun x st=>(evalE C b env st).bind fun y st=>op2 (cmpOp op) x y st:=rfl
@[simp] theorem ev_chain {op op' a b c}:evalE C (.chain op op' a b c) env st=(evalE C a env st).bind fun x st=>(evalE C b env st).bind fun y st=>(op2 (cmpOp op) x y st).bindB fun k st =>
      if k then (evalE C c env st).bind fun z st=>op2 (cmpOp op') y z st else .ok (.p (.bl false)) st:=rfl
@[simp] theorem ev_and {a b}:evalE C (.and a b) env st=(evalE C a env st).bindB fun k st=>if k then evalE C b env st else .ok (.p (.bl false)) st:=rfl
@[simp] theorem ev_or {a b}:evalE C (.or a b) env st=(evalE C a env st).bindB fun k st=>if k then .ok (.p (.bl true)) st else evalE C b env st:=rfl
@[simp] theorem ev_ite {c a b}:evalE C (.ite c a b) env st=(evalE C c env st).bindB fun k st=>if k then evalE C a env st else evalE C b env st:=rfl
@[simp] theorem ev_tup {es}:evalE C (.tup es) env st=(evalPs C es env st).bind fun xs st=>.ok (.p (.tup xs)) st:=rfl
@[simp] theorem ev_list {mt es}:evalE C (.list mt es) env st=(evalPs C es env st).bind fun xs st=>mk mt xs st:=rfl
@[simp] theorem ev_dict {ks es}:evalE C (.dict ks es) env st=(evalPs C es env (st++[.dct []])).bind (mkDict ks st.length):=rfl
@[simp] theorem ev_ix {a b}:evalE C (.ix a b) env st=(evalE C a env st).bind fun o st=>(evalE C b env st).bindV fun i st=>ixVal o i st:=rfl
@[simp] theorem ev_slice {a lo hi}:evalE C (.slice a lo hi) env st=(evalE C a env st).bind fun x st=>(evalO C lo env st).bind fun l st=>(evalO C hi env st).bind fun h st=>op1 (fun x=>sliceOp x l h) x st:=rfl
@[simp] theorem ev_call {f es}:evalE C (.call f es) env st=(evalEs C es env st).bind fun vs st=>C f vs st:=rfl
@[simp] theorem ev_blt {f es}:evalE C (.blt f es) env st=(evalEs C es env st).bind fun vs st=>opN (bfOp f) vs st:=rfl
@[simp] theorem ev_meth {m o es}:evalE C (.meth m o es) env st=(evalE C o env st).bind fun v st=>(seen v st).bind fun _ st=>(evalEs C es env st).bind fun vs st=>methN m v vs st:=rfl
@[simp] theorem ev_comp {mt elt tgt it cond caps n}:evalE C (.comp mt elt tgt it cond caps n) env st=(evalIt C it env st).bind fun p st=>(compE C elt cond tgt p.2 p.1 (capsOf caps n env) st []).bind fun xs st=>mk mt xs st:=by cases cond <;> (rw [evalE];rfl)
@[simp] theorem ev_freeze {e}:evalE C (.freeze e) env st=(evalE C e env st).bind freezeVal:=rfl
@[simp] theorem ev_thaw {e}:evalE C (.thaw e) env st=(evalE C e env st).bindP thawVal:=rfl
@[simp] theorem ev_rev {e}:evalE C (.rev e) env st=(evalE C e env st).bind fun x st=>op1 revOp x st:=rfl
@[simp] theorem evPs_nil:evalPs C [] env st=.ok [] st:=rfl
@[simp] theorem evPs_cons {e r}:evalPs C (e::r) env st=(evalE C e env st).bindP fun x st=>(evalPs C r env st).bind fun xs st=>.ok (x::xs) st:=rfl
@[simp] theorem evEs_nil:evalEs C [] env st=.ok [] st:=rfl
@[simp] theorem evEs_cons {e r}:evalEs C (e::r) env st=(evalE C e env st).bind fun x st=>(evalEs C r env st).bind fun xs st=>.ok (x::xs) st:=rfl
@[simp] theorem evO_none:evalO C none env st=.ok none st:=rfl
@[simp] theorem evO_some {e}:evalO C (some e) env st=(evalE C e env st).bindV intOf:=rfl
@[simp] theorem evIt_of {e}:evalIt C (.of e) env st=(evalE C e env st).bind walkOf:=rfl
@[simp] theorem evIt_range {e}:evalIt C (.range e) env st=(evalE C e env st).bindV walkR:=rfl
@[simp] theorem evIt_zip {es}:evalIt C (.zip es) env st=(evalPs C es env st).bind walkZ:=rfl
@[simp] theorem evIt_enum {e}:evalIt C (.enum e) env st=(evalE C e env st).bindP walkN:=rfl
@[simp] theorem ex_expr {e}:execS C W (.expr e) env st=(evalE C e env st).bind fun _ st=>.ok (.next env) st:=rfl
@[simp] theorem ex_ret {e}:execS C W (.ret e) env st=(evalE C e env st).bind fun v st=>.ok (.ret v) st:=rfl
@[simp] theorem ex_set {i e}:execS C W (.set i e) env st=(evalE C e env st).bind fun v st=>.ok (.next (env.set i (some v))) st:=rfl
@[simp] theorem ex_setT {is e}:execS C W (.setT is e) env st=(evalE C e env st).bind fun v st=>okN (bindTg (.tup is) v st env) st:=rfl
@[simp] theorem ex_setIx {o i v}:execS C W (.setIx o i v) env st=(evalE C v env st).bindP fun x st=>(evalE C o env st).bind fun ov st=>(evalE C i env st).bindV fun iv st=>(setIxVal ov iv x st).bind fun _ st=>.ok (.next env) st:=rfl
@[simp] theorem ex_aug {i op e}:execS C W (.aug i op e) env st=(varOf env i st).bindP fun x st=>(evalE C e env st).bindV fun y st=>(okO (binOp op x y) st).bind fun v st=>.ok (.next (env.set i (some v))) st:=rfl
@[simp] theorem ex_augI {i op e}:execS C W (.augI i op e) env st=(varOf env i st).bindP fun x st=>(evalE C e env st).bindV fun y st=>(augOp op x y st).bind fun v st=>.ok (.next (env.set i (some v))) st:=rfl
@[simp] theorem ex_ite {c a b}:execS C W (.ite c a b) env st=(evalE C c env st).bindB fun k st=>if k then execSs C W a env st else execSs C W b env st:=rfl
@[simp] theorem ex_for {tgt it body}:execS C W (.for tgt it body) env st=(evalIt C it env st).bind fun p st=>forE C W body tgt p.2 p.1 env st:=rfl
@[simp] theorem ex_while {c body}:execS C W (.while c body) env st=whileE C W c body W env st:=rfl
@[simp] theorem ex_pass:execS C W .pass env st=.ok (.next env) st:=rfl
@[simp] theorem exs_nil:execSs C W [] env st=.ok (.next env) st:=rfl
noncomputable def thenS (C:CallF) (W:Nat) (r:List S) (f:Flow) (st:Store):Res Flow:=match f with
 | .next env'=>execSs C W r env' st
 | .ret v=>.ok (.ret v) st
@[simp] theorem thenS_next {r env'}:thenS C W r (.next env') st=execSs C W r env' st:=rfl
@[simp] theorem thenS_ret {r v}:thenS C W r (.ret v) st=.ok (.ret v) st:=rfl
@[simp] theorem exs_cons {s r}:execSs C W (s::r) env st=(execS C W s env st).bind (thenS C W r):=rfl
theorem zC7 {elt cond tgt acc}:compE C elt cond tgt none [] env st acc=.ok acc st:=by unfold compE;rw [compLoop];simp
theorem forE_nil {body tgt}:forE C W body tgt none [] env st=.ok (.next env) st:=by unfold forE;rw [forLoop];simp
noncomputable def leave (k:Nat) (fl:Flow) (st':Store):Res Val:=match fl with
 | .ret v=>.ok v (trim k v st')
 | .next _=>.ok (.p .non) (st'.take k)
@[simp] theorem leave_ret {k v st'}:leave k (.ret v) st'=.ok v (trim k v st'):=rfl
@[simp] theorem leave_next {k env st'}:leave k (.next env) st'=.ok (.p .non) (st'.take k):=rfl
theorem zb3 {P:List FD} {d f:Nat} {vs:List Val} {fd:FD} (h:P[f]?=some fd) (hl:vs.length=fd.params) :
  runF P W (d+1) f vs st=(execSs (runF P W d) W fd.body (vs.map some++List.replicate (fd.slots - fd.params) none) st).bind (leave st.length):=by
 simp only [runF,h,hl,if_true]
 rfl
@[simp] theorem trim_p {k v}:trim k (.p v) st=st.take k:=rfl
@[simp] theorem take_len:List.take (List.length st) st=st:=List.take_length
end
theorem zn4 {α:Type} (p:α→Bool):∀ xs:List α,boolsAll (xs.map fun x=>PV.bl (p x))=some (xs.all p)
 | []=>rfl
 | x::r=>by
  rw [List.map_cons,boolsAll,zn4 p r,List.all_cons]
  rfl
theorem zU3 {st:Store} {n:Nat} {o:PObj}:List.take (List.length st) (st.set n o)=st.set n o:=by
 rw [List.take_of_length_le (by simp)]
end OR
namespace OR
def Sat {α:Type}:Res α→(α→Store→Prop)→Prop
 | .ok a st,Q=>Q a st
 | .exn _ _ _,_=>False
 | .stuck,_=>False
section
variable {α β:Type}
theorem zu1 {r:Res α} {Q:α→Store→Prop}:Sat r Q↔∃ a st,r=.ok a st∧Q a st:=by
 cases r with
 | ok a st=>exact ⟨fun h=>⟨a,st,rfl,h⟩,fun ⟨_,_,e,h⟩=>by cases e;exact h⟩
 | exn _ _ _=>exact ⟨False.elim,fun ⟨_,_,e,_⟩=>(by cases e)⟩
 | stuck=>exact ⟨False.elim,fun ⟨_,_,e,_⟩=>(by cases e)⟩
@[simp] theorem sat_ok {a:α} {st:Store} {Q:α→Store→Prop}:Sat (.ok a st) Q=Q a st:=rfl
@[simp] theorem sat_bind {r:Res α} {f:α→Store→Res β} {Q:β→Store→Prop}:Sat (r.bind f) Q=Sat r fun a st=>Sat (f a st) Q:=by
 cases r <;> rfl
theorem Sat.mono {r:Res α} {Q Q':α→Store→Prop} (h:Sat r Q) (g:∀ a st,Q a st→Q' a st):Sat r Q':=by
 cases r with
 | ok a st=>exact g a st h
 | exn _ _ _=>exact h
 | stuck=>exact h
theorem sat_eq {r:Res α} {a:α} {st:Store} {Q:α→Store→Prop} (h:r=.ok a st) (q:Q a st):Sat r Q:=by rw [h];exact q
noncomputable def asB (v:Val) (f:Bool→Store→Res β) (st:Store):Res β:=match v with
 | .p (.bl b)=>f b st
 | _=>.stuck
noncomputable def asP (v:Val) (f:PV→Store→Res β) (st:Store):Res β:=match v with
 | .p x=>f x st
 | _=>.stuck
noncomputable def asV (v:Val) (f:PV→Store→Res β) (st:Store):Res β:=match view st v with
 | some x=>f x st
 | none=>.stuck
@[simp] theorem asB_p {b:Bool} {f:Bool→Store→Res β} {st:Store}:asB (.p (.bl b)) f st=f b st:=rfl
@[simp] theorem asP_p {x:PV} {f:PV→Store→Res β} {st:Store}:asP (.p x) f st=f x st:=rfl
@[simp] theorem asV_p {x:PV} {f:PV→Store→Res β} {st:Store}:asV (.p x) f st=f x st:=rfl
@[simp] theorem asV_ref {n:Nat} {f:PV→Store→Res β} {st:Store}:asV (.ref n) f st=match view st (.ref n) with | some x=>f x st | none=>.stuck:=rfl
@[simp] theorem sat_bindB {r:Res Val} {f:Bool→Store→Res β} {Q:β→Store→Prop}:Sat (r.bindB f) Q=Sat r fun v st=>Sat (asB v f st) Q:=by cases r <;> rfl
@[simp] theorem sat_bindP {r:Res Val} {f:PV→Store→Res β} {Q:β→Store→Prop}:Sat (r.bindP f) Q=Sat r fun v st=>Sat (asP v f st) Q:=by cases r <;> rfl
@[simp] theorem sat_bindV {r:Res Val} {f:PV→Store→Res β} {Q:β→Store→Prop}:Sat (r.bindV f) Q=Sat r fun v st=>Sat (asV v f st) Q:=by cases r <;> rfl
@[simp] theorem sat_ite {c:Prop} [Decidable c] {a b:Res α} {Q:α→Store→Prop}:Sat (if c then a else b) Q↔(if c then Sat a Q else Sat b Q):=by split <;> rfl
@[simp] theorem sat_okO {o:Option PV} {st:Store} {Q:Val→Store→Prop}:Sat (okO o st) Q↔∃ x,o=some x∧Q (.p x) st:=by
 cases o with
 | none=>exact ⟨False.elim,fun ⟨_,e,_⟩=>(by cases e)⟩
 | some x=>exact ⟨fun h=>⟨x,rfl,h⟩,fun ⟨_,e,q⟩=>(by cases e;exact q)⟩
end
theorem zp7 {C:CallF} {e:E} {cond:Option E} {tgt:Tg} (J:List PV→Env→Store→List PV→Prop) :
  ∀ (xs:List PV) (env:Env) (st:Store) (acc:List PV),J xs env st acc →
  (∀ x r env st acc,J (x::r) env st acc→∃ env',bindTg tgt (.p x) st env=some env' ∧
   Sat (match cond with | none=>Res.ok (Val.p (.bl true)) st | some c=>evalE C c env' st) (fun v st1=>∃ b,v=.p (.bl b) ∧
    if b=true then Sat (evalE C e env' st1) (fun v st2=>∃ y,v=.p y∧J r env' st2 (acc++[y])) else J r env' st1 acc)) →
  Sat (compE C e cond tgt none xs env st acc) (fun ys st'=>∃ env',J [] env' st' ys)
 | [],env,st,acc,h,_=>by rw [zC7];exact ⟨env,h⟩
 | x::r,env,st,acc,h,step=>by
  obtain ⟨env',h1,hs⟩:=step x r env st acc h
  obtain ⟨v,st1,h2,b,rfl,h3⟩:=zu1.mp hs
  cases b with
  | true =>
   rw [if_pos rfl] at h3
   obtain ⟨_,st2,h4,y,rfl,h5⟩:=zu1.mp h3
   have ih:=zp7 (C:=C) (e:=e) (cond:=cond) (tgt:=tgt) J r env' st2 (acc++[y]) h5 step
   unfold compE at ih ⊢
   rw [compLoop]
   cases cond with
   | none=>cases h2;simpa only [srcOk_none,if_true,h1,Res.bindB_ok,h4,Res.bindP_ok] using ih
   | some c=>simpa only [srcOk_none,if_true,h1,h2,Res.bindB_ok,h4,Res.bindP_ok] using ih
  | false =>
   rw [if_neg (by simp)] at h3
   have ih:=zp7 (C:=C) (e:=e) (cond:=cond) (tgt:=tgt) J r env' st1 acc h3 step
   unfold compE at ih ⊢
   rw [compLoop]
   cases cond with
   | none=>cases h2
   | some c=>simpa only [srcOk_none,if_true,h1,h2,Res.bindB_ok,Bool.false_eq_true,if_false] using ih
theorem zo5 {C:CallF} {W:Nat} {body:List S} {tgt:Tg} (J:List PV→Env→Store→Prop):∀ (xs:List PV) (env:Env) (st:Store),
  J xs env st →
  (∀ x r env st,J (x::r) env st→∃ env',bindTg tgt (.p x) st env=some env'∧Sat (execSs C W body env' st) (fun f st2=>∃ env2,f=.next env2∧J r env2 st2)) →
  Sat (forE C W body tgt none xs env st) (fun f st'=>∃ env',f=.next env'∧J [] env' st')
 | [],env,st,h,_=>by rw [forE_nil];exact ⟨env,rfl,h⟩
 | x::r,env,st,h,step=>by
  obtain ⟨env',h1,hs⟩:=step x r env st h
  obtain ⟨_,st2,h2,env2,rfl,h3⟩:=zu1.mp hs
  have ih:=zo5 (C:=C) (W:=W) (body:=body) (tgt:=tgt) J r env2 st2 h3 step
  unfold forE at ih ⊢
  rw [forLoop]
  simpa only [srcOk_none,if_true,h1,h2,Res.bind_ok] using ih
theorem zs7 {n:Nat} (h:n≤16777216):n≤SZ:=by unfold SZ;exact h
theorem zO1 {n:Nat} (h:n<16777216):n<SZ:=by unfold SZ;exact h
theorem zu9 {n:Int} (h:n≤16777216):n≤(SZ:Int):=by unfold SZ;exact h
theorem zx9 {α β:Type} (f:α→β) (xs:List α) (lo hi:Option Int):cut (xs.map f) lo hi=(cut xs lo hi).map f:=by
 unfold cut;simp
theorem zz2 {α:Type} (xs:List α) (r:Int) (h:0≤r):cut xs (some r) none=xs.drop r.toNat:=by
 simp only [cut,sIx,if_pos h]
 rw [List.take_of_length_le (by simp)]
 by_cases hr:r.toNat≤xs.length
 ·rw [Nat.min_eq_left hr]
 ·rw [Nat.min_eq_right (by omega),List.drop_of_length_le (by simp),List.drop_of_length_le (by omega)]
theorem zy4 {α:Type} (xs:List α) (r:Int) (h:0≤r):cut xs none (some r)=xs.take r.toNat:=by
 simp only [cut,sIx,if_pos h,List.drop_zero,Nat.sub_zero]
 by_cases hr:r.toNat≤xs.length
 ·rw [Nat.min_eq_left hr]
 ·rw [Nat.min_eq_right (by omega),List.take_of_length_le (by simp),List.take_of_length_le (by omega)]
theorem zQ9 {α:Type} (xs:List α) (a b:Int) (h:0≤a) (hb:0≤b) (hx:b≤xs.length):cut xs (some a) (some b)=(xs.drop a.toNat).take (b.toNat - a.toNat):=by
 simp only [cut,sIx,if_pos h,if_pos hb]
 rw [Nat.min_eq_left (a:=b.toNat) (by omega)]
 by_cases hr:a.toNat≤xs.length
 ·rw [Nat.min_eq_left hr]
 ·rw [Nat.min_eq_right (by omega),List.drop_of_length_le (by simp),List.drop_of_length_le (by omega)]
  simp
theorem zX8 {C:CallF} {W:Nat} {a b:List S} {env:Env} {st:Store}:execSs C W (a++b) env st=(execSs C W a env st).bind (thenS C W b):=by
 induction a generalizing env st with
 | nil=>simp
 | cons s r ih =>
  simp only [List.cons_append,exs_cons]
  cases execS C W s env st with
  | ok f st'=>cases f with
   | next env'=>simp only [Res.bind_ok,thenS_next,ih]
   | ret v=>rfl
  | exn c as st'=>rfl
  | stuck=>rfl
theorem zH4 {α:Type} (xs:List α) (i:Int) (h0:0≤i) (h1:i<xs.length):∃ x,xs[i.toNat]?=some x∧x∈xs∧ixAt xs.length i=some i.toNat :=
 ⟨xs[i.toNat],List.getElem?_eq_getElem (by omega),List.getElem_mem _,by unfold ixAt;rw [if_pos h0,if_pos h1]⟩
theorem zw1 {α:Type} (xs:List α) (r:Nat):(xs.drop r++xs.take r).Perm xs:=by
 have:=List.perm_append_comm (l₁:=xs.drop r) (l₂:=xs.take r)
 rwa [List.take_append_drop] at this
theorem zg8 {α:Type} {C:CallF} {e:E} {tgt:Tg} (g f:α→PV) {st:Store} (I:Env→Prop):∀ (xs:List α) (env:Env) (acc:List PV),
  I env→(∀ x∈xs,∀ env,I env→∃ env',bindTg tgt (.p (g x)) st env=some env'∧I env'∧evalE C e env' st=.ok (.p (f x)) st) →
  compE C e none tgt none (xs.map g) env st acc=.ok (acc++xs.map f) st
 | [],env,acc,_,_=>by simp [zC7]
 | x::r,env,acc,hI,h=>by
  obtain ⟨env',h1,hI',h2⟩:=h x (by simp) env hI
  have ih:=zg8 (C:=C) (e:=e) (tgt:=tgt) g f I r env' (acc++[f x]) hI' fun y hy=>h y (List.mem_cons_of_mem _ hy)
  unfold compE at ih ⊢
  rw [List.map_cons,compLoop]
  simp only [srcOk_none,if_true,h1,Res.bindB_ok,h2,Res.bindP_ok]
  rw [ih]
  simp
theorem zd5 {α:Type} {C:CallF} {e c:E} {tgt:Tg} (g:α→PV) (p:α→Bool) (f:α→PV) {st:Store} (I:Env→Prop):∀ (xs:List α) (env:Env) (acc:List PV),
  I env→(∀ x∈xs,∀ env,I env→∃ env',bindTg tgt (.p (g x)) st env=some env'∧I env'∧evalE C c env' st=.ok (.p (.bl (p x))) st∧(p x=true→evalE C e env' st=.ok (.p (f x)) st)) →
  compE C e (some c) tgt none (xs.map g) env st acc=.ok (acc++(xs.filter p).map f) st
 | [],env,acc,_,_=>by simp [zC7]
 | x::r,env,acc,hI,h=>by
  obtain ⟨env',h1,hI',h2,h3⟩:=h x (by simp) env hI
  have ih:=fun acc=>zd5 (C:=C) (e:=e) (c:=c) (tgt:=tgt) g p f I r env' acc hI' fun y hy=>h y (List.mem_cons_of_mem _ hy)
  unfold compE at ih ⊢
  rw [List.map_cons,compLoop]
  simp only [srcOk_none,if_true,h1,h2,Res.bindB_ok]
  cases hp:p x with
  | true=>simp only [if_true,h3 hp,Res.bindP_ok];rw [ih];simp [hp]
  | false=>simp only [Bool.false_eq_true,if_false];rw [ih];simp [hp]
theorem zN4 {C:CallF} {W:Nat} {c:E} {body:List S} (J:Nat→Env→Store→Prop) (Q:Env→Store→Prop) (h0:∀ env st,¬ J 0 env st)
  (step:∀ k env st,J (k+1) env st→Sat (evalE C c env st) (fun v st1=>∃ b,v=.p (.bl b)∧if b=true then Sat (execSs C W body env st1) (fun f st2=>∃ env2,f=.next env2∧J k env2 st2) else Q env st1)) :
  ∀ (k:Nat) (env:Env) (st:Store),J k env st→Sat (whileE C W c body k env st) (fun f st'=>∃ env',f=.next env'∧Q env' st')
 | 0,env,st,h=>absurd h (h0 env st)
 | k+1,env,st,h=>by
  obtain ⟨v,st1,e1,b,rfl,h1⟩:=zu1.mp (step k env st h)
  unfold whileE
  rw [whileLoop,e1,Res.bindB_ok]
  cases b with
  | false =>
   rw [if_neg (by simp)] at h1 ⊢
   exact ⟨_,rfl,h1⟩
  | true =>
   rw [if_pos rfl] at h1 ⊢
   obtain ⟨f,st2,e2,env2,rfl,h2⟩:=zu1.mp h1
   rw [e2,Res.bind_ok]
   exact zN4 J Q h0 step k env2 st2 h2
theorem zb6 {α:Type} {r:Res α} {x:α} {st:Store} (h:Sat r fun a s=>a=x∧s=st):r=.ok x st:=by
 obtain ⟨a,s,e,rfl,rfl⟩:=zu1.mp h
 exact e
theorem zi6 {st:Store} {k:Nat} {xs:List PV} (h:objAt st k=some (.lst xs)):view st (.ref k)=some (.lst xs):=by
 simp only [view,h]
theorem zu8 {st:Store} {k:Nat} {xs:List PV} (h:objAt st k=some (.lst xs)):lstAt st k=some xs:=by
 simp only [lstAt,h]
theorem zn1 {S:Store} {o:PObj} {n:Nat} (h:n=S.length):objAt (S++[o]) n=some o:=by rw [h];exact objAt_new
theorem Sat.k0 {α β:Type} {r:Res α} {Q:α→Store→Prop} {F:β→α} {P:β→Prop} {R:Store→Prop} (h:Sat r fun v st=>(∃ x,v=F x∧P x)∧R st) (k:∀ x st,P x→R st→Q (F x) st):Sat r Q:=by
 refine h.mono ?_
 rintro _ st ⟨⟨x,rfl,p⟩,q⟩
 exact k x st p q
theorem Sat.k1 {α β:Type} {r:Res α} {Q:α→Store→Prop} {F:β→α} {P P':β→Prop} {R:Store→Prop} (h:Sat r fun v st=>(∃ x,v=F x∧P x∧P' x)∧R st) (k:∀ x st,P x→P' x→R st→Q (F x) st):Sat r Q:=by
 refine h.mono ?_
 rintro _ st ⟨⟨x,rfl,p,p'⟩,q⟩
 exact k x st p p' q
theorem za4 {C:CallF} {W:Nat} {s:S} {r:List S} {env:Env} {st:Store} {Q:Flow→Store→Prop} (h:Sat (execS C W s env st) fun a st=>Sat (thenS C W r a st) Q):Sat (execSs C W (s::r) env st) Q:=by
 rw [exs_cons,sat_bind];exact h
theorem zR5 {C:CallF} {W i:Nat} {s t:List Nat} {b r:List S} {env:Env} {st:Store} {Q:Flow→Store→Prop} (h1:env[i]?=some (some (.p (.str t)))) (h2:decide (t=s)=false)
  (h:Sat (execSs C W r env st) Q):Sat (execSs C W (.ite (.cmp .eq (.var i) (.const (.str s))) b []::r) env st) Q:=by
 have h3:pyEq (.str t) (.str s)=false:=by rw [pyEq];exact h2
 rw [exs_cons,sat_bind]
 simp [-exs_cons,-thenS_next,h1,h3]
 simp only [thenS_next,exs_nil,sat_ok]
 exact h
theorem zb5 {C:CallF} {W i j:Nat} {x:PV} {xs:List PV} {r:List S} {env:Env} {st:Store} {Q:Flow→Store→Prop} (h1:env[j]?=some (some (.p (.tup (x::xs)))))
  (h:Sat (execSs C W r (env.set i (some (.p x))) st) Q):Sat (execSs C W (.set i (.ix (.var j) (.const (.int 0)))::r) env st) Q:=by
 rw [exs_cons,sat_bind]
 have h0:(0:Int)<(xs.length:Int)+1:=by omega
 simp [-exs_cons,-thenS_next,h1,ixAt,h0]
 simp only [thenS_next]
 exact h
@[simp high] theorem varOf_zero {v:Val} {env:Env} {st:Store}:varOf (some v::env) 0 st=.ok v st:=rfl
@[simp high] theorem varOf_succ {a:Option Val} {env:Env} {i:Nat} {st:Store}:varOf (a::env) (i+1) st=varOf env i st:=rfl
@[simp] theorem ixVal_p {v i:PV} {st:Store}:ixVal (.p v) i st=okO (ixOp v i) st:=rfl
@[simp] theorem ixVal_ref {n:Nat} {i:PV} {st:Store}:ixVal (.ref n) i st=match objAt st n with | some (.lst xs)=>okO (ixOp (.lst xs) i) st | some (.dct kvs)=>okO (dGet i kvs) st | _=>.stuck:=rfl
@[simp] theorem walkOf_t {xs:List PV} {st:Store}:walkOf (.p (.tup xs)) st=.ok (xs,none) st:=rfl
@[simp] theorem walkOf_l {xs:List PV} {st:Store}:walkOf (.p (.lst xs)) st=.ok (xs,none) st:=rfl
@[simp] theorem walkOf_ref {n:Nat} {st:Store}:walkOf (.ref n) st=match view st (.ref n) with | some x=>(match items x with | some xs=>.ok (xs,srcOf (.ref n) xs) st | none=>.stuck) | none=>.stuck:=rfl
@[simp high] theorem o_lenT {xs:List PV} {st:Store}:opN (bfOp .len) [.p (.tup xs)] st=.ok (.p (.int xs.length)) st:=rfl
@[simp high] theorem o_lenL {xs:List PV} {st:Store}:opN (bfOp .len) [.p (.lst xs)] st=.ok (.p (.int xs.length)) st:=rfl
@[simp high] theorem o_tupL {xs:List PV} {st:Store}:opN (bfOp .tuple) [.p (.lst xs)] st=.ok (.p (.tup xs)) st:=rfl
@[simp high] theorem o_lstT {xs:List PV} {st:Store}:opN (bfOp .list) [.p (.tup xs)] st=.ok (.p (.lst xs)) st:=rfl
@[simp 20000] theorem ix_10 {x:PV} {st:Store}:ixVal (.p (.tup [x])) (.int 0) st=.ok (.p x) st:=rfl
@[simp 20000] theorem ix_20 {x y:PV} {st:Store}:ixVal (.p (.tup [x,y])) (.int 0) st=.ok (.p x) st:=rfl
@[simp 20000] theorem ix_21 {x y:PV} {st:Store}:ixVal (.p (.tup [x,y])) (.int 1) st=.ok (.p y) st:=rfl
@[simp 20000] theorem ix_30 {x y z:PV} {st:Store}:ixVal (.p (.tup [x,y,z])) (.int 0) st=.ok (.p x) st:=rfl
@[simp 20000] theorem ix_31 {x y z:PV} {st:Store}:ixVal (.p (.tup [x,y,z])) (.int 1) st=.ok (.p y) st:=rfl
@[simp 20000] theorem ix_32 {x y z:PV} {st:Store}:ixVal (.p (.tup [x,y,z])) (.int 2) st=.ok (.p z) st:=rfl
@[simp high] theorem eqS_p {a b:List Nat} {st:Store}:op2 (cmpOp .eq) (.p (.str a)) (.p (.str b)) st=.ok (.p (.bl (decide (a=b)))) st:=rfl
@[simp high] theorem neB_p {a b:Bool} {st:Store}:op2 (cmpOp .ne) (.p (.bl a)) (.p (.bl b)) st=.ok (.p (.bl (a != b))) st:=rfl
@[simp high] theorem eqB_p {a b:Bool} {st:Store}:op2 (cmpOp .eq) (.p (.bl a)) (.p (.bl b)) st=.ok (.p (.bl (a==b))) st:=rfl
@[simp high] theorem neS_p {a b:List Nat} {st:Store}:op2 (cmpOp .ne) (.p (.str a)) (.p (.str b)) st=.ok (.p (.bl (!decide (a=b)))) st:=rfl
@[simp high] theorem neI_p {a b:Int} {st:Store}:op2 (cmpOp .ne) (.p (.int a)) (.p (.int b)) st=.ok (.p (.bl (!decide (a=b)))) st:=rfl
@[simp high] theorem ltI_p {a b:Int} {st:Store}:op2 (cmpOp .lt) (.p (.int a)) (.p (.int b)) st=.ok (.p (.bl (decide (a<b)))) st:=rfl
@[simp high] theorem gtI_p {a b:Int} {st:Store}:op2 (cmpOp .gt) (.p (.int a)) (.p (.int b)) st=.ok (.p (.bl (decide (b<a)))) st:=rfl
@[simp high] theorem geI_p {a b:Int} {st:Store}:op2 (cmpOp .ge) (.p (.int a)) (.p (.int b)) st=.ok (.p (.bl (decide (b≤a)))) st:=rfl
@[simp high] theorem eqI_p {a b:Int} {st:Store}:op2 (cmpOp .eq) (.p (.int a)) (.p (.int b)) st=.ok (.p (.bl (decide (a=b)))) st:=rfl
@[simp high] theorem addI_p {a b:Int} {st:Store}:op2 (binOp .add) (.p (.int a)) (.p (.int b)) st=.ok (.p (.int (a+b))) st:=rfl
@[simp high] theorem subI_p {a b:Int} {st:Store}:op2 (binOp .sub) (.p (.int a)) (.p (.int b)) st=.ok (.p (.int (a - b))) st:=rfl
theorem za5 {C:CallF} {W:Nat} {c:E} {b r:List S} {env:Env} {st:Store} {Q:Flow→Store→Prop} (h1:evalE C c env st=.ok (.p (.bl false)) st)
  (h:Sat (execSs C W r env st) Q):Sat (execSs C W (.ite c b []::r) env st) Q:=by
 rw [exs_cons,sat_bind,ex_ite,h1]
 exact h
theorem zb8 {C:CallF} {W:Nat} {c:E} {b b2 r:List S} {env:Env} {st:Store} {Q:Flow→Store→Prop} (h1:evalE C c env st=.ok (.p (.bl true)) st)
  (h:Sat (execSs C W b env st) fun f st1=>Sat (thenS C W r f st1) Q):Sat (execSs C W (.ite c b b2::r) env st) Q:=by
 rw [exs_cons,sat_bind,ex_ite,h1]
 exact h
theorem zz8 {C:CallF} {W i:Nat} {e:E} {r:List S} {env:Env} {st:Store} {Q:Flow→Store→Prop} (v:PV) (h1:evalE C e env st=.ok (.p v) st)
  (h:Sat (execSs C W r (env.set i (some (.p v))) st) Q):Sat (execSs C W (.set i e::r) env st) Q:=by
 rw [exs_cons,sat_bind,ex_set,h1]
 exact h
theorem zy8 {C:CallF} {W:Nat} {e:E} {r:List S} {env:Env} {st:Store} {Q:Flow→Store→Prop} (h:Sat (evalE C e env st) fun v st'=>Q (.ret v) st'):Sat (execSs C W (.ret e::r) env st) Q:=by
 rw [exs_cons,sat_bind,ex_ret,sat_bind]
 exact h
theorem ret_sat {C:CallF} {W:Nat} {e:E} {r:List S} {env:Env} {st:Store} {Q:Flow→Store→Prop} {v:Val} {st':Store} (h1:evalE C e env st=.ok v st')
  (h:Q (.ret v) st'):Sat (execSs C W (.ret e::r) env st) Q:=by
 rw [exs_cons,sat_bind,ex_ret,h1]
 exact h
@[simp high] theorem ev_compN {C:CallF} {env:Env} {st:Store} {mt:Bool} {elt:E} {tgt:Tg} {it:It} {caps:List Nat} {n:Nat}:evalE C (.comp mt elt tgt it none caps n) env st=(evalIt C it env st).bind fun p st=>(compE C elt none tgt p.2 p.1 (capsOf caps n env) st []).bind fun xs st=>mk mt xs st:=rfl
@[simp high] theorem ev_compS {C:CallF} {env:Env} {st:Store} {mt:Bool} {elt c:E} {tgt:Tg} {it:It} {caps:List Nat} {n:Nat}:evalE C (.comp mt elt tgt it (some c) caps n) env st=(evalIt C it env st).bind fun p st=>(compE C elt (some c) tgt p.2 p.1 (capsOf caps n env) st []).bind fun xs st=>mk mt xs st:=rfl
mutual
noncomputable def wt:PV→Nat
 | .non=>4
 | .bl _=>5
 | .int _=>40
 | .str cs=>cs.length+2
 | .tup xs=>3+wts xs
 | .lst xs=>3+wts xs
noncomputable def wts:List PV→Nat
 | []=>0
 | x::r=>wt x+2+wts r
end
mutual
/-- numbers to a bound,texts of plain signs -/
noncomputable def okv (B:Nat):PV→Bool
 | .int i=>decide (i.natAbs≤B)
 | .str cs=>cs.all okC
 | .tup xs=>okvs B xs
 | .lst xs=>okvs B xs
 | _=>true
noncomputable def okvs (B:Nat):List PV→Bool
 | []=>true
 | x::r=>okv B x&&okvs B r
end
@[simp] theorem wt_non:wt .non=4:=by rw [wt]
@[simp] theorem wt_bl {b}:wt (.bl b)=5:=by rw [wt]
@[simp] theorem wt_int {b}:wt (.int b)=40:=by rw [wt]
@[simp] theorem wt_str {b}:wt (.str b)=b.length+2:=by rw [wt]
@[simp] theorem wt_tup {b}:wt (.tup b)=3+wts b:=by rw [wt]
@[simp] theorem wt_lst {b}:wt (.lst b)=3+wts b:=by rw [wt]
@[simp] theorem wts_nil:wts []=0:=by rw [wts]
@[simp] theorem wts_cons {x r}:wts (x::r)=wt x+2+wts r:=by rw [wts]
@[simp] theorem wts_app {a b}:wts (a++b)=wts a+wts b:=by
 induction a with
 | nil=>simp
 | cons x r ih=>simp [ih];lia
theorem wts_sub {a b:List PV} (h:a.Sublist b):wts a≤wts b:=by
 induction h with
 | slnil=>simp
 | cons x _ ih=>simp;lia
 | cons_cons x _ ih=>simp;lia
theorem zJ4 {x:PV} {xs:List PV} (h:x∈xs):wt x+2≤wts xs:=by
 induction xs with
 | nil=>cases h
 | cons y r ih =>
  rcases List.mem_cons.mp h with rfl | h
  ·simp
  ·have:=ih h;simp;lia
@[simp] theorem okv_non {B}:okv B .non=true:=by rw [okv] <;> simp
@[simp] theorem okv_bl {B b}:okv B (.bl b)=true:=by rw [okv] <;> simp
@[simp] theorem okv_int {B i}:okv B (.int i)=decide (i.natAbs≤B):=by rw [okv]
@[simp] theorem okv_str {B cs}:okv B (.str cs)=cs.all okC:=by rw [okv]
theorem okvs_eq {B xs}:okvs B xs=xs.all (okv B):=by
 induction xs with
 | nil=>rw [okvs];rfl
 | cons x r ih=>rw [okvs,ih];rfl
@[simp] theorem okv_tup {B xs}:okv B (.tup xs)=xs.all (okv B):=by rw [okv,okvs_eq]
@[simp] theorem okv_lst {B xs}:okv B (.lst xs)=xs.all (okv B):=by rw [okv,okvs_eq]
mutual
theorem okv_mono {B B':Nat} (h:B≤B'):∀ v,okv B v=true→okv B' v=true
 | .non,_=>by simp
 | .bl _,_=>by simp
 | .int i,g=>by simp at g ⊢;lia
 | .str _,g=>by simpa using g
 | .tup xs,g=>by rw [okv] at g ⊢;exact okvs_mono h xs g
 | .lst xs,g=>by rw [okv] at g ⊢;exact okvs_mono h xs g
theorem okvs_mono {B B':Nat} (h:B≤B'):∀ v,okvs B v=true→okvs B' v=true
 | [],_=>by rw [okvs]
 | x::r,g=>by
  rw [okvs,Bool.and_eq_true] at g ⊢
  exact ⟨okv_mono h x g.1,okvs_mono h r g.2⟩
end
theorem zx3 {xs:List PV} {d:Nat}:deps xs≤d↔∀ x∈xs,dep x≤d:=by
 induction xs with
 | nil=>simp
 | cons x r ih=>simp [ih,Nat.max_le]
theorem zW2 {i:Int} (h:i.natAbs<10 ^ 38):(intTxt i).length≤39:=by
 unfold intTxt
 rw [List.length_map,String.length_toList]
 have q:∀ n:Nat,n<10 ^ 38→(Nat.repr n).length≤38:=fun n hn=>by
  exact (Nat.length_repr_le_iff (by lia)).mpr hn
 cases i with
 | ofNat n =>
  show (Nat.repr n).length≤39
  have:=q n h
  lia
 | negSucc n =>
  have e:toString (Int.negSucc n) = "-" ++ Nat.repr (n+1):=rfl
  rw [e,String.length_append]
  have:=q (n+1) h
  have e1 : "-".length=1:=rfl
  lia
theorem zD1:∀ ts:List (List Nat),(joinC ts).length≤(ts.map fun t=>t.length+2).sum
 | []=>by simp [joinC]
 | [x]=>by simp [joinC]
 | x::y::r=>by
  have:=zD1 (y::r)
  rw [joinC]
  ·simp at this ⊢;lia
  ·simp
mutual
theorem shown_ok {B:Nat} (hB:B<10 ^ 38):∀ v,okv B v=true→∃ t,shownP v=some t∧t.length≤wt v
 | .non,_=>⟨_,by rw [shownP],by simp⟩
 | .bl true,_=>⟨_,by rw [shownP],by simp [tTrue]⟩
 | .bl false,_=>⟨_,by rw [shownP],by simp [tFalse]⟩
 | .int i,h=>by
  simp at h
  refine ⟨intTxt i,?_,?_⟩
  ·rw [shownP,if_pos]
   by_cases h0:i.natAbs=0
   ·rw [h0];decide
   ·rw [Nat.log2_lt h0]
    exact Nat.lt_of_le_of_lt h (Nat.lt_trans hB (by decide +kernel))
  ·have:=zW2 (i:=i) (by lia);simp;lia
 | .str cs,h=>by
  simp only [okv_str] at h
  exact ⟨_,by rw [shownP,if_pos h],by simp⟩
 | .tup xs,h=>by
  rw [okv] at h
  obtain ⟨ts,h1,h2⟩:=showns_ok hB xs h
  refine ⟨tupTxt ts,by rw [shownP,h1],?_⟩
  have:=zD1 ts
  unfold tupTxt
  split <;> simp <;> lia
 | .lst xs,h=>by
  rw [okv] at h
  obtain ⟨ts,h1,h2⟩:=showns_ok hB xs h
  refine ⟨lstTxt ts,by rw [shownP,h1],?_⟩
  have:=zD1 ts
  unfold lstTxt
  simp;lia
theorem showns_ok {B:Nat} (hB:B<10 ^ 38):∀ v,okvs B v=true→∃ ts,shownPs v=some ts∧(ts.map fun t=>t.length+2).sum≤wts v
 | [],_=>⟨[],by rw [shownPs],by simp⟩
 | x::r,h=>by
  rw [okvs,Bool.and_eq_true] at h
  obtain ⟨t,h1,h2⟩:=shown_ok hB x h.1
  obtain ⟨ts,h3,h4⟩:=showns_ok hB r h.2
  exact ⟨t::ts,by rw [shownPs,h1,h3],by simp;lia⟩
end
theorem zO0 {B:Nat} {v:PV} (hB:B<10 ^ 38) (h:okv B v=true) (hd:dep v≤100) (hw:wt v≤16777216):∃ t,reprOf v=some t:=by
 obtain ⟨t,h1,h2⟩:=shown_ok hB v h
 have q:deepRepr v=some t:=by
  unfold deepRepr
  rw [h1]
  exact if_pos ⟨hd,zs7 (by lia)⟩
 cases v with
 | bl b=>cases b <;> exact ⟨_,rfl⟩
 | _=>exact ⟨t,q⟩
noncomputable def plc (ns:List (List Nat)) (s:List Nat):Int:=match ns with
 | []=>-1
 | n::r=>if n=s then 0 else if plc r s=-1 then -1 else plc r s+1
theorem zO5 {s}:plc [] s=-1:=by rw [plc]
theorem zl2 {n r s}:plc (n::r) s=if n=s then 0 else if plc r s=-1 then -1 else plc r s+1:=by rw [plc]
theorem zV1 {s}:∀ {ns:List (List Nat)},-1≤plc ns s
 | []=>by rw [zO5];lia
 | n::r=>by
  have:=zV1 (s:=s) (ns:=r)
  rw [zl2]
  repeat' split
  all_goals lia
theorem zt7 {s}:∀ {ns:List (List Nat)},0≤plc ns s↔s∈ns
 | []=>by rw [zO5];simp
 | n::r=>by
  have h1:=zt7 (s:=s) (ns:=r)
  have h2:=zV1 (s:=s) (ns:=r)
  rw [zl2,List.mem_cons]
  by_cases h:n=s
  ·subst h;simp
  ·rw [if_neg h]
   have hs:¬ s=n:=fun e=>h e.symm
   simp only [hs,false_or,← h1]
   split <;> lia
theorem zA2 {s}:∀ {ns:List (List Nat)},s∈ns→(indexIn (.str s) (ns.map .str)).map (fun k=>PV.int (k:Int))=some (.int (plc ns s))
 | [],h=>by cases h
 | n::r,h=>by
  rw [List.map_cons,indexIn,zl2,pyEq]
  by_cases e:n=s
  ·simp [e]
  ·have hr:s∈r:=by
    rcases List.mem_cons.mp h with h | h
    ·exact absurd h.symm e
    ·exact h
   have h0:=zt7.mpr hr
   have ih:=zA2 hr
   rw [if_neg (by simpa using e),if_neg e,if_neg (by lia)]
   cases hi:indexIn (.str s) (r.map .str) with
   | none=>rw [hi] at ih;simp at ih
   | some k =>
    rw [hi] at ih
    simp at ih ⊢
    lia
theorem zo9 {s} {ns:List (List Nat)} (h:s∈ns):ixFind (.str s) (ns.map .str)=some (.int (plc ns s)):=by
 unfold ixFind
 rw [if_pos (by simp),zA2 h]
noncomputable abbrev Nm:=List Nat
inductive Reach (ps:List (Nm×Nm)):Nm→Nm→Prop where
 | refl (a:Nm):Reach ps a a
 | step {a b c:Nm}:Reach ps a b→(b,c)∈ps→Reach ps a c
theorem Reach.trans {ps a b c} (h:Reach ps a b) (g:Reach ps b c):Reach ps a c:=by
 induction g with
 | refl=>exact h
 | step _ m ih=>exact ih.step m
noncomputable def addAll (s:Nm):List (Nm×Nm)→List Nm→List Nm
 | [],f=>f
 | p::r,f=>addAll s r (if p.1=s∧p.2∉f then f++[p.2] else f)
theorem zw9 {s:Nm}:∀ {ps:List (Nm×Nm)} {f:List Nm},∃ g,addAll s ps f=f++g
 | [],f=>⟨[],by simp [addAll]⟩
 | p::r,f=>by
  rw [addAll]
  split
  ·obtain ⟨g,e⟩:=zw9 (s:=s) (ps:=r) (f:=f++[p.2])
   exact ⟨p.2::g,by rw [e];simp⟩
  ·exact zw9
theorem zl5 {s x:Nm}:∀ {ps:List (Nm×Nm)} {f:List Nm},x∈addAll s ps f↔x∈f∨(s,x)∈ps
 | [],f=>by simp [addAll]
 | p::r,f=>by
  obtain ⟨a,b⟩:=p
  rw [addAll,zl5 (ps:=r)]
  by_cases h:a=s∧b∉f
  ·rw [if_pos h]
   simp only [List.mem_append,List.mem_cons,List.not_mem_nil,or_false,Prod.mk.injEq]
   obtain ⟨rfl,h2⟩:=h
   constructor
   ·rintro ((h | h) | h)
    ·exact .inl h
    ·exact .inr (.inl ⟨rfl,h⟩)
    ·exact .inr (.inr h)
   ·rintro (h | ⟨_,h⟩ | h)
    ·exact .inl (.inl h)
    ·exact .inl (.inr h)
    ·exact .inr h
  ·rw [if_neg h]
   simp only [List.mem_cons,Prod.mk.injEq]
   constructor
   ·rintro (h | h)
    ·exact .inl h
    ·exact .inr (.inr h)
   ·rintro (h' | ⟨rfl,rfl⟩ | h')
    ·exact .inl h'
    ·left
     by_cases hx:x∈f
     ·exact hx
     ·exact absurd ⟨rfl,hx⟩ h
    ·exact .inr h'
theorem zC3 {s:Nm}:∀ {ps:List (Nm×Nm)} {f:List Nm},f.Nodup→(addAll s ps f).Nodup
 | [],f,h=>by simpa [addAll] using h
 | p::r,f,h=>by
  rw [addAll]
  split
  ·rename_i hp
   refine zC3 ?_
   rw [List.nodup_append]
   refine ⟨h,by simp,?_⟩
   intro a ha b hb e
   have:b=p.2:=by simpa using hb
   subst this e
   exact hp.2 ha
  ·exact zC3 h
noncomputable def bfs (ps:List (Nm×Nm)):Nat→List Nm→Nat→List Nm
 | 0,f,_=>f
 | k+1,f,i=>match f[i]? with
  | some s=>bfs ps k (addAll s ps f) (i+1)
  | none=>f
noncomputable def nov (ps:List (Nm×Nm)) (n:Nm):List Nm:=bfs ps 60 [n] 0
theorem nodup_len {f g:List Nm} (hf:f.Nodup) (h:∀ x∈f,x∈g):f.length≤g.length:=by
 induction f generalizing g with
 | nil=>simp
 | cons a r ih =>
  rw [List.nodup_cons] at hf
  have ha:=h a (by simp)
  have:=ih (g:=g.erase a) hf.2 fun x hx=>by
   have hne:x≠a:=fun e=>hf.1 (e▸hx)
   exact (List.mem_erase_of_ne hne).mpr (h x (List.mem_cons_of_mem _ hx))
  rw [List.length_erase_of_mem ha] at this
  have hg:0<g.length:=List.length_pos_of_mem ha
  simp;lia
structure BInv (ps:List (Nm×Nm)) (n:Nm) (f:List Nm) (i:Nat):Prop where
 nd:f.Nodup
 here:n∈f
 ok:∀ x∈f,Reach ps n x
 cl:∀ j<i,∀ a c,f[j]?=some a→(a,c)∈ps→c∈f
 sub:∀ x∈f,x∈n::ps.map Prod.snd
 le:i≤f.length
theorem BInv.next {ps n f i s} (h:BInv ps n f i) (hs:f[i]?=some s):BInv ps n (addAll s ps f) (i+1):=by
 obtain ⟨g,e⟩:=zw9 (s:=s) (ps:=ps) (f:=f)
 have hil:i<f.length:=(List.getElem?_eq_some_iff.mp hs).1
 refine ⟨zC3 h.nd,zl5.mpr (.inl h.here),fun x hx=>?_,fun j hj a c ha hac=>?_,fun x hx=>?_,by rw [e];simp;lia⟩
 ·rcases zl5.mp hx with hx | hx
  ·exact h.ok x hx
  ·exact (h.ok s (List.mem_of_getElem? hs)).step hx
 ·have ha':f[j]?=some a:=by
   rw [e,List.getElem?_append_left (by lia)] at ha
   exact ha
  rcases Nat.lt_or_ge j i with hlt | hge
  ·exact zl5.mpr (.inl (h.cl j hlt a c ha' hac))
  ·have:j=i:=by lia
   subst this
   rw [hs] at ha';cases ha'
   exact zl5.mpr (.inr hac)
 ·rcases zl5.mp hx with hx | hx
  ·exact h.sub x hx
  ·exact List.mem_cons_of_mem _ (List.mem_map.mpr ⟨_,hx,rfl⟩)
theorem BInv.len {ps n f i} (h:BInv ps n f i):f.length≤ps.length+1:=by
 have:=nodup_len h.nd h.sub
 simpa using this
theorem bfs_inv {ps n}:∀ (k:Nat) (f:List Nm) (i:Nat),BInv ps n f i→ps.length+1<i+k→∃ j,BInv ps n (bfs ps k f i) j∧(bfs ps k f i).length≤j
 | 0,f,i,h,hk=>⟨i,by rw [bfs];exact h,by have:=h.len;rw [bfs];lia⟩
 | k+1,f,i,h,hk=>by
  rw [bfs]
  cases e:f[i]? with
  | none=>exact ⟨i,h,by rw [List.getElem?_eq_none_iff] at e;exact e⟩
  | some s=>exact bfs_inv k _ (i+1) (h.next e) (by lia)
theorem binv0 {ps n}:BInv ps n [n] 0:=by
 refine ⟨by simp,by simp,?_,by lia,by simp,by simp⟩
 intro x hx
 have:x=n:=by simpa using hx
 subst this;exact .refl _
theorem zk6 {ps:List (Nm×Nm)} {n x:Nm} (hl:ps.length≤50):x∈nov ps n↔Reach ps n x:=by
 obtain ⟨j,h,hj⟩:=bfs_inv (ps:=ps) (n:=n) 60 [n] 0 binv0 (by lia)
 constructor
 ·exact h.ok x
 ·intro r
  show x∈bfs ps 60 [n] 0
  induction r with
  | refl=>exact h.here
  | step _ m ih =>
   obtain ⟨k,hk,e⟩:=List.getElem_of_mem ih
   exact h.cl k (by lia) _ _ (by rw [List.getElem?_eq_getElem hk,e]) m
noncomputable def upRow (ps:List (Nm×Nm)) (f:List Nm):List Nm:=f++(ps.filter fun p=>decide (p.1∈f)&&decide (p.2∉f)).map Prod.snd
noncomputable def ups (ps:List (Nm×Nm)):Nat→List Nm→List Nm
 | 0,f=>f
 | k+1,f=>ups ps k (upRow ps f)
theorem zw4 {ps f x}:x∈upRow ps f↔x∈f∨∃ a∈f,(a,x)∈ps:=by
 unfold upRow
 rw [List.mem_append,List.mem_map]
 constructor
 ·rintro (h | ⟨p,hp,rfl⟩)
  ·exact .inl h
  ·rw [List.mem_filter] at hp
   simp at hp
   exact .inr ⟨p.1,hp.2.1,hp.1⟩
 ·rintro (h | ⟨a,ha,hx⟩)
  ·exact .inl h
  ·by_cases hf:x∈f
   ·exact .inl hf
   ·exact .inr ⟨(a,x),List.mem_filter.mpr ⟨hx,by simp [ha,hf]⟩,rfl⟩
theorem ups_ok {ps n}:∀ (k:Nat) (f:List Nm),(∀ x∈f,Reach ps n x)→∀ x∈ups ps k f,Reach ps n x
 | 0,f,h=>h
 | k+1,f,h=>by
  rw [ups]
  refine ups_ok k _ fun x hx=>?_
  rcases zw4.mp hx with hx | ⟨a,ha,hx⟩
  ·exact h x hx
  ·exact (h a ha).step hx
theorem zS4 {ps}:∀ (k:Nat) (f:List Nm) x,x∈f→x∈ups ps k f
 | 0,f,x,h=>h
 | k+1,f,x,h=>zS4 k _ x (zw4.mpr (.inl h))
def Cld (ps:List (Nm×Nm)) (f:List Nm):Prop:=∀ a∈f,∀ c,(a,c)∈ps→c∈f
theorem up_cld {ps f} (h:Cld ps f):upRow ps f=f:=by
 unfold upRow
 have:(ps.filter fun p=>decide (p.1∈f)&&decide (p.2∉f))=[]:=by
  rw [List.filter_eq_nil_iff]
  intro p hp hc
  simp at hc
  exact hc.2 (h p.1 hc.1 p.2 hp)
 rw [this];simp
theorem ups_cld {ps}:∀ (k:Nat) {f:List Nm},Cld ps f→ups ps k f=f
 | 0,f,_=>rfl
 | k+1,f,h=>by rw [ups,up_cld h];exact ups_cld k h
noncomputable def cnt (ns f:List Nm):Nat:=(ns.filter fun n=>decide (n∈f)).length
theorem cnt_le {ns f:List Nm}:cnt ns f≤ns.length:=List.length_filter_le _ _
theorem cnt_lt {ns f g:List Nm} {c:Nm} (h:∀ x∈f,x∈g) (hc:c∈ns) (h1:c∉f) (h2:c∈g):cnt ns f+1≤cnt ns g:=by
 unfold cnt
 induction ns with
 | nil=>cases hc
 | cons n r ih =>
  rw [List.filter_cons,List.filter_cons]
  by_cases e:n=c
  ·subst e
   rw [if_neg (by simpa using h1),if_pos (by simpa using h2)]
   have:(r.filter fun n=>decide (n∈f)).length≤(r.filter fun n=>decide (n∈g)).length:=by
    clear ih hc
    induction r with
    | nil=>simp
    | cons m r ih2 =>
     rw [List.filter_cons,List.filter_cons]
     by_cases hm:m∈f
     ·rw [if_pos (by simpa using hm),if_pos (by simpa using h m hm)];simp;exact ih2
     ·rw [if_neg (by simpa using hm)]
      split
      ·simp;lia
      ·exact ih2
   simp;lia
  ·have hc':c∈r:=by
    rcases List.mem_cons.mp hc with h | h
    ·exact absurd h.symm e
    ·exact h
   have:=ih hc'
   by_cases hm:n∈f
   ·rw [if_pos (by simpa using hm),if_pos (by simpa using h n hm)];simp;lia
   ·rw [if_neg (by simpa using hm)]
    split
    ·simp;lia
    ·exact this
theorem ups_or {ps ns} (hp:∀ p∈ps,p.2∈ns):∀ (k:Nat) (f:List Nm),Cld ps (ups ps k f)∨cnt ns f+k≤cnt ns (ups ps k f)
 | 0,f=>.inr (Nat.le_refl _)
 | k+1,f=>by
  by_cases h:Cld ps f
  ·left;rw [ups_cld (k+1) h];exact h
  ·unfold Cld at h
   simp only [Classical.not_forall] at h
   obtain ⟨a,ha,c,hc,hcf⟩:=h
   have h1:cnt ns f+1≤cnt ns (upRow ps f):=cnt_lt (fun x hx=>zw4.mpr (.inl hx)) (hp _ hc) hcf (zw4.mpr (.inr ⟨a,ha,hc⟩))
   rw [ups]
   rcases ups_or hp k (upRow ps f) with h | h
   ·exact .inl h
   ·exact .inr (by lia)
theorem mem_ups {ps:List (Nm×Nm)} {ns:List Nm} {n x:Nm} (hp:∀ p∈ps,p.2∈ns) (hn:n∈ns):x∈ups ps ns.length [n]↔Reach ps n x:=by
 have hc:Cld ps (ups ps ns.length [n]):=by
  rcases ups_or hp ns.length [n] with h | h
  ·exact h
  ·have h1:=cnt_le (ns:=ns) (f:=ups ps ns.length [n])
   have h2:1≤cnt ns [n]:=by
    unfold cnt
    exact List.length_pos_of_mem (List.mem_filter.mpr ⟨hn,by simp⟩)
   lia
 constructor
 ·exact ups_ok _ _ (fun x hx=>by rw [show x=n by simpa using hx];exact .refl _) x
 ·intro r
  induction r with
  | refl=>exact zS4 _ _ _ (by simp)
  | step _ m ih=>exact hc _ ih _ m
end OR
namespace L2
open PySem PySem.Spec PyProof.Rows
noncomputable abbrev Key:=Sum Int Str
noncomputable def keyIs:Key→Value→Bool
 | .inl k,v=>Value.isInt k v
 | .inr x,v=>Value.isStrOf x v
noncomputable def keyH (w:World):Key→Int
 | .inl k=>hashInt k
 | .inr x=>hashStr w x
theorem zi3:∀ {k:Key} {v:Value},keyIs k v=true→(∃ i t,k=Sum.inl i∧v=Value.int i t)∨(∃ x t,k=Sum.inr x∧v=Value.str x t)
 | .inl i,v,h=>by
  obtain ⟨t,e⟩:=Value.isInt_shape (k:=i) (v:=v) h
  exact .inl ⟨i,t,rfl,e⟩
 | .inr x,v,h=>by
  obtain ⟨t,e⟩:=Value.isStrOf_shape (x:=x) (v:=v) h
  exact .inr ⟨x,t,rfl,e⟩
theorem keyIs_int (i:Int) (t:Tok):keyIs (.inl i) (.int i t)=true:=by simp [keyIs,Value.isInt]
theorem keyIs_str (x:Str) (t:Tok):keyIs (.inr x) (.str x t)=true:=by simp [keyIs,Value.isStrOf]
theorem key_ll (a b:Int):decide ((Sum.inl a:Key)=Sum.inl b)=(a==b):=by
 by_cases e:a=b
 ·subst e;simp
 ·have h:¬ (Sum.inl a:Key)=Sum.inl b:=fun q=>e (Sum.inl.inj q)
  rw [decide_eq_false h]
  exact (beq_eq_false_iff_ne.mpr e).symm
theorem key_rr (a b:Str):decide ((Sum.inr a:Key)=Sum.inr b)=decide (a=b):=by
 by_cases e:a=b
 ·subst e;simp
 ·have h:¬ (Sum.inr a:Key)=Sum.inr b:=fun q=>e (Sum.inr.inj q)
  rw [decide_eq_false h,decide_eq_false e]
theorem key_lr (a:Int) (b:Str):decide ((Sum.inl a:Key)=Sum.inr b)=false:=decide_eq_false (fun q=>nomatch q)
theorem key_rl (a:Str) (b:Int):decide ((Sum.inr a:Key)=Sum.inl b)=false:=decide_eq_false (fun q=>nomatch q)
noncomputable def mixKind (prog:Program) (w:World):PySem.KeyKind prog w Key where
 is:=keyIs
 hash:=keyH w
 inj:=fun v a b ha hb=>by
  rcases zi3 ha with ⟨i,t,rfl,rfl⟩ | ⟨x,t,rfl,rfl⟩
  ·rcases zi3 hb with ⟨j,u,rfl,e⟩ | ⟨y,u,rfl,e⟩
   ·injection e with e1 _;rw [e1]
   ·exact nomatch e
  ·rcases zi3 hb with ⟨j,u,rfl,e⟩ | ⟨y,u,rfl,e⟩
   ·exact nomatch e
   ·injection e with e1 _;rw [e1]
 byValue:=fun k v h=>by
  rcases zi3 h with ⟨i,t,rfl,rfl⟩ | ⟨x,t,rfl,rfl⟩ <;> rfl
 pyHash:=fun hv h=>by
  rcases zi3 hv with ⟨i,t,rfl,rfl⟩ | ⟨x,t,rfl,rfl⟩
  ·exact wpAny_pyHash_int h
  ·exact wpAny_pyHash_str h
 eqBool:=fun hu hv h=>by
  rcases zi3 hu with ⟨i,t,rfl,rfl⟩ | ⟨x,t,rfl,rfl⟩
  ·rcases zi3 hv with ⟨j,u,rfl,rfl⟩ | ⟨y,u,rfl,rfl⟩
   ·rw [key_ll] at h;exact wpAny_eqBool_int h
   ·rw [key_lr] at h;exact SeqAt.EqAt.int_str i t y u _ _ _ _ h
  ·rcases zi3 hv with ⟨j,u,rfl,rfl⟩ | ⟨y,u,rfl,rfl⟩
   ·rw [key_rl] at h;exact SeqAt.EqAt.str_int x t j u _ _ _ _ h
   ·rw [key_rr] at h;exact wpAny_eqBool_str h
 «strs»:=fun k x t v h=>by
  rcases zi3 h with ⟨i,u,rfl,e⟩ | ⟨y,u,rfl,e⟩
  ·exact nomatch e
  ·injection e with e1 _
   subst e1
   cases v <;> rfl
theorem zP2 (prog:Program) (w:World) (i:Int) (t:Tok):(mixKind prog w).is (.inl i) (.int i t)=true:=keyIs_int i t
theorem zQ1 (prog:Program) (w:World) (x:Str) (t:Tok):(mixKind prog w).is (.inr x) (.str x t)=true:=keyIs_str x t
end L2
namespace L2
open PySem PySem.Spec PyProof.Rows
inductive V where
 | non | bl (b:Bool) | int (i:Int) | str (x:Str) | byt (b:Array UInt8) | flt (b:UInt64) | ref (a:Addr) | ty (n:String)
 deriving DecidableEq
def RelV:V→Value→Prop
 | .non,u=>u=Value.none
 | .bl b,u=>u=Value.bool b
 | .int i,u=>∃ t,u=Value.int i t
 | .str x,u=>∃ t,u=Value.str x t
 | .byt b,u=>∃ t,u=Value.bytes b t
 | .flt b,u=>∃ t,u=Value.float b t
 | .ref a,u=>u=Value.ref a
 | .ty n,u=>u=Value.type n
noncomputable abbrev Vals:List V→List Value→Prop:=Paired RelV
theorem Vals.length {xs:List V} {us:List Value} (r:Vals xs us):xs.length=us.length:=Paired.length r
theorem Vals.get:∀ {xs:List V} {us:List Value} {i:Nat} {x:V},Vals xs us→xs[i]?=some x→∃ u,us[i]?=some u∧RelV x u
 | _,_,_,_,.nil,e=>by simp at e
 | _,_,0,_,.cons r _,e=>by simp at e;subst e;exact ⟨_,rfl,r⟩
 | _,_,i+1,x,.cons _ t,e=>by
  obtain ⟨u,h1,h2⟩:=Vals.get (i:=i) (x:=x) t (by simpa using e)
  exact ⟨u,by simpa using h1,h2⟩
theorem Vals.set {x:V} {u:Value} (r:RelV x u):∀ {xs:List V} {us:List Value} (i:Nat),Vals xs us→Vals (xs.set i x) (us.set i u)
 | _,_,_,.nil=>.nil
 | _,_,0,.cons _ t=>.cons r t
 | _,_,i+1,.cons q t=>.cons q (Vals.set r i t)
theorem Vals.append:∀ {xs ys:List V} {us ws:List Value},Vals xs us→Vals ys ws→Vals (xs++ys) (us++ws)
 | _,_,_,_,.nil,s=>s
 | _,_,_,_,.cons r t,s=>.cons r (Vals.append t s)
theorem Vals.take:∀ {xs:List V} {us:List Value} (n:Nat),Vals xs us→Vals (xs.take n) (us.take n)
 | _,_,0,_=>.nil
 | _,_,_+1,.nil=>.nil
 | _,_,n+1,.cons r t=>.cons r (Vals.take n t)
theorem Vals.drop:∀ {xs:List V} {us:List Value} (n:Nat),Vals xs us→Vals (xs.drop n) (us.drop n)
 | _,_,0,r=>r
 | _,_,_+1,.nil=>.nil
 | _,_,n+1,.cons _ t=>Vals.drop n t
def RelO:Option V→Option Value→Prop
 | some v,some u=>RelV v u
 | none,none=>True
 | _,_=>False
def KV {κ:Type}:List (κ×V)→List (κ×Value)→Prop:=Paired fun (p:κ×V) (q:κ×Value)=>p.1=q.1∧RelV p.2 q.2
noncomputable def kV:Key→V
 | .inl i=>.int i
 | .inr x=>.str x
inductive HO where
 /-- a list -/
 | lst (xs:List V)
 /-- a tuple (never changes) -/
 | tup (xs:List V)
 /-- a dict whose keys are ints and texts;one whose keys are tuples of ints and texts (the empty one is both) -/
 | dK (kvs:List (Key×V)) | dT (kvs:List (List Key×V))
 /-- a set of ints: its members,its size -/
 | set (S:Int→Bool) (n:Nat)
 /-- an instance of the class at C,its dict at dx,its attributes -/
 | ins (C dx:Addr) (fs:List (Str×V))
 /-- the dict of the instance at x -/
 | own (x:Addr)
 /-- the dict of an exception -/
 | xd (fs:List (Str×V))
 /-- a bound method,f of x -/
 | met (f x:Addr)
 /-- a range object lo,lo+1,.. below hi -/
 | rng (lo hi:Int)
 /-- a thing that is known to the object (the script;a dict while a loop walks it): read,never written while it is so -/
 | frz (o:Obj) (u:HO)
 /-- a code object's table -/
 | tbl (ps:Array Value)
 /-- any other thing,by what is true of its one object (a def of one's own: SetO a S n:=HO.ext fun h=>..) -/
 | ext (φ:Heap→Prop)
noncomputable abbrev Hp:=Addr→Option HO
noncomputable def upd (H:Hp) (a:Addr) (o:HO):Hp:=fun b=>if b=a then some o else H b
theorem zf5 {H:Hp} {a:Addr} {o:HO}:upd H a o a=some o:=by unfold upd;rw [if_pos rfl]
theorem ze6 {H:Hp} {a b:Addr} {o:HO} (h:b≠a):upd H a o b=H b:=by unfold upd;rw [if_neg h]
theorem ne_of {H:Hp} {a b:Addr} {o u:HO} (h:H a=some o) (h':H b=some u) (d:o≠u):a≠b:=by
 intro e;subst e;rw [h] at h';exact d (Option.some.inj h')
theorem zl7 {H:Hp} {a b:Addr} {o:HO} (h:H a=some o) (h':H b=none):a≠b:=by
 intro e;subst e;rw [h] at h';cases h'
def IsTupD (h:Heap) (a:Addr) (its:Array Value):Prop:=∃ o,h.get? a=some o∧o.cls=.type "tuple" ∧ o.dict=none∧∃ n,o.data=.seq its n
theorem IsTupD.new (h:Heap) (its:Array Value):IsTupD (h.push { cls:=.type "tuple", data:=.seq its }) h.objs.size its:=⟨_,Heap.get?_push_size _ rfl,rfl,rfl,_,rfl⟩
section
variable (P:Program) (w:World)
def ObjOk (H:Hp) (h:Heap) (a:Addr):HO→Prop
 | .lst xs=>xs.length≤sizeLine∧∃ (its:List Value) (n:Nat),Vals xs its∧h.get? a=some { cls:=.type "list", data:=.seq its.toArray n }
 | .tup xs=>xs.length≤sizeLine∧∃ its:List Value,Vals xs its∧IsTupD h a its.toArray
 | .dK kvs=>kvs.length≤sizeLine∧(a==sysModules)=false∧∃ vs,KV kvs vs∧h.DictOf (mixKind P w) a vs
 | .dT kvs=>kvs.length≤sizeLine∧(a==sysModules)=false∧∃ xs:List (List Key×Addr×Value),
   Paired (fun (p:List Key×V) (q:List Key×Addr×Value)=>p.1=q.1∧H q.2.1=some (.tup (p.1.map kV))∧RelV p.2 q.2.2) kvs xs ∧
   ∃ o es ep,h.get? a=some o∧o.ExactDict∧o.data=.dict es ep∧es.toList=xs.map (entryOfKey (tupleKind (mixKind P w)))∧(xs.map (·.1)).Nodup
 | .set S n=>h.SetOf (intKind P w) a S n
 | .ins C dx fs=>H dx=some (.own a)∧fs.length≤1000∧dx≠a∧h.get? a=some (PySem.W.instObj C dx) ∧
   ∃ mA,h.Ns1 dx mA∧(∀ f,RelO (fs.lookup f) (mA f))∧PySem.Within mA (fs.map (·.1))
 | .own _=>∃ o,h.get? a=some o
 | .xd fs=>∃ mA,h.Ns1 a mA∧∀ f,RelO (fs.lookup f) (mA f)
 | .rng lo hi=>∃ t u v,h.get? a=some { cls:=.type "range", data:=.fields #[.int lo t,.int hi u,.int 1 v] }
 | .frz o u=>h.get? a=some o∧ObjOk H h a u
 | .tbl ps=>h.get? a=some { cls:=.none,data:=.fields ps }
 | .met f x=>h.get? a=some (PySem.W.methodObj (.ref f) (.ref x))
 | .ext φ=>φ h∧(∃ o,h.get? a=some o)∧∀ h1 h2:Heap,φ h1→(∀ o,h1.get? a=some o→h2.get? a=some o)→φ h2
def HOk (H:Hp) (h:Heap):Prop:=∀ a o,H a=some o→ObjOk P w H h a o
end
section
variable {P:Program} {w:World} {H H':Hp} {h h':Heap} {a:Addr} {o:HO}
theorem ObjOk.lt (x:ObjOk P w H h a o):a<h.objs.size:=by
 cases o with
 | lst xs=>obtain ⟨_,_,_,_,e⟩:=x;exact Heap.lt_size e
 | tup xs=>obtain ⟨_,_,_,_,e,_⟩:=x;exact Heap.lt_size e
 | dK kvs=>obtain ⟨_,_,_,_,o,_,_,e,_⟩:=x;exact Heap.lt_size e
 | dT kvs=>obtain ⟨_,_,_,_,o,_,_,e,_⟩:=x;exact Heap.lt_size e
 | set S n=>obtain ⟨o,_,_,_,e,_⟩:=x;exact Heap.lt_size e
 | ins C dx fs=>obtain ⟨_,_,_,e,_⟩:=x;exact Heap.lt_size e
 | own y=>obtain ⟨_,e⟩:=x;exact Heap.lt_size e
 | xd fs=>obtain ⟨_,⟨_,_,_,e,_⟩,_⟩:=x;exact Heap.lt_size e
 | rng lo hi=>obtain ⟨_,_,_,e⟩:=x;exact Heap.lt_size e
 | frz ob u=>obtain ⟨e,_⟩:=x;exact Heap.lt_size e
 | tbl ps=>exact Heap.lt_size (show h.get? a=some _ from x)
 | met f y=>exact Heap.lt_size (show h.get? a=some _ from x)
 | ext φ=>obtain ⟨_,⟨_,e⟩,_⟩:=x;exact Heap.lt_size e
theorem Paired.mapP {α β:Type} {F G:α→β→Prop}:∀ {l₁:List α} {l₂:List β},Paired F l₁ l₂→(∀ a b,F a b→G a b)→Paired G l₁ l₂
 | _,_,.nil,_=>.nil
 | _,_,.cons r t,f=>.cons (f _ _ r) (Paired.mapP t f)
theorem ObjOk.stay (x:ObjOk P w H h a o) (k:∀ b u,(b=a∨H b=some (.own a))→h.get? b=some u→h'.get? b=some u)
  (ho:∀ b,H b=some (.own a)→H' b=some (.own a)) (ht:∀ b xs,H b=some (.tup xs)→H' b=some (.tup xs)):ObjOk P w H' h' a o:=by
 induction o with
 | lst xs=>obtain ⟨z,its,n,r,e⟩:=x;exact ⟨z,its,n,r,k _ _ (.inl rfl) e⟩
 | tup xs=>obtain ⟨z,its,r,ob,e,c⟩:=x;exact ⟨z,its,r,ob,k _ _ (.inl rfl) e,c⟩
 | dK kvs=>obtain ⟨z,y,vs,r,ob,es,ep,e,c⟩:=x;exact ⟨z,y,vs,r,ob,es,ep,k _ _ (.inl rfl) e,c⟩
 | dT kvs =>
  obtain ⟨z,y,xs,r,ob,es,ep,e,c⟩:=x
  exact ⟨z,y,xs,Paired.mapP r fun p q z=>⟨z.1,ht _ _ z.2.1,z.2.2⟩,ob,es,ep,k _ _ (.inl rfl) e,c⟩
 | set S n=>obtain ⟨ob,es,ep,t,e,c⟩:=x;exact ⟨ob,es,ep,t,k _ _ (.inl rfl) e,c⟩
 | ins C dx fs =>
  obtain ⟨d,z,ne,e,mA,⟨od,es,ep,e2,c⟩,r⟩:=x
  exact ⟨ho _ d,z,ne,k _ _ (.inl rfl) e,mA,⟨od,es,ep,k _ _ (.inr d) e2,c⟩,r⟩
 | own y=>obtain ⟨ob,e⟩:=x;exact ⟨ob,k _ _ (.inl rfl) e⟩
 | xd fs=>obtain ⟨mA,⟨od,es,ep,e,c⟩,r⟩:=x;exact ⟨mA,⟨od,es,ep,k _ _ (.inl rfl) e,c⟩,r⟩
 | rng lo hi=>obtain ⟨t,u,v,e⟩:=x;exact ⟨t,u,v,k _ _ (.inl rfl) e⟩
 | frz ob u ih=>obtain ⟨e,q⟩:=x;exact ⟨k _ _ (.inl rfl) e,ih q⟩
 | tbl ps =>
  have e:h.get? a=some { cls:=.none,data:=.fields ps }:=x
  show h'.get? a=some { cls:=.none,data:=.fields ps }
  exact k a _ (.inl rfl) e
 | met f y =>
  have e:h.get? a=some (PySem.W.methodObj (.ref f) (.ref y)):=x
  show h'.get? a=some (PySem.W.methodObj (.ref f) (.ref y))
  exact k a _ (.inl rfl) e
 | ext φ=>obtain ⟨p,⟨o,e⟩,st⟩:=x;exact ⟨st _ _ p fun o q=>k _ _ (.inl rfl) q,⟨o,k _ _ (.inl rfl) e⟩,st⟩
theorem HOk.lt (x:HOk P w H h) (e:H a=some o):a<h.objs.size:=(x a o e).lt
theorem HOk.fresh (x:HOk P w H h) (e:h.objs.size≤a):H a=none:=by
 cases q:H a with
 | none=>rfl
 | some u=>exact absurd (Nat.lt_of_lt_of_le (x.lt q) e) (Nat.lt_irrefl _)
theorem HOk.kept (x:HOk P w H h) (k:∀ b u,h.get? b=some u→h'.get? b=some u):HOk P w H h':=fun a o e =>
 (x a o e).stay (fun b u _ q=>k b u q) (fun _ q=>q) fun _ _ q=>q
theorem HOk.laid (x:HOk P w H h) (k:∀ b u,h.get? b=some u→h'.get? b=some u) (hp:h.objs.size≤a) (new:ObjOk P w (upd H a o) h' a o):HOk P w (upd H a o) h':=fun b u e=>by
 have hn:=x.fresh hp
 by_cases hb:b=a
 ·subst hb;rw [zf5] at e;cases e;exact new
 ·rw [ze6 hb] at e
  exact (x b u e).stay (fun c v _ q=>k c v q) (fun c q=>by rw [ze6 (zl7 q hn)];exact q) fun c xs q=>by rw [ze6 (zl7 q hn)];exact q
end
def Rd (H:Hp) (a:Addr) (u:HO):Prop:=H a=some u∨∃ o,H a=some (.frz o u)
theorem Rd.ok {P:Program} {w:World} {H:Hp} {h:Heap} {a:Addr} {u:HO} (r:Rd H a u) (x:HOk P w H h):ObjOk P w H h a u:=by
 rcases r with r | ⟨o,r⟩
 ·exact x a u r
 ·obtain ⟨_,q⟩:=x a _ r
  exact q
def Mut:Option HO→Prop
 | some (.lst _)=>True
 | some (.dK _)=>True
 | some (.dT _)=>True
 | some (.set _ _)=>True
 | some (.ins _ _ _)=>True
 | some (.ext _)=>True
 | _=>False
section
variable {P:Program} {w:World} {H:Hp} {h h':Heap} {x e:Addr} {o':HO}
theorem HOk.write (ok:HOk P w H h) (mu:Mut (H x)) (he:e=x∨H e=some (.own x)) (k:∀ b u,b≠e→h.get? b=some u→h'.get? b=some u) (heo:∃ u,h'.get? e=some u)
  (new:ObjOk P w (upd H x o') h' x o'):HOk P w (upd H x o') h':=fun b u q=>by
 have nown:∀ c y,H c=some (.own y)→c≠x:=fun c y r z=>by subst z;rw [r] at mu;exact mu
 have ntup:∀ c xs,H c=some (.tup xs)→c≠x:=fun c xs r z=>by subst z;rw [r] at mu;exact mu
 by_cases hb:b=x
 ·subst hb;rw [zf5] at q;cases q;exact new
 ·rw [ze6 hb] at q
  by_cases hbe:b=e
  ·have q':H b=some (.own x):=by
    rcases he with z | z
    ·exact absurd (hbe.trans z) hb
    ·rw [hbe];exact z
   rw [q] at q';cases q'
   obtain ⟨v,hv⟩:=heo
   exact ⟨v,by rw [hbe];exact hv⟩
  ·refine (ok b u q).stay (fun c v hc r=>k c v ?_ r) (fun c r=>by rw [ze6 (nown c b r)];exact r) fun c xs r=>by rw [ze6 (ntup c xs r)];exact r
   rcases hc with rfl | hc
   ·exact hbe
   ·rintro rfl
    rcases he with z | z
    ·exact nown c b hc z
    ·rw [hc] at z;cases z;exact hb rfl
end
structure Un (fs ex:List Addr) (H H':Hp) (h h':Heap):Prop where
 keep:∀ b o,h.get? b=some o→H b=none→b∉fs→b∉ex→h'.get? b=some o
 slot:∀ b o,h.get? b=some o→H b=none→b∈fs→b∉ex→∃ sl,h'.get? b=some { o with slots:=sl }
 free:∀ b o,h.get? b=some o→H b=none→b∉ex→H' b=none
 there:∀ b o,h.get? b=some o→b∉ex→∃ o',h'.get? b=some o'
 tups:∀ b xs,H b=some (.tup xs)→H' b=some (.tup xs)
 frzs:∀ b o u,H b=some (.frz o u)→H' b=some (.frz o u)
 tbls:∀ b ps,H b=some (.tbl ps)→∃ more,H' b=some (.tbl (ps++more))
section
variable {fs fs' ex ex':List Addr} {H H1 H2:Hp} {h h1 h2 h':Heap} {a x e:Addr} {o:HO}
theorem Un.any (u:Un fs ex H H1 h h1) {b:Addr} {ob:Obj} (q:h.get? b=some ob) (n:H b=none) (hx:b∉ex):∃ sl,h1.get? b=some { ob with slots:=sl }:=by
 by_cases hb:b∈fs
 ·exact u.slot b ob q n hb hx
 ·exact ⟨ob.slots,u.keep b ob q n hb hx⟩
theorem Un.kept (k:∀ b u,h.get? b=some u→h'.get? b=some u):Un fs ex H H h h' :=
 ⟨fun b ob q _ _ _=>k b ob q,fun b ob q _ _ _=>⟨ob.slots,k b ob q⟩,fun _ _ _ n _=>n,fun b ob q _=>⟨ob,k b ob q⟩,fun _ _ q=>q,fun _ _ _ q=>q,fun _ ps q=>⟨#[],by rw [q];simp⟩⟩
theorem Un.refl:Un fs ex H H h h:=Un.kept fun _ _ q=>q
theorem Un.laid (k:∀ b u,h.get? b=some u→h'.get? b=some u) (hp:h.objs.size≤a) (hn:H a=none):Un fs ex H (upd H a o) h h' where
 keep:=fun b u q _ _ _=>k b u q
 slot:=fun b u q _ _ _=>⟨u.slots,k b u q⟩
 free:=fun b u q n _=>by rw [ze6 (Nat.ne_of_lt (Nat.lt_of_lt_of_le (Heap.lt_size q) hp))];exact n
 there:=fun b u q _=>⟨u,k b u q⟩
 tups:=fun b xs q=>by rw [ze6 (zl7 q hn)];exact q
 frzs:=fun b u xs q=>by rw [ze6 (zl7 q hn)];exact q
 tbls:=fun b ps q=>⟨#[],by rw [ze6 (zl7 q hn),q];simp⟩
theorem Un.write (mu:Mut (H x)) (he:e=x∨H e=some (.own x)) (k:∀ b u,b≠e→h.get? b=some u→h'.get? b=some u) (heo:∃ u,h'.get? e=some u):Un fs ex H (upd H x o) h h':=by
 have hx:∀ b,H b=none→b≠x:=fun b n z=>by subst z;rw [n] at mu;exact mu
 have hb:∀ b,H b=none→b≠e:=fun b n z=>by
  subst z
  rcases he with r | r
  ·exact hx b n r
  ·rw [n] at r;cases r
 have hm:∀ b u,H b=some u→¬ Mut (some u)→b≠x:=fun b u q nm z=>by subst z;rw [q] at mu;exact nm mu
 refine ⟨fun b u q n _ _=>k b u (hb b n) q,fun b u q n _ _=>⟨u.slots,k b u (hb b n) q⟩,fun b u q n _=>by rw [ze6 (hx b n)];exact n,fun b u q _=>?_,
  fun b xs q=>by rw [ze6 (hm b _ q fun z=>z)];exact q,fun b u xs q=>by rw [ze6 (hm b _ q fun z=>z)];exact q,fun b ps q=>⟨#[],by rw [ze6 (hm b _ q fun z=>z),q];simp⟩⟩
 by_cases hbe:b=e
 ·subst hbe;exact heo
 ·exact ⟨u,k b u hbe q⟩
end
noncomputable def trk (h:Heap) (H:Hp):List Addr:=(List.range h.objs.size).filter fun a=>(H a).isSome
noncomputable def hidT (h:Heap) (H:Hp):Heap:=PySem.W.hideAll h (trk h H)
theorem hidT_size (h:Heap) (H:Hp):(hidT h H).objs.size=h.objs.size:=PySem.W.hideAll_size _ _
theorem hidT_get {h:Heap} {H:Hp} {b:Addr} {o:Obj} (e:h.get? b=some o) (n:H b=none):(hidT h H).get? b=some o :=
 PySem.W.hideAll_get _ e fun hm=>by
  have q:(H b).isSome=true:=(List.mem_filter.mp hm).2
  rw [n] at q;simp at q
theorem of_hidT {h:Heap} {H:Hp} {b:Addr} {o:Obj} (e:(hidT h H).get? b=some o):h.get? b=some o∧H b=none:=by
 have e':h.get? b=some o:=PySem.W.of_hideAll (trk h H) e
 refine ⟨e',?_⟩
 cases q:H b with
 | none=>rfl
 | some x =>
  have hm:b∈trk h H:=List.mem_filter.mpr ⟨List.mem_range.mpr (Heap.lt_size e'),by simp [q]⟩
  have z:(hidT h H).get? b=none:=PySem.W.hideAll_none (trk h H) hm
  rw [z] at e;cases e
noncomputable def allNews (g h:Heap) (L:Addr):List (Addr×Obj):=(List.range h.objs.size).filterMap fun a=>if a=L∨(g.get? a).isSome=true then none else (h.get? a).map fun o=>(a,o)
noncomputable def rest (g h:Heap) (L d:Addr):List (Addr×Obj):=(allNews g h L).filter fun p=>decide (p.1≠d)
end L2
namespace L2
open PySem PySem.Spec PyProof.Rows
structure Mod (K:PySem.W.Frag) (mg:Str→Option Value) (base:Heap):Prop where
 kin:K.In base
 glob:base.Ns mainGlobals mg
 blt:∃ mb,base.Ns builtinsNs mb∧∀ x:Str,x ≠ "__name__" → mb x=bootBuiltins x
 nolimit:base.NoLimit
structure Cx where
 prog:Program
 w:World
 K:PySem.W.Frag
 mg:Str→Option Value
 base:Heap
 A:Around
 N:List Str
 s₀:Shared
 H₀:Hp
 env:Env
 outer:List Env
 stack:List Env
 ex:List Addr
 fn:Str→Bool
 calm:Bool
 pn:List (Addr×Obj)
 xe:Value→Shared→Prop
noncomputable def frs (l:List Env):List Addr:=l.filterMap (·.frame)
noncomputable abbrev Cx.fs (X:Cx):List Addr:=frs X.outer
def Vis (sc:Scope) (x:Str):Prop:=sc.names.lookup x=some .local∨sc.names.lookup x=some .cell∨sc.names.lookup x=some .free
def Loc (sc:Scope) (x:Str):Prop:=sc.names.lookup x=some .local∨sc.names.lookup x=some .cell
def Look (env:Env) (h:Heap) (m:Str→Option Value) (x:Str) (u:Value):Prop :=
 (env.kindOf x=some .local∧m x=some u)∨((env.kindOf x=some .cell∨env.kindOf x=some .free)∧∃ c,env.cells.lookup x=some c∧h.IsCell c (some u))
structure Cx.Ok (X:Cx):Prop where
 mod:Mod X.K X.mg X.base
 kind:X.env.scope.kind=.function
 glob:X.env.globals=mainGlobals
 blt:X.env.builtins=builtinsNs
 above:X.s₀.heap.objs.size≤X.env.locals
 inj:∀ x y c,X.env.cells.lookup x=some c→X.env.cells.lookup y=some c→x=y
 has:∀ x,(X.env.kindOf x=some .cell∨X.env.kindOf x=some .free)→∃ c,X.env.cells.lookup x=some c
 cab:∀ x c,X.fn x=true→X.env.cells.lookup x=some c→X.s₀.heap.objs.size≤c
 hd:X.calm=true→X.A.handled=none
 frames:X.A.frames=some X.stack
 stk:X.stack=X.outer∨(X.stack=X.env::X.outer∧X.env.frame=some X.env.locals)
 exf:∀ b∈X.ex,b≠X.env.locals∧∀ x c,X.env.cells.lookup x=some c→c≠b
 bs:∀ b o,X.base.get? b=some o→X.s₀.heap.get? b=some o∧X.H₀ b=none
 bsz:X.base.objs.size≤X.s₀.heap.objs.size
 noex:∀ b o,X.base.get? b=some o→b∉X.ex
 exfs:∀ b∈X.ex,b∉X.fs
 funs:X.s₀.heap.FunFrames X.base X.outer
 frf:∀ b∈X.fs,X.H₀ b=none
structure Inv (X:Cx) (pins:List (Addr×Obj)) (σ:List (Option V)) (H:Hp) (s:Shared):Prop where
 ok:X.Ok
 os:s.os=X.s₀.os
 bare:AllBare s.gens
 base:Un X.fs X.ex X.H₀ H X.s₀.heap s.heap
 loc:∃ m,s.heap.Ns X.env.locals m∧∀ (i:Nat) (x:Str) (v:V),X.N[i]?=some x→σ[i]?=some (some v)→Vis X.env.scope x→∃ u,RelV v u∧Look X.env s.heap m x u
 cell:∀ x c,X.env.cells.lookup x=some c→∃ v,s.heap.IsCell c v
 free:H X.env.locals=none
 freeC:∀ x c,X.env.cells.lookup x=some c→H c=none
 pin:∀ p∈X.pn++pins,s.heap.get? p.1=some p.2∧H p.1=none∧p.1≠X.env.locals∧p.1∉X.fs∧∀ v,p.2.data≠.cell v
 hok:HOk X.prog X.w H s.heap
 len:σ.length=X.N.length
section
variable {X:Cx} {pins:List (Addr×Obj)} {σ:List (Option V)} {H H':Hp} {s:Shared} {h':Heap}
theorem Cx.Ok.nofr (ok:X.Ok) {b:Addr} {o:Obj} (e:X.base.get? b=some o):b∉X.fs:=fun hb=>by
 have:=(ok.funs.mem hb).1
 rw [e] at this;cases this
theorem Inv.bs (I:Inv X pins σ H s):∀ b o,X.base.get? b=some o→s.heap.get? b=some o∧H b=none:=fun b o e =>
 ⟨I.base.keep b o (I.ok.bs b o e).1 (I.ok.bs b o e).2 (I.ok.nofr e) (I.ok.noex b o e),I.base.free b o (I.ok.bs b o e).1 (I.ok.bs b o e).2 (I.ok.noex b o e)⟩
theorem Inv.bk (I:Inv X pins σ H s):∀ b o,X.base.get? b=some o→s.heap.get? b=some o:=fun b o e=>(I.bs b o e).1
theorem Inv.mod (I:Inv X pins σ H s):Mod X.K X.mg X.base:=I.ok.mod
theorem Inv.kIn (I:Inv X pins σ H s):X.K.In s.heap:=I.ok.mod.kin.keeps I.bk
theorem Inv.lt (I:Inv X pins σ H s):X.env.locals<s.heap.objs.size:=let ⟨_,hn,_⟩:=I.loc;hn.lt
theorem Inv.sz (I:Inv X pins σ H s):X.s₀.heap.objs.size≤s.heap.objs.size:=Nat.le_trans I.ok.above (Nat.le_of_lt I.lt)
theorem Inv.nofs (I:Inv X pins σ H s) {a:Addr} (h:s.heap.objs.size≤a):a∉X.fs:=fun hb=>by
 obtain ⟨_,o,ho,_⟩:=I.ok.funs.mem hb
 exact absurd (Nat.lt_of_lt_of_le (Heap.lt_size ho) (Nat.le_trans I.sz h)) (Nat.lt_irrefl _)
theorem Inv.cne (I:Inv X pins σ H s):∀ x c,X.env.cells.lookup x=some c→c≠X.env.locals:=fun x c e z=>by
 obtain ⟨v,o,ho,hd⟩:=I.cell x c e
 obtain ⟨m,⟨o',es,ep,ho',hd',_⟩,_⟩:=I.loc
 rw [z,ho'] at ho;cases ho;rw [hd'] at hd;cases hd
theorem Inv.funs (I:Inv X pins σ H s):s.heap.FunFrames X.base X.outer:=by
 have all:∀ (l:List Env),(∀ b∈frs l,b∈X.fs)→X.s₀.heap.FunFrames X.base l→s.heap.FunFrames X.base l:=by
  intro l
  induction l with
  | nil=>intro _ _;trivial
  | cons env r ih =>
   intro hs hl
   obtain ⟨hk,⟨L,o,hf,hn,ho,hd⟩,hr⟩:=hl
   have hL:L∈X.fs:=hs L (by unfold frs;rw [List.filterMap_cons,hf];exact List.mem_cons_self)
   obtain ⟨sl,e⟩:=I.base.slot L o ho (I.ok.frf L hL) hL fun z=>I.ok.exfs L z hL
   exact ⟨hk,⟨L,_,hf,hn,e,hd⟩,ih (fun b hb=>hs b (by unfold frs;rw [List.filterMap_cons,hf];exact List.mem_cons_of_mem _ hb)) hr⟩
 exact all X.outer (fun _ hb=>hb) I.ok.funs
theorem Inv.stack (I:Inv X pins σ H s):s.heap.FunFrames X.base X.stack:=by
 rcases I.ok.stk with e | ⟨e,hf⟩
 ·rw [e];exact I.funs
 ·rw [e]
  obtain ⟨m,hn,_⟩:=I.loc
  refine .cons (by rw [I.ok.kind];decide) hf hn ?_ I.funs
  exact Heap.get?_none_of_le (Nat.le_trans I.ok.bsz I.ok.above)
theorem Inv.stkSub (I:Inv X pins σ H s):∀ b∈frs X.stack,b∈X.env.locals::X.fs:=fun b hb=>by
 rcases I.ok.stk with e | ⟨e,hf⟩
 ·rw [e] at hb;exact List.mem_cons_of_mem _ hb
 ·rw [e] at hb
  unfold frs at hb
  rw [List.filterMap_cons,hf] at hb
  exact hb
theorem Inv.stkFree (I:Inv X pins σ H s):∀ b∈frs X.stack,H b=none:=fun b hb=>by
 rcases List.mem_cons.mp (I.stkSub b hb) with e | hb
 ·rw [e];exact I.free
 ·obtain ⟨_,o,ho,_⟩:=I.ok.funs.mem hb
  exact I.base.free b o ho (I.ok.frf b hb) fun z=>I.ok.exfs b z hb
theorem Inv.step {g':Array GenState} {t':Nat} {d':Drawn} {ch:List Addr} (I:Inv X pins σ H s)
  (hch:∀ b∈ch,(b∈X.ex∨X.s₀.heap.objs.size≤b)∧b≠X.env.locals∧(∀ x c,X.env.cells.lookup x=some c→c≠b)∧∀ p∈X.pn++pins,p.1≠b)
  (keep:∀ b o,b≠X.env.locals→b∉X.fs→b∉ch→s.heap.get? b=some o→H b=none→h'.get? b=some o)
  (slot:∀ b o,b≠X.env.locals→b∈X.fs→b∉ch→s.heap.get? b=some o→H b=none→∃ sl,h'.get? b=some { o with slots:=sl }) (free:∀ b o,b∉ch→s.heap.get? b=some o→H b=none→H' b=none)
  (there:∀ b o,b∉ch→s.heap.get? b=some o→∃ o',h'.get? b=some o')
  (tups:∀ b xs,H b=some (.tup xs)→H' b=some (.tup xs)) (frzs:∀ b o u,H b=some (.frz o u)→H' b=some (.frz o u)) (tbls:∀ b ps,H b=some (.tbl ps)→∃ more,H' b=some (.tbl (ps++more)))
  (ns:∀ m,s.heap.Ns X.env.locals m→h'.Ns X.env.locals m) (hok:HOk X.prog X.w H' h') (hg:AllBare g') :
  Inv X pins σ H' { s with heap:=h',gens:=g',drawn:=d',toks:=t' }:=by
 have neL:∀ b o,X.s₀.heap.get? b=some o→b≠X.env.locals:=fun b o e=>Nat.ne_of_lt (Nat.lt_of_lt_of_le (Heap.lt_size e) I.ok.above)
 have neC:∀ b o,X.s₀.heap.get? b=some o→b∉X.ex→b∉ch:=fun b o e hx hb=>by
  rcases (hch b hb).1 with z | z
  ·exact hx z
  ·exact absurd (Nat.lt_of_lt_of_le (Heap.lt_size e) z) (Nat.lt_irrefl _)
 have cellK:∀ x c,X.env.cells.lookup x=some c→∀ v,s.heap.IsCell c v→h'.IsCell c v:=fun x c e v ⟨o,ho,hd⟩=>by
  have nch:c∉ch:=fun z=>(hch c z).2.2.1 x c e rfl
  by_cases hc:c∈X.fs
  ·obtain ⟨sl,q⟩:=slot c o (I.cne x c e) hc nch ho (I.freeC x c e)
   exact ⟨_,q,hd⟩
  ·exact ⟨o,keep c o (I.cne x c e) hc nch ho (I.freeC x c e),hd⟩
 refine ⟨I.ok,I.os,hg,⟨fun b o e n hb hx=>?_,fun b o e n hb hx=>?_,fun b o e n hx=>?_,fun b o e hx=>?_,fun b xs e=>tups b xs (I.base.tups b xs e),fun b o xs e=>frzs b o xs (I.base.frzs b o xs e),fun b ps e=>?_⟩,?_,fun x c e=>?_,?_,fun x c e=>?_,fun p hp=>?_,hok,I.len⟩
 ·exact keep b o (neL b o e) hb (neC b o e hx) (I.base.keep b o e n hb hx) (I.base.free b o e n hx)
 ·obtain ⟨sl,e1⟩:=I.base.slot b o e n hb hx
  obtain ⟨sl',e2⟩:=slot b _ (neL b o e) hb (neC b o e hx) e1 (I.base.free b o e n hx)
  exact ⟨sl',e2⟩
 ·obtain ⟨o',e1⟩:=I.base.there b o e hx
  exact free b o' (neC b o e hx) e1 (I.base.free b o e n hx)
 ·obtain ⟨o',e1⟩:=I.base.there b o e hx
  exact there b o' (neC b o e hx) e1
 ·obtain ⟨m1,e1⟩:=I.base.tbls b ps e
  obtain ⟨m2,e2⟩:=tbls b _ e1
  exact ⟨m1++m2,by rw [e2,Array.append_assoc]⟩
 ·obtain ⟨m,hn,hl⟩:=I.loc
  refine ⟨m,ns m hn,fun i x v e1 e2 e3=>?_⟩
  obtain ⟨u,r,l⟩:=hl i x v e1 e2 e3
  refine ⟨u,r,?_⟩
  rcases l with l | ⟨k,c,e,z⟩
  ·exact .inl l
  ·exact .inr ⟨k,c,e,cellK x c e _ z⟩
 ·obtain ⟨v,z⟩:=I.cell x c e
  exact ⟨v,cellK x c e v z⟩
 ·obtain ⟨m,⟨o,_,_,ho,_⟩,_⟩:=I.loc
  exact free _ o (fun z=>(hch _ z).2.1 rfl) ho I.free
 ·obtain ⟨v,o,ho,hd⟩:=I.cell x c e
  exact free c o (fun z=>(hch c z).2.2.1 x c e rfl) ho (I.freeC x c e)
 ·obtain ⟨e,n,ne,nf,d⟩:=I.pin p hp
  have nch:p.1∉ch:=fun z=>(hch p.1 z).2.2.2 p hp rfl
  exact ⟨keep p.1 p.2 ne nf nch e n,free p.1 p.2 nch e n,ne,nf,d⟩
theorem Inv.un {t':Nat} (I:Inv X pins σ H s) (u:Un X.fs [] H H' s.heap h') (hok:HOk X.prog X.w H' h'):Inv X pins σ H' { s with heap:=h',toks:=t' }:=by
 obtain ⟨m,⟨o,es,ep,ho,r⟩,_⟩:=id I.loc
 obtain ⟨sl,hL⟩:=u.any ho I.free (by simp)
 exact I.step (g':=s.gens) (d':=s.drawn) (ch:=[]) (fun _ z=>nomatch z) (fun b o _ hb _ e n=>u.keep b o e n hb (by simp)) (fun b o _ hb _ e n=>u.slot b o e n hb (by simp)) (fun b o _ e n=>u.free b o e n (by simp)) (fun b o _ e=>u.there b o e (by simp)) u.tups u.frzs u.tbls (fun m' hm=>by
  obtain ⟨o',es',ep',ho',r'⟩:=hm
  rw [ho] at ho';cases ho'
  exact ⟨_,es',ep',hL,r'⟩) hok I.bare
theorem Inv.call {g':Array GenState} {t':Nat} {d':Drawn} {ch:List Addr} (I:Inv X pins σ H s) (u:Un (frs X.stack) ch H H' s.heap h') (hok:HOk X.prog X.w H' h') (hg:AllBare g')
  (hch:∀ b∈ch,(b∈X.ex∨X.s₀.heap.objs.size≤b)∧b≠X.env.locals∧(∀ x c,X.env.cells.lookup x=some c→c≠b)∧∀ p∈X.pn++pins,p.1≠b) :
  Inv X pins σ H' { s with heap:=h',gens:=g',drawn:=d',toks:=t' }:=by
 obtain ⟨m,⟨o,es,ep,ho,r⟩,_⟩:=id I.loc
 obtain ⟨sl,hL⟩:=u.any ho I.free fun z=>(hch _ z).2.1 rfl
 exact I.step (ch:=ch) hch (fun b o hL hb hc e n=>u.keep b o e n (fun z=>(List.mem_cons.mp (I.stkSub b z)).elim hL hb) hc) (fun b o _ _ hc e n=>u.any e n hc) (fun b o hc e n=>u.free b o e n hc) (fun b o hc e=>u.there b o e hc) u.tups u.frzs u.tbls (fun m' hm=>by
  obtain ⟨o',es',ep',ho',r'⟩:=hm
  rw [ho] at ho';cases ho'
  exact ⟨_,es',ep',hL,r'⟩) hok hg
theorem Inv.turned {t':Nat} {it:Addr} (I:Inv X pins σ H s) (k:∀ b o,b≠it→s.heap.get? b=some o→h'.get? b=some o) (hn:H it=none) (hL:it≠X.env.locals)
  (h1:it∈X.ex∨X.s₀.heap.objs.size≤it) (h2:∀ x c,X.env.cells.lookup x=some c→c≠it) (h3:∀ p∈X.pn++pins,p.1≠it):Inv X pins σ H { s with heap:=h',toks:=t' }:=by
 have nit:∀ b u,H b=some u→b≠it:=fun b u e z=>by rw [z,hn] at e;cases e
 refine I.step (g':=s.gens) (d':=s.drawn) (ch:=[it]) (fun b hb=>?_) (fun b o _ _ hc e _=>k b o (fun z=>hc (by simp [z])) e) (fun b o _ _ hc e _=>⟨o.slots,k b o (fun z=>hc (by simp [z])) e⟩) (fun _ _ _ _ n=>n)
  (fun b o hc e=>⟨o,k b o (fun z=>hc (by simp [z])) e⟩) (fun _ _ e=>e) (fun _ _ _ e=>e) (fun b ps e=>⟨#[],by rw [e];simp⟩) (fun m hm=>?_) (fun b u e=>?_) I.bare
 ·have e:b=it:=by simpa using hb
  subst e
  exact ⟨h1,hL,h2,h3⟩
 ·obtain ⟨o,es,ep,ho,r⟩:=hm
  exact ⟨o,es,ep,k _ o (Ne.symm hL) ho,r⟩
 ·refine (I.hok b u e).stay (fun c v hc q=>k c v ?_ q) (fun _ q=>q) fun _ _ q=>q
  rcases hc with z | z
  ·rw [z];exact nit b u e
  ·exact nit c _ z
theorem Inv.tok (I:Inv X pins σ H s) (t:Nat):Inv X pins σ H { s with toks:=t }:=I.un (h':=s.heap) (t':=t) Un.refl I.hok
theorem Inv.kept {t':Nat} (I:Inv X pins σ H s) (k:∀ b u,s.heap.get? b=some u→h'.get? b=some u):Inv X pins σ H { s with heap:=h',toks:=t' }:=I.un (Un.kept k) (I.hok.kept k)
theorem Inv.laid {a:Addr} {o:HO} {t':Nat} (I:Inv X pins σ H s) (k:∀ b u,s.heap.get? b=some u→h'.get? b=some u) (hp:s.heap.objs.size≤a) (new:ObjOk X.prog X.w (upd H a o) h' a o) :
  Inv X pins σ (upd H a o) { s with heap:=h',toks:=t' }:=I.un (Un.laid k hp (I.hok.fresh hp)) (I.hok.laid k hp new)
theorem Inv.write {x e:Addr} {o:HO} {t':Nat} (I:Inv X pins σ H s) (mu:Mut (H x)) (he:e=x∨H e=some (.own x)) (k:∀ b u,b≠e→s.heap.get? b=some u→h'.get? b=some u) (heo:∃ u,h'.get? e=some u)
  (new:ObjOk X.prog X.w (upd H x o) h' x o):Inv X pins σ (upd H x o) { s with heap:=h',toks:=t' }:=I.un (Un.write mu he k heo) (I.hok.write mu he k heo new)
theorem Inv.pins_of {pins':List (Addr×Obj)} (I:Inv X pins σ H s) (h:∀ p∈pins',s.heap.get? p.1=some p.2∧H p.1=none∧p.1≠X.env.locals∧p.1∉X.fs∧∀ v,p.2.data≠.cell v):Inv X pins' σ H s :=
 ⟨I.ok,I.os,I.bare,I.base,I.loc,I.cell,I.free,I.freeC,fun p hp=>(List.mem_append.mp hp).elim (fun z=>I.pin p (List.mem_append_left _ z)) (h p),I.hok,I.len⟩
theorem zS1 {N:List Str} (hN:N.Nodup) {i j:Nat} {x:Str} (a:N[i]?=some x) (b:N[j]?=some x):i=j:=by
 obtain ⟨h1,e1⟩:=List.getElem?_eq_some_iff.mp a
 obtain ⟨h2,e2⟩:=List.getElem?_eq_some_iff.mp b
 exact (List.getElem_inj hN).mp (e1.trans e2.symm)
theorem zJ8 {M:Model} {A:Around} {E:Value→Shared→Prop} {i:Nat} {x:Str} {v:V} {u:Value} {Q:Unit→Shared→Prop} (I:Inv X pins σ H s) (hN:X.N.Nodup) (hi:X.N[i]?=some x) (hx:Loc X.env.scope x) (r:RelV v u)
  (h:∀ s',Inv X pins (σ.set i (some v)) H s'→(∃ a,Heap.SameBut a s.heap s'.heap∧(a=X.env.locals∨X.env.cells.lookup x=some a))→Q () s') (hf:X.fn x=true∨X.env.scope.names.lookup x=some .local):wpAny M A (storeName X.env x u) Q E s:=by
 obtain ⟨m,hn,hl⟩:=id I.loc
 have hcls:(X.env.scope.kind == .class || (X.env.scope.kind == .module&&X.env.locals != X.env.globals))=false:=by rw [I.ok.kind];rfl
 have hiσ:i<σ.length:=by rw [I.len];exact (List.getElem?_eq_some_iff.mp hi).1
 have cne:=I.cne
 have tracked:∀ {a:Addr} {h':Heap},(∃ o,s.heap.get? a=some o∧H a=none)→Heap.SameBut a s.heap h'→HOk X.prog X.w H h':=fun {a h'} ha hs b ob e=>by
  obtain ⟨_,_,hfree⟩:=ha
  refine (I.hok b ob e).stay (fun c w' hc q=>(hs.2 c ?_).trans q) (fun _ q=>q) fun _ _ q=>q
  rintro rfl
  rcases hc with rfl | hc
  ·rw [hfree] at e;cases e
  ·rw [hfree] at hc;cases hc
 rcases hx with hk | hk
 ·refine wpAny_storeName_local hk hn (fun h' hn' hs=>?_) hcls
  obtain ⟨oL,_,_,hoL,_⟩:=id hn
  refine h _ ⟨I.ok,I.os,I.bare,⟨fun b o e n hb hx=>?_,fun b o e n hb hx=>?_,I.base.free,fun b o e hx=>?_,I.base.tups,I.base.frzs,I.base.tbls⟩,⟨_,hn',fun j y v' e1 e2 e3=>?_⟩,fun y c e=>?_,I.free,I.freeC,fun p hp=>?_,tracked ⟨oL,hoL,I.free⟩ hs,by simpa using I.len⟩ ⟨_,hs,.inl rfl⟩
  ·exact (hs.2 b (Nat.ne_of_lt (Nat.lt_of_lt_of_le (Heap.lt_size e) I.ok.above))).trans (I.base.keep b o e n hb hx)
  ·obtain ⟨sl,e1⟩:=I.base.slot b o e n hb hx
   exact ⟨sl,(hs.2 b (Nat.ne_of_lt (Nat.lt_of_lt_of_le (Heap.lt_size e) I.ok.above))).trans e1⟩
  ·obtain ⟨o',e1⟩:=I.base.there b o e hx
   exact ⟨o',(hs.2 b (Nat.ne_of_lt (Nat.lt_of_lt_of_le (Heap.lt_size e) I.ok.above))).trans e1⟩
  ·by_cases hj:j=i
   ·subst hj
    rw [hi] at e1;cases e1
    rw [List.getElem?_set_self hiσ] at e2
    cases e2
    exact ⟨u,r,.inl ⟨hk,by simp⟩⟩
   ·rw [List.getElem?_set_ne (Ne.symm hj)] at e2
    obtain ⟨u',r',q⟩:=hl j y v' e1 e2 e3
    refine ⟨u',r',?_⟩
    rcases q with ⟨k,e⟩ | ⟨k,c,e,z⟩
    ·refine .inl ⟨k,?_⟩
     have:y≠x:=fun e=>hj (zS1 hN e1 (e▸hi))
     simp [this,e]
    ·exact .inr ⟨k,c,e,z.sameBut hs (cne y c e)⟩
  ·obtain ⟨w',z⟩:=I.cell y c e
   exact ⟨w',z.sameBut hs (cne y c e)⟩
  ·obtain ⟨e,n,ne,nf,d⟩:=I.pin p hp
   exact ⟨(hs.2 p.1 ne).trans e,n,ne,nf,d⟩
 ·have hfn:X.fn x=true:=by
   rcases hf with z | z
   ·exact z
   ·rw [z] at hk;cases hk
  obtain ⟨c,hc⟩:=I.ok.has x (.inl hk)
  obtain ⟨w',z⟩:=I.cell x c hc
  refine wpAny_storeName_cell I.ok.kind hk hc z (fun h' hc' hs=>?_)
  obtain ⟨oc,hoc,hocd⟩:=id z
  refine h { s with heap:=h' } ⟨I.ok,I.os,I.bare,⟨fun b o e n hb hx=>?_,fun b o e n hb hx=>?_,I.base.free,fun b o e hx=>?_,I.base.tups,I.base.frzs,I.base.tbls⟩,⟨m,hn.sameBut hs (Ne.symm (cne x c hc)),fun j y v' e1 e2 e3=>?_⟩,fun y c' e=>?_,I.free,I.freeC,fun p hp=>?_,tracked ⟨oc,hoc,I.freeC x c hc⟩ hs,by simpa using I.len⟩ ⟨c,hs,.inr hc⟩
  ·exact (hs.2 b (Nat.ne_of_lt (Nat.lt_of_lt_of_le (Heap.lt_size e) (I.ok.cab x c hfn hc)))).trans (I.base.keep b o e n hb hx)
  ·obtain ⟨sl,e1⟩:=I.base.slot b o e n hb hx
   exact ⟨sl,(hs.2 b (Nat.ne_of_lt (Nat.lt_of_lt_of_le (Heap.lt_size e) (I.ok.cab x c hfn hc)))).trans e1⟩
  ·obtain ⟨o',e1⟩:=I.base.there b o e hx
   exact ⟨o',(hs.2 b (Nat.ne_of_lt (Nat.lt_of_lt_of_le (Heap.lt_size e) (I.ok.cab x c hfn hc)))).trans e1⟩
  ·by_cases hj:j=i
   ·subst hj
    rw [hi] at e1;cases e1
    rw [List.getElem?_set_self hiσ] at e2
    cases e2
    exact ⟨u,r,.inr ⟨.inl hk,c,hc,hc'⟩⟩
   ·rw [List.getElem?_set_ne (Ne.symm hj)] at e2
    obtain ⟨u',r',q⟩:=hl j y v' e1 e2 e3
    refine ⟨u',r',?_⟩
    rcases q with q | ⟨k,c',e,z'⟩
    ·exact .inl q
    ·refine .inr ⟨k,c',e,z'.sameBut hs ?_⟩
     rintro rfl
     exact hj (zS1 hN e1 (I.ok.inj _ _ _ e hc▸hi))
  ·by_cases hcc:c'=c
   ·subst hcc;exact ⟨_,hc'⟩
   ·obtain ⟨w2,z2⟩:=I.cell y c' e
    exact ⟨w2,z2.sameBut hs hcc⟩
  ·obtain ⟨e,n,ne,nf,d⟩:=I.pin p hp
   refine ⟨(hs.2 p.1 ?_).trans e,n,ne,nf,d⟩
   intro q
   rw [q,hoc] at e
   have q':oc=p.2:=Option.some.inj e
   exact d w' (by rw [← q'];exact hocd)
theorem zI2 {M:Model} {A:Around} {E:Value→Shared→Prop} {i:Nat} {x:Str} {v:V} {u:Value} {Q:Unit→Shared→Prop} (I:Inv X pins σ H s) (hN:X.N.Nodup) (hi:X.N[i]?=some x) (hx:Loc X.env.scope x) (r:RelV v u)
  (h:∀ s',Inv X pins (σ.set i (some v)) H s'→Q () s') (hf:X.fn x=true∨X.env.scope.names.lookup x=some .local):wpAny M A (storeName X.env x u) Q E s :=
 zJ8 I hN hi hx r (fun s' I' _=>h s' I') hf
theorem Inv.call' {s':Shared} {ch:List Addr} (I:Inv X pins σ H s) (ho:s'.os=s.os) (u:Un (frs X.stack) ch H H' s.heap s'.heap) (hok:HOk X.prog X.w H' s'.heap) (hg:AllBare s'.gens)
  (hch:∀ b∈ch,(b∈X.ex∨X.s₀.heap.objs.size≤b)∧b≠X.env.locals∧(∀ x c,X.env.cells.lookup x=some c→c≠b)∧∀ p∈X.pn++pins,p.1≠b):Inv X pins σ H' s':=by
 obtain ⟨h',g',d',t',o'⟩:=s'
 have e:o'=s.os:=ho
 subst e
 exact I.call (g':=g') (t':=t') (d':=d') u hok hg hch
end
noncomputable abbrev XK:=Value→Option Addr→Hp→Prop
noncomputable abbrev St:=List (Option V)
noncomputable abbrev VK:=V→Hp→Prop
noncomputable abbrev TE:=St→Hp→VK→Prop
noncomputable abbrev TT:=St→Hp→(Bool→Hp→Prop)→Prop
noncomputable abbrev TA:=St→Hp→(List V→Hp→Prop)→Prop
structure Ends where
 nx:St→Hp→Prop
 rt:VK
 bk:St→Hp→Prop:=fun _ _=>False
 ct:St→Hp→Prop:=fun _ _=>False
noncomputable abbrev TS:=Ends→St→Hp→Prop
def EP (X:Cx) (pins:List (Addr×Obj)) (σ:St) (Q:VK) (u:Value) (s':Shared):Prop:=∃ v H',Inv X pins σ H' s'∧RelV v u∧Q v H'
def TP (X:Cx) (pins:List (Addr×Obj)) (σ:St) (Q:Bool→Hp→Prop) (b:Bool) (s':Shared):Prop:=∃ H',Inv X pins σ H' s'∧Q b H'
def AP (X:Cx) (pins:List (Addr×Obj)) (σ:St) (Q:List V→Hp→Prop) (us:List Value) (s':Shared):Prop:=∃ vs H',Inv X pins σ H' s'∧Vals vs us∧Q vs H'
def SP (X:Cx) (pins:List (Addr×Obj)) (D:Ends) (f:Flow) (s':Shared):Prop :=
 match f with
 | .next=>∃ σ' H',Inv X pins σ' H' s'∧D.nx σ' H'
 | .brk=>∃ σ' H',Inv X pins σ' H' s'∧D.bk σ' H'
 | .cont=>∃ σ' H',Inv X pins σ' H' s'∧D.ct σ' H'
 | .ret u=>∃ v σ' H',Inv X pins σ' H' s'∧RelV v u∧D.rt v H'
def PE (X:Cx) (e:Expr) (t:TE):Prop :=
 ∀ (pins:List (Addr×Obj)) (s:Shared) (σ:St) (H:Hp) (Q:VK),Inv X pins σ H s→t σ H Q→wpAny (model X.prog X.w) X.A (eval e X.env) (EP X pins σ Q) X.xe s
def PT (X:Cx) (e:Expr) (t:TT):Prop :=
 ∀ (pins:List (Addr×Obj)) (s:Shared) (σ:St) (H:Hp) (Q:Bool→Hp→Prop),Inv X pins σ H s→t σ H Q→wpAny (model X.prog X.w) X.A (isTrue e X.env (eval e X.env)) (TP X pins σ Q) X.xe s
def PW (X:Cx) (e:Expr) (t:TT):Prop :=
 ∀ (whole:Sem Value) (pins:List (Addr×Obj)) (s:Shared) (σ:St) (H:Hp) (Q:Bool→Hp→Prop),Inv X pins σ H s→t σ H Q→wpAny (model X.prog X.w) X.A (isTrue e X.env whole) (TP X pins σ Q) X.xe s
theorem PW.pt {X:Cx} {e:Expr} {t:TT} (h:PW X e t):PT X e t:=h _
def PA (X:Cx) (es:List Expr) (t:TA):Prop :=
 ∀ (pos:Pos) (pins:List (Addr×Obj)) (s:Shared) (σ:St) (H:Hp) (Q:List V→Hp→Prop),Inv X pins σ H s→t σ H Q→wpAny (model X.prog X.w) X.A (spliced (backTo pos (starEach es X.env))) (AP X pins σ Q) X.xe s
def PS (X:Cx) (st:Stmt) (t:TS):Prop :=
 ∀ (pins:List (Addr×Obj)) (s:Shared) (σ:St) (H:Hp) (D:Ends),Inv X pins σ H s→t D σ H→wpAny (model X.prog X.w) X.A (exec st X.env) (SP X pins D) X.xe s
def PSs (X:Cx) (st:List Stmt) (t:TS):Prop :=
 ∀ (pins:List (Addr×Obj)) (s:Shared) (σ:St) (H:Hp) (D:Ends),Inv X pins σ H s→t D σ H→wpAny (model X.prog X.w) X.A (execs st X.env) (SP X pins D) X.xe s
theorem thn {α:Type} {t:Sem α} {Q Q':α→Shared→Prop} {M:Model} {A:Around} {E:Value→Shared→Prop} {s:Shared} (h:wpAny M A t Q E s) (hQ:∀ a s,Q a s→Q' a s):wpAny M A t Q' E s:=wpAny_mono h hQ fun _ _ x=>x
end L2
namespace L2
open PySem PySem.Spec PyProof.Rows
section
variable {X:Cx}
theorem bin {a b:Expr} {ta tb:TE} (ha:PE X a ta) (hb:PE X b tb) {pins:List (Addr×Obj)} {s:Shared} {σ:St} {H:Hp} {R:V→V→Hp→Prop} (I:Inv X pins σ H s) (h:ta σ H fun x H1=>tb σ H1 fun y H2=>R x y H2)
  {α:Type} {Q:α→Shared→Prop} {f:Value→Value→Sem α}
  (hf:∀ v u s2 x y H2,Inv X pins σ H2 s2→RelV x v→RelV y u→R x y H2→wpAny (model X.prog X.w) X.A (f v u) Q X.xe s2) :
  wpAny (model X.prog X.w) X.A (eval a X.env) (fun v s₁=>wpAny (model X.prog X.w) X.A (eval b X.env) (fun u s₂=>wpAny (model X.prog X.w) X.A (f v u) Q X.xe s₂) X.xe s₁) X.xe s:=by
 refine thn (ha pins s σ H _ I h) fun v s1 h_=>?_
 obtain ⟨x,H1,I1,r1,q1⟩:=h_
 refine thn (hb pins s1 σ H1 _ I1 q1) fun u s2 h_=>?_
 obtain ⟨y,H2,I2,r2,q2⟩:=h_
 exact hf v u s2 x y H2 I2 r1 r2 q2
noncomputable def tVar (i:Nat):TE:=fun σ H Q=>∃ v,σ[i]?=some (some v)∧Q v H
noncomputable def tC (v:V):TE:=fun _ H Q=>Q v H
theorem pe_var {i:Nat} {x:Str} {pos:Pos} (hN:X.N[i]?=some x) (hv:Vis X.env.scope x) (hd:(x==("__debug__" : Str))=false) (hcd:(x==("__classdict__" : Str))=false):PE X (.Name x pos) (tVar i):=by
 intro pins s σ H Q I h
 obtain ⟨v,e,h⟩:=h
 obtain ⟨m,hn,hl⟩:=I.loc
 obtain ⟨u,r,l⟩:=hl i x v hN e hv
 have fin:EP X pins σ Q u s:=⟨v,H,I,r,h⟩
 rcases l with ⟨hk,hm⟩ | ⟨hk,c,hc,hcell⟩
 ·exact wpAny_Name (wpAny_loadName_local I.ok.kind hk hn hm fin) hd
 ·rcases hk with hk | hk
  ·exact wpAny_Name (wpAny_loadName_cell I.ok.kind hk hc hcell fin) hd
  ·exact wpAny_Name (wpAny_loadName_free I.ok.kind hk hc hcell fin hcd) hd
theorem pe_int {i j pos}:PE X (.Constant (.int i) j pos) (tC (.int i)):=fun _ _ _ H _ I h=>wpAny_Constant_int ⟨.int i,H,I.tok _,⟨_,rfl⟩,h⟩
theorem pe_bl {b j pos}:PE X (.Constant (.bool b) j pos) (tC (.bl b)):=fun _ _ _ H _ I h=>Constant_bool ⟨.bl b,H,I,rfl,h⟩
theorem pe_non {j pos}:PE X (.Constant .none j pos) (tC .non):=fun _ _ _ H _ I h=>Constant_none ⟨.non,H,I,rfl,h⟩
theorem pe_str {x j pos}:PE X (.Constant (.str x) j pos) (tC (.str x)):=fun _ _ _ H _ I h=>Calls.Constant_str ⟨.str x,H,I.tok _,⟨_,rfl⟩,h⟩
def Gl (X:Cx) (x:Str):Prop:=X.env.kindOf x=some .globalImplicit
theorem ld_glob {E:Value→Shared→Prop} {pins:List (Addr×Obj)} {s:Shared} {σ:St} {H:Hp} {x:Str} {u:Value} {pos:Pos} {Q:Value→Shared→Prop} (I:Inv X pins σ H s) (hg:Gl X x) (hm:X.mg x=some u) (h:Q u s)
  (hd:(x==("__debug__" : Str))=false):wpAny (model X.prog X.w) X.A (eval (.Name x pos) X.env) Q E s :=
 Calls.Name_function_global I.ok.kind hg (Calls.loadGlobal_global (by rw [I.ok.glob];exact I.mod.glob.keeps I.bk) hm h) hd
theorem zS6 {E:Value→Shared→Prop} {pins:List (Addr×Obj)} {s:Shared} {σ:St} {H:Hp} {x:Str} {u:Value} {pos:Pos} {Q:Value→Shared→Prop} (I:Inv X pins σ H s) (hg:Gl X x) (hm:X.mg x=none) (hv:bootBuiltins x=some u) (h:Q u s)
  (hn:x ≠ "__name__" := by decide) (hd:(x==("__debug__" : Str))=false:=by decide):wpAny (model X.prog X.w) X.A (eval (.Name x pos) X.env) Q E s:=by
 obtain ⟨mb,h1,h2⟩:=I.mod.blt
 exact Calls.Name_function_global I.ok.kind hg (Calls.loadGlobal_builtin (by rw [I.ok.glob];exact I.mod.glob.keeps I.bk) hm (by rw [I.ok.blt];exact h1.keeps I.bk) ((h2 x hn).trans hv) h) hd
variable {a b:Expr} {ta tb:TE} {pos:Pos}
def PC (X:Cx) (op:CmpOp) (a b:Expr) (t:TE):Prop :=
 ∀ (pins:List (Addr×Obj)) (s:Shared) (σ:St) (H:Hp) (Q:VK),Inv X pins σ H s→t σ H Q →
  wpAny (model X.prog X.w) X.A (eval a X.env) (fun v s₁=>wpAny (model X.prog X.w) X.A (eval b X.env) (fun u s₂=>wpAny (model X.prog X.w) X.A (compareOp op v u) (EP X pins σ Q) X.xe s₂) X.xe s₁) X.xe s
theorem nobehind (b:Expr) {op:CmpOp} (h:op≠.In) (h2:op≠.NotIn):behindInMarks op b=false:=by
 have e1:(op==CmpOp.In)=false:=by cases op <;> first | rfl | exact absurd rfl h
 have e2:(op==CmpOp.NotIn)=false:=by cases op <;> first | rfl | exact absurd rfl h2
 cases b <;> simp [behindInMarks,e1,e2]
noncomputable def tB (t:TE):TT:=fun σ H Q=>t σ H fun x H1=>∃ c,x=.bl c∧Q c H1
theorem pt_cmp {op:CmpOp} {t:TE} (h:PC X op a b t) (h1:behindInMarks op b=false):PT X (.Compare a [op] [b] pos) (tB t):=by
 intro pins s σ H Q I hw
 refine wpAny_isTrue_Compare1 (thn (h pins s σ H _ I hw) fun v s1 h1=>thn h1 fun u s2 h2=>thn h2 fun c s3 ⟨x,H1,I1,r1,q1⟩=>?_) h1
 obtain ⟨d,rfl,q⟩:=q1
 cases r1
 exact wpAny_truthy_bool ⟨H1,I1,q⟩
theorem pt_val {e:Expr} {t:TE} (h:PE X e t) (he:∀ whole,isTrue e X.env whole=(do let v ← whole;standAt e.pos;holding [v] (truthy v))):PT X e (tB t):=by
 intro pins s σ H Q I hw
 refine isTrue_plain (thn (h pins s σ H _ I hw) fun v s1 ⟨x,H1,I1,r1,q1⟩=>?_) (he _)
 obtain ⟨d,rfl,q⟩:=q1
 cases r1
 exact wpAny_truthy_bool ⟨H1,I1,q⟩
variable {tA tB':TT} {rest:List Expr}
noncomputable def tAnd (t u:TT):TT:=fun σ H Q=>t σ H fun c H1=>if c=true then u σ H1 Q else Q false H1
noncomputable def tOr (t u:TT):TT:=fun σ H Q=>t σ H fun c H1=>if c=true then Q true H1 else u σ H1 Q
noncomputable def tNot (t:TT):TT:=fun σ H Q=>t σ H fun c H1=>Q (!c) H1
theorem pw_and1 (ha:PT X a tA):PW X (.BoolOp .And [a] pos) tA:=by
 intro wh pins s σ H Q I h
 refine isTrue_and (thn (ha pins s σ H Q I h) fun c s1 e=>?_)
 cases c with
 | true=>exact isTrue_and_nil e
 | false=>exact e
theorem pw_or1 (ha:PT X a tA):PW X (.BoolOp .Or [a] pos) tA:=by
 intro wh pins s σ H Q I h
 refine isTrue_or (thn (ha pins s σ H Q I h) fun c s1 e=>?_)
 cases c with
 | false=>exact isTrue_or_nil e
 | true=>exact e
theorem pw_and (ha:PT X a tA) (hb:PW X (.BoolOp .And (b::rest) pos) tB'):PW X (.BoolOp .And (a::b::rest) pos) (tAnd tA tB'):=by
 intro wh pins s σ H Q I h
 refine isTrue_and (thn (ha pins s σ H _ I h) fun c s1 h_=>?_)
 obtain ⟨H1,I1,q1⟩:=h_
 cases c with
 | true=>exact hb wh pins s1 σ H1 Q I1 q1
 | false=>exact ⟨H1,I1,q1⟩
theorem pw_or (ha:PT X a tA) (hb:PW X (.BoolOp .Or (b::rest) pos) tB'):PW X (.BoolOp .Or (a::b::rest) pos) (tOr tA tB'):=by
 intro wh pins s σ H Q I h
 refine isTrue_or (thn (ha pins s σ H _ I h) fun c s1 h_=>?_)
 obtain ⟨H1,I1,q1⟩:=h_
 cases c with
 | true=>exact ⟨H1,I1,q1⟩
 | false=>exact hb wh pins s1 σ H1 Q I1 q1
theorem pt_not (ha:PT X a tA):PT X (.UnaryOp .Not a pos) (tNot tA):=by
 intro pins s σ H Q I h
 exact isTrue_not (ha pins s σ H (fun c H1=>Q (!c) H1) I h)
noncomputable def tAndV (ta tb:TE):TE:=fun σ H Q=>ta σ H fun x H1=>∃ c,x=.bl c∧if c=true then tb σ H1 Q else Q (.bl false) H1
noncomputable def tOrV (ta tb:TE):TE:=fun σ H Q=>ta σ H fun x H1=>∃ c,x=.bl c∧if c=true then Q (.bl true) H1 else tb σ H1 Q
theorem pe_one {op} {t:TE} (h:PE X a t):PE X (.BoolOp op [a] pos) t:=fun pins s σ H Q I hw=>BoolOp_one (h pins s σ H Q I hw)
theorem pe_and (ha:PE X a ta) (hb:PE X (.BoolOp .And (b::rest) pos) tb):PE X (.BoolOp .And (a::b::rest) pos) (tAndV ta tb):=by
 intro pins s σ H Q I h
 refine BoolOp_and (thn (ha pins s σ H _ I h) fun v s1 h_=>?_)
 obtain ⟨x,H1,I1,r1,q1⟩:=h_
 obtain ⟨c,rfl,q1⟩:=q1
 cases r1
 refine wpAny_truthy_bool ?_
 cases c with
 | true=>exact hb pins s1 σ H1 Q I1 q1
 | false=>exact ⟨.bl false,H1,I1,rfl,q1⟩
theorem pe_or (ha:PE X a ta) (hb:PE X (.BoolOp .Or (b::rest) pos) tb):PE X (.BoolOp .Or (a::b::rest) pos) (tOrV ta tb):=by
 intro pins s σ H Q I h
 refine BoolOp_or (thn (ha pins s σ H _ I h) fun v s1 h_=>?_)
 obtain ⟨x,H1,I1,r1,q1⟩:=h_
 obtain ⟨c,rfl,q1⟩:=q1
 cases r1
 refine wpAny_truthy_bool ?_
 cases c with
 | false=>exact hb pins s1 σ H1 Q I1 q1
 | true=>exact ⟨.bl true,H1,I1,rfl,q1⟩
noncomputable def tIf (t:TT) (ta tb:TE):TE:=fun σ H Q=>t σ H fun c H1=>if c=true then ta σ H1 Q else tb σ H1 Q
theorem pe_ifExp {c:Expr} (hc:PT X c tA) (ha:PE X a ta) (hb:PE X b tb):PE X (.IfExp c a b pos) (tIf tA ta tb):=by
 intro pins s σ H Q I h
 refine wpAny_IfExp (thn (hc pins s σ H _ I h) fun d s1 h_=>?_)
 obtain ⟨H1,I1,q1⟩:=h_
 cases d with
 | true=>exact ha pins s1 σ H1 Q I1 q1
 | false=>exact hb pins s1 σ H1 Q I1 q1
end
end L2
namespace L2
open PySem PySem.Spec PyProof.Rows
def SqL (K:PySem.W.Frag) (H:Hp) (a:Addr) (xs:List V):Prop :=
 Rd H a (.lst xs) ∨
  ∃ (o:Obj) (its:Array Value) (n:Nat),K.lookup a=some o∧o.cls=.type "list" ∧ o.dict=none∧o.data=.seq its n∧its.size≤sizeLine∧Vals xs its.toList
def SqT (K:PySem.W.Frag) (H:Hp) (a:Addr) (xs:List V):Prop :=
 Rd H a (.tup xs) ∨
  ∃ (o:Obj) (its:Array Value) (n:Nat),K.lookup a=some o∧o.cls=.type "tuple" ∧ o.dict=none∧o.data=.seq its n∧its.size≤sizeLine∧Vals xs its.toList
noncomputable def absV:Value→Option V
 | .none=>some .non
 | .bool b=>some (.bl b)
 | .int i _=>some (.int i)
 | .str x _=>some (.str x)
 | .bytes b _=>some (.byt b)
 | .float b _=>some (.flt b)
 | .ref a=>some (.ref a)
 | .type n=>some (.ty n)
 | _=>none
theorem RelV.abs {x:V} {u:Value} (r:RelV x u):absV u=some x:=by
 cases x with
 | non=>cases r;rfl
 | bl _=>cases r;rfl
 | int _=>obtain ⟨t,rfl⟩:=r;rfl
 | str _=>obtain ⟨t,rfl⟩:=r;rfl
 | byt _=>obtain ⟨t,rfl⟩:=r;rfl
 | flt _=>obtain ⟨t,rfl⟩:=r;rfl
 | ref _=>cases r;rfl
 | ty _=>cases r;rfl
theorem RelV.inj {x y:V} {u:Value} (r:RelV x u) (q:RelV y u):x=y:=Option.some.inj (r.abs.symm.trans q.abs)
theorem Vals.inj:∀ {xs ys:List V} {us:List Value},Vals xs us→Vals ys us→xs=ys
 | _,_,_,.nil,.nil=>rfl
 | _,_,_,.cons r t,.cons r' t'=>by rw [r.inj r',Vals.inj t t']
section
variable {X:Cx} {pins:List (Addr×Obj)} {σ:St} {H:Hp} {s:Shared} {a:Addr} {xs ys:List V}
theorem SqL.of {K:PySem.W.Frag} (h:H a=some (.lst xs)):SqL K H a xs:=.inl (.inl h)
theorem SqT.of {K:PySem.W.Frag} (h:H a=some (.tup xs)):SqT K H a xs:=.inl (.inl h)
theorem Inv.list (I:Inv X pins σ H s) (h:SqL X.K H a xs):∃ its:List Value,Vals xs its∧PlainL s.heap a its.toArray∧xs.length≤sizeLine:=by
 rcases h with h | ⟨o,its,n,hk,hc,hd,hs,hz,r⟩
 ·obtain ⟨z,its,n,r,e⟩:=h.ok I.hok
  exact ⟨its,r,⟨_,n,e,rfl,rfl,rfl⟩,z⟩
 ·refine ⟨its.toList,r,⟨o,n,I.kIn a o hk,hc,hd,by simpa using hs⟩,?_⟩
  have e:=r.length
  simp only [Array.length_toList] at e
  lia
theorem Inv.tuple (I:Inv X pins σ H s) (h:SqT X.K H a xs):∃ its:List Value,Vals xs its∧IsTup s.heap a its.toArray∧xs.length≤sizeLine:=by
 rcases h with h | ⟨o,its,n,hk,hc,_,hs,hz,r⟩
 ·obtain ⟨z,its,r,ob,p1,p2,_,p3⟩:=h.ok I.hok
  exact ⟨its,r,⟨ob,p1,p2,p3⟩,z⟩
 ·refine ⟨its.toList,r,⟨o,I.kIn a o hk,hc,n,by simpa using hs⟩,?_⟩
  have e:=r.length
  simp only [Array.length_toList] at e
  lia
theorem Inv.list_inj (I:Inv X pins σ H s) (h:SqL X.K H a xs) (h':SqL X.K H a ys):xs=ys:=by
 obtain ⟨its,r,⟨o,n,e,_,_,d⟩,_⟩:=I.list h
 obtain ⟨its',r',⟨o',n',e',_,_,d'⟩,_⟩:=I.list h'
 rw [e] at e';cases e'
 rw [d] at d'
 injection d' with d1 _
 have:its=its':=by simpa using congrArg Array.toList d1
 subst this
 exact r.inj r'
theorem Inv.tuple_inj (I:Inv X pins σ H s) (h:SqT X.K H a xs) (h':SqT X.K H a ys):xs=ys:=by
 obtain ⟨its,r,⟨o,e,_,n,d⟩,_⟩:=I.tuple h
 obtain ⟨its',r',⟨o',e',_,n',d'⟩,_⟩:=I.tuple h'
 rw [e] at e';cases e'
 rw [d] at d'
 injection d' with d1 _
 have:its=its':=by simpa using congrArg Array.toList d1
 subst this
 exact r.inj r'
end
noncomputable abbrev Cx.wish (X:Cx) (E:Value→Shared→Prop):Cx:={ X with xe:=E }
noncomputable abbrev Cx.nox (X:Cx):Cx:=X.wish fun _ _=>False
theorem Cx.Ok.wish {X:Cx} (ok:X.Ok) (E:Value→Shared→Prop):(X.wish E).Ok :=
 ⟨ok.mod,ok.kind,ok.glob,ok.blt,ok.above,ok.inj,ok.has,ok.cab,ok.hd,ok.frames,ok.stk,ok.exf,ok.bs,ok.bsz,ok.noex,ok.exfs,ok.funs,ok.frf⟩
theorem Cx.Ok.unwish {X:Cx} {E:Value→Shared→Prop} (ok:(X.wish E).Ok):X.Ok :=
 ⟨ok.mod,ok.kind,ok.glob,ok.blt,ok.above,ok.inj,ok.has,ok.cab,ok.hd,ok.frames,ok.stk,ok.exf,ok.bs,ok.bsz,ok.noex,ok.exfs,ok.funs,ok.frf⟩
section
variable {X:Cx} {pins:List (Addr×Obj)} {σ:St} {H:Hp} {s:Shared} {E:Value→Shared→Prop}
theorem Inv.wish (I:Inv X pins σ H s) (E:Value→Shared→Prop):Inv (X.wish E) pins σ H s:=⟨I.ok.wish E,I.os,I.bare,I.base,I.loc,I.cell,I.free,I.freeC,I.pin,I.hok,I.len⟩
theorem Inv.unwish (I:Inv (X.wish E) pins σ H s):Inv X pins σ H s:=⟨I.ok.unwish,I.os,I.bare,I.base,I.loc,I.cell,I.free,I.freeC,I.pin,I.hok,I.len⟩
theorem SP.unwish {D:Ends} {f:Flow} {s':Shared} (h:SP (X.wish E) pins D f s'):SP X pins D f s':=by
 cases f with
 | next=>obtain ⟨σ',H',I,q⟩:=h;exact ⟨σ',H',I.unwish,q⟩
 | brk=>obtain ⟨σ',H',I,q⟩:=h;exact ⟨σ',H',I.unwish,q⟩
 | cont=>obtain ⟨σ',H',I,q⟩:=h;exact ⟨σ',H',I.unwish,q⟩
 | ret u=>obtain ⟨v,σ',H',I,r,q⟩:=h;exact ⟨v,σ',H',I.unwish,r,q⟩
theorem PSs.nox {st:List Stmt} {t:TS} (h:PSs X.nox st t):PSs X st t:=fun pins s σ H D I hw =>
 wpAny_mono (h pins s σ H D (I.wish _) hw) (fun _ _ q=>q.unwish) fun _ _ z=>False.elim z
end
section
variable {X:Cx} {st:Stmt} {rest:List Stmt} {t u:TS} {e:Expr} {te:TE} {pos:Pos}
noncomputable def tNext:TS:=fun D σ H=>D.nx σ H
noncomputable def tSeq (t u:TS):TS:=fun D σ H=>t { D with nx:=u D } σ H
theorem pss_nil:PSs X [] tNext:=fun _ _ σ H _ I h=>wpAny_execs_nil ⟨σ,H,I,h⟩
theorem pss_cons (h1:PS X st t) (h2:PSs X rest u):PSs X (st::rest) (tSeq t u):=by
 intro pins s σ H D I h
 refine wpAny_execs_cons (thn (h1 pins s σ H { D with nx:=u D } I h) fun f s1 q=>?_)
 cases f with
 | next =>
  obtain ⟨σ',H',I',q⟩:=q
  exact h2 pins s1 σ' H' D I' q
 | ret v=>exact q
 | brk=>exact q
 | cont=>exact q
theorem Inv.quiet {pins:List (Addr×Obj)} {σ:St} {H:Hp} {s:Shared} (I:Inv X pins σ H s):interactive X.env=false:=by simp [interactive,I.ok.kind]
noncomputable def tDrop (te:TE):TS:=fun D σ H=>te σ H fun _ H1=>D.nx σ H1
theorem ps_expr (he:PE X e te) (hs:swapsWith e none pos.line X.env=pure false):PS X (.Expr e pos) (tDrop te):=by
 intro pins s σ H D I h
 exact wpAny_Expr_any (thn (he pins s σ H _ I h) fun v s1 ⟨x,H1,I1,r1,q1⟩=>⟨σ,H1,I1,q1⟩) I.quiet hs
noncomputable def tRet (te:TE):TS:=fun D σ H=>te σ H D.rt
theorem ps_ret (he:PE X e te):PS X (.Return (some e) pos) (tRet te):=by
 intro pins s σ H D I h
 exact wpAny_Return_some (thn (he pins s σ H _ I h) fun v s1 ⟨x,H1,I1,r1,q1⟩=>⟨x,σ,H1,I1,r1,q1⟩)
noncomputable def tIfS (c:TT) (t u:TS):TS:=fun D σ H=>c σ H fun b H1=>if b=true then t D σ H1 else u D σ H1
theorem ps_if {c:Expr} {a b:List Stmt} {tc:TT} (hc:PT X c tc) (ha:PSs X a t) (hb:PSs X b u):PS X (.If c a b pos) (tIfS tc t u):=by
 intro pins s σ H D I h
 refine wpAny_If (thn (hc pins s σ H _ I h) fun d s1 h_=>?_)
 obtain ⟨H1,I1,q1⟩:=h_
 cases d with
 | true=>exact ha pins s1 σ H1 D I1 q1
 | false=>exact hb pins s1 σ H1 D I1 q1
end
noncomputable abbrev TG:=V→St→Hp→(St→Hp→Prop)→Prop
noncomputable abbrev TGs:=List V→St→Hp→(St→Hp→Prop)→Prop
def PG (X:Cx) (target:Expr) (t:TG):Prop :=
 ∀ (pins:List (Addr×Obj)) (s:Shared) (σ:St) (H:Hp) (v:V) (u:Value) (Q:St→Hp→Prop),Inv X pins σ H s→RelV v u→t v σ H Q →
  wpAny (model X.prog X.w) X.A (assign target X.env u) (fun _ s'=>∃ σ' H',Inv X pins σ' H' s'∧Q σ' H') X.xe s
def PGs (X:Cx) (ts:List Expr) (t:TGs):Prop :=
 ∀ (pins:List (Addr×Obj)) (s:Shared) (σ:St) (H:Hp) (vs:List V) (us:List Value) (Q:St→Hp→Prop),Inv X pins σ H s→Vals vs us→t vs σ H Q →
  wpAny (model X.prog X.w) X.A (assignInOrder ((assignEach ts X.env).map (·.2)) us) (fun _ s'=>∃ σ' H',Inv X pins σ' H' s'∧Q σ' H') X.xe s
noncomputable abbrev TSet:=V→V→V→Hp→(Hp→Prop)→Prop
def PSet (X:Cx) (t:TSet):Prop :=
 ∀ (pins:List (Addr×Obj)) (s:Shared) (σ:St) (H:Hp) (o i v:V) (ov iv u:Value) (Q:Hp→Prop),Inv X pins σ H s→RelV o ov→RelV i iv→RelV v u→t o i v H Q →
  wpAny (model X.prog X.w) X.A (setItem ov iv u) (fun _ s'=>∃ H',Inv X pins σ H' s'∧Q H') X.xe s
noncomputable abbrev TIp:=V→V→Hp→VK→Prop
def PIp (X:Cx) (op:Operator) (t:TIp):Prop :=
 ∀ (pins:List (Addr×Obj)) (s:Shared) (σ:St) (H:Hp) (x y:V) (v u:Value) (Q:VK),Inv X pins σ H s→RelV x v→RelV y u→t x y H Q →
  wpAny (model X.prog X.w) X.A (inplaceOp op v u) (EP X pins σ Q) X.xe s
section
variable {X:Cx} {pos:Pos}
noncomputable def gName (i:Nat):TG:=fun v σ H Q=>Q (σ.set i (some v)) H
theorem pg_name {i:Nat} {x:Str} (hN:X.N.Nodup) (hi:X.N[i]?=some x) (hx:Loc X.env.scope x) (hf:X.fn x=true∨X.env.scope.names.lookup x=some .local):PG X (.Name x pos) (gName i):=by
 intro pins s σ H v u Q I r h
 exact wpAny_assign_Name (zI2 I hN hi hx r (fun s' I'=>⟨_,H,I',h⟩) hf)
noncomputable def gNil:TGs:=fun vs σ H Q=>vs=[]∧Q σ H
noncomputable def gCons (t:TG) (u:TGs):TGs:=fun vs σ H Q=>∃ v r,vs=v::r∧t v σ H fun σ' H'=>u r σ' H' Q
theorem pgs_nil:PGs X [] gNil:=by
 intro pins s σ H vs us Q I r h
 obtain ⟨e,h⟩:=h
 subst e
 cases r
 exact assignInOrder_nil ⟨σ,H,I,h⟩
theorem pgs_cons {e:Expr} {es:List Expr} {t:TG} {u:TGs} (h1:PG X e t) (h2:PGs X es u)
  (hs:(assignEach (e::es) X.env).map (·.2)=assign e X.env::(assignEach es X.env).map (·.2)):PGs X (e::es) (gCons t u):=by
 intro pins s σ H vs us Q I r h
 obtain ⟨v,vr,e1,h⟩:=h
 subst e1
 cases r with
 | cons r rr =>
  rw [hs]
  refine assignInOrder_cons (thn (h1 pins s σ H _ _ _ I r h) fun _ s1 h_=>?_)
  obtain ⟨σ1,H1,I1,q1⟩:=h_
  exact h2 pins s1 σ1 H1 _ _ Q I1 rr q1
noncomputable def gTup (K:PySem.W.Frag) (n:Nat) (t:TGs):TG:=fun v σ H Q=>∃ a xs,v=.ref a∧SqT K H a xs∧xs.length=n∧t xs σ H Q
theorem pg_tup {es:List Expr} {k:Nat} {t:TGs} {n:Nat} (hc:X.calm=true) (h:PGs X es t)
  (hn:(assignEach es X.env).length=n) (hst:(assignEach es X.env).findIdx? (·.1)=none):PG X (.Tuple es k pos) (gTup X.K n t):=by
 intro pins s σ H v u Q I r hw
 obtain ⟨a,xs,e1,hq,hl,hw⟩:=hw
 subst e1
 cases r
 obtain ⟨its,rv,ht,hz⟩:=I.tuple hq
 refine assign_Tuple_tuple (I.ok.hd hc) ht (by simp [hn,← hl,rv.length]) hst fun h' hx=>?_
 have I1:Inv X pins σ H { s with heap:=h' }:=I.kept (t':=s.toks) fun b o e=>hx b o (Nat.ne_of_lt (Heap.lt_size e)) e
 exact h pins _ σ H xs _ Q I1 (by simpa using rv) hw
noncomputable def gSub (to ti:TE) (t:TSet):TG:=fun v σ H Q=>to σ H fun o H1=>ti σ H1 fun i H2=>t o i v H2 fun H3=>Q σ H3
theorem pg_sub {o i:Expr} {to ti:TE} {t:TSet} (ho:PE X o to) (hi:PE X i ti) (hs:PSet X t)
  (ha:∀ v,assign (.Subscript o i pos) X.env v=(do
   let ov ← holding [v] (eval o X.env)
   let iv ← holding [v,ov] (eval i X.env)
   standAt pos
   holding [v,ov,iv] (setItem ov iv v)
   release [v,ov,iv] [])):PG X (.Subscript o i pos) (gSub to ti t):=by
 intro pins s σ H v u Q I r h
 rw [ha]
 refine wpAny_bind (wpAny_holding (thn (ho pins s σ H _ I h) fun ov s1 h_=>?_))
 obtain ⟨x,H1,I1,r1,q1⟩:=h_
 refine wpAny_bind (wpAny_holding (thn (hi pins s1 σ H1 _ I1 q1) fun iv s2 h_=>?_))
 obtain ⟨y,H2,I2,r2,q2⟩:=h_
 refine wpAny_bind (wpAny_standAt (wpAny_bind (wpAny_holding (thn (hs pins s2 σ H2 x y v ov iv u _ I2 r1 r2 r q2) fun _ s3 h_=>?_))))
 obtain ⟨H3,I3,q3⟩:=h_
 exact wpAny_release ⟨σ,H3,I3,q3⟩
noncomputable def tAsg (te:TE) (g:TG):TS:=fun D σ H=>te σ H fun x H1=>g x σ H1 D.nx
theorem ps_asg {tg e:Expr} {te:TE} {g:TG} (he:PE X e te) (hg:PG X tg g) (hs:swapsWithSole [tg] e pos.line X.env=pure false) (hw:swappedStores [tg] e X.env=pure none)
  (h1:(assignEach [tg] X.env).map (·.2)=[assign tg X.env]):PS X (.Assign [tg] e pos) (tAsg te g):=by
 intro pins s σ H D I h
 refine wpAny_Assign_stores (thn (he pins s σ H _ I h) fun v s1 ⟨x,H1,I1,r1,q1⟩=>?_) hs hw
 rw [h1]
 exact thn (hg pins s1 σ H1 x v _ I1 r1 q1) fun _ s2 q=>q
theorem ps_set {i:Nat} {x:Str} {e:Expr} {te:TE} {pos':Pos} (hN:X.N.Nodup) (hi:X.N[i]?=some x) (hx:Loc X.env.scope x) (he:PE X e te) (hs:swapsWith e (some (.Name x pos')) pos.line X.env=pure false) (hf:X.fn x=true∨X.env.scope.names.lookup x=some .local) :
  PS X (.Assign [.Name x pos'] e pos) (tAsg te (gName i)):=by
 intro pins s σ H D I h
 refine wpAny_Assign_Name (thn (he pins s σ H _ I h) fun v s1 ⟨y,H1,I1,r1,q1⟩=>?_) hs
 exact zI2 I1 hN hi hx r1 (fun s2 I2=>⟨_,H1,I2,q1⟩) hf
noncomputable def tAug (i:Nat) (te:TE) (ti:TIp):TS:=fun D σ H=>∃ x,σ[i]?=some (some x)∧te σ H fun y H1=>ti x y H1 fun z H2=>D.nx (σ.set i (some z)) H2
theorem ps_aug {i:Nat} {x:Str} {e:Expr} {te:TE} {op:Operator} {ti:TIp} {pos':Pos} (hN:X.N.Nodup) (hi:X.N[i]?=some x) (hx:Loc X.env.scope x) (he:PE X e te) (ho:PIp X op ti) (hf:X.fn x=true∨X.env.scope.names.lookup x=some .local) :
  PS X (.AugAssign (.Name x pos') op e pos) (tAug i te ti):=by
 intro pins s σ H D I h
 obtain ⟨v,e1,h⟩:=h
 obtain ⟨m,hn,hl⟩:=I.loc
 have vis:Vis X.env.scope x:=by rcases hx with k | k;exact .inl k;exact .inr (.inl k)
 obtain ⟨u,r,l⟩:=hl i x v hi e1 vis
 refine wpAny_AugAssign_Name ?_
 have go:wpAny (model X.prog X.w) X.A (eval e X.env) (fun w s₂=>wpAny (model X.prog X.w) X.A (inplaceOp op u w) (fun r s₃=>wpAny (model X.prog X.w) X.A (storeName X.env x r) (fun _=>SP X pins D .next) X.xe s₃) X.xe s₂) X.xe s:=by
  refine thn (he pins s σ H _ I h) fun w s1 h_=>?_
  obtain ⟨y,H1,I1,r1,q1⟩:=h_
  refine thn (ho pins s1 σ H1 v y u w _ I1 r r1 q1) fun z s2 h_=>?_
  obtain ⟨zv,H2,I2,r2,q2⟩:=h_
  exact zI2 I2 hN hi hx r2 (fun s3 I3=>⟨_,H2,I3,q2⟩) hf
 rcases l with ⟨hk,hm⟩ | ⟨hk,c,hc,hcell⟩
 ·exact wpAny_loadName_local I.ok.kind hk hn hm go
 ·rcases hk with hk | hk
  ·exact wpAny_loadName_cell I.ok.kind hk hc hcell go
  ·rcases hx with k | k
   ·have:X.env.scope.names.lookup x=some .free:=hk
    rw [k] at this;cases this
   ·have:X.env.scope.names.lookup x=some .free:=hk
    rw [k] at this;cases this
noncomputable def ipI (f:Int→Int→Int):TIp:=fun x y H Q=>∃ i j,x=.int i∧y=.int j∧Q (.int (f i j)) H
theorem ip_add:PIp X .Add (ipI fun i j=>i+j):=by
 intro pins s σ H x y v u Q I r1 r2 h
 obtain ⟨i,j,e1,e2,q⟩:=h
 subst e1;subst e2
 obtain ⟨t,rfl⟩:=r1
 obtain ⟨t',rfl⟩:=r2
 exact iadd_int ⟨.int _,H,I.tok _,⟨_,rfl⟩,q⟩
end
section
variable {X:Cx} {pos:Pos}
noncomputable def tWhile (c:TT) (tb:TS):TS:=fun D σ H=>∃ W:Nat→St→Hp→Prop,(∃ m,W m σ H)∧∀ m σ H,W m σ H →
 c σ H fun b H1=>if b=true then ∃ N:St→Hp→Prop,(∀ σ' H',N σ' H'→∃ m',m'<m∧W m' σ' H')∧tb { D with nx:=N,ct:=N,bk:=D.nx } σ H1 else D.nx σ H1
theorem ps_while {c:Expr} {body:List Stmt} {tc:TT} {tb:TS} (hp:PassesOwn (model X.prog X.w) X.A X.env X.xe) (hc:PT X c tc) (hb:PSs X body tb):PS X (.While c body [] pos) (tWhile tc tb):=by
 intro pins s σ H D I h
 obtain ⟨W,⟨m0,w0⟩,turn⟩:=h
 refine wpAny_While (codeAny_whileLoop (fun n s'=>∃ σ' H',Inv X pins σ' H' s'∧W n σ' H') ?_ m0 ⟨σ,H,I,w0⟩)
 rintro n s1 ⟨σ1,H1,I1,w1⟩
 refine wpAny_passesOwn hp (thn (hc pins s1 σ1 H1 _ I1 (turn n σ1 H1 w1)) fun b s2 h_=>?_)
 obtain ⟨H2,I2,q2⟩:=h_
 cases b with
 | true =>
  obtain ⟨N,hN,q2⟩:=q2
  rw [if_pos rfl]
  refine wpAny_passesOwn hp (thn (hb pins s2 σ1 H2 _ I2 q2) fun f s3 q3=>?_)
  cases f with
  | next =>
   obtain ⟨σ3,H3,I3,n3⟩:=q3
   obtain ⟨m',hm,w3⟩:=hN σ3 H3 n3
   exact ⟨m',hm,σ3,H3,I3,w3⟩
  | cont =>
   obtain ⟨σ3,H3,I3,n3⟩:=q3
   obtain ⟨m',hm,w3⟩:=hN σ3 H3 n3
   exact ⟨m',hm,σ3,H3,I3,w3⟩
  | brk=>exact q3
  | ret v=>exact q3
 | false =>
  rw [if_neg Bool.false_ne_true]
  exact wpAny_execs_nil ⟨σ1,H2,I2,q2⟩
end
structure It where
 go:Nat→Hp→Prop
 yld:Nat→Hp→V→Hp→Prop
 stop:Nat→Hp→Prop
def FpOk (X:Cx) (pins:List (Addr×Obj)) (H:Hp) (b:Addr):Prop :=
 H b=none∧b≠X.env.locals∧b∉X.fs∧(b∈X.ex∨X.s₀.heap.objs.size≤b)∧(∀ x c,X.env.cells.lookup x=some c→c≠b)∧∀ p∈X.pn++pins,p.1≠b
theorem Inv.fpOk {X:Cx} {pins:List (Addr×Obj)} {σ:St} {H H':Hp} {s:Shared} {b:Addr} (I:Inv X pins σ H s) (hb:s.heap.objs.size≤b) (hn:H' b=none):FpOk X pins H' b:=by
 refine ⟨hn,Nat.ne_of_gt (Nat.lt_of_lt_of_le I.lt hb),I.nofs hb,.inr (Nat.le_trans I.sz hb),fun x c e z=>?_,fun p hp z=>?_⟩
 ·obtain ⟨v,q⟩:=I.cell x c e
  exact absurd (Nat.lt_of_lt_of_le q.lt (by rw [z];exact hb)) (Nat.lt_irrefl _)
 ·exact absurd (Nat.lt_of_lt_of_le (Heap.lt_size (I.pin p hp).1) (by rw [z];exact hb)) (Nat.lt_irrefl _)
structure Turn (P:Program) (w:World) (K:PySem.W.Frag) (tg:Expr) (J:It) (fp:List Addr) (it:Addr) (tn:Nat→Heap→Prop):Prop where
 mem:it∈fp
 obj:∀ i h,tn i h→∀ b∈fp,∃ o,h.get? b=some o∧∀ v,o.data≠.cell v
 keep:∀ i h h',tn i h→(∀ b∈fp,∀ o,h.get? b=some o→h'.get? b=some o)→tn i h'
 item:∀ (X:Cx),X.prog=P→X.w=w→X.K=K→X.calm=true→∀ (i:Nat) (pins:List (Addr×Obj)) (s:Shared) (σ:St) (H:Hp) (E:Value→Shared→Prop),Inv X pins σ H s→(∀ b∈fp,FpOk X pins H b)→tn i s.heap→J.go i H →
  wpAny (model P w) X.A (pyNext (.ref it)) (fun r s1=>∃ u,r=some u ∧
   wpAny (model P w) X.A (letOwnedTupleGo tg (.ref it) u) (fun _ s2=>∃ x H',Inv X pins σ H' s2∧RelV x u∧J.yld i H x H'∧tn (i+1) s2.heap∧∀ b∈fp,H' b=none) E s1) E s
 done:∀ (X:Cx),X.prog=P→X.w=w→X.K=K→X.calm=true→∀ (i:Nat) (pins:List (Addr×Obj)) (s:Shared) (σ:St) (H:Hp) (E:Value→Shared→Prop),Inv X pins σ H s→(∀ b∈fp,FpOk X pins H b)→tn i s.heap→J.stop i H →
  wpAny (model P w) X.A (pyNext (.ref it)) (fun r s1=>r=none∧Inv X pins σ H s1) E s
 self:∀ (A:Around) (i:Nat) (s:Shared) (Q:Value→Shared→Prop) (E:Value→Shared→Prop),tn i s.heap→Q (.ref it) s→wpAny (model P w) A (pyIter (.ref it)) Q E s
noncomputable abbrev TI:=St→Hp→(It→Hp→Prop)→Prop
def PIE (X:Cx) (pins:List (Addr×Obj)) (σ:St) (tg:Expr) (R:It→Hp→Prop) (itv:Value) (s2:Shared):Prop :=
 ∃ (it:Addr) (fp:List Addr) (tn:Nat→Heap→Prop) (J:It) (H':Hp),itv=.ref it∧Inv X pins σ H' s2∧Turn X.prog X.w X.K tg J fp it tn∧tn 0 s2.heap∧(∀ b∈fp,FpOk X pins H' b)∧R J H'
def PI (X:Cx) (tg iter:Expr) (wi:TI):Prop :=
 ∀ (pins:List (Addr×Obj)) (s:Shared) (σ:St) (H:Hp) (R:It→Hp→Prop),Inv X pins σ H s→wi σ H R →
  wpAny (model X.prog X.w) X.A (eval iter X.env) (fun v s1=>wpAny (model X.prog X.w) X.A (pyIter v) (PIE X pins σ tg R) X.xe s1) X.xe s
theorem go_of {M:Model} {A:Around} {E:Value→Shared→Prop} {s:Shared} {tg:Expr} {it:Addr} {u:Value} {o:Obj} {n:String} {vs:Array Value} {Q:Unit→Shared→Prop} (ho:s.heap.get? it=some o) (hc:o.cls=.type n) (hd:o.data=.fields vs)
    (hn:["enumerate", "zip", "dict_itemiterator", "dict_reverseitemiterator", "odict_iterator", "itertools.zip_longest", "itertools.pairwise"].contains n=false) (hQ:Q () s):wpAny M A (letOwnedTupleGo tg (.ref it) u) Q E s:=by
  unfold letOwnedTupleGo
  cases tg <;> first
    | exact wpAny_pure hQ
    | (cases u <;> first
        | exact wpAny_pure hQ
        | (refine wpAny_bind (wpAny_load ho ?_)
           rw [hc,hd]
           show wpAny M A (if (["enumerate", "zip", "dict_itemiterator", "dict_reverseitemiterator", "odict_iterator", "itertools.zip_longest", "itertools.pairwise"].contains n&&vs[0]?==some (rawInt _))=true then _ else _) Q E s
           rw [if_neg (by intro h;rw [hn,Bool.false_and] at h;cases h)]
           exact wpAny_pure hQ))
noncomputable def Itl (K:PySem.W.Frag) (a:Addr):It :=
 ⟨fun i H=>∃ xs x,SqL K H a xs∧xs[i]?=some x,fun i H x H'=>H'=H∧∀ xs,SqL K H a xs→xs[i]?=some x,fun i H=>∃ xs,SqL K H a xs∧xs.length≤i⟩
noncomputable def Itt (K:PySem.W.Frag) (a:Addr):It :=
 ⟨fun i H=>∃ xs x,SqT K H a xs∧xs[i]?=some x,fun i H x H'=>H'=H∧∀ xs,SqT K H a xs→xs[i]?=some x,fun i H=>∃ xs,SqT K H a xs∧xs.length≤i⟩
noncomputable def Itr (lo:Int) (n:Nat):It:=⟨fun i _=>i<n,fun i H x H'=>H'=H∧x=.int (lo+i),fun i _=>n≤i⟩
theorem turn_list {P:Program} {w:World} {K:PySem.W.Frag} {tg:Expr} (a it:Addr):Turn P w K tg (Itl K a) [it] it (fun i h=>h.IsListIter it a i) where
 mem:=by simp
 obj:=fun i h st b hb=>by
  have e:b=it:=by simpa using hb
  subst e
  obtain ⟨o,e,c,d⟩:=st
  exact ⟨o,e,fun v z=>by rw [d] at z;cases z⟩
 keep:=fun i h h' st k=>st.at fun o e=>k it (by simp) o e
 item:=by
  intro X hP hw hK hc i pins s σ H E I hf st hg
  subst hP hw hK
  obtain ⟨xs,x,hq,hx⟩:=hg
  obtain ⟨its,rv,p,hz⟩:=I.list hq
  obtain ⟨u,hu,ru⟩:=rv.get hx
  obtain ⟨f0,f1,f2,f3,f4,f5⟩:=hf it (by simp)
  refine wpAny_pyNext_list_item st p.isList (x:=u) (by simpa using hu) fun h' st' sb=>?_
  have I1:Inv X pins σ H { s with heap:=h' }:=I.turned (t':=s.toks) (fun b o hb e=>(sb.2 b hb).trans e) f0 f1 f3 f4 f5
  obtain ⟨o,e,c,d⟩:=id st'
  exact ⟨u,rfl,go_of (s:={ s with heap:=h' }) e c d (by decide) ⟨x,H,I1,ru,⟨rfl,fun ys hy=>by rw [I.list_inj hy hq];exact hx⟩,st',fun b hb=>(hf b hb).1⟩⟩
 done:=by
  intro X hP hw hK hc i pins s σ H E I hf st hg
  subst hP hw hK
  obtain ⟨xs,hq,hx⟩:=hg
  obtain ⟨its,rv,p,hz⟩:=I.list hq
  obtain ⟨f0,f1,f2,f3,f4,f5⟩:=hf it (by simp)
  have hl:=rv.length
  exact wpAny_pyNext_list_end (I.ok.hd hc) st p.isList (by simp;lia) fun h' eb=>⟨rfl,I.turned (t':=s.toks) (fun b o hb e=>eb b o hb e) f0 f1 f3 f4 f5⟩
 self:=fun _ _ _ _ _ st h=>wpAny_pyIter_listiter st h
theorem zW1 {P:Program} {w:World} {K:PySem.W.Frag} {tg:Expr} (a it:Addr):Turn P w K tg (Itt K a) [it] it (fun i h=>h.IsTupleIter it a i) where
 mem:=by simp
 obj:=fun i h st b hb=>by
  have e:b=it:=by simpa using hb
  subst e
  obtain ⟨o,e,c,d⟩:=st
  exact ⟨o,e,fun v z=>by rw [d] at z;cases z⟩
 keep:=fun i h h' st k=>st.at fun o e=>k it (by simp) o e
 item:=by
  intro X hP hw hK hc i pins s σ H E I hf st hg
  subst hP hw hK
  obtain ⟨xs,x,hq,hx⟩:=hg
  obtain ⟨its,rv,p,hz⟩:=I.tuple hq
  obtain ⟨u,hu,ru⟩:=rv.get hx
  obtain ⟨f0,f1,f2,f3,f4,f5⟩:=hf it (by simp)
  refine wpAny_pyNext_tuple_item st (show s.heap.IsTuple a its.toArray from p) (x:=u) (by simpa using hu) fun h' st' sb=>?_
  have I1:Inv X pins σ H { s with heap:=h' }:=I.turned (t':=s.toks) (fun b o hb e=>(sb.2 b hb).trans e) f0 f1 f3 f4 f5
  obtain ⟨o,e,c,d⟩:=id st'
  exact ⟨u,rfl,go_of (s:={ s with heap:=h' }) e c d (by decide) ⟨x,H,I1,ru,⟨rfl,fun ys hy=>by rw [I.tuple_inj hy hq];exact hx⟩,st',fun b hb=>(hf b hb).1⟩⟩
 done:=by
  intro X hP hw hK hc i pins s σ H E I hf st hg
  subst hP hw hK
  obtain ⟨xs,hq,hx⟩:=hg
  obtain ⟨its,rv,p,hz⟩:=I.tuple hq
  obtain ⟨f0,f1,f2,f3,f4,f5⟩:=hf it (by simp)
  have hl:=rv.length
  exact wpAny_pyNext_tuple_end (I.ok.hd hc) st (show s.heap.IsTuple a its.toArray from p) (by simp;lia) fun h' eb=>⟨rfl,I.turned (t':=s.toks) (fun b o hb e=>eb b o hb e) f0 f1 f3 f4 f5⟩
 self:=fun _ _ _ _ _ st h=>wpAny_pyIter_tupleiter st h
theorem zX5 {P:Program} {w:World} {K:PySem.W.Frag} {tg:Expr} (it:Addr) (lo:Int) (n:Nat):Turn P w K tg (Itr lo n) [it] it (fun i h=>IsRangeIter h it (lo+(i:Nat) * 1) ((n:Int) - (i:Nat)) 1) where
 mem:=by simp
 obj:=fun i h st b hb=>by
  have e:b=it:=by simpa using hb
  subst e
  exact ⟨_,st,fun v z=>by
   have z':Data.fields _=Data.cell v:=z
   cases z'⟩
 keep:=fun i h h' st k=>k it (by simp) _ st
 item:=by
  intro X hP hw hK hc i pins s σ H E I hf st hg
  subst hP hw hK
  obtain ⟨f0,f1,f2,f3,f4,f5⟩:=hf it (by simp)
  have W:=Walks.range (prog:=X.prog) (w:=X.w) (I.ok.hd hc) it lo 1 n
  refine W.item i s _ _ hg st fun v h' tk hv st' kk=>?_
  obtain ⟨t,rfl⟩:=hv
  have I1:Inv X pins σ H { s with heap:=h',toks:=tk }:=I.turned (fun b o hb e=>kk b o (by simpa using hb) e) f0 f1 f3 f4 f5
  refine ⟨_,rfl,go_of (s:={ s with heap:=h',toks:=tk }) (n := "range_iterator") st' rfl rfl (by decide) ⟨.int (lo+i),H,I1,⟨t,?_⟩,⟨rfl,rfl⟩,st',fun b hb=>(hf b hb).1⟩⟩
  rw [Int.mul_one]
 done:=by
  intro X hP hw hK hc i pins s σ H E I hf st hg
  subst hP hw hK
  obtain ⟨f0,f1,f2,f3,f4,f5⟩:=hf it (by simp)
  exact wpAny_pyNext_range_end (I.ok.hd hc) st (by have:n≤i:=hg;lia) fun h' eb=>⟨rfl,I.turned (t':=s.toks) (fun b o hb e=>eb b o hb e) f0 f1 f3 f4 f5⟩
 self:=fun _ _ _ _ _ st h=>wpAny_pyIter_rangeiter st h
end L2
namespace L2
open PySem PySem.Spec PyProof.Rows
section
variable {X:Cx} {tg:Expr}
theorem range_it {pins:List (Addr×Obj)} {σ:St} {H:Hp} {s:Shared} {R:It→Hp→Prop} {E:Value→Shared→Prop} {lo hi:Int} {t u v:Tok} {tk:Nat} (I:Inv X pins σ H s) (h1:-(2 ^ 62)≤lo) (h2:lo<2 ^ 62) (h3:-(2 ^ 62)≤hi) (h4:hi<2 ^ 62)
  (q:R (Itr lo (hi - lo).toNat) H):wpAny (model X.prog X.w) X.A (pyIter (.ref s.heap.objs.size)) (PIE X pins σ tg R) E { s with heap:=s.heap.push { cls:=.type "range", data:=.fields #[.int lo t,.int hi u,.int 1 v] },toks:=tk }:=by
 refine wpAny_pyIter_range (IsRange.new ..) (small_one h1 h2 h3 h4) ?_
 have I1:Inv X pins σ H { s with heap:=s.heap.push { cls:=.type "range", data:=.fields #[.int lo t,.int hi u,.int 1 v] },toks:=tk }:=I.kept fun b o e=>Heap.get?_push_of_some _ e
 refine ⟨(s.heap.push { cls:=.type "range", data:=.fields #[.int lo t,.int hi u,.int 1 v] }).objs.size,[(s.heap.push { cls:=.type "range", data:=.fields #[.int lo t,.int hi u,.int 1 v] }).objs.size],_,_,H,rfl,
  I1.kept (t':=tk) fun b o e=>Heap.get?_push_of_some _ e,zX5 _ lo (hi - lo).toNat,?_,fun b hb=>?_,q⟩
 ·have e1:lo+((0:Nat):Int) * 1=lo:=by simp
  have e2:(((hi - lo).toNat:Nat):Int) - ((0:Nat):Int)=Builtin.Range.rangeSize lo hi 1:=by rw [rangeSize_one];split <;> lia
  show IsRangeIter _ _ (lo+((0:Nat):Int) * 1) ((((hi - lo).toNat:Nat):Int) - ((0:Nat):Int)) 1
  rw [e1,e2]
  exact Heap.get?_push_size _ rfl
 ·have e:b=(s.heap.push { cls:=.type "range", data:=.fields #[.int lo t,.int hi u,.int 1 v] }).objs.size:=by simpa using hb
  subst e
  exact I1.fpOk (Nat.le_refl _) (I1.hok.fresh (Nat.le_refl _))
noncomputable def iRng1 (ta:TA):TI:=fun σ H R=>ta σ H fun vs H1=>∃ j:Int,vs=[.int j]∧-(2 ^ 62)≤j∧j<2 ^ 62∧R (Itr 0 j.toNat) H1
theorem pi_range1 {a:Expr} {ta:TA} {p pos:Pos} (hg:Gl X "range") (hm:X.mg "range" = none) (ha:PA X [a] ta) (hs:starEach [a] X.env=[(false,eval a X.env)]):PI X tg (.Call (.Name "range" p) [a] [] pos) (iRng1 ta):=by
 intro pins s σ H R I h
 refine Call_ (zS6 I hg hm boot_range (PyProof.Rows.callWith_type1 (thn (ha pos pins s σ H _ I h) fun us s1 ⟨vs,H1,I1,r1,q1⟩=>?_) hs rfl))
 obtain ⟨j,e,q1,q2,q⟩:=q1
 subst e
 cases r1 with
 | cons r rr =>
  cases rr
  obtain ⟨t,rfl⟩:=r
  exact call_range_1 (range_it I1 (by lia) (by lia) q1 q2 (by simpa using q))
noncomputable def tFor (wi:TI) (g:TG) (tb:TS):TS:=fun D σ H=>wi σ H fun J H1=>∃ W:Nat→Nat→St→Hp→Prop,(∃ m,W 0 m σ H1)∧∀ i m σ H,W i m σ H →
 (J.stop i H∧D.nx σ H)∨(J.go i H∧∃ N:St→Hp→Prop,(∀ σ' H',N σ' H'→∃ m',m'<m∧W (i+1) m' σ' H')∧∀ x H',J.yld i H x H'→g x σ H' fun σ2 H2=>tb { D with nx:=N,ct:=N,bk:=D.nx } σ2 H2)
noncomputable def pinsAt (fp:List Addr) (h:Heap):List (Addr×Obj):=fp.filterMap fun b=>(h.get? b).map fun o=>(b,o)
theorem zl8 {fp:List Addr} {h:Heap} {b:Addr} {o:Obj} (hb:b∈fp) (e:h.get? b=some o):(b,o)∈pinsAt fp h:=List.mem_filterMap.mpr ⟨b,hb,by rw [e];rfl⟩
theorem of_pinsAt {fp:List Addr} {h:Heap} {p:Addr×Obj} (hp:p∈pinsAt fp h):p.1∈fp∧h.get? p.1=some p.2:=by
 obtain ⟨b,hb,e⟩:=List.mem_filterMap.mp hp
 cases q:h.get? b with
 | none=>rw [q] at e;cases e
 | some o =>
  rw [q] at e
  have e':(b,o)=p:=Option.some.inj e
  subst e'
  exact ⟨hb,q⟩
theorem Inv.pinned {pins:List (Addr×Obj)} {σ:St} {H:Hp} {s:Shared} {fp:List Addr} (I:Inv X pins σ H s) (hf:∀ b∈fp,FpOk X pins H b) (ho:∀ b∈fp,∃ o,s.heap.get? b=some o∧∀ v,o.data≠.cell v):Inv X (pins++pinsAt fp s.heap) σ H s :=
 I.pins_of fun p hp=>(List.mem_append.mp hp).elim (fun z=>I.pin p (List.mem_append_right _ z)) fun z=>by
  obtain ⟨hb,e⟩:=of_pinsAt z
  obtain ⟨f0,f1,f2,_⟩:=hf p.1 hb
  obtain ⟨o,e',d⟩:=ho p.1 hb
  rw [e] at e';cases e'
  exact ⟨e,f0,f1,f2,d⟩
theorem Inv.unpinned {pins pl:List (Addr×Obj)} {σ:St} {H:Hp} {s:Shared} (I:Inv X (pins++pl) σ H s):Inv X pins σ H s:=I.pins_of fun p hp=>I.pin p (List.mem_append_right _ (List.mem_append_left _ hp))
theorem ps_for {iter:Expr} {body:List Stmt} {wi:TI} {g:TG} {tb:TS} {pos:Pos} (hp:PassesOwn (model X.prog X.w) X.A X.env X.xe) (hc:X.calm=true) (hi:PI X tg iter wi) (hg:PG X tg g) (hb:PSs X body tb)
  (hs:∀ x,foldedSetIterable iter X.env x=pure x):PS X (.For tg iter body [] pos) (tFor wi g tb):=by
 intro pins s σ H D I h
 refine wpAny_For (thn (hi pins s σ H _ I h) fun v s1 h1=>thn h1 fun itv s2 h2=>?_) hs
 obtain ⟨it,fp,tn,J,H2,e,I2,T,st2,f2,W,⟨m0,w0⟩,turn⟩:=h2
 subst e
 -- what stays true of the iterator's objects through the loop
 have stat:∀ {H':Hp},(∀ b∈fp,H' b=none)→∀ b∈fp,FpOk X pins H' b:=fun hn b hb=>⟨hn b hb,(f2 b hb).2⟩
 refine codeAny_forLoop_any (fun n s'=>∃ i σ' H',Inv X pins σ' H' s'∧tn i s'.heap∧(∀ b∈fp,H' b=none)∧W i n σ' H') ?_ m0 ⟨0,σ,H2,I2,st2,fun b hb=>(f2 b hb).1,w0⟩
 rintro n s3 ⟨i,σ3,H3,I3,st3,fr3,w3⟩
 rcases turn i n σ3 H3 w3 with ⟨stop,qn⟩ | ⟨go,N,hN,step⟩
 ·refine wpAny_passesOwn hp (thn (T.done X rfl rfl rfl hc i pins s3 σ3 H3 X.xe I3 (stat fr3) st3 stop) fun r s4 h_=>?_)
  obtain ⟨hr,I4⟩:=h_
  subst hr
  exact wpAny_execs_nil ⟨σ3,H3,I4,qn⟩
 ·refine wpAny_passesOwn hp (thn (T.item X rfl rfl rfl hc i pins s3 σ3 H3 X.xe I3 (stat fr3) st3 go) fun r s4 h_=>?_)
  obtain ⟨u,hr,h4⟩:=h_
  subst hr
  refine wpAny_passesOwn hp (thn h4 fun _ s5 h_=>?_)
  obtain ⟨x,H5,I5,r5,y5,st5,fr5⟩:=h_
  have I5':=I5.pinned (stat fr5) (T.obj _ _ st5)
  refine wpAny_passesOwn hp (thn (hg _ s5 σ3 H5 x u _ I5' r5 (step x H5 y5)) fun _ s6 h_=>?_)
  obtain ⟨σ6,H6,I6,q6⟩:=h_
  refine wpAny_passesOwn hp (thn (hb _ s6 σ6 H6 _ I6 q6) fun f s7 q7=>?_)
  have again:∀ {σ7:St} {H7:Hp},Inv X (pins++pinsAt fp s5.heap) σ7 H7 s7→N σ7 H7→∃ m,m<n∧∃ i σ' H',Inv X pins σ' H' s7∧tn i s7.heap∧(∀ b∈fp,H' b=none)∧W i m σ' H':=fun {σ7 H7} I7 n7=>by
   obtain ⟨m',hm,w7⟩:=hN σ7 H7 n7
   refine ⟨m',hm,i+1,σ7,H7,I7.unpinned,T.keep _ _ _ st5 fun b hb o e=>(I7.pin (b,o) (List.mem_append_right _ (List.mem_append_right _ (zl8 hb e)))).1,fun b hb=>?_,w7⟩
   obtain ⟨o,e,d⟩:=T.obj _ _ st5 b hb
   exact (I7.pin (b,o) (List.mem_append_right _ (List.mem_append_right _ (zl8 hb e)))).2.1
  cases f with
  | next=>obtain ⟨σ7,H7,I7,n7⟩:=q7;exact again I7 n7
  | cont=>obtain ⟨σ7,H7,I7,n7⟩:=q7;exact again I7 n7
  | brk=>obtain ⟨σ7,H7,I7,q7⟩:=q7;exact ⟨σ7,H7,I7.unpinned,q7⟩
  | ret v=>obtain ⟨x7,σ7,H7,I7,r7,q7⟩:=q7;exact ⟨x7,σ7,H7,I7.unpinned,r7,q7⟩
end
end L2
namespace L2
open PySem PySem.Spec PyProof.Rows
noncomputable abbrev R2:=V→V→Hp→VK→Prop
def OpR (X:Cx) (f:Value→Value→Sem Value) (r:R2):Prop :=
 ∀ (pins:List (Addr×Obj)) (s:Shared) (σ:St) (H:Hp) (x y:V) (v u:Value) (Q:VK),Inv X pins σ H s→RelV x v→RelV y u→r x y H Q →
  wpAny (model X.prog X.w) X.A (f v u) (EP X pins σ Q) X.xe s
def UnR (X:Cx) (f:Value→Sem Value) (r:V→Hp→VK→Prop):Prop :=
 ∀ (pins:List (Addr×Obj)) (s:Shared) (σ:St) (H:Hp) (x:V) (v:Value) (Q:VK),Inv X pins σ H s→RelV x v→r x H Q →
  wpAny (model X.prog X.w) X.A (f v) (EP X pins σ Q) X.xe s
def CallR (X:Cx) (f:Value) (r:List V→Hp→VK→Prop):Prop :=
 ∀ (pins:List (Addr×Obj)) (s:Shared) (σ:St) (H:Hp) (xs:List V) (us:List Value) (Q:VK),Inv X pins σ H s→Vals xs us→r xs H Q →
  wpAny (model X.prog X.w) X.A (call f us) (EP X pins σ Q) X.xe s
noncomputable def tOp (r:R2) (ta tb:TE):TE:=fun σ H Q=>ta σ H fun x H1=>tb σ H1 fun y H2=>r x y H2 Q
noncomputable def tUn (r:V→Hp→VK→Prop) (ta:TE):TE:=fun σ H Q=>ta σ H fun x H1=>r x H1 Q
noncomputable def rI (C:Int→Int→Prop) (g:Int→Int→V):R2:=fun x y H Q=>∃ i j,x=.int i∧y=.int j∧C i j∧Q (g i j) H
noncomputable def rI0 (g:Int→Int→V):R2:=fun x y H Q=>∃ i j,x=.int i∧y=.int j∧Q (g i j) H
def rU (g:Int→V):V→Hp→VK→Prop:=fun x H Q=>∃ i,x=.int i∧Q (g i) H
section
variable {X:Cx} {a b c:Expr} {ta tb tc:TE} {pos:Pos}
theorem binT (ha:PE X a ta) (hb:PE X b tb) {pins:List (Addr×Obj)} {s:Shared} {σ:St} {H:Hp} {R:V→V→Hp→Prop} (I:Inv X pins σ H s)
  (h:ta σ H fun x H1=>tb σ H1 fun y H2=>R x y H2) {Q:Value→Shared→Prop} {f:Value→Value→Sem Value}
  (hf:∀ v u s2 x y H2,Inv X pins σ H2 s2→RelV x v→RelV y u→R x y H2→wpAny (model X.prog X.w) X.A (f v u) Q X.xe s2) :
  wpAny (model X.prog X.w) X.A (eval a X.env) (fun v s₁=>wpAny (model X.prog X.w) X.A (eval b X.env) (fun u s₂=>wpAny (model X.prog X.w) X.A (f v u) Q X.xe s₂) X.xe s₁) X.xe s:=by
 refine thn (ha pins s σ H _ I h) fun v s1 h_=>?_
 obtain ⟨x,H1,I1,r1,q1⟩:=h_
 refine thn (hb pins s1 σ H1 _ I1 q1) fun u s2 h_=>?_
 obtain ⟨y,H2,I2,r2,q2⟩:=h_
 exact hf v u s2 x y H2 I2 r1 r2 q2
theorem pe_op {op:Operator} {r:R2} (ho:OpR X (binaryOp op) r) (ha:PE X a ta) (hb:PE X b tb):PE X (.BinOp a op b pos) (tOp r ta tb):=by
 intro pins s σ H Q I h
 exact wpAny_BinOp (binT ha hb I h fun v u s2 x y H2 I2 rx ry q=>ho pins s2 σ H2 x y v u Q I2 rx ry q)
theorem pe_un {op:UnaryOp} {r:V→Hp→VK→Prop} (ho:UnR X (unaryOp op) r) (ha:PE X a ta):PE X (.UnaryOp op a pos) (tUn r ta):=by
 intro pins s σ H Q I h
 exact UnaryOp_ (thn (ha pins s σ H _ I h) fun v s1 ⟨x,H1,I1,r1,q1⟩=>ho pins s1 σ H1 x v Q I1 r1 q1)
theorem opI {f:Value→Value→Sem Value} {C:Int→Int→Prop} {g:Int→Int→Int}
  (rule:∀ (i j:Int) (t u:Tok) (s:Shared) (Q:Value→Shared→Prop) (E:Value→Shared→Prop),C i j→Q (.int (g i j) s.toks) { s with toks:=s.toks+1 }→wpAny (model X.prog X.w) X.A (f (.int i t) (.int j u)) Q E s) :
  OpR X f (rI C fun i j=>.int (g i j)):=by
 intro pins s σ H x y v u Q I rx ry h
 obtain ⟨i,j,rfl,rfl,hc,q⟩:=h
 obtain ⟨t,rfl⟩:=rx
 obtain ⟨t',rfl⟩:=ry
 exact rule i j t t' s _ _ hc ⟨.int (g i j),H,I.tok _,⟨_,rfl⟩,q⟩
theorem opI0 {f:Value→Value→Sem Value} {g:Int→Int→Int}
  (rule:∀ (i j:Int) (t u:Tok) (s:Shared) (Q:Value→Shared→Prop) (E:Value→Shared→Prop),Q (.int (g i j) s.toks) { s with toks:=s.toks+1 }→wpAny (model X.prog X.w) X.A (f (.int i t) (.int j u)) Q E s) :
  OpR X f (rI0 fun i j=>.int (g i j)):=by
 intro pins s σ H x y v u Q I rx ry h
 obtain ⟨i,j,rfl,rfl,q⟩:=h
 obtain ⟨t,rfl⟩:=rx
 obtain ⟨t',rfl⟩:=ry
 exact rule i j t t' s _ _ ⟨.int (g i j),H,I.tok _,⟨_,rfl⟩,q⟩
theorem opB0 {f:Value→Value→Sem Value} {g:Int→Int→Bool}
  (rule:∀ (i j:Int) (t u:Tok) (s:Shared) (Q:Value→Shared→Prop) (E:Value→Shared→Prop),Q (.bool (g i j)) s→wpAny (model X.prog X.w) X.A (f (.int i t) (.int j u)) Q E s) :
  OpR X f (rI0 fun i j=>.bl (g i j)):=by
 intro pins s σ H x y v u Q I rx ry h
 obtain ⟨i,j,rfl,rfl,q⟩:=h
 obtain ⟨t,rfl⟩:=rx
 obtain ⟨t',rfl⟩:=ry
 exact rule i j t t' s _ _ ⟨.bl (g i j),H,I,rfl,q⟩
def CDiv (i j:Int):Prop:=0<j∧j<1073741824
def CPow (i j:Int):Prop:=0≤j∧j≤1000000∧i.natAbs<2 ^ 64
def CMul (i j:Int):Prop:=(-(2 ^ 64)<i∧i<2 ^ 64)∨(-(2 ^ 64)<j∧j<2 ^ 64)
theorem CMul.ok {i j:Int} (h:CMul i j):IntMulOk i j:=by
 rcases h with ⟨h1,h2⟩ | ⟨h1,h2⟩
 ·exact .of_left (intBits_le_64 h1 h2)
 ·exact .of_right (intBits_le_64 h1 h2)
theorem op_add:OpR X (binaryOp .Add) (rI0 fun i j=>.int (i+j)):=opI0 fun _ _ _ _ _ _ _ q=>add_int q
theorem op_sub:OpR X (binaryOp .Sub) (rI0 fun i j=>.int (i - j)):=opI0 fun _ _ _ _ _ _ _ q=>sub_int q
theorem op_mul:OpR X (binaryOp .Mult) (rI CMul fun i j=>.int (i * j)):=opI fun _ _ _ _ _ _ _ hc q=>mul_int q hc.ok
theorem op_fdiv:OpR X (binaryOp .FloorDiv) (rI CDiv fun i j=>.int (i / j)):=opI fun i j _ _ _ _ _ hc q=>by
 have h1:(0:Int)<j:=hc.1
 have h2:j<1073741824:=hc.2
 exact floordiv_int (by lia) (by rw [Int.fdiv_eq_ediv_of_nonneg i (by lia)];exact q) (.inl (PyProof.noPylong_small (by lia)))
theorem op_mod:OpR X (binaryOp .Mod) (rI (fun _ j=>0<j) fun i j=>.int (i % j)):=opI fun i j _ _ _ _ _ hc q=>by
 have h1:(0:Int)<j:=hc
 exact mod_int' (by lia) (by rw [Int.fmod_eq_emod_of_nonneg i (by lia)];exact q)
theorem op_pow:OpR X (binaryOp .Pow) (rI CPow fun i j=>.int (i ^ j.toNat)):=opI fun _ _ _ _ _ _ _ hc q=>pow_int_small hc.1 hc.2.1 hc.2.2 q
theorem unI {f:Value→Sem Value} {g:Int→Int}
  (rule:∀ (i:Int) (t:Tok) (s:Shared) (Q:Value→Shared→Prop) (E:Value→Shared→Prop),Q (.int (g i) s.toks) { s with toks:=s.toks+1 }→wpAny (model X.prog X.w) X.A (f (.int i t)) Q E s) :
  UnR X f (rU fun i=>.int (g i)):=by
 intro pins s σ H x v Q I rx h
 obtain ⟨i,rfl,q⟩:=h
 obtain ⟨t,rfl⟩:=rx
 exact rule i t s _ _ ⟨.int (g i),H,I.tok _,⟨_,rfl⟩,q⟩
theorem un_neg:UnR X (unaryOp .USub) (rU fun i=>.int (-i)):=unI fun _ _ _ _ _ q=>neg_int q
end
section
variable {X:Cx} {a b c:Expr} {ta tb tc:TE} {pos:Pos}
theorem fin_bl {pins:List (Addr×Obj)} {σ:St} {H:Hp} {s:Shared} {Q:VK} {k k':Bool} (I:Inv X pins σ H s) (q:Q (.bl k) H) (e:k=k'):EP X pins σ Q (.bool k') s:=by
 subst e
 exact ⟨.bl k,H,I,rfl,q⟩
theorem op_lt:OpR X (compareOp .Lt) (rI0 fun i j=>.bl (decide (i<j))):=opB0 fun _ _ _ _ _ _ _ q=>lt_int q
theorem op_le:OpR X (compareOp .LtE) (rI0 fun i j=>.bl (decide (i≤j))):=opB0 fun _ _ _ _ _ _ _ q=>le_int q
theorem op_gt:OpR X (compareOp .Gt) (rI0 fun i j=>.bl (decide (j<i))):=opB0 fun _ _ _ _ _ _ _ q=>gt_int q
theorem op_ge:OpR X (compareOp .GtE) (rI0 fun i j=>.bl (decide (j≤i))):=opB0 fun _ _ _ _ _ _ _ q=>ge_int q
theorem op_in_str:OpR X (compareOp .In) (fun x y H Q=>∃ i j,x=.str i∧y=.str j∧Q (.bl (!(Builtin.Str.occurrences j i 0 j.length 1).isEmpty)) H):=by
 intro pins s σ H x y v u Q I rx ry h
 obtain ⟨i,j,rfl,rfl,q⟩:=h
 obtain ⟨t,rfl⟩:=rx
 obtain ⟨t',rfl⟩:=ry
 exact in_str (fin_bl I q rfl)
theorem op_isN:OpR X (compareOp .Is) (fun x y H Q=>y=.non∧Q (.bl (decide (x=.non))) H):=by
 intro pins s σ H x y v u Q I rx ry h
 obtain ⟨rfl,q⟩:=h
 cases ry
 refine is_none_gen (fin_bl I q ?_)
 cases x <;> first
  | (cases rx;rfl)
  | (obtain ⟨t,rfl⟩:=rx;rfl)
theorem zb4 (b:Expr) {op:CmpOp} (h:op≠.In:=by decide) (h2:op≠.NotIn:=by decide):behindInMarks op b=false:=by
 have e1:(op==CmpOp.In)=false:=by cases op <;> first | rfl | exact absurd rfl h
 have e2:(op==CmpOp.NotIn)=false:=by cases op <;> first | rfl | exact absurd rfl h2
 cases b <;> simp [behindInMarks,e1,e2]
theorem pe_cmpR {op:CmpOp} {r:R2} (ho:OpR X (compareOp op) r) (ha:PE X a ta) (hb:PE X b tb) (hm:behindInMarks op b=false):PE X (.Compare a [op] [b] pos) (tOp r ta tb):=by
 intro pins s σ H Q I h
 exact wpAny_Compare1 (binT ha hb I h fun v u s2 x y H2 I2 rx ry q=>ho pins s2 σ H2 x y v u Q I2 rx ry q) hm
noncomputable def tTest (t:TE):TT:=fun σ H Q=>t σ H fun x H'=>∃ k,x=.bl k∧Q k H'
theorem pt_cmpR {op:CmpOp} {r:R2} (ho:OpR X (compareOp op) r) (ha:PE X a ta) (hb:PE X b tb) (hm:behindInMarks op b=false):PT X (.Compare a [op] [b] pos) (tTest (tOp r ta tb)):=by
 intro pins s σ H Q I h
 refine wpAny_isTrue_Compare1 (thn (ha pins s σ H _ I h) fun v s1 ⟨x,H1,I1,r1,q1⟩=>thn (hb pins s1 σ H1 _ I1 q1) fun u s2 ⟨y,H2,I2,r2,q2⟩ =>
  thn (ho pins s2 σ H2 x y v u _ I2 r1 r2 q2) fun c s3 ⟨z,H3,I3,r3,k,e,q3⟩=>?_) hm
 subst e
 cases r3
 exact wpAny_truthy_bool ⟨H3,I3,q3⟩
theorem zG0:(sizeLine:Nat)<2 ^ 63:=by rw [sizeLine_eq];decide
theorem zV2:OpR X (binaryOp .Add) (fun x y H Q=>∃ i j,x=.str i∧y=.str j∧i.length+j.length≤sizeLine∧Q (.str (i++j)) H):=by
 intro pins s σ H x y v u Q I rx ry h
 obtain ⟨i,j,rfl,rfl,hz,q⟩:=h
 obtain ⟨t,rfl⟩:=rx
 obtain ⟨t',rfl⟩:=ry
 exact add_str (fun t' tk=>⟨.str (i++j),H,I.tok _,⟨_,rfl⟩,q⟩) hz
theorem zW0 {x:V} {us:List Value} (r:Vals [x] us):∃ u,us=[u]∧RelV x u:=by
 cases r with
 | cons r1 r2=>cases r2;exact ⟨_,rfl,r1⟩
theorem vals2 {x y:V} {us:List Value} (r:Vals [x,y] us):∃ u w',us=[u,w']∧RelV x u∧RelV y w':=by
 cases r with
 | cons r1 r2 =>
  cases r2 with
  | cons r3 r4=>cases r4;exact ⟨_,_,rfl,r1,r3⟩
theorem call_max2 (hc:X.calm=true):CallR X (.builtin "max") (fun xs H Q=>∃ i j,xs=[.int i,.int j]∧Q (.int (if j > i then j else i)) H):=by
 intro pins s σ H xs us Q I r h
 obtain ⟨i,j,rfl,q⟩:=h
 obtain ⟨u,w',rfl,⟨t,rfl⟩,⟨t',rfl⟩⟩:=vals2 r
 refine max_two_ints (I.ok.hd hc) fun h' tk k=>⟨_,H,I.kept k,?_,q⟩
 by_cases hj:j > i
 ·rw [if_pos hj,if_pos hj];exact ⟨_,rfl⟩
 ·rw [if_neg hj,if_neg hj];exact ⟨_,rfl⟩
theorem zK4:CallR X (.type "int") (fun xs H Q=>(∃ i,xs=[.int i]∧Q (.int i) H)∨∃ k,xs=[.bl k]∧Q (.int (if k then 1 else 0)) H):=by
 intro pins s σ H xs us Q I r h
 rcases h with ⟨i,rfl,q⟩ | ⟨k,rfl,q⟩
 ·obtain ⟨u,rfl,t,rfl⟩:=zW0 r
  exact call_int_int ⟨.int i,H,I,⟨_,rfl⟩,q⟩
 ·obtain ⟨u,rfl,r1⟩:=zW0 r
  cases r1
  exact call_int_bool ⟨.int (if k then 1 else 0),H,I.tok _,⟨_,rfl⟩,q⟩
end
end L2
namespace L2
open PySem PySem.Spec PyProof.Rows
section
variable {prog:Program} {w:World} {A:Around} {E:Value→Shared→Prop} {s:Shared} {K:PySem.W.Frag} {x dx C f:Addr} {mA:Str→Option Value} {name:Str} {v:Value}
end
theorem RelO.some_of {v:V} {o:Option Value} (r:RelO (some v) o):∃ u,o=some u∧RelV v u:=by
 cases o with
 | none=>exact (show False from r).elim
 | some u=>exact ⟨u,rfl,r⟩
section
variable {P:Program} {w:World} {H H':Hp} {h h':Heap} {a C dx:Addr} {fs fs':List (Str×V)}
end
section
variable {X:Cx} {pins:List (Addr×Obj)} {σ:St} {H:Hp} {s:Shared} {a C dx:Addr} {fs:List (Str×V)} {f:Str} {v:V} {A:Around} {E:Value→Shared→Prop}
end
section
variable {X:Cx} {o e value:Expr} {f:Str} {pos pos' tpos:Pos} {ta tv:TE}
end
section
variable {X:Cx} {pins:List (Addr×Obj)} {σ:St} {H:Hp} {s:Shared} {A:Around} {E:Value→Shared→Prop} {Q:Value→Shared→Prop} {c:Value} {b:Bool}
end
end L2
namespace L2
open PySem PySem.Spec PyProof.Rows
structure Room (k:Nat) (A:Around):Prop where
 hd:A.handled=none
 dp:A.depth+3 * k+5<recursionLimit
 un:A.units+16 * k+200<cLine
 gd:A.guards=some []
theorem Room.deeper {k:Nat} {A:Around} (r:Room (k+1) A) (env:Env):Room k (A.deeper env) :=
 ⟨r.hd,by have:=r.dp;show A.depth+1+3 * k+5<_;lia,by have:=r.un;show A.units+3+16 * k+200<_;lia,r.gd⟩
theorem Room.depth {k:Nat} {A:Around} (r:Room k A):A.depth<recursionLimit:=by have:=r.dp;lia
noncomputable def tNil:TA:=fun _ H Q=>Q [] H
noncomputable def tCons (ta:TE) (tr:TA):TA:=fun σ H Q=>ta σ H fun x H1=>tr σ H1 fun xs H2=>Q (x::xs) H2
section
variable {X:Cx} {e:Expr} {es:List Expr} {te:TE} {t:TA} {pos:Pos}
theorem pa_nil:PA X [] tNil:=fun _ _ _ _ H Q I h=>Calls.spliced_nil ⟨[],H,I,.nil,h⟩
theorem pa_cons (ha:PE X e te) (hr:PA X es t) (hs:starEach (e::es) X.env=(false,eval e X.env)::starEach es X.env):PA X (e::es) (tCons te t):=by
 intro pos pins s σ H Q I h
 rw [hs]
 show wpAny _ _ (spliced ((false,eval e X.env)::backTo pos (starEach es X.env))) _ _ s
 refine Calls.spliced_cons (thn (ha pins s σ H _ I h) fun u s1 h_=>?_)
 obtain ⟨x,H1,I1,r1,q1⟩:=h_
 exact thn (hr pos pins s1 σ H1 _ I1 q1) fun us s2 ⟨xs,H2,I2,r2,q2⟩=>⟨x::xs,H2,I2,.cons r1 r2,q2⟩
noncomputable def tTup (t:TA):TE:=fun σ H Q=>t σ H fun xs H1=>xs.length≤sizeLine∧∀ p,H1 p=none→Q (.ref p) (upd H1 p (.tup xs))
noncomputable def tLst (t:TA):TE:=fun σ H Q=>t σ H fun xs H1=>xs.length≤sizeLine∧∀ p,H1 p=none→Q (.ref p) (upd H1 p (.lst xs))
theorem pe_tup {x1} (h:PA X es t):PE X (.Tuple es x1 pos) (tTup t):=by
 intro pins s σ H Q I hq
 refine wpAny_Tuple_spliced (thn (h pos pins s σ H _ I hq) fun us s1 ⟨xs,H1,I1,r,z,q⟩=>⟨by rw [← r.length];exact z,?_⟩)
 have hf:H1 s1.heap.objs.size=none:=I1.hok.fresh (Nat.le_refl _)
 refine ⟨.ref s1.heap.objs.size,upd H1 s1.heap.objs.size (.tup xs),I1.laid (t':=s1.toks) (fun b u e=>Heap.get?_push_of_some _ e) (Nat.le_refl _) ?_,rfl,q _ hf⟩
 exact ⟨z,us,r,⟨_,Heap.get?_push_size _ rfl,rfl,rfl,_,rfl⟩⟩
theorem pe_lst (h:PA X es t):PE X (.List es pos) (tLst t):=by
 intro pins s σ H Q I hq
 refine wpAny_List_spliced (thn (h pos pins s σ H _ I hq) fun us s1 ⟨xs,H1,I1,r,z,q⟩=>⟨by rw [← r.length];exact z,?_⟩)
 have hf:H1 s1.heap.objs.size=none:=I1.hok.fresh (Nat.le_refl _)
 refine ⟨.ref s1.heap.objs.size,upd H1 s1.heap.objs.size (.lst xs),I1.laid (t':=s1.toks) (fun b u e=>Heap.get?_push_of_some _ e) (Nat.le_refl _) ?_,rfl,q _ hf⟩
 exact ⟨z,us,0,r,Heap.get?_push_size _ rfl⟩
end
noncomputable abbrev Sp:=List V→Hp→VK→XK→Prop
noncomputable abbrev CXT:=List Env→Hp→Shared→XK→Value→Shared→Prop
structure Env0 (P:Program) (w:World) (K:PySem.W.Frag) (mg:Str→Option Value) (base:Heap) (A:Around) (outer:List Env) (s:Shared) (H:Hp):Prop where
 frames:A.frames=some outer
 mod:Mod K mg base
 bs:∀ b o,base.get? b=some o→s.heap.get? b=some o∧H b=none
 bsz:base.objs.size≤s.heap.objs.size
 funs:s.heap.FunFrames base outer
 frf:∀ b∈frs outer,H b=none
 hok:HOk P w H s.heap
 bare:AllBare s.gens
def CE (outer:List Env) (P:Program) (w:World) (H:Hp) (s:Shared) (Q:VK) (u:Value) (s':Shared):Prop :=
 ∃ v H',s'.os=s.os∧AllBare s'.gens∧Un (frs outer) [] H H' s.heap s'.heap∧HOk P w H' s'.heap∧RelV v u∧Q v H'
def CR (CX:CXT) (outer:List Env) (P:Program) (w:World) (H:Hp) (s:Shared) (Q:VK) (E:XK) (r:Result) (s':Shared):Prop :=
 match r with
 | .ok (.ret u)=>CE outer P w H s Q u s'
 | .ok _=>False
 | .error e=>CX outer H s E e s'
structure FnOk (P:Program) (w:World) (K:PySem.W.Frag) (mg:Str→Option Value) (base:Heap) (CX:CXT) (k:Nat) (f:Addr) (fd:FuncData) (ps:List Str) (sp:Sp):Prop where
 len:∀ vs H Q E,sp vs H Q E→vs.length=ps.length
 run:∀ (A:Around) (outer:List Env) (s:Shared) (H:Hp) (args:Args) (us:List Value) (vs:List V) (Q:VK) (E:XK),Room k A→Env0 P w K mg base A outer s H→BindsTo s fd args (ps.zip us)→Vals vs us→sp vs H Q E →
  codeAny (model P w) A (.call (.ref f) args) (CR CX outer P w H s Q E) s
section
variable {X:Cx} {pins:List (Addr×Obj)} {σ:St} {H:Hp} {s s':Shared}
theorem Inv.env0 (I:Inv X pins σ H s):Env0 X.prog X.w X.K X.mg X.base X.A X.stack s H :=
 ⟨I.ok.frames,I.ok.mod,I.bs,Nat.le_trans I.ok.bsz I.sz,I.stack,I.stkFree,I.hok,I.bare⟩
theorem Inv.after {Q:VK} {u:Value} (I:Inv X pins σ H s) (h:CE X.stack X.prog X.w H s Q u s'):EP X pins σ Q u s':=by
 obtain ⟨v,H',os,bare,un,hok,r,q⟩:=h
 obtain ⟨hh,g,d,t,os'⟩:=s'
 obtain rfl:os'=s.os:=os
 exact ⟨v,H',I.call (h':=hh) (g':=g) (d':=d) (t':=t) (ch:=[]) un hok bare (fun b z=>absurd z (by simp)),r,q⟩
end
noncomputable def tCall (sp:Sp) (dvs:List V) (E:XK) (t:TA):TE:=fun σ H Q=>t σ H fun vs H1=>sp (vs++dvs) H1 Q E
def Binds (K:PySem.W.Frag) (fd:FuncData) (ps:List Str) (ds:List Value):Prop :=
 ∀ (s:Shared) (us:List Value),K.In s.heap→(us++ds).length=ps.length→BindsTo s fd ⟨us,[]⟩ (ps.zip (us++ds))
theorem Binds.all {K:PySem.W.Frag} {fd:FuncData} {ps:List Str} (h:∀ us:List Value,us.length=ps.length→bindArgs fd ⟨us,[]⟩=pure (ps.zip us)):Binds K fd ps []:=fun s us _ hl=>by
 rw [List.append_nil] at hl ⊢
 exact .of_eq (h us hl)
def Passes (CX:CXT) (X:Cx) (E:XK):Prop:=∀ (pins:List (Addr×Obj)) (σ:St) (H:Hp) (s:Shared) (e:Value) (s':Shared),Inv X pins σ H s→CX X.stack H s E e s'→X.xe e s'
section
variable {X:Cx} {CX:CXT} {k:Nat} {f C:Addr} {fd:FuncData} {ps:List Str} {sp:Sp} {dvs:List V} {ds:List Value} {E:XK} {x m:Str} {p pos apos:Pos} {e o:Expr} {es:List Expr} {ta:TE} {t:TA}
theorem run_fn {pins:List (Addr×Obj)} {σ:St} {H:Hp} {s:Shared} {Q:VK} {us:List Value} {vs:List V} (F:FnOk X.prog X.w X.K X.mg X.base CX k f fd ps sp) (hr:Room k X.A) (hb:Binds X.K fd ps ds) (hd:Vals dvs ds) (hx:Passes CX X E)
  (I:Inv X pins σ H s) (r:Vals vs us) (h:sp (vs++dvs) H Q E):wpAny (model X.prog X.w) X.A (call (.ref f) us) (EP X pins σ Q) X.xe s:=by
 have r2:Vals (vs++dvs) (us++ds):=r.append hd
 have hl:(us++ds).length=ps.length:=by rw [← r2.length];exact F.len _ _ _ _ h
 refine wpAny_call (codeAny_mono (F.run X.A X.stack s H ⟨us,[]⟩ (us++ds) (vs++dvs) Q E hr I.env0 (hb s us I.kIn hl) r2 h) fun r s' hq=>?_)
 cases r with
 | error e=>exact hx pins σ H s e s' I hq
 | ok fl =>
  cases fl with
  | ret u=>exact I.after hq
  | next=>exact False.elim hq
  | brk=>exact False.elim hq
  | cont=>exact False.elim hq
theorem pe_call (F:FnOk X.prog X.w X.K X.mg X.base CX k f fd ps sp) (hr:Room k X.A) (hg:Gl X x) (hm:X.mg x=some (.ref f)) (hk:PySem.W.keepIn X.K (.ref f)=true) (hb:Binds X.K fd ps ds) (hd:Vals dvs ds) (hx:Passes CX X E)
  (ha:PA X (e::es) t) (hdb:(x==("__debug__" : Str))=false) (he:starEach (e::es) X.env=(false,eval e X.env)::starEach es X.env) (hpl:(backTo pos (starEach es X.env)).any (·.1)=false) :
  PE X (.Call (.Name x p) (e::es) [] pos) (tCall sp dvs E t):=by
 intro pins s σ H Q I h
 refine wpAny_Call_Name_kw (ld_glob I hg hm ?_ hdb)
 refine PySem.W.callWith_K (h₀:=X.base) I.ok.mod.kin hk (thn (ha pos pins s σ H _ I h) fun us s1 ⟨vs,H1,I1,r,q⟩=>⟨I1.kIn,?_⟩) he hpl
 exact run_fn F hr hb hd hx I1 r q
end
section
variable {X:Cx} {CX:CXT} {k:Nat} {f C:Addr} {fd:FuncData} {ps ks:List Str} {sp:Sp} {E:XK} {x m:Str} {p pos apos kpos:Pos} {e o:Expr} {es:List Expr} {kws:List Keyword} {te ta:TE} {t tk:TA} {nm:Option Str}
variable {g:List Value→List Value→List Value} {gV:List V→List V→List V}
end
structure FnScope (N P:List Str) (sc:Scope):Prop where
 kind:sc.kind=.function
 co:sc.isCoroutine=false
 gen:sc.isGenerator=false
 nd:N.Nodup
 pre:N.take P.length=P
 par:∀ x∈P,sc.names.lookup x=some .local∨sc.names.lookup x=some .cell
 nofree:∀ y∈sc.names,y.2≠.free
theorem zN6 {kindOf:Str→Option NameKind} {x:Str}:∀ {binds:List (Str×Value)} {m:Str→Option Value},(∀ v,(x,v)∉binds)→bindL kindOf binds m x=m x
 | [],_,_=>rfl
 | (n,v)::r,m,h=>by
  unfold bindL
  rw [zN6 fun w hw=>h w (List.mem_cons_of_mem _ hw)]
  split
  ·have:x≠n:=by rintro rfl;exact h v List.mem_cons_self
   simp [this]
  ·rfl
theorem zJ6 {kindOf:Str→Option NameKind} {x:Str}:∀ {binds:List (Str×Value)} {m:Str→Option Value},(∀ v,(x,v)∉binds)→bindC kindOf binds m x=m x
 | [],_,_=>rfl
 | (n,v)::r,m,h=>by
  unfold bindC
  rw [zJ6 fun w hw=>h w (List.mem_cons_of_mem _ hw)]
  split
  ·rfl
  ·have:x≠n:=by rintro rfl;exact h v List.mem_cons_self
   simp [this]
theorem zL2 {kindOf:Str→Option NameKind} {x:Str} {v:Value}:∀ {P:List Str} {vs:List Value} {i:Nat} {m:Str→Option Value},P.Nodup→P[i]?=some x→vs[i]?=some v→kindOf x=some .local →
  bindL kindOf (P.zip vs) m x=some v
 | [],_,_,_,_,h,_,_=>by simp at h
 | _::_,[],_,_,_,_,h,_=>by simp at h
 | p::P,w::vs,0,m,nd,h1,h2,hk=>by
  simp at h1 h2;subst h1;subst h2
  show bindL kindOf ((p,w)::P.zip vs) m p=_
  unfold bindL
  rw [zN6 fun v hv=>(List.nodup_cons.mp nd).1 (List.of_mem_zip hv).1,if_pos hk]
  simp
 | p::P,w::vs,i+1,m,nd,h1,h2,hk=>by
  show bindL kindOf ((p,w)::P.zip vs) m x=_
  unfold bindL
  exact zL2 (i:=i) (List.nodup_cons.mp nd).2 (by simpa using h1) (by simpa using h2) hk
theorem zK7 {kindOf:Str→Option NameKind} {x:Str} {v:Value}:∀ {P:List Str} {vs:List Value} {i:Nat} {m:Str→Option Value},P.Nodup→P[i]?=some x→vs[i]?=some v→kindOf x≠some .local →
  bindC kindOf (P.zip vs) m x=some v
 | [],_,_,_,_,h,_,_=>by simp at h
 | _::_,[],_,_,_,_,h,_=>by simp at h
 | p::P,w::vs,0,m,nd,h1,h2,hk=>by
  simp at h1 h2;subst h1;subst h2
  show bindC kindOf ((p,w)::P.zip vs) m p=_
  unfold bindC
  rw [zJ6 fun v hv=>(List.nodup_cons.mp nd).1 (List.of_mem_zip hv).1,if_neg hk]
  simp
 | p::P,w::vs,i+1,m,nd,h1,h2,hk=>by
  show bindC kindOf ((p,w)::P.zip vs) m x=_
  unfold bindC
  exact zK7 (i:=i) (List.nodup_cons.mp nd).2 (by simpa using h1) (by simpa using h2) hk
noncomputable def start (N:List Str) (vs:List V):St:=vs.map some++List.replicate (N.length - vs.length) none
noncomputable def cxOf (CX:CXT) (P:Program) (w:World) (K:PySem.W.Frag) (mg:Str→Option Value) (base:Heap) (N:List Str) (qual:Str) (scope:Scope) (f:Addr) (cd:Value) (A:Around) (outer:List Env) (s:Shared) (H:Hp) (E:XK):Cx where
 prog:=P
 w:=w
 K:=K
 mg:=mg
 base:=base
 A:=A.deeper (envOfC qual scope s.heap.objs.size f cd)
 N:=N
 s₀:=s
 H₀:=H
 env:=envOfC qual scope s.heap.objs.size f cd
 outer:=outer
 stack:=envOfC qual scope s.heap.objs.size f cd::outer
 ex:=[]
 calm:=true
 fn:=fun _=>true
 pn:=[]
 xe:=fun e s'=>wpAny (model P w) (A.deeper (envOfC qual scope s.heap.objs.size f cd)) (leaving (envOfC qual scope s.heap.objs.size f cd) e) (fun _ s''=>CX outer H s E e s'') (fun e' s''=>CX outer H s E e' s'') s'
theorem zR9 {sc:Scope} {n:Nat} {x:Str} (h:sc.names.lookup x=some .cell):∃ c,(cellsFrom n sc.names []).lookup x=some c:=by
 have q:=PySem.W.cellsFrom_some sc.names n [] (.inl h)
 exact Option.isSome_iff_exists.mp q
theorem inv_start {CX:CXT} {P:Program} {w:World} {K:PySem.W.Frag} {mg:Str→Option Value} {base:Heap} {N ps:List Str} {qual:Str} {scope:Scope} {f:Addr} {cd:Value} {A:Around} {outer:List Env} {s s1:Shared} {H:Hp} {E:XK} {us:List Value} {vs:List V}
  (S:FnScope N ps scope) (hd:A.handled=none) (e0:Env0 P w K mg base A outer s H) (hl:vs.length=ps.length) (r:Vals vs us)
  (x:InCallC s s.heap.objs.size (bindL (envOfC qual scope s.heap.objs.size f cd).kindOf (ps.zip us) fun _=>none) (cellsFrom (s.heap.objs.size+1) scope.names []) (bindC (envOfC qual scope s.heap.objs.size f cd).kindOf (ps.zip us) fun _=>none) s1) :
  Inv (cxOf CX P w K mg base N qual scope f cd A outer s H E) [] (start N vs) H s1:=by
 have hpl:ps.length≤N.length:=by have:=congrArg List.length S.pre;rw [List.length_take] at this;lia
 obtain ⟨h1,tk,rfl,hk⟩:=x.done
 have noA:∀ b:Addr,b∉(cxOf CX P w K mg base N qual scope f cd A outer s H E).ex:=fun b z=>absurd (show b∈([]:List Addr) from z) (by simp)
 refine ⟨⟨e0.mod,S.kind,rfl,rfl,Nat.le_refl _,fun y z c h1 h2=>?_,fun y hy=>?_,fun y c _ h=>?_,fun _=>hd,Around.frames_deeper e0.frames,.inr ⟨rfl,rfl⟩,fun b z=>absurd z (noA b),e0.bs,e0.bsz,fun b _ _=>noA b,fun b z=>absurd z (noA b),e0.funs,e0.frf⟩,
  rfl,e0.bare,Un.kept hk,⟨_,x.toInCall.ns,fun i y v h1 h2 h3=>?_⟩,fun y c h=>⟨_,x.cell y c h⟩,e0.hok.fresh (Nat.le_refl _),fun y c h=>?_,fun p hp=>absurd (show p∈([]:List (Addr×Obj)) from hp) (by simp),e0.hok.kept hk,?_⟩
 ·exact name_of_addr x.apart (PySem.mem_of_lookup h1) (PySem.mem_of_lookup h2)
 ·have hy:scope.names.lookup y=some .cell∨scope.names.lookup y=some .free:=hy
  rcases hy with hy | hy
  ·exact zR9 hy
  ·exact absurd rfl (S.nofree _ (PySem.mem_of_lookup hy))
 ·exact Nat.le_of_lt (x.above y c (PySem.mem_of_lookup h))
 ·have hi:i<vs.length:=by
   unfold start at h2
   by_cases hi:i<vs.length
   ·exact hi
   ·rw [List.getElem?_append_right (by simpa using hi)] at h2
    rw [List.getElem?_replicate] at h2
    split at h2 <;> cases h2
  have ha:vs[i]?=some v:=by
   unfold start at h2
   rw [List.getElem?_append_left (by simpa using hi),List.getElem?_map] at h2
   cases e:vs[i]? with
   | none=>rw [e] at h2;cases h2
   | some a=>rw [e] at h2;cases h2;rfl
  obtain ⟨u,hu,rv⟩:=r.get ha
  have hp:ps[i]?=some y:=by
   rw [← S.pre,List.getElem?_take_of_lt (by lia)];exact h1
  have ndP:ps.Nodup:=by rw [← S.pre];exact S.nd.sublist (List.take_sublist _ _)
  refine ⟨u,rv,?_⟩
  rcases S.par y (List.mem_of_getElem? hp) with k | k
  ·exact .inl ⟨k,zL2 ndP hp hu k⟩
  ·obtain ⟨c,e⟩:=zR9 (n:=s.heap.objs.size+1) k
   refine .inr ⟨.inl k,c,e,?_⟩
   have q:=x.cell y c e
   rw [zK7 ndP hp hu (by show scope.names.lookup y≠_;rw [k];decide)] at q
   exact q
 ·exact e0.hok.fresh (Nat.le_of_lt (x.above y c (PySem.mem_of_lookup h)))
 ·unfold start
  show _=N.length
  rw [List.length_append,List.length_map,List.length_replicate]
  lia
theorem fn_of {CX:CXT} {P:Program} {w:World} {K:PySem.W.Frag} {mg:Str→Option Value} {base:Heap} {k:Nat} {f:Addr} {name qual:Str} {params:Arguments} {body:List Stmt} {scope:Scope} {dV kV doc pm cdv ct oc:Value} {an od:Option Addr}
  {osl:Array (Option Value)} {N ps:List Str} {sp:Sp} (lk:K.lookup f=some ⟨oc,od,.func (PySem.W.fnOf name qual params body scope dV kV doc pm an cdv ct),osl⟩) (hcd:PySem.W.codeIn K cdv qual=true) (S:FnScope N ps scope)
  (len:∀ vs H Q E,sp vs H Q E→vs.length=ps.length)
  (hbody:∀ (A:Around) (outer:List Env) (s:Shared) (H:Hp) (vs:List V) (Q:VK) (E:XK),Room k (A.deeper (envOfC qual scope s.heap.objs.size f cdv))→sp vs H Q E →
   ∃ t,PSs (cxOf CX P w K mg base N qual scope f cdv A outer s H E) body t∧t { nx:=fun _ H'=>Q .non H',rt:=Q } (start N vs) H) :
  FnOk P w K mg base CX (k+1) f (PySem.W.fnOf name qual params body scope dV kV doc pm an cdv ct) ps sp:=by
 refine ⟨len,fun A outer s H args us vs Q E hr e0 hb r hsp=>?_⟩
 have hl:=len _ _ _ _ hsp
 have KX:K.In s.heap:=e0.mod.kin.keeps fun b o e=>(e0.bs b o e).1
 have lim:s.heap.NoLimit:=e0.mod.nolimit.keeps fun b o e=>(e0.bs b o e).1
 have hkind:∀ y∈ps.zip us,scope.names.lookup y.1=some .local∨(scope.names.lookup y.1=some .cell∧((cellsFrom (s.heap.objs.size+1) scope.names []).lookup y.1).isSome=true):=fun ⟨n,v⟩ hy=>by
  rcases S.par n (List.of_mem_zip hy).1 with q | q
  ·exact .inl q
  ·exact .inr ⟨q,PySem.W.cellsFrom_some _ _ _ (.inl q)⟩
 refine codeAny_call_function hr.depth (KX _ _ lk) rfl S.co S.gen rfl (PySem.W.codeRec_of KX hcd) (hb _ _ _ _ ?_)
 refine wpAny_newFunctionEnv_cells S.kind hkind fun env he s1 x=>?_
 subst he
 refine ⟨lim.keeps x.toInCall.keep,codeAny_func ?_⟩
 obtain ⟨t,ht,hq⟩:=hbody A outer s H vs Q E (hr.deeper _) hsp
 have I:Inv (cxOf CX P w K mg base N qual scope f cdv A outer s H E) [] (start N vs) H s1:=inv_start S hr.hd e0 hl r x
 refine wpAny_mono (ht [] s1 (start N vs) H _ I hq) (fun fl s' hs=>?_) fun e s' hs=>hs
 have fin:∀ {σ':St} {H':Hp} {v:V} {u:Value},Inv (cxOf CX P w K mg base N qual scope f cdv A outer s H E) [] σ' H' s'→RelV v u→Q v H'→CE outer P w H s Q u s' :=
  fun {σ' H' v u} J rv q=>⟨v,H',J.os,J.bare,J.base,J.hok,rv,q⟩
 cases fl with
 | ret u =>
  obtain ⟨v,σ',H',J,rv,q⟩:=hs
  exact fin J rv q
 | next =>
  obtain ⟨σ',H',J,q⟩:=hs
  exact fin (v:=V.non) (u:=Value.none) J rfl q
 | brk =>
  obtain ⟨_,_,_,q⟩:=hs
  exact False.elim q
 | cont =>
  obtain ⟨_,_,_,q⟩:=hs
  exact False.elim q
end L2
namespace L2
open PySem PySem.Spec PyProof.Rows
section
variable {X:Cx} {x:Str} {p pos:Pos} {e:Expr} {es:List Expr} {t:TA} {id T:String} {r:List V→Hp→VK→Prop}
noncomputable def tCB (r:List V→Hp→VK→Prop) (t:TA):TE:=fun σ H Q=>t σ H fun vs H1=>r vs H1 Q
theorem pe_callB (hc:CallR X (.builtin id) r) (hg:Gl X x) (hm:X.mg x=none) (hv:bootBuiltins x=some (.builtin id)) (ha:PA X (e::es) t) (hn:x ≠ "__name__") (hdb:(x==("__debug__" : Str))=false)
  (he:starEach (e::es) X.env=(false,eval e X.env)::starEach es X.env) (hpl:(backTo pos (starEach es X.env)).any (·.1)=false):PE X (.Call (.Name x p) (e::es) [] pos) (tCB r t):=by
 intro pins s σ H Q I h
 refine wpAny_Call_Name_kw (zS6 I hg hm hv ?_ hn hdb)
 exact PyProof.Rows.callWith_builtin1 (thn (ha pos pins s σ H _ I h) fun us s1 ⟨vs,H1,I1,r1,q1⟩=>hc pins s1 σ H1 vs us Q I1 r1 q1) he hpl
theorem pe_callTy (hc:CallR X (.type T) r) (hg:Gl X x) (hm:X.mg x=none) (hv:bootBuiltins x=some (.type T)) (ha:PA X (e::es) t) (hn:x ≠ "__name__") (hdb:(x==("__debug__" : Str))=false)
  (he:starEach (e::es) X.env=(false,eval e X.env)::starEach es X.env) (hpl:(backTo pos (starEach es X.env)).any (·.1)=false):PE X (.Call (.Name x p) (e::es) [] pos) (tCB r t):=by
 intro pins s σ H Q I h
 refine wpAny_Call_Name_kw (zS6 I hg hm hv ?_ hn hdb)
 exact PyProof.Rows.callWith_type1 (thn (ha pos pins s σ H _ I h) fun us s1 ⟨vs,H1,I1,r1,q1⟩=>hc pins s1 σ H1 vs us Q I1 r1 q1) he hpl
end
end L2
namespace L2
open PySem PySem.Spec PyProof.Rows
section
variable {κ:Type} [DecidableEq κ]
noncomputable def valV (kvs:List (κ×V)) (k:κ):Option V:=(kvs.find? fun kv=>decide (kv.1=k)).map (·.2)
noncomputable def putK (kvs:List (κ×V)) (k:κ) (v:V):List (κ×V) :=
 if (kvs.any fun kv=>decide (kv.1=k))=true then kvs.map (fun kv=>if kv.1=k then (kv.1,v) else kv) else kvs++[(k,v)]
theorem zz3 {p:κ×V} {r:List (κ×V)} {k:κ} (e:p.1=k):valV (p::r) k=some p.2:=by simp [valV,List.find?_cons,e]
theorem zy7 {p:κ×V} {r:List (κ×V)} {k:κ} (e:¬ p.1=k):valV (p::r) k=valV r k:=by simp [valV,List.find?_cons,e]
theorem zT6 (k:κ):∀ kvs:List (κ×V),(kvs.any fun kv=>decide (kv.1=k))=(valV kvs k).isSome
 | []=>rfl
 | p::r=>by
  rw [List.any_cons]
  by_cases e:p.1=k
  ·simp only [zz3 e,decide_eq_true e,Bool.true_or,Option.isSome_some]
  ·rw [zy7 e,decide_eq_false e,Bool.false_or];exact zT6 k r
theorem zs9 (kvs:List (κ×V)) (k:κ) (v:V):(putK kvs k v).length≤kvs.length+1:=by
 unfold putK
 split
 ·rw [List.length_map];lia
 ·rw [List.length_append,List.length_cons,List.length_nil];lia
theorem RelO.isSome_eq {o:Option V} {u:Option Value} (r:RelO o u):o.isSome=u.isSome:=by
 cases o with
 | none=>cases u with
  | none=>rfl
  | some _=>exact (show False from r).elim
 | some _=>cases u with
  | none=>exact (show False from r).elim
  | some _=>rfl
theorem KV.val {kvs:List (κ×V)} {vs:List (κ×Value)} (r:KV kvs vs) (k:κ):RelO (valV kvs k) (valueAt vs k):=by
 unfold KV at r
 induction r with
 | nil=>exact True.intro
 | @cons p q ps qs h t ih =>
  obtain ⟨h1,h2⟩:=h
  by_cases e:p.1=k
  ·have e':q.1=k:=h1.symm.trans e
   have b:valueAt (q::qs) k=some q.2:=by simp [valueAt,List.find?_cons,e']
   rw [zz3 e,b];exact h2
  ·have e':¬ q.1=k:=fun z=>e (h1.trans z)
   have b:valueAt (q::qs) k=valueAt qs k:=by simp [valueAt,List.find?_cons,e']
   rw [zy7 e,b];exact ih
theorem KV.any {kvs:List (κ×V)} {vs:List (κ×Value)} (r:KV kvs vs) (k:κ):(kvs.any fun kv=>decide (kv.1=k))=vs.any fun kv=>decide (kv.1=k):=by
 unfold KV at r
 induction r with
 | nil=>rfl
 | cons h t ih=>rw [List.any_cons,List.any_cons,ih,h.1]
theorem KV.repl {kvs:List (κ×V)} {vs:List (κ×Value)} (r:KV kvs vs) (k:κ) {y:V} {u:Value} (ry:RelV y u) :
  KV (kvs.map fun kv=>if kv.1=k then (kv.1,y) else kv) (vs.map fun kv=>if kv.1=k then (kv.1,u) else kv):=by
 unfold KV at r ⊢
 induction r with
 | nil=>exact .nil
 | @cons p q ps qs h t ih =>
  rw [List.map_cons,List.map_cons]
  refine .cons ?_ ih
  obtain ⟨h1,h2⟩:=h
  by_cases e:p.1=k
  ·rw [if_pos e,if_pos (h1.symm.trans e)];exact ⟨h1,ry⟩
  ·rw [if_neg e,if_neg (fun z=>e (h1.trans z))];exact ⟨h1,h2⟩
theorem KV.put {kvs:List (κ×V)} {vs:List (κ×Value)} (r:KV kvs vs) (k:κ) {y:V} {u:Value} (ry:RelV y u):KV (putK kvs k y) (stored vs k u):=by
 unfold putK stored
 rw [r.any k]
 by_cases e:(vs.any fun kv=>decide (kv.1=k))=true
 ·rw [if_pos e,if_pos e];exact r.repl k ry
 ·rw [if_neg e,if_neg e];exact Paired.snoc r ⟨rfl,ry⟩
theorem KV.length {kvs:List (κ×V)} {vs:List (κ×Value)} (r:KV kvs vs):kvs.length=vs.length:=Paired.length r
end
theorem kV_is {P:Program} {w:World} {k:Key} {u:Value} (r:RelV (kV k) u):(mixKind P w).is k u=true:=by
 cases k with
 | inl i=>obtain ⟨t,e⟩:=(show ∃ t,u=Value.int i t from r);subst e;exact zP2 P w i t
 | inr x=>obtain ⟨t,e⟩:=(show ∃ t,u=Value.str x t from r);subst e;exact zQ1 P w x t
theorem zN5 {P:Program} {w:World}:∀ {ks:List Key} {us:List Value},Vals (ks.map kV) us→ItemsAre (mixKind P w) ks us
 | [],_,r=>by rw [List.map_nil] at r;cases r;exact .nil
 | k::ks,_,r=>by
  rw [List.map_cons] at r
  cases r with
  | cons h t=>exact .cons (kV_is h) (zN5 t)
noncomputable abbrev KT (H:Hp):List (List Key×V)→List (List Key×Addr×Value)→Prop:=Paired fun p q=>p.1=q.1∧H q.2.1=some (.tup (p.1.map kV))∧RelV p.2 q.2.2
theorem KT.val {H:Hp} {kvs:List (List Key×V)} {xs:List (List Key×Addr×Value)} (r:KT H kvs xs) (k:List Key):RelO (valV kvs k) ((atKey xs k).map (·.2)):=by
 induction r with
 | nil=>exact True.intro
 | @cons p q ps qs h t ih =>
  obtain ⟨h1,_,h2⟩:=h
  by_cases e:p.1=k
  ·have e':q.1=k:=h1.symm.trans e
   have b:atKey (q::qs) k=some q.2:=by simp [atKey,List.find?_cons,e']
   rw [zz3 e,b];exact h2
  ·have e':¬ q.1=k:=fun z=>e (h1.trans z)
   have b:atKey (q::qs) k=atKey qs k:=by simp [atKey,List.find?_cons,e']
   rw [zy7 e,b];exact ih
theorem KT.repl {H:Hp} {kvs:List (List Key×V)} {xs:List (List Key×Addr×Value)} (r:KT H kvs xs) (k:List Key) {y:V} {u:Value} (ry:RelV y u) :
  KT H (kvs.map fun kv=>if kv.1=k then (kv.1,y) else kv) (xs.map (putAt k u)):=by
 induction r with
 | nil=>exact .nil
 | @cons p q ps qs h t ih =>
  rw [List.map_cons,List.map_cons]
  refine .cons ?_ ih
  obtain ⟨h1,h2,h3⟩:=h
  unfold putAt
  by_cases e:p.1=k
  ·rw [if_pos e,if_pos (h1.symm.trans e)];exact ⟨h1,h2,ry⟩
  ·rw [if_neg e,if_neg (fun z=>e (h1.trans z))];exact ⟨h1,h2,h3⟩
theorem KT.put {H:Hp} {kvs:List (List Key×V)} {xs:List (List Key×Addr×Value)} (r:KT H kvs xs) (k:List Key) {b:Addr} {y:V} {u:Value} (hb:H b=some (.tup (k.map kV))) (ry:RelV y u) :
  KT H (putK kvs k y) (storedH xs k b u):=by
 have e:(kvs.any fun kv=>decide (kv.1=k))=(atKey xs k).isSome:=by
  rw [zT6,(r.val k).isSome_eq,Option.isSome_map]
 unfold putK storedH
 rw [e]
 by_cases q:(atKey xs k).isSome=true
 ·rw [if_pos q,if_pos q];exact r.repl k ry
 ·rw [if_neg q,if_neg q];exact Paired.snoc r ⟨rfl,hb,ry⟩
theorem KT.keeps {H H':Hp} {kvs:List (List Key×V)} {xs:List (List Key×Addr×Value)} (r:KT H kvs xs) (ht:∀ b ys,H b=some (.tup ys)→H' b=some (.tup ys)):KT H' kvs xs :=
 Paired.mapP r fun _ _ z=>⟨z.1,ht _ _ z.2.1,z.2.2⟩
section
variable {P:Program} {w:World} {H:Hp} {h:Heap} {a:Addr}
theorem rd_of {u:HO} (ok:HOk P w H h) (e:Rd H a u):ObjOk P w H h a u:=e.ok ok
theorem dk_rd {kvs:List (Key×V)} (ok:HOk P w H h) (e:Rd H a (.dK kvs)):kvs.length≤sizeLine∧(a==sysModules)=false∧∃ vs,KV kvs vs∧h.DictOf (mixKind P w) a vs :=
 show ObjOk P w H h a (.dK kvs) from rd_of ok e
theorem dk_of {kvs:List (Key×V)} (ok:HOk P w H h) (e:H a=some (.dK kvs)):kvs.length≤sizeLine∧(a==sysModules)=false∧∃ vs,KV kvs vs∧h.DictOf (mixKind P w) a vs:=dk_rd ok (.inl e)
theorem key_of {ks:List Key} (ok:HOk P w H h) (e:H a=some (.tup (ks.map kV))):(tupleKind (mixKind P w)).is h ks a:=by
 obtain ⟨_,its,r,o,h1,h2,_,n,h3⟩:=(show ObjOk P w H h a (.tup (ks.map kV)) from ok a _ e)
 exact ⟨o,its.toArray,n,h1,h2,h3,by simpa using zN5 r⟩
theorem dt_rd {kvs:List (List Key×V)} (ok:HOk P w H h) (e:Rd H a (.dT kvs)):kvs.length≤sizeLine∧(a==sysModules)=false ∧
  ∃ xs,KT H kvs xs∧h.DictOfH (tupleKind (mixKind P w)) a xs:=by
 obtain ⟨z,y,xs,r,o,es,ep,h1,h2,h3,h4,h5⟩:=(show ObjOk P w H h a (.dT kvs) from rd_of ok e)
 refine ⟨z,y,xs,r,o,es,ep,h1,h2,h3,h4,fun x hx=>?_,h5⟩
 have all:∀ {l:List (List Key×V)} {m:List (List Key×Addr×Value)},KT H l m→∀ x∈m,(tupleKind (mixKind P w)).is h x.1 x.2.1:=by
  intro l m q
  induction q with
  | nil=>intro x hx;exact nomatch hx
  | @cons p q ps qs hq t ih =>
   intro x hx
   rcases List.mem_cons.mp hx with e | hx
   ·subst e
    exact key_of ok (by rw [← hq.1];exact hq.2.1)
   ·exact ih x hx
 exact all r x hx
theorem dt_of {kvs:List (List Key×V)} (ok:HOk P w H h) (e:H a=some (.dT kvs)):kvs.length≤sizeLine∧(a==sysModules)=false ∧
  ∃ xs,KT H kvs xs∧h.DictOfH (tupleKind (mixKind P w)) a xs:=dt_rd ok (.inl e)
end
def DGet (H:Hp) (a:Addr) (y:V) (r:Option V):Prop :=
 (∃ kvs k,Rd H a (.dK kvs)∧y=kV k∧r=valV kvs k)∨∃ kvs k b,Rd H a (.dT kvs)∧y=.ref b∧H b=some (.tup (k.map kV))∧r=valV kvs k
def DPut (H:Hp) (a:Addr) (y v:V) (H':Hp):Prop :=
 (∃ kvs k,H a=some (.dK kvs)∧y=kV k∧kvs.length<sizeLine∧H'=upd H a (.dK (putK kvs k v))) ∨
 ∃ kvs k b,H a=some (.dT kvs)∧y=.ref b∧H b=some (.tup (k.map kV))∧kvs.length<sizeLine∧H'=upd H a (.dT (putK kvs k v))
theorem DGet.k {H:Hp} {a:Addr} {kvs:List (Key×V)} {k:Key} (e:H a=some (.dK kvs)):DGet H a (kV k) (valV kvs k):=.inl ⟨kvs,k,.inl e,rfl,rfl⟩
theorem DPut.k {H:Hp} {a:Addr} {kvs:List (Key×V)} {k:Key} {v:V} (e:H a=some (.dK kvs)) (hl:kvs.length<sizeLine):DPut H a (kV k) v (upd H a (.dK (putK kvs k v))):=.inl ⟨kvs,k,e,rfl,hl,rfl⟩
section
variable {X:Cx} {pins:List (Addr×Obj)} {σ:St} {H:Hp} {s:Shared} {a:Addr} {y v:V} {u r:Value} {o:Option V} {A:Around} {E:Value→Shared→Prop}
theorem Inv.big (I:Inv X pins σ H s):sysModules<s.heap.objs.size:=by
 have h:mainGlobals<s.heap.objs.size:=(I.mod.glob.keeps I.bk).lt
 exact Nat.lt_trans (by decide) h
theorem d_getItem {Q:Value→Shared→Prop} (hu:A.units+1<cLine) (I:Inv X pins σ H s) (g:DGet H a y (some v)) (ry:RelV y u) (h:∀ w' s',Inv X pins σ H s'→RelV v w'→Q w' s') :
  wpAny (model X.prog X.w) A (getItem (.ref a) u) Q E s:=by
 rcases g with ⟨kvs,k,e,ey,l⟩ | ⟨kvs,k,b,e,ey,eb,l⟩
 ·subst ey
  obtain ⟨z,hd,vs,rel,dd⟩:=dk_rd I.hok e
  obtain ⟨w',hw,rw'⟩:=RelO.some_of (v:=v) (o:=valueAt vs k) (by rw [l];exact rel.val k)
  exact wpAny_getItem_of (kV_is ry) dd.mapOf hw (h w' _ (I.tok _) rw')
 ·subst ey
  cases (show u=Value.ref b from ry)
  obtain ⟨z,hd,xs,rel,dd⟩:=dt_rd I.hok e
  obtain ⟨w',hw,rw'⟩:=RelO.some_of (v:=v) (o:=(atKey xs k).map (·.2)) (by rw [l];exact rel.val k)
  obtain ⟨p,hp,hp2⟩:=Option.map_eq_some_iff.mp hw
  refine wpAny_getItem_heap (tupleKind_room_in1 hu) (key_of I.hok eb) dd hp ?_
  rw [hp2]
  exact h w' _ (I.tok _) rw'
theorem zP8 {h':Heap} {t':Nat} {ob:HO} (I:Inv X pins σ H s) (mu:Mut (H a)) (hs:Heap.SameBut a s.heap h') (he:∃ q,h'.get? a=some q) (new:ObjOk X.prog X.w (upd H a ob) h' a ob) :
  Inv X pins σ (upd H a ob) { s with heap:=h',toks:=t' } :=
 I.write (x:=a) (e:=a) mu (.inl rfl) (fun b q hb z=>(hs.2 b hb).trans z) he new
theorem dk_new {P:Program} {w:World} {H':Hp} {h':Heap} {kvs:List (Key×V)} {vs:List (Key×Value)} (z:kvs.length≤sizeLine) (hd:(a==sysModules)=false) (rel:KV kvs vs) (dd:h'.DictOf (mixKind P w) a vs) :
  ObjOk P w H' h' a (.dK kvs):=⟨z,hd,vs,rel,dd⟩
theorem d_setItem {H':Hp} {Q:Unit→Shared→Prop} (hu:A.units+1<cLine) (I:Inv X pins σ H s) (g:DPut H a y v H') (ry:RelV y u) (rv:RelV v r) (h:∀ s',Inv X pins σ H' s'→Q () s') :
  wpAny (model X.prog X.w) A (setItem (.ref a) u r) Q E s:=by
 rcases g with ⟨kvs,k,e,ey,l,eH⟩ | ⟨kvs,k,b,e,ey,eb,l,eH⟩
 ·subst ey eH
  obtain ⟨z,hd,vs,rel,dd⟩:=dk_of I.hok e
  have hz:vs.length≤sizeLine:=by rw [← rel.length];exact z
  have hl:(putK kvs k v).length≤sizeLine:=by have:=zs9 kvs k v;lia
  refine wpAny_setItem_pairs (hsz:=hz) (kV_is ry) dd fun h' dd' hs=>h _ ?_
  have he:∃ q,h'.get? a=some q:=let ⟨q,_,_,hq,_⟩:=dd';⟨q,hq⟩
  exact zP8 I (by rw [e];exact True.intro) hs he (dk_new hl hd (rel.put k rv) dd')
 ·subst ey eH
  cases (show u=Value.ref b from ry)
  obtain ⟨z,hd,xs,rel,dd⟩:=dt_of I.hok e
  have hz:xs.length≤sizeLine:=by rw [← Paired.length rel];exact z
  have hl:(putK kvs k v).length≤sizeLine:=by have:=zs9 kvs k v;lia
  refine wpAny_setItem_heap (hsz:=hz) (tupleKind_room_in1 hu) (key_of I.hok eb) dd fun h' dd' hs=>h _ ?_
  obtain ⟨q,es,ep,hq,h2,h3,h4,_,h5⟩:=dd'
  refine zP8 I (by rw [e];exact True.intro) hs ⟨q,hq⟩ ⟨hl,hd,_,(rel.put k eb rv).keeps fun c ys ec=>?_,q,es,ep,hq,h2,h3,h4,h5⟩
  rw [ze6 (ne_of ec e (fun z=>nomatch z))]
  exact ec
end
section
variable {X:Cx} {pins:List (Addr×Obj)} {σ:St} {H:Hp} {s:Shared} {a:Addr} {kvs:List (Key×V)} {k:Key} {u:Value} {A:Around} {E:Value→Shared→Prop}
end
theorem zP9 {X:Cx} {pins:List (Addr×Obj)} {σ:St} {H:Hp} {s:Shared} {a:Addr} {y:V} {o:Option V} (I:Inv X pins σ H s) (g:DGet H a y o):s.TypeIs (.ref a) "dict" := by
 rcases g with ⟨kvs,k,e,_,_⟩ | ⟨kvs,k,b,e,_,_,_⟩
 ·obtain ⟨_,_,vs,_,dd⟩:=dk_rd I.hok e
  exact dd.typeIs
 ·obtain ⟨_,_,xs,_,dd⟩:=dt_rd I.hok e
  exact dd.typeIs
section
variable {X:Cx} {o i e value:Expr} {pos pos' tpos:Pos} {td ty tv:TE}
end
theorem zT3 {P:Program} {w:World} {H:Hp} (h:Heap) (hb:sysModules<h.objs.size):ObjOk P w H (h.push { cls:=.type "dict", data:=.dict #[] }) h.objs.size (.dK []) :=
 ⟨Nat.zero_le _,beq_eq_false_iff_ne.mpr (Ne.symm (Nat.ne_of_lt hb)),[],.nil,Heap.DictOf.new h⟩
section
variable {X:Cx} {pos:Pos}
end
def tPairs:List (TE×TE)→St→Hp→(List (V×V)→Hp→Prop)→Prop
 | [],_,H,Q=>Q [] H
 | (tk,tv)::r,σ,H,Q=>tk σ H fun x H1=>tv σ H1 fun y H2=>tPairs r σ H2 fun ps H3=>Q ((x,y)::ps) H3
noncomputable abbrev VV:List (V×V)→List (Value×Value)→Prop:=Paired fun p q=>RelV p.1 q.1∧RelV p.2 q.2
def PPs (X:Cx) (pos:Pos) (keys:List (Option Expr)) (values:List Expr) (trs:List (TE×TE)):Prop :=
 ∀ (pins:List (Addr×Obj)) (s:Shared) (σ:St) (H:Hp) (Q:List (V×V)→Hp→Prop),Inv X pins σ H s→tPairs trs σ H Q →
  wpAny (model X.prog X.w) X.A (evalPairs (pairTrees keys values X.env pos)) (fun vs s'=>∃ ps H',Inv X pins σ H' s'∧VV ps vs∧Q ps H') X.xe s
theorem pps_nil {X:Cx} {pos:Pos}:PPs X pos [] [] []:=fun pins s σ H Q I h=>pairTrees_nil_walk ⟨[],H,I,.nil,h⟩
theorem pps_cons {X:Cx} {pos:Pos} {k v:Expr} {ks:List (Option Expr)} {vs:List Expr} {tk tv:TE} {trs:List (TE×TE)} (hk:PE X k tk) (hv:PE X v tv) (hr:PPs X pos ks vs trs) :
  PPs X pos (some k::ks) (v::vs) ((tk,tv)::trs):=fun pins s σ H Q I h =>
 pairTrees_cons_walk (thn (hk pins s σ H _ I h) fun u s1 ⟨x,H1,I1,rx,q1⟩=>thn (hv pins s1 σ H1 _ I1 q1) fun w2 s2 ⟨y,H2,I2,ry,q2⟩ =>
  thn (hr pins s2 σ H2 _ I2 q2) fun ws s3 ⟨ps,H3,I3,rel,q3⟩=>⟨(x,y)::ps,H3,I3,.cons ⟨rx,ry⟩ rel,q3⟩)
noncomputable def mergeK (kvs more:List (Key×V)):List (Key×V):=more.foldl (fun acc kv=>putK acc kv.1 kv.2) kvs
theorem KV.merge:∀ {more:List (Key×V)} {rs:List (Key×Value)} {kvs:List (Key×V)} {vs:List (Key×Value)},KV more rs→KV kvs vs→KV (mergeK kvs more) (merged vs rs):=by
 intro more rs kvs vs r
 unfold KV at r
 induction r generalizing kvs vs with
 | nil=>intro q;exact q
 | @cons p q ps qs h t ih =>
  intro r0
  have e:KV (putK kvs p.1 p.2) (stored vs q.1 q.2):=by
   have:=r0.put p.1 h.2
   rw [← h.1];exact this
  exact ih e
theorem zv8:∀ (more kvs:List (Key×V)),(mergeK kvs more).length≤kvs.length+more.length
 | [],kvs=>by show kvs.length≤kvs.length+0;lia
 | p::r,kvs=>by
  have h1:=zv8 r (putK kvs p.1 p.2)
  have h2:=zs9 kvs p.1 p.2
  show (mergeK (putK kvs p.1 p.2) r).length≤_
  rw [List.length_cons];lia
theorem zE4 {P:Program} {w:World}:∀ {kvs:List (Key×V)} {ws:List (Value×Value)},VV (kvs.map fun kv=>(kV kv.1,kv.2)) ws→∃ rs,Carries (mixKind P w) ws rs∧KV kvs rs
 | [],_,r=>by rw [List.map_nil] at r;cases r;exact ⟨[],True.intro,.nil⟩
 | p::kvs,_,r=>by
  rw [List.map_cons] at r
  cases r with
  | @cons a b as bs h t =>
   obtain ⟨rs,c,q⟩:=zE4 (P:=P) (w:=w) t
   obtain ⟨b1,b2⟩:=b
   exact ⟨(p.1,b2)::rs,⟨kV_is h.1,rfl,c⟩,.cons ⟨rfl,h.2⟩ q⟩
section
variable {X:Cx} {pins:List (Addr×Obj)} {σ:St} {H:Hp} {s:Shared} {a:Addr} {y d:V} {u r:Value} {o:Option V} {A:Around} {E:Value→Shared→Prop}
end
section
variable {X:Cx} {o e f:Expr} {apos cpos:Pos} {td ty tx:TE}
end
section
variable {X:Cx} {pins:List (Addr×Obj)} {σ:St} {H:Hp} {s:Shared} {a:Addr} {kvs:List (Key×V)} {A:Around} {E:Value→Shared→Prop}
end
section
variable {X:Cx} {pins:List (Addr×Obj)} {σ:St} {H:Hp} {s:Shared} {a:Addr} {y:V} {u:Value} {A:Around} {E:Value→Shared→Prop}
end
end L2
namespace HT
open PySem PyProof.Rows
section
open PySem.SeqAt
open PySem.AutoSeq1 (wpAny_loadPart')
open PySem.MeetsSeq PySem.MeetsSeq2 PySem.MeetsSeq3
end
section
variable {prog:Program} {w:World} {A:Around} {E:Value→Shared→Prop} {s:Shared}
theorem cat_tup {t b:Addr} {vs ws:List Value} {Q:Value→Shared→Prop} (ht:IsTup s.heap t vs.toArray) (hb:IsTup s.heap b ws.toArray) (hv:vs≠[])
  (h1:ws=[]→Q (.ref t) s) (h2:ws≠[]→Q (.ref s.heap.objs.size) { s with heap:=s.heap.push { cls:=.type "tuple", data:=.seq (vs++ws).toArray } })
  (hsz:vs.length+ws.length≤sizeLine):wpAny (model prog w) A (binaryOp .Add (.ref t) (.ref b)) Q E s:=by
 obtain ⟨⟨cls,dd,data,sl⟩,ho,hc,n,hd⟩:=id ht
 obtain ⟨⟨cls2,dd2,data2,sl2⟩,ho2,hc2,n2,hd2⟩:=id hb
 simp only at hc hd hc2 hd2
 subst hc hd hc2 hd2
 have e:vs.toArray++ws.toArray=(vs++ws).toArray:=by simp
 by_cases hw:ws=[]
 ·exact concat_meets ⟨_,ho,rfl⟩ ⟨_,ho2,rfl⟩ noFill_tuple_add seq_tuple_add PySem.F.slot_tuple_add PySem.F.entry_tuple_add (PySem.F.args_tuple_add_2 _ _)
   (tuple_addW1 t b vs.toArray ws.toArray n n2 dd dd2 sl sl2 (by simpa using hv) (by simp [hw])) ⟨ho,ho2,h1 hw⟩
 ·refine concat_meets ⟨_,ho,rfl⟩ ⟨_,ho2,rfl⟩ noFill_tuple_add seq_tuple_add PySem.F.slot_tuple_add PySem.F.entry_tuple_add (PySem.F.args_tuple_add_2 _ _)
   (tuple_addW2 t b vs.toArray ws.toArray n n2 dd dd2 sl sl2 (by simpa using hv) (by simpa using hw) (by rw [List.size_toArray,List.size_toArray];exact hsz)) ⟨ho,ho2,?_⟩
  rw [e]
  exact h2 hw
noncomputable def sIx (n d:Nat):Option Int→Nat
 | none=>d
 | some v=>if v<0 then (v+(n:Int)).toNat else min v.toNat n
theorem sIx_le (n d:Nat) (hd:d≤n) (o:Option Int):sIx n d o≤n:=by
 cases o with
 | none=>exact hd
 | some v =>
  show (if v<0 then (v+(n:Int)).toNat else min v.toNat n)≤n
  by_cases hv:v<0
  ·rw [if_pos hv];lia
  ·rw [if_neg hv];exact Nat.min_le_right _ _
theorem clip_eq (v:Int) (n d:Nat):(if v<0 then max (v+(n:Int)) 0 else min v (n:Int))=((sIx n d (some v):Nat):Int):=by
 show (if v<0 then max (v+(n:Int)) 0 else min v (n:Int))=(((if v<0 then (v+(n:Int)).toNat else min v.toNat n):Nat):Int)
 by_cases hv:v<0
 ·simp only [if_pos hv];lia
 ·simp only [if_neg hv];lia
theorem adjust_gen (lo hi:Option Int) (n:Nat):Builtin.Slice.sliceAdjust lo hi 1 (n:Int)=(((sIx n 0 lo:Nat):Int),((sIx n n hi:Nat):Int)):=by
 have h1:¬ ((1:Int)<0):=by lia
 unfold Builtin.Slice.sliceAdjust
 simp only [h1,if_false]
 refine Prod.ext ?_ ?_
 ·cases lo with
  | none=>rfl
  | some v=>exact clip_eq v n 0
 ·cases hi with
  | none=>rfl
  | some v=>exact clip_eq v n n
theorem places_gen (i j:Nat):Builtin.Slice.slicePlaces (i:Int) (j:Int) 1=j - i:=by
 unfold Builtin.Slice.slicePlaces
 have h1:(1:Int) > 0:=by lia
 simp only [h1,if_true,Int.ediv_one]
 split <;> lia
theorem slicePart_ {v:Value} {o:Option Int} {Q:Option Int→Shared→Prop} (p:IsPart v o) (h:Q o s):wpAny (model prog w) A (Builtin.Slice.slicePartIndex v) Q E s:=by
 cases p with
 | none=>exact slicePart_none h
 | int i t=>exact slicePart_int h
theorem sliceApplied_gen {sl:Addr} {vl vu:Value} {lo hi:Option Int} {n:Nat} {Q:Int×Int×Nat→Shared→Prop} (hs:s.heap.IsSliceOf sl vl vu .none) (pl:IsPart vl lo) (pu:IsPart vu hi)
  (h:Q (((sIx n 0 lo:Nat):Int),1,sIx n n hi - sIx n 0 lo) s):wpAny (model prog w) A (Builtin.Slice.sliceApplied (.ref sl) (pure (n:Int))) Q E s:=by
 obtain ⟨os,hos,hcs,hds⟩:=id hs
 unfold Builtin.Slice.sliceApplied Builtin.Slice.sliceFields
 refine wpAny_bind (wpAny_bind (wpAny_field hos hds (x:=vl) rfl (wpAny_bind (wpAny_field hos hds (x:=vu) rfl (wpAny_bind (wpAny_field hos hds (x:=.none) rfl (wpAny_pure ?_)))))))
 refine wpAny_bind (slicePart_none ?_)
 show wpAny _ _ (if ((1:Int)==0)=true then _ else _) _ _ s
 rw [if_neg (by decide)]
 refine wpAny_bind (slicePart_ pl (wpAny_bind (slicePart_ pu (wpAny_bind (wpAny_pure ?_)))))
 show wpAny _ _ (match Builtin.Slice.sliceAdjust lo hi 1 (n:Int) with | (lo,hi)=>pure (lo,(1:Int),Builtin.Slice.slicePlaces lo hi 1)) _ _ s
 rw [adjust_gen lo hi n]
 show wpAny _ _ (pure (((sIx n 0 lo:Nat):Int),(1:Int),Builtin.Slice.slicePlaces ((sIx n 0 lo:Nat):Int) ((sIx n n hi:Nat):Int) 1)) _ _ s
 rw [places_gen]
 exact wpAny_pure h
theorem pick_gen (xs:Array Value) (i k:Nat):((List.range k).filterMap fun (m:Nat)=>xs[((i:Int)+(m:Int) * 1).toNat]?).toArray=((xs.toList.drop i).take k).toArray:=by
 have e:(fun (m:Nat)=>xs[((i:Int)+(m:Int) * 1).toNat]?)=fun m=>xs[i+m]?:=by
  funext m
  have:((i:Int)+(m:Int) * 1).toNat=i+m:=by lia
  rw [this]
 rw [e]
 have:=pick_run xs i k
 rw [List.filterMap_map] at this
 have e2:((fun x=>xs[x]?)∘fun x=>i+x)=fun m=>xs[i+m]?:=rfl
 rw [e2] at this
 rw [this]
theorem getItem_tuple_cut {t sl:Addr} {items:Array Value} {vl vu:Value} {lo hi:Option Int} {Q:Value→Shared→Prop} (ht:IsTup s.heap t items) (hs:s.heap.IsSliceOf sl vl vu .none) (pl:IsPart vl lo) (pu:IsPart vu hi)
  (hw:¬ (sIx items.size 0 lo=0∧sIx items.size items.size hi=items.size))
  (h:Q (.ref s.heap.objs.size) { s with heap:=s.heap.push { cls:=.type "tuple", data:=.seq ((items.toList.drop (sIx items.size 0 lo)).take (sIx items.size items.size hi - sIx items.size 0 lo)).toArray } })
  (hsz:items.size≤sizeLine):wpAny (model prog w) A (getItem (.ref t) (.ref sl)) Q E s:=by
 have htake:sizeOk (.seq ((items.toList.drop (sIx items.size 0 lo)).take (sIx items.size items.size hi - sIx items.size 0 lo)).toArray):=by
  show ((items.toList.drop (sIx items.size 0 lo)).take (sIx items.size items.size hi - sIx items.size 0 lo)).toArray.size≤sizeLine
  rw [List.size_toArray,List.length_take,List.length_drop,Array.length_toList]
  lia
 have hj:sIx items.size items.size hi≤items.size:=sIx_le _ _ (Nat.le_refl _) hi
 obtain ⟨os,hos,hcs,hds⟩:=id hs
 have hTs:s.TypeIs (.ref sl) "slice" := ⟨os,hos,hcs⟩
 unfold getItem
 try with_reducible refine wpAny_holding ?_
 first | refine wpAny_bind (wpAny_pure ?_) | skip
 refine wpAny_bind (wpAny_sequenceKey ht.typeIs (by decide) ?_)
 refine wpAny_bind (wpAny_callSpecial?_slot (name:=Str.ofString "__getitem__") ht.typeIs PyProof.Rows.slot_tuple_getitem
  (wpAny_call_entry PyProof.Rows.slot_tuple_getitem ht.typeIs entry_tuple_getitem ?_ (args_tuple_getitem _ _)))
 show wpAny _ _ (Builtin.Tuple.tupleItemsOf (.ref t) >>= _) _ _ s
 refine wpAny_bind (tupleItemsOf_ ht ?_)
 refine wpAny_bind (wpAny_typeOf hTs ?_)
 rw [if_pos (by decide)]
 refine wpAny_bind (sliceApplied_gen hs pl pu ?_)
 have hno:¬ ((((sIx items.size 0 lo:Nat):Int)==0&&(1:Int)==1&&(sIx items.size items.size hi - sIx items.size 0 lo)==items.size)=true):=by
  intro q
  rw [Bool.and_eq_true,Bool.and_eq_true] at q
  have q1:((sIx items.size 0 lo:Nat):Int)=0:=eq_of_beq q.1.1
  have q2:sIx items.size items.size hi - sIx items.size 0 lo=items.size:=eq_of_beq q.2
  exact hw ⟨by lia,by lia⟩
 show wpAny _ _ (if (((sIx items.size 0 lo:Nat):Int)==0&&(1:Int)==1&&(sIx items.size items.size hi - sIx items.size 0 lo)==items.size)=true then _ else _) _ _ s
 rw [if_neg hno,pick_gen]
 first
  | exact wpAny_bind (m:=Builtin.Tuple.tupleExact _) (wpAny_newObj_type (wpAny_pure ⟨_,rfl,wpAny_pure h⟩) htake)
  | exact wpAny_bind (m:=Builtin.Tuple.tupleExact _) (wpAny_newObj_type (wpAny_bind (wpAny_pure (wpAny_pure ⟨_,rfl,wpAny_pure h⟩))) htake)
  | exact wpAny_bind (wpAny_bind (m:=Builtin.Tuple.tupleExact _) (wpAny_newObj_type (wpAny_pure (wpAny_pure ⟨_,rfl,wpAny_pure h⟩)) htake))
  | exact wpAny_bind (wpAny_bind (m:=Builtin.Tuple.tupleExact _) (wpAny_newObj_type (wpAny_pure ⟨_,rfl,wpAny_pure h⟩) htake))
end
end HT
namespace L2
open PySem PySem.Spec PyProof.Rows
noncomputable abbrev TO:=St→Hp→(Option Int→Hp→Prop)→Prop
def PO (X:Cx) (e:Option Expr) (t:TO):Prop :=
 ∀ (pins:List (Addr×Obj)) (s:Shared) (σ:St) (H:Hp) (Q:Option Int→Hp→Prop),Inv X pins σ H s→t σ H Q →
  wpAny (model X.prog X.w) X.A (evalPart e X.env) (fun u s'=>∃ o H',Inv X pins σ H' s'∧IsPart u o∧Q o H') X.xe s
noncomputable def tNoPart:TO:=fun _ H Q=>Q none H
noncomputable def tPart (t:TE):TO:=fun σ H Q=>t σ H fun x H1=>∃ i,x=.int i∧Q (some i) H1
section
variable {X:Cx} {e:Expr} {te:TE} {lo hi:Option Expr} {tl th:TO} {pos p2:Pos}
theorem po_none:PO X none tNoPart:=by
 intro pins s σ H Q I h
 rw [evalPart_none]
 exact wpAny_pure ⟨none,H,I,.none,h⟩
theorem po_some (h:PE X e te):PO X (some e) (tPart te):=by
 intro pins s σ H Q I hw
 rw [evalPart_some]
 refine thn (h pins s σ H _ I hw) fun u s1 h_=>?_
 obtain ⟨x,H1,I1,r1,q1⟩:=h_
 obtain ⟨i,rfl,q⟩:=q1
 obtain ⟨t,rfl⟩:=r1
 exact ⟨some i,H1,I1,.int i t,q⟩
def SlR (X:Cx) (r:V→Option Int→Option Int→Hp→VK→Prop):Prop :=
 ∀ (pins:List (Addr×Obj)) (s:Shared) (σ:St) (H:Hp) (x:V) (v vl vu:Value) (lo hi:Option Int) (sl:Addr) (Q:VK),Inv X pins σ H s→RelV x v→s.heap.IsSliceOf sl vl vu .none→IsPart vl lo→IsPart vu hi→r x lo hi H Q →
  ∃ T id,typeLookup (.type T) "__getitem__" = pure (some (.builtin id))∧s.TypeIs v T∧wpAny (model X.prog X.w) X.A (getItem v (.ref sl)) (EP X pins σ Q) X.xe s
noncomputable def tSl (r:V→Option Int→Option Int→Hp→VK→Prop) (te:TE) (tl th:TO):TE:=fun σ H Q=>te σ H fun x H1=>tl σ H1 fun l H2=>th σ H2 fun u H3=>r x l u H3 Q
theorem pe_slice {r:V→Option Int→Option Int→Hp→VK→Prop} (hr:SlR X r) (he:PE X e te) (hl:PO X lo tl) (hu:PO X hi th):PE X (.Subscript e (.Slice lo hi none p2) pos) (tSl r te tl th):=by
 intro pins s σ H Q I h
 refine Subscript_ (thn (he pins s σ H _ I h) fun v s1 h_=>?_)
 obtain ⟨x,H1,I1,r1,q1⟩:=h_
 refine wpAny_Slice (thn (hl pins s1 σ H1 _ I1 q1) fun vl s2 ⟨l,H2,I2,pl,q2⟩=>thn (hu pins s2 σ H2 _ I2 q2) fun vu s3 h_=>?_)
 obtain ⟨u,H3,I3,pu,q3⟩:=h_
 rw [evalPart_none]
 refine wpAny_pure ?_
 have I4:Inv X pins σ H3 { s3 with heap:=s3.heap.push { cls:=.type "slice", data:=.fields #[vl,vu,.none] } }:=I3.kept (t':=s3.toks) fun b ob q=>Heap.get?_push_of_some _ q
 obtain ⟨T,id,hT,ht,hg⟩:=hr pins { s3 with heap:=s3.heap.push { cls:=.type "slice", data:=.fields #[vl,vu,.none] } } σ H3 x v vl vu l u s3.heap.objs.size Q I4 r1 (Heap.IsSliceOf.new ..) pl pu q3
 show wpAny (model X.prog X.w) X.A (subscriptTail e (.Slice lo hi none p2) v (.ref s3.heap.objs.size)) (EP X pins σ Q) X.xe { s3 with heap:=s3.heap.push { cls:=.type "slice", data:=.fields #[vl,vu,.none] } }
 exact tail_any (ops:=[.ref s3.heap.objs.size,v]) ht hT hg (by with_unfolding_all rfl)
noncomputable def cutV (xs:List V) (lo hi:Option Int):List V:=(xs.drop (HT.sIx xs.length 0 lo)).take (HT.sIx xs.length xs.length hi - HT.sIx xs.length 0 lo)
theorem zB6 (xs:List V) (lo hi:Option Int):(cutV xs lo hi).length≤xs.length:=by
 unfold cutV
 rw [List.length_take,List.length_drop]
 lia
def rSlT (K:PySem.W.Frag):V→Option Int→Option Int→Hp→VK→Prop:=fun x lo hi H Q=>∃ a xs,x=.ref a∧SqT K H a xs ∧
 ¬ (HT.sIx xs.length 0 lo=0∧HT.sIx xs.length xs.length hi=xs.length)∧∀ p,H p=none→Q (.ref p) (upd H p (.tup (cutV xs lo hi)))
theorem sl_tup:SlR X (rSlT X.K):=by
 intro pins s σ H x v vl vu lo hi sl Q I rx hs pl pu h
 obtain ⟨a,xs,rfl,hx,hw,q⟩:=h
 cases rx
 obtain ⟨its,r,ht,hz⟩:=I.tuple hx
 have hlen:its.toArray.size=xs.length:=by rw [List.size_toArray];exact r.length.symm
 refine ⟨"tuple", _,PyProof.Rows.slot_tuple_getitem.lookup,ht.typeIs,?_⟩
 refine HT.getItem_tuple_cut ht hs pl pu (by rw [hlen];exact hw) ?_ (by rw [hlen];exact hz)
 rw [hlen]
 refine ⟨.ref s.heap.objs.size,_,I.laid (t':=s.toks) (o:=.tup (cutV xs lo hi)) (fun b ob q=>Heap.get?_push_of_some _ q) (Nat.le_refl _) ?_,rfl,q _ (I.hok.fresh (Nat.le_refl _))⟩
 exact ⟨Nat.le_trans (zB6 xs lo hi) hz,_,(r.drop (HT.sIx xs.length 0 lo)).take (HT.sIx xs.length xs.length hi - HT.sIx xs.length 0 lo),IsTupD.new _ _⟩
noncomputable def rCatT (K:PySem.W.Frag):R2:=fun x y H Q=>∃ a b xs ys,x=.ref a∧y=.ref b∧SqT K H a xs∧SqT K H b ys∧xs≠[]∧xs.length+ys.length≤sizeLine ∧
 (ys=[]→Q (.ref a) H)∧(ys≠[]→∀ p,H p=none→Q (.ref p) (upd H p (.tup (xs++ys))))
theorem Vals.nil_iff {xs:List V} {us:List Value} (r:Vals xs us):us=[]↔xs=[]:=by
 cases r with
 | nil=>simp
 | cons _ _=>simp
theorem op_catT:OpR X (binaryOp .Add) (rCatT X.K):=by
 intro pins s σ H x y v u Q I rx ry h
 obtain ⟨a,b,xs,ys,rfl,rfl,ha,hb,hx,hz,q1,q2⟩:=h
 cases rx
 cases ry
 obtain ⟨its,r1,p1,_⟩:=I.tuple ha
 obtain ⟨its2,r2,p2,_⟩:=I.tuple hb
 refine HT.cat_tup p1 p2 (fun z=>hx (r1.nil_iff.mp z)) (fun z=>⟨.ref a,H,I,rfl,q1 (r2.nil_iff.mp z)⟩) (fun z=>?_) (by rw [← r1.length,← r2.length];exact hz)
 refine ⟨.ref s.heap.objs.size,_,I.laid (t':=s.toks) (o:=.tup (xs++ys)) (fun b ob q=>Heap.get?_push_of_some _ q) (Nat.le_refl _) ?_,rfl,q2 (fun w=>z (r2.nil_iff.mpr w)) _ (I.hok.fresh (Nat.le_refl _))⟩
 exact ⟨by rw [List.length_append];exact hz,_,r1.append r2,IsTupD.new _ _⟩
end
end L2
namespace L2
open PySem PySem.Spec PyProof.Rows
noncomputable def ixN (n:Nat) (i:Int):Option Nat:=if 0≤i then (if i<n then some i.toNat else none) else if -(n:Int)≤i then some (i+n).toNat else none
noncomputable def atI {α:Type} (xs:List α) (i:Int):Option α:=(ixN xs.length i).bind fun j=>xs[j]?
theorem ixN_seq {n:Nat} {i:Int} {j:Nat} (h:ixN n i=some j):seqIndex? i n=some j∧j<n∧-(n:Int)≤i∧i<n:=by
 unfold ixN at h
 by_cases h0:0≤i
 ·rw [if_pos h0] at h
  by_cases h1:i<n
  ·rw [if_pos h1] at h
   have e:i.toNat=j:=Option.some.inj h
   exact ⟨by rw [seqIndex_of h0 h1,e],by lia,by lia,h1⟩
  ·rw [if_neg h1] at h;cases h
 ·rw [if_neg h0] at h
  by_cases h1:-(n:Int)≤i
  ·rw [if_pos h1] at h
   have e:(i+n).toNat=j:=Option.some.inj h
   exact ⟨by rw [seqIndex_neg (by lia) h1,e],by lia,h1,by lia⟩
  ·rw [if_neg h1] at h;cases h
theorem zP5 {α:Type} {xs:List α} {i:Int} {v:α} (h:atI xs i=some v):∃ j,seqIndex? i xs.length=some j∧xs[j]?=some v∧j<xs.length∧-(xs.length:Int)≤i∧i<xs.length:=by
 unfold atI at h
 cases e:ixN xs.length i with
 | none=>rw [e] at h;cases h
 | some j =>
  rw [e] at h
  obtain ⟨h1,h2,h3,h4⟩:=ixN_seq e
  exact ⟨j,h1,h,h2,h3,h4⟩
def PlainIx (b:Expr):Prop:=∀ o i,subscripted b false o i=operate [o,i] (getItem o i)
def IxR (X:Cx) (r:R2):Prop :=
 ∀ (value slice:Expr) (pins:List (Addr×Obj)) (s:Shared) (σ:St) (H:Hp) (x y:V) (v u:Value) (Q:VK),Inv X pins σ H s→RelV x v→RelV y u→r x y H Q →
  subscripted slice false v u=operate [v,u] (getItem v u)→wpAny (model X.prog X.w) X.A (subscriptTail value slice v u) (EP X pins σ Q) X.xe s
def MtR (X:Cx) (id:String) (r:V→List V→Hp→VK→Prop):Prop :=
 ∀ (pins:List (Addr×Obj)) (s:Shared) (σ:St) (H:Hp) (x:V) (xs:List V) (v:Value) (us:List Value) (Q:VK),Inv X pins σ H s→RelV x v→Vals xs us→r x xs H Q →
  wpAny (model X.prog X.w) X.A (call (.builtin id) (v::us)) (EP X pins σ Q) X.xe s
section
variable {X:Cx} {a b:Expr} {ta tb:TE} {pos:Pos}
theorem IxR.or {r r':R2} (h:IxR X r) (h':IxR X r'):IxR X (fun x y H Q=>r x y H Q∨r' x y H Q):=by
 intro value slice pins s σ H x y v u Q I rx ry q hs
 rcases q with q | q
 ·exact h value slice pins s σ H x y v u Q I rx ry q hs
 ·exact h' value slice pins s σ H x y v u Q I rx ry q hs
theorem pe_ix {r:R2} (hr:IxR X r) (ha:PE X a ta) (hb:PE X b tb) (hs:PlainIx b):PE X (.Subscript a b pos) (tOp r ta tb):=by
 intro pins s σ H Q I h
 exact Subscript_ (binT ha hb I h fun v u s2 x y H2 I2 rx ry q=>hr a b pins s2 σ H2 x y v u Q I2 rx ry q (hs _ _))
noncomputable def rIxL (K:PySem.W.Frag):R2:=fun x y H Q=>∃ p xs i v,x=.ref p∧y=.int i∧SqL K H p xs∧atI xs i=some v∧Q v H
noncomputable def rIxT (K:PySem.W.Frag):R2:=fun x y H Q=>∃ p xs i v,x=.ref p∧y=.int i∧SqT K H p xs∧atI xs i=some v∧Q v H
noncomputable def rIxS:R2:=fun x y H Q=>∃ z i c,x=.str z∧y=.int i∧z.length≤sizeLine∧atI z.cps.toList i=some c∧Q (.str ⟨#[c]⟩) H
theorem ix_list:IxR X (rIxL X.K):=by
 intro value slice pins s σ H x y v u Q I rx ry h hs
 obtain ⟨p,xs,i,z,rfl,rfl,hq,he,q⟩:=h
 cases rx
 obtain ⟨t,rfl⟩:=ry
 obtain ⟨its,r,pl,hz⟩:=I.list hq
 obtain ⟨j,h1,h2,h3,h4,h5⟩:=zP5 he
 obtain ⟨w,ew,rw'⟩:=r.get h2
 have hl:=r.length
 have hn:=zG0
 have fin:EP X pins σ Q w s:=⟨z,H,I,rw',q⟩
 by_cases h0:0≤i
 ·have hj:i.toNat=j:=by
   rw [seqIndex_of h0 h5] at h1
   exact Option.some.inj h1
  exact item_listR pl.isList h0 (by lia) (by rw [hj];simpa using ew) fin hs
 ·have hj:(i+(its.toArray.size:Int)).toNat=j:=by
   rw [seqIndex_neg (by lia) h4] at h1
   rw [List.size_toArray,← hl]
   exact Option.some.inj h1
  exact subscriptTail_builtinR (x:=w) pl.isList.typeIs slot_list_getitem.lookup
   (wpAny_getItem_list_neg (Q:=fun r s'=>r=w∧EP X pins σ Q r s') pl.isList (by lia) (by rw [List.size_toArray] <;> lia) (by lia) (by rw [hj];simpa using ew) ⟨rfl,fin⟩) hs
theorem ix_tup:IxR X (rIxT X.K):=by
 intro value slice pins s σ H x y v u Q I rx ry h hs
 obtain ⟨p,xs,i,z,rfl,rfl,hq,he,q⟩:=h
 cases rx
 obtain ⟨t,rfl⟩:=ry
 obtain ⟨its,r,pl,hz⟩:=I.tuple hq
 obtain ⟨j,h1,h2,h3,h4,h5⟩:=zP5 he
 obtain ⟨w,ew,rw'⟩:=r.get h2
 have hl:=r.length
 have hn:=zG0
 have fin:EP X pins σ Q w s:=⟨z,H,I,rw',q⟩
 exact subscriptTail_builtinR (x:=w) pl.typeIs slot_tuple_getitem.lookup
  (getItem_tuple (j:=j) (Q:=fun r s'=>r=w∧EP X pins σ Q r s') pl (by lia) (by lia) (by rw [List.size_toArray,← hl];exact h1) (by simpa using ew) ⟨rfl,fin⟩) hs
theorem ix_str:IxR X rIxS:=by
 intro value slice pins s σ H x y v u Q I rx ry h hs
 obtain ⟨z,i,c,rfl,rfl,hz,he,q⟩:=h
 obtain ⟨t,rfl⟩:=rx
 obtain ⟨t',rfl⟩:=ry
 obtain ⟨j,h1,h2,h3,h4,h5⟩:=zP5 he
 have hl:z.cps.toList.length=z.length:=by simp [Str.length]
 rw [hl] at h1 h4 h5
 have hn:=zG0
 exact tail_any (typeIs_str s z t) slot_str_getitem.lookup (getItem_str (c:=c) (by
  have e1:decide (i < -(2 ^ 63:Int))=false:=decide_eq_false (by lia)
  have e2:decide (i ≥ 2 ^ 63)=false:=decide_eq_false (by lia)
  rw [e1,e2,Bool.or_false]) (by rw [h1];simpa using h2) ⟨.str ⟨#[c]⟩,H,I.tok _,⟨_,rfl⟩,q⟩) hs
noncomputable def rIx (K:PySem.W.Frag):R2:=fun x y H Q=>rIxL K x y H Q∨rIxT K x y H Q∨rIxS x y H Q
theorem ix_seq:IxR X (rIx X.K):=ix_list.or (ix_tup.or ix_str)
theorem zY5 (its:List Value) (n j:Nat) (u:Value):Obj.mapSeq (·.setIfInBounds j u) { cls:=.type "list", data:=.seq its.toArray n }={ cls:=.type "list", data:=.seq (its.set j u).toArray n }:=by
 simp [Obj.mapSeq]
theorem Inv.lst {pins:List (Addr×Obj)} {σ:St} {H:Hp} {s:Shared} {p:Addr} {xs:List V} (I:Inv X pins σ H s) (h:H p=some (.lst xs)) :
  ∃ (its:List Value) (n:Nat),Vals xs its∧s.heap.get? p=some { cls:=.type "list", data:=.seq its.toArray n }∧xs.length≤sizeLine:=by
 obtain ⟨z,its,n,r,e⟩:=I.hok p _ h
 exact ⟨its,n,r,e,z⟩
theorem Inv.lstUpd {pins:List (Addr×Obj)} {σ:St} {H:Hp} {s:Shared} {p:Addr} {xs ys:List V} {its its':List Value} {n n':Nat} {f:Obj→Obj} (I:Inv X pins σ H s) (h:H p=some (.lst xs))
  (ho:s.heap.get? p=some { cls:=.type "list", data:=.seq its.toArray n }) (hf:f { cls:=.type "list", data:=.seq its.toArray n }={ cls:=.type "list", data:=.seq its'.toArray n' }) (r:Vals ys its') (hz:ys.length≤sizeLine) (t:Nat) :
  Inv X pins σ (upd H p (.lst ys)) { s with heap:=s.heap.update p f,toks:=t }:=by
 have e:(s.heap.update p f).get? p=some { cls:=.type "list", data:=.seq its'.toArray n' }:=by
  rw [Heap.get?_update_self f ho (by rw [hf] <;> rfl),hf]
 refine I.write (x:=p) (e:=p) (by rw [h];trivial) (.inl rfl) (fun b u hb q=>(Heap.get?_update_other _ _ (Ne.symm hb)).trans q) ⟨_,e⟩ ?_
 exact ⟨hz,its',n',r,e⟩
def rSetL:V→V→V→Hp→(Hp→Prop)→Prop:=fun o i v H Q=>∃ p xs k j,o=.ref p∧i=.int k∧H p=some (.lst xs)∧ixN xs.length k=some j∧Q (upd H p (.lst (xs.set j v)))
theorem set_list:PSet X rSetL:=by
 intro pins s σ H o i v ov iv u Q I ro ri rv h
 obtain ⟨p,xs,k,j,rfl,rfl,hp,hj,q⟩:=h
 cases ro
 obtain ⟨t,rfl⟩:=ri
 obtain ⟨its,n,r,ho,hz⟩:=I.lst hp
 obtain ⟨h1,h2,h3,h4⟩:=ixN_seq hj
 have hl:=r.length
 have hn:=zG0
 have I':Inv X pins σ (upd H p (.lst (xs.set j v))) { s with heap:=s.heap.update p (Obj.mapSeq (·.setIfInBounds j u)) } :=
  I.lstUpd hp ho (zY5 its n j u) (r.set rv j) (by rw [List.length_set];exact hz) s.toks
 by_cases h0:0≤k
 ·have hk:k.toNat=j:=by
   rw [seqIndex_of h0 h4] at h1
   exact Option.some.inj h1
  exact PySem.W.ki_setAt ho h0 (by lia) (by rw [List.size_toArray,← hl];exact h4) (by rw [hk];exact ⟨_,I',q⟩)
 ·have hk:(k+(its.toArray.size:Int)).toNat=j:=by
   rw [seqIndex_neg (by lia) h3] at h1
   rw [List.size_toArray,← hl]
   exact Option.some.inj h1
  exact PySem.W.ki_setBack ho (by lia) (by rw [List.size_toArray,← hl];exact h3) (by lia) (by rw [hk];exact ⟨_,I',q⟩)
theorem zK1 (lo hi:Option Int) (n:Nat):(sliceBounds lo hi none n).1=((HT.sIx n 0 lo:Nat):Int)∧(sliceBounds lo hi none n).2.1=((HT.sIx n n hi:Nat):Int)∧(sliceBounds lo hi none n).2.2=1:=by
 refine ⟨?_,?_,rfl⟩
 ·cases lo with
  | none=>simp [sliceBounds,HT.sIx]
  | some i =>
   simp only [sliceBounds,HT.sIx,Option.getD_none,show (1:Int) > 0 by decide,if_true]
   by_cases h:i<0
   ·simp only [h,if_true] <;> lia
   ·simp only [h,if_false] <;> lia
 ·cases hi with
  | none=>simp [sliceBounds,HT.sIx]
  | some i =>
   simp only [sliceBounds,HT.sIx,Option.getD_none,show (1:Int) > 0 by decide,if_true]
   by_cases h:i<0
   ·simp only [h,if_true] <;> lia
   ·simp only [h,if_false] <;> lia
theorem zG1 (its:List Value) (lo hi:Option Int):slicePick its.toArray lo hi none=((its.drop (HT.sIx its.length 0 lo)).take (HT.sIx its.length its.length hi - HT.sIx its.length 0 lo)).toArray:=by
 obtain ⟨h1,h2,h3⟩:=zK1 lo hi its.toArray.size
 unfold slicePick
 rw [h1,h2,h3]
 simp only [sliceRange_one,pick_run,List.size_toArray] <;> rfl
def rSlL (K:PySem.W.Frag):V→Option Int→Option Int→Hp→VK→Prop:=fun x lo hi H Q=>∃ a xs,x=.ref a∧SqL K H a xs∧∀ p,H p=none→Q (.ref p) (upd H p (.lst (cutV xs lo hi)))
theorem sl_list:SlR X (rSlL X.K):=by
 intro pins s σ H x v vl vu lo hi sl Q I rx hs pl pu h
 obtain ⟨a,xs,rfl,hx,q⟩:=h
 cases rx
 obtain ⟨its,r,ht,hz⟩:=I.list hx
 have hlen:=r.length
 refine ⟨"list", _,slot_list_getitem.lookup,ht.isList.typeIs,?_⟩
 refine wpAny_getItem_list_slice ht.isList hs pl pu .none (by simp) ?_ (by rw [List.size_toArray] <;> lia)
 rw [zG1,← hlen]
 refine ⟨.ref s.heap.objs.size,_,I.laid (t':=s.toks) (o:=.lst (cutV xs lo hi)) (fun b ob q=>Heap.get?_push_of_some _ q) (Nat.le_refl _) ?_,rfl,q _ (I.hok.fresh (Nat.le_refl _))⟩
 exact ⟨Nat.le_trans (zB6 xs lo hi) hz,_,0,(r.drop (HT.sIx xs.length 0 lo)).take (HT.sIx xs.length xs.length hi - HT.sIx xs.length 0 lo),Heap.get?_push_size _ rfl⟩
theorem zy3:CallR X (.builtin "len") (fun xs H Q=>∃ p ys,xs=[.ref p]∧(SqL X.K H p ys∨SqT X.K H p ys)∧Q (.int ys.length) H):=by
 intro pins s σ H xs us Q I r h
 obtain ⟨p,ys,rfl,hq,q⟩:=h
 obtain ⟨u,rfl,rx⟩:=zW0 r
 cases rx
 have hn:=zG0
 rcases hq with hq | hq
 ·obtain ⟨its,r',pl,hz⟩:=I.list hq
  have hlen:=r'.length
  exact Calls.call_len_list pl.isList (by simp only [List.size_toArray] <;> lia) ⟨.int ys.length,H,I.tok _,⟨s.toks+1,by rw [List.size_toArray,hlen]⟩,q⟩
 ·obtain ⟨its,r',pl,hz⟩:=I.tuple hq
  have hlen:=r'.length
  exact len_tuple pl (by simp only [List.size_toArray] <;> lia) ⟨.int ys.length,H,I.tok _,⟨s.toks+1,by rw [List.size_toArray,hlen]⟩,q⟩
theorem zK3:CallR X (.builtin "len") (fun xs H Q=>∃ z,xs=[.str z]∧z.length≤sizeLine∧Q (.int z.length) H):=by
 intro pins s σ H xs us Q I r h
 obtain ⟨z,rfl,hz,q⟩:=h
 obtain ⟨u,rfl,t,rfl⟩:=zW0 r
 have hn:=zG0
 exact len_str (by lia) ⟨.int z.length,H,I.tok _,⟨_,rfl⟩,q⟩
theorem zL3:CallR X (.type "list") (fun xs H Q=>∃ p ys,xs=[.ref p]∧(SqL X.K H p ys∨SqT X.K H p ys)∧∀ l,H l=none→Q (.ref l) (upd H l (.lst ys))):=by
 intro pins s σ H xs us Q I r h
 obtain ⟨p,ys,rfl,hq,q⟩:=h
 obtain ⟨u,rfl,rx⟩:=zW0 r
 cases rx
 have fin:∀ (its:List Value),Vals ys its→ys.length≤sizeLine→∀ (h':Heap) (c':Nat),(∀ b o',s.heap.get? b=some o'→h'.get? b=some o') →
   h'.get? s.heap.objs.size=some { cls:=.type "list", dict:=none,data:=.seq its.toArray c',slots:=#[] }→EP X pins σ Q (.ref s.heap.objs.size) { s with heap:=h' }:=fun its r' hz h' c' kp e =>
  ⟨.ref s.heap.objs.size,_,I.laid (t':=s.toks) kp (Nat.le_refl _) (show ObjOk X.prog X.w _ h' _ (.lst ys) from ⟨hz,its,c',r',e⟩),rfl,q _ (I.hok.fresh (Nat.le_refl _))⟩
 rcases hq with hq | hq
 ·obtain ⟨its,r',pl,hz⟩:=I.list hq
  have hlen:=r'.length
  obtain ⟨o,ho,hc,n,hd⟩:=pl.isList
  exact call_list_seq p (.inl rfl) ho hc hd (fun h' c' kp e=>fin its r' hz h' c' kp e) (by simp only [List.size_toArray] <;> lia)
 ·obtain ⟨its,r',pl,hz⟩:=I.tuple hq
  have hlen:=r'.length
  obtain ⟨o,ho,hc,n,hd⟩:=pl
  exact call_list_seq p (.inr rfl) ho hc hd (fun h' c' kp e=>fin its r' hz h' c' kp e) (by simp only [List.size_toArray] <;> lia)
theorem zw0:CallR X (.type "tuple") (fun xs H Q=>∃ p ys,xs=[.ref p]∧((SqL X.K H p ys∧∀ l,H l=none→Q (.ref l) (upd H l (.tup ys)))∨(SqT X.K H p ys∧Q (.ref p) H))):=by
 intro pins s σ H xs us Q I r h
 obtain ⟨p,ys,rfl,h⟩:=h
 obtain ⟨u,rfl,rx⟩:=zW0 r
 cases rx
 rcases h with ⟨hq,q⟩ | ⟨hq,q⟩
 ·obtain ⟨its,r',pl,hz⟩:=I.list hq
  have hlen:=r'.length
  refine call_tuple_list pl.isList (fun h' kp=>?_) (by simp only [List.size_toArray] <;> lia)
  have I1:Inv X pins σ H { s with heap:=h' }:=I.kept (t':=s.toks) kp
  have I2:Inv X pins σ (upd H h'.objs.size (.tup ys)) { s with heap:=h'.push { cls:=.type "tuple", data:=.seq its.toArray } } :=
   I1.laid (t':=s.toks) (fun b o e=>Heap.get?_push_of_some _ e) (Nat.le_refl _) (show ObjOk X.prog X.w _ _ _ (.tup ys) from ⟨hz,its,r',IsTupD.new _ _⟩)
  exact ⟨.ref h'.objs.size,_,I2,rfl,q _ (I1.hok.fresh (Nat.le_refl _))⟩
 ·obtain ⟨its,r',pl,hz⟩:=I.tuple hq
  exact call_tuple_same pl ⟨.ref p,H,I,rfl,q⟩
def tyV (K:PySem.W.Frag) (T:String) (x:V) (H:Hp):Prop:=match x with
 | .str _=>T = "str"
 | .int _=>T = "int"
 | .ref p=>(T = "list" ∧ ∃ xs,SqL K H p xs)∨(T = "tuple" ∧ ∃ o,K.lookup p=some o∧o.cls=.type "tuple" ∧ o.dict=none) ∨
   (T = "dict" ∧ ((∃ kvs,H p=some (.dK kvs))∨∃ kvs,H p=some (.dT kvs)))∨(T = "set" ∧ ∃ S n,H p=some (.set S n))
 | _=>False
theorem zS0 {pins:List (Addr×Obj)} {σ:St} {H:Hp} {s:Shared} {T:String} {x:V} {v:Value} (I:Inv X pins σ H s) (r:RelV x v) (ty:tyV X.K T x H) :
  s.TypeIs v T∧∀ a,v=.ref a→∃ ob,s.heap.get? a=some ob∧ob.dict=none:=by
 cases x with
 | str z =>
  obtain ⟨t,rfl⟩:=r
  cases (show T = "str" from ty)
  exact ⟨typeIs_str s z t,fun _ e=>nomatch e⟩
 | int i =>
  obtain ⟨t,rfl⟩:=r
  cases (show T = "int" from ty)
  exact ⟨typeIs_int s i t,fun _ e=>nomatch e⟩
 | ref p =>
  cases r
  rcases ty with ⟨rfl,xs,hq⟩ | ⟨rfl,o,hk,hc,hd⟩ | ⟨rfl,hk⟩ | ⟨rfl,S,n,hk⟩
  ·obtain ⟨its,_,pl,_⟩:=I.list hq
   refine ⟨pl.isList.typeIs,fun a e=>?_⟩
   cases e
   obtain ⟨o,n,e,c,hd,_⟩:=pl
   exact ⟨o,e,hd⟩
  ·refine ⟨⟨o,I.kIn p o hk,hc⟩,fun a e=>?_⟩
   cases e
   exact ⟨o,I.kIn _ o hk,hd⟩
  ·have z:∃ o,s.heap.get? p=some o∧o.ExactDict:=by
    rcases hk with ⟨kvs,hk⟩ | ⟨kvs,hk⟩
    ·obtain ⟨_,_,_,_,o,_,_,e,ex,_⟩:=I.hok p _ hk
     exact ⟨o,e,ex⟩
    ·obtain ⟨_,_,_,_,o,_,_,e,ex,_⟩:=I.hok p _ hk
     exact ⟨o,e,ex⟩
   obtain ⟨o,e,ex⟩:=z
   refine ⟨⟨o,e,ex.1⟩,fun a e2=>?_⟩
   cases e2
   exact ⟨o,e,ex.2.1⟩
  ·obtain ⟨o,_,_,_,e,ex,_⟩:=I.hok p _ hk
   refine ⟨⟨o,e,ex.1⟩,fun a e2=>?_⟩
   cases e2
   exact ⟨o,e,ex.2.1⟩
 | _=>exact False.elim ty
noncomputable def tBM0 (K:PySem.W.Frag) (T:String) (r:V→List V→Hp→VK→Prop) (to:TE):TE:=fun σ H Q=>to σ H fun x H1=>tyV K T x H1∧r x [] H1 Q
noncomputable def tBM (K:PySem.W.Frag) (T:String) (r:V→List V→Hp→VK→Prop) (to:TE) (t:TA):TE:=fun σ H Q=>to σ H fun x H1=>tyV K T x H1∧t σ H1 fun xs H2=>r x xs H2 Q
variable {o e:Expr} {es:List Expr} {to:TE} {t:TA} {name:Str} {apos cpos:Pos} {T id:String} {r:V→List V→Hp→VK→Prop}
theorem pe_bm0 (pa:PlainAttrs T) (slot:Slot T name id) (hty:typeOf (.builtin id)=pure (.type "method_descriptor")) (hm:MtR X id r) (ho:PE X o to)
  (hbase:attributeBase o name X.env (eval o X.env)=eval o X.env) (hline:(apos.endLine==cpos.line)=true):PE X (.Call (.Attribute o name apos) [] [] cpos) (tBM0 X.K T r to):=by
 intro pins s σ H Q I h
 refine wpAny_Call_method0_late hbase hline (thn (ho pins s σ H _ I h) fun v s1 h_=>?_)
 obtain ⟨x,H1,I1,r1,ty,q1⟩:=h_
 obtain ⟨h1,h2⟩:=zS0 I1 r1 ty
 exact ⟨T,id,pa,slot,hty,h1,h2,Calls.callWith_builtin rfl (PySem.evalArgs_none (hm pins s1 σ H1 x [] v [] Q I1 r1 .nil q1))⟩
theorem pe_bm (pa:PlainAttrs T) (slot:Slot T name id) (hty:typeOf (.builtin id)=pure (.type "method_descriptor")) (hm:MtR X id r) (ho:PE X o to) (ha:PA X (e::es) t)
  (hbase:attributeBase o name X.env (eval o X.env)=eval o X.env)
  (hfew:((backTo cpos (starEach (e::es) X.env)).all (fun x=>!x.1)&&(backToKw cpos (keywordEach [] X.env)).all (fun x=>x.1.isSome)
   && decide ((e::es).length+([]:List Keyword).length+(if ([]:List Keyword).isEmpty then 0 else 1)<30))=true)
  (hline:(apos.endLine==cpos.line)=true) (hs:starEach (e::es) X.env=(false,eval e X.env)::starEach es X.env) (hplain:(backTo cpos (starEach es X.env)).any (·.1)=false) :
  PE X (.Call (.Attribute o name apos) (e::es) [] cpos) (tBM X.K T r to t):=by
 intro pins s σ H Q I h
 refine wpAny_Call_method_late hbase hfew hline rfl (thn (ho pins s σ H _ I h) fun v s1 h_=>?_)
 obtain ⟨x,H1,I1,r1,ty,q1⟩:=h_
 obtain ⟨h1,h2⟩:=zS0 I1 r1 ty
 refine ⟨T,id,pa,slot,hty,h1,h2,?_⟩
 have hA:=ha cpos pins s1 σ H1 _ I1 q1
 rw [hs] at hA ⊢
 refine Calls.callWith_builtin (by show (false || (backTo cpos (starEach es X.env)).any (·.1))=false;rw [hplain] <;> rfl) (Calls.evalArgs_plain ?_)
 exact thn hA fun us s2 ⟨vs,H2,I2,r2,q2⟩=>hm pins s2 σ H2 x vs v us Q I2 r1 r2 q2
end
end L2
namespace L2
open PySem PySem.Spec PyProof.Rows
def MtM (X:Cx) (id:String) (r:V→List V→Hp→VK→Prop):Prop :=
 ∀ (pins:List (Addr×Obj)) (s:Shared) (σ:St) (H:Hp) (x:V) (xs:List V) (v:Value) (us:List Value) (Q:VK),Inv X pins σ H s→RelV x v→Vals xs us→r x xs H Q →
  wpAny (model X.prog X.w) X.A (call (.builtin id) (v::us)) (EP X pins σ Q) X.xe s
theorem Vals.one:∀ {x:V} {us:List Value},Vals [x] us→∃ u,us=[u]∧RelV x u
 | _,_,.cons r .nil=>⟨_,rfl,r⟩
theorem Vals.zero:∀ {us:List Value},Vals [] us→us=[]
 | _,.nil=>rfl
theorem Vals.dropLast {xs:List V} {us:List Value} (h:Vals xs us):Vals xs.dropLast us.dropLast:=by
 induction h with
 | nil=>exact .nil
 | cons r t ih =>
  cases t with
  | nil=>exact .nil
  | cons q t'=>exact .cons r ih
theorem Vals.reverse {xs:List V} {us:List Value} (h:Vals xs us):Vals xs.reverse us.reverse:=by
 induction h with
 | nil=>exact .nil
 | cons r t ih=>rw [List.reverse_cons,List.reverse_cons];exact Vals.append ih (.cons r .nil)
theorem zX7 {α:Type} (l:List α):l.eraseIdx (l.length - 1)=l.dropLast:=by
 induction l with
 | nil=>rfl
 | cons a r ih =>
  cases r with
  | nil=>rfl
  | cons b r =>
   have e:(a::b::r).length - 1=((b::r).length - 1)+1:=by
    have h1:(a::b::r).length=r.length+2:=rfl
    have h2:(b::r).length=r.length+1:=rfl
    lia
   rw [e,List.eraseIdx_cons_succ,ih]
   all_goals rfl
section
variable {X:Cx} {pins:List (Addr×Obj)} {σ:St} {H:Hp} {s:Shared} {l b:Addr} {xs ys zs:List V}
theorem Inv.lset {its its':List Value} {n:Nat} {f:Array Value→Array Value} {t':Nat} (I:Inv X pins σ H s) (hH:H l=some (.lst xs))
  (e:s.heap.get? l=some { cls:=.type "list", data:=.seq its.toArray n }) (hf:f its.toArray=its'.toArray) (hv:Vals ys its') (hz:ys.length≤sizeLine) :
  Inv X pins σ (upd H l (.lst ys)) { s with heap:=s.heap.update l (Obj.mapSeq f),toks:=t' }:=by
 have q:=PySem.IsL.update e f
 rw [hf] at q
 refine I.write (x:=l) (e:=l) (by rw [hH];exact trivial) (.inl rfl) (fun b' u hb hu=>(Heap.get?_update_other s.heap (Obj.mapSeq f) (Ne.symm hb)).trans hu) ⟨_,q⟩ ?_
 exact ⟨hz,its',_,hv,q⟩
theorem Inv.lnew {its:List Value} {t':Nat} (I:Inv X pins σ H s) (hv:Vals ys its) (hz:ys.length≤sizeLine) :
  Inv X pins σ (upd H s.heap.objs.size (.lst ys)) { s with heap:=s.heap.push { cls:=.type "list", data:=.seq its.toArray },toks:=t' } :=
 I.laid (fun _ _ q=>Heap.get?_push_of_some _ q) (Nat.le_refl _) ⟨hz,its,0,hv,Heap.get?_push_size _ rfl⟩
theorem Inv.fresh (I:Inv X pins σ H s):H s.heap.objs.size=none:=I.hok.fresh (Nat.le_refl _)
theorem Inv.lstM (I:Inv X pins σ H s) (hH:H l=some (.lst xs)):xs.length≤sizeLine∧∃ (its:List Value) (n:Nat),Vals xs its∧xs.length=its.length∧s.heap.get? l=some { cls:=.type "list", data:=.seq its.toArray n }:=by
 obtain ⟨z,its,n,r,e⟩:=I.hok l _ hH
 exact ⟨z,its,n,r,r.length,e⟩
end
section
variable {X:Cx}
def rAppend:V→List V→Hp→VK→Prop:=fun x vs H Q=>∃ l xs y,x=.ref l∧vs=[y]∧H l=some (.lst xs)∧xs.length<sizeLine∧Q .non (upd H l (.lst (xs++[y])))
theorem zC1:MtM X "list.append" rAppend:=by
 intro pins s σ H x vs v us Q I rx rv h
 obtain ⟨l,xs,y,rfl,rfl,hH,hz,q⟩:=h
 cases rx
 obtain ⟨u,rfl,ru⟩:=rv.one
 obtain ⟨z,its,n,r,hl,e⟩:=I.lstM hH
 refine call_meets F.slot_list_append ⟨_,e,rfl⟩ F.entry_list_append (F.args_list_append_2 _ _) (PySem.list_append l its.toArray n u (by rw [List.size_toArray];lia)) ⟨e,?_⟩
 refine ⟨.non,_,I.lset (its':=its++[u]) hH e (by simp) (r.append (.cons ru .nil)) ?_,rfl,q⟩
 rw [List.length_append,List.length_singleton]
 lia
def rPop:V→List V→Hp→VK→Prop:=fun x vs H Q=>∃ l xs y,x=.ref l∧vs=[]∧H l=some (.lst xs)∧xs[xs.length - 1]?=some y∧Q y (upd H l (.lst xs.dropLast))
theorem mt_pop:MtM X "list.pop" rPop:=by
 intro pins s σ H x vs v us Q I rx rv h
 obtain ⟨l,xs,y,rfl,rfl,hH,hy,q⟩:=h
 cases rx
 have hus:=rv.zero
 subst hus
 obtain ⟨z,its,n,r,hl,e⟩:=I.lstM hH
 obtain ⟨u,hu,ru⟩:=r.get hy
 have hy':its.toArray[its.toArray.size - 1]?=some u:=by
  show its.toArray[its.length - 1]?=some u
  rw [← Array.getElem?_toList,← hl]
  exact hu
 refine call_meets F.slot_list_pop ⟨_,e,rfl⟩ F.entry_list_pop (F.args_list_pop_1 _) (MeetsSeq.list_pop_last l its.toArray n u hy' (by rw [List.size_toArray];lia)) ⟨e,?_⟩
 refine ⟨y,_,I.lset (its':=its.dropLast) hH e ?_ r.dropLast ?_,ru,q⟩
 ·show its.toArray.eraseIdxIfInBounds (its.toArray.size - 1)=its.dropLast.toArray
  rw [List.size_toArray,List.eraseIdxIfInBounds_toArray,zX7]
 ·rw [List.length_dropLast]
  lia
def rReverse:V→List V→Hp→VK→Prop:=fun x vs H Q=>∃ l xs,x=.ref l∧vs=[]∧H l=some (.lst xs)∧Q .non (upd H l (.lst xs.reverse))
theorem zW4:MtM X "list.reverse" rReverse:=by
 intro pins s σ H x vs v us Q I rx rv h
 obtain ⟨l,xs,rfl,rfl,hH,q⟩:=h
 cases rx
 have hus:=rv.zero
 subst hus
 obtain ⟨z,its,n,r,hl,e⟩:=I.lstM hH
 refine call_meets F.slot_list_reverse ⟨_,e,rfl⟩ F.entry_list_reverse (F.args_list_reverse_1 _) (AutoSeq1.list_reverse_list_0 l its.toArray n (by rw [List.size_toArray];lia)) ⟨e,?_⟩
 refine ⟨.non,_,I.lset (its':=its.reverse) hH e (by simp) r.reverse ?_,rfl,q⟩
 rw [List.length_reverse]
 lia
end
section
variable {prog:Program} {w:World} {A:Around} {E:Value→Shared→Prop} {s:Shared}
set_option maxRecDepth 100000 in
end
section
variable {X:Cx}
end
end L2
namespace Att
open PySem PySem.W PySem.Calls PyProof.Rows
theorem ints_of_wellAll {P:Params} {h:Heap}:∀ (ns:List Int) (vs:List Value),WellAll P h vs (ns.map WData.int)→IntsAre vs ns:=by
 intro ns
 induction ns with
 | nil =>
  intro vs w
  rw [List.map_nil] at w
  cases w
  exact .nil
 | cons n ns ih =>
  intro vs w
  rw [List.map_cons] at w
  cases w with
  | cons a b =>
   cases a
   exact .cons _ _ (ih _ b)
theorem script_of {l:OpenLaw} {n:Nat} (hn:l.most=some n) {P:Params} {h:Heap} {args:List WData} {vals:List Value}
  (hpre:l.row.toRowW.claim.pre args=true) (hwl:WellAll P h vals args) :
  ∃ a vs ns,vals=[Value.ref a]∧args=[WData.list (ns.map WData.int)]∧h.get? a=some { cls:=.type "list", data:=.seq vs.toArray }∧IntsAre vs ns∧ns.length≤n:=by
 have hsh:WShape.hasAll [] args [.list .int]=true:=(pre_splitW hpre).1
 have hc:l.pre.holds [] { args:=args }=true:=(pre_splitW hpre).2
 obtain ⟨d,r,rfl,h1,h2⟩:=hasAllW_cons hsh
 obtain rfl:=hasAllW_nil h2
 obtain ⟨xs,rfl,h3⟩:=hasW_list h1
 obtain ⟨ns,rfl⟩:=items_int h3
 have hlen:ns.length≤n:=by
  unfold OpenLaw.pre at hc
  have h4:(WTm.not (.lt (.lit (.int (n:Int))) (.len (.arg 0)))).holds [] { args:=[.list (ns.map .int)] }=true:=by
   have h4:=(holds_andW hc).1
   rw [hn] at h4
   exact h4
  have h5:=condW_of h4 (w_not (w_lt w_lit (w_len_list (w_arg rfl))))
  rw [List.length_map] at h5
  refine Nat.le_of_not_lt fun q=>?_
  have q':(n:Int)<((ns.length:Nat):Int):=by lia
  first
   | (rw [decide_eq_true q'] at h5;exact absurd h5 (by decide))
   | (simp at h5;lia)
 cases hwl with
 | cons w1 w2 =>
  cases w2
  cases w1 with
  | list ho hall=>exact ⟨_,_,ns,rfl,rfl,ho,ints_of_wellAll ns _ hall,hlen⟩
theorem post_true (l:OpenLaw) (args:List WData):l.row.toRowW.claim.post args (.bool true) args=true :=
 postW_of (r:=l.row.toRowW) (X:=(true==true))
  (show WShape.has [] (.bool true) .bool=true by first | rfl | decide | simp [WShape.has,WShape.arms,WShape.armsAll])
  (show (WTm.eq .res (.lit (.bool true))).value [] { args:=args,res:=some (.bool true),after:=args }=some (.bool (true==true)) from w_eq_bool (w_res rfl) w_lit) rfl
theorem attach_call {l:OpenLaw} {n:Nat} {q:Program} {loose:List Str} {XP:(Str→Option Value)→Heap→Prop} {YP:World→Heap→Prop} {d:DefRec}
  (hn:l.most=some n) (hdf:d.params.defaults=[])
  (call:∀ (w:World) (s₀ s₁:Shared) (mg mb:Str→Option Value) (fa:Addr) (o:Obj) (pm cd doc:Value) (a:Addr) (vs:List Value) (ns:List Int),
   Ground q loose [] XP w s₀ mg mb s₁.heap→YP w s₁.heap →
   s₁.heap.get? fa=some o→o.data=.func (docDef d.name d.params d.body d.scope pm cd doc)→s₁.heap.CodeRec cd d.name→mg d.name=some (.ref fa) →
   s₁.heap.get? a=some { cls:=.type "list", data:=.seq vs.toArray }→IntsAre vs ns→ns.length≤n→s₁.gens=#[] →
   codeAny (model l.prog w) callerA (.call (.ref fa) ⟨[.ref a],[]⟩) (fun r s'=>r=.ok (.ret (.bool true))∧OldK s₁.heap s'.heap∧s'.os=s₁.os∧AllBare s'.gens) s₁) :
  WalkO q loose XP YP l.row.toRowW d [] (fun f vs=>PySem.call f vs):=by
 intro w s₀ s₁ mg mb G Y fa o pm cd doc dV kV ho hd hcd hD hmg hg args vals as hpre hlay hrd hwl hlo
 obtain rfl:dV=.none:=Dflts.none hD hdf
 obtain rfl:kV=.none:=Dflts.noKw hD
 obtain ⟨a,vs,ns,rfl,rfl,hobj,hints,hlen⟩:=script_of hn hpre hwl
 refine enter_call (codeAny_mono (call w s₀ s₁ mg mb fa o pm cd doc a vs ns G Y ho (fd_plain hd) hcd hmg hobj hints hlen hg) fun r s' hq=>?_)
 obtain ⟨rfl,h2,h3,h4⟩:=hq
 exact ⟨.inl ⟨.bool true,.bool true,[],rfl,fun _=>rfl,.bool true,post_true l _,fun _=>⟨List.Pairwise.nil,fun _ hm=>(nomatch hm)⟩⟩,h2,h3,h4⟩
section
variable {prog:Program} {w:World} {A:Around} {E:Value→Shared→Prop} {s:Shared} {K:Frag}
end
end Att
namespace L2
open PySem PySem.Spec PyProof.Rows
theorem zK5:∀ {vs:List Value} {ns:List Int},IntsAre vs ns→Vals (ns.map V.int) vs
 | _,_,.nil=>.nil
 | _,_,.cons n t h=>.cons ⟨t,rfl⟩ (zK5 h)
def Only (H:Hp):Prop:=∀ b,H b=none∨∃ o xs,H b=some (.frz o (.lst xs))
theorem law_call {P:Program} {w:World} {K:PySem.W.Frag} {mg mb:Str→Option Value} {CX:CXT} {k:Nat} {fa a:Addr} {fd:FuncData} {x:Str} {sp:Sp} {s₁:Shared} {vs:List Value} {ns:List Int}
  (KX:K.In s₁.heap) (hns:s₁.heap.Ns mainGlobals mg) (hb:s₁.heap.Ns builtinsNs mb) (hbb:∀ x:Str,x ≠ "__name__" → mb x=bootBuiltins x) (hlim:s₁.heap.NoLimit) (hg:s₁.gens=#[])
  (ha:s₁.heap.get? a=some { cls:=.type "list", data:=.seq vs.toArray }) (hi:IntsAre vs ns) (hl:ns.length≤sizeLine) (hr:Room k callerA)
  (F:∀ base:Heap,K.In base→base.Ns mainGlobals mg→FnOk P w K mg base CX k fa fd [x] sp) (hbind:∀ (s:Shared) (u:Value),BindsTo s fd ⟨[u],[]⟩ [(x,u)])
  (hsp:∀ H:Hp,Only H→SqL K H a (ns.map V.int)→sp [.ref a] H (fun v _=>v=.bl true) fun _ _ _=>False)
  (hCX:∀ H e s',CX [] H s₁ (fun _ _ _=>False) e s'→False) :
  codeAny (model P w) callerA (.call (.ref fa) ⟨[.ref a],[]⟩) (fun r s'=>r=.ok (.ret (.bool true))∧OldK s₁.heap s'.heap∧s'.os=s₁.os∧AllBare s'.gens) s₁:=by
 have rv:=zK5 hi
 have lenV:=hi.length
 -- from an abstract heap in which nothing but the script may be tracked
 have core:∀ H:Hp,Only H→SqL K H a (ns.map V.int)→HOk P w H s₁.heap→(∀ b,H b≠none→b=a)→(H a≠none→K.lookup a=none) →
   codeAny (model P w) callerA (.call (.ref fa) ⟨[.ref a],[]⟩) (fun r s'=>r=.ok (.ret (.bool true))∧OldK s₁.heap s'.heap∧s'.os=s₁.os∧AllBare s'.gens) s₁:=by
  intro H hO hS hok hA hK
  have base_of:∀ {b:Addr} {o:Obj},s₁.heap.get? b=some o→H b=none→(hidT s₁.heap H).get? b=some o:=fun e n=>hidT_get e n
  have noA:∀ {b:Addr} {o:Obj} {es:Array DictEntry} {ep:Nat},s₁.heap.get? b=some o→o.data=.dict es ep→H b=none:=fun {b o es ep} e d=>by
   cases q:H b with
   | none=>rfl
   | some u =>
    have e':b=a:=hA b (by rw [q];simp)
    subst e'
    rw [ha] at e;cases e
    have d':Data.seq vs.toArray _=Data.dict es ep:=d
    cases d'
  have nsK:∀ {b:Addr} {m:Str→Option Value},s₁.heap.Ns b m→(hidT s₁.heap H).Ns b m:=fun {b m} ⟨o,es,ep,e,d,r⟩=>⟨o,es,ep,base_of e (noA e d),d,r⟩
  have hKb:K.In (hidT s₁.heap H):=fun b o e=>base_of (KX b o e) (by
   cases q:H b with
   | none=>rfl
   | some u =>
    have e':b=a:=hA b (by rw [q];simp)
    subst e'
    rw [hK (by rw [q];simp)] at e;cases e)
  have hM:Mod K mg (hidT s₁.heap H):=⟨hKb,nsK hns,⟨mb,nsK hb,hbb⟩,let ⟨mc,h1,h2⟩:=hlim;⟨mc,nsK h1,h2⟩⟩
  have e0:Env0 P w K mg (hidT s₁.heap H) callerA [] s₁ H:=⟨rfl,hM,fun b o e=>of_hidT e,Nat.le_of_eq (hidT_size _ _),trivial,fun b hb=>absurd (show b∈([]:List Addr) from hb) (by simp),hok,.of_eq hg⟩
  refine codeAny_mono ((F _ hKb (nsK hns)).run callerA [] s₁ H ⟨[.ref a],[]⟩ [.ref a] [.ref a] _ _ hr e0 (hbind s₁ (.ref a)) (.cons rfl .nil) (hsp H hO hS)) fun r s' h=>?_
  cases r with
  | error e=>exact (hCX H e s' h).elim
  | ok fl =>
   cases fl with
   | next=>exact False.elim h
   | brk=>exact False.elim h
   | cont=>exact False.elim h
   | ret u =>
    obtain ⟨v,H',os,bare,un,hok',r',q⟩:=h
    have q':v=.bl true:=q
    subst q'
    obtain rfl:u=Value.bool true:=r'
    refine ⟨rfl,OldK.of_keep fun b o e=>?_,os,bare⟩
    cases q:H b with
    | none=>exact un.keep b o e q (by intro z;exact absurd (show b∈([]:List Addr) from z) (by simp)) (by simp)
    | some u =>
     rcases hO b with z | ⟨ob,xs,z⟩
     ·rw [q] at z;cases z
     ·have z2:=un.frzs b ob _ z
      obtain ⟨e1,_⟩:=hok b _ z
      obtain ⟨e2,_⟩:=hok' b _ z2
      rw [e] at e1;cases e1
      exact e2
 cases hk:K.lookup a with
 | some o =>
  -- the script is one of the module's own objects
  have e:=KX a o hk
  rw [ha] at e
  cases e
  refine core (fun _=>none) (fun _=>.inl rfl) (.inr ⟨_,vs.toArray,_,hk,rfl,rfl,rfl,by rw [List.size_toArray,lenV];exact hl,by simpa using rv⟩) (fun b u z=>by have z':(none:Option HO)=some u:=z;cases z') (fun b z=>absurd rfl z) fun z=>absurd rfl z
 | none =>
  refine core (fun b=>if b=a then some (.frz { cls:=.type "list", data:=.seq vs.toArray } (.lst (ns.map V.int))) else none) (fun b=>?_) (.inl (.inr ⟨{ cls:=.type "list", data:=.seq vs.toArray },if_pos rfl⟩)) (fun b u z=>?_) (fun b z=>?_) fun _=>hk
  ·by_cases hb:b=a
   ·exact .inr ⟨_,_,if_pos hb⟩
   ·exact .inl (if_neg hb)
  ·by_cases hb:b=a
   ·have z':=(if_pos hb).symm.trans z
    cases z'
    subst hb
    exact ⟨ha,by rw [List.length_map];exact hl,vs,_,rv,ha⟩
   ·have z':=(if_neg hb).symm.trans z
    cases z'
  ·by_cases hb:b=a
   ·exact hb
   ·exact absurd (if_neg hb) z
end L2
namespace L2
open PySem PySem.Spec PyProof.Rows
theorem walk_of {l:PySem.W.OpenLaw} {n k:Nat} {q:Program} {loose:List Str} {XP:(Str→Option Value)→Heap→Prop} {YP:World→Heap→Prop} {d:DefRec} {K:Params→PySem.W.Frag} {CX:World→CXT} {sp:World→Sp} {x:Str}
  (hn:l.most=some n) (hn2:n≤sizeLine) (hdf:d.params.defaults=[]) (hr:Room k callerA)
  (hY:∀ (w:World) (h:Heap),YP w h→(K w.params).In h)
  (F:∀ (w:World) (mg:Str→Option Value) (fa:Addr) (h:Heap),(K w.params).In h→h.Ns mainGlobals mg→mg d.name=some (.ref fa) →
   ∃ fd:FuncData,(∀ (s:Shared) (u:Value),BindsTo s fd ⟨[u],[]⟩ [(x,u)]) ∧
    ∀ base:Heap,(K w.params).In base→base.Ns mainGlobals mg→FnOk l.prog w (K w.params) mg base (CX w) k fa fd [x] (sp w))
  (hsp:∀ (w:World) (H:Hp) (a:Addr) (ns:List Int),ns.length≤n→Only H→SqL (K w.params) H a (ns.map V.int)→sp w [.ref a] H (fun v _=>v=.bl true) fun _ _ _=>False)
  (hCX:∀ (w:World) (H:Hp) (s:Shared) (e:Value) (s':Shared),CX w [] H s (fun _ _ _=>False) e s'→False) :
  PySem.W.WalkO q loose XP YP l.row.toRowW d [] (fun f vs=>PySem.call f vs):=by
 refine Att.attach_call hn hdf fun w s₀ s₁ mg mb fa o pm cd doc a vs ns G Y ho hd hcd hmg hobj hints hlen hg=>?_
 have KX:=hY w _ Y
 obtain ⟨fd,hb,hF⟩:=F w mg fa _ KX G.T.g hmg
 exact law_call KX G.T.g G.T.b G.T.builtins G.T.nolimit hg hobj hints (Nat.le_trans hlen hn2) hr hF hb (fun H hO hS=>hsp w H a ns hlen hO hS) fun H e s'=>hCX w H s₁ e s'
end L2
namespace L2
open PySem PySem.Spec PyProof.Rows
noncomputable def defArgs (s:Stmt):Arguments:=match s with
 | .FunctionDef _ a _ _ _ _ _ _ _ _=>a
 | _=>{ posonlyargs:=[],args:=[],vararg:=none,kwonlyargs:=[],kw_defaults:=[],kwarg:=none,defaults:=[] }
noncomputable def defBody (s:Stmt):List Stmt:=match s with
 | .FunctionDef _ _ b _ _ _ _ _ _ _=>b
 | _=>[]
noncomputable def defScope (s:Stmt):Scope:=match s with
 | .FunctionDef _ _ _ _ _ _ sc _ _ _=>sc
 | _=>{ kind:=.function,names:=[],isGenerator:=false,isCoroutine:=false }
noncomputable abbrev CX0:CXT:=fun _ _ _ _ _ _=>False
noncomputable abbrev E0:XK:=fun _ _ _=>False
theorem pass0 {X:Cx}:Passes CX0 X E0:=fun _ _ _ _ _ _ _ h=>h.elim
structure Fun (K:PySem.W.Frag) (x qual:Str) (st:Stmt) (f:Addr) (fd:FuncData):Prop where
 ex:∃ (oc:Value) (od:Option Addr) (kV doc pm:Value) (an:Option Addr) (cdv ct:Value) (osl:Array (Option Value)),
  fd=PySem.W.fnOf x qual (defArgs st) (defBody st) (defScope st) .none kV doc pm an cdv ct∧K.lookup f=some ⟨oc,od,.func fd,osl⟩∧PySem.W.codeIn K cdv qual=true
 kp:PySem.W.keepIn K (.ref f)=true
section
variable {P:Program} {w:World} {K:PySem.W.Frag} {mg:Str→Option Value} {base:Heap}
theorem Fun.ok {x qual:Str} {st:Stmt} {f:Addr} {fd:FuncData} {N ps:List Str} {k:Nat} {sp:Sp} (F:Fun K x qual st f fd) (S:FnScope N ps (defScope st)) (len:∀ vs H Q E,sp vs H Q E→vs.length=ps.length)
  (hbody:∀ (cdv:Value) (A:Around) (outer:List Env) (s:Shared) (H:Hp) (vs:List V) (Q:VK) (E:XK),Room k (A.deeper (envOfC qual (defScope st) s.heap.objs.size f cdv))→sp vs H Q E →
   ∃ t,PSs (cxOf CX0 P w K mg base N qual (defScope st) f cdv A outer s H E).nox (defBody st) t∧t { nx:=fun _ H'=>Q .non H',rt:=Q } (start N vs) H):FnOk P w K mg base CX0 (k+1) f fd ps sp:=by
 obtain ⟨oc,od,kV,doc,pm,an,cdv,ct,osl,rfl,lk,hcd⟩:=F.ex
 refine fn_of lk hcd S len fun A outer s H vs Q E hr hsp=>?_
 obtain ⟨t,h,q⟩:=hbody cdv A outer s H vs Q E hr hsp
 exact ⟨t,h.nox,q⟩
theorem Fun.binds {x qual:Str} {st:Stmt} {f:Addr} {fd:FuncData} {ps:List Str} (F:Fun K x qual st f fd)
  (h:∀ (kV doc pm:Value) (an:Option Addr) (cdv ct:Value) (us:List Value),us.length=ps.length→bindArgs (PySem.W.fnOf x qual (defArgs st) (defBody st) (defScope st) .none kV doc pm an cdv ct) ⟨us,[]⟩=pure (ps.zip us)):Binds K fd ps []:=by
 obtain ⟨oc,od,kV,doc,pm,an,cdv,ct,osl,rfl,lk,hcd⟩:=F.ex
 exact .all (h kV doc pm an cdv ct)
theorem zj0 {x qual:Str} {st:Stmt} {f:Addr} {oc:Value} {od an:Option Addr} {osl:Array (Option Value)} {kV doc pm cdv ct:Value} (l:K.lookup f=some ⟨oc,od,.func (PySem.W.fnOf x qual (defArgs st) (defBody st) (defScope st) .none kV doc pm an cdv ct),osl⟩)
  (c:PySem.W.codeIn K cdv qual=true) (k:PySem.W.keepIn K (.ref f)=true):Fun K x qual st f (PySem.W.fnOf x qual (defArgs st) (defBody st) (defScope st) .none kV doc pm an cdv ct):=⟨⟨oc,od,kV,doc,pm,an,cdv,ct,osl,rfl,l,c⟩,k⟩
end
section
variable {X:Cx}
end
theorem iteF {A B:Prop} (h:B):if false=true then A else B:=by
 rw [if_neg Bool.false_ne_true]
 exact h
theorem iteT {A B:Prop} (h:A):if true=true then A else B:=by
 rw [if_pos rfl]
 exact h
def Same (H H':Hp):Prop:=∀ b o,H b=some o→H' b=some o
theorem Same.refl (H:Hp):Same H H:=fun _ _ h=>h
theorem Same.seq {K:PySem.W.Frag} {H H':Hp} {a:Addr} {xs:List V} (e:Same H H') (h:SqL K H a xs):SqL K H' a xs:=by
 rcases h with (h | ⟨o,h⟩) | h
 ·exact .inl (.inl (e _ _ h))
 ·exact .inl (.inr ⟨o,e _ _ h⟩)
 ·exact .inr h
end L2
namespace OR
open PySem L2
mutual
/-- a pure value stands at v;lv: the mutable objects' addresses -/
noncomputable def RP (K:PySem.W.Frag) (H:Hp) (lv:Addr→Prop):PV→V→Prop
 | .non,v=>v=.non
 | .bl b,v=>v=.bl b
 | .int i,v=>v=.int i
 | .str cs,v=>v=.str ⟨cs.toArray⟩∧cs.length≤sizeLine
 | .tup xs,v=>∃ a vs,v=.ref a∧SqT K H a vs∧RPs K H lv xs vs
 | .lst xs,v=>∃ a vs,v=.ref a∧SqL K H a vs∧¬ lv a∧RPs K H lv xs vs
noncomputable def RPs (K:PySem.W.Frag) (H:Hp) (lv:Addr→Prop):List PV→List V→Prop
 | [],vs=>vs=[]
 | x::r,vs=>∃ v vr,vs=v::vr∧RP K H lv x v∧RPs K H lv r vr
end
structure Al where
 adr:List Addr
 rsv:Addr→Prop
def Live (α:Al) (st:Store) (a:Addr):Prop:=α.rsv a∨∃ n o,α.adr[n]?=some a∧objAt st n=some o∧o≠.dead
noncomputable def keyOf:PV→Option Key
 | .int i=>some (.inl i)
 | .str cs=>some (.inr ⟨cs.toArray⟩)
 | _=>none
def RKV (K:PySem.W.Frag) (H:Hp) (lv:Addr→Prop):List (PV×PV)→List (Key×V)→Prop
 | [],l=>l=[]
 | (k,x)::r,l=>∃ k' v l',l=(k',v)::l'∧keyOf k=some k'∧RP K H lv x v∧RKV K H lv r l'
structure RSt (K:PySem.W.Frag) (α:Al) (st:Store) (H:Hp):Prop where
 len:α.adr.length=st.length
 lst:∀ n xs,objAt st n=some (.lst xs)→∃ a vs,α.adr[n]?=some a∧H a=some (.lst vs)∧RPs K H (Live α st) xs vs
 dct:∀ n kvs,objAt st n=some (.dct kvs)→∃ a l,α.adr[n]?=some a∧H a=some (.dK l)∧RKV K H (Live α st) kvs l
 inj:∀ (n m:Nat) a o o',n≠m→α.adr[n]?=some a→α.adr[m]?=some a→objAt st n=some o→objAt st m=some o'→o=.dead∨o'=.dead
 nk:∀ a,Live α st a→K.lookup a=none
 dis:∀ (n:Nat) a o,α.adr[n]?=some a→objAt st n=some o→o≠.dead→¬ α.rsv a
 rsv:∀ a,α.rsv a→∃ vs,H a=some (.lst vs)
def RV (K:PySem.W.Frag) (α:Al) (st:Store) (H:Hp):Val→V→Prop
 | .p x,v=>RP K H (Live α st) x v
 | .ref n,v=>∃ a,v=.ref a∧α.adr[n]?=some a
structure Ext (K:PySem.W.Frag) (α:Al) (st:Store) (H:Hp) (α':Al) (st':Store) (H':Hp):Prop where
 pre:∀ (n:Nat) a,α.adr[n]?=some a→α'.adr[n]?=some a
 tup:∀ a vs,SqT K H a vs→SqT K H' a vs
 lst:∀ a vs,SqL K H a vs→¬ Live α st a→SqL K H' a vs∧¬ Live α' st' a
 rsv:α'.rsv=α.rsv
 raw:∀ a,α.rsv a→H' a=H a
section
variable {K:PySem.W.Frag} {α α' α2:Al} {st st' st2:Store} {H H' H2:Hp} {lv lv':Addr→Prop}
theorem Ext.refl:Ext K α st H α st H:=⟨fun _ _ h=>h,fun _ _ h=>h,fun _ _ h n=>⟨h,n⟩,rfl,fun _ _=>rfl⟩
theorem Ext.trans (a:Ext K α st H α' st' H') (b:Ext K α' st' H' α2 st2 H2):Ext K α st H α2 st2 H2 :=
 ⟨fun n x h=>b.pre n x (a.pre n x h),fun x vs h=>b.tup x vs (a.tup x vs h),fun x vs h n=>let ⟨h1,n1⟩:=a.lst x vs h n;b.lst x vs h1 n1,b.rsv.trans a.rsv,fun x h=>(b.raw x (by rw [a.rsv];exact h)).trans (a.raw x h)⟩
mutual
theorem RP.mono (ht:∀ a vs,SqT K H a vs→SqT K H' a vs) (hl:∀ a vs,SqL K H a vs→¬ lv a→SqL K H' a vs∧¬ lv' a):∀ (x:PV) (v:V),RP K H lv x v→RP K H' lv' x v
 | .non,v,h=>by rw [RP] at h ⊢;exact h
 | .bl b,v,h=>by rw [RP] at h ⊢;exact h
 | .int i,v,h=>by rw [RP] at h ⊢;exact h
 | .str cs,v,h=>by rw [RP] at h ⊢;exact h
 | .tup xs,v,h=>by
  rw [RP] at h ⊢
  obtain ⟨a,vs,e,q,r⟩:=h
  exact ⟨a,vs,e,ht a vs q,RPs.mono ht hl xs vs r⟩
 | .lst xs,v,h=>by
  rw [RP] at h ⊢
  obtain ⟨a,vs,e,q,n,r⟩:=h
  obtain ⟨q',n'⟩:=hl a vs q n
  exact ⟨a,vs,e,q',n',RPs.mono ht hl xs vs r⟩
theorem RPs.mono (ht:∀ a vs,SqT K H a vs→SqT K H' a vs) (hl:∀ a vs,SqL K H a vs→¬ lv a→SqL K H' a vs∧¬ lv' a):∀ (xs:List PV) (vs:List V),RPs K H lv xs vs→RPs K H' lv' xs vs
 | [],vs,h=>by rw [RPs] at h ⊢;exact h
 | x::r,vs,h=>by
  rw [RPs] at h ⊢
  obtain ⟨v,vr,e,q,t⟩:=h
  exact ⟨v,vr,e,RP.mono ht hl x v q,RPs.mono ht hl r vr t⟩
end
theorem RKV.mono (ht:∀ a vs,SqT K H a vs→SqT K H' a vs) (hl:∀ a vs,SqL K H a vs→¬ lv a→SqL K H' a vs∧¬ lv' a):∀ (kvs:List (PV×PV)) (l:List (Key×V)),RKV K H lv kvs l→RKV K H' lv' kvs l
 | [],l,h=>by rw [RKV] at h ⊢;exact h
 | (k,x)::r,l,h=>by
  rw [RKV] at h ⊢
  obtain ⟨k',v,l',e,ek,q,t⟩:=h
  exact ⟨k',v,l',e,ek,RP.mono ht hl x v q,RKV.mono ht hl r l' t⟩
theorem Ext.rp (e:Ext K α st H α' st' H') {x:PV} {v:V} (h:RP K H (Live α st) x v):RP K H' (Live α' st') x v:=RP.mono e.tup e.lst x v h
theorem Ext.rps (e:Ext K α st H α' st' H') {x:List PV} {v:List V} (h:RPs K H (Live α st) x v):RPs K H' (Live α' st') x v:=RPs.mono e.tup e.lst x v h
theorem Ext.rv (e:Ext K α st H α' st' H') {x:Val} {v:V} (h:RV K α st H x v):RV K α' st' H' x v:=by
 cases x with
 | p x=>exact e.rp h
 | ref n=>obtain ⟨a,h1,h2⟩:=h;exact ⟨a,h1,e.pre n a h2⟩
theorem SqT.same {a:Addr} {vs:List V} (s:Same H H') (h:SqT K H a vs):SqT K H' a vs:=by
 rcases h with (h | ⟨o,h⟩) | h
 ·exact .inl (.inl (s _ _ h))
 ·exact .inl (.inr ⟨o,s _ _ h⟩)
 ·exact .inr h
theorem Ext.of_same (r:RSt K α st H) (s:Same H H'):Ext K α st H α st H':=⟨fun _ _ h=>h,fun _ _ h=>SqT.same s h,fun _ _ h n=>⟨Same.seq s h,n⟩,rfl,fun a ha=>by
 obtain ⟨vs,e⟩:=r.rsv a ha
 rw [e,s _ _ e]⟩
theorem RSt.same (s:Same H H') (r:RSt K α st H):RSt K α st H':=by
 refine ⟨r.len,fun n xs h=>?_,fun n kvs h=>?_,r.inj,r.nk,r.dis,fun a ha=>let ⟨vs,e⟩:=r.rsv a ha;⟨vs,s _ _ e⟩⟩
 ·obtain ⟨a,vs,h1,h2,h3⟩:=r.lst n xs h
  exact ⟨a,vs,h1,s _ _ h2,(Ext.of_same r s).rps h3⟩
 ·obtain ⟨a,vs,h1,h2,h3⟩:=r.dct n kvs h
  exact ⟨a,vs,h1,s _ _ h2,RKV.mono (fun _ _ h=>SqT.same s h) (fun _ _ h n=>⟨Same.seq s h,n⟩) _ _ h3⟩
theorem zh7 {p:Addr} (h:H p=none) (o:HO):Same H (upd H p o):=fun b u q=>by rw [ze6 (zl7 q h)];exact q
theorem RSt.live (r:RSt K α st H) {a:Addr} (h:Live α st a):(∃ vs,H a=some (.lst vs))∨∃ l,H a=some (.dK l):=by
 rcases h with h | ⟨n,o,h1,h2,h3⟩
 ·exact .inl (r.rsv a h)
 cases o with
 | lst xs=>obtain ⟨a',vs,e1,e2,_⟩:=r.lst n xs h2;rw [h1] at e1;cases e1;exact .inl ⟨vs,e2⟩
 | dct kvs=>obtain ⟨a',vs,e1,e2,_⟩:=r.dct n kvs h2;rw [h1] at e1;cases e1;exact .inr ⟨vs,e2⟩
 | dead=>exact absurd rfl h3
theorem RSt.notlive (r:RSt K α st H) {a:Addr} (h:H a=none):¬ Live α st a:=fun l=>by
 rcases r.live l with ⟨_,e⟩ | ⟨_,e⟩ <;> rw [h] at e <;> cases e
theorem RPs.length:∀ {xs:List PV} {vs:List V},RPs K H lv xs vs→xs.length=vs.length
 | [],vs,h=>by rw [RPs] at h;subst h;rfl
 | x::r,vs,h=>by
  rw [RPs] at h
  obtain ⟨v,vr,e,_,t⟩:=h
  subst e
  simp [RPs.length t]
theorem RPs.get:∀ {xs:List PV} {vs:List V} {i:Nat} {x:PV},RPs K H lv xs vs→xs[i]?=some x→∃ v,vs[i]?=some v∧RP K H lv x v
 | [],_,_,_,_,e=>by simp at e
 | y::r,vs,0,x,h,e=>by
  rw [RPs] at h
  obtain ⟨v,vr,e',q,t⟩:=h
  subst e'
  simp at e;subst e
  exact ⟨v,rfl,q⟩
 | y::r,vs,i+1,x,h,e=>by
  rw [RPs] at h
  obtain ⟨v,vr,e',q,t⟩:=h
  subst e'
  obtain ⟨w,h1,h2⟩:=RPs.get (i:=i) (x:=x) t (by simpa using e)
  exact ⟨w,by simpa using h1,h2⟩
theorem RPs.append:∀ {xs ys:List PV} {vs ws:List V},RPs K H lv xs vs→RPs K H lv ys ws→RPs K H lv (xs++ys) (vs++ws)
 | [],_,vs,_,h,t=>by rw [RPs] at h;subst h;exact t
 | x::r,ys,vs,ws,h,t=>by
  rw [RPs] at h
  obtain ⟨v,vr,e,q,t'⟩:=h
  subst e
  rw [List.cons_append,List.cons_append,RPs]
  exact ⟨v,_,rfl,q,RPs.append t' t⟩
theorem RPs.snoc {xs:List PV} {vs:List V} {x:PV} {v:V} (h:RPs K H lv xs vs) (q:RP K H lv x v):RPs K H lv (xs++[x]) (vs++[v]) :=
 h.append (by rw [RPs];exact ⟨v,[],rfl,q,by rw [RPs]⟩)
theorem RPs.take:∀ (n:Nat) {xs:List PV} {vs:List V},RPs K H lv xs vs→RPs K H lv (xs.take n) (vs.take n)
 | 0,_,_,_=>by rw [List.take_zero,List.take_zero,RPs]
 | n+1,[],vs,h=>by rw [RPs] at h;subst h;rw [List.take_nil,List.take_nil,RPs]
 | n+1,x::r,vs,h=>by
  rw [RPs] at h
  obtain ⟨v,vr,e,q,t⟩:=h
  subst e
  rw [List.take_succ_cons,List.take_succ_cons,RPs]
  exact ⟨v,_,rfl,q,RPs.take n t⟩
theorem RPs.drop:∀ (n:Nat) {xs:List PV} {vs:List V},RPs K H lv xs vs→RPs K H lv (xs.drop n) (vs.drop n)
 | 0,_,_,h=>h
 | n+1,[],vs,h=>by rw [RPs] at h;subst h;rw [List.drop_nil,List.drop_nil,RPs]
 | n+1,x::r,vs,h=>by
  rw [RPs] at h
  obtain ⟨v,vr,e,q,t⟩:=h
  subst e
  exact RPs.drop n t
def RW (K:PySem.W.Frag) (α:Al) (st:Store) (H:Hp) (x:PV) (v:V):Prop :=
 RP K H (Live α st) x v∨∃ xs a vs,x=.lst xs∧v=.ref a∧SqL K H a vs∧RPs K H (Live α st) xs vs
theorem RV.view {x:Val} {v:V} {y:PV} (r:RSt K α st H) (h:RV K α st H x v) (e:view st x=some y):RW K α st H y v:=by
 cases x with
 | p z=>cases e;exact .inl h
 | ref n =>
  obtain ⟨a,rfl,ha⟩:=h
  have e:(match objAt st n with | some (.lst xs)=>some (PV.lst xs) | _=>none)=some y:=e
  cases q:objAt st n with
  | none=>rw [q] at e;cases e
  | some o =>
   cases o with
   | lst xs =>
    rw [q] at e
    cases e
    obtain ⟨a',vs,h1,h2,h3⟩:=r.lst n xs q
    rw [ha] at h1;cases h1
    exact .inr ⟨xs,a,vs,rfl,rfl,SqL.of h2,h3⟩
   | dct _=>rw [q] at e;cases e
   | dead=>rw [q] at e;cases e
end
structure Lk (K:PySem.W.Frag) (α:Al) (st:Store) (H:Hp) (α':Al) (st':Store) (H':Hp):Prop where
 pre:∀ (n:Nat) a,α.adr[n]?=some a→α'.adr[n]?=some a
 tup:∀ a vs,SqT K H a vs→SqT K H' a vs
 lst:∀ a vs,SqL K H a vs→¬ Live α st a→SqL K H' a vs∧¬ Live α' st' a
 sub:∀ a,α.rsv a→α'.rsv a
 raw:∀ a,α.rsv a→H' a=H a
theorem Lk.step {K:PySem.W.Frag} {α α' α2:Al} {st st' st2:Store} {H H' H2:Hp} (l:Lk K α st H α' st' H') (e:Ext K α' st' H' α2 st2 H2):Lk K α st H α2 st2 H2 :=
 ⟨fun n a h=>e.pre n a (l.pre n a h),fun a vs h=>e.tup a vs (l.tup a vs h),fun a vs h n=>let ⟨h1,n1⟩:=l.lst a vs h n;e.lst a vs h1 n1,fun a h=>by rw [e.rsv];exact l.sub a h,fun a h=>(e.raw a (l.sub a h)).trans (l.raw a h)⟩
theorem Ext.lk {K:PySem.W.Frag} {α α':Al} {st st':Store} {H H':Hp} (e:Ext K α st H α' st' H'):Lk K α st H α' st' H':=⟨e.pre,e.tup,e.lst,fun a h=>by rw [e.rsv];exact h,e.raw⟩
theorem Lk.rps {K:PySem.W.Frag} {α α':Al} {st st':Store} {H H':Hp} (e:Lk K α st H α' st' H') {x:List PV} {v:List V} (h:RPs K H (Live α st) x v):RPs K H' (Live α' st') x v:=RPs.mono e.tup e.lst x v h
open PySem L2
theorem Res.bind_inv {α β:Type} {r:Res α} {f:α→Store→Res β} {b:β} {st':Store} (h:r.bind f=.ok b st'):∃ a st1,r=.ok a st1∧f a st1=.ok b st':=by
 cases r with
 | ok a st1=>exact ⟨a,st1,rfl,h⟩
 | exn c as st=>cases h
 | stuck=>cases h
theorem Res.bindB_inv {β:Type} {r:Res Val} {f:Bool→Store→Res β} {b:β} {st':Store} (h:r.bindB f=.ok b st'):∃ k st1,r=.ok (.p (.bl k)) st1∧f k st1=.ok b st':=by
 obtain ⟨v,st1,h1,h2⟩:=Res.bind_inv h
 cases v with
 | ref n=>cases h2
 | p x =>
  cases x with
  | bl k=>exact ⟨k,st1,h1,h2⟩
  | _=>cases h2
theorem Res.bindP_inv {β:Type} {r:Res Val} {f:PV→Store→Res β} {b:β} {st':Store} (h:r.bindP f=.ok b st'):∃ x st1,r=.ok (.p x) st1∧f x st1=.ok b st':=by
 obtain ⟨v,st1,h1,h2⟩:=Res.bind_inv h
 cases v with
 | ref n=>cases h2
 | p x=>exact ⟨x,st1,h1,h2⟩
theorem Res.bindV_inv {β:Type} {r:Res Val} {f:PV→Store→Res β} {b:β} {st':Store} (h:r.bindV f=.ok b st'):∃ v x st1,r=.ok v st1∧view st1 v=some x∧f x st1=.ok b st':=by
 obtain ⟨v,st1,h1,h2⟩:=Res.bind_inv h
 cases e:view st1 v with
 | none=>rw [e] at h2;cases h2
 | some x=>rw [e] at h2;exact ⟨v,x,st1,h1,e,h2⟩
theorem zq7 {o:Option PV} {st st':Store} {v:Val} (h:okO o st=.ok v st'):∃ x,o=some x∧v=.p x∧st'=st:=by
 cases o with
 | none=>cases h
 | some x=>cases h;exact ⟨x,rfl,rfl,rfl⟩
theorem op1_inv {f:PV→Option PV} {v:Val} {st st':Store} {z:Val} (h:op1 f v st=.ok z st'):∃ x y,view st v=some x∧f x=some y∧z=.p y∧st'=st:=by
 unfold op1 at h
 cases e:view st v with
 | none=>rw [e] at h;cases h
 | some x =>
  rw [e] at h
  obtain ⟨y,h1,h2,h3⟩:=zq7 h
  exact ⟨x,y,rfl,h1,h2,h3⟩
theorem zH0 {f:PV→PV→Option PV} {v w:Val} {st st':Store} {z:Val} (h:op2 f v w st=.ok z st'):∃ x y u,view st v=some x∧view st w=some y∧f x y=some u∧z=.p u∧st'=st:=by
 unfold op2 at h
 cases e:view st v with
 | none=>rw [e] at h;cases h
 | some x =>
  rw [e] at h
  cases e2:view st w with
  | none=>rw [e2] at h;cases h
  | some y =>
   rw [e2] at h
   obtain ⟨u,h1,h2,h3⟩:=zq7 h
   exact ⟨x,y,u,rfl,rfl,h1,h2,h3⟩
structure At (K:PySem.W.Frag) (α:Al) (st:Store) (H:Hp) (env:Env) (σ:L2.St):Prop where
 len:env.length=σ.length
 rs:RSt K α st H
 env:∀ (i:Nat) v,env[i]?=some (some v)→∃ w,σ[i]?=some (some w)∧RV K α st H v w
theorem At.next {K:PySem.W.Frag} {α α':Al} {st st':Store} {H H':Hp} {env:Env} {σ:L2.St} (a:At K α st H env σ) (e:Ext K α st H α' st' H') (r:RSt K α' st' H'):At K α' st' H' env σ :=
 ⟨a.len,r,fun i v h=>let ⟨w,h1,h2⟩:=a.env i v h;⟨w,h1,e.rv h2⟩⟩
noncomputable def tP (K:PySem.W.Frag) (C:CallF) (ir:E):TE:=fun σ H Q=>∃ env α st v st',At K α st H env σ∧evalE C ir env st=.ok v st' ∧
 ∀ w H' α',Ext K α st H α' st' H'→RSt K α' st' H'→RV K α' st' H' v w→Q w H'
noncomputable def tT (K:PySem.W.Frag) (C:CallF) (ir:E):TT:=fun σ H Q=>∃ env α st b st',At K α st H env σ∧evalE C ir env st=.ok (.p (.bl b)) st' ∧
 ∀ H' α',Ext K α st H α' st' H'→RSt K α' st' H'→Q b H'
noncomputable abbrev SE (X:Cx) (C:CallF) (e:Expr) (ir:E):Prop:=PE X e (tP X.K C ir)
noncomputable abbrev ST (X:Cx) (C:CallF) (e:Expr) (ir:E):Prop:=PT X e (tT X.K C ir)
theorem PE.mono {X:Cx} {e:Expr} {t t':TE} (h:PE X e t) (m:∀ σ H Q,t' σ H Q→t σ H Q):PE X e t':=fun pins s σ H Q I q=>h pins s σ H Q I (m _ _ _ q)
theorem PT.mono {X:Cx} {e:Expr} {t t':TT} (h:PT X e t) (m:∀ σ H Q,t' σ H Q→t σ H Q):PT X e t':=fun pins s σ H Q I q=>h pins s σ H Q I (m _ _ _ q)
theorem PW.mono {X:Cx} {e:Expr} {t t':TT} (h:PW X e t) (m:∀ σ H Q,t' σ H Q→t σ H Q):PW X e t':=fun wh pins s σ H Q I q=>h wh pins s σ H Q I (m _ _ _ q)
section
variable {X:Cx} {C:CallF} {a b c:Expr} {ia ib ic:E} {pos:Pos}
theorem tT_of {K:PySem.W.Frag} {ir:E} {σ:L2.St} {H:Hp} {Q:Bool→Hp→Prop} (h:tT K C ir σ H Q):tB (tP K C ir) σ H Q:=by
 obtain ⟨env,α,st,b,st',a,e,q⟩:=h
 exact ⟨env,α,st,_,st',a,e,fun w H' α' x r v=>by
  have v':w=.bl b:=by simpa [RV,RP] using v
  exact ⟨b,v',q H' α' x r⟩⟩
theorem st_val {e:Expr} {ir:E} (h:SE X C e ir) (he:∀ whole,isTrue e X.env whole=(do let v ← whole;standAt e.pos;holding [v] (truthy v))):ST X C e ir :=
 PT.mono (pt_val h he) fun _ _ _ q=>tT_of q
theorem se_var {i:Nat} {x:Str} (hN:X.N[i]?=some x) (hv:Vis X.env.scope x) (hd:(x==("__debug__" : Str))=false) (hcd:(x==("__classdict__" : Str))=false):SE X C (.Name x pos) (.var i) :=
 PE.mono (pe_var hN hv hd hcd) fun σ H Q h_=>by
  obtain ⟨env,α,st,v,st',a,e,q⟩:=h_
  rw [ev_var] at e
  unfold varOf at e
  cases h:env[i]? with
  | none=>rw [h] at e;cases e
  | some o =>
   cases o with
   | none=>rw [h] at e;cases e
   | some u =>
    rw [h] at e
    cases e
    obtain ⟨w,h1,h2⟩:=a.env i _ h
    exact ⟨w,h1,q w H α .refl a.rs h2⟩
theorem se_c {e:Expr} {v:V} {x:PV} (h:PE X e (tC v)) (r:∀ H lv,RP X.K H lv x v):SE X C e (.const x) :=
 PE.mono h fun σ H Q h_=>by
  obtain ⟨env,α,st,u,st',a,e,q⟩:=h_
  rw [ev_const] at e
  cases e
  exact q v H α .refl a.rs (r _ _)
theorem se_int {i j}:SE X C (.Constant (.int i) j pos) (.const (.int i)):=se_c pe_int fun _ _=>by rw [RP]
theorem se_bl {i j}:SE X C (.Constant (.bool i) j pos) (.const (.bl i)):=se_c pe_bl fun _ _=>by rw [RP]
theorem se_non {j}:SE X C (.Constant .none j pos) (.const .non):=se_c pe_non fun _ _=>by rw [RP]
theorem se_str {x j} {cs:List Nat} (h:x=⟨cs.toArray⟩) (hl:cs.length≤1000):SE X C (.Constant (.str x) j pos) (.const (.str cs)):=se_c pe_str fun _ _=>by
 rw [RP];exact ⟨by rw [h],Nat.le_trans hl (by decide)⟩
def Op2 (X:Cx) (f:Value→Value→Sem Value) (g:PV→PV→Option PV):Prop :=
 OpR X f fun x y H Q=>∃ α st px py z,RSt X.K α st H∧RW X.K α st H px x∧RW X.K α st H py y∧g px py=some z ∧
  ∀ w H',Same H H'→RP X.K H' (Live α st) z w→Q w H'
theorem se_op {op:Operator} {g:PV→PV→Option PV} {ir:E} (ho:Op2 X (binaryOp op) g) (ha:SE X C a ia) (hb:SE X C b ib)
  (hi:∀ env st,evalE C ir env st=(evalE C ia env st).bind fun x st=>(evalE C ib env st).bind fun y st=>op2 g x y st):SE X C (.BinOp a op b pos) ir :=
 PE.mono (pe_op ho ha hb) fun σ H Q h_=>by
  obtain ⟨env,α,st,v,st',at',e,q⟩:=h_
  rw [hi] at e
  obtain ⟨va,st1,e1,e⟩:=Res.bind_inv e
  obtain ⟨vb,st2,e2,e⟩:=Res.bind_inv e
  obtain ⟨x,y,u,h1,h2,h3,h4,h5⟩:=zH0 e
  subst h4 h5
  refine ⟨env,α,st,va,st1,at',e1,fun w H1 α1 x1 r1 v1=>?_⟩
  refine ⟨env,α1,st1,vb,st',at'.next x1 r1,e2,fun w2 H2 α2 x2 r2 v2=>?_⟩
  refine ⟨α2,st',x,y,u,r2,(x2.rv v1).view r2 h1,v2.view r2 h2,h3,fun w3 H3 s3 rp=>?_⟩
  exact q w3 H3 α2 (x1.trans (x2.trans (.of_same r2 s3))) (r2.same s3) rp
theorem se_cmp {op:CmpOp} {g:PV→PV→Option PV} {ir:E} (ho:Op2 X (compareOp op) g) (ha:SE X C a ia) (hb:SE X C b ib) (hm:behindInMarks op b=false)
  (hi:∀ env st,evalE C ir env st=(evalE C ia env st).bind fun x st=>(evalE C ib env st).bind fun y st=>op2 g x y st):SE X C (.Compare a [op] [b] pos) ir :=
 PE.mono (pe_cmpR ho ha hb hm) fun σ H Q h_=>by
  obtain ⟨env,α,st,v,st',at',e,q⟩:=h_
  rw [hi] at e
  obtain ⟨va,st1,e1,e⟩:=Res.bind_inv e
  obtain ⟨vb,st2,e2,e⟩:=Res.bind_inv e
  obtain ⟨x,y,u,h1,h2,h3,h4,h5⟩:=zH0 e
  subst h4 h5
  refine ⟨env,α,st,va,st1,at',e1,fun w H1 α1 x1 r1 v1=>?_⟩
  refine ⟨env,α1,st1,vb,st',at'.next x1 r1,e2,fun w2 H2 α2 x2 r2 v2=>?_⟩
  refine ⟨α2,st',x,y,u,r2,(x2.rv v1).view r2 h1,v2.view r2 h2,h3,fun w3 H3 s3 rp=>?_⟩
  exact q w3 H3 α2 (x1.trans (x2.trans (.of_same r2 s3))) (r2.same s3) rp
end
open PySem L2 PySem.SeqAt PyProof.Rows
theorem rmulW (a:Int) (t:Tok) (l:Addr) (is:Array Value) (n:Nat) (dd:Option Addr) (sl:Array (Option Value)) :
  Meets (Builtin.«int.__rmul__» ⟨[.int a t,.ref l],[]⟩) (fun _ R s=>s.heap.get? l=some { cls:=.type "list", dict:=dd,data:=.seq is n,slots:=sl } ∧
   R (.ok (.ret Value.notImplemented)) s) :=
 .of_wp fun prog w A R s0 hh=>by
  obtain ⟨hp,gg,dw,tk,oo⟩:=s0
  obtain ⟨k1,k2⟩:=hh
  wp_walk
  exact ⟨_,rfl,k2⟩
theorem mulW (l:Addr) (is:Array Value) (n:Nat) (x:Int) (u:Tok) (dd:Option Addr) (sl:Array (Option Value)) (h0:¬(!Builtin.List.listFitsIndex x)=true) (h1:¬is.size * x.toNat > (2 ^ 63 - 1) / 8) (h2:¬Builtin.List.listTooLong (is.size * x.toNat)=true) :
  Meets (Builtin.«list.__mul__» ⟨[.ref l,.int x u],[]⟩) (fun _ R s=>s.heap.get? l=some { cls:=.type "list", dict:=dd,data:=.seq is n,slots:=sl } ∧
   R (.ok (.ret (Value.ref s.heap.objs.size))) { s with heap:=s.heap.push { cls:=.type "list", data:=.seq (List.foldl (fun x1 x2=>x1++x2) #[] (List.replicate (if is.isEmpty=true then 0 else x.toNat) is)) },toks:=s.toks }) :=
 .of_wp fun prog w A R s0 hh=>by
  obtain ⟨hp,gg,dw,tk,oo⟩:=s0
  obtain ⟨k1,k2⟩:=hh
  have g1:=AutoSeq1.idx_int
  have g2:=AutoListH.joined_fits h2
  wp_walk using AutoSeq1.wpAny_loadPart' k1
  refine wpAny_ite_false (decide_eq_false (Nat.not_lt.mpr g2)) ?_
  wp_walk using AutoSeq1.wpAny_loadPart' k1
  exact ⟨_,rfl,k2⟩
open PySem L2 PySem.SeqAt
section
variable {K:PySem.W.Frag} {α:Al} {st:Store} {H:Hp} {x:V}
theorem RW.int {i:Int} (h:RW K α st H (.int i) x):x=.int i:=by
 rcases h with h | ⟨_,_,_,e,_⟩
 ·rw [RP] at h;exact h
 ·cases e
theorem RW.bl {b:Bool} (h:RW K α st H (.bl b) x):x=.bl b:=by
 rcases h with h | ⟨_,_,_,e,_⟩
 ·rw [RP] at h;exact h
 ·cases e
theorem RW.non (h:RW K α st H .non x):x=.non:=by
 rcases h with h | ⟨_,_,_,e,_⟩
 ·rw [RP] at h;exact h
 ·cases e
theorem RW.str {cs:List Nat} (h:RW K α st H (.str cs) x):x=.str ⟨cs.toArray⟩∧cs.length≤sizeLine:=by
 rcases h with h | ⟨_,_,_,e,_⟩
 ·rw [RP] at h;exact h
 ·cases e
theorem RW.tup {xs:List PV} (h:RW K α st H (.tup xs) x):∃ a vs,x=.ref a∧SqT K H a vs∧RPs K H (Live α st) xs vs:=by
 rcases h with h | ⟨_,_,_,e,_⟩
 ·rw [RP] at h;exact h
 ·cases e
theorem RW.lst {xs:List PV} (h:RW K α st H (.lst xs) x):∃ a vs,x=.ref a∧SqL K H a vs∧RPs K H (Live α st) xs vs:=by
 rcases h with h | ⟨xs',a,vs,e,e2,q,r⟩
 ·rw [RP] at h
  obtain ⟨a,vs,e,q,_,r⟩:=h
  exact ⟨a,vs,e,q,r⟩
 ·cases e;exact ⟨a,vs,e2,q,r⟩
theorem zG2:SZ=sizeLine:=by unfold SZ;decide
end
section
variable {X:Cx}
theorem Op2.ints {f:Value→Value→Sem Value} {Cn:Int→Int→Prop} {k:Int→Int→V} {g:PV→PV→Option PV} (ho:OpR X f (rI Cn k))
  (hg:∀ x y z,g x y=some z→∃ i j,x=.int i∧y=.int j∧Cn i j∧∀ H lv,RP X.K H lv z (k i j)):Op2 X f g:=by
 rintro pins s σ H x y v u Q I rx ry ⟨α,st,px,py,z,r,hx,hy,hz,q⟩
 obtain ⟨i,j,rfl,rfl,hc,hk⟩:=hg _ _ _ hz
 exact ho pins s σ H x y v u Q I rx ry ⟨i,j,hx.int,hy.int,hc,q _ _ (Same.refl H) (hk _ _)⟩
theorem Op2.ints0 {f:Value→Value→Sem Value} {k:Int→Int→V} {g:PV→PV→Option PV} (ho:OpR X f (rI0 k))
  (hg:∀ x y z,g x y=some z→∃ i j,x=.int i∧y=.int j∧∀ H lv,RP X.K H lv z (k i j)):Op2 X f g:=by
 rintro pins s σ H x y v u Q I rx ry ⟨α,st,px,py,z,r,hx,hy,hz,q⟩
 obtain ⟨i,j,rfl,rfl,hk⟩:=hg _ _ _ hz
 exact ho pins s σ H x y v u Q I rx ry ⟨i,j,hx.int,hy.int,q _ _ (Same.refl H) (hk _ _)⟩
theorem zV9:Op2 X (binaryOp .Sub) bSub:=Op2.ints0 op_sub fun x y z h=>by
 cases x <;> cases y <;> simp [bSub] at h
 exact ⟨_,_,rfl,rfl,fun _ _=>by rw [← h,RP]⟩
theorem o_mulI:OpR X (binaryOp .Mult) (fun x y H Q=>∃ i j,x=.int i∧y=.int j∧(small64 i || small64 j)=true∧Q (.int (i * j)) H):=by
 rintro pins s σ H x y v u Q I rx ry ⟨i,j,h1,h2,hc,q⟩
 refine op_mul pins s σ H x y v u Q I rx ry ⟨i,j,h1,h2,?_,q⟩
 rcases (Bool.or_eq_true _ _).mp hc with c | c
 ·exact .inl (of_decide_eq_true c)
 ·exact .inr (of_decide_eq_true c)
theorem zV8 (n:Nat) (a:List Nat):(List.replicate n a.toArray).foldl (· ++ ·) #[]=((List.replicate n a).flatten).toArray:=by
 have gen:∀ (n:Nat) (b:List Nat),(List.replicate n a.toArray).foldl (· ++ ·) b.toArray=(b++(List.replicate n a).flatten).toArray:=by
  intro n
  induction n with
  | zero=>intro b;simp
  | succ n ih =>
   intro b
   rw [List.replicate_succ,List.foldl_cons,List.append_toArray,ih,List.replicate_succ,List.flatten_cons,List.append_assoc]
 exact gen n []
theorem zT5 (n:Nat) (a:List Nat):(List.replicate n a).flatten.length=a.length * n:=by
 rw [List.length_flatten,List.map_replicate,List.sum_replicate_nat,Nat.mul_comm]
theorem zz7 (cs:List Nat):(Str.length ⟨cs.toArray⟩)=cs.length:=by simp [Str.length]
theorem zO6 (n:Nat) (a:List Value):(List.replicate n a.toArray).foldl (fun x1 x2=>x1++x2) #[]=((List.replicate n a).flatten).toArray:=by
 have gen:∀ (n:Nat) (b:List Value),(List.replicate n a.toArray).foldl (fun x1 x2=>x1++x2) b.toArray=(b++(List.replicate n a).flatten).toArray:=by
  intro n
  induction n with
  | zero=>intro b;simp
  | succ n ih =>
   intro b
   rw [List.replicate_succ,List.foldl_cons,List.append_toArray,ih,List.replicate_succ,List.flatten_cons,List.append_assoc]
 exact gen n []
theorem flat_lenG {α:Type} (n:Nat) (a:List α):(List.replicate n a).flatten.length=a.length * n:=by
 rw [List.length_flatten,List.map_replicate,List.sum_replicate_nat,Nat.mul_comm]
theorem zM8 {vs:List V} {its:List Value} (h:Vals vs its):∀ n:Nat,Vals (List.replicate n vs).flatten (List.replicate n its).flatten
 | 0=>.nil
 | n+1=>by rw [List.replicate_succ,List.replicate_succ,List.flatten_cons,List.flatten_cons];exact h.append (zM8 h n)
theorem zS3 {K:PySem.W.Frag} {H:Hp} {lv:Addr→Prop} {xs:List PV} {vs:List V} (h:RPs K H lv xs vs):∀ n:Nat,RPs K H lv (List.replicate n xs).flatten (List.replicate n vs).flatten
 | 0=>by simp [RPs]
 | n+1=>by rw [List.replicate_succ,List.replicate_succ,List.flatten_cons,List.flatten_cons];exact h.append (zS3 h n)
theorem zD8:Op2 X (binaryOp .Mult) bMul:=by
 rintro pins s σ H x y v u Q I rx ry ⟨α,st,px,py,z,r,hx,hy,hz,q⟩
 cases px <;> cases py <;> simp only [bMul,Option.ite_none_right_eq_some,reduceCtorEq,Option.some.injEq] at hz
 ·obtain ⟨hc,hz⟩:=hz
  exact o_mulI pins s σ H x y v u Q I rx ry ⟨_,_,hx.int,hy.int,hc,q _ _ (Same.refl H) (by rw [← hz,RP])⟩
 ·rename_i a n
  obtain ⟨⟨h0,h1,h2⟩,hz⟩:=hz
  rw [zG2] at h2
  obtain ⟨e1,hl⟩:=hx.str
  have e2:=hy.int
  subst e1 e2
  obtain ⟨t1,rfl⟩:=rx
  obtain ⟨t2,rfl⟩:=ry
  have hsz:sizeLine=16777216:=by decide
  refine PySem.P.mul_str (by simp;lia) (fun g1 g2=>?_) (fun g1 g2=>?_) ?_
  ·rw [zz7]
   have:(16777216:Int)≤(2 ^ 63 - 1) / n:=by
    rw [Int.le_ediv_iff_mul_le (by lia)]
    lia
   lia
  ·rw [zz7]
   unfold Builtin.Str.tooLong
   exact decide_eq_false (by lia)
  ·split
   ·have e0:n=0:=by lia
    subst e0
    exact ⟨by decide,.str _,H,I.tok _,⟨_,rfl⟩,q _ _ (Same.refl H) (by rw [← hz,RP];exact ⟨by rfl,by simp⟩)⟩
   ·split
    ·rename_i g1 g2
     refine ⟨.str _,H,I,⟨_,rfl⟩,q _ _ (Same.refl H) ?_⟩
     rw [← hz,RP]
     rcases (Bool.or_eq_true _ _).mp g2 with c | c
     ·have c':n=1:=eq_of_beq c
      subst c'
      have:(List.replicate (1:Int).toNat a).flatten=a:=by simp
      rw [this]
      exact ⟨rfl,hl⟩
     ·have c':a.length=0:=by rw [zz7] at c;exact eq_of_beq c
      have c2:a=[]:=List.eq_nil_of_length_eq_zero c'
      subst c2
      have:(List.replicate n.toNat ([]:List Nat)).flatten=[]:=by simp
      rw [this]
      exact ⟨rfl,by simp⟩
    ·have e3:(List.replicate n.toNat (⟨a.toArray⟩:Str).cps).foldl (· ++ ·) #[]=((List.replicate n.toNat a).flatten).toArray:=zV8 n.toNat a
     rw [e3]
     exact ⟨by rw [zz7,zT5];exact h2,.str _,H,I.tok _,⟨_,rfl⟩,q _ _ (Same.refl H) (by rw [← hz,RP];exact ⟨rfl,by rw [zT5];exact h2⟩)⟩
 ·rename_i a n
  obtain ⟨⟨h0,h1,h2⟩,hz⟩:=hz
  rw [zG2] at h2
  have hsz:sizeLine=16777216:=by decide
  obtain ⟨l1,vs,rfl,hl1,hl2⟩:=hx.lst
  have e2:=hy.int
  subst e2
  cases rx
  obtain ⟨t2,rfl⟩:=ry
  obtain ⟨its,r1,p1,_⟩:=I.list hl1
  obtain ⟨⟨cls,dd,data,sl⟩,nn,ho,hc,_,hd⟩:=id p1
  simp only at hc hd
  subst hc hd
  have q1:=r1.length
  have q2:=hl2.length
  have hsize:its.toArray.size * n.toNat≤16777216:=by rw [List.size_toArray,← q1,← q2];lia
  have ty:∀ s':Shared,s'.TypeIs (Value.int n t2) "int" := fun s'=>typeIs_int s' n t2
  have inner:wpAny (model X.prog X.w) X.A (call (.builtin "list.__mul__") [.ref l1,.int n t2]) (EP X pins σ Q) X.xe s:=by
   refine call_meets F.slot_list_mul ⟨_,ho,rfl⟩ F.entry_list_mul (F.args_list_mul_2 _ _)
    (mulW l1 its.toArray nn n t2 dd sl (by simp [Builtin.List.listFitsIndex];lia) (by lia) (by simp only [Builtin.List.listTooLong,hsz];simpa using hsize)) ⟨ho,?_⟩
   have ea:List.foldl (fun x1 x2=>x1++x2) #[] (List.replicate (if its.toArray.isEmpty=true then 0 else n.toNat) its.toArray)=((List.replicate n.toNat its).flatten).toArray:=by
    by_cases hb:its=[]
    ·subst hb
     simp
    ·rw [if_neg (by simpa using hb)]
     exact zO6 _ _
   rw [ea]
   have s1:Same H (upd H s.heap.objs.size (.lst (List.replicate n.toNat vs).flatten)):=zh7 I.fresh _
   refine ⟨.ref _,_,I.lnew (t':=s.toks) (zM8 r1 n.toNat) (by rw [flat_lenG,← q2];lia),rfl,q _ _ s1 ?_⟩
   rw [← hz,RP]
   exact ⟨_,_,rfl,SqL.of zf5,r.notlive I.fresh,zS3 ((Ext.of_same r s1).rps hl2) n.toNat⟩
  exact wpAny_binaryOp_repeat_ref (T := "list") (U := "int") (by decide) ⟨_,ho,rfl⟩ ty noFill_list_mul F.fills_int_mul F.slot_int_rmul repeat_list
   F.slot_int_index.lookup (call_meets F.slot_int_rmul (ty s) F.entry_int_rmul (F.args_int_rmul_2 _ _) (rmulW n t2 l1 its.toArray nn dd sl) ⟨ho,rfl,⟨_,ho,rfl⟩,inner⟩)
theorem op_fdivB:OpR X (binaryOp .FloorDiv) (rI (fun _ j=>0<j∧j<1000000000000000000000000000000) fun i j=>.int (i / j)):=opI fun i j _ _ _ _ _ hc q=>by
 have h1:(0:Int)<j:=hc.1
 have h2:j<1000000000000000000000000000000:=hc.2
 refine PyProof.Rows.floordiv_int (by lia) (by rw [Int.fdiv_eq_ediv_of_nonneg i (by lia)];exact q) (.inl (PyProof.noPylong_of_log2 ?_))
 have h3:j.natAbs.log2<100:=(Nat.log2_lt (by lia)).mpr (by lia)
 lia
theorem zR3:Op2 X (binaryOp .FloorDiv) bFdiv:=Op2.ints op_fdivB fun x y z h=>by
 cases x <;> cases y <;> simp only [bFdiv,Option.ite_none_right_eq_some,reduceCtorEq,Option.some.injEq] at h
 exact ⟨_,_,rfl,rfl,h.1,fun _ _=>by rw [← h.2,RP]⟩
theorem zO8:Op2 X (binaryOp .Mod) bMod:=Op2.ints op_mod fun x y z h=>by
 cases x <;> cases y <;> simp only [bMod,Option.ite_none_right_eq_some,reduceCtorEq,Option.some.injEq] at h
 exact ⟨_,_,rfl,rfl,h.1,fun _ _=>by rw [← h.2,RP]⟩
theorem o_pow:Op2 X (binaryOp .Pow) bPow:=Op2.ints op_pow fun x y z h=>by
 cases x <;> cases y <;> simp only [bPow,Option.ite_none_right_eq_some,reduceCtorEq,Option.some.injEq] at h
 obtain ⟨⟨h1,h2,h3⟩,h⟩:=h
 refine ⟨_,_,rfl,rfl,⟨h1,h2,?_⟩,fun _ _=>by rw [← h,RP]⟩
 have:=of_decide_eq_true h3
 lia
theorem o_lt:Op2 X (compareOp .Lt) (cInt fun i j=>decide (i<j)):=Op2.ints0 op_lt fun x y z h=>by
 cases x <;> cases y <;> simp only [cInt,reduceCtorEq,Option.some.injEq] at h
 exact ⟨_,_,rfl,rfl,fun _ _=>by rw [← h,RP]⟩
theorem o_le:Op2 X (compareOp .LtE) (cInt fun i j=>decide (i≤j)):=Op2.ints0 op_le fun x y z h=>by
 cases x <;> cases y <;> simp only [cInt,reduceCtorEq,Option.some.injEq] at h
 exact ⟨_,_,rfl,rfl,fun _ _=>by rw [← h,RP]⟩
theorem o_gt:Op2 X (compareOp .Gt) (cInt fun i j=>decide (j<i)):=Op2.ints0 op_gt fun x y z h=>by
 cases x <;> cases y <;> simp only [cInt,reduceCtorEq,Option.some.injEq] at h
 exact ⟨_,_,rfl,rfl,fun _ _=>by rw [← h,RP]⟩
theorem o_ge:Op2 X (compareOp .GtE) (cInt fun i j=>decide (j≤i)):=Op2.ints0 op_ge fun x y z h=>by
 cases x <;> cases y <;> simp only [cInt,reduceCtorEq,Option.some.injEq] at h
 exact ⟨_,_,rfl,rfl,fun _ _=>by rw [← h,RP]⟩
theorem zk8 (cs:List Nat):(Str.length ⟨cs.toArray⟩)=cs.length:=by simp [Str.length]
theorem str_cat (a b:List Nat):((⟨a.toArray⟩:Str)++(⟨b.toArray⟩:Str))=⟨(a++b).toArray⟩:=by
 show (Str.mk (a.toArray++b.toArray))=_
 simp
theorem zi2:Op2 X (binaryOp .Add) bAdd:=by
 rintro pins s σ H x y v u Q I rx ry ⟨α,st,px,py,z,r,hx,hy,hz,q⟩
 cases px <;> cases py <;> simp only [bAdd,Option.ite_none_right_eq_some,reduceCtorEq,Option.some.injEq] at hz
 ·exact op_add pins s σ H x y v u Q I rx ry ⟨_,_,hx.int,hy.int,q _ _ (Same.refl H) (by rw [← hz,RP])⟩
 ·rename_i a b
  obtain ⟨hl,hz⟩:=hz
  rw [zG2] at hl
  refine zV2 pins s σ H x y v u Q I rx ry ⟨_,_,hx.str.1,hy.str.1,by rw [zk8,zk8];exact hl,?_⟩
  rw [str_cat]
  exact q _ _ (Same.refl H) (by rw [← hz,RP];exact ⟨rfl,by rw [List.length_append];exact hl⟩)
 ·rename_i a b
  obtain ⟨hl,hz⟩:=hz
  rw [zG2] at hl
  obtain ⟨l1,vs,rfl,h1,h2⟩:=hx.tup
  obtain ⟨l2,ws,rfl,h3,h4⟩:=hy.tup
  have e1:=h2.length
  have e2:=h4.length
  by_cases hn:a=[]
  ·subst hn
   have ev:vs=[]:=List.eq_nil_of_length_eq_zero (by simpa using e1.symm)
   subst ev
   cases rx
   cases ry
   obtain ⟨its,r1,p1,_⟩:=I.tuple h1
   obtain ⟨its2,r2,p2,_⟩:=I.tuple h3
   have ei:its=[]:=List.eq_nil_of_length_eq_zero (by simpa using r1.length.symm)
   subst ei
   obtain ⟨⟨cls,dd,data,sl⟩,ho,hc,n,hd⟩:=id p1
   obtain ⟨⟨cls2,dd2,data2,sl2⟩,ho2,hc2,n2,hd2⟩:=id p2
   simp only at hc hd hc2 hd2
   subst hc hd hc2 hd2
   refine PySem.concat_meets ⟨_,ho,rfl⟩ ⟨_,ho2,rfl⟩ PySem.noFill_tuple_add PySem.seq_tuple_add PySem.F.slot_tuple_add PySem.F.entry_tuple_add (PySem.F.args_tuple_add_2 _ _) (PyProof.Rows.tuple_addW0 l1 l2 _ its2.toArray n n2 dd dd2 sl sl2 (by simp)) ⟨ho,ho2,?_⟩
   exact ⟨.ref l2,H,I,rfl,q _ _ (Same.refl H) (by rw [← hz,RP,List.nil_append];exact ⟨l2,ws,rfl,h3,h4⟩)⟩
  refine op_catT pins s σ H _ _ v u Q I rx ry ⟨l1,l2,vs,ws,rfl,rfl,h1,h3,fun e=>hn (by subst e;simpa using e1),by lia,fun e=>?_,fun e p hp=>?_⟩
  ·subst e
   have:b=[]:=by simpa using e2
   subst this
   exact q _ _ (Same.refl H) (by rw [← hz,RP,List.append_nil];exact ⟨l1,vs,rfl,h1,h2⟩)
  ·have s1:Same H (upd H p (.tup (vs++ws))):=zh7 hp _
   refine q _ _ s1 ?_
   rw [← hz,RP]
   exact ⟨p,_,rfl,SqT.of zf5,((Ext.of_same r s1).rps h2).append ((Ext.of_same r s1).rps h4)⟩
 ·rename_i a b
  obtain ⟨hl,hz⟩:=hz
  rw [zG2] at hl
  obtain ⟨l1,vs,rfl,h1,h2⟩:=hx.lst
  obtain ⟨l2,ws,rfl,h3,h4⟩:=hy.lst
  have e1:=h2.length
  have e2:=h4.length
  cases rx
  cases ry
  obtain ⟨its,r1,p1,_⟩:=I.list h1
  obtain ⟨its2,r2,p2,_⟩:=I.list h3
  obtain ⟨⟨cls,dd,data,sl⟩,n,ho,hc,_,hd⟩:=id p1
  obtain ⟨⟨cls2,dd2,data2,sl2⟩,n2,ho2,hc2,_,hd2⟩:=id p2
  simp only at hc hd hc2 hd2
  subst hc hd hc2 hd2
  have q1:=r1.length
  have q2:=r2.length
  refine PySem.concat_meets ⟨_,ho,rfl⟩ ⟨_,ho2,rfl⟩ PySem.noFill_list_add PySem.seq_list_add PySem.F.slot_list_add PySem.F.entry_list_add (PySem.F.args_list_add_2 _ _) (PyProof.Rows.list_addW l1 l2 its.toArray its2.toArray n n2 dd dd2 sl sl2 (by simp;lia)) ⟨ho,ho2,?_⟩
  have ea:its.toArray++its2.toArray=(its++its2).toArray:=by simp
  rw [ea]
  have s1:Same H (upd H s.heap.objs.size (.lst (vs++ws))):=zh7 I.fresh _
  refine ⟨.ref _,_,I.lnew (t':=s.toks) (r1.append r2) (by rw [List.length_append];lia),rfl,q _ _ s1 ?_⟩
  rw [← hz,RP]
  exact ⟨_,_,rfl,SqL.of zf5,r.notlive I.fresh,((Ext.of_same r s1).rps h2).append ((Ext.of_same r s1).rps h4)⟩
end
open PySem L2 PySem.SeqAt
mutual
theorem pyEq_refl:∀ x:PV,pyEq x x=true
 | .non=>by simp [pyEq]
 | .bl _=>by simp [pyEq]
 | .int _=>by simp [pyEq]
 | .str _=>by simp [pyEq]
 | .tup xs=>by rw [pyEq];exact pyEqs_refl xs
 | .lst xs=>by rw [pyEq];exact pyEqs_refl xs
theorem pyEqs_refl:∀ xs:List PV,pyEqs xs xs=true
 | []=>by simp [pyEqs]
 | x::r=>by rw [pyEqs,pyEq_refl x,pyEqs_refl r];rfl
end
theorem zm5:∀ xs ys:List PV,pyEqs xs ys=((List.range (min xs.length ys.length)).all (fun j=>pyEq (xs.getD j .non) (ys.getD j .non))&&(xs.length==ys.length))
 | [],[]=>by simp [pyEqs]
 | [],_::_=>by simp [pyEqs]
 | _::_,[]=>by simp [pyEqs]
 | x::r,y::s=>by
  rw [pyEqs,zm5 r s]
  have e:min (x::r).length (y::s).length=min r.length s.length+1:=by simp
  rw [e,List.range_succ_eq_map,List.all_cons,List.all_map]
  have e2:((x::r).length==(y::s).length)=(r.length==s.length):=by simp
  rw [e2,Bool.and_assoc]
  rfl
theorem zD2:∀ {xs:List PV} {j:Nat} {x:PV},xs[j]?=some x→dep x≤deps xs
 | [],_,_,h=>by simp at h
 | y::r,0,x,h=>by simp at h;subst h;simp;lia
 | y::r,j+1,x,h=>by
  have:=zD2 (xs:=r) (j:=j) (x:=x) (by simpa using h)
  simp;lia
theorem str_eq (a b:List Nat):((⟨a.toArray⟩:Str)==⟨b.toArray⟩)=decide (a=b):=by
 by_cases h:a=b
 ·subst h;simp
 ·rw [decide_eq_false h,beq_eq_false_iff_ne]
  intro e
  injection e with e
  exact h (by simpa using congrArg Array.toList e)
section
variable {X:Cx} {pins:List (Addr×Obj)} {σ:L2.St} {H:Hp} {s:Shared} {lv:Addr→Prop}
theorem zH7 {a:Addr} {vs ws:List V} (I:Inv X pins σ H s) (h1:SqT X.K H a vs) (h2:SqL X.K H a ws):False:=by
 obtain ⟨_,_,p1,_⟩:=I.tuple h1
 obtain ⟨_,_,p2,_⟩:=I.list h2
 exact ne_of_list_tuple p2.isList p1 rfl
mutual
theorem RP.inj (I:Inv X pins σ H s):∀ (x y:PV) (v:V),RP X.K H lv x v→RP X.K H lv y v→x=y
 | .non,y,v,h,g=>by
  rw [RP] at h;subst h
  cases y with
  | non=>rfl
  | bl c=>rw [RP] at g;cases g
  | int c=>rw [RP] at g;cases g
  | str c=>rw [RP] at g;cases g.1
  | tup c=>rw [RP] at g;obtain ⟨_,_,e,_⟩:=g;cases e
  | lst c=>rw [RP] at g;obtain ⟨_,_,e,_⟩:=g;cases e
 | .bl b,y,v,h,g=>by
  rw [RP] at h;subst h
  cases y with
  | non=>rw [RP] at g;cases g
  | bl c=>rw [RP] at g;cases g;rfl
  | int c=>rw [RP] at g;cases g
  | str c=>rw [RP] at g;cases g.1
  | tup c=>rw [RP] at g;obtain ⟨_,_,e,_⟩:=g;cases e
  | lst c=>rw [RP] at g;obtain ⟨_,_,e,_⟩:=g;cases e
 | .int b,y,v,h,g=>by
  rw [RP] at h;subst h
  cases y with
  | non=>rw [RP] at g;cases g
  | bl c=>rw [RP] at g;cases g
  | int c=>rw [RP] at g;cases g;rfl
  | str c=>rw [RP] at g;cases g.1
  | tup c=>rw [RP] at g;obtain ⟨_,_,e,_⟩:=g;cases e
  | lst c=>rw [RP] at g;obtain ⟨_,_,e,_⟩:=g;cases e
 | .str cs,y,v,h,g=>by
  rw [RP] at h
  obtain ⟨h,_⟩:=h
  subst h
  cases y with
  | str c =>
   rw [RP] at g
   obtain ⟨e,_⟩:=g
   injection e with e
   injection e with e
   exact congrArg PV.str (by simpa using congrArg Array.toList e)
  | tup c=>rw [RP] at g;obtain ⟨_,_,e,_⟩:=g;cases e
  | lst c=>rw [RP] at g;obtain ⟨_,_,e,_⟩:=g;cases e
  | non=>rw [RP] at g;cases g
  | bl c=>rw [RP] at g;cases g
  | int c=>rw [RP] at g;cases g
 | .tup xs,y,v,h,g=>by
  rw [RP] at h
  obtain ⟨a,vs,rfl,h1,h2⟩:=h
  cases y with
  | tup ys =>
   rw [RP] at g
   obtain ⟨b,ws,e,g1,g2⟩:=g
   cases e
   have:=I.tuple_inj h1 g1
   subst this
   rw [RPs.inj I xs ys vs h2 g2]
  | lst ys =>
   rw [RP] at g
   obtain ⟨b,ws,e,g1,_⟩:=g
   cases e
   exact (zH7 I h1 g1).elim
  | str _=>rw [RP] at g;cases g.1
  | _=>rw [RP] at g;cases g
 | .lst xs,y,v,h,g=>by
  rw [RP] at h
  obtain ⟨a,vs,rfl,h1,_,h2⟩:=h
  cases y with
  | lst ys =>
   rw [RP] at g
   obtain ⟨b,ws,e,g1,_,g2⟩:=g
   cases e
   have:=I.list_inj h1 g1
   subst this
   rw [RPs.inj I xs ys vs h2 g2]
  | tup ys =>
   rw [RP] at g
   obtain ⟨b,ws,e,g1,_⟩:=g
   cases e
   exact (zH7 I g1 h1).elim
  | str _=>rw [RP] at g;cases g.1
  | _=>rw [RP] at g;cases g
theorem RPs.inj (I:Inv X pins σ H s):∀ (xs ys:List PV) (vs:List V),RPs X.K H lv xs vs→RPs X.K H lv ys vs→xs=ys
 | [],ys,vs,h,g=>by
  rw [RPs] at h;subst h
  cases ys with
  | nil=>rfl
  | cons y r=>rw [RPs] at g;obtain ⟨_,_,e,_⟩:=g;cases e
 | x::r,ys,vs,h,g=>by
  rw [RPs] at h
  obtain ⟨v,vr,rfl,h1,h2⟩:=h
  cases ys with
  | nil=>rw [RPs] at g;cases g
  | cons y q =>
   rw [RPs] at g
   obtain ⟨w,wr,e,g1,g2⟩:=g
   cases e
   rw [RP.inj I x y _ h1 g1,RPs.inj I r q _ h2 g2]
end
theorem RPs.at {xs:List PV} {vs:List V} {its:List Value} (h:RPs X.K H lv xs vs) (r:Vals vs its) {j:Nat} (hj:j<its.length) :
  ∃ x v,xs[j]?=some x∧xs.getD j .non=x∧RP X.K H lv x v∧RelV v its[j]:=by
 have e1:=h.length
 have e2:=r.length
 have hx:xs[j]?=some xs[j]:=List.getElem?_eq_getElem (by lia)
 obtain ⟨v,h1,h2⟩:=h.get hx
 obtain ⟨u,h3,h4⟩:=r.get h1
 refine ⟨xs[j],v,hx,by rw [List.getD_eq_getElem?_getD,hx];rfl,h2,?_⟩
 rw [List.getElem?_eq_getElem hj] at h3
 cases h3
 exact h4
theorem RW.inj {α:Al} {st:Store} (I:Inv X pins σ H s) {x y:PV} {v:V} (h:RW X.K α st H x v) (g:RW X.K α st H y v):x=y:=by
 rcases h with h | ⟨xs,a,vs,rfl,rfl,h1,h2⟩
 ·rcases g with g | ⟨ys,b,ws,rfl,rfl,g1,g2⟩
  ·exact RP.inj I x y v h g
  ·cases x with
   | lst xs =>
    rw [RP] at h
    obtain ⟨a,vs,e,h1,_,h2⟩:=h
    cases e
    have:=I.list_inj h1 g1
    subst this
    rw [RPs.inj I _ _ _ h2 g2]
   | tup xs =>
    rw [RP] at h
    obtain ⟨a,vs,e,h1,h2⟩:=h
    cases e
    exact (zH7 I h1 g1).elim
   | str _=>rw [RP] at h;cases h.1
   | _=>rw [RP] at h;cases h
 ·cases y with
  | lst ys =>
   obtain ⟨b,ws,e,g1,g2⟩:=g.lst
   cases e
   have:=I.list_inj h1 g1
   subst this
   rw [RPs.inj I _ _ _ h2 g2]
  | tup ys =>
   obtain ⟨b,ws,e,g1,g2⟩:=g.tup
   cases e
   exact (zH7 I g1 h1).elim
  | str _=>cases g.str.1
  | int _=>cases g.int
  | bl _=>cases g.bl
  | non=>cases g.non
theorem zp8 {α:Al} {st:Store} {n:Nat} {A:Around} {xs ys:List PV} {vs ws:List V} {its its2:List Value}
  (ih:∀ (px py:PV) (x y:V) (v u:Value) (A:Around),RW X.K α st H px x→RW X.K α st H py y→RelV x v→RelV y u→(dep px≤n∨dep py≤n)→A.units+n+1<cLine→RcAt A s v u (pyEq px py)∧EqAt A s v u (pyEq px py))
  (hx:RPs X.K H (Live α st) xs vs) (hy:RPs X.K H (Live α st) ys ws) (r1:Vals vs its) (r2:Vals ws its2) (hd:deps xs≤n∨deps ys≤n) (hu:A.units+(n+1)+1<cLine) :
  ∀ j (h1:j<its.toArray.size) (h2:j<its2.toArray.size),EqAt A.in1 s its.toArray[j] its2.toArray[j] (pyEq (xs.getD j .non) (ys.getD j .non)):=by
 intro j h1 h2
 simp only [List.size_toArray] at h1 h2
 obtain ⟨x,v,a1,a2,a3,a4⟩:=hx.at r1 h1
 obtain ⟨y,u,b1,b2,b3,b4⟩:=hy.at r2 h2
 rw [a2,b2]
 have da:=zD2 a1
 have db:=zD2 b1
 have hu':A.in1.units+n+1<cLine:=by show A.units+1+n+1<cLine;lia
 simpa using (ih x y v u _ _ A.in1 (.inl a3) (.inl b3) a4 b4 (by lia) hu').2
theorem zE8 {α:Al} {st:Store} (I:Inv X pins σ H s) {n:Nat}
  (ih:0<n→∀ (px py:PV) (x y:V) (v u:Value) (A:Around),RW X.K α st H px x→RW X.K α st H py y→RelV x v→RelV y u→(dep px≤n - 1∨dep py≤n - 1)→A.units+(n - 1)+1<cLine→RcAt A s v u (pyEq px py)∧EqAt A s v u (pyEq px py))
  (px py:PV) (x y:V) (v u:Value) (A:Around) (hx:RW X.K α st H px x) (hy:RW X.K α st H py y) (rx:RelV x v) (ry:RelV y u) (hd:dep px≤n∨dep py≤n) (hu:A.units+n+1<cLine) :
  RcAt A s v u (pyEq px py)∧EqAt A s v u (pyEq px py):=by
 have hu0:A.units<cLine:=by lia
 have seqT:∀ {xs:List PV} {w:V} {uu:Value},RW X.K α st H (.tup xs) w→RelV w uu→∃ a vs its,w=.ref a∧uu=.ref a∧RPs X.K H (Live α st) xs vs∧Vals vs its∧s.heap.IsTuple a its.toArray:=fun h r=>by
  obtain ⟨a,vs,rfl,h1,h2⟩:=h.tup
  cases r
  obtain ⟨its,r1,p,_⟩:=I.tuple h1
  exact ⟨a,vs,its,rfl,rfl,h2,r1,p⟩
 have seqL:∀ {xs:List PV} {w:V} {uu:Value},RW X.K α st H (.lst xs) w→RelV w uu→∃ a vs its,w=.ref a∧uu=.ref a∧RPs X.K H (Live α st) xs vs∧Vals vs its∧s.heap.IsList a its.toArray:=fun h r=>by
  obtain ⟨a,vs,rfl,h1,h2⟩:=h.lst
  cases r
  obtain ⟨its,r1,p,_⟩:=I.list h1
  exact ⟨a,vs,its,rfl,rfl,h2,r1,p.isList⟩
 cases px with
 | non =>
  cases py with
  | non =>
   obtain rfl:x=V.non:=hx.non
   obtain rfl:v=Value.none:=rx
   obtain rfl:y=V.non:=hy.non
   obtain rfl:u=Value.none:=ry
   have e:pyEq .non .non=true:=by simp [pyEq]
   rw [e]
   exact ⟨.none_none,.same _⟩
  | bl e2 =>
   obtain rfl:x=V.non:=hx.non
   obtain rfl:v=Value.none:=rx
   obtain rfl:=hy.bl
   obtain rfl:u=Value.bool _:=ry
   have e:pyEq .non (.bl e2)=false:=by simp [pyEq]
   rw [e]
   exact ⟨.none_bool _,.none_bool _⟩
  | int e2 =>
   obtain rfl:x=V.non:=hx.non
   obtain rfl:v=Value.none:=rx
   obtain rfl:=hy.int
   obtain ⟨t',rfl⟩:=ry
   have e:pyEq .non (.int e2)=false:=by simp [pyEq]
   rw [e]
   exact ⟨.none_int _ _,.none_int _ _⟩
  | str e2 =>
   obtain rfl:x=V.non:=hx.non
   obtain rfl:v=Value.none:=rx
   obtain rfl:=hy.str.1
   obtain ⟨t',rfl⟩:=ry
   have e:pyEq .non (.str e2)=false:=by simp [pyEq]
   rw [e]
   exact ⟨.none_str _ _,.none_str _ _⟩
  | tup e2 =>
   obtain rfl:x=V.non:=hx.non
   obtain rfl:v=Value.none:=rx
   obtain ⟨b,ws,its2,rfl,rfl,q2,r2,p2⟩:=seqT hy ry
   have e:pyEq .non (.tup e2)=false:=by simp [pyEq]
   rw [e]
   exact ⟨.none_tuple p2 hu0,.none_tuple p2 hu0⟩
  | lst e2 =>
   obtain rfl:x=V.non:=hx.non
   obtain rfl:v=Value.none:=rx
   obtain ⟨b,ws,its2,rfl,rfl,q2,r2,p2⟩:=seqL hy ry
   have e:pyEq .non (.lst e2)=false:=by simp [pyEq]
   rw [e]
   exact ⟨.none_list p2 hu0,.none_list p2 hu0⟩
 | bl e1 =>
  cases py with
  | non =>
   obtain rfl:=hx.bl
   obtain rfl:v=Value.bool _:=rx
   obtain rfl:y=V.non:=hy.non
   obtain rfl:u=Value.none:=ry
   have e:pyEq (.bl e1) .non=false:=by simp [pyEq]
   rw [e]
   exact ⟨.bool_none _,.bool_none _⟩
  | bl e2 =>
   obtain rfl:=hx.bl
   obtain rfl:v=Value.bool _:=rx
   obtain rfl:=hy.bl
   obtain rfl:u=Value.bool _:=ry
   rw [pyEq]
   exact ⟨.bool_bool _ _,.bool_bool _ _⟩
  | int e2 =>
   obtain rfl:=hx.bl
   obtain rfl:v=Value.bool _:=rx
   obtain rfl:=hy.int
   obtain ⟨t',rfl⟩:=ry
   rw [pyEq]
   exact ⟨.bool_int _ _ _,.bool_int _ _ _⟩
  | str e2 =>
   obtain rfl:=hx.bl
   obtain rfl:v=Value.bool _:=rx
   obtain rfl:=hy.str.1
   obtain ⟨t',rfl⟩:=ry
   have e:pyEq (.bl e1) (.str e2)=false:=by simp [pyEq]
   rw [e]
   exact ⟨.bool_str _ _ _,.bool_str _ _ _⟩
  | tup e2 =>
   obtain rfl:=hx.bl
   obtain rfl:v=Value.bool _:=rx
   obtain ⟨b,ws,its2,rfl,rfl,q2,r2,p2⟩:=seqT hy ry
   have e:pyEq (.bl e1) (.tup e2)=false:=by simp [pyEq]
   rw [e]
   exact ⟨.bool_tuple _ p2 hu0,.bool_tuple _ p2 hu0⟩
  | lst e2 =>
   obtain rfl:=hx.bl
   obtain rfl:v=Value.bool _:=rx
   obtain ⟨b,ws,its2,rfl,rfl,q2,r2,p2⟩:=seqL hy ry
   have e:pyEq (.bl e1) (.lst e2)=false:=by simp [pyEq]
   rw [e]
   exact ⟨.bool_list _ p2 hu0,.bool_list _ p2 hu0⟩
 | int e1 =>
  cases py with
  | non =>
   obtain rfl:=hx.int
   obtain ⟨t,rfl⟩:=rx
   obtain rfl:y=V.non:=hy.non
   obtain rfl:u=Value.none:=ry
   have e:pyEq (.int e1) .non=false:=by simp [pyEq]
   rw [e]
   exact ⟨.int_none _ _,.int_none _ _⟩
  | bl e2 =>
   obtain rfl:=hx.int
   obtain ⟨t,rfl⟩:=rx
   obtain rfl:=hy.bl
   obtain rfl:u=Value.bool _:=ry
   rw [pyEq]
   exact ⟨.int_bool _ _ _,.int_bool _ _ _⟩
  | int e2 =>
   obtain rfl:=hx.int
   obtain ⟨t,rfl⟩:=rx
   obtain rfl:=hy.int
   obtain ⟨t',rfl⟩:=ry
   rw [pyEq]
   exact ⟨.int_int _ _ _ _,.int_int _ _ _ _⟩
  | str e2 =>
   obtain rfl:=hx.int
   obtain ⟨t,rfl⟩:=rx
   obtain rfl:=hy.str.1
   obtain ⟨t',rfl⟩:=ry
   have e:pyEq (.int e1) (.str e2)=false:=by simp [pyEq]
   rw [e]
   exact ⟨.int_str _ _ _ _,.int_str _ _ _ _⟩
  | tup e2 =>
   obtain rfl:=hx.int
   obtain ⟨t,rfl⟩:=rx
   obtain ⟨b,ws,its2,rfl,rfl,q2,r2,p2⟩:=seqT hy ry
   have e:pyEq (.int e1) (.tup e2)=false:=by simp [pyEq]
   rw [e]
   exact ⟨.int_tuple _ _ p2 hu0,.int_tuple _ _ p2 hu0⟩
  | lst e2 =>
   obtain rfl:=hx.int
   obtain ⟨t,rfl⟩:=rx
   obtain ⟨b,ws,its2,rfl,rfl,q2,r2,p2⟩:=seqL hy ry
   have e:pyEq (.int e1) (.lst e2)=false:=by simp [pyEq]
   rw [e]
   exact ⟨.int_list _ _ p2 hu0,.int_list _ _ p2 hu0⟩
 | str e1 =>
  cases py with
  | non =>
   obtain rfl:=hx.str.1
   obtain ⟨t,rfl⟩:=rx
   obtain rfl:y=V.non:=hy.non
   obtain rfl:u=Value.none:=ry
   have e:pyEq (.str e1) .non=false:=by simp [pyEq]
   rw [e]
   exact ⟨.str_none _ _,.str_none _ _⟩
  | bl e2 =>
   obtain rfl:=hx.str.1
   obtain ⟨t,rfl⟩:=rx
   obtain rfl:=hy.bl
   obtain rfl:u=Value.bool _:=ry
   have e:pyEq (.str e1) (.bl e2)=false:=by simp [pyEq]
   rw [e]
   exact ⟨.str_bool _ _ _,.str_bool _ _ _⟩
  | int e2 =>
   obtain rfl:=hx.str.1
   obtain ⟨t,rfl⟩:=rx
   obtain rfl:=hy.int
   obtain ⟨t',rfl⟩:=ry
   have e:pyEq (.str e1) (.int e2)=false:=by simp [pyEq]
   rw [e]
   exact ⟨.str_int _ _ _ _,.str_int _ _ _ _⟩
  | str e2 =>
   obtain rfl:=hx.str.1
   obtain ⟨t,rfl⟩:=rx
   obtain rfl:=hy.str.1
   obtain ⟨t',rfl⟩:=ry
   have e:pyEq (.str e1) (.str e2)=((⟨e1.toArray⟩:Str)==⟨e2.toArray⟩):=by rw [str_eq,pyEq]
   rw [e]
   exact ⟨.str_str _ _ _ _,.str_str _ _ _ _⟩
  | tup e2 =>
   obtain rfl:=hx.str.1
   obtain ⟨t,rfl⟩:=rx
   obtain ⟨b,ws,its2,rfl,rfl,q2,r2,p2⟩:=seqT hy ry
   have e:pyEq (.str e1) (.tup e2)=false:=by simp [pyEq]
   rw [e]
   exact ⟨.str_tuple _ _ p2 hu0,.str_tuple _ _ p2 hu0⟩
  | lst e2 =>
   obtain rfl:=hx.str.1
   obtain ⟨t,rfl⟩:=rx
   obtain ⟨b,ws,its2,rfl,rfl,q2,r2,p2⟩:=seqL hy ry
   have e:pyEq (.str e1) (.lst e2)=false:=by simp [pyEq]
   rw [e]
   exact ⟨.str_list _ _ p2 hu0,.str_list _ _ p2 hu0⟩
 | tup e1 =>
  cases py with
  | non =>
   obtain ⟨a,vs,its,rfl,rfl,q1,r1,p1⟩:=seqT hx rx
   obtain rfl:y=V.non:=hy.non
   obtain rfl:u=Value.none:=ry
   have e:pyEq (.tup e1) .non=false:=by simp [pyEq]
   rw [e]
   exact ⟨.tuple_none p1 hu0,.tuple_none p1 hu0⟩
  | bl e2 =>
   obtain ⟨a,vs,its,rfl,rfl,q1,r1,p1⟩:=seqT hx rx
   obtain rfl:=hy.bl
   obtain rfl:u=Value.bool _:=ry
   have e:pyEq (.tup e1) (.bl e2)=false:=by simp [pyEq]
   rw [e]
   exact ⟨.tuple_bool _ p1 hu0,.tuple_bool _ p1 hu0⟩
  | int e2 =>
   obtain ⟨a,vs,its,rfl,rfl,q1,r1,p1⟩:=seqT hx rx
   obtain rfl:=hy.int
   obtain ⟨t',rfl⟩:=ry
   have e:pyEq (.tup e1) (.int e2)=false:=by simp [pyEq]
   rw [e]
   exact ⟨.tuple_int _ _ p1 hu0,.tuple_int _ _ p1 hu0⟩
  | str e2 =>
   obtain ⟨a,vs,its,rfl,rfl,q1,r1,p1⟩:=seqT hx rx
   obtain rfl:=hy.str.1
   obtain ⟨t',rfl⟩:=ry
   have e:pyEq (.tup e1) (.str e2)=false:=by simp [pyEq]
   rw [e]
   exact ⟨.tuple_str _ _ p1 hu0,.tuple_str _ _ p1 hu0⟩
  | tup e2 =>
   obtain ⟨a,vs,its,rfl,rfl,q1,r1,p1⟩:=seqT hx rx
   obtain ⟨b,ws,its2,rfl,rfl,q2,r2,p2⟩:=seqT hy ry
   have hn:0<n:=by simp at hd;lia
   have hd':deps e1≤n - 1∨deps e2≤n - 1:=by simp at hd;lia
   have it:=zp8 (n:=n - 1) (A:=A) (ih hn) q1 q2 r1 r2 hd' (by lia)
   have l1:=q1.length
   have l2:=q2.length
   have m1:=r1.length
   have m2:=r2.length
   have rc:RcAt A s (.ref a) (.ref b) (pyEq (.tup e1) (.tup e2)):=by
    have z:=RcAt.tuples p1 p2 hu0 it
    rw [pyEq,zm5]
    simp only [List.size_toArray] at z
    rw [l1,l2,m1,m2]
    exact z
   refine ⟨rc,?_⟩
   by_cases hab:a=b
   ·subst hab
    have e:=RW.inj I hx hy
    injection e with e
    subst e
    rw [pyEq_refl]
    exact EqAt.same _
   ·exact .of_refs hab rc
  | lst e2 =>
   obtain ⟨a,vs,its,rfl,rfl,q1,r1,p1⟩:=seqT hx rx
   obtain ⟨b,ws,its2,rfl,rfl,q2,r2,p2⟩:=seqL hy ry
   have e:pyEq (.tup e1) (.lst e2)=false:=by simp [pyEq]
   rw [e]
   exact ⟨.tuple_list p1 p2 hu0,.tuple_list p1 p2 hu0⟩
 | lst e1 =>
  cases py with
  | non =>
   obtain ⟨a,vs,its,rfl,rfl,q1,r1,p1⟩:=seqL hx rx
   obtain rfl:y=V.non:=hy.non
   obtain rfl:u=Value.none:=ry
   have e:pyEq (.lst e1) .non=false:=by simp [pyEq]
   rw [e]
   exact ⟨.list_none p1 hu0,.list_none p1 hu0⟩
  | bl e2 =>
   obtain ⟨a,vs,its,rfl,rfl,q1,r1,p1⟩:=seqL hx rx
   obtain rfl:=hy.bl
   obtain rfl:u=Value.bool _:=ry
   have e:pyEq (.lst e1) (.bl e2)=false:=by simp [pyEq]
   rw [e]
   exact ⟨.list_bool _ p1 hu0,.list_bool _ p1 hu0⟩
  | int e2 =>
   obtain ⟨a,vs,its,rfl,rfl,q1,r1,p1⟩:=seqL hx rx
   obtain rfl:=hy.int
   obtain ⟨t',rfl⟩:=ry
   have e:pyEq (.lst e1) (.int e2)=false:=by simp [pyEq]
   rw [e]
   exact ⟨.list_int _ _ p1 hu0,.list_int _ _ p1 hu0⟩
  | str e2 =>
   obtain ⟨a,vs,its,rfl,rfl,q1,r1,p1⟩:=seqL hx rx
   obtain rfl:=hy.str.1
   obtain ⟨t',rfl⟩:=ry
   have e:pyEq (.lst e1) (.str e2)=false:=by simp [pyEq]
   rw [e]
   exact ⟨.list_str _ _ p1 hu0,.list_str _ _ p1 hu0⟩
  | tup e2 =>
   obtain ⟨a,vs,its,rfl,rfl,q1,r1,p1⟩:=seqL hx rx
   obtain ⟨b,ws,its2,rfl,rfl,q2,r2,p2⟩:=seqT hy ry
   have e:pyEq (.lst e1) (.tup e2)=false:=by simp [pyEq]
   rw [e]
   exact ⟨.list_tuple p1 p2 hu0,.list_tuple p1 p2 hu0⟩
  | lst e2 =>
   obtain ⟨a,vs,its,rfl,rfl,q1,r1,p1⟩:=seqL hx rx
   obtain ⟨b,ws,its2,rfl,rfl,q2,r2,p2⟩:=seqL hy ry
   have hn:0<n:=by simp at hd;lia
   have hd':deps e1≤n - 1∨deps e2≤n - 1:=by simp at hd;lia
   have it:=zp8 (n:=n - 1) (A:=A) (ih hn) q1 q2 r1 r2 hd' (by lia)
   have l1:=q1.length
   have l2:=q2.length
   have m1:=r1.length
   have m2:=r2.length
   have rc:RcAt A s (.ref a) (.ref b) (pyEq (.lst e1) (.lst e2)):=by
    by_cases hz:its.length=its2.length
    ·have z:=RcAt.lists p1 p2 (by simpa using hz) hu0 it
     rw [pyEq,zm5]
     simp only [List.size_toArray] at z
     rw [l1,l2,m1,m2,← hz,Nat.min_self,beq_self_eq_true,Bool.and_true]
     exact z
    ·have z:=RcAt.lists_lengths p1 p2 (by simpa using hz) hu0
     have e:pyEq (.lst e1) (.lst e2)=false:=by
      rw [pyEq,zm5,Bool.and_eq_false_iff]
      exact .inr (by rw [beq_eq_false_iff_ne];lia)
     rw [e]
     exact z
   refine ⟨rc,?_⟩
   by_cases hab:a=b
   ·subst hab
    have e:=RW.inj I hx hy
    injection e with e
    subst e
    rw [pyEq_refl]
    exact EqAt.same _
   ·exact .of_refs hab rc
theorem eq_at {α:Al} {st:Store} (I:Inv X pins σ H s):∀ (n:Nat) (px py:PV) (x y:V) (v u:Value) (A:Around),RW X.K α st H px x→RW X.K α st H py y→RelV x v→RelV y u →
  (dep px≤n∨dep py≤n)→A.units+n+1<cLine→RcAt A s v u (pyEq px py)∧EqAt A s v u (pyEq px py):=by
 intro n
 induction n with
 | zero =>
  intro px py x y v u A hx hy rx ry hd hu
  exact zE8 I (fun h=>absurd h (by lia)) px py x y v u A hx hy rx ry hd hu
 | succ n ih=>exact fun px py x y v u A hx hy rx ry hd hu=>zE8 I (fun _=>ih) px py x y v u A hx hy rx ry hd hu
theorem zk7 (hu:X.A.units+200<cLine):Op2 X (compareOp .Eq) (fun x y=>if depOk (dep x) (dep y) then some (.bl (pyEq x y)) else none):=by
 rintro pins s σ H x y v u Q I rx ry ⟨α,st,px,py,z,r,hx,hy,hz,q⟩
 simp only [Option.ite_none_right_eq_some,Option.some.injEq] at hz
 obtain ⟨hd,hz⟩:=hz
 have hd':dep px≤100∨dep py≤100:=by simpa [depOk] using hd
 exact (eq_at I 100 px py x y v u X.A hx hy rx ry hd' (by lia)).1 _ _ _ _ ⟨.bl _,H,I,rfl,q _ _ (Same.refl H) (by rw [← hz,RP])⟩
end
open PySem L2 PySem.SeqAt PySem.StrLaws
open PySem.Builtin PySem.Builtin.Str
theorem zT2 (x y:Str) (hi k f:Nat):∀ l:List Nat,(forIn l ((#[k]:Array Nat),f) (occBody x y hi 1)).run.fst=#[k]
 | []=>rfl
 | a::l=>by
  rw [List.forIn_cons]
  unfold occBody
  split
  ·rename_i hc
   simp at hc
  ·exact zT2 x y hi k f l
theorem sub_iff (cs bs:List Nat) (i:Nat) (hi:i≤cs.length):(i+bs.length≤cs.length∧subAt ⟨cs.toArray⟩ ⟨bs.toArray⟩ i=true)↔bs.isPrefixOf (cs.drop i)=true:=by
 rw [List.isPrefixOf_iff_prefix,List.prefix_iff_eq_take]
 unfold subAt
 have e:(⟨bs.toArray⟩:Str).length=bs.length:=zk8 bs
 rw [e]
 have e2:(cs.toArray.extract i (i+bs.length))=((cs.drop i).take bs.length).toArray:=by
  apply Array.ext'
  simp [List.extract_eq_take_drop]
 constructor
 ·rintro ⟨_,h⟩
  have h':cs.toArray.extract i (i+bs.length)=bs.toArray:=by simpa using h
  rw [e2] at h'
  have:=congrArg Array.toList h'
  simpa using this.symm
 ·intro h
  have hl:=congrArg List.length h
  rw [List.length_take,List.length_drop] at hl
  refine ⟨by lia,?_⟩
  show (cs.toArray.extract i (i+bs.length)==bs.toArray)=true
  rw [e2,← h]
  simp
theorem zU2 (cs bs:List Nat):∀ (n i:Nat),i+n=cs.length →
  (forIn (List.range' i (n+1)) ((#[]:Array Nat),0) (occBody ⟨cs.toArray⟩ ⟨bs.toArray⟩ cs.length 1)).run.fst.toList=match findIn bs (cs.drop i) i with | some k=>[k] | none=>[]
 | 0,i,h=>by
  have hd:cs.drop i=[]:=List.drop_eq_nil_of_le (by lia)
  rw [List.range'_succ,List.forIn_cons]
  have q:=sub_iff cs bs i (by lia)
  rw [hd] at q ⊢
  unfold occBody
  have e:(⟨bs.toArray⟩:Str).length=bs.length:=zk8 bs
  by_cases hb:bs=[]
  ·subst hb
   have hs:=q.mpr (by simp)
   rw [if_pos (by rw [e];simp;exact ⟨by lia,hs.2⟩)]
   simp [findIn,List.range']
  ·have hs:¬ bs.isPrefixOf ([]:List Nat)=true:=by cases bs <;> simp at hb ⊢
   rw [if_neg (by
    intro hc
    rw [e] at hc
    simp at hc
    exact hs (q.mp ⟨by lia,by have:=hc.2;simpa using this⟩))]
   simp [findIn,List.range',hb]
 | n+1,i,h=>by
  rw [List.range'_succ,List.forIn_cons]
  have q:=sub_iff cs bs i (by lia)
  obtain ⟨c,hc⟩:∃ c,cs.drop i=c::cs.drop (i+1):=⟨cs[i],by rw [List.drop_eq_getElem_cons (by lia)]⟩
  have e:(⟨bs.toArray⟩:Str).length=bs.length:=zk8 bs
  rw [hc] at q ⊢
  rw [findIn]
  unfold occBody
  by_cases hp:bs.isPrefixOf (c::cs.drop (i+1))=true
  ·have hs:=q.mpr hp
   rw [if_pos (by rw [e];simp;exact ⟨by lia,hs.2⟩),if_pos hp]
   have:=zT2 ⟨cs.toArray⟩ ⟨bs.toArray⟩ cs.length i (i+(⟨bs.toArray⟩:Str).length) (List.range' (i+1) (n+1))
   unfold occBody at this
   simpa using congrArg Array.toList this
  ·rw [if_neg (by
    intro hc
    rw [e] at hc
    simp at hc
    exact hp (q.mp ⟨by lia,by have:=hc.2;simpa using this⟩)),if_neg hp]
   have ih:=zU2 cs bs n (i+1) (by lia)
   unfold occBody at ih
   simpa using ih
theorem occ_find (cs bs:List Nat):occurrences ⟨cs.toArray⟩ ⟨bs.toArray⟩ 0 (Str.length ⟨cs.toArray⟩) 1=match findIn bs cs 0 with | some k=>[k] | none=>[]:=by
 rw [occ_eq,zk8]
 have:=zU2 cs bs cs.length 0 (by lia)
 rw [List.drop_zero] at this
 exact this
theorem zF3 (bs:List Nat):∀ (cs:List Nat) (k:Nat),infixOf bs cs=(findIn bs cs k).isSome
 | [],k=>by rw [infixOf,findIn];split <;> simp_all
 | c::r,k=>by
  rw [infixOf,findIn]
  split
  ·rename_i h;rw [h];rfl
  ·rename_i h;rw [zF3 bs r (k+1)];simp at h;simp [h]
section
variable {X:Cx}
theorem zY7 (hu:X.A.units+200<cLine):Op2 X (compareOp .In) (fun x y=>(isIn x y).map .bl):=by
 rintro pins s σ H x y v u Q I rx ry ⟨α,st,px,py,z,r,hx,hy,hz,q⟩
 obtain ⟨b,hb,hz2⟩:=Option.map_eq_some_iff.mp hz
 have fin:EP X pins σ Q (.bool b) s:=⟨.bl b,H,I,rfl,q _ _ (Same.refl H) (by rw [← hz2,RP])⟩
 have seq:∀ {xs:List PV} {vs:List V} {its:List Value},RPs X.K H (Live α st) xs vs→Vals vs its→depOk (dep px) (deps xs)=true →
   ∃ e:Value→Bool,(∀ w,w∈its.toArray→EqAt X.A.in1 s w v (e w))∧its.toArray.any e=itemIn px xs:=by
  intro xs vs its h r1 hd
  have hd':dep px≤100∨deps xs≤100:=by simpa [depOk] using hd
  classical
  have l1:=h.length
  have l2:=r1.length
  have val:∀ (j:Nat) (hj:j<its.length),∃ y,xs[j]?=some y∧EqAt X.A.in1 s its[j] v (pyEq y px)∧∃ w,RP X.K H (Live α st) y w∧RelV w its[j]:=fun j hj=>by
   obtain ⟨y,w,a1,a2,a3,a4⟩:=h.at r1 hj
   have da:=zD2 a1
   exact ⟨y,a1,(eq_at I 100 y px w x its[j] v X.A.in1 (.inl a3) hx a4 rx (by lia) (by show X.A.units+1+100+1<cLine;lia)).2,w,a3,a4⟩
  refine ⟨fun w=>decide (∃ (j:Nat) (y:PV),its[j]?=some w∧xs[j]?=some y∧pyEq y px=true),fun w hw=>?_,?_⟩
  ·have hw':w∈its:=by simpa using hw
   obtain ⟨j,hj,rfl⟩:=List.getElem_of_mem hw'
   obtain ⟨y,a1,a2,w1,a3,a4⟩:=val j hj
   have e:decide (∃ (k:Nat) (y:PV),its[k]?=some its[j]∧xs[k]?=some y∧pyEq y px=true)=pyEq y px:=by
    rw [Bool.eq_iff_iff,decide_eq_true_eq]
    constructor
    ·rintro ⟨k,y',b1,b2,b3⟩
     obtain ⟨hk,b1⟩:=List.getElem?_eq_some_iff.mp b1
     obtain ⟨y2,c1,_,w2,c3,c4⟩:=val k hk
     rw [b2] at c1;cases c1
     rw [b1] at c4
     have:=a4.inj c4
     subst this
     rw [RP.inj I y y' _ a3 c3]
     exact b3
    ·intro hp
     exact ⟨j,y,List.getElem?_eq_getElem hj,a1,hp⟩
   dsimp only
   rw [e]
   exact a2
  ·rw [Bool.eq_iff_iff]
   unfold itemIn
   simp only [List.any_toArray,List.any_eq_true,decide_eq_true_eq]
   constructor
   ·rintro ⟨w,_,j,y,b1,b2,b3⟩
    exact ⟨y,List.mem_of_getElem? b2,b3⟩
   ·rintro ⟨y,hy',b3⟩
    obtain ⟨j,hj,rfl⟩:=List.getElem_of_mem hy'
    have hj':j<its.length:=by lia
    exact ⟨its[j],List.getElem_mem hj',j,xs[j],List.getElem?_eq_getElem hj',List.getElem?_eq_getElem hj,b3⟩
 cases py with
 | str cs =>
  cases px with
  | str bs =>
   have hb':infixOf bs cs=b:=by simpa [isIn] using hb
   refine op_in_str pins s σ H x y v u Q I rx ry ⟨_,_,hx.str.1,hy.str.1,?_⟩
   rw [occ_find]
   have e:(!(match findIn bs cs 0 with | some k=>[k] | none=>([]:List Nat)).isEmpty)=b:=by
    rw [← hb',zF3 bs cs 0]
    cases findIn bs cs 0 <;> rfl
   rw [e]
   exact q _ _ (Same.refl H) (by rw [← hz2,RP])
  | _=>simp [isIn] at hb
 | tup xs =>
  obtain ⟨a,vs,rfl,h1,h2⟩:=hy.tup
  cases ry
  obtain ⟨its,r1,p,_⟩:=I.tuple h1
  have hc:depOk (dep px) (deps xs)=true∧itemIn px xs=b:=by cases px <;> simpa [isIn] using hb
  obtain ⟨e,he,hany⟩:=seq h2 r1 hc.1
  exact in_tupleAt e p he (by rw [hany,hc.2];exact fin)
 | lst xs =>
  obtain ⟨a,vs,rfl,h1,h2⟩:=hy.lst
  cases ry
  obtain ⟨its,r1,p,_⟩:=I.list h1
  have hc:depOk (dep px) (deps xs)=true∧itemIn px xs=b:=by cases px <;> simpa [isIn] using hb
  obtain ⟨e,he,hany⟩:=seq h2 r1 hc.1
  exact in_listAt e p.isList he (by rw [hany,hc.2];exact fin)
 | _=>cases px <;> simp [isIn] at hb
end
open PySem L2 PySem.SeqAt
section
variable {X:Cx} {C:CallF} {a b c:Expr} {ia ib ic:E} {pos:Pos} {rest:List Expr}
theorem st_not (ha:ST X C a ia):ST X C (.UnaryOp .Not a pos) (.not ia) :=
 PT.mono (pt_not ha) fun σ H Q h_=>by
  obtain ⟨env,α,st,k,st',at',e,q⟩:=h_
  rw [ev_not] at e
  obtain ⟨k',st1,e1,e⟩:=Res.bindB_inv e
  cases e
  exact ⟨env,α,st,k',st',at',e1,q⟩
noncomputable abbrev SW (X:Cx) (C:CallF) (e:Expr) (ir:E):Prop:=PW X e (tT X.K C ir)
theorem sw_pt {e:Expr} {ir:E} (h:SW X C e ir):ST X C e ir:=h.pt
theorem sw_and1 (ha:ST X C a ia):SW X C (.BoolOp .And [a] pos) ia:=pw_and1 ha
theorem sw_or1 (ha:ST X C a ia):SW X C (.BoolOp .Or [a] pos) ia:=pw_or1 ha
theorem sw_and (ha:ST X C a ia) (hb:SW X C (.BoolOp .And (b::rest) pos) ib):SW X C (.BoolOp .And (a::b::rest) pos) (.and ia ib) :=
 PW.mono (pw_and ha hb) fun σ H Q h_=>by
  obtain ⟨env,α,st,k,st',at',e,q⟩:=h_
  rw [ev_and] at e
  obtain ⟨k',st1,e1,e⟩:=Res.bindB_inv e
  refine ⟨env,α,st,k',st1,at',e1,fun H1 α1 x1 r1=>?_⟩
  cases k' with
  | true=>exact ⟨env,α1,st1,k,st',at'.next x1 r1,e,fun H2 α2 x2 r2=>q H2 α2 (x1.trans x2) r2⟩
  | false=>cases e;exact q H1 α1 x1 r1
theorem sw_or (ha:ST X C a ia) (hb:SW X C (.BoolOp .Or (b::rest) pos) ib):SW X C (.BoolOp .Or (a::b::rest) pos) (.or ia ib) :=
 PW.mono (pw_or ha hb) fun σ H Q h_=>by
  obtain ⟨env,α,st,k,st',at',e,q⟩:=h_
  rw [ev_or] at e
  obtain ⟨k',st1,e1,e⟩:=Res.bindB_inv e
  refine ⟨env,α,st,k',st1,at',e1,fun H1 α1 x1 r1=>?_⟩
  cases k' with
  | false=>exact ⟨env,α1,st1,k,st',at'.next x1 r1,e,fun H2 α2 x2 r2=>q H2 α2 (x1.trans x2) r2⟩
  | true=>cases e;exact q H1 α1 x1 r1
theorem bl_of {K:PySem.W.Frag} {α:Al} {st:Store} {H:Hp} {k:Bool} {w:V} (h:RV K α st H (.p (.bl k)) w):w=.bl k:=by simpa [RV,RP] using h
theorem se_one {op} (h:SE X C a ia):SE X C (.BoolOp op [a] pos) ia:=pe_one h
theorem se_and (ha:SE X C a ia) (hb:SE X C (.BoolOp .And (b::rest) pos) ib):SE X C (.BoolOp .And (a::b::rest) pos) (.and ia ib) :=
 PE.mono (pe_and ha hb) fun σ H Q h_=>by
  obtain ⟨env,α,st,v,st',at',e,q⟩:=h_
  rw [ev_and] at e
  obtain ⟨k',st1,e1,e⟩:=Res.bindB_inv e
  refine ⟨env,α,st,_,st1,at',e1,fun w H1 α1 x1 r1 v1=>⟨k',bl_of v1,?_⟩⟩
  cases k' with
  | true=>exact ⟨env,α1,st1,v,st',at'.next x1 r1,e,fun w H2 α2 x2 r2=>q w H2 α2 (x1.trans x2) r2⟩
  | false=>cases e;exact q _ H1 α1 x1 r1 (by rw [RV,RP])
theorem se_or (ha:SE X C a ia) (hb:SE X C (.BoolOp .Or (b::rest) pos) ib):SE X C (.BoolOp .Or (a::b::rest) pos) (.or ia ib) :=
 PE.mono (pe_or ha hb) fun σ H Q h_=>by
  obtain ⟨env,α,st,v,st',at',e,q⟩:=h_
  rw [ev_or] at e
  obtain ⟨k',st1,e1,e⟩:=Res.bindB_inv e
  refine ⟨env,α,st,_,st1,at',e1,fun w H1 α1 x1 r1 v1=>⟨k',bl_of v1,?_⟩⟩
  cases k' with
  | false=>exact ⟨env,α1,st1,v,st',at'.next x1 r1,e,fun w H2 α2 x2 r2=>q w H2 α2 (x1.trans x2) r2⟩
  | true=>cases e;exact q _ H1 α1 x1 r1 (by rw [RV,RP])
theorem se_ite (hc:ST X C c ic) (ha:SE X C a ia) (hb:SE X C b ib):SE X C (.IfExp c a b pos) (.ite ic ia ib) :=
 PE.mono (pe_ifExp hc ha hb) fun σ H Q h_=>by
  obtain ⟨env,α,st,v,st',at',e,q⟩:=h_
  rw [ev_ite] at e
  obtain ⟨k',st1,e1,e⟩:=Res.bindB_inv e
  refine ⟨env,α,st,k',st1,at',e1,fun H1 α1 x1 r1=>?_⟩
  cases k' with
  | true=>exact ⟨env,α1,st1,v,st',at'.next x1 r1,e,fun w H2 α2 x2 r2=>q w H2 α2 (x1.trans x2) r2⟩
  | false=>exact ⟨env,α1,st1,v,st',at'.next x1 r1,e,fun w H2 α2 x2 r2=>q w H2 α2 (x1.trans x2) r2⟩
theorem st_cmp {op:CmpOp} {g:PV→PV→Option PV} {ir:E} (ho:Op2 X (compareOp op) g) (ha:SE X C a ia) (hb:SE X C b ib) (hm:behindInMarks op b=false)
  (hi:∀ env st,evalE C ir env st=(evalE C ia env st).bind fun x st=>(evalE C ib env st).bind fun y st=>op2 g x y st):ST X C (.Compare a [op] [b] pos) ir :=
 PT.mono (pt_cmpR ho ha hb hm) fun σ H Q h_=>by
  obtain ⟨env,α,st,k,st',at',e,q⟩:=h_
  rw [hi] at e
  obtain ⟨va,st1,e1,e⟩:=Res.bind_inv e
  obtain ⟨vb,st2,e2,e⟩:=Res.bind_inv e
  obtain ⟨x,y,u,h1,h2,h3,h4,h5⟩:=zH0 e
  cases h4
  subst h5
  refine ⟨env,α,st,va,st1,at',e1,fun w H1 α1 x1 r1 v1=>?_⟩
  refine ⟨env,α1,st1,vb,st',at'.next x1 r1,e2,fun w2 H2 α2 x2 r2 v2=>?_⟩
  refine ⟨α2,st',x,y,_,r2,(x2.rv v1).view r2 h1,v2.view r2 h2,h3,fun w3 H3 s3 rp=>?_⟩
  exact ⟨k,by rw [RP] at rp;exact rp,q H3 α2 (x1.trans (x2.trans (.of_same r2 s3))) (r2.same s3)⟩
noncomputable def tPs (K:PySem.W.Frag) (C:CallF) (irs:List E):TA:=fun σ H Q=>∃ env α st vs st',At K α st H env σ∧evalEs C irs env st=.ok vs st' ∧
 ∀ ws H' α',Ext K α st H α' st' H'→RSt K α' st' H'→Paired (RV K α' st' H') vs ws→Q ws H'
noncomputable abbrev SA (X:Cx) (C:CallF) (es:List Expr) (irs:List E):Prop:=PA X es (tPs X.K C irs)
theorem PA.mono {es:List Expr} {t t':TA} (h:PA X es t) (m:∀ σ H Q,t' σ H Q→t σ H Q):PA X es t':=fun pos pins s σ H Q I q=>h pos pins s σ H Q I (m _ _ _ q)
theorem sa_nil:SA X C [] []:=PA.mono pa_nil fun σ H Q h_=>by
 obtain ⟨env,α,st,vs,st',at',e,q⟩:=h_
 rw [evEs_nil] at e
 cases e
 exact q [] H α .refl at'.rs .nil
theorem sa_cons {es:List Expr} {irs:List E} (ha:SE X C a ia) (hr:SA X C es irs) (hs:starEach (a::es) X.env=(false,eval a X.env)::starEach es X.env):SA X C (a::es) (ia::irs) :=
 PA.mono (pa_cons ha hr hs) fun σ H Q h_=>by
  obtain ⟨env,α,st,vs,st',at',e,q⟩:=h_
  rw [evEs_cons] at e
  obtain ⟨v,st1,e1,e⟩:=Res.bind_inv e
  obtain ⟨vr,st2,e2,e⟩:=Res.bind_inv e
  cases e
  exact ⟨env,α,st,v,st1,at',e1,fun w H1 α1 x1 r1 v1=>⟨env,α1,st1,vr,st',at'.next x1 r1,e2,fun ws H2 α2 x2 r2 p=>q _ H2 α2 (x1.trans x2) r2 (.cons (x2.rv v1) p)⟩⟩
theorem zD4:∀ {irs:List E} {env:Env} {st st':Store} {xs:List PV},evalPs C irs env st=.ok xs st'→evalEs C irs env st=.ok (xs.map .p) st'
 | [],env,st,st',xs,h=>by rw [evPs_nil] at h;cases h;rw [evEs_nil];rfl
 | i::r,env,st,st',xs,h=>by
  rw [evPs_cons] at h
  obtain ⟨x,st1,e1,h⟩:=Res.bindP_inv h
  obtain ⟨ys,st2,e2,h⟩:=Res.bind_inv h
  cases h
  rw [evEs_cons,e1,Res.bind_ok,zD4 e2]
  rfl
theorem zS7 {K:PySem.W.Frag} {α:Al} {st:Store} {H:Hp}:∀ {xs:List PV} {ws:List V},Paired (RV K α st H) (xs.map .p) ws→RPs K H (Live α st) xs ws
 | [],ws,h=>by cases h;rw [RPs]
 | x::r,ws,h=>by
  cases h with
  | cons q t=>rw [RPs];exact ⟨_,_,rfl,q,zS7 t⟩
theorem zw3:∀ {irs:List E} {env:Env} {st st':Store} {xs:List PV},evalPs C irs env st=.ok xs st'→xs.length=irs.length
 | [],env,st,st',xs,h=>by rw [evPs_nil] at h;cases h;rfl
 | i::r,env,st,st',xs,h=>by
  rw [evPs_cons] at h
  obtain ⟨x,st1,e1,h⟩:=Res.bindP_inv h
  obtain ⟨ys,st2,e2,h⟩:=Res.bind_inv h
  cases h
  simp [zw3 e2]
theorem se_tup {es:List Expr} {irs:List E} {x1} (h:SA X C es irs) (hl:es.length≤1000) (hi:irs.length=es.length):SE X C (.Tuple es x1 pos) (.tup irs) :=
 PE.mono (pe_tup h) fun σ H Q h_=>by
  obtain ⟨env,α,st,v,st',at',e,q⟩:=h_
  rw [ev_tup] at e
  obtain ⟨xs,st1,e1,e⟩:=Res.bind_inv e
  cases e
  refine ⟨env,α,st,_,st',at',zD4 e1,fun ws H1 α1 x1 r1 p=>?_⟩
  have rp:=zS7 p
  refine ⟨?_,fun a ha=>?_⟩
  ·rw [← rp.length,zw3 e1,hi]
   exact Nat.le_trans hl (by decide)
  ·have s1:Same H1 (upd H1 a (.tup ws)):=zh7 ha _
   exact q _ _ α1 (x1.trans (.of_same r1 s1)) (r1.same s1) (by rw [RV,RP];exact ⟨a,ws,rfl,SqT.of zf5,(Ext.of_same r1 s1).rps rp⟩)
theorem se_lst {es:List Expr} {irs:List E} (h:SA X C es irs) (hl:es.length≤1000) (hi:irs.length=es.length):SE X C (.List es pos) (.list false irs) :=
 PE.mono (pe_lst h) fun σ H Q h_=>by
  obtain ⟨env,α,st,v,st',at',e,q⟩:=h_
  rw [ev_list] at e
  obtain ⟨xs,st1,e1,e⟩:=Res.bind_inv e
  simp only [mk,Bool.false_eq_true,if_false] at e
  cases e
  refine ⟨env,α,st,_,st',at',zD4 e1,fun ws H1 α1 x1 r1 p=>?_⟩
  have rp:=zS7 p
  refine ⟨?_,fun a ha=>?_⟩
  ·rw [← rp.length,zw3 e1,hi]
   exact Nat.le_trans hl (by decide)
  ·have s1:Same H1 (upd H1 a (.lst ws)):=zh7 ha _
   exact q _ _ α1 (x1.trans (.of_same r1 s1)) (r1.same s1) (by rw [RV,RP];exact ⟨a,ws,rfl,SqL.of zf5,r1.notlive ha,(Ext.of_same r1 s1).rps rp⟩)
end
open PySem L2 PySem.SeqAt PyProof.Rows
section
variable {X:Cx} {C:CallF} {a b c:Expr} {ia ib ic:E} {pos:Pos}
theorem ix_dict (hu:X.A.units+1<cLine):IxR X (fun x y H Q=>∃ a v,x=.ref a∧DGet H a y (some v)∧Q v H):=by
 intro value slice pins s σ H x y v u Q I rx ry ⟨a,w,ex,g,q⟩ hs
 subst ex
 obtain rfl:v=Value.ref a:=rx
 have hT:=zP9 I g
 have h2:wpAny (model X.prog X.w) X.A (getItem (.ref a) u) (EP X pins σ Q) X.xe s:=d_getItem hu I g ry fun w' s3 I3 rw'=>⟨w,H,I3,rw',q⟩
 unfold subscriptTail
 refine wpAny_bind ?_
 rw [getitemInPython_of_ne hT.not_modules]
 refine wpAny_bind (wpAny_specialOf hT PySem.F.slot_dict_getitem.lookup ?_)
 have fin:wpAny (model X.prog X.w) X.A (subscripted slice false (.ref a) u) (fun r s₃=>wpAny (model X.prog X.w) X.A (letTemporaryGo value (.ref a) r >>= fun _=>pure r) (EP X pins σ Q) X.xe s₃) X.xe s:=by
  rw [hs]
  exact wpAny_operating (wpAny_mono h2 (fun r s₃ h₃=>wpAny_bind (wpAny_letTemporaryGo (wpAny_pure h₃))) fun _ _ x=>x)
 first
  | exact wpAny_pure (wpAny_bind fin)
  | exact wpAny_bind (wpAny_pure (wpAny_bind fin))
  | exact wpAny_bind fin
theorem zB9 {a b:PV} {k:Key} (h1:keyOf a=some k) (h2:keyOf b=some k):a=b:=by
 cases a <;> simp only [keyOf,reduceCtorEq,Option.some.injEq] at h1 <;> cases b <;> simp only [keyOf,reduceCtorEq,Option.some.injEq] at h2 <;> subst h1
 ·cases h2;rfl
 ·cases h2
 ·cases h2
 ·injection h2 with h2
  injection h2 with h2
  exact congrArg PV.str (by simpa using (congrArg Array.toList h2).symm)
theorem rkv_get {K:PySem.W.Frag} {H:Hp} {lv:Addr→Prop} {k x:PV} {k':Key} (hk:keyOf k=some k'):∀ {kvs:List (PV×PV)} {l:List (Key×V)},RKV K H lv kvs l→dGet k kvs=some x→∃ v,valV l k'=some v∧RP K H lv x v
 | [],l,h,e=>by simp [dGet] at e
 | (k1,x1)::r,l,h,e=>by
  rw [RKV] at h
  obtain ⟨k2,v,l',rfl,h1,h2,h3⟩:=h
  rw [dGet] at e
  by_cases hc:k1=k
  ·subst hc
   rw [if_pos rfl] at e
   cases e
   rw [h1] at hk;cases hk
   exact ⟨v,zz3 rfl,h2⟩
  ·rw [if_neg hc] at e
   obtain ⟨w,g1,g2⟩:=rkv_get hk h3 e
   refine ⟨w,?_,g2⟩
   rw [zy7]
   ·exact g1
   ·intro e'
    have:k2=k':=e'
    subst this
    exact hc (zB9 h1 hk)
theorem rkv_key {K:PySem.W.Frag} {H:Hp} {lv:Addr→Prop} {k x:PV}:∀ {kvs:List (PV×PV)} {l:List (Key×V)},RKV K H lv kvs l→dGet k kvs=some x→∃ k',keyOf k=some k'
 | [],l,h,e=>by simp [dGet] at e
 | (k1,x1)::r,l,h,e=>by
  rw [RKV] at h
  obtain ⟨k2,v,l',rfl,h1,h2,h3⟩:=h
  rw [dGet] at e
  by_cases hc:k1=k
  ·subst hc;exact ⟨k2,h1⟩
  ·rw [if_neg hc] at e
   exact rkv_key h3 e
theorem RW_int {K:PySem.W.Frag} {α:Al} {st:Store} {H:Hp} {x:PV} {v:V} {k:Key} (h:RW K α st H x v) (e:keyOf x=some k):v=kV k:=by
 cases x with
 | int i=>cases e;exact h.int
 | str cs=>cases e;exact h.str.1
 | _=>cases e
theorem se_ix (hu:X.A.units+1<cLine) (ha:SE X C a ia) (hb:SE X C b ib) (hs:PlainIx b):SE X C (.Subscript a b pos) (.ix ia ib) :=
 PE.mono (pe_ix (ix_seq.or (ix_dict hu)) ha hb hs) fun σ H Q h_=>by
  obtain ⟨env,α,st,v,st',at',e,q⟩:=h_
  rw [ev_ix] at e
  obtain ⟨o,st1,e1,e⟩:=Res.bind_inv e
  obtain ⟨iv,i,st2,e2,hi,e⟩:=Res.bindV_inv e
  refine ⟨env,α,st,o,st1,at',e1,fun w H1 α1 x1 r1 v1=>?_⟩
  refine ⟨env,α1,st1,iv,st2,at'.next x1 r1,e2,fun w2 H2 α2 x2 r2 v2=>?_⟩
  have wi:=v2.view r2 hi
  have ro:=x2.rv v1
  have seq:∀ {x:PV},RW X.K α2 st2 H2 x w→okO (ixOp x i) st2=.ok v st'→(rIx X.K w w2 H2 Q):=by
   intro x rx hx
   obtain ⟨z,h1,h2,h3⟩:=zq7 hx
   subst h2 h3
   have fin:∀ {u:V},RP X.K H2 (Live α2 st') z u→Q u H2:=fun h=>q _ H2 α2 (x1.trans x2) r2 h
   cases x with
   | tup xs =>
    cases i with
    | int k =>
     obtain ⟨p,vs,rfl,g1,g2⟩:=rx.tup
     obtain ⟨j,hj,hz⟩:=Option.bind_eq_some_iff.mp (show (ixAt xs.length k).bind (fun j=>xs[j]?)=some z from h1)
     obtain ⟨u,hu1,hu2⟩:=g2.get hz
     exact .inr (.inl ⟨p,vs,k,u,rfl,wi.int,g1,by show (ixAt vs.length k).bind (fun j=>vs[j]?)=some u;rw [← g2.length,hj];exact hu1,fin hu2⟩)
    | _=>simp [ixOp] at h1
   | lst xs =>
    cases i with
    | int k =>
     obtain ⟨p,vs,rfl,g1,g2⟩:=rx.lst
     obtain ⟨j,hj,hz⟩:=Option.bind_eq_some_iff.mp (show (ixAt xs.length k).bind (fun j=>xs[j]?)=some z from h1)
     obtain ⟨u,hu1,hu2⟩:=g2.get hz
     exact .inl ⟨p,vs,k,u,rfl,wi.int,g1,by show (ixAt vs.length k).bind (fun j=>vs[j]?)=some u;rw [← g2.length,hj];exact hu1,fin hu2⟩
    | _=>simp [ixOp] at h1
   | str cs =>
    cases i with
    | int k =>
     obtain ⟨j,hj,hz⟩:=Option.bind_eq_some_iff.mp (show (ixAt cs.length k).bind (fun j=>(cs[j]?).map fun c=>PV.str [c])=some z from h1)
     obtain ⟨ch,hc1,hc2⟩:=Option.map_eq_some_iff.mp hz
     obtain ⟨g1,g2⟩:=rx.str
     refine .inr (.inr ⟨_,k,ch,g1,wi.int,by rw [zk8];exact g2,?_,fin (by rw [← hc2,RP];exact ⟨rfl,by show 1≤sizeLine;decide⟩)⟩)
     show (ixAt cs.toArray.toList.length k).bind (fun j=>cs.toArray.toList[j]?)=some ch
     simp only [List.toList_toArray]
     rw [hj]
     exact hc1
    | _=>simp [ixOp] at h1
   | _=>cases i <;> simp [ixOp] at h1
  cases o with
  | p x=>exact .inl (seq (.inl ro) e)
  | ref n =>
   have e:(match objAt st2 n with | some (.lst xs)=>okO (ixOp (.lst xs) i) st2 | some (.dct kvs)=>okO (dGet i kvs) st2 | _=>.stuck)=Res.ok v st':=e
   obtain ⟨p,hw,hp⟩:=id ro
   cases ho:objAt st2 n with
   | none=>rw [ho] at e;cases e
   | some ob =>
    rw [ho] at e
    cases ob with
    | dead=>cases e
    | lst xs =>
     refine .inl (seq (x:=.lst xs) ?_ e)
     obtain ⟨p',vs,h1,h2,h3⟩:=r2.lst n xs ho
     rw [hp] at h1;cases h1
     exact .inr ⟨xs,p,vs,rfl,hw,SqL.of h2,h3⟩
    | dct kvs =>
     obtain ⟨z,h1,h2,h3⟩:=zq7 e
     subst h2 h3
     obtain ⟨p',l,g1,g2,g3⟩:=r2.dct n kvs ho
     rw [hp] at g1;cases g1
     cases hk:keyOf i with
     | none =>
      obtain ⟨k',hk'⟩:=rkv_key g3 h1
      rw [hk] at hk';cases hk'
     | some k =>
      obtain ⟨u,f1,f2⟩:=rkv_get hk g3 h1
      refine .inr ⟨p,u,hw,?_,q _ H2 α2 (x1.trans x2) r2 f2⟩
      rw [RW_int wi hk,← f1]
      exact DGet.k g2
end
open PySem L2 PySem.SeqAt PyProof.Rows
section
variable {X:Cx} {C:CallF} {e:Expr} {es:List Expr} {irs:List E} {pos p:Pos}
def CallN (X:Cx) (f:Value) (g:List PV→Option PV):Prop :=
 CallR X f fun ws H Q=>∃ α st xs z,RSt X.K α st H∧Paired (RW X.K α st H) xs ws∧g xs=some z∧∀ w H',Same H H'→RP X.K H' (Live α st) z w→Q w H'
theorem zH5 {K:PySem.W.Frag} {α:Al} {st:Store} {H:Hp} (r:RSt K α st H):∀ {vs:List Val} {ws:List V} {xs:List PV},Paired (RV K α st H) vs ws→views st vs=some xs→Paired (RW K α st H) xs ws
 | [],ws,xs,h,e=>by cases h;cases e;exact .nil
 | v::vr,ws,xs,h,e=>by
  cases h with
  | cons q t =>
   unfold views at e
   cases e1:view st v with
   | none=>rw [e1] at e;cases e
   | some x =>
    rw [e1] at e
    cases e2:views st vr with
    | none=>rw [e2] at e;cases e
    | some xr =>
     rw [e2] at e
     cases e
     exact .cons (q.view r e1) (zH5 r t e2)
theorem zL7 {g:List PV→Option PV} {σ:L2.St} {H:Hp} {Q:VK} {irs:List E} {ir:E} (hi:∀ env st,evalE C ir env st=(evalEs C irs env st).bind fun vs st=>opN g vs st)
  (h:tP X.K C ir σ H Q):tCB (fun ws H Q=>∃ α st xs z,RSt X.K α st H∧Paired (RW X.K α st H) xs ws∧g xs=some z∧∀ w H',Same H H'→RP X.K H' (Live α st) z w→Q w H') (tPs X.K C irs) σ H Q:=by
 obtain ⟨env,α,st,v,st',at',e,q⟩:=h
 rw [hi] at e
 obtain ⟨vs,st1,e1,e⟩:=Res.bind_inv e
 refine ⟨env,α,st,vs,st1,at',e1,fun ws H1 α1 x1 r1 pr=>?_⟩
 unfold opN at e
 cases e2:views st1 vs with
 | none=>rw [e2] at e;cases e
 | some xs =>
  rw [e2] at e
  obtain ⟨z,h1,h2,h3⟩:=zq7 e
  subst h2 h3
  exact ⟨α1,st',xs,z,r1,zH5 r1 pr e2,h1,fun w H2 s2 rp=>q w H2 α1 (x1.trans (.of_same r1 s2)) (r1.same s2) rp⟩
theorem se_callB {x:Str} {id:String} {g:List PV→Option PV} {ir:E} (hc:CallN X (.builtin id) g) (hi:∀ env st,evalE C ir env st=(evalEs C irs env st).bind fun vs st=>opN g vs st) (hg:Gl X x) (hm:X.mg x=none) (hv:bootBuiltins x=some (.builtin id))
  (ha:SA X C (e::es) irs) (hn:x ≠ "__name__") (hdb:(x==("__debug__" : Str))=false) (he:starEach (e::es) X.env=(false,eval e X.env)::starEach es X.env) (hpl:(backTo pos (starEach es X.env)).any (·.1)=false) :
  SE X C (.Call (.Name x p) (e::es) [] pos) ir:=PE.mono (pe_callB hc hg hm hv ha hn hdb he hpl) fun _ _ _ h=>zL7 hi h
theorem se_callTy {x:Str} {T:String} {g:List PV→Option PV} {ir:E} (hc:CallN X (.type T) g) (hi:∀ env st,evalE C ir env st=(evalEs C irs env st).bind fun vs st=>opN g vs st) (hg:Gl X x) (hm:X.mg x=none) (hv:bootBuiltins x=some (.type T))
  (ha:SA X C (e::es) irs) (hn:x ≠ "__name__") (hdb:(x==("__debug__" : Str))=false) (he:starEach (e::es) X.env=(false,eval e X.env)::starEach es X.env) (hpl:(backTo pos (starEach es X.env)).any (·.1)=false) :
  SE X C (.Call (.Name x p) (e::es) [] pos) ir:=PE.mono (pe_callTy hc hg hm hv ha hn hdb he hpl) fun _ _ _ h=>zL7 hi h
theorem zt8:CallN X (.builtin "len") (f1 fLen):=by
 rintro pins s σ H ws us Q I rs ⟨α,st,xs,z,r,pr,hz,q⟩
 cases pr with
 | nil=>cases hz
 | cons h t =>
  cases t with
  | cons _ _=>cases hz
  | nil =>
   rename_i x w
   have hz:fLen x=some z:=hz
   have fin:∀ {n:Int},z=.int n→Q (.int n) H:=fun e=>q _ _ (Same.refl H) (by rw [e,RP])
   cases x with
   | tup l =>
    obtain ⟨a,vs,rfl,h1,h2⟩:=h.tup
    exact zy3 pins s σ H _ us Q I rs ⟨a,vs,rfl,.inr h1,fin (by rw [← h2.length];cases hz;rfl)⟩
   | lst l =>
    obtain ⟨a,vs,rfl,h1,h2⟩:=h.lst
    exact zy3 pins s σ H _ us Q I rs ⟨a,vs,rfl,.inl h1,fin (by rw [← h2.length];cases hz;rfl)⟩
   | str cs =>
    obtain ⟨h1,h2⟩:=h.str
    subst h1
    refine zK3 pins s σ H _ us Q I rs ⟨_,rfl,by rw [zk8];exact h2,fin ?_⟩
    rw [zk8];cases hz;rfl
   | _=>cases hz
theorem f2_ints {k:Int→Int→Int} {xs:List PV} {z:PV} (h:f2 (fI2 k) xs=some z):∃ i j,xs=[.int i,.int j]∧z=.int (k i j):=by
 match xs,h with
 | [x,y],h =>
  have h:fI2 k x y=some z:=h
  cases x <;> cases y <;> simp only [fI2,reduceCtorEq,Option.some.injEq] at h
  exact ⟨_,_,rfl,h.symm⟩
theorem zU0 (hc:X.calm=true):CallN X (.builtin "max") (f2 (fI2 fun i j=>if i<j then j else i)):=by
 rintro pins s σ H ws us Q I rs ⟨α,st,xs,z,r,pr,hz,q⟩
 obtain ⟨i,j,rfl,rfl⟩:=f2_ints hz
 cases pr with
 | cons h1 t =>
  cases t with
  | cons h2 t =>
   cases t
   have e1:=h1.int
   have e2:=h2.int
   subst e1 e2
   exact call_max2 hc pins s σ H _ us Q I rs ⟨i,j,rfl,q _ _ (Same.refl H) (by rw [RP])⟩
theorem f1_int {xs:List PV} {z:PV} (h:f1 fInt xs=some z):(∃ i,xs=[.int i])∨∃ b,xs=[.bl b]:=by
 match xs with
 | [.int i]=>exact .inl ⟨i,rfl⟩
 | [.bl b]=>exact .inr ⟨b,rfl⟩
 | [.non]=>cases h
 | [.str _]=>cases h
 | [.tup _]=>cases h
 | [.lst _]=>cases h
 | []=>cases h
 | _::_::_=>cases h
theorem n_int:CallN X (.type "int") (f1 fInt):=by
 rintro pins s σ H ws us Q I rs ⟨α,st,xs,z,r,pr,hz,q⟩
 rcases f1_int hz with ⟨i,rfl⟩ | ⟨b,rfl⟩
 ·cases pr with
  | cons h1 t =>
   cases t
   have e1:=h1.int
   subst e1
   exact zK4 pins s σ H _ us Q I rs (.inl ⟨i,rfl,q _ _ (Same.refl H) (by cases hz;rw [RP])⟩)
 ·cases pr with
  | cons h1 t =>
   cases t
   have e1:=h1.bl
   subst e1
   exact zK4 pins s σ H _ us Q I rs (.inr ⟨b,rfl,q _ _ (Same.refl H) (by cases hz;rw [RP])⟩)
noncomputable def tS (K:PySem.W.Frag) (C:CallF) (W:Nat) (ss:List S):TS:=fun D σ H=>∃ env α st fl st',At K α st H env σ∧execSs C W ss env st=.ok fl st' ∧
 match fl with
 | .next env'=>∀ σ' H' α',Ext K α st H α' st' H'→At K α' st' H' env' σ'→D.nx σ' H'
 | .ret v=>∀ w H' α',Ext K α st H α' st' H'→RSt K α' st' H'→RV K α' st' H' v w→D.rt w H'
noncomputable def tS1 (K:PySem.W.Frag) (C:CallF) (W:Nat) (ss:S):TS:=fun D σ H=>∃ env α st fl st',At K α st H env σ∧execS C W ss env st=.ok fl st' ∧
 match fl with
 | .next env'=>∀ σ' H' α',Ext K α st H α' st' H'→At K α' st' H' env' σ'→D.nx σ' H'
 | .ret v=>∀ w H' α',Ext K α st H α' st' H'→RSt K α' st' H'→RV K α' st' H' v w→D.rt w H'
noncomputable abbrev SSs (X:Cx) (C:CallF) (W:Nat) (b:List Stmt) (ss:List S):Prop:=PSs X b (tS X.K C W ss)
noncomputable abbrev SS (X:Cx) (C:CallF) (W:Nat) (b:Stmt) (ss:S):Prop:=PS X b (tS1 X.K C W ss)
variable {W:Nat}
theorem PS.mono {st:Stmt} {t t':TS} (h:PS X st t) (m:∀ D σ H,t' D σ H→t D σ H):PS X st t':=fun pins s σ H D I q=>h pins s σ H D I (m _ _ _ q)
theorem PSs.mono {st:List Stmt} {t t':TS} (h:PSs X st t) (m:∀ D σ H,t' D σ H→t D σ H):PSs X st t':=fun pins s σ H D I q=>h pins s σ H D I (m _ _ _ q)
theorem At.set {K:PySem.W.Frag} {α:Al} {st:Store} {H:Hp} {env:Env} {σ:L2.St} {i:Nat} {v:Val} {w:V} (a:At K α st H env σ) (h:RV K α st H v w):At K α st H (env.set i (some v)) (σ.set i (some w)):=by
 refine ⟨by simp [a.len],a.rs,fun j u hj=>?_⟩
 by_cases hij:i=j
 ·subst hij
  by_cases hl:i<env.length
  ·rw [List.getElem?_set_self hl] at hj
   cases hj
   exact ⟨w,by rw [List.getElem?_set_self (by rw [← a.len];exact hl)],h⟩
  ·rw [List.getElem?_eq_none (by simp;lia)] at hj
   cases hj
 ·rw [List.getElem?_set_ne hij] at hj
  obtain ⟨w',h1,h2⟩:=a.env j u hj
  exact ⟨w',by rw [List.getElem?_set_ne hij];exact h1,h2⟩
theorem ss_nil:SSs X C W [] []:=PSs.mono pss_nil fun D σ H h_=>by
 obtain ⟨env,α,st,fl,st',at',e,q⟩:=h_
 rw [exs_nil] at e
 cases e
 exact q σ H α .refl at'
theorem ss_cons {st:Stmt} {rest:List Stmt} {i:S} {ir:List S} (h1:SS X C W st i) (h2:SSs X C W rest ir):SSs X C W (st::rest) (i::ir) :=
 PSs.mono (pss_cons h1 h2) fun D σ H h_=>by
  obtain ⟨env,α,st,fl,st',at',e,q⟩:=h_
  rw [exs_cons] at e
  obtain ⟨f1,st1,e1,e⟩:=Res.bind_inv e
  refine ⟨env,α,st,f1,st1,at',e1,?_⟩
  cases f1 with
  | ret v =>
   cases e
   exact q
  | next env1 =>
   intro σ1 H1 α1 x1 at1
   refine ⟨env1,α1,st1,fl,st',at1,e,?_⟩
   cases fl with
   | next env2=>exact fun σ2 H2 α2 x2 at2=>q σ2 H2 α2 (x1.trans x2) at2
   | ret v=>exact fun w H2 α2 x2 r2 rv=>q w H2 α2 (x1.trans x2) r2 rv
theorem ss_expr {ie:E} (h:SE X C e ie) (hs:swapsWith e none pos.line X.env=pure false):SS X C W (.Expr e pos) (.expr ie) :=
 PS.mono (ps_expr h hs) fun D σ H h_=>by
  obtain ⟨env,α,st,fl,st',at',e,q⟩:=h_
  rw [ex_expr] at e
  obtain ⟨v,st1,e1,e⟩:=Res.bind_inv e
  cases e
  exact ⟨env,α,st,v,st',at',e1,fun w H1 α1 x1 r1 v1=>q σ H1 α1 x1 (at'.next x1 r1)⟩
theorem ss_ret {ie:E} (h:SE X C e ie):SS X C W (.Return (some e) pos) (.ret ie) :=
 PS.mono (ps_ret h) fun D σ H h_=>by
  obtain ⟨env,α,st,fl,st',at',e,q⟩:=h_
  rw [ex_ret] at e
  obtain ⟨v,st1,e1,e⟩:=Res.bind_inv e
  cases e
  exact ⟨env,α,st,v,st',at',e1,q⟩
theorem ss_if {c:Expr} {ic:E} {a b:List Stmt} {sa sb:List S} (hc:ST X C c ic) (ha:SSs X C W a sa) (hb:SSs X C W b sb):SS X C W (.If c a b pos) (.ite ic sa sb) :=
 PS.mono (ps_if hc ha hb) fun D σ H h_=>by
  obtain ⟨env,α,st,fl,st',at',e,q⟩:=h_
  rw [ex_ite] at e
  obtain ⟨k,st1,e1,e⟩:=Res.bindB_inv e
  refine ⟨env,α,st,k,st1,at',e1,fun H1 α1 x1 r1=>?_⟩
  have go:∀ {ss:List S},execSs C W ss env st1=.ok fl st'→tS X.K C W ss D σ H1:=fun {ss} e2=>by
   refine ⟨env,α1,st1,fl,st',at'.next x1 r1,e2,?_⟩
   cases fl with
   | next env2=>exact fun σ2 H2 α2 x2 at2=>q σ2 H2 α2 (x1.trans x2) at2
   | ret v=>exact fun w H2 α2 x2 r2 rv=>q w H2 α2 (x1.trans x2) r2 rv
  cases k with
  | true=>exact go e
  | false=>exact go e
theorem ss_set {i:Nat} {x:Str} {ie:E} {pos':Pos} (hN:X.N.Nodup) (hi:X.N[i]?=some x) (hx:Loc X.env.scope x) (h:SE X C e ie) (hs:swapsWith e (some (.Name x pos')) pos.line X.env=pure false) (hf:X.fn x=true∨X.env.scope.names.lookup x=some .local) :
  SS X C W (.Assign [.Name x pos'] e pos) (.set i ie) :=
 PS.mono (ps_set hN hi hx h hs hf) fun D σ H h_=>by
  obtain ⟨env,α,st,fl,st',at',e,q⟩:=h_
  rw [ex_set] at e
  obtain ⟨v,st1,e1,e⟩:=Res.bind_inv e
  cases e
  exact ⟨env,α,st,v,st',at',e1,fun w H1 α1 x1 r1 v1=>q _ H1 α1 x1 ((at'.next x1 r1).set v1)⟩
end
open PySem L2 PySem.SeqAt PyProof.Rows
noncomputable def Its (cs:List Nat):L2.It:=⟨fun i _=>i<cs.length,fun i H x H'=>H'=H∧∃ c,cs[i]?=some c∧x=.str ⟨#[c]⟩,fun i _=>cs.length≤i⟩
theorem zS5 {P:Program} {w:World} {K:PySem.W.Frag} {tg:Expr} (it:Addr) (cs:List Nat) (t:Tok) (ty:String)
  (hty:["enumerate", "zip", "dict_itemiterator", "dict_reverseitemiterator", "odict_iterator", "itertools.zip_longest", "itertools.pairwise"].contains ty=false)
  (item:∀ {A:Around} {E:Value→Shared→Prop} {s:Shared} {i c:Nat} {Q:Option Value→Shared→Prop},s.heap.IsStrIter it ty ⟨cs.toArray⟩ t i→(⟨cs.toArray⟩:Str).cps[i]?=some c →
   (∀ h',h'.IsStrIter it ty ⟨cs.toArray⟩ t (i+1)→Heap.SameBut it s.heap h'→Q (some (.str ⟨#[c]⟩ s.toks)) { s with heap:=h',toks:=s.toks+1 })→wpAny (model P w) A (pyNext (.ref it)) Q E s)
  (done:∀ {A:Around} {E:Value→Shared→Prop} {s:Shared} {i:Nat} {Q:Option Value→Shared→Prop},A.handled=none→s.heap.IsStrIter it ty ⟨cs.toArray⟩ t i→(⟨cs.toArray⟩:Str).cps[i]?=none →
   (∀ h',Heap.ExtBut it s.heap h'→Q none { s with heap:=h' })→wpAny (model P w) A (pyNext (.ref it)) Q E s)
  (self:∀ {A:Around} {E:Value→Shared→Prop} {s:Shared} {i:Nat} {Q:Value→Shared→Prop},s.heap.IsStrIter it ty ⟨cs.toArray⟩ t i→Q (.ref it) s→wpAny (model P w) A (pyIter (.ref it)) Q E s) :
  Turn P w K tg (Its cs) [it] it (fun i h=>h.IsStrIter it ty ⟨cs.toArray⟩ t i) where
 mem:=by simp
 obj:=fun i h st b hb=>by
  have e:b=it:=by simpa using hb
  subst e
  obtain ⟨o,e,c,d⟩:=st
  exact ⟨o,e,fun v z=>by rw [d] at z;cases z⟩
 keep:=fun i h h' st k=>by
  obtain ⟨o,e,c,d⟩:=st
  exact ⟨o,k it (by simp) o e,c,d⟩
 item:=by
  intro X hP hw hK hc i pins s σ H E I hf st hg
  subst hP hw hK
  obtain ⟨f0,f1,f2,f3,f4,f5⟩:=hf it (by simp)
  have hg:i<cs.length:=hg
  refine item st (c:=cs[i]) (by simp [hg]) fun h' st' sb=>?_
  have I1:Inv X pins σ H { s with heap:=h',toks:=s.toks+1 }:=I.turned (fun b o hb e=>(sb.2 b hb).trans e) f0 f1 f3 f4 f5
  obtain ⟨o,e,c,d⟩:=id st'
  exact ⟨_,rfl,go_of (s:={ s with heap:=h',toks:=s.toks+1 }) e c d hty ⟨.str ⟨#[cs[i]]⟩,H,I1,⟨_,rfl⟩,⟨rfl,cs[i],by simp [hg],rfl⟩,st',fun b hb=>(hf b hb).1⟩⟩
 done:=by
  intro X hP hw hK hc i pins s σ H E I hf st hg
  subst hP hw hK
  obtain ⟨f0,f1,f2,f3,f4,f5⟩:=hf it (by simp)
  have hg:cs.length≤i:=hg
  exact done (I.ok.hd hc) st (by simp [hg]) fun h' eb=>⟨rfl,I.turned (t':=s.toks) (fun b o hb e=>eb b o hb e) f0 f1 f3 f4 f5⟩
 self:=fun _ _ _ _ _ st h=>self st h
noncomputable def iSeq (K:PySem.W.Frag) (tl:TE):TI:=fun σ H R=>tl σ H fun x H1 =>
 (∃ a xs,x=.ref a∧SqL K H1 a xs∧(xs.length≤sizeLine→R (Itl K a) H1))∨(∃ a xs,x=.ref a∧SqT K H1 a xs∧(xs.length≤sizeLine→R (Itt K a) H1))∨∃ cs,x=.str ⟨cs.toArray⟩∧R (Its cs) H1
theorem pi_seq {X:Cx} {tg l:Expr} {tl:TE} (hl:PE X l tl):PI X tg l (iSeq X.K tl):=by
 intro pins s σ H R I h
 refine thn (hl pins s σ H _ I h) fun v s1 h_=>?_
 obtain ⟨x,H1,I1,r1,q1⟩:=h_
 rcases q1 with ⟨a,xs,e,hq,q⟩ | ⟨a,xs,e,hq,q⟩ | ⟨cs,e,q⟩
 ·subst e
  cases r1
  obtain ⟨its,rv,p,hz⟩:=I1.list hq
  refine wpAny_pyIter_list p.isList ?_
  refine ⟨s1.heap.objs.size,[s1.heap.objs.size],_,_,H1,rfl,I1.kept (t':=s1.toks) fun b o e=>Heap.get?_push_of_some _ e,turn_list a _,⟨_,Heap.get?_push_size _ rfl,rfl,rfl⟩,fun b hb=>?_,q hz⟩
  have e:b=s1.heap.objs.size:=by simpa using hb
  subst e
  exact I1.fpOk (Nat.le_refl _) (I1.hok.fresh (Nat.le_refl _))
 ·subst e
  cases r1
  obtain ⟨its,rv,p,hz⟩:=I1.tuple hq
  refine wpAny_pyIter_tuple (show s1.heap.IsTuple a its.toArray from p) ?_
  refine ⟨s1.heap.objs.size,[s1.heap.objs.size],_,_,H1,rfl,I1.kept (t':=s1.toks) fun b o e=>Heap.get?_push_of_some _ e,zW1 a _,⟨_,Heap.get?_push_size _ rfl,rfl,rfl⟩,fun b hb=>?_,q hz⟩
  have e:b=s1.heap.objs.size:=by simpa using hb
  subst e
  exact I1.fpOk (Nat.le_refl _) (I1.hok.fresh (Nat.le_refl _))
 ·subst e
  obtain ⟨t,rfl⟩:=r1
  have fp:∀ b∈[s1.heap.objs.size],FpOk X pins H1 b:=fun b hb=>by
   have e:b=s1.heap.objs.size:=by simpa using hb
   subst e
   exact I1.fpOk (Nat.le_refl _) (I1.hok.fresh (Nat.le_refl _))
  cases ha:(⟨cs.toArray⟩:Str).cps.all (· < 128)
  ·refine wpAny_pyIter_wide ha ?_
   exact ⟨s1.heap.objs.size,[s1.heap.objs.size],_,_,H1,rfl,I1.kept (t':=s1.toks) fun b o e=>Heap.get?_push_of_some _ e,
    zS5 _ cs t "str_iterator" (by decide) (fun h1 h2 h3=>wpAny_pyNext_wide_item h1 h2 h3) (fun h0 h1 h2 h3=>wpAny_pyNext_wide_end h0 h1 h2 h3) (fun h1 h2=>wpAny_pyIter_striter_wide h1 h2),⟨_,Heap.get?_push_size _ rfl,rfl,rfl⟩,fp,q⟩
  ·refine wpAny_pyIter_ascii ha ?_
   exact ⟨s1.heap.objs.size,[s1.heap.objs.size],_,_,H1,rfl,I1.kept (t':=s1.toks) fun b o e=>Heap.get?_push_of_some _ e,
    zS5 _ cs t "str_ascii_iterator" (by decide) (fun h1 h2 h3=>wpAny_pyNext_ascii_item h1 h2 h3) (fun h0 h1 h2 h3=>wpAny_pyNext_ascii_end h0 h1 h2 h3) (fun h1 h2=>wpAny_pyIter_striter_ascii h1 h2),⟨_,Heap.get?_push_size _ rfl,rfl,rfl⟩,fp,q⟩
structure WalkAt (K:PySem.W.Frag) (α:Al) (st:Store) (H:Hp) (J:L2.It) (xs:List PV):Prop where
 go:∀ (i:Nat),i<xs.length→J.go i H
 yld:∀ (i:Nat) x w H',xs[i]?=some x→J.yld i H w H'→Same H H'∧RP K H' (Live α st) x w
 stop:∀ (i:Nat),xs.length≤i→J.stop i H
def Walk (K:PySem.W.Frag) (α:Al) (st:Store) (H:Hp) (J:L2.It) (src:Option (Nat×List PV)) (xs:List PV):Prop:=∀ α' st' H',Lk K α st H α' st' H'→RSt K α' st' H'→srcOk st' src=true→WalkAt K α' st' H' J xs
noncomputable def tI (K:PySem.W.Frag) (C:CallF) (it:It):TI:=fun σ H R=>∃ env α st xs src st',At K α st H env σ∧evalIt C it env st=.ok (xs,src) st' ∧
 ∀ J H' α',Ext K α st H α' st' H'→RSt K α' st' H'→Walk K α' st' H' J src xs→xs.length≤sizeLine→R J H'
noncomputable abbrev SI (X:Cx) (C:CallF) (tg iter:Expr) (it:It):Prop:=PI X tg iter (tI X.K C it)
theorem PI.mono {X:Cx} {tg iter:Expr} {t t':TI} (h:PI X tg iter t) (m:∀ σ H R,t' σ H R→t σ H R):PI X tg iter t':=fun pins s σ H R I q=>h pins s σ H R I (m _ _ _ q)
section
variable {X:Cx} {C:CallF} {W:Nat} {tg l:Expr} {il:E} {pos p:Pos}
theorem si_seq (hl:SE X C l il):SI X C tg l (.of il):=PI.mono (pi_seq hl) fun σ H R h_=>by
 obtain ⟨env,α,st,xs,src,st',at',e,q⟩:=h_
 rw [evIt_of] at e
 obtain ⟨v,st1,e1,e⟩:=Res.bind_inv e
 refine ⟨env,α,st,v,st1,at',e1,fun w H1 α1 x1 r1 v1=>?_⟩
 unfold walkOf at e
 cases v with
 | ref n =>
  cases hv:view st1 (.ref n) with
  | none=>rw [hv] at e;cases e
  | some y =>
   rw [hv] at e
   have hy:∃ ys,y=.lst ys∧objAt st1 n=some (.lst ys):=by
    have hv:(match objAt st1 n with | some (.lst xs)=>some (PV.lst xs) | _=>none)=some y:=hv
    cases ho:objAt st1 n with
    | none=>rw [ho] at hv;cases hv
    | some ob =>
     rw [ho] at hv
     cases ob with
     | lst ys=>cases hv;exact ⟨ys,rfl,rfl⟩
     | dct _=>cases hv
     | dead=>cases hv
   obtain ⟨ys,rfl,ho⟩:=hy
   cases e
   obtain ⟨a,hw,ha⟩:=v1
   obtain ⟨a',vs,h1,h2,h3⟩:=r1.lst n xs ho
   rw [ha] at h1;cases h1
   refine .inl ⟨a,vs,hw,SqL.of h2,fun hz=>q _ _ _ x1 r1 (fun α2 st2 H2 x2 r2 so=>?_) (by rw [h3.length];exact hz)⟩
   have so:view st2 (.ref n)=some (.lst xs):=of_decide_eq_true so
   have ho2:objAt st2 n=some (.lst xs):=by
    have so:(match objAt st2 n with | some (.lst xs)=>some (PV.lst xs) | _=>none)=some (.lst xs):=so
    cases ho:objAt st2 n with
    | none=>rw [ho] at so;cases so
    | some ob =>
     rw [ho] at so
     cases ob with
     | lst ys=>cases so;rfl
     | dct _=>cases so
     | dead=>cases so
   obtain ⟨a',vs2,k1,k2,g2⟩:=r2.lst n xs ho2
   rw [x2.pre n a ha] at k1;cases k1
   have g1:SqL X.K H2 a vs2:=SqL.of k2
   have gl:=g2.length
   refine ⟨fun i hi=>⟨vs2,vs2[i],g1,List.getElem?_eq_getElem (by omega)⟩,fun i x w H' hx ⟨hy1,hy2⟩=>?_,fun i hi=>⟨vs2,g1,by omega⟩⟩
   subst hy1
   obtain ⟨u,hu1,hu2⟩:=g2.get hx
   rw [hy2 vs2 g1] at hu1
   cases hu1
   exact ⟨Same.refl _,hu2⟩
 | p y =>
  have e:(match items y with | some xs=>Res.ok (xs,none) st1 | none=>.stuck)=Res.ok (xs,src) st':=e
  cases y with
  | tup ys =>
   cases e
   have v1:RP X.K H1 (Live α1 st') (.tup xs) w:=v1
   rw [RP] at v1
   obtain ⟨a,vs,rfl,h1,h2⟩:=v1
   refine .inr (.inl ⟨a,vs,rfl,h1,fun hz=>q _ _ _ x1 r1 (fun α2 st2 H2 x2 _ _=>?_) (by rw [h2.length];exact hz)⟩)
   have g1:=x2.tup a vs h1
   have g2:=x2.rps h2
   have gl:=g2.length
   refine ⟨fun i hi=>⟨vs,vs[i],g1,List.getElem?_eq_getElem (by omega)⟩,fun i x w H' hx ⟨hy1,hy2⟩=>?_,fun i hi=>⟨vs,g1,by omega⟩⟩
   subst hy1
   obtain ⟨u,hu1,hu2⟩:=g2.get hx
   rw [hy2 vs g1] at hu1
   cases hu1
   exact ⟨Same.refl _,hu2⟩
  | lst ys =>
   cases e
   have v1:RP X.K H1 (Live α1 st') (.lst xs) w:=v1
   rw [RP] at v1
   obtain ⟨a,vs,rfl,h1,h0,h2⟩:=v1
   refine .inl ⟨a,vs,rfl,h1,fun hz=>q _ _ _ x1 r1 (fun α2 st2 H2 x2 _ _=>?_) (by rw [h2.length];exact hz)⟩
   have g1:=(x2.lst a vs h1 h0).1
   have g2:=x2.rps h2
   have gl:=g2.length
   refine ⟨fun i hi=>⟨vs,vs[i],g1,List.getElem?_eq_getElem (by omega)⟩,fun i x w H' hx ⟨hy1,hy2⟩=>?_,fun i hi=>⟨vs,g1,by omega⟩⟩
   subst hy1
   obtain ⟨u,hu1,hu2⟩:=g2.get hx
   rw [hy2 vs g1] at hu1
   cases hu1
   exact ⟨Same.refl _,hu2⟩
  | str cs =>
   cases e
   have v1:RP X.K H1 (Live α1 st') (.str cs) w:=v1
   rw [RP] at v1
   refine .inr (.inr ⟨cs,v1.1,q _ _ _ x1 r1 (fun α2 st2 H2 x2 _ _=>?_) (by simpa using v1.2)⟩)
   refine ⟨fun i hi=>by simpa [Its] using hi,fun i x w H' hx ⟨hy1,c,hc,hw⟩=>?_,fun i hi=>by simpa [Its] using hi⟩
   subst hy1
   refine ⟨Same.refl _,?_⟩
   rw [List.getElem?_map,hc] at hx
   cases hx
   rw [RP]
   exact ⟨hw,by show 1≤sizeLine;decide⟩
  | _=>cases e
theorem si_range {a:Expr} {ia:E} (hg:Gl X "range") (hm:X.mg "range" = none) (ha:SE X C a ia) (hs:starEach [a] X.env=[(false,eval a X.env)]):SI X C tg (.Call (.Name "range" p) [a] [] pos) (.range ia) :=
 PI.mono (pi_range1 hg hm (sa_cons ha sa_nil hs) hs) fun σ H R h_=>by
  obtain ⟨env,α,st,xs,src,st',at',e,q⟩:=h_
  rw [evIt_range] at e
  obtain ⟨v,y,st1,e1,hv,e⟩:=Res.bindV_inv e
  refine ⟨env,α,st,[v],st1,at',by rw [evEs_cons,e1];rfl,fun ws H1 α1 x1 r1 pr=>?_⟩
  cases pr with
  | cons h t =>
   cases t
   cases y with
   | int i =>
    have e:(if -1000000≤i∧i≤SZ then Res.ok ((List.range i.toNat).map (fun k:Nat=>PV.int (k:Int)),none) st1 else .stuck)=Res.ok (xs,src) st':=e
    by_cases hc:-1000000≤i∧i≤SZ
    ·rw [if_pos hc] at e
     cases e
     have hi:=(h.view r1 hv).int
     subst hi
     obtain ⟨c1,c2⟩:=hc
     unfold SZ at c2
     have hzl:((List.range i.toNat).map (fun k:Nat=>PV.int (k:Int))).length≤sizeLine:=by
      have e:sizeLine=16777216:=by decide
      rw [List.length_map,List.length_range,e]
      omega
     refine ⟨i,rfl,by omega,by omega,q _ _ _ x1 r1 (fun α2 st2 H2 x2 _ _=>?_) hzl⟩
     refine ⟨fun k hk=>by simpa [Itr] using hk,fun k x w H' hx ⟨hy1,hy2⟩=>?_,fun k hk=>by simpa [Itr] using hk⟩
     subst hy1 hy2
     refine ⟨Same.refl _,?_⟩
     have hk:k<i.toNat:=by
      have:=(List.getElem?_eq_some_iff.mp hx).1
      simpa using this
     rw [List.getElem?_map,List.getElem?_range hk] at hx
     cases hx
     rw [RP]
     simp
    ·rw [if_neg hc] at e;cases e
   | _=>cases e
noncomputable def tG (K:PySem.W.Frag) (t:Tg):TG:=fun v σ H Q=>∃ env α st x env',At K α st H env σ∧RP K H (Live α st) x v∧bindTg t (.p x) st env=some env'∧∀ σ',At K α st H env' σ'→Q σ' H
noncomputable abbrev SG (X:Cx) (tg:Expr) (t:Tg):Prop:=PG X tg (tG X.K t)
theorem PG.mono {t t':TG} (h:PG X tg t) (m:∀ v σ H Q,t' v σ H Q→t v σ H Q):PG X tg t':=fun pins s σ H v u Q I r q=>h pins s σ H v u Q I r (m _ _ _ _ q)
theorem sg_name {i:Nat} {x:Str} (hN:X.N.Nodup) (hi:X.N[i]?=some x) (hx:Loc X.env.scope x) (hf:X.fn x=true∨X.env.scope.names.lookup x=some .local):SG X (.Name x pos) (.name i) :=
 PG.mono (pg_name hN hi hx hf) fun v σ H Q h_=>by
  obtain ⟨env,α,st,x,env',at',rp,e,q⟩:=h_
  cases e
  exact q _ (at'.set rp)
theorem ss_for {iter:Expr} {body:List Stmt} {it:It} {t:Tg} {ib:List S} (hp:PassesOwn (model X.prog X.w) X.A X.env X.xe) (hc:X.calm=true) (hi:SI X C tg iter it) (hg:SG X tg t) (hb:SSs X C W body ib)
  (hs:∀ x,foldedSetIterable iter X.env x=pure x):SS X C W (.For tg iter body [] pos) (.for t it ib) :=
 PS.mono (ps_for hp hc hi hg hb hs) fun D σ H h_=>by
  obtain ⟨env,α,st,fl,st',at',e,q⟩:=h_
  rw [ex_for] at e
  obtain ⟨⟨xs,src⟩,st1,e1,e⟩:=Res.bind_inv e
  refine ⟨env,α,st,xs,src,st1,at',e1,fun J H1 α1 x1 r1 wk _=>?_⟩
  have e:forLoop (execSs C W ib) t src xs env st1=.ok fl st':=e
  let Pv:Nat→L2.St→Hp→Prop:=fun i σ H2=>∃ env2 α2 st2,At X.K α2 st2 H2 env2 σ∧Ext X.K α1 st1 H1 α2 st2 H2∧forLoop (execSs C W ib) t src (xs.drop i) env2 st2=.ok fl st'
  refine ⟨fun i m σ H2=>m=xs.length - i∧i≤xs.length∧Pv i σ H2,⟨xs.length,by simp,Nat.zero_le _,env,α1,st1,at'.next x1 r1,.refl,e⟩,?_⟩
  rintro i m σ2 H2 ⟨rfl,hil,env2,α2,st2,at2,x2,e2⟩
  by_cases hlt:i<xs.length
  ·rw [List.drop_eq_getElem_cons hlt,forLoop] at e2
   by_cases so:srcOk st2 src=true
   ·rw [if_pos so] at e2
    have wa:=wk α2 st2 H2 x2.lk at2.rs so
    refine .inr ⟨wa.go i hlt,Pv (i+1),fun σ3 H3 p3=>⟨xs.length - (i+1),by omega,rfl,hlt,p3⟩,fun w H3 hy=>?_⟩
    obtain ⟨s3,rp⟩:=wa.yld i xs[i] w H3 (List.getElem?_eq_getElem hlt) hy
    have x3:Ext X.K α2 st2 H2 α2 st2 H3:=.of_same at2.rs s3
    have at3:=at2.next x3 (at2.rs.same s3)
    cases hbt:bindTg t (.p xs[i]) st2 env2 with
    | none=>rw [hbt] at e2;cases e2
    | some env3 =>
     rw [hbt] at e2
     obtain ⟨f,st4,e4,e2⟩:=Res.bind_inv e2
     refine ⟨env2,α2,st2,xs[i],env3,at3,rp,hbt,fun σ3 at3'=>?_⟩
     refine ⟨env3,α2,st2,f,st4,at3',e4,?_⟩
     cases f with
     | next env4=>exact fun σ5 H5 α5 x5 at5=>⟨env4,α5,st4,at5,x2.trans (x3.trans x5),e2⟩
     | ret v =>
      cases e2
      exact fun w H5 α5 x5 r5 rv=>q w H5 α5 (x1.trans (x2.trans (x3.trans x5))) r5 rv
   ·rw [if_neg so] at e2;cases e2
  ·have hie:xs.drop i=[]:=List.drop_eq_nil_of_le (by omega)
   rw [hie,forLoop] at e2
   by_cases so:srcOk st2 src=true
   ·rw [if_pos so] at e2
    cases e2
    exact .inl ⟨(wk α2 st' H2 x2.lk at2.rs so).stop i (by omega),q σ2 H2 α2 (x1.trans x2) at2⟩
   ·rw [if_neg so] at e2;cases e2
end
open PySem L2 PySem.SeqAt PyProof.Rows
theorem zw7 {env:PySem.Env} (f:(Str×NameKind)→List (Str×Addr)→Sem (ForInStep (List (Str×Addr))))
  (h1:∀ x r c,x.2=.free→env.cells.lookup x.1=some c→f x r=pure (.yield ((x.1,c)::r))) (h2:∀ x r,x.2≠.free→f x r=pure (.yield r)) :
  ∀ (l:List (Str×NameKind)) (acc:List (Str×Addr)),(∀ x∈l,x.2=.free→∃ c,env.cells.lookup x.1=some c)→(∀ x c,acc.lookup x=some c→env.cells.lookup x=some c) →
   ∃ cl,forIn l acc f=pure cl∧(∀ x c,cl.lookup x=some c→env.cells.lookup x=some c)∧(∀ x∈l,x.2=.free→∃ c,cl.lookup x.1=some c)∧∀ x,(∃ c,acc.lookup x=some c)→∃ c,cl.lookup x=some c
 | [],acc,_,ha=>⟨acc,rfl,ha,fun x hx=>absurd hx (by simp),fun x h=>h⟩
 | y::r,acc,hl,ha=>by
  by_cases hy:y.2=.free
  ·obtain ⟨c,hc⟩:=hl y List.mem_cons_self hy
   have ha':∀ x c',((y.1,c)::acc).lookup x=some c'→env.cells.lookup x=some c':=fun x c' e=>by
    rw [List.lookup_cons] at e
    split at e
    ·rename_i hx
     cases e
     have:x=y.1:=by simpa using hx
     rw [this];exact hc
    ·exact ha x c' e
   obtain ⟨cl,g1,g2,g3,g4⟩:=zw7 f h1 h2 r ((y.1,c)::acc) (fun x hx=>hl x (List.mem_cons_of_mem _ hx)) ha'
   have keep:∀ x,(∃ c',acc.lookup x=some c')→∃ c',((y.1,c)::acc).lookup x=some c':=fun x h_=>by
    obtain ⟨c',e⟩:=h_
    rw [List.lookup_cons]
    split
    ·exact ⟨c,rfl⟩
    ·exact ⟨c',e⟩
   refine ⟨cl,?_,g2,fun x hx hf=>?_,fun x hx=>g4 x (keep x hx)⟩
   ·rw [List.forIn_cons,h1 y acc c hy hc]
    exact g1
   ·rcases List.mem_cons.mp hx with e | hx
    ·subst e
     exact g4 _ ⟨c,by rw [List.lookup_cons];simp⟩
    ·exact g3 x hx hf
  ·obtain ⟨cl,g1,g2,g3,g4⟩:=zw7 f h1 h2 r acc (fun x hx=>hl x (List.mem_cons_of_mem _ hx)) ha
   refine ⟨cl,?_,g2,fun x hx hf=>?_,g4⟩
   ·rw [List.forIn_cons,h2 y acc hy]
    exact g1
   ·rcases List.mem_cons.mp hx with e | hx
    ·subst e;exact absurd hf hy
    ·exact g3 x hx hf
theorem zE9 {env:PySem.Env} {scope:Scope} (h:∀ x∈scope.names,x.2=.free→∃ c,env.cells.lookup x.1=some c) :
  ∃ cl,closureFor scope env=pure cl∧(∀ x c,cl.lookup x=some c→env.cells.lookup x=some c)∧∀ x∈scope.names,x.2=.free→∃ c,cl.lookup x.1=some c:=by
 unfold closureFor
 obtain ⟨cl,g1,g2,g3,_⟩:=zw7 (env:=env) (fun (x:Str×NameKind) (r:List (Str×Addr))=>(match x with
  | (name,kind)=>if (kind == .free)=true then (do
    let c ← cellOf env name
    pure (ForInStep.yield ((name,c)::r))) else pure (ForInStep.yield r):Sem (ForInStep (List (Str×Addr)))))
  (fun x r c hx hc=>by
   obtain ⟨n,k⟩:=x
   simp only at hx hc ⊢
   subst hx
   unfold cellOf
   rw [hc]
   rfl)
  (fun x r hx=>by
   obtain ⟨n,k⟩:=x
   simp only at hx ⊢
   rw [if_neg (by simpa using hx)])
  scope.names [] h (fun x c e=>by simp at e)
 refine ⟨cl,?_,g2,g3⟩
 show (forIn scope.names [] _ >>= fun cs=>pure cs)=pure cl
 rw [show (forIn scope.names ([]:List (Str×Addr)) _)=pure cl from g1]
 rfl
noncomputable def compCx (X:Cx) (scope:Scope) (N:List Str) (cl:List (Str×Addr)) (s₀:Shared) (H₀:Hp) (ex:List Addr) (pn:List (Addr×Obj)):Cx where
 prog:=X.prog
 w:=X.w
 K:=X.K
 mg:=X.mg
 base:=X.base
 A:=X.A
 N:=N
 s₀:=s₀
 H₀:=H₀
 env:=compEnvC scope cl s₀.heap.objs.size X.env
 outer:=X.stack
 stack:=X.stack
 ex:=ex
 fn:=fun _=>false
 calm:=X.calm
 pn:=pn
 xe:=fun _ _=>False
section
variable {X:Cx} {pins:List (Addr×Obj)} {σ:L2.St} {H:Hp} {s:Shared} {scope:Scope} {N:List Str} {cl:List (Str×Addr)} {fp:List Addr} {caps:List Nat}
theorem comp_inv {h1:Heap} {σ':L2.St} (I:Inv X pins σ H s) (hk:scope.kind=.function) (hcl:∀ x c,cl.lookup x=some c→X.env.cells.lookup x=some c) (hclf:∀ x,(compEnvC scope cl s.heap.objs.size X.env).kindOf x=some .cell∨(compEnvC scope cl s.heap.objs.size X.env).kindOf x=some .free→∃ c,cl.lookup x=some c)
  (hfp:∀ b∈fp,FpOk X pins H b) (hfs:∀ b∈fp,b<s.heap.objs.size) (hn:h1.Ns s.heap.objs.size fun _=>none) (hkept:∀ b o,s.heap.get? b=some o→h1.get? b=some o) (hl:σ'.length=N.length)
  (hσ:∀ (j:Nat) x v,N[j]?=some x→σ'[j]?=some (some v)→∃ (i:Nat),X.N[i]?=some x∧σ[i]?=some (some v)∧(X.env.kindOf x=some .cell∨X.env.kindOf x=some .free)∧((compEnvC scope cl s.heap.objs.size X.env).kindOf x=some .cell∨(compEnvC scope cl s.heap.objs.size X.env).kindOf x=some .free)∧Vis X.env.scope x) :
  Inv (compCx X scope N cl s H fp (X.pn++pins)) [] σ' H { s with heap:=h1 }:=by
 have nofr:∀ {b:Addr},b≠X.env.locals→b∉X.fs→b∉frs X.stack:=fun h1 h2 z=>by
  rcases List.mem_cons.mp (I.stkSub _ z) with e | e
  ·exact h1 e
  ·exact h2 e
 refine ⟨⟨I.ok.mod,hk,I.ok.glob,I.ok.blt,Nat.le_refl _,fun x y c e1 e2=>I.ok.inj x y c (hcl x c e1) (hcl y c e2),hclf,fun x c e _=>(by cases e),I.ok.hd,I.ok.frames,.inl rfl,fun b hb=>?_,I.bs,Nat.le_trans I.ok.bsz I.sz,fun b o e hb=>?_,fun b hb=>?_,I.stack,I.stkFree⟩,
  rfl,I.bare,Un.kept hkept,⟨_,hn,fun j x v e1 e2 e3=>?_⟩,fun x c e=>?_,I.hok.fresh (Nat.le_refl _),fun x c e=>I.freeC x c (hcl x c e),fun p hp=>?_,I.hok.kept hkept,hl⟩
 ·exact ⟨Nat.ne_of_lt (hfs b hb),fun x c e=>(hfp b hb).2.2.2.2.1 x c (hcl x c e)⟩
 ·have hb:b∈fp:=hb
  obtain ⟨_,_,_,f3,_⟩:=hfp b hb
  rcases f3 with z | z
  ·exact I.ok.noex b o e z
  ·exact absurd (Nat.lt_of_lt_of_le (Heap.lt_size e) (Nat.le_trans I.ok.bsz z)) (Nat.lt_irrefl _)
 ·have hb:b∈fp:=hb
  obtain ⟨_,f1,f2,_⟩:=hfp b hb
  exact nofr f1 f2
 ·obtain ⟨i,a1,a2,a3,a4,a5⟩:=hσ j x v e1 e2
  obtain ⟨m,hm,hlk⟩:=I.loc
  obtain ⟨u,r,l⟩:=hlk i x v a1 a2 a5
  refine ⟨u,r,.inr ⟨a4,?_⟩⟩
  rcases l with ⟨k,_⟩ | ⟨_,c,e,z⟩
  ·rcases a3 with a3 | a3 <;> rw [k] at a3 <;> cases a3
  ·obtain ⟨c',hc'⟩:=hclf x a4
   have:=hcl x c' hc'
   rw [e] at this
   cases this
   obtain ⟨o,ho,hd⟩:=z
   exact ⟨c,hc',o,hkept c o ho,hd⟩
 ·obtain ⟨v,o,ho,hd⟩:=I.cell x c (hcl x c e)
  exact ⟨v,o,hkept c o ho,hd⟩
 ·have hp:p∈(X.pn++pins)++[]:=hp
  rw [List.append_nil] at hp
  obtain ⟨e,n,ne,nf,d⟩:=I.pin p hp
  exact ⟨hkept _ _ e,n,Nat.ne_of_lt (Heap.lt_size e),nofr ne nf,d⟩
end
open PySem L2 PySem.SeqAt PyProof.Rows
section
variable {prog:Program} {w:World} {A:Around} {R:Result→Shared→Prop} {s:Shared}
theorem zM3 {elt target iter:Expr} {ifs:List Expr} {scope:Scope} {pos:Pos} {it acc:Value} {env:PySem.Env} (I:Nat→Shared→Prop)
  (turn:∀ n s,I n s→wpAny (model prog w) A (pyNext it) (fun r s₁=>match r with
   | none=>R (.ok .next) s₁
   | some v=>wpAny (model prog w) A (letOwnedTupleGo target it v) (fun _ s₁'=>wpAny (model prog w) A (assign target env v) (fun _ s₂ =>
     wpAny (model prog w) A (forIn ifs true fun c r=>if r=true then do let ok ← isTrue c env (eval c env);pure (ForInStep.yield ok) else pure (ForInStep.yield r)) (fun ok s₃ =>
      if ok=true then wpAny (model prog w) A (eval elt env) (fun x s₄ =>
       wpAny (model prog w) A (call (.builtin "list.append") [acc,x]) (fun _ s₅=>∃ m,m<n∧I m s₅) (fun _ _=>False) s₄) (fun _ _=>False) s₃
      else ∃ m,m<n∧I m s₃) (fun _ _=>False) s₂) (fun _ _=>False) s₁') (fun _ _=>False) s₁) (fun _ _=>False) s)
  (n:Nat) (h:I n s):codeAny (model prog w) A (.compLoop (.ListComp elt [⟨target,iter,ifs,0⟩] scope pos) 0 it acc env) R s:=by
 refine codeAny_loop rfl I (fun n s hI=>?_) n h
 show wpAny _ A ((compTurn (.ListComp elt [⟨target,iter,ifs,0⟩] scope pos) 0 it acc env).onRaise (fun x=>do noteFrame x env;theTreesLotGoes x)) _ _ s
 refine wpAny_noted ?_
 rw [compTurn_list]
 refine wpAny_bind (wpAny_standAt (wpAny_bind (wpAny_mono (turn n s hI) (fun r s₁ h₁=>?_) fun _ _ h'=>h'.elim)))
 cases r with
 | none=>exact wpAny_pure h₁
 | some v =>
  refine wpAny_bind (wpAny_mono h₁ (fun _ s₁' h₁'=>?_) fun _ _ h'=>h'.elim)
  refine wpAny_bind (wpAny_mono h₁' (fun _ s₂ h₂=>wpAny_bind (wpAny_mono h₂ (fun ok s₃ h₃=>?_) fun _ _ h'=>h'.elim)) fun _ _ h'=>h'.elim)
  cases ok with
  | false=>exact wpAny_pure ⟨rfl,h₃⟩
  | true =>
   exact wpAny_bind (wpAny_bind (wpAny_mono h₃ (fun x s₄ h₄=>wpAny_bind (wpAny_mono h₄ (fun _ s₅ h₅=>wpAny_pure (wpAny_pure ⟨rfl,h₅⟩)) fun _ _ h'=>h'.elim)) fun _ _ h'=>h'.elim))
end
noncomputable def capsσ (caps:List Nat) (n:Nat) (σ:L2.St):L2.St:=caps.map (fun i=>(σ[i]?).join)++List.replicate n none
noncomputable def tComp (K:PySem.W.Frag) (caps:List Nat) (n:Nat) (wi:TI) (g:TG) (tc:TT) (te:TE):TE:=fun σ H Q=>wi σ H fun J H1=>∀ D,H1 D=none→K.lookup D=none→∃ W:Nat→Nat→L2.St→Hp→List V→Prop,
 (∃ m,W 0 m (capsσ caps n σ) (upd H1 D (.lst [])) []) ∧
 ∀ i m σ' H' ys,W i m σ' H' ys→H' D=some (.lst ys)∧((J.stop i H'∧Q (.ref D) H')∨(J.go i H'∧ys.length<sizeLine∧∀ x H2,J.yld i H' x H2→g x σ' H2 fun σ2 H3=>tc σ2 H3 fun b H4 =>
  if b=true then te σ2 H4 fun y H5=>H5 D=some (.lst ys)∧∃ m',m'<m∧W (i+1) m' σ2 (upd H5 D (.lst (ys++[y]))) (ys++[y]) else ∃ m',m'<m∧W (i+1) m' σ2 H4 ys))
def PTs (X:Cx) (ifs:List Expr) (t:TT):Prop :=
 ∀ (pins:List (Addr×Obj)) (s:Shared) (σ:L2.St) (H:Hp) (Q:Bool→Hp→Prop),Inv X pins σ H s→t σ H Q →
  wpAny (model X.prog X.w) X.A (forIn ifs true fun c r=>if r=true then do let ok ← isTrue c X.env (eval c X.env);pure (ForInStep.yield ok) else pure (ForInStep.yield r)) (TP X pins σ Q) X.xe s
theorem pts_nil {X:Cx}:PTs X [] (fun _ H Q=>Q true H):=fun pins s σ H Q I h=>wpAny_tests_nil ⟨H,I,h⟩
theorem pts_one {X:Cx} {c:Expr} {t:TT} (h:PT X c t):PTs X [c] t:=fun pins s σ H Q I q=>wpAny_tests_one (h pins s σ H Q I q)
open PySem L2 PySem.SeqAt PyProof.Rows
structure CompOk (X:Cx) (scope:Scope) (N:List Str) (caps:List Nat) (n:Nat):Prop where
 kind:scope.kind=.function
 names:∀ x∈scope.names,x.2=.local→scope.names.lookup x.1=some .local
 cell:∀ x∈scope.names,x.2≠.cell
 free:∀ x∈scope.names,x.2=.free→X.env.kindOf x.1=some .cell∨X.env.kindOf x.1=some .free
 look:∀ x,scope.names.lookup x=some .free→∃ k,(relabel scope X.env).names.lookup x=some k∧(k=.cell∨k=.free)
 back:∀ x,(relabel scope X.env).names.lookup x=some .cell∨(relabel scope X.env).names.lookup x=some .free→(x,NameKind.free)∈scope.names
 cap:∀ (j i:Nat),caps[j]?=some i→∃ x,N[j]?=some x∧X.N[i]?=some x∧scope.names.lookup x=some .free
 len:N.length=caps.length+n
theorem zY3 {X:Cx} {pins:List (Addr×Obj)} {σ σ':L2.St} {H3 H':Hp} {s3 s1:Shared} {h':Heap} {scope:Scope} {N:List Str} {cl:List (Str×Addr)} {fp:List Addr} (I3:Inv X pins σ H3 s3)
  (I':Inv (compCx X scope N cl s3 H3 fp (X.pn++pins)) [] σ' H' s1) (hsb:Heap.SameBut s3.heap.objs.size s1.heap h') (hfp:∀ b∈fp,FpOk X pins H3 b):Inv X pins σ H' { s1 with heap:=h' }:=by
 have old:∀ b o,s3.heap.get? b=some o→∀ o',s1.heap.get? b=some o'→h'.get? b=some o':=fun b o e o' e'=>(hsb.2 b (Nat.ne_of_lt (Heap.lt_size e))).trans e'
 have B:=I'.base
 have free:H' s3.heap.objs.size=none:=I'.free
 refine I3.call' (s':={ s1 with heap:=h' }) (ch:=fp) I'.os ⟨fun b o e n hb hx=>?_,fun b o e n hb hx=>?_,fun b o e n hx=>B.free b o e n hx,fun b o e hx=>?_,B.tups,B.frzs,B.tbls⟩ (fun b u e=>?_) I'.bare (fun b hb=>?_)
 ·exact old b o e _ (B.keep b o e n hb hx)
 ·obtain ⟨sl,e1⟩:=B.slot b o e n hb hx
  exact ⟨sl,old b o e _ e1⟩
 ·obtain ⟨o',e1⟩:=B.there b o e hx
  exact ⟨o',old b o e _ e1⟩
 ·refine (I'.hok b u e).stay (fun c v hc q=>(hsb.2 c ?_).trans q) (fun _ q=>q) fun _ _ q=>q
  rintro rfl
  rcases hc with z | z
  ·rw [← z,free] at e;cases e
  ·rw [free] at z;cases z
 ·obtain ⟨f0,f1,f2,f3,f4,f5⟩:=hfp b hb
  exact ⟨f3,f1,f4,f5⟩
section
variable {X:Cx} {elt iter tg:Expr} {ifs:List Expr} {scope:Scope} {pos:Pos} {N:List Str} {caps:List Nat} {n:Nat} {wi:TI} {g:TG} {tc:TT} {te:TE}
theorem zi5 {l:List (Str×NameKind)} {x:Str} {k:NameKind} (h:l.lookup x=some k):(x,k)∈l:=PySem.mem_of_lookup h
end
open PySem L2 PySem.SeqAt PyProof.Rows
section
variable {X:Cx} {C:CallF} {elt iter tg:Expr} {ielt:E} {it:It} {t:Tg} {scope:Scope} {pos:Pos} {N:List Str} {caps:List Nat} {n:Nat}
noncomputable def Al.hold (α:Al) (D:Addr):Al:=⟨α.adr,fun a=>a=D∨α.rsv a⟩
theorem zM4 {α:Al} {st:Store} {D a:Addr}:Live (α.hold D) st a↔a=D∨Live α st a:=by
 unfold Live Al.hold
 simp only
 constructor
 ·rintro ((h | h) | h)
  ·exact .inl h
  ·exact .inr (.inl h)
  ·exact .inr (.inr h)
 ·rintro (h | h | h)
  ·exact .inl (.inl h)
  ·exact .inl (.inr h)
  ·exact .inr h
theorem zC4 {K:PySem.W.Frag} {α:Al} {st:Store} {H:Hp} {D:Addr} {o:HO} (hD:H D=none) (hK:K.lookup D=none) :
  (∀ a vs,SqT K H a vs→SqT K (upd H D o) a vs)∧∀ a vs,SqL K H a vs→¬ Live α st a→SqL K (upd H D o) a vs∧¬ Live (α.hold D) st a:=by
 have s:=zh7 hD o
 refine ⟨fun a vs h=>SqT.same s h,fun a vs h n=>⟨Same.seq s h,fun l=>?_⟩⟩
 rcases zM4.mp l with e | e
 ·subst e
  rcases h with (h | ⟨_,h⟩) | ⟨_,_,_,h,_⟩
  ·rw [hD] at h;cases h
  ·rw [hD] at h;cases h
  ·rw [hK] at h;cases h
 ·exact n e
theorem hold_rst {K:PySem.W.Frag} {α:Al} {st:Store} {H:Hp} {D:Addr} {vs:List V} (r:RSt K α st H) (hD:H D=none) (hK:K.lookup D=none):RSt K (α.hold D) st (upd H D (.lst vs)):=by
 obtain ⟨mt,ml⟩:=zC4 (α:=α) (st:=st) (o:=.lst vs) hD hK
 have s:=zh7 hD (.lst vs)
 refine ⟨r.len,fun m xs h=>?_,fun m kvs h=>?_,r.inj,fun a h=>?_,fun m a o h1 h2 h3 hr=>?_,fun a h=>?_⟩
 ·obtain ⟨a,ws,h1,h2,h3⟩:=r.lst m xs h
  exact ⟨a,ws,h1,s _ _ h2,RPs.mono mt ml _ _ h3⟩
 ·obtain ⟨a,ws,h1,h2,h3⟩:=r.dct m kvs h
  exact ⟨a,ws,h1,s _ _ h2,RKV.mono mt ml _ _ h3⟩
 ·rcases zM4.mp h with e | e
  ·subst e;exact hK
  ·exact r.nk a e
 ·rcases hr with e | e
  ·subst e
   rcases r.live (.inr ⟨m,o,h1,h2,h3⟩) with ⟨_,z⟩ | ⟨_,z⟩ <;> rw [hD] at z <;> cases z
  ·exact r.dis m a o h1 h2 h3 e
 ·rcases h with e | e
  ·subst e;exact ⟨vs,zf5⟩
  ·obtain ⟨ws,h1⟩:=r.rsv a e
   exact ⟨ws,s _ _ h1⟩
theorem zM1 {K:PySem.W.Frag} {α:Al} {st:Store} {H:Hp} {D:Addr} {ys zs:List V} (hr:α.rsv D) (hH:H D=some (.lst ys)) (hK:K.lookup D=none) :
  (∀ a vs,SqT K H a vs→SqT K (upd H D (.lst zs)) a vs)∧∀ a vs,SqL K H a vs→¬ Live α st a→SqL K (upd H D (.lst zs)) a vs∧¬ Live α st a:=by
 refine ⟨fun a vs h=>?_,fun a vs h n=>⟨?_,n⟩⟩
 ·rcases h with (h | ⟨o,h⟩) | h
  ·exact .inl (.inl (by rw [ze6 (by rintro rfl;rw [hH] at h;cases h)];exact h))
  ·exact .inl (.inr ⟨o,by rw [ze6 (by rintro rfl;rw [hH] at h;cases h)];exact h⟩)
  ·exact .inr h
 ·have ne:a≠D:=by rintro rfl;exact n (.inl hr)
  rcases h with (h | ⟨o,h⟩) | h
  ·exact .inl (.inl (by rw [ze6 ne];exact h))
  ·exact .inl (.inr ⟨o,by rw [ze6 ne];exact h⟩)
  ·exact .inr h
theorem held_rst {K:PySem.W.Frag} {α:Al} {st:Store} {H:Hp} {D:Addr} {ys zs:List V} (r:RSt K α st H) (hr:α.rsv D) (hH:H D=some (.lst ys)):RSt K α st (upd H D (.lst zs)):=by
 have hK:=r.nk D (.inl hr)
 obtain ⟨mt,ml⟩:=zM1 (K:=K) (α:=α) (st:=st) (zs:=zs) hr hH hK
 have ne:∀ {m:Nat} {a:Addr} {o:PObj},α.adr[m]?=some a→objAt st m=some o→o≠.dead→a≠D:=fun h1 h2 h3 e=>r.dis _ _ _ h1 h2 h3 (e▸hr)
 refine ⟨r.len,fun m xs h=>?_,fun m kvs h=>?_,r.inj,r.nk,r.dis,fun a h=>?_⟩
 ·obtain ⟨a,ws,h1,h2,h3⟩:=r.lst m xs h
  exact ⟨a,ws,h1,by rw [ze6 (ne h1 h (by intro z;cases z))];exact h2,RPs.mono mt ml _ _ h3⟩
 ·obtain ⟨a,ws,h1,h2,h3⟩:=r.dct m kvs h
  exact ⟨a,ws,h1,by rw [ze6 (ne h1 h (by intro z;cases z))];exact h2,RKV.mono mt ml _ _ h3⟩
 ·by_cases e:a=D
  ·subst e;exact ⟨zs,zf5⟩
  ·obtain ⟨ws,h1⟩:=r.rsv a h
   exact ⟨ws,by rw [ze6 e];exact h1⟩
end
open PySem L2 PySem.SeqAt PyProof.Rows
noncomputable def Al.as (α:Al) (ρ:Addr→Prop):Al:=⟨α.adr,ρ⟩
theorem zy2 {α:Al} {ρ:Addr→Prop} {st:Store} {a:Addr} (hs:∀ a,ρ a→α.rsv a) (h:Live (α.as ρ) st a):Live α st a:=by
 rcases h with h | h
 ·exact .inl (hs a h)
 ·exact .inr h
theorem RSt.as {K:PySem.W.Frag} {α:Al} {ρ:Addr→Prop} {st:Store} {H:Hp} (r:RSt K α st H) (hs:∀ a,ρ a→α.rsv a):RSt K (α.as ρ) st H:=by
 have ml:∀ a vs,SqL K H a vs→¬ Live α st a→SqL K H a vs∧¬ Live (α.as ρ) st a:=fun a vs h n=>⟨h,fun l=>n (zy2 hs l)⟩
 refine ⟨r.len,fun m xs h=>?_,fun m kvs h=>?_,r.inj,fun a h=>r.nk a (zy2 hs h),fun m a o h1 h2 h3 h4=>r.dis m a o h1 h2 h3 (hs a h4),fun a h=>r.rsv a (hs a h)⟩
 ·obtain ⟨a,ws,h1,h2,h3⟩:=r.lst m xs h
  exact ⟨a,ws,h1,h2,RPs.mono (fun _ _ h=>h) ml _ _ h3⟩
 ·obtain ⟨a,ws,h1,h2,h3⟩:=r.dct m kvs h
  exact ⟨a,ws,h1,h2,RKV.mono (fun _ _ h=>h) ml _ _ h3⟩
section
variable {X:Cx} {C:CallF} {elt iter tg:Expr} {ifs:List Expr} {ielt:E} {it:It} {t:Tg} {scope:Scope} {pos:Pos} {N:List Str} {caps:List Nat} {n:Nat}
theorem capsAt {K:PySem.W.Frag} {α:Al} {st:Store} {H:Hp} {env:Env} {σ:L2.St} (a:At K α st H env σ):At K α st H (capsOf caps n env) (capsσ caps n σ):=by
 refine ⟨by simp [capsOf,capsσ],a.rs,fun j v h=>?_⟩
 unfold capsOf at h
 unfold capsσ
 by_cases hj:j<caps.length
 ·rw [List.getElem?_append_left (by simpa using hj),List.getElem?_map,List.getElem?_eq_getElem hj] at h ⊢
  have h:(env[caps[j]]?).join=some v:=Option.some.inj h
  cases he:env[caps[j]]? with
  | none=>rw [he] at h;cases h
  | some o =>
   rw [he] at h
   have h:o=some v:=h
   subst h
   obtain ⟨w,h1,h2⟩:=a.env _ v he
   exact ⟨w,by show some ((σ[caps[j]]?).join)=some (some w);rw [h1];rfl,h2⟩
 ·rw [List.getElem?_append_right (by simpa using hj),List.getElem?_replicate] at h
  split at h <;> cases h
noncomputable def tTs (K:PySem.W.Frag) (C:CallF):Option E→TT
 | none=>fun _ H Q=>Q true H
 | some c=>tT K C c
noncomputable def condF (C:CallF):Option E→Option (Env→Store→Res Val)
 | none=>none
 | some c=>some (evalE C c)
theorem compE_eq {cond:Option E} {src:Option (Nat×List PV)} {xs:List PV} {env:Env} {st:Store} {acc:List PV}:compE C ielt cond t src xs env st acc=compLoop (evalE C ielt) (condF C cond) t src xs env st acc:=by cases cond <;> rfl
theorem zS8 {cond:Option E} {σ:L2.St} {H:Hp} {Q:VK} {env:Env} {α:Al} {st st1 st':Store} {xs zs:List PV} {src:Option (Nat×List PV)} (at':At X.K α st H env σ) (e1:evalIt C it env st=.ok (xs,src) st1) (e2:compE C ielt cond t src xs (capsOf caps n env) st1 []=.ok zs st')
  (fin:∀ D ys α1 st1 H1 α2 H2,Ext X.K α st H α1 st1 H1→Lk X.K α1 st1 H1 α2 st' H2→RSt X.K α2 st' H2→α2.rsv=(α1.hold D).rsv→¬ α1.rsv D→H2 D=some (.lst ys)→RPs X.K H2 (Live α2 st') zs ys→Q (.ref D) H2) :
  tComp X.K caps n (tI X.K C it) (tG X.K t) (tTs X.K C cond) (tP X.K C ielt) σ H Q:=by
 refine ⟨env,α,st,xs,src,st1,at',e1,fun J H1 α1 x1 r1 wk hz D hD hK=>?_⟩
 rw [compE_eq] at e2
 have at1:=at'.next x1 r1
 have nD:¬ α1.rsv D:=fun h=>by obtain ⟨vs,z⟩:=r1.rsv D h;rw [hD] at z;cases z
 refine ⟨fun i m σ' H' ys=>m=xs.length - i∧i≤xs.length∧H' D=some (.lst ys)∧∃ env2 α2 st2 acc,At X.K α2 st2 H' env2 σ'∧(α2.rsv=(α1.hold D).rsv)∧Lk X.K α1 st1 H1 α2 st2 H'∧RPs X.K H' (Live α2 st2) acc ys∧acc.length≤i ∧
  compLoop (evalE C ielt) (condF C cond) t src (xs.drop i) env2 st2 acc=.ok zs st',⟨xs.length,by simp,Nat.zero_le _,zf5,capsOf caps n env,α1.hold D,st1,[],?_,rfl,?_,by rw [RPs],Nat.le_refl _,e2⟩,?_⟩
 ·have rh:=hold_rst (vs:=[]) at1.rs hD hK
  obtain ⟨mt,ml⟩:=zC4 (α:=α1) (st:=st1) (o:=.lst []) hD hK
  have a2:At X.K (α1.hold D) st1 (upd H1 D (.lst [])) env σ:=⟨at1.len,rh,fun i v h=>by
   obtain ⟨w,h1,h2⟩:=at1.env i v h
   refine ⟨w,h1,?_⟩
   cases v with
   | p x=>exact RP.mono mt ml _ _ h2
   | ref k=>exact h2⟩
  exact capsAt a2
 ·obtain ⟨mt,ml⟩:=zC4 (K:=X.K) (α:=α1) (st:=st1) (o:=.lst []) hD hK
  exact ⟨fun _ _ h=>h,mt,ml,fun a h=>.inr h,fun a h=>by rw [ze6 (by rintro rfl;exact nD h)]⟩
 rintro i m σ2 H2 ys ⟨rfl,hil,hDl,env2,α2,st2,acc,at2,hrs,lk,rps,hacc,e3⟩
 have hrD:α2.rsv D:=by rw [hrs];exact .inl rfl
 refine ⟨hDl,?_⟩
 -- the walk as it stands here: seen without the list under way
 have sub1:∀ a,α1.rsv a→α2.rsv a:=lk.sub
 have exB:Ext X.K α1 st1 H1 (α2.as α1.rsv) st2 H2:=⟨lk.pre,lk.tup,fun a vs h nn=>let ⟨h1,n1⟩:=lk.lst a vs h nn;⟨h1,fun l=>n1 (zy2 sub1 l)⟩,rfl,lk.raw⟩
 have rsB:RSt X.K (α2.as α1.rsv) st2 H2:=at2.rs.as sub1
 by_cases hlt:i<xs.length
 ·rw [List.drop_eq_getElem_cons hlt,compLoop] at e3
  by_cases so:srcOk st2 src=true
  ·rw [if_pos so] at e3
   have wa:=wk α2 st2 H2 lk at2.rs so
   have lyl:acc.length=ys.length:=rps.length
   refine .inr ⟨wa.go i hlt,by omega,fun w H3 hy=>?_⟩
   obtain ⟨s3,rp⟩:=wa.yld i xs[i] w H3 (List.getElem?_eq_getElem hlt) hy
   have x3:Ext X.K α2 st2 H2 α2 st2 H3:=.of_same at2.rs s3
   have at3:=at2.next x3 (at2.rs.same s3)
   have lk3:=lk.step x3
   have rps3:=x3.rps rps
   have hD3:H3 D=some (.lst ys):=s3 _ _ hDl
   cases hbt:bindTg t (.p xs[i]) st2 env2 with
   | none=>rw [hbt] at e3;cases e3
   | some env3 =>
    rw [hbt] at e3
    refine ⟨env2,α2,st2,xs[i],env3,at3,rp,hbt,fun σ3 at3'=>?_⟩
    -- behind the test
    have go:∀ {b:Bool} {st4:Store} {H4:Hp} {α4:Al},Ext X.K α2 st2 H3 α4 st4 H4→RSt X.K α4 st4 H4 →
      (if b then (evalE C ielt env3 st4).bindP fun y st5=>compLoop (evalE C ielt) (condF C cond) t src (xs.drop (i+1)) env3 st5 (acc++[y]) else compLoop (evalE C ielt) (condF C cond) t src (xs.drop (i+1)) env3 st4 acc)=.ok zs st' →
      if b=true then tP X.K C ielt σ3 H4 (fun y H5=>H5 D=some (.lst ys)∧∃ m',m'<xs.length - i∧(m'=xs.length - (i+1)∧i+1≤xs.length∧(upd H5 D (.lst (ys++[y]))) D=some (.lst (ys++[y]))∧∃ env2 α2 st2 acc,At X.K α2 st2 (upd H5 D (.lst (ys++[y]))) env2 σ3∧(α2.rsv=(α1.hold D).rsv)∧Lk X.K α1 st1 H1 α2 st2 (upd H5 D (.lst (ys++[y])))∧RPs X.K (upd H5 D (.lst (ys++[y]))) (Live α2 st2) acc (ys++[y])∧acc.length≤i+1 ∧
        compLoop (evalE C ielt) (condF C cond) t src (xs.drop (i+1)) env2 st2 acc=.ok zs st'))
      else ∃ m',m'<xs.length - i∧(m'=xs.length - (i+1)∧i+1≤xs.length∧H4 D=some (.lst ys)∧∃ env2 α2 st2 acc,At X.K α2 st2 H4 env2 σ3∧(α2.rsv=(α1.hold D).rsv)∧Lk X.K α1 st1 H1 α2 st2 H4∧RPs X.K H4 (Live α2 st2) acc ys∧acc.length≤i+1 ∧
        compLoop (evalE C ielt) (condF C cond) t src (xs.drop (i+1)) env2 st2 acc=.ok zs st'):=by
     intro b st4 H4 α4 x4 r4 e4
     have at4:=at3'.next x4 r4
     have hD4:H4 D=some (.lst ys):=(x4.raw D hrD).trans hD3
     cases b with
     | false=>exact ⟨_,by omega,rfl,hlt,hD4,env3,α4,st4,acc,at4,x4.rsv.trans hrs,lk3.step x4,x4.rps rps3,by omega,e4⟩
     | true =>
      obtain ⟨y0,st5,e5,e6⟩:=Res.bindP_inv e4
      refine ⟨env3,α4,st4,_,st5,at4,e5,fun y H5 α5 x5 r5 rv=>?_⟩
      have hr5:α5.rsv D:=by rw [x5.rsv,x4.rsv];exact hrD
      have hD5:H5 D=some (.lst ys):=(x5.raw D (by rw [x4.rsv];exact hrD)).trans hD4
      have at5:=at4.next x5 r5
      have lk5:=(lk3.step x4).step x5
      obtain ⟨mt,ml⟩:=zM1 (K:=X.K) (α:=α5) (st:=st5) (zs:=ys++[y]) hr5 hD5 (r5.nk D (.inl hr5))
      refine ⟨hD5,_,by omega,rfl,hlt,zf5,env3,α5,st5,acc++[y0],⟨at5.len,held_rst r5 hr5 hD5,fun k v h=>?_⟩,x5.rsv.trans (x4.rsv.trans hrs),⟨lk5.pre,fun a vs h=>mt a vs (lk5.tup a vs h),fun a vs h nn=>let ⟨h1,n1⟩:=lk5.lst a vs h nn;ml a vs h1 n1,lk5.sub,fun a h=>?_⟩,?_,by simp;omega,e6⟩
      ·obtain ⟨w',h1,h2⟩:=at5.env k v h
       refine ⟨w',h1,?_⟩
       cases v with
       | p z=>exact RP.mono mt ml _ _ h2
       | ref _=>exact h2
      ·rw [ze6 (by rintro rfl;exact nD h)]
       exact lk5.raw a h
      ·exact RPs.mono mt ml _ _ ((x5.rps (x4.rps rps3)).snoc rv)
    cases cond with
    | none=>exact go (b:=true) .refl at3.rs e3
    | some c =>
     obtain ⟨b,st4,e4,e5⟩:=Res.bindB_inv e3
     exact ⟨env3,α2,st2,b,st4,at3',e4,fun H4 α4 x4 r4=>go x4 r4 e5⟩
  ·rw [if_neg so] at e3;cases e3
 ·have hie:xs.drop i=[]:=List.drop_eq_nil_of_le (by omega)
  rw [hie,compLoop] at e3
  by_cases so:srcOk st2 src=true
  ·rw [if_pos so] at e3
   cases e3
   exact .inl ⟨(wk α2 st' H2 lk at2.rs so).stop i (by omega),fin D ys α1 st1 H1 α2 H2 x1 lk at2.rs hrs nD hDl rps⟩
  ·rw [if_neg so] at e3;cases e3
theorem comp_val {K:PySem.W.Frag} {α α1 α2:Al} {st st1 st':Store} {H H1 H2:Hp} {D:Addr} {ys:List V} {zs:List PV} (x1:Ext K α st H α1 st1 H1) (lk:Lk K α1 st1 H1 α2 st' H2) (r2:RSt K α2 st' H2) (hrs:α2.rsv=(α1.hold D).rsv) (nD:¬ α1.rsv D) (hDl:H2 D=some (.lst ys)) (rps:RPs K H2 (Live α2 st') zs ys) :
  Ext K α st H (α2.as α1.rsv) st' H2∧RSt K (α2.as α1.rsv) st' H2∧RV K (α2.as α1.rsv) st' H2 (.p (.lst zs)) (.ref D):=by
 have hrD:α2.rsv D:=by rw [hrs];exact .inl rfl
 have sub1:∀ a,α1.rsv a→α2.rsv a:=lk.sub
 refine ⟨x1.trans ⟨lk.pre,lk.tup,fun a vs h nn=>let ⟨h1,n1⟩:=lk.lst a vs h nn;⟨h1,fun l=>n1 (zy2 sub1 l)⟩,rfl,lk.raw⟩,r2.as sub1,?_⟩
 rw [RV,RP]
 refine ⟨D,ys,rfl,SqL.of hDl,fun l=>?_,RPs.mono (fun _ _ h=>h) (fun a vs h nn=>⟨h,fun l=>nn (zy2 sub1 l)⟩) _ _ rps⟩
 rcases l with l | ⟨k,o,l1,l2,l3⟩
 ·exact nD l
 ·exact r2.dis k D o l1 l2 l3 hrD
theorem zN1 {cond:Option E} {σ:L2.St} {H:Hp} {Q:VK} (h:tP X.K C (.comp false ielt t it cond caps n) σ H Q):tComp X.K caps n (tI X.K C it) (tG X.K t) (tTs X.K C cond) (tP X.K C ielt) σ H Q:=by
 obtain ⟨env,α,st,v,st',at',e,q⟩:=h
 rw [ev_comp] at e
 obtain ⟨⟨xs,src⟩,st1,e1,e⟩:=Res.bind_inv e
 obtain ⟨zs,st2,e2,e⟩:=Res.bind_inv e
 simp only [mk,Bool.false_eq_true,if_false] at e
 cases e
 refine zS8 at' e1 e2 fun D ys α1 st1 H1 α2 H2 x1 lk r2 hrs nD hDl rps=>?_
 obtain ⟨a,b,c⟩:=comp_val x1 lk r2 hrs nD hDl rps
 exact q _ H2 _ a b c
end
open PySem L2 PySem.SeqAt PyProof.Rows
noncomputable def spF (K:PySem.W.Frag) (P:List FD) (W d k:Nat) (np:Nat):Sp:=fun vs H Q _=>vs.length=np∧∃ α st us v st',RSt K α st H∧Paired (RV K α st H) us vs∧runF P W d k us st=.ok v st' ∧
 ∀ w H' α',Ext K α st H α' st' H'→RSt K α' st' H'→RV K α' st' H' v w→Q w H'
noncomputable def Al.cut (α:Al) (k:Nat):Al:=⟨α.adr.take k,α.rsv⟩
theorem zl9 {st:Store} {k n:Nat} {o:PObj} (h:objAt (st.take k) n=some o):n<k∧objAt st n=some o:=by
 unfold objAt at h ⊢
 rw [List.getElem?_take] at h
 split at h
 ·exact ⟨by assumption,h⟩
 ·cases h
theorem zz5 {l:List Addr} {k n:Nat} {a:Addr} (h:(l.take k)[n]?=some a):l[n]?=some a:=by
 rw [List.getElem?_take] at h
 split at h
 ·exact h
 ·cases h
theorem zy9 {α:Al} {st:Store} {k:Nat} {a:Addr} (h:Live (α.cut k) (st.take k) a):Live α st a:=by
 rcases h with h | ⟨n,o,h1,h2,h3⟩
 ·exact .inl h
 ·exact .inr ⟨n,o,zz5 h1,(zl9 h2).2,h3⟩
theorem RSt.cut {K:PySem.W.Frag} {α:Al} {st:Store} {H:Hp} (r:RSt K α st H) (k:Nat):RSt K (α.cut k) (st.take k) H:=by
 have ml:∀ a vs,SqL K H a vs→¬ Live α st a→SqL K H a vs∧¬ Live (α.cut k) (st.take k) a:=fun a vs h n=>⟨h,fun l=>n (zy9 l)⟩
 have up:∀ {n:Nat} {a:Addr},n<k→α.adr[n]?=some a→(α.adr.take k)[n]?=some a:=fun hn h=>by rw [List.getElem?_take,if_pos hn];exact h
 refine ⟨?_,fun m xs h=>?_,fun m kvs h=>?_,fun n m a o o' hne h1 h2 h3 h4=>r.inj n m a o o' hne (zz5 h1) (zz5 h2) (zl9 h3).2 (zl9 h4).2,fun a h=>r.nk a (zy9 h),fun m a o h1 h2 h3=>r.dis m a o (zz5 h1) (zl9 h2).2 h3,r.rsv⟩
 ·show (α.adr.take k).length=(st.take k).length
  rw [List.length_take,List.length_take,r.len]
 ·obtain ⟨hm,h⟩:=zl9 h
  obtain ⟨a,ws,h1,h2,h3⟩:=r.lst m xs h
  exact ⟨a,ws,up hm h1,h2,RPs.mono (fun _ _ h=>h) ml _ _ h3⟩
 ·obtain ⟨hm,h⟩:=zl9 h
  obtain ⟨a,ws,h1,h2,h3⟩:=r.dct m kvs h
  exact ⟨a,ws,up hm h1,h2,RKV.mono (fun _ _ h=>h) ml _ _ h3⟩
theorem Ext.cut {K:PySem.W.Frag} {α α':Al} {st st':Store} {H H':Hp} (e:Ext K α st H α' st' H') (hl:α.adr.length=st.length):Ext K α st H (α'.cut st.length) (st'.take st.length) H':=by
 refine ⟨fun n a h=>?_,e.tup,fun a vs h n=>let ⟨h1,n1⟩:=e.lst a vs h n;⟨h1,fun l=>n1 (zy9 l)⟩,e.rsv,e.raw⟩
 have hn:n<st.length:=by rw [← hl];exact (List.getElem?_eq_some_iff.mp h).1
 show (α'.adr.take st.length)[n]?=some a
 rw [List.getElem?_take,if_pos hn]
 exact e.pre n a h
theorem zx5 {α β:Type} {F:α→β→Prop} {a:List α} {b:List β} (h:Paired F a b):a.length=b.length:=Paired.length h
theorem at_start {K:PySem.W.Frag} {α:Al} {st:Store} {H:Hp} {N:List Str}:∀ {us:List Val} {vs:List V},RSt K α st H→Paired (RV K α st H) us vs→At K α st H (us.map some++List.replicate (N.length - us.length) none) (L2.start N vs):=by
 intro us vs r p
 have hl:=zx5 p
 refine ⟨by unfold L2.start;simp [hl],r,fun i v h=>?_⟩
 have get:∀ {us:List Val} {vs:List V} {i:Nat} {v:Val},Paired (RV K α st H) us vs→us[i]?=some v→∃ w,vs[i]?=some w∧RV K α st H v w:=by
  intro us vs i v p
  induction p generalizing i with
  | nil=>intro h;simp at h
  | cons q t ih =>
   intro h
   cases i with
   | zero=>simp at h;subst h;exact ⟨_,rfl,q⟩
   | succ i=>simpa using ih (by simpa using h)
 by_cases hi:i<us.length
 ·rw [List.getElem?_append_left (by simpa using hi),List.getElem?_map,List.getElem?_eq_getElem hi] at h
  cases h
  obtain ⟨w,h1,h2⟩:=get p (List.getElem?_eq_getElem hi)
  refine ⟨w,?_,h2⟩
  unfold L2.start
  rw [List.getElem?_append_left (by rw [List.length_map];lia),List.getElem?_map,h1]
  rfl
 ·rw [List.getElem?_append_right (by simpa using hi),List.getElem?_replicate] at h
  split at h <;> cases h
section
variable {P:Program} {w:World} {K:PySem.W.Frag} {mg:Str→Option Value} {base:Heap} {PR:List FD} {W d k:Nat}
theorem zg4 {f:Addr} {fd:FuncData} {ps:List Str}:FnOk P w K mg base CX0 0 f fd ps (spF K PR W 0 k ps.length):=by
 refine ⟨fun vs H Q E h=>h.1,fun A outer s H args us vs Q E _ _ _ _ h=>?_⟩
 obtain ⟨_,α,st,us',v,st',_,_,e,_⟩:=h
 cases e
theorem fn_succ {x qual:Str} {st:Stmt} {f:Addr} {fd:FuncData} {N ps:List Str} {ib:List S} (F:Fun K x qual st f fd) (S:FnScope N ps (defScope st)) (hP:PR[k]?=some ⟨ps.length,N.length,ib⟩)
  (hb:∀ (cdv:Value) (A:Around) (outer:List PySem.Env) (s:Shared) (H:Hp) (E:XK),Room d (A.deeper (envOfC qual (defScope st) s.heap.objs.size f cdv)) →
   SSs (cxOf CX0 P w K mg base N qual (defScope st) f cdv A outer s H E).nox (runF PR W d) W (defBody st) ib):FnOk P w K mg base CX0 (d+1) f fd ps (spF K PR W (d+1) k ps.length):=by
 refine F.ok S (fun vs H Q E h=>h.1) fun cdv A outer s H vs Q E hr h=>⟨_,hb cdv A outer s H E hr,?_⟩
 obtain ⟨hl,α,st0,us,v,st',r,pr,e,q⟩:=h
 have hus:us.length=ps.length:=by rw [zx5 pr,hl]
 rw [zb3 hP (by exact hus)] at e
 obtain ⟨fl,st1,e1,e2⟩:=Res.bind_inv e
 have at0:=at_start (N:=N) r pr
 rw [hus] at at0
 refine ⟨_,α,st0,fl,st1,at0,e1,?_⟩
 cases fl with
 | next env' =>
  intro σ' H' α' x1 at1
  cases e2
  exact q _ H' (α'.cut st0.length) (x1.cut r.len) (at1.rs.cut _) (by rw [RV,RP])
 | ret u =>
  intro w1 H' α' x1 r1 rv
  rw [leave_ret] at e2
  cases e2
  cases v with
  | p y=>exact q _ H' (α'.cut st0.length) (x1.cut r.len) (r1.cut _) (RP.mono (fun _ _ h=>h) (fun a vs h n=>⟨h,fun l=>n (zy9 l)⟩) _ _ rv)
  | ref m =>
   unfold trim at q
   by_cases hm:m<st0.length
   ·simp only [hm,if_true] at q
    obtain ⟨a,h1,h2⟩:=rv
    exact q _ H' (α'.cut st0.length) (x1.cut r.len) (r1.cut _) ⟨a,h1,by show (α'.adr.take st0.length)[m]?=some a;rw [List.getElem?_take,if_pos hm];exact h2⟩
   ·simp only [hm,if_false] at q
    exact q _ H' α' x1 r1 rv
end
section
variable {X:Cx} {PR:List FD} {W d k:Nat} {e:Expr} {es:List Expr} {irs:List E} {pos p:Pos}
theorem se_call {x:Str} {f:Addr} {fd:FuncData} {ps:List Str} (F:FnOk X.prog X.w X.K X.mg X.base CX0 d f fd ps (spF X.K PR W d k ps.length)) (hr:Room d X.A) (hg:Gl X x) (hm:X.mg x=some (.ref f)) (hk:PySem.W.keepIn X.K (.ref f)=true) (hb:Binds X.K fd ps [])
  (ha:SA X (runF PR W d) (e::es) irs) (hn:irs.length=ps.length) (hdb:(x==("__debug__" : Str))=false) (he:starEach (e::es) X.env=(false,eval e X.env)::starEach es X.env) (hpl:(backTo pos (starEach es X.env)).any (·.1)=false) :
  SE X (runF PR W d) (.Call (.Name x p) (e::es) [] pos) (.call k irs) :=
 PE.mono (pe_call F hr hg hm hk hb .nil pass0 ha hdb he hpl) fun σ H Q h_=>by
  obtain ⟨env,α,st,v,st',at',e,q⟩:=h_
  rw [ev_call] at e
  obtain ⟨vs,st1,e1,e⟩:=Res.bind_inv e
  refine ⟨env,α,st,vs,st1,at',e1,fun ws H1 α1 x1 r1 pr=>?_⟩
  show spF X.K PR W d k ps.length (ws++[]) H1 Q E0
  rw [List.append_nil]
  have lv:∀ {irs:List E} {env:Env} {st st':Store} {vs:List Val},evalEs (runF PR W d) irs env st=.ok vs st'→vs.length=irs.length:=by
   intro irs
   induction irs with
   | nil=>intro env st st' vs h;rw [evEs_nil] at h;cases h;rfl
   | cons i r ih =>
    intro env st st' vs h
    rw [evEs_cons] at h
    obtain ⟨x,st1,e1,h⟩:=Res.bind_inv h
    obtain ⟨ys,st2,e2,h⟩:=Res.bind_inv h
    cases h
    simp [ih e2]
  exact ⟨by rw [← zx5 pr,lv e1,hn],α1,st1,vs,v,st',r1,pr,e,fun w H2 α2 x2 r2 rv=>q w H2 α2 (x1.trans x2) r2 rv⟩
end
open PySem L2 PySem.SeqAt PyProof.Rows
section
variable {K:PySem.W.Frag} {α:Al} {st:Store} {H:Hp} {n:Nat} {a:Addr} {o o':PObj}
theorem zd3 {m:Nat} {x:PObj} (h:objAt (st.set n o') m=some x):(m=n∧x=o')∨(m≠n∧objAt st m=some x):=by
 by_cases hm:m=n
 ·subst hm
  have hl:m<st.length:=by have:=zn3 h;simpa using this
  rw [zp1 hl] at h
  cases h
  exact .inl ⟨rfl,rfl⟩
 ·rw [zq5 hm] at h
  exact .inr ⟨hm,h⟩
theorem zR8 (ho:objAt st n=some o) (h1:o≠.dead) (h2:o'≠.dead) {b:Addr}:Live α (st.set n o') b↔Live α st b:=by
 constructor
 ·rintro (h | ⟨m,x,e1,e2,e3⟩)
  ·exact .inl h
  ·rcases zd3 e2 with ⟨rfl,rfl⟩ | ⟨_,e2⟩
   ·exact .inr ⟨m,o,e1,ho,h1⟩
   ·exact .inr ⟨m,x,e1,e2,e3⟩
 ·rintro (h | ⟨m,x,e1,e2,e3⟩)
  ·exact .inl h
  ·by_cases hm:m=n
   ·subst hm
    exact .inr ⟨m,o',e1,zp1 (zn3 ho),h2⟩
   ·exact .inr ⟨m,x,e1,by rw [zq5 hm];exact e2,e3⟩
theorem zA4 {h':HO} (r:RSt K α st H) (ha:α.adr[n]?=some a) (ho:objAt st n=some o) (h1:o≠.dead) (h2:o'≠.dead):Ext K α st H α (st.set n o') (upd H a h'):=by
 have la:Live α st a:=.inr ⟨n,o,ha,ho,h1⟩
 have nt:∀ b vs,SqT K H b vs→SqT K (upd H a h') b vs:=fun b vs h=>by
  rcases h with (h | ⟨x,h⟩) | h
  ·refine .inl (.inl ?_)
   rw [ze6]
   ·exact h
   ·rintro rfl
    rcases r.live la with ⟨_,z⟩ | ⟨_,z⟩ <;> rw [z] at h <;> cases h
  ·refine .inl (.inr ⟨x,?_⟩)
   rw [ze6]
   ·exact h
   ·rintro rfl
    rcases r.live la with ⟨_,z⟩ | ⟨_,z⟩ <;> rw [z] at h <;> cases h
  ·exact .inr h
 refine ⟨fun _ _ h=>h,nt,fun b vs h nl=>⟨?_,fun l=>nl ((zR8 ho h1 h2).mp l)⟩,rfl,fun b hb=>?_⟩
 ·have ne:b≠a:=by rintro rfl;exact nl la
  rcases h with (h | ⟨x,h⟩) | h
  ·exact .inl (.inl (by rw [ze6 ne];exact h))
  ·exact .inl (.inr ⟨x,by rw [ze6 ne];exact h⟩)
  ·exact .inr h
 ·rw [ze6]
  rintro rfl
  exact r.dis n _ o ha ho h1 hb
theorem zI1 {h':HO} (r:RSt K α st H) (ha:α.adr[n]?=some a) (ho:objAt st n=some o) (h1:o≠.dead) (h2:o'≠.dead)
  (hl:∀ xs,o'=.lst xs→∃ vs,h'=.lst vs∧RPs K H (Live α st) xs vs) (hd:∀ kvs,o'=.dct kvs→∃ l,h'=.dK l∧RKV K H (Live α st) kvs l):RSt K α (st.set n o') (upd H a h'):=by
 have ex:=zA4 (h':=h') r ha ho h1 h2
 have ne:∀ {m:Nat} {b:Addr} {x:PObj},m≠n→α.adr[m]?=some b→objAt st m=some x→x≠.dead→b≠a:=fun hm e1 e2 e3 z=>by
  subst z
  rcases r.inj _ _ _ _ _ hm e1 ha e2 ho with z | z
  ·exact e3 z
  ·exact h1 z
 refine ⟨by rw [List.length_set];exact r.len,fun m xs h=>?_,fun m kvs h=>?_,fun m m' b x x' hne e1 e2 e3 e4=>?_,fun b h=>r.nk b ((zR8 ho h1 h2).mp h),fun m b x e1 e2 e3=>?_,fun b hb=>?_⟩
 ·rcases zd3 h with ⟨rfl,e⟩ | ⟨hm,h⟩
  ·obtain ⟨vs,rfl,rp⟩:=hl xs e.symm
   exact ⟨a,vs,ha,zf5,ex.rps rp⟩
  ·obtain ⟨b,vs,e1,e2,e3⟩:=r.lst m xs h
   exact ⟨b,vs,e1,by rw [ze6 (ne hm e1 h (by intro z;cases z))];exact e2,ex.rps e3⟩
 ·rcases zd3 h with ⟨rfl,e⟩ | ⟨hm,h⟩
  ·obtain ⟨l,rfl,rp⟩:=hd kvs e.symm
   exact ⟨a,l,ha,zf5,RKV.mono ex.tup ex.lst _ _ rp⟩
  ·obtain ⟨b,vs,e1,e2,e3⟩:=r.dct m kvs h
   exact ⟨b,vs,e1,by rw [ze6 (ne hm e1 h (by intro z;cases z))];exact e2,RKV.mono ex.tup ex.lst _ _ e3⟩
 ·rcases zd3 e3 with ⟨rfl,rfl⟩ | ⟨hm,e3'⟩
  ·rcases zd3 e4 with ⟨rfl,rfl⟩ | ⟨hm',e4⟩
   ·exact absurd rfl hne
   ·rcases r.inj m m' b o x' hne e1 e2 ho e4 with z | z
    ·exact absurd z h1
    ·exact .inr z
  ·rcases zd3 e4 with ⟨rfl,rfl⟩ | ⟨hm',e4⟩
   ·rcases r.inj m m' b x o hne e1 e2 e3' ho with z | z
    ·exact .inl z
    ·exact absurd z h1
   ·exact r.inj m m' b x x' hne e1 e2 e3' e4
 ·rcases zd3 e2 with ⟨rfl,rfl⟩ | ⟨hm,e2⟩
  ·exact r.dis m b o e1 ho h1
  ·exact r.dis m b x e1 e2 e3
 ·obtain ⟨vs,e⟩:=r.rsv b hb
  refine ⟨vs,?_⟩
  rw [ze6]
  ·exact e
  ·rintro rfl
   exact r.dis n _ o ha ho h1 hb
theorem rkv_any {lv:Addr→Prop} {k:PV} {k':Key} (hk:keyOf k=some k'):∀ {kvs:List (PV×PV)} {l:List (Key×V)},RKV K H lv kvs l→(kvs.any fun p=>decide (p.1=k))=l.any fun kv=>decide (kv.1=k')
 | [],l,h=>by rw [RKV] at h;subst h;rfl
 | (k1,x1)::r,l,h=>by
  rw [RKV] at h
  obtain ⟨k2,v,l',rfl,h1,h2,h3⟩:=h
  rw [List.any_cons,List.any_cons,rkv_any hk h3]
  congr 1
  by_cases e:k1=k
  ·subst e
   rw [hk] at h1;cases h1
   simp
  ·have:k2≠k':=fun z=>e (zB9 h1 (z▸hk))
   simp [e,this]
theorem rkv_map {lv:Addr→Prop} {k x:PV} {k':Key} {v:V} (hk:keyOf k=some k') (hx:RP K H lv x v):∀ {kvs:List (PV×PV)} {l:List (Key×V)},RKV K H lv kvs l→RKV K H lv (kvs.map fun p=>if p.1=k then (p.1,x) else p) (l.map fun kv=>if kv.1=k' then (kv.1,v) else kv)
 | [],l,h=>by rw [RKV] at h;subst h;rw [List.map_nil,List.map_nil,RKV]
 | (k1,x1)::r,l,h=>by
  rw [RKV] at h
  obtain ⟨k2,v2,l',rfl,h1,h2,h3⟩:=h
  rw [List.map_cons,List.map_cons]
  have ih:=rkv_map hk hx h3
  by_cases e:k1=k
  ·subst e
   rw [hk] at h1;cases h1
   rw [if_pos rfl,if_pos rfl,RKV]
   exact ⟨_,v,_,rfl,hk,hx,ih⟩
  ·have:k2≠k':=fun z=>e (zB9 h1 (z▸hk))
   rw [if_neg e,if_neg this,RKV]
   exact ⟨k2,v2,_,rfl,h1,h2,ih⟩
theorem zU5 {lv:Addr→Prop} {k x:PV} {k':Key} {v:V} (hk:keyOf k=some k') (hx:RP K H lv x v):∀ {kvs:List (PV×PV)} {l:List (Key×V)},RKV K H lv kvs l→RKV K H lv (kvs++[(k,x)]) (l++[(k',v)])
 | [],l,h=>by rw [RKV] at h;subst h;rw [List.nil_append,List.nil_append,RKV];exact ⟨k',v,[],rfl,hk,hx,by rw [RKV]⟩
 | (k1,x1)::r,l,h=>by
  rw [RKV] at h
  obtain ⟨k2,v2,l',rfl,h1,h2,h3⟩:=h
  rw [List.cons_append,List.cons_append,RKV]
  exact ⟨k2,v2,_,rfl,h1,h2,zU5 hk hx h3⟩
theorem rkv_put {lv:Addr→Prop} {k x:PV} {k':Key} {v:V} (hk:keyOf k=some k') (hx:RP K H lv x v) {kvs:List (PV×PV)} {l:List (Key×V)} (h:RKV K H lv kvs l):RKV K H lv (dPut k x kvs) (putK l k' v):=by
 unfold dPut putK
 rw [rkv_any hk h]
 split
 ·exact rkv_map hk hx h
 ·exact zU5 hk hx h
theorem RKV.length {lv:Addr→Prop}:∀ {kvs:List (PV×PV)} {l:List (Key×V)},RKV K H lv kvs l→kvs.length=l.length
 | [],l,h=>by rw [RKV] at h;subst h;rfl
 | (k1,x1)::r,l,h=>by
  rw [RKV] at h
  obtain ⟨k2,v2,l',rfl,h1,h2,h3⟩:=h
  simp [RKV.length h3]
end
section
variable {X:Cx} {C:CallF} {W:Nat} {o i value:Expr} {io ii iv:E} {pos pos':Pos}
theorem pset_dict (hu:X.A.units+1<cLine):PSet X (fun o i v H Q=>∃ a H',o=.ref a∧DPut H a i v H'∧Q H'):=by
 rintro pins s σ H o i v ov iv u Q I ro ri rv ⟨a,H',e,g,q⟩
 subst e
 obtain rfl:ov=Value.ref a:=ro
 exact d_setItem hu I g ri rv fun s' I'=>⟨H',I',q⟩
theorem PSet.or {t t':TSet} (h:PSet X t) (h':PSet X t'):PSet X (fun o i v H Q=>t o i v H Q∨t' o i v H Q):=by
 intro pins s σ H o i v ov iv u Q I ro ri rv q
 rcases q with q | q
 ·exact h pins s σ H o i v ov iv u Q I ro ri rv q
 ·exact h' pins s σ H o i v ov iv u Q I ro ri rv q
theorem ss_setIx (hu:X.A.units+1<cLine) (ho:SE X C o io) (hi:SE X C i ii) (hv:SE X C value iv)
  (ha:∀ v,assign (.Subscript o i pos') X.env v=(do
   let ov ← holding [v] (eval o X.env)
   let iv ← holding [v,ov] (eval i X.env)
   standAt pos'
   holding [v,ov,iv] (setItem ov iv v)
   release [v,ov,iv] []))
  (hs:swapsWithSole [.Subscript o i pos'] value pos.line X.env=pure false) (hw:swappedStores [.Subscript o i pos'] value X.env=pure none)
  (h1:(assignEach [.Subscript o i pos'] X.env).map (·.2)=[assign (.Subscript o i pos') X.env]):SS X C W (.Assign [.Subscript o i pos'] value pos) (.setIx io ii iv) :=
 PS.mono (ps_asg hv (pg_sub ho hi (PSet.or set_list (pset_dict hu)) ha) hs hw h1) fun D σ H h_=>by
  obtain ⟨env,α,st,fl,st',at',e,q⟩:=h_
  rw [ex_setIx] at e
  obtain ⟨x,st1,e1,e⟩:=Res.bindP_inv e
  obtain ⟨ov,st2,e2,e⟩:=Res.bind_inv e
  obtain ⟨iv',y,st3,e3,hy,e⟩:=Res.bindV_inv e
  obtain ⟨_,st4,e4,e⟩:=Res.bind_inv e
  cases e
  refine ⟨env,α,st,_,st1,at',e1,fun w H1 α1 x1 r1 v1=>?_⟩
  refine ⟨env,α1,st1,ov,st2,at'.next x1 r1,e2,fun w2 H2 α2 x2 r2 v2=>?_⟩
  refine ⟨env,α2,st2,iv',st3,(at'.next x1 r1).next x2 r2,e3,fun w3 H3 α3 x3 r3 v3=>?_⟩
  have rx:=(x2.trans x3).rv v1
  have ro:=x3.rv v2
  have wy:=v3.view r3 hy
  have at3:=((at'.next x1 r1).next x2 r2).next x3 r3
  cases ov with
  | p z=>cases e4
  | ref n =>
   obtain ⟨a,rfl,ha⟩:=ro
   have e4:(match objAt st3 n with | some (.lst xs)=>(match setL xs y x with | some ys=>Res.ok () (st3.set n (.lst ys)) | none=>.stuck) | some (.dct kvs)=>(if kvs.length<1000000∧isKey y=true then Res.ok () (st3.set n (.dct (dPut y x kvs))) else .stuck) | _=>.stuck)=Res.ok () st':=e4
   cases hob:objAt st3 n with
   | none=>rw [hob] at e4;cases e4
   | some ob =>
    rw [hob] at e4
    cases ob with
    | dead=>cases e4
    | lst xs =>
     cases hsl:setL xs y x with
     | none=>simp only [hsl] at e4;cases e4
     | some ys =>
      simp only [hsl] at e4
      cases e4
      obtain ⟨a',vs,g1,g2,g3⟩:=r3.lst n xs hob
      rw [ha] at g1;cases g1
      cases y with
      | int k =>
       obtain ⟨j,hj,hys⟩:=Option.map_eq_some_iff.mp (show (ixAt xs.length k).map (fun j=>xs.set j x)=some ys from hsl)
       subst hys
       have nd1:PObj.lst xs≠.dead:=by intro z;cases z
       have nd2:PObj.lst (xs.set j x)≠.dead:=by intro z;cases z
       refine .inl ⟨a,vs,k,j,rfl,wy.int,g2,by rw [← g3.length];exact hj,?_⟩
       have setR:∀ {xs:List PV} {vs:List V} (j:Nat),RPs X.K H3 (Live α3 st3) xs vs→RPs X.K H3 (Live α3 st3) (xs.set j x) (vs.set j w):=by
        intro xs
        induction xs with
        | nil=>intro vs j h;rw [RPs] at h;subst h;rw [List.set_nil,List.set_nil,RPs]
        | cons z zs ih =>
         intro vs j h
         rw [RPs] at h
         obtain ⟨u,ur,rfl,h1,h2⟩:=h
         cases j with
         | zero=>rw [List.set_cons_zero,List.set_cons_zero,RPs];exact ⟨w,ur,rfl,rx,h2⟩
         | succ j=>rw [List.set_cons_succ,List.set_cons_succ,RPs];exact ⟨u,_,rfl,h1,ih j h2⟩
       have ex:=zA4 (o':=.lst (xs.set j x)) (h':=.lst (vs.set j w)) r3 ha hob nd1 nd2
       have rs:=zI1 (o':=.lst (xs.set j x)) (h':=.lst (vs.set j w)) r3 ha hob nd1 nd2 (fun ys e=>by cases e;exact ⟨_,rfl,setR j g3⟩) (fun kvs e=>by cases e)
       exact q σ _ α3 (x1.trans (x2.trans (x3.trans ex))) (at3.next ex rs)
      | _=>simp [setL] at hsl
    | dct kvs =>
     by_cases hlen:kvs.length<1000000∧isKey y=true
     ·simp only [hlen,and_self,if_true] at e4
      cases e4
      obtain ⟨a',l,g1,g2,g3⟩:=r3.dct n kvs hob
      rw [ha] at g1;cases g1
      obtain ⟨k,hk⟩:∃ k,keyOf y=some k:=by
       cases y with
       | int z=>exact ⟨_,rfl⟩
       | str z=>exact ⟨_,rfl⟩
       | _=>cases hlen.2
      have nd1:PObj.dct kvs≠.dead:=by intro z;cases z
      have nd2:PObj.dct (dPut y x kvs)≠.dead:=by intro z;cases z
      have hz:sizeLine=16777216:=by decide
      have ll:=g3.length
      refine .inr ⟨a,_,rfl,by rw [RW_int wy hk];exact DPut.k g2 (by rw [hz];lia),?_⟩
      have ex:=zA4 (o':=.dct (dPut y x kvs)) (h':=.dK (putK l k w)) r3 ha hob nd1 nd2
      have rs:=zI1 (o':=.dct (dPut y x kvs)) (h':=.dK (putK l k w)) r3 ha hob nd1 nd2 (fun ys e=>by cases e) (fun kvs' e=>by cases e;exact ⟨_,rfl,rkv_put hk rx g3⟩)
      exact q σ _ α3 (x1.trans (x2.trans (x3.trans ex))) (at3.next ex rs)
     ·have e4:(if kvs.length<1000000∧isKey y=true then Res.ok () (st3.set n (.dct (dPut y x kvs))) else .stuck)=Res.ok () st':=e4
      rw [if_neg hlen] at e4
      cases e4
end
open PySem L2 PySem.SeqAt PyProof.Rows
section
variable {X:Cx}
theorem zD5:∀ {xs:List PV} {b:Bool},boolsAll xs=some b→∃ bs:List Bool,xs=bs.map .bl∧b=bs.all id
 | [],b,h=>by cases h;exact ⟨[],rfl,rfl⟩
 | x::r,b,h=>by
  cases x with
  | bl k =>
   obtain ⟨c,h1,h2⟩:=Option.map_eq_some_iff.mp (show (boolsAll r).map (k && ·)=some b from h)
   obtain ⟨bs,rfl,rfl⟩:=zD5 h1
   exact ⟨k::bs,rfl,by rw [← h2];rfl⟩
  | _=>cases h
theorem zL1 {K:PySem.W.Frag} {H:Hp} {lv:Addr→Prop}:∀ {bs:List Bool} {vs:List V},RPs K H lv (bs.map .bl) vs→vs=bs.map .bl
 | [],vs,h=>by rw [List.map_nil,RPs] at h;exact h
 | b::r,vs,h=>by
  rw [List.map_cons,RPs] at h
  obtain ⟨v,vr,rfl,h1,h2⟩:=h
  rw [RP] at h1
  rw [h1,zL1 h2]
  rfl
theorem zF8:∀ {bs:List Bool} {its:List Value},Vals (bs.map .bl) its→its=bs.map .bool
 | [],its,h=>by cases h;rfl
 | b::r,its,h=>by
  cases h with
  | cons q t =>
   obtain rfl:=(show _=Value.bool b from q)
   rw [zF8 t]
   rfl
theorem all_range (bs:List Bool):(List.range bs.length).all (fun i=>bs.getD i false)=bs.all id:=by
 induction bs with
 | nil=>rfl
 | cons b r ih =>
  rw [List.length_cons,List.range_succ_eq_map,List.all_cons,List.all_map,List.all_cons,← ih]
  rfl
theorem n_all (hc:X.calm=true):CallN X (.builtin "all") (f1 (onLst fun l=>(boolsAll l).map .bl)):=by
 rintro pins s σ H ws us Q I rs ⟨α,st,xs,z,r,pr,hz,q⟩
 cases pr with
 | nil=>cases hz
 | cons h t =>
  cases t with
  | cons _ _=>cases hz
  | nil =>
   rename_i x w
   cases x with
   | lst l =>
    obtain ⟨b,hb,hz2⟩:=Option.map_eq_some_iff.mp (show (boolsAll l).map PV.bl=some z from hz)
    obtain ⟨bs,rfl,rfl⟩:=zD5 hb
    obtain ⟨a,vs,rfl,h1,h2⟩:=h.lst
    cases rs with
    | cons ra rt =>
     cases rt
     obtain rfl:=(show _=Value.ref a from ra)
     obtain ⟨its,r1,p,_⟩:=I.list h1
     have ev:=zL1 h2
     subst ev
     have ei:=zF8 r1
     subst ei
     refine call_all_walk (wpAny_pyIter_list p.isList ?_)
     have hne:a≠s.heap.objs.size:=by
      obtain ⟨o,_,e,_⟩:=p
      exact Nat.ne_of_lt (Heap.lt_size e)
     refine ⟨_,_,_,_,_,_,fun i=>bs.getD i false,rfl,Walks.list (A:=X.A.in1) (show X.A.in1.handled=none from I.ok.hd hc) s.heap.objs.size a hne (bs.map Value.bool).toArray,⟨⟨_,Heap.get?_push_size _ rfl,rfl,rfl⟩,?_⟩,?_,fun h' tk hk=>?_⟩
     ·obtain ⟨o,n,e,c,_,d⟩:=p
      exact ⟨o,Heap.get?_push_of_some _ e,c,n,d⟩
     ·intro i v s' Q' E' hv hQ
      have hv:(bs.map Value.bool).toArray[i]?=some v:=hv
      rw [List.getElem?_toArray,List.getElem?_map] at hv
      obtain ⟨b,hb',rfl⟩:=Option.map_eq_some_iff.mp hv
      have e:bs.getD i false=b:=by rw [List.getD_eq_getElem?_getD,hb'];rfl
      have hQ:Q' (bs.getD i false) s':=hQ
      rw [e] at hQ
      exact wpAny_truthy_bool hQ
     ·refine ⟨.bl _,H,I.kept (fun b o e=>hk b o ?_ (Heap.get?_push_of_some _ e)),rfl,?_⟩
      ·simp only [List.mem_singleton]
       exact Nat.ne_of_lt (Heap.lt_size e)
      ·have:(List.range (bs.map Value.bool).toArray.size).all (fun i=>bs.getD i false)=bs.all id:=by
        rw [List.size_toArray,List.length_map];exact all_range bs
       rw [this]
       exact q _ _ (Same.refl H) (by rw [← hz2,RP])
   | _=>cases hz
theorem ints_of:∀ {xs:List PV} {ns:List Int},intsOf xs=some ns→xs=ns.map .int
 | [],ns,h=>by cases h;rfl
 | x::r,ns,h=>by
  cases x with
  | int i =>
   obtain ⟨ms,h1,h2⟩:=Option.map_eq_some_iff.mp (show (intsOf r).map (i :: ·)=some ns from h)
   rw [← h2,ints_of h1]
   rfl
  | _=>cases h
theorem zU8 {K:PySem.W.Frag} {H:Hp} {lv:Addr→Prop}:∀ {ns:List Int} {vs:List V},RPs K H lv (ns.map .int) vs→vs=ns.map .int
 | [],vs,h=>by rw [List.map_nil,RPs] at h;exact h
 | b::r,vs,h=>by
  rw [List.map_cons,RPs] at h
  obtain ⟨v,vr,rfl,h1,h2⟩:=h
  rw [RP] at h1
  rw [h1,zU8 h2]
  rfl
theorem zF5:∀ {ns:List Int} {its:List Value},Vals (ns.map .int) its→∃ ps:List (Int×Tok),its=ps.map (fun p=>Value.int p.1 p.2)∧ps.map (·.1)=ns
 | [],its,h=>by cases h;exact ⟨[],rfl,rfl⟩
 | b::r,its,h=>by
  cases h with
  | cons q t =>
   obtain ⟨tk,rfl⟩:=q
   obtain ⟨ps,rfl,h2⟩:=zF5 t
   exact ⟨(b,tk)::ps,rfl,by rw [List.map_cons,h2]⟩
end
open PySem L2 PySem.SeqAt PyProof.Rows
section
variable {X:Cx} {C:CallF} {a:Expr} {ia:E} {pos p p2:Pos}
variable {o e:Expr} {es:List Expr} {io:E} {irs:List E} {apos cpos:Pos} {name:Str} {id:String} {m:Mt}
end
open PySem L2 PySem.SeqAt PyProof.Rows
open PySem.Builtin PySem.Builtin.Str
section
variable {X:Cx}
end
open PySem L2 PySem.SeqAt PyProof.Rows
open PySem.Builtin PySem.Builtin.Str
theorem zC0 (n d:Nat) (o:Option Int):HT.sIx n d o=sIx n d o:=by
 cases o with
 | none=>rfl
 | some i =>
  show (if i<0 then (i+(n:Int)).toNat else min i.toNat n)=(if 0≤i then min i.toNat n else ((n:Int)+i).toNat)
  by_cases h:0≤i
  ·rw [if_neg (by lia),if_pos h]
  ·rw [if_pos (by lia),if_neg h]
   congr 1
   lia
theorem clip_at (i:Int) (n d:Nat):max 0 (min (if i<0 then i+(n:Int) else i) (n:Int))=((sIx n d (some i):Nat):Int):=by
 show max 0 (min (if i<0 then i+(n:Int) else i) (n:Int))=(((if 0≤i then min i.toNat n else ((n:Int)+i).toNat):Nat):Int)
 by_cases h:0≤i
 ·rw [if_neg (by lia),if_pos h];lia
 ·rw [if_pos (by lia),if_neg h];lia
theorem strIdx (lo hi:Option Int) (n:Nat):strSliceIndices lo hi 1 n=(List.range (sIx n n hi - sIx n 0 lo)).map (sIx n 0 lo + ·):=by
 rw [← sliceRange_one]
 have h1:(1:Int) > 0:=by decide
 unfold strSliceIndices
 simp only [h1,if_true]
 congr 1
 ·cases lo with
  | none=>rfl
  | some i=>exact clip_at i n 0
 ·cases hi with
  | none=>rfl
  | some i=>exact clip_at i n n
section
variable {prog:Program} {w:World} {A:Around} {E:Value→Shared→Prop} {s:Shared}
theorem zt9 {t sl:Addr} {items:Array Value} {vl vu:Value} {lo hi:Option Int} {Q:Value→Shared→Prop} (ht:IsTup s.heap t items) (hs:s.heap.IsSliceOf sl vl vu .none) (pl:IsPart vl lo) (pu:IsPart vu hi)
  (hw:HT.sIx items.size 0 lo=0∧HT.sIx items.size items.size hi=items.size) (h:Q (.ref t) s):wpAny (model prog w) A (getItem (.ref t) (.ref sl)) Q E s:=by
 obtain ⟨os,hos,hcs,hds⟩:=id hs
 have hTs:s.TypeIs (.ref sl) "slice" := ⟨os,hos,hcs⟩
 unfold getItem
 try with_reducible refine wpAny_holding ?_
 first | refine wpAny_bind (wpAny_pure ?_) | skip
 refine wpAny_bind (wpAny_sequenceKey ht.typeIs (by decide) ?_)
 refine wpAny_bind (wpAny_callSpecial?_slot (name:=Str.ofString "__getitem__") ht.typeIs PyProof.Rows.slot_tuple_getitem
  (wpAny_call_entry PyProof.Rows.slot_tuple_getitem ht.typeIs entry_tuple_getitem ?_ (args_tuple_getitem _ _)))
 show wpAny _ _ (Builtin.Tuple.tupleItemsOf (.ref t) >>= _) _ _ s
 refine wpAny_bind (tupleItemsOf_ ht ?_)
 refine wpAny_bind (wpAny_typeOf hTs ?_)
 rw [if_pos (by decide)]
 refine wpAny_bind (HT.sliceApplied_gen hs pl pu ?_)
 have hyes:(((HT.sIx items.size 0 lo:Nat):Int)==0&&(1:Int)==1&&(HT.sIx items.size items.size hi - HT.sIx items.size 0 lo)==items.size)=true:=by
  rw [hw.1,hw.2];simp
 show wpAny _ _ (if (((HT.sIx items.size 0 lo:Nat):Int)==0&&(1:Int)==1&&(HT.sIx items.size items.size hi - HT.sIx items.size 0 lo)==items.size)=true then _ else _) _ _ s
 rw [if_pos hyes]
 refine wpAny_bind (m:=Builtin.Tuple.tupleIsExact (.ref t)) ?_
 unfold Builtin.Tuple.tupleIsExact
 refine wpAny_bind (wpAny_typeOf ht.typeIs (wpAny_pure ?_))
 rw [if_pos (by decide)]
 exact wpAny_bind (wpAny_rule (wpAny_pure ⟨_,rfl,wpAny_pure h⟩))
end
section
variable {X:Cx} {C:CallF} {e:Expr} {ie:E} {pos p2:Pos}
theorem zU6 {α:Type} (xs:List α) (lo hi:Option Int):(cut xs lo hi).length≤xs.length:=by
 unfold cut
 rw [List.length_take,List.length_drop]
 lia
theorem cut_whole {α:Type} (xs:List α) (lo hi:Option Int) (h:(cut xs lo hi).length=xs.length):cut xs lo hi=xs :=
 (((List.take_sublist _ _).trans (List.drop_sublist _ _)):(cut xs lo hi).Sublist xs).eq_of_length h
def rSlS:V→Option Int→Option Int→Hp→VK→Prop:=fun x lo hi H Q=>∃ cs:List Nat,x=.str ⟨cs.toArray⟩∧cs.length≤sizeLine∧Q (.str ⟨(cut cs lo hi).toArray⟩) H
theorem part_of {v:Value} {o:Option Int} (p:IsPart v o):∃ l:Option (Int×Tok),v=partValue l∧l.map (·.1)=o:=by
 cases p with
 | none=>exact ⟨none,rfl,rfl⟩
 | int i t=>exact ⟨some (i,t),rfl,rfl⟩
theorem sl_str:SlR X rSlS:=by
 rintro pins s σ H x v vl vu lo hi sl Q I rx hs pl pu ⟨cs,e,hl,q⟩
 subst e
 obtain ⟨t,rfl⟩:=rx
 obtain ⟨l,rfl,rfl⟩:=part_of pl
 obtain ⟨u,rfl,rfl⟩:=part_of pu
 have pk:slicePicked ⟨cs.toArray⟩ l u none=(List.range (sIx cs.length cs.length (u.map (·.1)) - sIx cs.length 0 (l.map (·.1)))).map (sIx cs.length 0 (l.map (·.1)) + ·):=by
  unfold slicePicked
  rw [zk8]
  exact strIdx _ _ _
 have pf:(slicePicked ⟨cs.toArray⟩ l u none).filterMap (fun i=>(⟨cs.toArray⟩:Str).cps[i]?)=cut cs (l.map (·.1)) (u.map (·.1)):=by
  rw [pk]
  exact pick_run cs.toArray _ _
 refine ⟨"str", _,PySem.F.slot_str_getitem.lookup,typeIs_str _ _ _,wpAny_getItem_str_slice (l:=l) (u:=u) (st:=none) hs rfl ?_⟩
 unfold sliceMade
 split
 ·rename_i h
  have h2:(slicePicked ⟨cs.toArray⟩ l u none).length=cs.length:=by
   have:=(Bool.and_eq_true _ _▸h:_∧_).2
   rw [zk8] at this
   exact eq_of_beq this
  have h3:cut cs (l.map (·.1)) (u.map (·.1))=cs:=by
   refine cut_whole _ _ _ ?_
   rw [pk,List.length_map,List.length_range] at h2
   unfold cut
   rw [List.length_take,List.length_drop]
   have h4:sIx cs.length cs.length (u.map (·.1))≤cs.length:=by rw [← zC0];exact HT.sIx_le _ _ (Nat.le_refl _) _
   lia
  rw [h3] at q
  exact ⟨.str _,H,I,⟨t,rfl⟩,q⟩
 ·rw [pf]
  exact ⟨by rw [zk8];exact Nat.le_trans (zU6 _ _ _) hl,.str _,H,I.tok _,⟨_,rfl⟩,q⟩
theorem RPs.cut {K:PySem.W.Frag} {H:Hp} {lv:Addr→Prop} {xs:List PV} {vs:List V} (lo hi:Option Int) (h:RPs K H lv xs vs):RPs K H lv (cut xs lo hi) (cutV vs lo hi):=by
 unfold OR.cut cutV
 rw [zC0,zC0,← h.length]
 exact RPs.take _ (RPs.drop _ h)
theorem sl_any:SlR X (fun x lo hi H Q=>∃ α st px z,RSt X.K α st H∧RW X.K α st H px x∧sliceOp px lo hi=some z∧∀ w H',Same H H'→RP X.K H' (Live α st) z w→Q w H'):=by
 rintro pins s σ H x v vl vu lo hi sl Q I rx hs pl pu ⟨α,st,px,z,r,h,hz,q⟩
 cases px with
 | str cs =>
  obtain ⟨h1,h2⟩:=h.str
  subst h1
  refine sl_str pins s σ H _ v vl vu lo hi sl Q I rx hs pl pu ⟨cs,rfl,h2,q _ _ (Same.refl H) ?_⟩
  cases hz
  rw [RP]
  exact ⟨rfl,Nat.le_trans (zU6 _ _ _) h2⟩
 | lst xs =>
  obtain ⟨a,vs,rfl,h1,h2⟩:=h.lst
  refine sl_list pins s σ H _ v vl vu lo hi sl Q I rx hs pl pu ⟨a,vs,rfl,h1,fun p hp=>q _ _ (zh7 hp _) ?_⟩
  cases hz
  rw [RP]
  exact ⟨p,_,rfl,SqL.of zf5,r.notlive hp,(Ext.of_same r (zh7 hp _)).rps (h2.cut lo hi)⟩
 | tup xs =>
  obtain ⟨a,vs,rfl,h1,h2⟩:=h.tup
  cases hz
  by_cases hw:sIx xs.length 0 lo=0∧sIx xs.length xs.length hi=xs.length
  ·have ec:OR.cut xs lo hi=xs:=by
    unfold OR.cut
    rw [hw.1,hw.2,List.drop_zero,Nat.sub_zero,List.take_length]
   rw [ec] at q
   cases rx
   obtain ⟨its,r1,ht,hz'⟩:=I.tuple h1
   have hlen:its.toArray.size=xs.length:=by rw [List.size_toArray,h2.length];exact r1.length.symm
   refine ⟨"tuple", _,PyProof.Rows.slot_tuple_getitem.lookup,ht.typeIs,?_⟩
   refine zt9 ht hs pl pu (by rw [hlen,zC0,zC0];exact hw) ?_
   exact ⟨.ref a,H,I,rfl,q _ _ (Same.refl H) (by rw [RP];exact ⟨a,vs,rfl,h1,h2⟩)⟩
  ·refine sl_tup pins s σ H _ v vl vu lo hi sl Q I rx hs pl pu ⟨a,vs,rfl,h1,by rw [zC0,zC0,← h2.length];exact hw,fun p hp=>q _ _ (zh7 hp _) ?_⟩
   rw [RP]
   exact ⟨p,_,rfl,SqT.of zf5,(Ext.of_same r (zh7 hp _)).rps (h2.cut lo hi)⟩
 | _=>cases hz
noncomputable def tO (K:PySem.W.Frag) (C:CallF) (ir:Option E):TO:=fun σ H Q=>∃ env α st o st',At K α st H env σ∧evalO C ir env st=.ok o st' ∧
 ∀ H' α',Ext K α st H α' st' H'→RSt K α' st' H'→Q o H'
noncomputable abbrev SO (X:Cx) (C:CallF) (e:Option Expr) (ir:Option E):Prop:=PO X e (tO X.K C ir)
theorem PO.mono {e:Option Expr} {t t':TO} (h:PO X e t) (m:∀ σ H Q,t' σ H Q→t σ H Q):PO X e t':=fun pins s σ H Q I q=>h pins s σ H Q I (m _ _ _ q)
theorem so_none:SO X C none none:=PO.mono po_none fun σ H Q h_=>by
 obtain ⟨env,α,st,o,st',at',e,q⟩:=h_
 rw [evO_none] at e
 cases e
 exact q H α .refl at'.rs
theorem so_some (h:SE X C e ie):SO X C (some e) (some ie):=PO.mono (po_some h) fun σ H Q h_=>by
 obtain ⟨env,α,st,o,st',at',e,q⟩:=h_
 rw [evO_some] at e
 obtain ⟨v,x,st1,e1,hv,e⟩:=Res.bindV_inv e
 refine ⟨env,α,st,v,st1,at',e1,fun w H1 α1 x1 r1 v1=>?_⟩
 cases x with
 | int i =>
  cases e
  exact ⟨i,(v1.view r1 hv).int,q H1 α1 x1 r1⟩
 | _=>cases e
theorem se_slice {lo hi:Option Expr} {ilo ihi:Option E} (he:SE X C e ie) (hl:SO X C lo ilo) (hh:SO X C hi ihi):SE X C (.Subscript e (.Slice lo hi none p2) pos) (.slice ie ilo ihi) :=
 PE.mono (pe_slice sl_any he hl hh) fun σ H Q h_=>by
  obtain ⟨env,α,st,v,st',at',e,q⟩:=h_
  rw [ev_slice] at e
  obtain ⟨va,st1,e1,e⟩:=Res.bind_inv e
  obtain ⟨l,st2,e2,e⟩:=Res.bind_inv e
  obtain ⟨h,st3,e3,e⟩:=Res.bind_inv e
  obtain ⟨x,y,g1,g2,g3,g4⟩:=op1_inv e
  subst g3 g4
  refine ⟨env,α,st,va,st1,at',e1,fun w H1 α1 x1 r1 v1=>?_⟩
  have at1:=at'.next x1 r1
  refine ⟨env,α1,st1,l,st2,at1,e2,fun H2 α2 x2 r2=>?_⟩
  refine ⟨env,α2,st2,h,st',at1.next x2 r2,e3,fun H3 α3 x3 r3=>?_⟩
  refine ⟨α3,st',x,y,r3,((x2.trans x3).rv v1).view r3 g1,g2,fun w3 H4 s4 rp=>?_⟩
  exact q w3 H4 α3 (x1.trans (x2.trans (x3.trans (.of_same r3 s4)))) (r3.same s4) rp
end
open PySem L2 PySem.SeqAt PyProof.Rows
noncomputable def Al.add (α:Al) (p:Addr):Al:=⟨α.adr++[p],α.rsv⟩
section
variable {K:PySem.W.Frag} {α:Al} {st:Store} {H:Hp} {p:Addr} {o:PObj}
theorem zg1 {n:Nat} {x:PObj} (h:objAt (st++[o]) n=some x):(n<st.length∧objAt st n=some x)∨(n=st.length∧x=o):=by
 by_cases hn:n<st.length
 ·rw [zq6 hn] at h
  exact .inl ⟨hn,h⟩
 ·have hl:=zn3 h
  rw [List.length_append,List.length_singleton] at hl
  have e:n=st.length:=by lia
  subst e
  rw [objAt_new] at h
  cases h
  exact .inr ⟨rfl,rfl⟩
theorem zl1 {l:List Addr} {n:Nat} {a:Addr} (h:(l++[p])[n]?=some a):(n<l.length∧l[n]?=some a)∨(n=l.length∧a=p):=by
 by_cases hn:n<l.length
 ·rw [List.getElem?_append_left hn] at h
  exact .inl ⟨hn,h⟩
 ·have hl:=(List.getElem?_eq_some_iff.mp h).1
  rw [List.length_append,List.length_singleton] at hl
  have e:n=l.length:=by lia
  subst e
  rw [List.getElem?_concat_length] at h
  cases h
  exact .inr ⟨rfl,rfl⟩
theorem zI9 (hl:α.adr.length=st.length) {a:Addr} (h:Live (α.add p) (st++[o]) a):a=p∨Live α st a:=by
 rcases h with h | ⟨n,x,h1,h2,h3⟩
 ·exact .inr (.inl h)
 ·rcases zl1 h1 with ⟨g1,g2⟩ | ⟨g1,g2⟩
  ·rcases zg1 h2 with ⟨_,k2⟩ | ⟨k1,_⟩
   ·exact .inr (.inr ⟨n,x,g2,k2,h3⟩)
   ·lia
  ·exact .inl g2
theorem no_seq {a:Addr} {vs:List V} (hp:H p=none) (hK:K.lookup p=none) (h:SqL K H a vs):a≠p:=by
 rintro rfl
 rcases h with (h | ⟨_,h⟩) | ⟨_,_,_,h,_⟩
 ·rw [hp] at h;cases h
 ·rw [hp] at h;cases h
 ·rw [hK] at h;cases h
theorem zG3 {h':HO} (r:RSt K α st H) (hp:H p=none) (hK:K.lookup p=none):Ext K α st H (α.add p) (st++[o]) (upd H p h'):=by
 have s:=zh7 hp h'
 refine ⟨fun n a h=>?_,fun a vs h=>SqT.same s h,fun a vs h n=>⟨Same.seq s h,fun l=>?_⟩,rfl,fun a ha=>?_⟩
 ·show (α.adr++[p])[n]?=some a
  rw [List.getElem?_append_left (List.getElem?_eq_some_iff.mp h).1]
  exact h
 ·rcases zI9 r.len l with e | e
  ·exact no_seq hp hK h e
  ·exact n e
 ·obtain ⟨vs,e⟩:=r.rsv a ha
  rw [e,s _ _ e]
theorem zO3 {h':HO} (r:RSt K α st H) (hp:H p=none) (hK:K.lookup p=none)
  (hl:∀ xs,o=.lst xs→∃ vs,h'=.lst vs∧RPs K H (Live α st) xs vs) (hd:∀ kvs,o=.dct kvs→∃ l,h'=.dK l∧RKV K H (Live α st) kvs l):RSt K (α.add p) (st++[o]) (upd H p h'):=by
 have s:=zh7 hp h'
 have ex:=zG3 (o:=o) (h':=h') r hp hK
 have old:∀ {n:Nat} {a:Addr},α.adr[n]?=some a→(α.add p).adr[n]?=some a:=fun h=>ex.pre _ _ h
 have new:(α.add p).adr[st.length]?=some p:=by
  show (α.adr++[p])[st.length]?=some p
  rw [← r.len,List.getElem?_concat_length]
 have dead:∀ {n:Nat} {x:PObj},α.adr[n]?=some p→objAt st n=some x→x=.dead:=fun {n x} h1 h2=>by
  by_cases hx:x=.dead
  ·exact hx
  ·exact absurd (.inr ⟨n,x,h1,h2,hx⟩) (r.notlive hp)
 refine ⟨?_,fun n xs h=>?_,fun n kvs h=>?_,fun n m a x x' hne h1 h2 h3 h4=>?_,fun a h=>?_,fun n a x h1 h2 h3 h4=>?_,fun a ha=>?_⟩
 ·show (α.adr++[p]).length=(st++[o]).length
  rw [List.length_append,List.length_append,r.len]
  rfl
 ·rcases zg1 h with ⟨_,h⟩ | ⟨rfl,e⟩
  ·obtain ⟨a,vs,e1,e2,e3⟩:=r.lst n xs h
   exact ⟨a,vs,old e1,s _ _ e2,ex.rps e3⟩
  ·obtain ⟨vs,rfl,e3⟩:=hl xs e.symm
   exact ⟨p,vs,new,zf5,ex.rps e3⟩
 ·rcases zg1 h with ⟨_,h⟩ | ⟨rfl,e⟩
  ·obtain ⟨a,vs,e1,e2,e3⟩:=r.dct n kvs h
   exact ⟨a,vs,old e1,s _ _ e2,RKV.mono ex.tup ex.lst _ _ e3⟩
  ·obtain ⟨l,rfl,e3⟩:=hd kvs e.symm
   exact ⟨p,l,new,zf5,RKV.mono ex.tup ex.lst _ _ e3⟩
 ·have ll:=r.len
  rcases zl1 h1 with ⟨a1,b1⟩ | ⟨a1,rfl⟩
  ·rcases zg1 h3 with ⟨_,h3⟩ | ⟨z,_⟩
   ·rcases zl1 h2 with ⟨a2,b2⟩ | ⟨a2,rfl⟩
    ·rcases zg1 h4 with ⟨_,h4⟩ | ⟨z,_⟩
     ·exact r.inj n m a x x' hne b1 b2 h3 h4
     ·lia
    ·exact .inl (dead b1 h3)
   ·lia
  ·rcases zl1 h2 with ⟨a2,b2⟩ | ⟨a2,_⟩
   ·rcases zg1 h4 with ⟨_,h4⟩ | ⟨z,_⟩
    ·exact .inr (dead b2 h4)
    ·lia
   ·lia
 ·rcases zI9 r.len h with rfl | e
  ·exact hK
  ·exact r.nk a e
 ·have ll:=r.len
  rcases zl1 h1 with ⟨a1,b1⟩ | ⟨a1,rfl⟩
  ·rcases zg1 h2 with ⟨_,h2⟩ | ⟨z,_⟩
   ·exact r.dis n a x b1 h2 h3 h4
   ·lia
  ·obtain ⟨vs,e⟩:=r.rsv a h4
   rw [hp] at e;cases e
 ·obtain ⟨vs,e⟩:=r.rsv a ha
  exact ⟨vs,s _ _ e⟩
theorem zL8 (r:RSt K α st H):(α.add p).adr[st.length]?=some p:=by
 show (α.adr++[p])[st.length]?=some p
 rw [← r.len,List.getElem?_concat_length]
end
section
variable {X:Cx} {C:CallF} {pos:Pos} {es:List Expr} {irs:List E} {t:TA}
theorem zs2 {pins:List (Addr×Obj)} {σ:L2.St} {H:Hp} {s:Shared} (I:Inv X pins σ H s):X.K.lookup s.heap.objs.size=none:=by
 cases e:X.K.lookup s.heap.objs.size with
 | none=>rfl
 | some o=>exact absurd (Heap.lt_size (I.kIn _ _ e)) (Nat.lt_irrefl _)
noncomputable def tDispK (K:PySem.W.Frag) (trs:List (TE×TE)):TE:=fun σ H Q=>∀ p,H p=none→K.lookup p=none→tPairs trs σ (upd H p (.dK [])) fun ps H2=>H2 p=some (.dK [])∧∃ kvs:List (Key×V),ps=kvs.map (fun kv=>(kV kv.1,kv.2))∧kvs.length≤15∧Q (.ref p) (upd H2 p (.dK (mergeK [] kvs)))
theorem pe_dispK {keys:List (Option Expr)} {values:List Expr} {trs:List (TE×TE)} (h:PPs X pos keys values trs) (hall:keys.all (·.isSome)=true) (hl:keys.length=values.length) (h0:keys≠[])
  (h15:keys.length≤15):PE X (.Dict keys values pos) (tDispK X.K trs):=by
 intro pins s σ H Q I q
 have hn:=I.hok.fresh (Nat.le_refl s.heap.objs.size)
 have I1:=I.laid (a:=s.heap.objs.size) (o:=.dK []) (h':=s.heap.push { cls:=.type "dict", data:=.dict #[] }) (t':=s.toks) (fun _ _ q=>Heap.get?_push_of_some _ q) (Nat.le_refl _) (zT3 s.heap I.big)
 refine wpAny_Dict_walk (knd:=mixKind X.prog X.w) hall hl h0 h15 (thn (h pins _ σ _ _ I1 (q _ hn (zs2 I))) fun ws s2 h_=>?_)
 obtain ⟨ps,H2,I2,rel,e,kvs,ep,lk,q2⟩:=h_
 subst ep
 obtain ⟨rs,c,rk⟩:=zE4 (P:=X.prog) (w:=X.w) rel
 obtain ⟨z,hd,vs0,r0,dd⟩:=dk_of I2.hok e
 cases r0
 refine ⟨rs,c,dd,fun h' dd' hs=>⟨.ref s.heap.objs.size,_,?_,rfl,q2⟩⟩
 have hz:(mergeK [] kvs).length≤sizeLine:=by
  have h1:=zv8 kvs []
  rw [List.length_nil] at h1
  rw [sizeLine_eq];lia
 have he:∃ q,h'.get? s.heap.objs.size=some q:=let ⟨q,_,_,hq,_⟩:=dd';⟨q,hq⟩
 exact zP8 I2 (by rw [e];exact True.intro) hs he (dk_new hz hd (rk.merge .nil) dd')
noncomputable def keyF:PV→Key
 | .int i=>.inl i
 | .str cs=>.inr ⟨cs.toArray⟩
 | _=>.inl 0
noncomputable def prs (K:PySem.W.Frag) (C:CallF):List PV→List E→List (TE×TE)
 | k::ks,i::is=>(tC (kV (keyF k)),tP K C i)::prs K C ks is
 | _,_=>[]
theorem sp_nil:PPs X pos [] [] (prs X.K C [] []):=pps_nil
theorem sp_cons {k v:Expr} {ks:List (Option Expr)} {vs:List Expr} {pk:PV} {iv:E} {pks:List PV} (hk:PE X k (tC (kV (keyF pk)))) (hv:SE X C v iv) (hr:PPs X pos ks vs (prs X.K C pks irs)) :
  PPs X pos (some k::ks) (v::vs) (prs X.K C (pk::pks) (iv::irs)):=pps_cons hk hv hr
theorem zC6 {x:Str} {j} {cs:List Nat} (h:x=⟨cs.toArray⟩):PE X (.Constant (.str x) j pos) (tC (kV (keyF (.str cs)))):=by subst h;exact pe_str
theorem zE3 {K:PySem.W.Frag}:∀ {ks:List PV} {irs:List E} {env:Env} {α:Al} {st st':Store} {xs:List PV} {σ:L2.St} {H:Hp} {Q:List (V×V)→Hp→Prop},At K α st H env σ→ks.length=irs.length→evalPs C irs env st=.ok xs st' →
  (∀ ps H' α',Ext K α st H α' st' H'→RSt K α' st' H'→(∃ ws,ps=(ks.zip ws).map (fun kv=>(kV (keyF kv.1),kv.2))∧RPs K H' (Live α' st') xs ws)→Q ps H')→tPairs (prs K C ks irs) σ H Q
 | [],[],env,α,st,st',xs,σ,H,Q,at',_,e,q=>by
  rw [evPs_nil] at e
  cases e
  exact q [] H α .refl at'.rs ⟨[],rfl,by rw [RPs]⟩
 | k::ks,i::is,env,α,st,st',xs,σ,H,Q,at',hl,e,q=>by
  rw [evPs_cons] at e
  obtain ⟨x,st1,e1,e⟩:=Res.bindP_inv e
  obtain ⟨ys,st2,e2,e⟩:=Res.bind_inv e
  cases e
  refine ⟨env,α,st,_,st1,at',e1,fun w H1 α1 x1 r1 v1=>?_⟩
  refine zE3 (at'.next x1 r1) (by simpa using hl) e2 fun ps H2 α2 x2 r2 h_=>?_
  obtain ⟨ws,hps,rp⟩:=h_
  refine q _ H2 α2 (x1.trans x2) r2 ⟨w::ws,by rw [hps];rfl,?_⟩
  rw [RPs]
  exact ⟨w,ws,rfl,x2.rp v1,rp⟩
 | [],_::_,_,_,_,_,_,_,_,_,_,hl,_,_=>by cases hl
 | _::_,[],_,_,_,_,_,_,_,_,_,hl,_,_=>by cases hl
theorem zN0 {K:PySem.W.Frag} {H:Hp} {lv:Addr→Prop}:∀ {ks xs:List PV} {ws:List V} {d:List (PV×PV)} {l:List (Key×V)},(∀ k∈ks,isKey k=true)→RPs K H lv xs ws→RKV K H lv d l →
  RKV K H lv ((ks.zip xs).foldl (fun d p=>dPut p.1 p.2 d) d) (mergeK l ((ks.zip ws).map fun kv=>(keyF kv.1,kv.2)))
 | [],xs,ws,d,l,_,_,h=>by
  rw [List.zip_nil_left,List.zip_nil_left]
  exact h
 | k::ks,[],ws,d,l,hk,hx,h=>by
  rw [RPs] at hx
  subst hx
  exact h
 | k::ks,x::xs,ws,d,l,hk,hx,h=>by
  rw [RPs] at hx
  obtain ⟨w,wr,rfl,h1,h2⟩:=hx
  have hkk:keyOf k=some (keyF k):=by
   have:=hk k (List.mem_cons_self ..)
   cases k <;> first | rfl | cases this
  exact zN0 (ks:=ks) (xs:=xs) (ws:=wr) (d:=dPut k x d) (l:=putK l (keyF k) w) (fun k' hk'=>hk k' (List.mem_cons_of_mem _ hk')) h2 (rkv_put hkk h1 h)
theorem se_dict {keys:List (Option Expr)} {values:List Expr} {ks:List PV} (h:PPs X pos keys values (prs X.K C ks irs)) (hk:ks.all isKey=true) (hl1:ks.length=irs.length) (hall:keys.all (·.isSome)=true) (hl:keys.length=values.length) (h0:keys≠[])
  (h15:keys.length≤15) (hks:ks.length≤15):SE X C (.Dict keys values pos) (.dict ks irs) :=
 PE.mono (pe_dispK h hall hl h0 h15) fun σ H Q h_=>by
  obtain ⟨env,α,st,v,st',at',e,q⟩:=h_
  rw [ev_dict] at e
  obtain ⟨xs,st1,e1,e⟩:=Res.bind_inv e
  intro p hp hK
  have ex0:=zG3 (o:=.dct []) (h':=.dK []) at'.rs hp hK
  have rs0:=zO3 (o:=.dct []) (h':=.dK []) at'.rs hp hK (fun xs z=>by cases z) (fun kvs z=>by cases z;exact ⟨[],rfl,by rw [RKV]⟩)
  refine zE3 (at'.next ex0 rs0) hl1 e1 fun ps H2 α2 x2 r2 h_=>?_
  obtain ⟨ws,e2,rp⟩:=h_
  have ha:α2.adr[st.length]?=some p:=x2.pre _ _ (zL8 at'.rs)
  have e:(match objAt st1 st.length with | some (.dct [])=>Res.ok (Val.ref st.length) (st1.set st.length (.dct ((ks.zip xs).foldl (fun (d:List (PV×PV)) (p:PV×PV)=>dPut p.1 p.2 d) []))) | _=>.stuck)=.ok v st':=e
  cases hob:objAt st1 st.length with
  | none=>rw [hob] at e;cases e
  | some ob =>
   rw [hob] at e
   cases ob with
   | lst _=>cases e
   | dead=>cases e
   | dct kv0 =>
    cases kv0 with
    | cons _ _=>cases e
    | nil =>
     cases e
     obtain ⟨a',l,g1,g2,g3⟩:=r2.dct st.length [] hob
     rw [ha] at g1;cases g1
     rw [RKV] at g3
     subst g3
     have hk':∀ k∈ks,isKey k=true:=List.all_eq_true.mp hk
     have nd:∀ d,PObj.dct d≠.dead:=fun d z=>by cases z
     have ex2:=zA4 (o':=.dct ((ks.zip xs).foldl (fun d p=>dPut p.1 p.2 d) [])) (h':=.dK (mergeK [] ((ks.zip ws).map fun kv=>(keyF kv.1,kv.2)))) r2 ha hob (nd _) (nd _)
     have rs2:=zI1 (o':=.dct ((ks.zip xs).foldl (fun d p=>dPut p.1 p.2 d) [])) (h':=.dK (mergeK [] ((ks.zip ws).map fun kv=>(keyF kv.1,kv.2)))) r2 ha hob (nd _) (nd _) (fun xs z=>by cases z) (fun kvs z=>by cases z;exact ⟨_,rfl,zN0 hk' rp (by rw [RKV])⟩)
     refine ⟨g2,(ks.zip ws).map (fun kv=>(keyF kv.1,kv.2)),by rw [e2,List.map_map];rfl,?_,?_⟩
     ·rw [List.length_map,List.length_zip]
      lia
     ·exact q _ _ α2 (ex0.trans (x2.trans ex2)) rs2 ⟨p,rfl,ha⟩
noncomputable def tLstK (K:PySem.W.Frag) (t:TA):TE:=fun σ H Q=>t σ H fun xs H1=>xs.length≤sizeLine∧∀ p,H1 p=none→K.lookup p=none→Q (.ref p) (upd H1 p (.lst xs))
theorem pe_lstK (h:PA X es t):PE X (.List es pos) (tLstK X.K t):=by
 intro pins s σ H Q I hq
 refine wpAny_List_spliced (thn (h pos pins s σ H _ I hq) fun us s1 ⟨xs,H1,I1,r,z,q⟩=>⟨by rw [← r.length];exact z,?_⟩)
 have hf:H1 s1.heap.objs.size=none:=I1.hok.fresh (Nat.le_refl _)
 refine ⟨.ref s1.heap.objs.size,upd H1 s1.heap.objs.size (.lst xs),I1.laid (t':=s1.toks) (fun b u e=>Heap.get?_push_of_some _ e) (Nat.le_refl _) ?_,rfl,q _ hf (zs2 I1)⟩
 exact ⟨z,us,0,r,Heap.get?_push_size _ rfl⟩
end
open PySem L2 PySem.SeqAt PyProof.Rows
open PySem.Builtin PySem.Builtin.Str
section
variable {X:Cx} {C:CallF} {o:Expr} {io:E} {apos cpos:Pos} {name:Str} {id:String} {m:Mt}
noncomputable def txt (cs:List Nat):Str:=⟨cs.toArray⟩
end
open PySem L2 PySem.SeqAt PyProof.Rows
noncomputable def relabel' (scope up:Scope):List (Str×NameKind):=scope.names.map fun (n,k)=>if (k == .free&&up.kind == .function&&up.names.lookup n==some .cell) then (n,.cell) else (n,k)
noncomputable def capOk (XN:List Str) (sc:Scope):List Nat→List Str→Bool
 | [],_=>true
 | i::caps,x::N=>decide (XN[i]?=some x)&&decide (sc.names.lookup x=some .free)&&capOk XN sc caps N
 | _::_,[]=>false
noncomputable def compChk (XN:List Str) (up scope:Scope) (N:List Str) (caps:List Nat) (n:Nat):Bool :=
 decide (scope.kind=.function)&&scope.names.all (fun x=>decide (x.2≠.local) || decide (scope.names.lookup x.1=some .local))&&scope.names.all (fun x=>decide (x.2≠.cell))
 && scope.names.all (fun x=>decide (x.2≠.free) || decide (up.names.lookup x.1=some .cell) || decide (up.names.lookup x.1=some .free))
 && scope.names.all (fun x=>decide (x.2≠.free) || decide ((relabel' scope up).lookup x.1=some .cell) || decide ((relabel' scope up).lookup x.1=some .free))
 && (relabel' scope up).all (fun x=>(decide (x.2≠.cell)&&decide (x.2≠.free)) || decide ((x.1,NameKind.free)∈scope.names))
 && capOk XN scope caps N&&decide (N.length=caps.length+n)
theorem cap_at {XN:List Str} {sc:Scope}:∀ {caps:List Nat} {N:List Str},capOk XN sc caps N=true→∀ (j i:Nat),caps[j]?=some i→∃ x,N[j]?=some x∧XN[i]?=some x∧sc.names.lookup x=some .free
 | [],_,_,j,i,e=>by simp at e
 | k::caps,[],h,_,_,_=>by cases h
 | k::caps,x::N,h,j,i,e=>by
  unfold capOk at h
  rw [Bool.and_eq_true,Bool.and_eq_true] at h
  obtain ⟨⟨h1,h2⟩,h3⟩:=h
  cases j with
  | zero=>simp at e;subst e;exact ⟨x,rfl,of_decide_eq_true h1,of_decide_eq_true h2⟩
  | succ j=>simpa using cap_at h3 j i (by simpa using e)
theorem zn0 {X:Cx} {up scope:Scope} {XN N:List Str} {caps:List Nat} {n:Nat} (hu:X.env.scope=up) (hN:X.N=XN) (h:compChk XN up scope N caps n=true):CompOk X scope N caps n:=by
 subst hu hN
 unfold compChk at h
 rw [Bool.and_eq_true,Bool.and_eq_true,Bool.and_eq_true,Bool.and_eq_true,Bool.and_eq_true,Bool.and_eq_true,Bool.and_eq_true] at h
 obtain ⟨⟨⟨⟨⟨⟨⟨h1,h2⟩,h3⟩,h4⟩,h5⟩,h6⟩,h7⟩,h8⟩:=h
 rw [List.all_eq_true] at h2 h3 h4 h5 h6
 have rl:(relabel scope X.env).names=relabel' scope X.env.scope:=rfl
 refine ⟨of_decide_eq_true h1,fun x hx e=>?_,fun x hx=>of_decide_eq_true (h3 x hx),fun x hx e=>?_,fun x e=>?_,fun x e=>?_,cap_at h7,of_decide_eq_true h8⟩
 ·have:=h2 x hx
  rw [Bool.or_eq_true] at this
  rcases this with z | z
  ·exact absurd e (of_decide_eq_true z)
  ·exact of_decide_eq_true z
 ·have:=h4 x hx
  rw [Bool.or_eq_true,Bool.or_eq_true] at this
  rcases this with (z | z) | z
  ·exact absurd e (of_decide_eq_true z)
  ·exact .inl (of_decide_eq_true z)
  ·exact .inr (of_decide_eq_true z)
 ·have:=h5 (x,.free) (zi5 e)
  rw [Bool.or_eq_true,Bool.or_eq_true] at this
  rcases this with (z | z) | z
  ·exact absurd rfl (of_decide_eq_true z)
  ·exact ⟨_,by rw [rl];exact of_decide_eq_true z,.inl rfl⟩
  ·exact ⟨_,by rw [rl];exact of_decide_eq_true z,.inr rfl⟩
 ·rw [rl] at e
  rcases e with e | e
  ·have:=h6 (x,.cell) (zi5 e)
   rw [Bool.or_eq_true,Bool.and_eq_true] at this
   rcases this with z | z
   ·exact absurd rfl (of_decide_eq_true z.1)
   ·exact of_decide_eq_true z
  ·have:=h6 (x,.free) (zi5 e)
   rw [Bool.or_eq_true,Bool.and_eq_true] at this
   rcases this with z | z
   ·exact absurd rfl (of_decide_eq_true z.2)
   ·exact of_decide_eq_true z
section
variable {X:Cx} {C:CallF}
theorem sv (i:Nat) {x:Str} {pos:Pos} (hN:X.N[i]?=some x) (hv:Vis X.env.scope x) (hd:(x==("__debug__" : Str))=false)
  (hcd:(x==("__classdict__" : Str))=false):SE X C (.Name x pos) (.var i):=se_var hN hv hd hcd
theorem pts0:PTs X [] (tTs X.K C none):=pts_nil
theorem pts1 {c:Expr} {ic:E} (h:ST X C c ic):PTs X [c] (tTs X.K C (some ic)):=pts_one h
end
end OR
namespace OR
open PySem L2 PySem.SeqAt PyProof.Rows
noncomputable def al0:Al:=⟨[],fun _=>False⟩
theorem start_rst {K:PySem.W.Frag} {H:Hp}:RSt K al0 [] H:=by
 have no:∀ {n:Nat} {o:PObj},objAt [] n=some o→False:=fun {n o} h=>by unfold objAt at h;simp at h
 refine ⟨rfl,fun n xs h=>(no h).elim,fun n kvs h=>(no h).elim,fun n m a o o' _ _ _ h _=>(no h).elim,fun a h=>?_,fun n a o _ h _=>(no h).elim,fun a h=>h.elim⟩
 rcases h with h | ⟨n,o,_,h,_⟩
 ·exact h.elim
 ·exact (no h).elim
theorem zz9 {K:PySem.W.Frag} {H:Hp} {lv:Addr→Prop}:∀ ns:List Int,RPs K H lv (ns.map .int) (ns.map .int)
 | []=>by rw [List.map_nil,List.map_nil,RPs]
 | i::r=>by rw [List.map_cons,List.map_cons,RPs];exact ⟨_,_,rfl,by rw [RP],zz9 r⟩
theorem script_at {K:PySem.W.Frag} {H:Hp} {a:Addr} {ns:List Int} (h:SqL K H a (ns.map V.int)):Paired (RV K al0 [] H) [.p (.lst (ns.map .int))] [.ref a]:=by
 refine .cons ?_ .nil
 show RP K H (Live al0 []) (.lst (ns.map .int)) (.ref a)
 rw [RP]
 refine ⟨a,_,rfl,h,fun l=>?_,zz9 ns⟩
 rcases l with l | ⟨n,o,_,l,_⟩
 ·exact l
 ·unfold objAt at l;simp at l
section
variable {K:PySem.W.Frag} {α:Al} {st:Store} {H:Hp} {n:Nat} {a:Addr} {o:PObj}
theorem zN2 {b:Addr} (h:Live α (st.set n .dead) b):Live α st b:=by
 rcases h with h | ⟨m,x,e1,e2,e3⟩
 ·exact .inl h
 ·rcases zd3 e2 with ⟨_,rfl⟩ | ⟨_,e2⟩
  ·exact absurd rfl e3
  ·exact .inr ⟨m,x,e1,e2,e3⟩
theorem zH2:Ext K α st H α (st.set n .dead) H:=⟨fun _ _ h=>h,fun _ _ h=>h,fun b vs h nl=>⟨h,fun l=>nl (zN2 l)⟩,rfl,fun _ _=>rfl⟩
theorem dead_rst (r:RSt K α st H):RSt K α (st.set n .dead) H:=by
 have ex:Ext K α st H α (st.set n .dead) H:=zH2
 refine ⟨by rw [List.length_set];exact r.len,fun m xs h=>?_,fun m kvs h=>?_,fun m m' b x x' hne e1 e2 e3 e4=>?_,fun b h=>r.nk b (zN2 h),fun m b x e1 e2 e3=>?_,r.rsv⟩
 ·rcases zd3 h with ⟨_,e⟩ | ⟨_,h⟩
  ·cases e
  ·obtain ⟨b,vs,e1,e2,e3⟩:=r.lst m xs h
   exact ⟨b,vs,e1,e2,ex.rps e3⟩
 ·rcases zd3 h with ⟨_,e⟩ | ⟨_,h⟩
  ·cases e
  ·obtain ⟨b,vs,e1,e2,e3⟩:=r.dct m kvs h
   exact ⟨b,vs,e1,e2,RKV.mono ex.tup ex.lst _ _ e3⟩
 ·rcases zd3 e3 with ⟨_,e⟩ | ⟨_,e3⟩
  ·exact .inl e
  ·rcases zd3 e4 with ⟨_,e⟩ | ⟨_,e4⟩
   ·exact .inr e
   ·exact r.inj m m' b x x' hne e1 e2 e3 e4
 ·rcases zd3 e2 with ⟨_,e⟩ | ⟨_,e2⟩
  ·exact absurd e e3
  ·exact r.dis m b x e1 e2 e3
theorem dead_not (r:RSt K α st H) (ha:α.adr[n]?=some a) (ho:objAt st n=some o) (hd:o≠.dead):¬ Live α (st.set n .dead) a:=by
 rintro (h | ⟨m,x,e1,e2,e3⟩)
 ·exact r.dis n a o ha ho hd h
 ·rcases zd3 e2 with ⟨_,rfl⟩ | ⟨hm,e2⟩
  ·exact e3 rfl
  ·rcases r.inj m n a x o hm e1 ha e2 ho with z | z
   ·exact e3 z
   ·exact hd z
end
section
variable {X:Cx} {C:CallF} {W:Nat} {e a b:Expr} {ie ia ib:E} {pos:Pos}
theorem se_freeze (h:SE X C e ie):SE X C e (.freeze ie) :=
 PE.mono h fun σ H Q h_=>by
  obtain ⟨env,α,st,v,st',at',e,q⟩:=h_
  rw [ev_freeze] at e
  obtain ⟨u,st1,e1,e⟩:=Res.bind_inv e
  refine ⟨env,α,st,u,st1,at',e1,fun w H1 α1 x1 r1 v1=>?_⟩
  cases u with
  | p x=>cases e;exact q w H1 α1 x1 r1 v1
  | ref n =>
   have e:(match objAt st1 n with | some (.lst xs)=>Res.ok (Val.p (.lst xs)) (st1.set n .dead) | _=>.stuck)=.ok v st':=e
   cases hob:objAt st1 n with
   | none=>rw [hob] at e;cases e
   | some ob =>
    rw [hob] at e
    cases ob with
    | dct _=>cases e
    | dead=>cases e
    | lst xs =>
     cases e
     obtain ⟨b,rfl,ha⟩:=v1
     obtain ⟨b',vs,g1,g2,g3⟩:=r1.lst n xs hob
     rw [ha] at g1;cases g1
     have nd:PObj.lst xs≠.dead:=by intro z;cases z
     refine q _ H1 α1 (x1.trans zH2) (dead_rst r1) ?_
     show RP X.K H1 (Live α1 (st1.set n .dead)) (.lst xs) (.ref b)
     rw [RP]
     exact ⟨b,vs,rfl,SqL.of g2,dead_not r1 ha hob nd,(zH2 (K:=X.K) (H:=H1)).rps g3⟩
noncomputable def tF (K:PySem.W.Frag) (C:CallF) (ir:E):TE:=fun σ H Q=>∃ env α st xs st',At K α st H env σ∧evalE C ir env st=.ok (.p (.lst xs)) st' ∧
 ∀ p H' α' ws,Ext K α st H α' st' H'→RSt K α' st' H'→H' p=none→K.lookup p=none→RPs K H' (Live α' st') xs ws→Q (.ref p) (upd H' p (.lst ws))
noncomputable abbrev SF (X:Cx) (C:CallF) (e:Expr) (ir:E):Prop:=PE X e (tF X.K C ir)
theorem se_thaw (h:SF X C e ie):SE X C e (.thaw ie) :=
 PE.mono h fun σ H Q h_=>by
  obtain ⟨env,α,st,v,st',at',e,q⟩:=h_
  rw [ev_thaw] at e
  obtain ⟨x,st1,e1,e⟩:=Res.bindP_inv e
  cases x with
  | lst xs =>
   cases e
   refine ⟨env,α,st,xs,st1,at',e1,fun p H1 α1 ws x1 r1 hp hK rp=>?_⟩
   have ex:=zG3 (o:=.lst xs) (h':=.lst ws) r1 hp hK
   have rs:=zO3 (o:=.lst xs) (h':=.lst ws) r1 hp hK (fun ys z=>by cases z;exact ⟨ws,rfl,rp⟩) (fun kvs z=>by cases z)
   exact q _ _ _ (x1.trans ex) rs ⟨p,rfl,zL8 r1⟩
  | _=>cases e
theorem sf_lst {es:List Expr} {irs:List E} (h:SA X C es irs) (hl:es.length≤1000) (hi:irs.length=es.length):SF X C (.List es pos) (.list false irs) :=
 PE.mono (pe_lstK h) fun σ H Q h_=>by
  obtain ⟨env,α,st,xs,st',at',e,q⟩:=h_
  rw [ev_list] at e
  obtain ⟨ys,st1,e1,e⟩:=Res.bind_inv e
  simp only [mk,Bool.false_eq_true,if_false] at e
  cases e
  refine ⟨env,α,st,_,st',at',zD4 e1,fun ws H1 α1 x1 r1 p=>?_⟩
  have rp:=zS7 p
  refine ⟨?_,fun a ha hK=>q a H1 α1 ws x1 r1 ha hK rp⟩
  rw [← rp.length,zw3 e1,hi]
  exact Nat.le_trans hl (by decide)
theorem op_catL:OpR X (binaryOp .Add) (fun x y H Q=>∃ l1 l2 vs ws,x=.ref l1∧y=.ref l2∧SqL X.K H l1 vs∧SqL X.K H l2 ws∧vs.length+ws.length≤sizeLine∧∀ p,H p=none→X.K.lookup p=none→Q (.ref p) (upd H p (.lst (vs++ws)))):=by
 rintro pins s σ H x y v u Q I rx ry ⟨l1,l2,vs,ws,e1,e2,h1,h3,hl,q⟩
 subst e1 e2
 cases rx
 cases ry
 obtain ⟨its,r1,p1,_⟩:=I.list h1
 obtain ⟨its2,r2,p2,_⟩:=I.list h3
 obtain ⟨⟨cls,dd,data,sl⟩,n,ho,hc,_,hd⟩:=id p1
 obtain ⟨⟨cls2,dd2,data2,sl2⟩,n2,ho2,hc2,_,hd2⟩:=id p2
 simp only at hc hd hc2 hd2
 subst hc hd hc2 hd2
 have q1:=r1.length
 have q2:=r2.length
 refine PySem.concat_meets ⟨_,ho,rfl⟩ ⟨_,ho2,rfl⟩ PySem.noFill_list_add PySem.seq_list_add PySem.F.slot_list_add PySem.F.entry_list_add (PySem.F.args_list_add_2 _ _) (PyProof.Rows.list_addW l1 l2 its.toArray its2.toArray n n2 dd dd2 sl sl2 (by simp;lia)) ⟨ho,ho2,?_⟩
 have ea:its.toArray++its2.toArray=(its++its2).toArray:=by simp
 rw [ea]
 exact ⟨.ref _,_,I.lnew (t':=s.toks) (r1.append r2) (by rw [List.length_append];lia),rfl,q _ I.fresh (zs2 I)⟩
theorem sf_add (ha:SE X C a ia) (hb:SE X C b ib):SF X C (.BinOp a .Add b pos) (.bin .add ia ib) :=
 PE.mono (pe_op op_catL ha hb) fun σ H Q h_=>by
  obtain ⟨env,α,st,xs,st',at',e,q⟩:=h_
  rw [ev_bin] at e
  obtain ⟨va,st1,e1,e⟩:=Res.bind_inv e
  obtain ⟨vb,st2,e2,e⟩:=Res.bind_inv e
  obtain ⟨x,y,u,h1,h2,h3,h4,h5⟩:=zH0 e
  cases h4
  subst h5
  refine ⟨env,α,st,va,st1,at',e1,fun w H1 α1 x1 r1 v1=>?_⟩
  refine ⟨env,α1,st1,vb,st',at'.next x1 r1,e2,fun w2 H2 α2 x2 r2 v2=>?_⟩
  have wx:=(x2.rv v1).view r2 h1
  have wy:=v2.view r2 h2
  have h3:bAdd x y=some (.lst xs):=h3
  cases x <;> cases y <;> simp only [bAdd,Option.ite_none_right_eq_some,reduceCtorEq,Option.some.injEq,PV.lst.injEq,false_and,and_false] at h3
  obtain ⟨hl,rfl⟩:=h3
  rw [zG2] at hl
  obtain ⟨l1,vs,rfl,g1,g2⟩:=wx.lst
  obtain ⟨l2,ws,rfl,g3,g4⟩:=wy.lst
  have k1:=g2.length
  have k2:=g4.length
  exact ⟨l1,l2,vs,ws,rfl,rfl,g1,g3,by lia,fun p hp hK=>q p H2 α2 _ (x1.trans x2) r2 hp hK (g2.append g4)⟩
end
open PySem L2 PySem.SeqAt PyProof.Rows
section
variable {X:Cx} {C:CallF} {o e:Expr} {es:List Expr} {io:E} {irs:List E} {apos cpos:Pos} {name:Str} {id:String} {m:Mt}
def MtL (X:Cx) (id:String) (g:List PV→List PV→Option (PV×List PV)):Prop :=
 MtR X id fun x ws H Q=>∃ α st a l vs xs z l',RSt X.K α st H∧x=.ref a∧H a=some (.lst vs)∧RPs X.K H (Live α st) l vs∧Paired (RW X.K α st H) xs ws∧g xs l=some (z,l') ∧
  ∀ w vs',RP X.K H (Live α st) z w→RPs X.K H (Live α st) l' vs'→Q w (upd H a (.lst vs'))
def MtK (X:Cx) (id:String) (g:List PV→List PV→Option (PV×List PV)):Prop :=
 MtR X id fun x ws H Q=>∃ α st a l vs xs z l',RSt X.K α st H∧x=.ref a∧H a=some (.lst vs)∧RPs X.K H (Live α st) l vs∧RPs X.K H (Live α st) xs ws∧g xs l=some (z,l') ∧
  ∀ w vs',RP X.K H (Live α st) z w→RPs X.K H (Live α st) l' vs'→Q w (upd H a (.lst vs'))
theorem zR4 {K:PySem.W.Frag} {α:Al} {st:Store} {H:Hp}:∀ {vs:List Val} {ws:List V} {xs:List PV},Paired (RV K α st H) vs ws→purs vs=some xs→RPs K H (Live α st) xs ws
 | [],ws,xs,h,e=>by cases h;cases e;rw [RPs]
 | .ref _::_,ws,xs,h,e=>by cases e
 | .p x::r,ws,xs,h,e=>by
  cases h with
  | cons q t =>
   unfold purs at e
   cases e2:purs r with
   | none=>rw [e2] at e;cases e
   | some ys =>
    rw [e2] at e
    cases e
    rw [RPs]
    exact ⟨_,_,rfl,q,zR4 t e2⟩
theorem zM9 {ov:Val} {st st':Store} {g:List PV→Option (PV×List PV)} {v:Val} (h:onRef ov st g=.ok v st'):∃ n l z l',ov=.ref n∧objAt st n=some (.lst l)∧g l=some (z,l')∧v=.p z∧st'=st.set n (.lst l'):=by
 cases ov with
 | p _=>cases h
 | ref n =>
  have h:(match lstAt st n with | some l=>(match g l with | some (x,l')=>Res.ok (Val.p x) (st.set n (.lst l')) | none=>.stuck) | none=>.stuck)=.ok v st':=h
  unfold lstAt at h
  cases ho:objAt st n with
  | none=>rw [ho] at h;cases h
  | some ob =>
   rw [ho] at h
   cases ob with
   | dct _=>cases h
   | dead=>cases h
   | lst l =>
    simp only at h
    cases hg:g l with
    | none=>rw [hg] at h;cases h
    | some p =>
     obtain ⟨z,l'⟩:=p
     rw [hg] at h
     cases h
     exact ⟨n,l,z,l',rfl,ho,hg,rfl,rfl⟩
theorem changed {K:PySem.W.Frag} {α:Al} {st:Store} {H:Hp} {n:Nat} {a:Addr} {l l':List PV} {vs':List V} (r:RSt K α st H) (ha:α.adr[n]?=some a) (ho:objAt st n=some (.lst l)) (h:RPs K H (Live α st) l' vs') :
  Ext K α st H α (st.set n (.lst l')) (upd H a (.lst vs'))∧RSt K α (st.set n (.lst l')) (upd H a (.lst vs')):=by
 have nd:∀ l,PObj.lst l≠.dead:=fun l z=>by cases z
 exact ⟨zA4 r ha ho (nd _) (nd _),zI1 r ha ho (nd _) (nd _) (fun xs z=>by cases z;exact ⟨_,rfl,h⟩) fun kvs z=>by cases z⟩
theorem ref_ty {K:PySem.W.Frag} {α:Al} {st:Store} {H:Hp} {n:Nat} {a:Addr} {x:PV} (r:RSt K α st H) (ha:α.adr[n]?=some a) (hv:view st (.ref n)=some x):tyV K "list" (.ref a) H:=by
 have w0:=(show RV K α st H (.ref n) (.ref a) from ⟨a,rfl,ha⟩).view r hv
 have hx:∃ xs,x=.lst xs:=by
  have h:(match objAt st n with | some (.lst xs)=>some (PV.lst xs) | _=>none)=some x:=hv
  split at h
  ·exact ⟨_,(Option.some.inj h).symm⟩
  ·cases h
 obtain ⟨ys,rfl⟩:=hx
 obtain ⟨b,us,eb,h1,_⟩:=w0.lst
 cases eb
 exact .inl ⟨rfl,us,h1⟩
theorem se_mtK {g:List PV→List PV→Option (PV×List PV)} (slot:Slot "list" name id) (hty:typeOf (.builtin id)=pure (.type "method_descriptor")) (hm:MtK X id g) (ho:SE X C o io) (ha:SA X C (e::es) irs)
  (hg:∀ v vs st,methN m v vs st=(match purs vs with | some xs=>onRef v st (g xs) | none=>.stuck))
  (hbase:attributeBase o name X.env (eval o X.env)=eval o X.env)
  (hfew:((backTo cpos (starEach (e::es) X.env)).all (fun x=>!x.1)&&(backToKw cpos (keywordEach [] X.env)).all (fun x=>x.1.isSome)
   && decide ((e::es).length+([]:List Keyword).length+(if ([]:List Keyword).isEmpty then 0 else 1)<30))=true)
  (hline:(apos.endLine==cpos.line)=true) (hs:starEach (e::es) X.env=(false,eval e X.env)::starEach es X.env) (hplain:(backTo cpos (starEach es X.env)).any (·.1)=false) :
  SE X C (.Call (.Attribute o name apos) (e::es) [] cpos) (.meth m io irs) :=
 PE.mono (pe_bm PySem.F.plainAttrs_list slot hty hm ho ha hbase hfew hline hs hplain) fun σ H Q h_=>by
  obtain ⟨env,α,st,v,st',at',e,q⟩:=h_
  rw [ev_meth] at e
  obtain ⟨ov,st1,e1,e⟩:=Res.bind_inv e
  obtain ⟨_,st0,e0,e⟩:=Res.bind_inv e
  obtain ⟨⟨x0,hv0⟩,hst⟩:=zG5 e0
  rw [hst] at e
  obtain ⟨vs,st2,e2,e⟩:=Res.bind_inv e
  rw [hg] at e
  cases hv:purs vs with
  | none=>rw [hv] at e;cases e
  | some xs =>
   rw [hv] at e
   obtain ⟨n,l,z,l',rfl,hob,hgz,rfl,rfl⟩:=zM9 e
   refine ⟨env,α,st,_,st1,at',e1,fun w H1 α1 x1 r1 v1=>?_⟩
   obtain ⟨a,rfl,ha⟩:=v1
   refine ⟨ref_ty r1 ha hv0,env,α1,st1,vs,st2,at'.next x1 r1,e2,fun ws H2 α2 x2 r2 pr=>?_⟩
   have ha2:=x2.pre n a ha
   obtain ⟨a',us,g1,g2,g3⟩:=r2.lst n l hob
   rw [ha2] at g1;cases g1
   refine ⟨α2,st2,a,l,us,xs,z,l',r2,rfl,g2,g3,zR4 pr hv,hgz,fun w us' rw' rps'=>?_⟩
   obtain ⟨c1,c2⟩:=changed r2 ha2 hob rps'
   exact q w _ α2 (x1.trans (x2.trans c1)) c2 (c1.rp rw')
theorem se_mtL0 {g:List PV→List PV→Option (PV×List PV)} (slot:Slot "list" name id) (hty:typeOf (.builtin id)=pure (.type "method_descriptor")) (hm:MtL X id g) (ho:SE X C o io)
  (hg:∀ v st,methN m v [] st=onRef v st (g []))
  (hbase:attributeBase o name X.env (eval o X.env)=eval o X.env) (hline:(apos.endLine==cpos.line)=true) :
  SE X C (.Call (.Attribute o name apos) [] [] cpos) (.meth m io []) :=
 PE.mono (pe_bm0 PySem.F.plainAttrs_list slot hty hm ho hbase hline) fun σ H Q h_=>by
  obtain ⟨env,α,st,v,st',at',e,q⟩:=h_
  rw [ev_meth] at e
  obtain ⟨ov,st1,e1,e⟩:=Res.bind_inv e
  obtain ⟨_,st0,e0,e⟩:=Res.bind_inv e
  obtain ⟨⟨x0,hv0⟩,hst⟩:=zG5 e0
  rw [hst] at e
  obtain ⟨vs,st2,e2,e⟩:=Res.bind_inv e
  rw [evEs_nil] at e2
  cases e2
  rw [hg] at e
  obtain ⟨n,l,z,l',rfl,hob,hgz,rfl,rfl⟩:=zM9 e
  refine ⟨env,α,st,_,st1,at',e1,fun w H1 α1 x1 r1 v1=>?_⟩
  obtain ⟨a,rfl,ha⟩:=v1
  obtain ⟨a',us,g1,g2,g3⟩:=r1.lst n l hob
  rw [ha] at g1;cases g1
  refine ⟨ref_ty r1 ha hv0,α1,st1,a,l,us,[],z,l',r1,rfl,g2,g3,.nil,hgz,fun w us' rw' rps'=>?_⟩
  obtain ⟨c1,c2⟩:=changed r1 ha hob rps'
  exact q w _ α1 (x1.trans c1) c2 (c1.rp rw')
theorem zs5:MtK X "list.append" gAppend:=by
 rintro pins s σ H x ws v us Q I rx rs ⟨α,st,a,l,vs,xs,z,l',r,e,hH,hl,hx,hg,q⟩
 subst e
 unfold gAppend at hg
 match xs,hx,hg with
 | [],_,hg=>cases hg
 | _::_::_,_,hg=>cases hg
 | [y],hx,hg =>
  have hg:(if l.length<SZ then some (PV.non,l++[y]) else none)=some (z,l'):=hg
  by_cases hc:l.length<SZ
  ·rw [if_pos hc] at hg
   cases hg
   rw [RPs] at hx
   obtain ⟨w,wr,rfl,h1,h2⟩:=hx
   rw [RPs] at h2
   subst h2
   rw [zG2] at hc
   exact zC1 pins s σ H _ _ v us Q I rx rs ⟨a,vs,w,rfl,rfl,hH,by rw [← hl.length];exact hc,q _ _ (by rw [RP]) (hl.snoc h1)⟩
  ·rw [if_neg hc] at hg;cases hg
theorem RPs.reverse {K:PySem.W.Frag} {H:Hp} {lv:Addr→Prop}:∀ {xs:List PV} {vs:List V},RPs K H lv xs vs→RPs K H lv xs.reverse vs.reverse
 | [],vs,h=>by rw [RPs] at h;subst h;rw [List.reverse_nil,List.reverse_nil,RPs]
 | x::r,vs,h=>by
  rw [RPs] at h
  obtain ⟨v,vr,rfl,h1,h2⟩:=h
  rw [List.reverse_cons,List.reverse_cons]
  exact (RPs.reverse h2).snoc h1
theorem l_reverse:MtL X "list.reverse" gReverse:=by
 rintro pins s σ H x ws v us Q I rx rs ⟨α,st,a,l,vs,xs,z,l',r,e,hH,hl,hx,hg,q⟩
 subst e
 unfold gReverse at hg
 cases hx with
 | cons _ _=>cases hg
 | nil =>
  cases hg
  exact zW4 pins s σ H _ _ v us Q I rx rs ⟨a,vs,rfl,rfl,hH,q _ _ (by rw [RP]) hl.reverse⟩
theorem zs3 (v:Val) (vs:List Val) (st:Store):methN .append v vs st=(match purs vs with | some xs=>onRef v st (gAppend xs) | none=>.stuck):=by
 show (match purs vs with | some xs=>methOp .append v xs st | none=>.stuck)=_
 cases purs vs <;> rfl
theorem g_reverse (v:Val) (st:Store):methN .reverse v [] st=onRef v st (gReverse []):=by rw [methN_0];rfl
end
open PySem L2 PySem.SeqAt PyProof.Rows
section
variable {X:Cx} {C:CallF} {W:Nat} {es:List Expr} {is:List Nat} {pos:Pos}
theorem PGs.mono {t t':TGs} (h:PGs X es t) (m:∀ vs σ H Q,t' vs σ H Q→t vs σ H Q):PGs X es t':=fun pins s σ H vs us Q I r q=>h pins s σ H vs us Q I r (m _ _ _ _ q)
noncomputable def setAll (is:List Nat) (xs:List PV) (env:Env):Env:=(is.zip xs).foldl (fun e p=>e.set p.1 (some (.p p.2))) env
noncomputable def tGs (K:PySem.W.Frag) (is:List Nat):TGs:=fun vs σ H Q=>∃ env α st xs,At K α st H env σ∧RPs K H (Live α st) xs vs∧xs.length=is.length∧∀ σ',At K α st H (setAll is xs env) σ'→Q σ' H
theorem sgs_nil:PGs X [] (tGs X.K []):=PGs.mono pgs_nil fun vs σ H Q h_=>by
 obtain ⟨env,α,st,xs,at',rp,hl,q⟩:=h_
 have e:xs=[]:=List.eq_nil_of_length_eq_zero (by simpa using hl)
 subst e
 rw [RPs] at rp
 exact ⟨rp,q σ at'⟩
theorem sgs_cons {i:Nat} {x:Str} (hN:X.N.Nodup) (hi:X.N[i]?=some x) (hx:Loc X.env.scope x) (h:PGs X es (tGs X.K is)) (hf:X.fn x=true∨X.env.scope.names.lookup x=some .local)
  (hs:(assignEach (.Name x pos::es) X.env).map (·.2)=assign (.Name x pos) X.env::(assignEach es X.env).map (·.2)):PGs X (.Name x pos::es) (tGs X.K (i::is)) :=
 PGs.mono (pgs_cons (pg_name hN hi hx hf) h hs) fun vs σ H Q h_=>by
  obtain ⟨env,α,st,xs,at',rp,hl,q⟩:=h_
  cases xs with
  | nil=>cases hl
  | cons y ys =>
   rw [RPs] at rp
   obtain ⟨v,vr,rfl,h1,h2⟩:=rp
   exact ⟨v,vr,rfl,env.set i (some (.p y)),α,st,ys,at'.set h1,h2,by simpa using hl,q⟩
theorem sg_tup {k:Nat} (hc:X.calm=true) (h:PGs X es (tGs X.K is)) (hn:(assignEach es X.env).length=is.length) (hst:(assignEach es X.env).findIdx? (·.1)=none):SG X (.Tuple es k pos) (.tup is) :=
 PG.mono (pg_tup hc h hn hst) fun v σ H Q h_=>by
  obtain ⟨env,α,st,x,env',at',rp,e,q⟩:=h_
  cases x with
  | tup xs =>
   have e:(if is.length=xs.length then some (setAll is xs env) else none)=some env':=e
   by_cases hl:is.length=xs.length
   ·rw [if_pos hl] at e
    cases e
    rw [RP] at rp
    obtain ⟨a,vs,rfl,h1,h2⟩:=rp
    exact ⟨a,vs,rfl,h1,by rw [← h2.length,hl],env,α,st,xs,at',h2,hl.symm,q⟩
   ·rw [if_neg hl] at e;cases e
  | _=>cases e
end
open PySem L2 PySem.SeqAt PyProof.Rows
section
variable {X:Cx} {pins:List (Addr×Obj)} {σ:L2.St} {H:Hp} {s:Shared} {lv:Addr→Prop}
theorem zW9 {α:Al} {st:Store} (I:Inv X pins σ H s) {n:Nat}
  (ih:0<n→∀ (px py:PV) (x y:V) (v u:Value) (A:Around),RW X.K α st H px x→RW X.K α st H py y→RelV x v→RelV y u→(dep px≤n - 1∨dep py≤n - 1)→A.units+(n - 1)+1<cLine→RcAt A s v u (pyEq px py)∧EqAt A s v u (pyEq px py))
  (px py:PV) (x y:V) (v u:Value) (A:Around) (hx:RW X.K α st H px x) (hy:RW X.K α st H py y) (rx:RelV x v) (ry:RelV y u) (hd:dep px≤n∨dep py≤n) (hu:A.units+n+1<cLine) :
  RcNeAt A s v u (!pyEq px py):=by
 have hu0:A.units<cLine:=by lia
 have seqT:∀ {xs:List PV} {w:V} {uu:Value},RW X.K α st H (.tup xs) w→RelV w uu→∃ a vs its,w=.ref a∧uu=.ref a∧RPs X.K H (Live α st) xs vs∧Vals vs its∧s.heap.IsTuple a its.toArray:=fun h r=>by
  obtain ⟨a,vs,rfl,h1,h2⟩:=h.tup
  cases r
  obtain ⟨its,r1,p,_⟩:=I.tuple h1
  exact ⟨a,vs,its,rfl,rfl,h2,r1,p⟩
 have seqL:∀ {xs:List PV} {w:V} {uu:Value},RW X.K α st H (.lst xs) w→RelV w uu→∃ a vs its,w=.ref a∧uu=.ref a∧RPs X.K H (Live α st) xs vs∧Vals vs its∧s.heap.IsList a its.toArray:=fun h r=>by
  obtain ⟨a,vs,rfl,h1,h2⟩:=h.lst
  cases r
  obtain ⟨its,r1,p,_⟩:=I.list h1
  exact ⟨a,vs,its,rfl,rfl,h2,r1,p.isList⟩
 cases px with
 | non =>
  cases py with
  | non =>
   obtain rfl:x=V.non:=hx.non
   obtain rfl:v=Value.none:=rx
   obtain rfl:y=V.non:=hy.non
   obtain rfl:u=Value.none:=ry
   have e:pyEq .non .non=true:=by simp [pyEq]
   rw [e]
   exact .none_none
  | bl e2 =>
   obtain rfl:x=V.non:=hx.non
   obtain rfl:v=Value.none:=rx
   obtain rfl:=hy.bl
   obtain rfl:u=Value.bool _:=ry
   have e:pyEq .non (.bl e2)=false:=by simp [pyEq]
   rw [e]
   exact .none_bool _
  | int e2 =>
   obtain rfl:x=V.non:=hx.non
   obtain rfl:v=Value.none:=rx
   obtain rfl:=hy.int
   obtain ⟨t',rfl⟩:=ry
   have e:pyEq .non (.int e2)=false:=by simp [pyEq]
   rw [e]
   exact .none_int _ _
  | str e2 =>
   obtain rfl:x=V.non:=hx.non
   obtain rfl:v=Value.none:=rx
   obtain rfl:=hy.str.1
   obtain ⟨t',rfl⟩:=ry
   have e:pyEq .non (.str e2)=false:=by simp [pyEq]
   rw [e]
   exact .none_str _ _
  | tup e2 =>
   obtain rfl:x=V.non:=hx.non
   obtain rfl:v=Value.none:=rx
   obtain ⟨b,ws,its2,rfl,rfl,q2,r2,p2⟩:=seqT hy ry
   have e:pyEq .non (.tup e2)=false:=by simp [pyEq]
   rw [e]
   exact .none_tuple p2 hu0
  | lst e2 =>
   obtain rfl:x=V.non:=hx.non
   obtain rfl:v=Value.none:=rx
   obtain ⟨b,ws,its2,rfl,rfl,q2,r2,p2⟩:=seqL hy ry
   have e:pyEq .non (.lst e2)=false:=by simp [pyEq]
   rw [e]
   exact .none_list p2 hu0
 | bl e1 =>
  cases py with
  | non =>
   obtain rfl:=hx.bl
   obtain rfl:v=Value.bool _:=rx
   obtain rfl:y=V.non:=hy.non
   obtain rfl:u=Value.none:=ry
   have e:pyEq (.bl e1) .non=false:=by simp [pyEq]
   rw [e]
   exact .bool_none _
  | bl e2 =>
   obtain rfl:=hx.bl
   obtain rfl:v=Value.bool _:=rx
   obtain rfl:=hy.bl
   obtain rfl:u=Value.bool _:=ry
   rw [pyEq]
   exact .bool_bool _ _
  | int e2 =>
   obtain rfl:=hx.bl
   obtain rfl:v=Value.bool _:=rx
   obtain rfl:=hy.int
   obtain ⟨t',rfl⟩:=ry
   rw [pyEq]
   exact .bool_int _ _ _
  | str e2 =>
   obtain rfl:=hx.bl
   obtain rfl:v=Value.bool _:=rx
   obtain rfl:=hy.str.1
   obtain ⟨t',rfl⟩:=ry
   have e:pyEq (.bl e1) (.str e2)=false:=by simp [pyEq]
   rw [e]
   exact .bool_str _ _ _
  | tup e2 =>
   obtain rfl:=hx.bl
   obtain rfl:v=Value.bool _:=rx
   obtain ⟨b,ws,its2,rfl,rfl,q2,r2,p2⟩:=seqT hy ry
   have e:pyEq (.bl e1) (.tup e2)=false:=by simp [pyEq]
   rw [e]
   exact .bool_tuple _ p2 hu0
  | lst e2 =>
   obtain rfl:=hx.bl
   obtain rfl:v=Value.bool _:=rx
   obtain ⟨b,ws,its2,rfl,rfl,q2,r2,p2⟩:=seqL hy ry
   have e:pyEq (.bl e1) (.lst e2)=false:=by simp [pyEq]
   rw [e]
   exact .bool_list _ p2 hu0
 | int e1 =>
  cases py with
  | non =>
   obtain rfl:=hx.int
   obtain ⟨t,rfl⟩:=rx
   obtain rfl:y=V.non:=hy.non
   obtain rfl:u=Value.none:=ry
   have e:pyEq (.int e1) .non=false:=by simp [pyEq]
   rw [e]
   exact .int_none _ _
  | bl e2 =>
   obtain rfl:=hx.int
   obtain ⟨t,rfl⟩:=rx
   obtain rfl:=hy.bl
   obtain rfl:u=Value.bool _:=ry
   rw [pyEq]
   exact .int_bool _ _ _
  | int e2 =>
   obtain rfl:=hx.int
   obtain ⟨t,rfl⟩:=rx
   obtain rfl:=hy.int
   obtain ⟨t',rfl⟩:=ry
   rw [pyEq]
   exact .int_int _ _ _ _
  | str e2 =>
   obtain rfl:=hx.int
   obtain ⟨t,rfl⟩:=rx
   obtain rfl:=hy.str.1
   obtain ⟨t',rfl⟩:=ry
   have e:pyEq (.int e1) (.str e2)=false:=by simp [pyEq]
   rw [e]
   exact .int_str _ _ _ _
  | tup e2 =>
   obtain rfl:=hx.int
   obtain ⟨t,rfl⟩:=rx
   obtain ⟨b,ws,its2,rfl,rfl,q2,r2,p2⟩:=seqT hy ry
   have e:pyEq (.int e1) (.tup e2)=false:=by simp [pyEq]
   rw [e]
   exact .int_tuple _ _ p2 hu0
  | lst e2 =>
   obtain rfl:=hx.int
   obtain ⟨t,rfl⟩:=rx
   obtain ⟨b,ws,its2,rfl,rfl,q2,r2,p2⟩:=seqL hy ry
   have e:pyEq (.int e1) (.lst e2)=false:=by simp [pyEq]
   rw [e]
   exact .int_list _ _ p2 hu0
 | str e1 =>
  cases py with
  | non =>
   obtain rfl:=hx.str.1
   obtain ⟨t,rfl⟩:=rx
   obtain rfl:y=V.non:=hy.non
   obtain rfl:u=Value.none:=ry
   have e:pyEq (.str e1) .non=false:=by simp [pyEq]
   rw [e]
   exact .str_none _ _
  | bl e2 =>
   obtain rfl:=hx.str.1
   obtain ⟨t,rfl⟩:=rx
   obtain rfl:=hy.bl
   obtain rfl:u=Value.bool _:=ry
   have e:pyEq (.str e1) (.bl e2)=false:=by simp [pyEq]
   rw [e]
   exact .str_bool _ _ _
  | int e2 =>
   obtain rfl:=hx.str.1
   obtain ⟨t,rfl⟩:=rx
   obtain rfl:=hy.int
   obtain ⟨t',rfl⟩:=ry
   have e:pyEq (.str e1) (.int e2)=false:=by simp [pyEq]
   rw [e]
   exact .str_int _ _ _ _
  | str e2 =>
   obtain rfl:=hx.str.1
   obtain ⟨t,rfl⟩:=rx
   obtain rfl:=hy.str.1
   obtain ⟨t',rfl⟩:=ry
   have e:pyEq (.str e1) (.str e2)=((⟨e1.toArray⟩:Str)==⟨e2.toArray⟩):=by rw [str_eq,pyEq]
   rw [e]
   exact .str_str _ _ _ _
  | tup e2 =>
   obtain rfl:=hx.str.1
   obtain ⟨t,rfl⟩:=rx
   obtain ⟨b,ws,its2,rfl,rfl,q2,r2,p2⟩:=seqT hy ry
   have e:pyEq (.str e1) (.tup e2)=false:=by simp [pyEq]
   rw [e]
   exact .str_tuple _ _ p2 hu0
  | lst e2 =>
   obtain rfl:=hx.str.1
   obtain ⟨t,rfl⟩:=rx
   obtain ⟨b,ws,its2,rfl,rfl,q2,r2,p2⟩:=seqL hy ry
   have e:pyEq (.str e1) (.lst e2)=false:=by simp [pyEq]
   rw [e]
   exact .str_list _ _ p2 hu0
 | tup e1 =>
  cases py with
  | non =>
   obtain ⟨a,vs,its,rfl,rfl,q1,r1,p1⟩:=seqT hx rx
   obtain rfl:y=V.non:=hy.non
   obtain rfl:u=Value.none:=ry
   have e:pyEq (.tup e1) .non=false:=by simp [pyEq]
   rw [e]
   exact .tuple_none p1 hu0
  | bl e2 =>
   obtain ⟨a,vs,its,rfl,rfl,q1,r1,p1⟩:=seqT hx rx
   obtain rfl:=hy.bl
   obtain rfl:u=Value.bool _:=ry
   have e:pyEq (.tup e1) (.bl e2)=false:=by simp [pyEq]
   rw [e]
   exact .tuple_bool _ p1 hu0
  | int e2 =>
   obtain ⟨a,vs,its,rfl,rfl,q1,r1,p1⟩:=seqT hx rx
   obtain rfl:=hy.int
   obtain ⟨t',rfl⟩:=ry
   have e:pyEq (.tup e1) (.int e2)=false:=by simp [pyEq]
   rw [e]
   exact .tuple_int _ _ p1 hu0
  | str e2 =>
   obtain ⟨a,vs,its,rfl,rfl,q1,r1,p1⟩:=seqT hx rx
   obtain rfl:=hy.str.1
   obtain ⟨t',rfl⟩:=ry
   have e:pyEq (.tup e1) (.str e2)=false:=by simp [pyEq]
   rw [e]
   exact .tuple_str _ _ p1 hu0
  | tup e2 =>
   obtain ⟨a,vs,its,rfl,rfl,q1,r1,p1⟩:=seqT hx rx
   obtain ⟨b,ws,its2,rfl,rfl,q2,r2,p2⟩:=seqT hy ry
   have hn:0<n:=by simp at hd;lia
   have hd':deps e1≤n - 1∨deps e2≤n - 1:=by simp at hd;lia
   have it:=zp8 (n:=n - 1) (A:=A) (ih hn) q1 q2 r1 r2 hd' (by lia)
   have l1:=q1.length
   have l2:=q2.length
   have m1:=r1.length
   have m2:=r2.length
   have rc:RcNeAt A s (.ref a) (.ref b) (!pyEq (.tup e1) (.tup e2)):=by
    have z:=RcNeAt.tuples p1 p2 hu0 it
    rw [pyEq,zm5]
    simp only [List.size_toArray] at z
    rw [l1,l2,m1,m2]
    exact z
   exact rc
  | lst e2 =>
   obtain ⟨a,vs,its,rfl,rfl,q1,r1,p1⟩:=seqT hx rx
   obtain ⟨b,ws,its2,rfl,rfl,q2,r2,p2⟩:=seqL hy ry
   have e:pyEq (.tup e1) (.lst e2)=false:=by simp [pyEq]
   rw [e]
   exact .tuple_list p1 p2 hu0
 | lst e1 =>
  cases py with
  | non =>
   obtain ⟨a,vs,its,rfl,rfl,q1,r1,p1⟩:=seqL hx rx
   obtain rfl:y=V.non:=hy.non
   obtain rfl:u=Value.none:=ry
   have e:pyEq (.lst e1) .non=false:=by simp [pyEq]
   rw [e]
   exact .list_none p1 hu0
  | bl e2 =>
   obtain ⟨a,vs,its,rfl,rfl,q1,r1,p1⟩:=seqL hx rx
   obtain rfl:=hy.bl
   obtain rfl:u=Value.bool _:=ry
   have e:pyEq (.lst e1) (.bl e2)=false:=by simp [pyEq]
   rw [e]
   exact .list_bool _ p1 hu0
  | int e2 =>
   obtain ⟨a,vs,its,rfl,rfl,q1,r1,p1⟩:=seqL hx rx
   obtain rfl:=hy.int
   obtain ⟨t',rfl⟩:=ry
   have e:pyEq (.lst e1) (.int e2)=false:=by simp [pyEq]
   rw [e]
   exact .list_int _ _ p1 hu0
  | str e2 =>
   obtain ⟨a,vs,its,rfl,rfl,q1,r1,p1⟩:=seqL hx rx
   obtain rfl:=hy.str.1
   obtain ⟨t',rfl⟩:=ry
   have e:pyEq (.lst e1) (.str e2)=false:=by simp [pyEq]
   rw [e]
   exact .list_str _ _ p1 hu0
  | tup e2 =>
   obtain ⟨a,vs,its,rfl,rfl,q1,r1,p1⟩:=seqL hx rx
   obtain ⟨b,ws,its2,rfl,rfl,q2,r2,p2⟩:=seqT hy ry
   have e:pyEq (.lst e1) (.tup e2)=false:=by simp [pyEq]
   rw [e]
   exact .list_tuple p1 p2 hu0
  | lst e2 =>
   obtain ⟨a,vs,its,rfl,rfl,q1,r1,p1⟩:=seqL hx rx
   obtain ⟨b,ws,its2,rfl,rfl,q2,r2,p2⟩:=seqL hy ry
   have hn:0<n:=by simp at hd;lia
   have hd':deps e1≤n - 1∨deps e2≤n - 1:=by simp at hd;lia
   have it:=zp8 (n:=n - 1) (A:=A) (ih hn) q1 q2 r1 r2 hd' (by lia)
   have l1:=q1.length
   have l2:=q2.length
   have m1:=r1.length
   have m2:=r2.length
   have rc:RcNeAt A s (.ref a) (.ref b) (!pyEq (.lst e1) (.lst e2)):=by
    by_cases hz:its.length=its2.length
    ·have z:=RcNeAt.lists p1 p2 (by simpa using hz) hu0 it
     rw [pyEq,zm5]
     simp only [List.size_toArray] at z
     rw [l1,l2,m1,m2,← hz,Nat.min_self,beq_self_eq_true,Bool.and_true]
     exact z
    ·have z:=RcNeAt.lists_lengths p1 p2 (by simpa using hz) hu0
     have e:pyEq (.lst e1) (.lst e2)=false:=by
      rw [pyEq,zm5,Bool.and_eq_false_iff]
      exact .inr (by rw [beq_eq_false_iff_ne];lia)
     rw [e]
     exact z
   exact rc
theorem o_ne (hu:X.A.units+200<cLine):Op2 X (compareOp .NotEq) (fun x y=>if depOk (dep x) (dep y) then some (.bl (!pyEq x y)) else none):=by
 rintro pins s σ H x y v u Q I rx ry ⟨α,st,px,py,z,r,hx,hy,hz,q⟩
 simp only [Option.ite_none_right_eq_some,Option.some.injEq] at hz
 obtain ⟨hd,hz⟩:=hz
 have hd':dep px≤100∨dep py≤100:=by simpa [depOk] using hd
 exact (zW9 I (n:=100) (fun _=>eq_at I 99) px py x y v u X.A hx hy rx ry hd' (by lia)) _ _ _ _ ⟨.bl _,H,I,rfl,q _ _ (Same.refl H) (by rw [← hz,RP])⟩
end
open PySem L2 PySem.SeqAt PyProof.Rows
noncomputable def flip1 (v:Value):Sem Value:=match v with
 | .bool k=>pure (.bool (!k))
 | v=>pure v
theorem notIn_eq (a b:Value):compareOp .NotIn a b=compareOp .In a b >>= flip1:=by
 show (do return Value.bool (!(← contains b a)):Sem Value)=((do return Value.bool (← contains b a):Sem Value) >>= flip1)
 simp only [bind_assoc,pure_bind,flip1]
theorem isNot_eq (a b:Value):compareOp .IsNot a b=compareOp .Is a b >>= flip1:=by
 show (do return Value.bool (!(← isSame a b)):Sem Value)=((do return Value.bool (← isSame a b):Sem Value) >>= flip1)
 simp only [bind_assoc,pure_bind,flip1]
section
variable {X:Cx}
theorem Op2.flip {op op':CmpOp} {g g':PV→PV→Option PV} (h:Op2 X (compareOp op) g) (e:∀ a b,compareOp op' a b=compareOp op a b >>= flip1) (hg:∀ x y z,g' x y=some z→∃ b,g x y=some (.bl b)∧z=.bl (!b)):Op2 X (compareOp op') g':=by
 rintro pins s σ H x y v u Q I rx ry ⟨α,st,px,py,z,r,hx,hy,hz,q⟩
 obtain ⟨b,hb,rfl⟩:=hg _ _ _ hz
 rw [e v u]
 refine wpAny_bind (thn (h pins s σ H x y v u (fun w H'=>w=.bl b∧Same H H') I rx ry ⟨α,st,px,py,.bl b,r,hx,hy,hb,fun w H' s' rp=>⟨by rw [RP] at rp;exact rp,s'⟩⟩) fun w s1 h_=>?_)
 obtain ⟨x1,H1,I1,r1,e1,s1'⟩:=h_
 subst e1
 obtain rfl:w=Value.bool b:=r1
 exact wpAny_pure ⟨.bl _,H1,I1,rfl,q _ _ s1' (by rw [RP])⟩
theorem zx6 (hu:X.A.units+200<cLine):Op2 X (compareOp .NotIn) (fun x y=>(isIn x y).map fun b=>.bl (!b)) :=
 (zY7 hu).flip notIn_eq fun x y z h=>by
  obtain ⟨b,hb,rfl⟩:=Option.map_eq_some_iff.mp h
  exact ⟨b,by rw [hb];rfl,rfl⟩
theorem zU1 {n:Bool} {x y z:PV} (h:cNone n x y=some z):(y=.non∧z=.bl (decide (x=.non) != n))∨∃ b,y=.bl b∧z=.bl (decide (x=.bl b) != n):=by
 cases y with
 | non =>
  refine .inl ⟨rfl,?_⟩
  cases x <;> (have h:=Option.some.inj h;subst h;cases n <;> simp)
 | bl b =>
  refine .inr ⟨b,rfl,?_⟩
  cases x with
  | bl a=>have h:=Option.some.inj h;subst h;cases n <;> cases a <;> cases b <;> decide
  | _=>have h:=Option.some.inj h;subst h;cases n <;> simp
 | _=>cases x <;> cases h
theorem o_is:Op2 X (compareOp .Is) (cNone false):=by
 rintro pins s σ H x y v u Q I rx ry ⟨α,st,px,py,z,r,hx,hy,hz,q⟩
 rcases zU1 hz with ⟨rfl,rfl⟩ | ⟨b,rfl,rfl⟩
 ·have ey:=hy.non
  subst ey
  refine op_isN pins s σ H x _ v u Q I rx ry ⟨rfl,q _ _ (Same.refl H) ?_⟩
  rw [RP]
  congr 1
  rw [Bool.bne_false]
  have:(px=.non)↔(x=V.non):=by
   cases px with
   | non=>simp [hx.non]
   | bl _=>simp [hx.bl]
   | int _=>simp [hx.int]
   | str _=>simp [hx.str.1]
   | tup _=>obtain ⟨a,vs,rfl,_⟩:=hx.tup;simp
   | lst _=>obtain ⟨a,vs,rfl,_⟩:=hx.lst;simp
  simp only [this]
 ·have ey:=hy.bl
  subst ey
  obtain rfl:u=Value.bool b:=ry
  have fin:∀ k,decide (px=PV.bl b)=k→EP X pins σ Q (.bool k) s:=fun k e=>⟨.bl k,H,I,rfl,q _ _ (Same.refl H) (by rw [RP,e,Bool.bne_false])⟩
  show wpAny _ _ (do return Value.bool (← isSame v (.bool b)):Sem Value) _ _ _
  cases px with
  | non =>
   have ex:=hx.non;subst ex;obtain rfl:v=Value.none:=rx
   exact wpAny_bind (wpAny_pure (wpAny_pure (fin _ (by cases b <;> rfl))))
  | bl a =>
   have ex:=hx.bl;subst ex;obtain rfl:v=Value.bool a:=rx
   exact wpAny_bind (wpAny_pure (wpAny_pure (fin _ (by cases a <;> cases b <;> rfl))))
  | int i =>
   have ex:=hx.int;subst ex;obtain ⟨t,rfl⟩:=rx
   exact wpAny_bind (wpAny_pure (wpAny_pure (fin _ (by cases b <;> rfl))))
  | str i =>
   have ex:=hx.str.1;subst ex;obtain ⟨t,rfl⟩:=rx
   exact wpAny_bind (wpAny_pure (wpAny_pure (fin _ (by cases b <;> rfl))))
  | tup i =>
   obtain ⟨a,vs,rfl,_⟩:=hx.tup;obtain rfl:v=Value.ref a:=rx
   exact wpAny_bind (wpAny_pure (wpAny_pure (fin _ (by cases b <;> rfl))))
  | lst i =>
   obtain ⟨a,vs,rfl,_⟩:=hx.lst;obtain rfl:v=Value.ref a:=rx
   exact wpAny_bind (wpAny_pure (wpAny_pure (fin _ (by cases b <;> rfl))))
theorem o_isnot:Op2 X (compareOp .IsNot) (cNone true) :=
 o_is.flip isNot_eq fun x y z h=>by
  rcases zU1 h with ⟨rfl,rfl⟩ | ⟨b,rfl,rfl⟩
  ·refine ⟨decide (x=.non),?_,by simp⟩
   cases x <;> simp [cNone]
  ·refine ⟨decide (x=.bl b),?_,by simp⟩
   cases x with
   | bl a=>cases a <;> cases b <;> rfl
   | _=>simp [cNone]
end
open PySem L2 PySem.SeqAt PyProof.Rows
section
variable {X:Cx} {C:CallF} {e:Expr} {ie:E} {pos p:Pos}
theorem zj1:CallN X (.type "tuple") (f1 fTuple):=by
 rintro pins s σ H ws us Q I rs ⟨α,st,xs,z,r,pr,hz,q⟩
 cases pr with
 | nil=>cases hz
 | cons h t =>
  cases t with
  | cons _ _=>cases hz
  | nil =>
   rename_i x w
   cases x with
   | tup l =>
    obtain ⟨a,vs,rfl,h1,h2⟩:=h.tup
    cases hz
    exact zw0 pins s σ H _ us Q I rs ⟨a,vs,rfl,.inr ⟨h1,q _ _ (Same.refl H) (by rw [RP];exact ⟨a,vs,rfl,h1,h2⟩)⟩⟩
   | lst l =>
    obtain ⟨a,vs,rfl,h1,h2⟩:=h.lst
    cases hz
    refine zw0 pins s σ H _ us Q I rs ⟨a,vs,rfl,.inl ⟨h1,fun b hb=>?_⟩⟩
    have s1:Same H (upd H b (.tup vs)):=zh7 hb _
    exact q _ _ s1 (by rw [RP];exact ⟨b,vs,rfl,SqT.of zf5,(Ext.of_same r s1).rps h2⟩)
   | _=>cases hz
theorem n_list:CallN X (.type "list") (f1 fList):=by
 rintro pins s σ H ws us Q I rs ⟨α,st,xs,z,r,pr,hz,q⟩
 cases pr with
 | nil=>cases hz
 | cons h t =>
  cases t with
  | cons _ _=>cases hz
  | nil =>
   rename_i x w
   have go:∀ {l:List PV} {a:Addr} {vs:List V},z=.lst l→w=.ref a→(SqL X.K H a vs∨SqT X.K H a vs)→RPs X.K H (Live α st) l vs→wpAny (model X.prog X.w) X.A (call (.type "list") us) (EP X pins σ Q) X.xe s:=fun {l a vs} ez ew h1 h2=>by
    subst ew ez
    refine zL3 pins s σ H _ us Q I rs ⟨a,vs,rfl,h1,fun b hb=>?_⟩
    have s1:Same H (upd H b (.lst vs)):=zh7 hb _
    exact q _ _ s1 (by rw [RP];exact ⟨b,vs,rfl,SqL.of zf5,r.notlive hb,(Ext.of_same r s1).rps h2⟩)
   cases x with
   | tup l =>
    obtain ⟨a,vs,ew,h1,h2⟩:=h.tup
    exact go (Option.some.inj hz).symm ew (.inr h1) h2
   | lst l =>
    obtain ⟨a,vs,ew,h1,h2⟩:=h.lst
    exact go (Option.some.inj hz).symm ew (.inl h1) h2
   | _=>cases hz
theorem zR6 (f:Nat→Int):∀ k:Nat,f (argBest (fun i j=>decide (f i > f j)) k)=maxL (f 0) ((List.range k).map fun i=>f (i+1))
 | 0=>rfl
 | k+1=>by
  have snoc:∀ (r:List Int) (m x:Int),maxL m (r++[x])=(if maxL m r<x then x else maxL m r):=by
   intro r
   induction r with
   | nil=>intro m x;rfl
   | cons y r ih=>intro m x;rw [List.cons_append,maxL,ih,maxL]
  rw [List.range_succ,List.map_append,List.map_singleton,snoc,← zR6 f k,argBest]
  by_cases h:f (k+1) > f (argBest (fun i j=>decide (f i > f j)) k)
  ·rw [if_pos (by simpa using h),if_pos h]
  ·rw [if_neg (by simpa using h),if_neg h]
theorem n_max (hc:X.calm=true):CallN X (.builtin "max") (f1 (onLst fMax)):=by
 rintro pins s σ H ws us Q I rs ⟨α,st,xs,z,r,pr,hz,q⟩
 cases pr with
 | nil=>cases hz
 | cons h t =>
  cases t with
  | cons _ _=>cases hz
  | nil =>
   rename_i x w
   cases x with
   | lst l =>
    have hz:fMax l=some z:=hz
    unfold fMax at hz
    cases hi:intsOf l with
    | none=>rw [hi] at hz;cases hz
    | some ns =>
     rw [hi] at hz
     cases ns with
     | nil=>cases hz
     | cons n0 nr =>
      have hz2:PV.int (maxL n0 nr)=z:=Option.some.inj hz
      have el:=ints_of hi
      subst el
      obtain ⟨a,vs,rfl,h1,h2⟩:=h.lst
      cases rs with
      | cons ra rt =>
       cases rt
       obtain rfl:=(show _=Value.ref a from ra)
       obtain ⟨its,r1,p,_⟩:=I.list h1
       have ev:=zU8 h2
       subst ev
       obtain ⟨ps,rfl,hps⟩:=zF5 r1
       have hit:(ps.map (fun p=>Value.int p.1 p.2)).toArray=intItems ps.toArray:=by simp [intItems]
       have hpl:ps.length=nr.length+1:=by have:=congrArg List.length hps;simpa using this
       refine max_intList (xs:=ps.toArray) (I.ok.hd hc) (by rw [← hit];exact p.isList) (by simp;lia) fun v h' tk hv hk=>?_
       obtain ⟨tv,rfl⟩:=intItems_at hv
       refine ⟨.int _,H,I.kept hk,⟨_,rfl⟩,q _ _ (Same.refl H) ?_⟩
       rw [← hz2,RP,zR6 (numAt ps.toArray)]
       congr 1
       have at':∀ i,numAt ps.toArray i=((n0::nr)[i]?).getD 0:=fun i=>by
        rw [← hps]
        simp [numAt]
       have e0:numAt ps.toArray 0=n0:=by rw [at'];rfl
       have er:(List.range (ps.toArray.size - 1)).map (fun i=>numAt ps.toArray (i+1))=nr:=by
        have:ps.toArray.size - 1=nr.length:=by simp;lia
        rw [this]
        apply List.ext_getElem
        ·simp
        ·intro i h1 h2
         simp [at',h2]
       rw [e0,er]
   | _=>cases hz
end
open PySem L2 PySem.SeqAt PyProof.Rows
section
variable {X:Cx} {C:CallF} {W:Nat} {pos:Pos}
theorem ss_while {c:Expr} {body:List Stmt} {ic:E} {ib:List S} (hp:PassesOwn (model X.prog X.w) X.A X.env X.xe) (hc:ST X C c ic) (hb:SSs X C W body ib):SS X C W (.While c body [] pos) (.while ic ib) :=
 PS.mono (ps_while hp hc hb) fun D σ H h_=>by
  obtain ⟨env,α,st,fl,st',at',e,q⟩:=h_
  rw [ex_while] at e
  have e:whileLoop (evalE C ic) (execSs C W ib) W env st=.ok fl st':=e
  refine ⟨fun m σ2 H2=>∃ env2 α2 st2,At X.K α2 st2 H2 env2 σ2∧Ext X.K α st H α2 st2 H2∧whileLoop (evalE C ic) (execSs C W ib) m env2 st2=.ok fl st',⟨W,env,α,st,at',.refl,e⟩,?_⟩
  rintro m σ2 H2 ⟨env2,α2,st2,at2,x2,e2⟩
  cases m with
  | zero=>cases e2
  | succ m =>
   rw [whileLoop] at e2
   obtain ⟨k,st3,e3,e2⟩:=Res.bindB_inv e2
   refine ⟨env2,α2,st2,k,st3,at2,e3,fun H3 α3 x3 r3=>?_⟩
   have at3:=at2.next x3 r3
   cases k with
   | false =>
    cases e2
    exact iteF (q σ2 H3 α3 (x2.trans x3) at3)
   | true =>
    refine iteT ?_
    have e2:((execSs C W ib env2 st3).bind fun f st2=>match f with | .next env2=>whileLoop (evalE C ic) (execSs C W ib) m env2 st2 | .ret v=>.ok (.ret v) st2)=.ok fl st':=e2
    obtain ⟨f,st4,e4,e2⟩:=Res.bind_inv e2
    refine ⟨fun σ4 H4=>∃ env4 α4 st4,At X.K α4 st4 H4 env4 σ4∧Ext X.K α st H α4 st4 H4∧whileLoop (evalE C ic) (execSs C W ib) m env4 st4=.ok fl st',fun σ4 H4 h=>⟨m,Nat.lt_succ_self m,h⟩,env2,α3,st3,f,st4,at3,e4,?_⟩
    cases f with
    | next env4=>exact fun σ5 H5 α5 x5 at5=>⟨env4,α5,st4,at5,x2.trans (x3.trans x5),e2⟩
    | ret v =>
     cases e2
     exact fun w H5 α5 x5 r5 rv=>q w H5 α5 (x2.trans (x3.trans x5)) r5 rv
def IpI (X:Cx) (op:Operator) (b:Bop):Prop:=PIp X op fun x y H Q=>∃ i j z,x=.int i∧y=.int j∧binOp b (.int i) (.int j)=some (.int z)∧Q (.int z) H
theorem ipi_add:IpI X .Add .add:=by
 rintro pins s σ H x y v u Q I r1 r2 ⟨i,j,z,e1,e2,hz,q⟩
 refine ip_add pins s σ H x y v u Q I r1 r2 ⟨i,j,e1,e2,?_⟩
 cases hz
 exact q
theorem ss_aug {i:Nat} {x:Str} {e:Expr} {ie:E} {op:Operator} {b:Bop} {pos':Pos} (ho:IpI X op b) (hN:X.N.Nodup) (hi:X.N[i]?=some x) (hx:Loc X.env.scope x) (h:SE X C e ie)
  (hb:∀ x y z,binOp b x y=some z→(∃ i j k,x=.int i∧y=.int j∧z=.int k)∨∀ i,x≠.int i)
  (hf:X.fn x=true∨X.env.scope.names.lookup x=some .local) :
  SS X C W (.AugAssign (.Name x pos') op e pos) (.augI i b ie) :=
 PS.mono (ps_aug hN hi hx h ho hf) fun D σ H h_=>by
  obtain ⟨env,α,st,fl,st',at',e,q⟩:=h_
  rw [ex_augI] at e
  obtain ⟨x0,st0,e0,e⟩:=Res.bindP_inv e
  obtain ⟨v1,y,st1,e1,hy,e⟩:=Res.bindV_inv e
  obtain ⟨v2,st2,e2,e⟩:=Res.bind_inv e
  cases e
  unfold varOf at e0
  cases he:env[i]? with
  | none=>rw [he] at e0;cases e0
  | some o =>
   cases o with
   | none=>rw [he] at e0;cases e0
   | some u =>
    rw [he] at e0
    cases e0
    obtain ⟨w,h1,h2⟩:=at'.env i _ he
    cases x0 with
    | int a =>
     cases y with
     | int c =>
      have e2:okO (binOp b (.int a) (.int c)) st1=.ok v2 st':=e2
      obtain ⟨z,g1,g2,g3⟩:=zq7 e2
      subst g2 g3
      have hw:w=.int a:=by have:RP X.K H (Live α st) (.int a) w:=h2;rw [RP] at this;exact this
      subst hw
      refine ⟨_,h1,env,α,st,v1,st',at',e1,fun w1 H1 α1 x1 r1 rv1=>?_⟩
      have hy1:=(rv1.view r1 hy).int
      subst hy1
      rcases hb _ _ _ g1 with ⟨i',j',k',z1,z2,z3⟩ | z
      ·subst z3
       exact ⟨a,c,k',rfl,rfl,g1,q _ H1 α1 x1 ((at'.next x1 r1).set (v:=.p (.int k')) (by show RP X.K H1 (Live α1 st') (.int k') (.int k');rw [RP]))⟩
      ·exact (z a rfl).elim
     | _=>cases e2
    | _=>cases e2
theorem hb_add:∀ x y z,binOp .add x y=some z→(∃ i j k,x=.int i∧y=.int j∧z=.int k)∨∀ i,x≠.int i:=by
 intro x y z h
 cases x with
 | int i =>
  cases y with
  | int j=>exact .inl ⟨i,j,_,rfl,rfl,(Option.some.inj h).symm⟩
  | _=>cases h
 | _=>exact .inr fun i e=>by cases e
end
open PySem L2 PySem.SeqAt PyProof.Rows
open PySem.Builtin PySem.Builtin.Str
mutual
noncomputable def toD:PV→PyData
 | .non=>.none
 | .bl b=>.bool b
 | .int i=>.int i
 | .str cs=>.str ⟨cs.toArray⟩
 | .tup xs=>.tuple (toDs xs)
 | .lst xs=>.list (toDs xs)
noncomputable def toDs:List PV→List PyData
 | []=>[]
 | x::r=>toD x::toDs r
end
mutual
theorem toD_depth:∀ x:PV,(toD x).depth=dep x
 | .non=>by rw [toD,PyData.depth,dep_non]
 | .bl b=>by rw [toD,PyData.depth,dep_bl]
 | .int i=>by rw [toD,PyData.depth,dep_int]
 | .str cs=>by rw [toD,PyData.depth,dep_str]
 | .tup xs=>by rw [toD,PyData.depth,dep_tup,toDs_depth xs]
 | .lst xs=>by rw [toD,PyData.depth,dep_lst,toDs_depth xs]
theorem toDs_depth:∀ xs:List PV,PyData.depthAll (toDs xs)=deps xs
 | []=>by rw [toDs,PyData.depthAll,deps_nil]
 | x::r=>by rw [toDs,PyData.depthAll,deps_cons,toD_depth x,toDs_depth r]
end
mutual
theorem toD_noDict:∀ x:PV,(toD x).hasDict=false
 | .non=>by rw [toD,PyData.hasDict]
 | .bl b=>by rw [toD,PyData.hasDict]
 | .int i=>by rw [toD,PyData.hasDict]
 | .str cs=>by rw [toD,PyData.hasDict]
 | .tup xs=>by rw [toD,PyData.hasDict,toDs_noDict xs]
 | .lst xs=>by rw [toD,PyData.hasDict,toDs_noDict xs]
theorem toDs_noDict:∀ xs:List PV,PyData.hasDictAll (toDs xs)=false
 | []=>by rw [toDs,PyData.hasDictAll]
 | x::r=>by rw [toDs,PyData.hasDictAll,toD_noDict x,toDs_noDict r];rfl
end
section
variable {X:Cx} {pins:List (Addr×Obj)} {σ:L2.St} {H:Hp} {s:Shared} {lv:Addr→Prop}
mutual
theorem reads_of (I:Inv X pins σ H s):∀ (x:PV) (v:V) (u:Value),RP X.K H lv x v→RelV v u→∃ as,Reads s.heap u (toD x) as
 | .non,v,u,h,r=>by
  rw [RP] at h;subst h;obtain rfl:u=Value.none:=r;rw [toD];exact ⟨[],.none⟩
 | .bl b,v,u,h,r=>by
  rw [RP] at h;subst h;obtain rfl:u=Value.bool b:=r;rw [toD];exact ⟨[],.bool b⟩
 | .int i,v,u,h,r=>by
  rw [RP] at h;subst h;obtain ⟨t,rfl⟩:=r;rw [toD];exact ⟨[],.int i t⟩
 | .str cs,v,u,h,r=>by
  rw [RP] at h;obtain ⟨h,_⟩:=h;subst h;obtain ⟨t,rfl⟩:=r;rw [toD];exact ⟨[],.str _ t⟩
 | .tup xs,v,u,h,r=>by
  rw [RP] at h
  obtain ⟨a,vs,rfl,h1,h2⟩:=h
  obtain rfl:u=Value.ref a:=r
  obtain ⟨its,r1,⟨o,e1,e2,n,e3⟩,_⟩:=I.tuple h1
  obtain ⟨as,ra⟩:=readsAll_of I xs vs its h2 r1
  rw [toD]
  exact ⟨as,.tuple e1 e2 e3 (by simpa using ra)⟩
 | .lst xs,v,u,h,r=>by
  rw [RP] at h
  obtain ⟨a,vs,rfl,h1,_,h2⟩:=h
  obtain rfl:u=Value.ref a:=r
  obtain ⟨its,r1,⟨o,n,e1,e2,_,e3⟩,_⟩:=I.list h1
  obtain ⟨as,ra⟩:=readsAll_of I xs vs its h2 r1
  rw [toD]
  exact ⟨a::as,.list e1 e2 e3 (by simpa using ra)⟩
theorem readsAll_of (I:Inv X pins σ H s):∀ (xs:List PV) (vs:List V) (us:List Value),RPs X.K H lv xs vs→Vals vs us→∃ as,ReadsAll s.heap us (toDs xs) as
 | [],vs,us,h,r=>by
  rw [RPs] at h;subst h;cases r;rw [toDs];exact ⟨[],.nil⟩
 | x::xr,vs,us,h,r=>by
  rw [RPs] at h
  obtain ⟨v,vr,rfl,h1,h2⟩:=h
  cases r with
  | cons r1 r2 =>
   obtain ⟨as,a1⟩:=reads_of I x _ _ h1 r1
   obtain ⟨bs,b1⟩:=readsAll_of I xr _ _ h2 r2
   rw [toDs]
   exact ⟨as++bs,.cons a1 b1⟩
end
end
theorem chr_ok:∀ c:Nat,c<127→okC c=true→reprChar 39 c=[c]:=by decide +kernel
theorem quote_ok {cs:List Nat} (h:cs.all okC=true):reprQuote (⟨cs.toArray⟩:Str)=39:=by
 unfold reprQuote
 have h39:¬ 39∈cs:=fun z=>by
  have:=List.all_eq_true.mp h 39 z
  revert this;decide
 have e:(⟨cs.toArray⟩:Str).cps.contains 39=false:=by simpa using h39
 simp [h39]
theorem zT0:∀ {cs:List Nat} {acc:List Nat},cs.all okC=true→cs.foldl (fun out c=>out++(reprChar 39 c).toArray) acc.toArray=(acc++cs).toArray
 | [],acc,_=>by simp
 | c::r,acc,h=>by
  rw [List.all_cons,Bool.and_eq_true] at h
  have hc:c<127:=by have:=h.1;unfold okC at this;have:=of_decide_eq_true this;lia
  rw [List.foldl_cons,chr_ok c hc h.1,List.append_toArray,zT0 h.2]
  simp
theorem repr_txt {cs:List Nat} (h:cs.all okC=true):reprText (⟨cs.toArray⟩:Str)=txt ([39]++cs++[39]):=by
 unfold reprText
 rw [quote_ok h]
 show (⟨Array.push (cs.toArray.foldl (fun (out:Array Nat) (c:Nat)=>out++(reprChar 39 c).toArray) #[39]) 39⟩:Str)=_
 rw [← Array.foldl_toList]
 have e:=zT0 (acc:=[39]) h
 have e2:(cs.toArray.toList.foldl (fun out c=>out++(reprChar 39 c).toArray) #[39])=([39]++cs).toArray:=e
 rw [e2]
 simp [txt]
theorem int_txt (i:Int):(Str.ofString (toString i))=txt (intTxt i):=by
 rw [Str.ofString_eq_toList]
 rfl
noncomputable def cm:List Nat:=[44,32]
theorem zM5:∀ ts:List (List Nat),Str.join (Str.ofString ", ") (ts.map txt)=txt (joinC ts)
 | []=>rfl
 | [x]=>rfl
 | x::y::r=>by
  have ih:=zM5 (y::r)
  have ec:Str.ofString ", " = txt cm:=by decide +kernel
  show txt x++Str.ofString ", " ++ Str.join (Str.ofString ", ") ((y::r).map txt)=txt (x++[44,32]++joinC (y::r))
  rw [ih,ec]
  show (⟨(x.toArray++cm.toArray)++(joinC (y::r)).toArray⟩:Str)=⟨(x++[44,32]++joinC (y::r)).toArray⟩
  simp [cm]
theorem zo4 (a b:List Nat):txt a++txt b=txt (a++b):=by
 show (⟨a.toArray++b.toArray⟩:Str)=⟨(a++b).toArray⟩
 simp
theorem tup_txt (ts:List (List Nat)):tupleText (ts.map txt)=txt (tupTxt ts):=by
 unfold tupleText tupTxt
 have e1:(Str.ofString "(")=txt [40]:=by decide +kernel
 have e2:(Str.ofString ",)")=txt [44,41]:=by decide +kernel
 have e3:(Str.ofString ")")=txt [41]:=by decide +kernel
 rw [zM5,e1,List.length_map]
 by_cases h:ts.length=1
 ·rw [if_pos (by simp [h]),if_pos h]
  show txt [40]++txt (joinC ts)++Str.ofString ",)" = _
  rw [e2,zo4,zo4]
 ·rw [if_neg (by simp [h]),if_neg h]
  show txt [40]++txt (joinC ts)++Str.ofString ")" = _
  rw [e3,zo4,zo4]
theorem zT4:∀ (ts:List (List Nat)) (k:Nat) (acc:List Nat),0<k→textFrom k (txt acc) (ts.map txt)=txt (acc++(ts.map fun t=>cm++t).flatten)
 | [],k,acc,_=>by simp [textFrom]
 | t::r,k,acc,hk=>by
  have ec:Str.ofString ", " = txt cm:=by decide +kernel
  rw [List.map_cons,textFrom,if_pos hk]
  show textFrom (k+1) (txt acc++Str.ofString ", " ++ txt t) (r.map txt)=_
  rw [ec,zo4,zo4,zT4 r (k+1) _ (by lia)]
  simp
theorem zF4:∀ (t:List Nat) (r:List (List Nat)),joinC (t::r)=t++(r.map fun t=>cm++t).flatten
 | t,[]=>by simp [joinC]
 | t,u::r=>by
  show t++[44,32]++joinC (u::r)=_
  rw [zF4 u r]
  simp [cm]
theorem lst_txt (ts:List (List Nat)):listText (ts.map txt)=txt (lstTxt ts):=by
 unfold listText lstTxt
 have e1:(Str.ofString "[")=txt [91]:=by decide +kernel
 have e2:(Str.ofString "]")=txt [93]:=by decide +kernel
 have e3:(Str.ofString "")=txt []:=by decide +kernel
 cases ts with
 | nil =>
  show Str.ofString "[" ++ Str.ofString "]" = _
  rw [e1,e2,zo4]
  rfl
 | cons t r =>
  show textFrom 1 (Str.ofString "[" ++ Str.ofString "" ++ txt t) (r.map txt)++Str.ofString "]" = _
  rw [e1,e2,e3,zo4,zo4,zT4 r 1 _ (by lia),zo4,zF4]
  simp
mutual
theorem shown_txt:∀ (x:PV) (t:List Nat),shownP x=some t→(toD x).showable=true∧(toD x).shown=txt t
 | .non,t,h=>by rw [shownP] at h;cases h;rw [toD,PyData.showable,PyData.shown];exact ⟨rfl,by decide +kernel⟩
 | .bl true,t,h=>by rw [shownP] at h;cases h;rw [toD,PyData.showable,PyData.shown];exact ⟨rfl,by decide +kernel⟩
 | .bl false,t,h=>by rw [shownP] at h;cases h;rw [toD,PyData.showable,PyData.shown];exact ⟨rfl,by decide +kernel⟩
 | .int i,t,h=>by
  rw [shownP] at h
  split at h
  ·rename_i hc
   cases h
   rw [toD,PyData.showable,PyData.shown]
   exact ⟨decide_eq_true hc,int_txt i⟩
  ·cases h
 | .str cs,t,h=>by
  rw [shownP] at h
  split at h
  ·rename_i hc
   cases h
   rw [toD,PyData.showable,PyData.shown]
   exact ⟨rfl,repr_txt hc⟩
  ·cases h
 | .tup xs,t,h=>by
  rw [shownP] at h
  split at h
  ·rename_i ts hts
   cases h
   obtain ⟨h1,h2⟩:=showns_txt xs ts hts
   rw [toD,PyData.showable,PyData.shown,h2]
   exact ⟨h1,tup_txt ts⟩
  ·cases h
 | .lst xs,t,h=>by
  rw [shownP] at h
  split at h
  ·rename_i ts hts
   cases h
   obtain ⟨h1,h2⟩:=showns_txt xs ts hts
   rw [toD,PyData.showable,PyData.shown,h2]
   exact ⟨h1,lst_txt ts⟩
  ·cases h
theorem showns_txt:∀ (xs:List PV) (ts:List (List Nat)),shownPs xs=some ts→PyData.showableAll (toDs xs)=true∧PyData.shownAll (toDs xs)=ts.map txt
 | [],ts,h=>by rw [shownPs] at h;cases h;rw [toDs,PyData.showableAll,PyData.shownAll];exact ⟨rfl,rfl⟩
 | x::r,ts,h=>by
  rw [shownPs] at h
  split at h
  ·rename_i t ht
   split at h
   ·rename_i tr htr
    cases h
    obtain ⟨h1,h2⟩:=shown_txt x t ht
    obtain ⟨h3,h4⟩:=showns_txt r tr htr
    rw [toDs,PyData.showableAll,PyData.shownAll,h1,h2,h3,h4]
    exact ⟨rfl,rfl⟩
   ·cases h
  ·cases h
end
section
variable {X:Cx}
theorem zF0 (hu:X.A.units+200<cLine) (hg:X.A.guards=some []):CallN X (.builtin "repr") (f1 fun v=>(reprOf v).map .str):=by
 rintro pins s σ H ws us Q I rs ⟨α,st,xs,z,r,pr,hz,q⟩
 cases pr with
 | nil=>cases hz
 | cons h t =>
  cases t with
  | cons _ _=>cases hz
  | nil =>
   rename_i x w
   have hz:(reprOf x).map PV.str=some z:=hz
   obtain ⟨tx,hr,rfl⟩:=Option.map_eq_some_iff.mp hz
   have hs:shownP x=some tx∧dep x≤100∧tx.length≤sizeLine:=by
    have dr:∀ {y},deepRepr y=some tx→shownP y=some tx∧dep y≤100∧tx.length≤sizeLine:=fun {y} h=>by
     unfold deepRepr at h
     split at h
     ·rename_i t ht
      split at h
      ·rename_i hc
       cases h
       rw [zG2] at hc
       exact ⟨ht,hc⟩
      ·cases h
     ·cases h
    cases x with
    | bl b =>
     cases b
     ·have h:some tFalse=some tx:=hr
      cases h
      exact ⟨by rw [shownP],by simp,by decide⟩
     ·have h:some tTrue=some tx:=hr
      cases h
      exact ⟨by rw [shownP],by simp,by decide⟩
    | non=>exact dr hr
    | int i=>exact dr hr
    | str i=>exact dr hr
    | tup i=>exact dr hr
    | lst i=>exact dr hr
   obtain ⟨h1,h2,h3⟩:=hs
   obtain ⟨k1,k2⟩:=shown_txt x tx h1
   cases rs with
   | cons ra rt =>
    cases rt
    have fin:∀ {s':Shared} {t':Tok},Inv X pins σ H s'→EP X pins σ Q (.str (txt tx) t') s':=fun I'=>⟨.str _,H,I',⟨_,rfl⟩,q _ _ (Same.refl H) (by rw [RP];exact ⟨rfl,h3⟩)⟩
    have hsz:((toD x).shown).length≤sizeLine:=by rw [k2];show (Str.length ⟨tx.toArray⟩)≤sizeLine;rw [zk8];exact h3
    have deep:∀ {a:Addr} {as:List Addr},Reads s.heap (.ref a) (toD x) as→wpAny (model X.prog X.w) X.A (call (.builtin "repr") [.ref a]) (EP X pins σ Q) X.xe s:=fun {a as} rd =>
     repr_of_reads' rd k1 (PyData.noDict_hsm (toD_noDict x)) hg (by rw [toD_depth];lia) (fun _ _ e=>e) (fun h' u tk hk=>by rw [k2];exact fin (I.kept hk)) hsz
    cases x with
    | non =>
     have e:=h.non;subst e
     obtain rfl:=(show _=Value.none from ra)
     have e:(Str.ofString "None")=txt tx:=by rw [shownP] at h1;cases h1;decide +kernel
     refine PySem.P.repr_of_none ?_
     show EP X pins σ Q (.str (Str.ofString "None") _) _
     rw [e];exact fin (I.tok _)
    | bl b =>
     have e:=h.bl;subst e
     obtain rfl:=(show _=Value.bool b from ra)
     refine PySem.P.repr_of_bool ?_
     have e:(if b=true then Str.ofString "True" else Str.ofString "False")=txt tx:=by cases b <;> (rw [shownP] at h1;cases h1;decide +kernel)
     show EP X pins σ Q (.str (if b=true then Str.ofString "True" else Str.ofString "False") _) _
     rw [e];exact fin (I.tok _)
    | int i =>
     have e:=h.int;subst e
     obtain ⟨t1,rfl⟩:=(show ∃ t,_=Value.int i t from ra)
     have hi:i.natAbs.log2<1920:=by rw [toD,PyData.showable] at k1;exact of_decide_eq_true k1
     refine PySem.P.repr_of_int hi ?_
     rw [toD,PyData.shown] at k2
     show EP X pins σ Q (.str (Str.ofString (toString i)) _) _
     rw [show Str.ofString (toString i)=txt tx from k2]
     exact fin (I.tok _)
    | str cs =>
     have e:=h.str.1;subst e
     obtain ⟨t1,rfl⟩:=(show ∃ t,_=Value.str _ t from ra)
     rw [toD,PyData.shown] at k2 hsz
     refine PySem.P.repr_of_str ?_ hsz
     rw [k2];exact fin (I.tok _)
    | tup l =>
     obtain ⟨a,vs,rfl,g1,g2⟩:=h.tup
     obtain rfl:=(show _=Value.ref a from ra)
     obtain ⟨as,rd⟩:=reads_of (lv:=Live α st) I (.tup l) (.ref a) (.ref a) (by rw [RP];exact ⟨a,vs,rfl,g1,g2⟩) rfl
     exact deep rd
    | lst l =>
     obtain ⟨a,vs,rfl,g1,g2⟩:=h.lst
     obtain rfl:=(show _=Value.ref a from ra)
     obtain ⟨its,r1,⟨o,n,e1,e2,_,e3⟩,_⟩:=I.list g1
     obtain ⟨as,rd⟩:=readsAll_of (lv:=Live α st) I l vs its g2 r1
     have:Reads s.heap (.ref a) (toD (.lst l)) (a::as):=by rw [toD];exact .list e1 e2 e3 (by simpa using rd)
     exact deep this
end
open PySem L2 PySem.SeqAt PyProof.Rows
section
variable {X:Cx} {elt iter tg:Expr} {ifs:List Expr} {scope:Scope} {pos:Pos} {N:List Str} {caps:List Nat} {n:Nat} {wi:TI} {g:TG} {tc:TT} {te:TE}
theorem ps_setC {i:Nat} {y:Str} {py spos:Pos} (hN:X.N.Nodup) (hyi:X.N[i]?=some y) (hyl:X.env.scope.names.lookup y=some .local) (hcalm:X.calm=true) (ok:CompOk X scope N caps n) (hi:PI X tg iter wi)
  (hg:∀ cl s₀ H₀ ex pn,PG (compCx X scope N cl s₀ H₀ ex pn) tg g) (ht:∀ cl s₀ H₀ ex pn,PTs (compCx X scope N cl s₀ H₀ ex pn) ifs tc) (he:∀ cl s₀ H₀ ex pn,PE (compCx X scope N cl s₀ H₀ ex pn) elt te)
  (hs:∀ x,foldedSetIterable iter X.env x=pure x) (hsw:swapsWith (.ListComp elt [⟨tg,iter,ifs,0⟩] scope pos) (some (.Name y py)) spos.line X.env=pure true):PS X (.Assign [.Name y py] (.ListComp elt [⟨tg,iter,ifs,0⟩] scope pos) spos) (tAsg (tComp X.K caps n wi g tc te) (gName i)):=by
 intro pins s σ H Dn I h
 have hcells:∀ x∈scope.names,x.2=.free→∃ c,X.env.cells.lookup x.1=some c:=fun x hx hf=>I.ok.has x.1 (ok.free x hx hf)
 obtain ⟨cl,hclo,hcl,hclf⟩:=zE9 hcells
 rw [exec_Assign_Name_used _ _ _ _ hsw]
 refine wpAny_bind (wpAny_standAt (wpAny_bind ?_))
 show wpAny _ X.A (do let _ ← comprehension (.ListComp elt [⟨tg,iter,ifs,0⟩] scope pos) scope X.env _ (newList []) false (eval iter X.env) (some (assign (.Name y py) X.env))) _ _ s
 refine wpAny_bind (thn (wpAny_comprehension_free (use:=some (assign (.Name y py) X.env)) (Q:=fun _ s'=>∃ σ' H',Inv X pins σ' H' s'∧Dn.nx σ' H') rfl hs hclo ok.kind ok.names (thn (hi pins s σ H _ I h) fun xv s1 h1=>thn h1 fun itv s2 h2=>?_)) fun _ s' hq=>wpAny_pure (wpAny_pure hq))
 obtain ⟨it,fp,tn,J,H2,rfl,I2,T,st2,f2,q2⟩:=h2
 have hKD:X.K.lookup s2.heap.objs.size=none:=by
  cases e:X.K.lookup s2.heap.objs.size with
  | none=>rfl
  | some o=>exact absurd (Heap.lt_size (I2.kIn _ _ e)) (Nat.lt_irrefl _)
 obtain ⟨W,⟨m0,w0⟩,turn⟩:=q2 s2.heap.objs.size I2.fresh hKD
 refine wpAny_newObj_type ?_
 have I3:Inv X pins σ (upd H2 s2.heap.objs.size (.lst [])) { s2 with heap:=s2.heap.push { cls:=.type "list", data:=.seq ([]:List Value).toArray },toks:=s2.toks }:=I2.lnew .nil (by decide)
 generalize hD:s2.heap.objs.size=D at *
 generalize hs3:({ s2 with heap:=s2.heap.push { cls:=.type "list", data:=.seq ([]:List Value).toArray },toks:=s2.toks }:Shared)=s3 at I3
 refine wpAny_newFunctionEnv ok.cell (by intro y hy;simp at hy) (fun h1 hns hsb=>?_) ok.kind
 have e3:s3.heap.objs.size=D+1:=by rw [← hs3,← hD];exact Heap.size_push _ _
 have hkept:∀ b o,s3.heap.get? b=some o→h1.get? b=some o:=fun b o e=>(hsb.2 b (Nat.ne_of_lt (Heap.lt_size e))).trans (Heap.get?_push_of_some _ e)
 have h23:∀ b o,s2.heap.get? b=some o→s3.heap.get? b=some o:=fun b o e=>by rw [← hs3];exact Heap.get?_push_of_some _ e
 have hfD:∀ b∈fp,b<D:=fun b hb=>by
  obtain ⟨o,e,_⟩:=T.obj 0 _ st2 b hb
  rw [← hD];exact Heap.lt_size e
 have f3:∀ b∈fp,FpOk X pins (upd H2 D (.lst [])) b:=fun b hb=>⟨by rw [ze6 (Nat.ne_of_lt (hfD b hb))];exact (f2 b hb).1,(f2 b hb).2⟩
 have kX:∀ x,X.env.kindOf x=X.env.scope.names.lookup x:=fun x=>rfl
 have I4:Inv (compCx X scope N cl s3 (upd H2 D (.lst [])) fp (X.pn++pins)) [] (capsσ caps n σ) (upd H2 D (.lst [])) { s3 with heap:=h1 }:=by
  refine comp_inv I3 ok.kind hcl (fun x hx=>hclf (x,.free) (ok.back x hx) rfl) f3 (fun b hb=>by rw [e3];exact Nat.lt_succ_of_lt (hfD b hb)) (by simpa using hns) hkept ?_ (fun j x v e1 e2=>?_)
  ·unfold capsσ
   rw [List.length_append,List.length_map,List.length_replicate,ok.len]
  ·have hj:j<caps.length:=by
    by_cases hj:j<caps.length
    ·exact hj
    ·unfold capsσ at e2
     rw [List.getElem?_append_right (by simpa using hj),List.getElem?_replicate] at e2
     split at e2 <;> cases e2
   unfold capsσ at e2
   rw [List.getElem?_append_left (by simpa using hj),List.getElem?_map,List.getElem?_eq_getElem hj] at e2
   obtain ⟨x',a1,a2,a3⟩:=ok.cap j caps[j] (List.getElem?_eq_getElem hj)
   rw [e1] at a1;cases a1
   have fr:=ok.free (x,.free) (zi5 a3) rfl
   obtain ⟨k,b1,b2⟩:=ok.look x a3
   refine ⟨caps[j],a2,?_,fr,?_,?_⟩
   ·have e2:(σ[caps[j]]?).join=some v:=Option.some.inj e2
    cases hσ:σ[caps[j]]? with
    | none=>rw [hσ] at e2;cases e2
    | some o=>rw [hσ] at e2;exact congrArg some e2
   ·rcases b2 with rfl | rfl
    ·exact .inl b1
    ·exact .inr b1
   ·rcases fr with z | z
    ·exact .inr (.inl z)
    ·exact .inr (.inr z)
 have fpc:∀ {H':Hp},(∀ b∈fp,H' b=none)→∀ b∈fp,FpOk (compCx X scope N cl s3 (upd H2 D (.lst [])) fp (X.pn++pins)) [] H' b:=fun {H'} hn b hb=>by
  obtain ⟨f0,f1,f2',f3',f4,f5⟩:=f3 b hb
  refine ⟨hn b hb,Nat.ne_of_lt (show b<s3.heap.objs.size by rw [e3];exact Nat.lt_succ_of_lt (hfD b hb)),fun z=>?_,.inl hb,fun x c e=>f4 x c (hcl x c e),fun p hp=>f5 p (by have hp:p∈(X.pn++pins)++[]:=hp;rwa [List.append_nil] at hp)⟩
  rcases List.mem_cons.mp (I3.stkSub _ z) with e | e
  ·exact f1 e
  ·exact f2' e
 have st4:tn 0 h1:=T.keep 0 _ _ st2 fun b _ o e=>hkept b o (h23 b o e)
 have loop:∀ s4:Shared,s4={ s3 with heap:=h1 }→codeAny (model X.prog X.w) X.A (.compLoop (.ListComp elt [⟨tg,iter,ifs,0⟩] scope pos) 0 (.ref it) (.ref D) (compEnvC scope cl s3.heap.objs.size X.env))
   (compPost (model X.prog X.w) X.A X.xe (some (assign (.Name y py) X.env)) (fun _ s'=>∃ σ' H',Inv X pins σ' H' s'∧Dn.nx σ' H') (.ref D) s3.heap.objs.size) s4:=by
  rintro s4 rfl
  refine zM3 (fun m s'=>∃ i σ' H' ys,Inv (compCx X scope N cl s3 (upd H2 D (.lst [])) fp (X.pn++pins)) [] σ' H' s'∧tn i s'.heap∧(∀ b∈fp,H' b=none)∧W i m σ' H' ys) ?_ m0 ⟨0,_,_,[],I4,st4,fun b hb=>(f3 b hb).1,w0⟩
  rintro m s5 ⟨i,σ5,H5,ys,I5,st5,fr5,w5⟩
  obtain ⟨hDl,tu⟩:=turn i m σ5 H5 ys w5
  rcases tu with ⟨stop,qn⟩ | ⟨go,hz,step⟩
  ·refine thn (T.done (compCx X scope N cl s3 (upd H2 D (.lst [])) fp (X.pn++pins)) rfl rfl rfl hcalm i [] s5 σ5 H5 (fun _ _=>False) I5 (fpc fr5) st5 stop) fun r s6 h_=>?_
   obtain ⟨hr,I6⟩:=h_
   subst hr
   obtain ⟨mm,hmm,_⟩:=I6.loc
   have IX:Inv X pins σ H5 s6:=zY3 I3 I6 (Heap.SameBut.refl _ _) f3
   refine wpAny_assign_Name (zJ8 IX hN hyi (.inl hyl) (v:=.ref D) (u:=.ref D) rfl (fun s7 I7 ⟨a7,hsb7,ha7⟩=>?_) (.inr hyl))
   have hC3:∀ {o:Obj},s3.heap.get? s3.heap.objs.size=some o→False:=fun e=>absurd (Heap.lt_size e) (Nat.lt_irrefl _)
   have locL:X.env.locals<s3.heap.objs.size:=by
    obtain ⟨m3,⟨o3,_,_,e3',_⟩,_⟩:=I3.loc
    exact Heap.lt_size e3'
   have cellL:∀ {x:Str} {c:Addr},X.env.cells.lookup x=some c→c<s3.heap.objs.size:=fun {x c} e=>by
    obtain ⟨v3,o3,e3',_⟩:=I3.cell x c e
    exact Heap.lt_size e3'
   have hne:s3.heap.objs.size≠a7:=by
    rcases ha7 with z | z
    ·rw [z];exact Nat.ne_of_gt locL
    ·exact Nat.ne_of_gt (cellL z)
   have fr7:H5 s3.heap.objs.size=none:=I6.free
   refine ⟨mm,hmm.sameBut hsb7 hne,fun h' hb'=>⟨_,H5,?_,qn⟩⟩
   have st7:∀ b o,b≠s3.heap.objs.size→s7.heap.get? b=some o→h'.get? b=some o:=fun b o hb e=>(hb'.2 b hb).trans e
   refine I7.call' (s':={ s7 with heap:=h' }) (ch:=[s3.heap.objs.size]) rfl ⟨fun b o e n hb hx=>st7 b o (by simpa using hx) e,fun b o e n hb hx=>⟨o.slots,st7 b o (by simpa using hx) e⟩,fun b o e n hx=>n,fun b o e hx=>⟨o,st7 b o (by simpa using hx) e⟩,fun _ _ e=>e,fun _ _ _ e=>e,fun _ ps e=>⟨#[],by rw [Array.append_empty];exact e⟩⟩ (fun b u e=>?_) I7.bare (fun b hb=>?_)
   ·refine (I7.hok b u e).stay (fun c v hc q=>st7 c v ?_ q) (fun _ q=>q) fun _ _ q=>q
    rintro rfl
    rcases hc with z | z
    ·rw [← z,fr7] at e;cases e
    ·rw [fr7] at z;cases z
   ·have eb:b=s3.heap.objs.size:=by simpa using hb
    subst eb
    refine ⟨.inr (Nat.le_trans I3.ok.above (Nat.le_of_lt locL)),Nat.ne_of_gt locL,fun x c e=>Nat.ne_of_lt (cellL e),fun p hp e=>?_⟩
    have hpin:=(I3.pin p hp).1
    rw [e] at hpin
    exact hC3 hpin
  ·refine thn (T.item (compCx X scope N cl s3 (upd H2 D (.lst [])) fp (X.pn++pins)) rfl rfl rfl hcalm i [] s5 σ5 H5 (fun _ _=>False) I5 (fpc fr5) st5 go) fun r s6 h_=>?_
   obtain ⟨u,hr,h6⟩:=h_
   subst hr
   refine thn h6 fun _ s7 h_=>?_
   obtain ⟨x,H7,I7,r7,y7,st7,fr7⟩:=h_
   have I7':=I7.pinned (fpc fr7) (T.obj _ _ st7)
   refine thn (hg _ _ _ _ _ _ s7 σ5 H7 x u _ I7' r7 (step x H7 y7)) fun _ s8 h_=>?_
   obtain ⟨σ8,H8,I8,q8⟩:=h_
   refine thn (ht _ _ _ _ _ _ s8 σ8 H8 _ I8 q8) fun b s9 h_=>?_
   obtain ⟨H9,I9,q9⟩:=h_
   have pinsK:∀ {σ7:L2.St} {Hx:Hp} {sx:Shared},Inv (compCx X scope N cl s3 (upd H2 D (.lst [])) fp (X.pn++pins)) ([]++pinsAt fp s7.heap) σ7 Hx sx→tn (i+1) sx.heap∧∀ b∈fp,Hx b=none:=fun Ix=>by
    refine ⟨T.keep _ _ _ st7 fun b hb o e=>(Ix.pin (b,o) (List.mem_append_right _ (List.mem_append_right _ (zl8 hb e)))).1,fun b hb=>?_⟩
    obtain ⟨o,e,d⟩:=T.obj _ _ st7 b hb
    exact (Ix.pin (b,o) (List.mem_append_right _ (List.mem_append_right _ (zl8 hb e)))).2.1
   cases b with
   | false =>
    obtain ⟨m',hm,w9⟩:=q9
    exact ⟨m',hm,i+1,σ8,H9,ys,I9.unpinned,(pinsK I9).1,(pinsK I9).2,w9⟩
   | true =>
    refine thn (he _ _ _ _ _ _ s9 σ8 H9 _ I9 q9) fun yv s10 h_=>?_
    obtain ⟨y,H10,I10,r10,hD10,m',hm,w10⟩:=h_
    refine thn (zC1 _ s10 σ8 H10 (.ref D) [y] (.ref D) [yv] (fun v Hx=>v=.non∧Hx=upd H10 D (.lst (ys++[y]))) I10 rfl (.cons r10 .nil) ⟨D,ys,y,rfl,rfl,hD10,hz,rfl,rfl⟩) fun _ s11 h_=>?_
    obtain ⟨_,H11,I11,_,_,e11⟩:=h_
    subst e11
    exact ⟨m',hm,i+1,σ8,_,ys++[y],I11.unpinned,(pinsK I11).1,(pinsK I11).2,w10⟩
 exact codeAny_compStart_list (loop _ rfl) (T.self _ 0 _ _ _ st4 (loop _ rfl))
end
section
variable {X:Cx} {C:CallF} {W:Nat} {elt iter tg:Expr} {ifs:List Expr} {ielt:E} {it:It} {t:Tg} {scope:Scope} {pos:Pos} {N:List Str} {caps:List Nat} {n:Nat}
theorem ss_setC {i:Nat} {y:Str} {py spos:Pos} {cond:Option E} (hN:X.N.Nodup) (hyi:X.N[i]?=some y) (hyl:X.env.scope.names.lookup y=some .local) (hcalm:X.calm=true) (ok:CompOk X scope N caps n) (hi:SI X C tg iter it)
  (hg:∀ cl s₀ H₀ ex pn,SG (compCx X scope N cl s₀ H₀ ex pn) tg t) (ht:∀ cl s₀ H₀ ex pn,PTs (compCx X scope N cl s₀ H₀ ex pn) ifs (tTs X.K C cond)) (he:∀ cl s₀ H₀ ex pn,SE (compCx X scope N cl s₀ H₀ ex pn) C elt ielt)
  (hs:∀ x,foldedSetIterable iter X.env x=pure x) (hsw:swapsWith (.ListComp elt [⟨tg,iter,ifs,0⟩] scope pos) (some (.Name y py)) spos.line X.env=pure true) :
  SS X C W (.Assign [.Name y py] (.ListComp elt [⟨tg,iter,ifs,0⟩] scope pos) spos) (.set i (.comp false ielt t it cond caps n)) :=
 PS.mono (ps_setC (g:=tG X.K t) (te:=tP X.K C ielt) hN hyi hyl hcalm ok hi hg ht he hs hsw) fun D σ H h_=>by
  obtain ⟨env,α,st,fl,st',at',e,q⟩:=h_
  rw [ex_set] at e
  obtain ⟨v,st1,e1,e⟩:=Res.bind_inv e
  cases e
  exact zN1 ⟨env,α,st,v,st',at',e1,fun w H1 α1 x1 r1 v1=>q _ H1 α1 x1 ((at'.next x1 r1).set v1)⟩
end
open PySem L2 PySem.SeqAt PyProof.Rows
theorem move_rst {K:PySem.W.Frag} {α1 α2:Al} {st1 st':Store} {H1 H2:Hp} {D:Addr} {ys:List V} {zs:List PV} (lk:Lk K α1 st1 H1 α2 st' H2) (r2:RSt K α2 st' H2) (hrs:α2.rsv=(α1.hold D).rsv) (nD:¬ α1.rsv D) (hDl:H2 D=some (.lst ys)) (rps:RPs K H2 (Live α2 st') zs ys) :
  Ext K α1 st1 H1 ((α2.as α1.rsv).add D) (st'++[.lst zs]) H2∧RSt K ((α2.as α1.rsv).add D) (st'++[.lst zs]) H2:=by
 have hrD:α2.rsv D:=by rw [hrs];exact .inl rfl
 have sub1:∀ a,α1.rsv a→α2.rsv a:=lk.sub
 have rB:=r2.as sub1
 have lv:∀ {a:Addr},Live ((α2.as α1.rsv).add D) (st'++[.lst zs]) a→Live α2 st' a:=fun {a} h=>by
  rcases zI9 rB.len h with e | e
  ·subst e;exact .inl hrD
  ·exact zy2 sub1 e
 have ml:∀ a vs,SqL K H2 a vs→¬ Live α2 st' a→SqL K H2 a vs∧¬ Live ((α2.as α1.rsv).add D) (st'++[.lst zs]) a:=fun a vs h nn=>⟨h,fun l=>nn (lv l)⟩
 have old:∀ {n:Nat} {a:Addr},α2.adr[n]?=some a→((α2.as α1.rsv).add D).adr[n]?=some a:=fun {n a} h=>by
  show (α2.adr++[D])[n]?=some a
  rw [List.getElem?_append_left (List.getElem?_eq_some_iff.mp h).1]
  exact h
 have new:((α2.as α1.rsv).add D).adr[st'.length]?=some D:=zL8 rB
 have dead:∀ {n:Nat} {x:PObj},α2.adr[n]?=some D→objAt st' n=some x→x=.dead:=fun {n x} h1 h2=>by
  by_cases hx:x=.dead
  ·exact hx
  ·exact absurd hrD (r2.dis n D x h1 h2 hx)
 refine ⟨⟨fun n a h=>old (lk.pre n a h),lk.tup,fun a vs h nn=>let ⟨h1,n1⟩:=lk.lst a vs h nn;ml a vs h1 n1,rfl,lk.raw⟩,?_,fun n xs h=>?_,fun n kvs h=>?_,fun n m a x x' hne h1 h2 h3 h4=>?_,fun a h=>r2.nk a (lv h),fun n a x h1 h2 h3 h4=>?_,fun a ha=>r2.rsv a (sub1 a ha)⟩
 ·show (α2.adr++[D]).length=(st'++[PObj.lst zs]).length
  rw [List.length_append,List.length_append,r2.len]
  rfl
 ·rcases zg1 h with ⟨_,h⟩ | ⟨rfl,e⟩
  ·obtain ⟨a,vs,e1,e2,e3⟩:=r2.lst n xs h
   exact ⟨a,vs,old e1,e2,RPs.mono (fun _ _ h=>h) ml _ _ e3⟩
  ·cases e
   exact ⟨D,ys,new,hDl,RPs.mono (fun _ _ h=>h) ml _ _ rps⟩
 ·rcases zg1 h with ⟨_,h⟩ | ⟨_,e⟩
  ·obtain ⟨a,vs,e1,e2,e3⟩:=r2.dct n kvs h
   exact ⟨a,vs,old e1,e2,RKV.mono (fun _ _ h=>h) ml _ _ e3⟩
  ·cases e
 ·have ll:=r2.len
  have h1:(α2.adr++[D])[n]?=some a:=h1
  have h2:(α2.adr++[D])[m]?=some a:=h2
  rcases zl1 h1 with ⟨a1,b1⟩ | ⟨a1,c1⟩
  ·rcases zg1 h3 with ⟨_,h3⟩ | ⟨z,_⟩
   ·rcases zl1 h2 with ⟨a2,b2⟩ | ⟨a2,c2⟩
    ·rcases zg1 h4 with ⟨_,h4⟩ | ⟨z,_⟩
     ·exact r2.inj n m a x x' hne b1 b2 h3 h4
     ·lia
    ·subst c2;exact .inl (dead b1 h3)
   ·lia
  ·rcases zl1 h2 with ⟨a2,b2⟩ | ⟨a2,_⟩
   ·rcases zg1 h4 with ⟨_,h4⟩ | ⟨z,_⟩
    ·subst c1;exact .inr (dead b2 h4)
    ·lia
   ·lia
 ·have ll:=r2.len
  have h1:(α2.adr++[D])[n]?=some a:=h1
  rcases zl1 h1 with ⟨a1,b1⟩ | ⟨a1,c1⟩
  ·rcases zg1 h2 with ⟨_,h2⟩ | ⟨z,_⟩
   ·exact r2.dis n a x b1 h2 h3 (sub1 a h4)
   ·lia
  ·subst c1;exact nD h4
section
variable {X:Cx} {C:CallF} {W:Nat} {elt iter tg:Expr} {ifs:List Expr} {ielt:E} {it:It} {t:Tg} {scope:Scope} {pos:Pos} {N:List Str} {caps:List Nat} {n:Nat}
theorem zW6 {cond:Option E} {σ:L2.St} {H:Hp} {Q:VK} (h:tP X.K C (.thaw (.comp false ielt t it cond caps n)) σ H Q):tComp X.K caps n (tI X.K C it) (tG X.K t) (tTs X.K C cond) (tP X.K C ielt) σ H Q:=by
 obtain ⟨env,α,st,v,st',at',e,q⟩:=h
 rw [ev_thaw,ev_comp] at e
 obtain ⟨x,st0,e0,e⟩:=Res.bindP_inv e
 obtain ⟨⟨xs,src⟩,st1,e1,e0⟩:=Res.bind_inv e0
 obtain ⟨zs,st2,e2,e0⟩:=Res.bind_inv e0
 simp only [mk,Bool.false_eq_true,if_false] at e0
 cases e0
 cases e
 refine zS8 at' e1 e2 fun D ys α1 st1 H1 α2 H2 x1 lk r2 hrs nD hDl rps=>?_
 obtain ⟨a,b⟩:=move_rst lk r2 hrs nD hDl rps
 exact q _ H2 _ (x1.trans a) b ⟨D,rfl,zL8 (r2.as lk.sub)⟩
theorem ss_setCM {i:Nat} {y:Str} {py spos:Pos} {cond:Option E} (hN:X.N.Nodup) (hyi:X.N[i]?=some y) (hyl:X.env.scope.names.lookup y=some .local) (hcalm:X.calm=true) (ok:CompOk X scope N caps n) (hi:SI X C tg iter it)
  (hg:∀ cl s₀ H₀ ex pn,SG (compCx X scope N cl s₀ H₀ ex pn) tg t) (ht:∀ cl s₀ H₀ ex pn,PTs (compCx X scope N cl s₀ H₀ ex pn) ifs (tTs X.K C cond)) (he:∀ cl s₀ H₀ ex pn,SE (compCx X scope N cl s₀ H₀ ex pn) C elt ielt)
  (hs:∀ x,foldedSetIterable iter X.env x=pure x) (hsw:swapsWith (.ListComp elt [⟨tg,iter,ifs,0⟩] scope pos) (some (.Name y py)) spos.line X.env=pure true) :
  SS X C W (.Assign [.Name y py] (.ListComp elt [⟨tg,iter,ifs,0⟩] scope pos) spos) (.set i (.thaw (.comp false ielt t it cond caps n))) :=
 PS.mono (ps_setC (g:=tG X.K t) (te:=tP X.K C ielt) hN hyi hyl hcalm ok hi hg ht he hs hsw) fun D σ H h_=>by
  obtain ⟨env,α,st,fl,st',at',e,q⟩:=h_
  rw [ex_set] at e
  obtain ⟨v,st1,e1,e⟩:=Res.bind_inv e
  cases e
  exact zW6 ⟨env,α,st,v,st',at',e1,fun w H1 α1 x1 r1 v1=>q _ H1 α1 x1 ((at'.next x1 r1).set v1)⟩
end
open PySem L2 PySem.SeqAt PyProof.Rows
section
variable {X:Cx}
theorem g_extend (v:Val) (vs:List Val) (st:Store):methN .extend v vs st=(match views st vs with | some xs=>onRef v st (gExtend xs) | none=>.stuck):=by
 show (match views st vs with | some xs=>methOp .extend v xs st | none=>.stuck)=_
 cases views st vs <;> rfl
theorem ins_inv {xs l:List PV} {p:PV×List PV} (h:gInsert xs l=some p):∃ i y,xs=[.int i,y]:=by
 match xs with
 | [.int i,y]=>exact ⟨i,y,rfl⟩
 | []=>cases h
 | [.non]=>cases h
 | [.bl _]=>cases h
 | [.int _]=>cases h
 | [.str _]=>cases h
 | [.tup _]=>cases h
 | [.lst _]=>cases h
 | .non::_::_=>cases h
 | .bl _::_::_=>cases h
 | .str _::_::_=>cases h
 | .tup _::_::_=>cases h
 | .lst _::_::_=>cases h
 | .int _::_::_::_=>cases h
theorem l_insert:MtK X "list.insert" gInsert:=by
 rintro pins s σ H x ws v us Q I rx rs ⟨α,st,a,l,vs,xs,z,l',r,e,hH,hl,hx,hg,q⟩
 subst e
 obtain rfl:=(show v=Value.ref a from rx)
 obtain ⟨z1,its,n,r1,hl1,e1⟩:=I.lstM hH
 have ll:=hl.length
 obtain ⟨i,y,rfl⟩:=ins_inv hg
 have hg:(if 0≤i∧i≤(l.length:Int)∧l.length<SZ then some (PV.non,l.take i.toNat++y::l.drop i.toNat) else none)=some (z,l'):=hg
 by_cases hc:0≤i∧i≤(l.length:Int)∧l.length<SZ
 ·rw [if_pos hc] at hg
  have hg:=Option.some.inj hg
  have ez:PV.non=z:=congrArg Prod.fst hg
  have el:l.take i.toNat++y::l.drop i.toNat=l':=congrArg Prod.snd hg
  rw [zG2] at hc
  have hsl:sizeLine=16777216:=by decide
  rw [RPs] at hx
  obtain ⟨w1,wr,rfl,h1,hx⟩:=hx
  rw [RPs] at hx
  obtain ⟨w2,wr2,rfl,h2,hx⟩:=hx
  rw [RPs] at hx
  subst hx
  rw [RP] at h1
  subst h1
  cases rs with
  | cons ra rt =>
   cases rt with
   | cons rb rt =>
    cases rt
    obtain ⟨t1,rfl⟩:=ra
    rename_i u2
    refine PySem.call_meets PySem.F.slot_list_insert ⟨_,e1,rfl⟩ PySem.F.entry_list_insert (PySem.F.args_list_insert_3 _ _ _) (AutoListH.list_insert_list_int_val_1 a its.toArray n i t1 u2 (by simp [Builtin.List.listFitsIndex];lia) (by rw [List.size_toArray];lia)) ⟨e1,?_⟩
    refine ⟨.non,_,I.lset (its':=its.take i.toNat++u2::its.drop i.toNat) (ys:=vs.take i.toNat++w2::vs.drop i.toNat) hH e1 ?_ ?_ ?_,rfl,q _ _ (by rw [← ez,RP]) ?_⟩
    ·dsimp only
     have hk:(if i<0 then (i+((its.toArray.size:Nat):Int)).toNat else min i.toNat its.toArray.size)=i.toNat:=by
      rw [if_neg (by lia),List.size_toArray];lia
     rw [hk]
     apply Array.ext'
     simp
     exact List.take_of_length_le (by simp)
    ·exact (r1.take i.toNat).append (.cons rb (r1.drop i.toNat))
    ·rw [List.length_append,List.length_cons,List.length_take,List.length_drop];lia
    ·rw [← el]
     refine (hl.take i.toNat).append ?_
     rw [RPs]
     exact ⟨w2,_,rfl,h2,hl.drop i.toNat⟩
 ·rw [if_neg hc] at hg;cases hg
theorem g_insert (v:Val) (vs:List Val) (st:Store):methN .insert v vs st=(match purs vs with | some xs=>onRef v st (gInsert xs) | none=>.stuck):=by
 show (match purs vs with | some xs=>methOp .insert v xs st | none=>.stuck)=_
 cases purs vs <;> rfl
end
open PySem L2 PySem.SeqAt PyProof.Rows
section
variable {X:Cx} {C:CallF} {a b c:Expr} {ia ib ic:E} {pos:Pos}
theorem se_neg (ha:SE X C a ia):SE X C (.UnaryOp .USub a pos) (.neg ia) :=
 PE.mono (pe_un un_neg ha) fun σ H Q h_=>by
  obtain ⟨env,α,st,v,st',at',e,q⟩:=h_
  rw [ev_neg] at e
  obtain ⟨va,x,st1,e1,hv,e⟩:=Res.bindV_inv e
  obtain ⟨z,h1,h2,h3⟩:=zq7 e
  subst h2 h3
  refine ⟨env,α,st,va,st',at',e1,fun w H1 α1 x1 r1 v1=>?_⟩
  cases x with
  | int i =>
   cases h1
   exact ⟨i,(v1.view r1 hv).int,q _ H1 α1 x1 r1 (by show RP X.K H1 (Live α1 st') (.int (-i)) (.int (-i));rw [RP])⟩
  | _=>cases h1
end
open PySem L2 PySem.SeqAt PyProof.Rows
section
variable {prog:Program} {w:World} {A:Around} {E:Value→Shared→Prop} {s:Shared}
end
section
variable {X:Cx} {C:CallF} {e:Expr} {ie:E} {pos p2 p3 p4:Pos}
end
open PySem L2 PySem.SeqAt PyProof.Rows
theorem wp_find {M:Model} {A:Around} {E:Value→Shared→Prop} {s:Shared} {n j:Nat} {β:Type} {b0:β} {f:Nat→β→Sem (ForInStep β)} {Q:β→Shared→Prop} (hj:j<n)
  (skip:∀ i,i<j→∀ P:ForInStep β→Shared→Prop,P (.yield b0) s→wpAny M A (f i b0) P E s) (hit:wpAny M A (f j b0) (fun r s'=>match r with | .done b=>Q b s' | .yield _=>False) E s):wpAny M A (forIn [:n] b0 f) Q E s:=by
 rw [Std.Legacy.Range.forIn_eq_forIn_range']
 have key:∀ (m i:Nat),i+m=n→i≤j→wpAny M A (forIn (List.range' i m) b0 f) Q E s:=by
  intro m
  induction m with
  | zero=>intro i h1 h2;lia
  | succ m ih =>
   intro i h1 h2
   rw [List.range'_succ,List.forIn_cons]
   by_cases hi:i=j
   ·subst hi
    refine wpAny_bind (wpAny_mono hit (fun r s' h=>?_) fun _ _ h=>h)
    cases r with
    | done b=>exact wpAny_pure h
    | yield b=>exact h.elim
   ·exact wpAny_bind (skip i (by lia) _ (ih (i+1) (by lia) (by lia)))
 simpa using key n 0 (by lia) (by lia)
theorem zH1 (l:Addr) (items:Array Value) (n:Nat) (dd:Option Addr) (sl:Array (Option Value)) (x:Value) (e:Value→Bool) (j:Nat) (hj:j<items.size)
  (hit:e items[j]=true) (hno:∀ m (hm:m<items.size),m<j→e items[m]=false) :
  Meets (Builtin.«tuple.index» ⟨[.ref l,x],[]⟩) (fun A R s=>s.heap.get? l=some { cls:=.type "tuple", dict:=dd,data:=.seq items n,slots:=sl }∧(∀ y,y∈items→EqAt A.in1 s y x (e y)) ∧
   R (.ok (.ret (.int j s.toks))) { s with toks:=s.toks+1 }) :=
 .of_wp fun prog w A R s h=>by
  obtain ⟨hp,g,d,tk,os⟩:=s
  obtain ⟨hl,he,hR⟩:=h
  have hj2:j<min items.size items.size:=by lia
  wp_walk using AutoSeq1.wpAny_loadPart' hl,wp_find hj2
  ·intro i hi P hP
   have hlt:i<items.size:=by lia
   rw [Array.getElem?_eq_getElem hlt]
   refine wpAny_bind (he _ (Array.getElem_mem hlt) prog w _ _ ?_)
   rw [hno i hlt hi]
   exact wpAny_pure hP
  ·rw [Array.getElem?_eq_getElem hj]
   refine wpAny_bind (he _ (Array.getElem_mem hj) prog w _ _ ?_)
   rw [hit]
   wp_walk
   exact ⟨_,rfl,hR⟩
section
variable {X:Cx} {C:CallF} {o e:Expr} {io ie:E} {apos cpos:Pos} {pins:List (Addr×Obj)} {s:Shared} {σ:L2.St} {H:Hp}
theorem seq_eqs {α:Al} {st:Store} {px:PV} {x:V} {v:Value} (I:Inv X pins σ H s) (hx:RW X.K α st H px x) (rx:RelV x v) (A:Around) (hu:A.units+102<cLine) {xs:List PV} {vs:List V} {its:List Value}
  (h:RPs X.K H (Live α st) xs vs) (r1:Vals vs its) (hd:depOk (dep px) (deps xs)=true) :
  ∃ f:Value→Bool,(∀ u,u∈its.toArray→EqAt A s u v (f u))∧∀ (j:Nat) (hj:j<its.length) y,xs[j]?=some y→f its[j]=pyEq y px:=by
 have hd':dep px≤100∨deps xs≤100:=by simpa [depOk] using hd
 classical
 have l1:=h.length
 have l2:=r1.length
 have val:∀ (j:Nat) (hj:j<its.length),∃ y,xs[j]?=some y∧EqAt A s its[j] v (pyEq y px)∧∃ w,RP X.K H (Live α st) y w∧RelV w its[j]:=fun j hj=>by
  obtain ⟨y,w,a1,a2,a3,a4⟩:=h.at r1 hj
  have da:=zD2 a1
  exact ⟨y,a1,(eq_at I 100 y px w x its[j] v A (.inl a3) hx a4 rx (by lia) (by lia)).2,w,a3,a4⟩
 have same:∀ (j k:Nat) (hj:j<its.length) (hk:k<its.length) y z,its[j]=its[k]→xs[j]?=some y→xs[k]?=some z→y=z:=fun j k hj hk y z e b1 b2=>by
  obtain ⟨y',c1,_,w1,c3,c4⟩:=val j hj
  obtain ⟨z',d1,_,w2,d3,d4⟩:=val k hk
  rw [b1] at c1;cases c1
  rw [b2] at d1;cases d1
  rw [e] at c4
  have:=c4.inj d4
  subst this
  exact RP.inj I y z _ c3 d3
 have go:∀ (j:Nat) (hj:j<its.length) y,xs[j]?=some y→decide (∃ (k:Nat) (y:PV),its[k]?=some its[j]∧xs[k]?=some y∧pyEq y px=true)=pyEq y px:=fun j hj y b=>by
  rw [Bool.eq_iff_iff,decide_eq_true_eq]
  constructor
  ·rintro ⟨k,y',b1,b2,b3⟩
   obtain ⟨hk,b1⟩:=List.getElem?_eq_some_iff.mp b1
   rw [same j k hj hk y y' b1.symm b b2]
   exact b3
  ·intro hp
   exact ⟨j,y,List.getElem?_eq_getElem hj,b,hp⟩
 refine ⟨fun u=>decide (∃ (k:Nat) (y:PV),its[k]?=some u∧xs[k]?=some y∧pyEq y px=true),fun u hw=>?_,go⟩
 have hw':u∈its:=by simpa using hw
 obtain ⟨j,hj,rfl⟩:=List.getElem_of_mem hw'
 obtain ⟨y,a1,a2,_⟩:=val j hj
 dsimp only
 rw [go j hj y a1]
 exact a2
theorem zq8 {x:PV}:∀ {xs:List PV} {k:Nat},indexIn x xs=some k→(∃ y,xs[k]?=some y∧pyEq y x=true)∧∀ (m:Nat) y,m<k→xs[m]?=some y→pyEq y x=false
 | [],k,h=>by cases h
 | y::r,k,h=>by
  rw [indexIn] at h
  by_cases hy:pyEq y x=true
  ·rw [if_pos hy] at h
   cases h
   exact ⟨⟨y,rfl,hy⟩,fun m z hm=>absurd hm (by lia)⟩
  ·rw [if_neg hy] at h
   obtain ⟨k',e1,rfl⟩:=Option.map_eq_some_iff.mp h
   obtain ⟨⟨z,b1,b2⟩,b3⟩:=zq8 e1
   refine ⟨⟨z,by simpa using b1,b2⟩,fun m u hm hu=>?_⟩
   cases m with
   | zero=>simp at hu;subst hu;simpa using hy
   | succ m=>exact b3 m u (by lia) (by simpa using hu)
theorem zF6 {x z:PV} {xs:List PV} (h:ixFind x xs=some z):∃ k,indexIn x xs=some k∧depOk (dep x) (deps xs)=true∧z=.int (k:Int):=by
 unfold ixFind at h
 split at h
 ·rename_i hd
  cases hi:indexIn x xs with
  | none=>rw [hi] at h;cases h
  | some k=>rw [hi] at h;cases h;exact ⟨k,rfl,hd,rfl⟩
 ·cases h
theorem tup_is {a:Addr} {xs:List V} (I:Inv X pins σ H s) (h:SqT X.K H a xs):∃ (its:List Value) (n:Nat) (sl:Array (Option Value)),Vals xs its∧xs.length≤sizeLine∧s.heap.get? a=some { cls:=.type "tuple", dict:=none,data:=.seq its.toArray n,slots:=sl }:=by
 rcases h with h | ⟨ob,its,n,hk,hc,hd,hs,hz,r⟩
 ·obtain ⟨z,its,r,ob,p1,p2,p3,n,p4⟩:=h.ok I.hok
  obtain ⟨c1,c2,c3,c4⟩:=ob
  simp only at p2 p3 p4
  subst p2 p3 p4
  exact ⟨its,n,c4,r,z,p1⟩
 ·obtain ⟨c1,c2,c3,c4⟩:=ob
  simp only at hc hd hs
  subst hc hd hs
  refine ⟨its.toList,n,c4,r,?_,I.kIn a _ hk⟩
  have e:=r.length
  simp only [Array.length_toList] at e
  lia
theorem zR7 {α:Al} {st:Store} {x:V} {v u:Value} {px z:PV} {l:List PV} {a:Addr} {vs:List V} {Q:VK} (I:Inv X pins σ H s) (r:RSt X.K α st H) (hu:X.A.units+200<cLine) (h1:SqL X.K H a vs) (h2:RPs X.K H (Live α st) l vs) (hx:RW X.K α st H px x) (rx:RelV x u)
  (hz:ixFind px l=some z) (q:∀ w H',Same H H'→RP X.K H' (Live α st) z w→Q w H'):wpAny (model X.prog X.w) X.A (call (.builtin "list.index") [.ref a,u]) (EP X pins σ Q) X.xe s:=by
 obtain ⟨k,e1,e2,rfl⟩:=zF6 hz
 obtain ⟨⟨y,b1,b2⟩,b3⟩:=zq8 e1
 obtain ⟨its,r1,p1,hzl⟩:=I.list h1
 obtain ⟨⟨cls,dd,data,sl⟩,nn,ho,hc,_,hd⟩:=id p1
 simp only at hc hd
 subst hc hd
 obtain ⟨f,f1,f2⟩:=seq_eqs I hx rx X.A.in1 (by show X.A.units+1+102<cLine;lia) h2 r1 e2
 have l1:=h2.length
 have l2:=r1.length
 have hkl:k<its.length:=by rw [← l2,← l1];exact (List.getElem?_eq_some_iff.mp b1).1
 have hsl:sizeLine=16777216:=by decide
 refine call_meets F.slot_list_index ⟨_,ho,rfl⟩ F.entry_list_index (F.args_list_index_2 _ _) (list_indexAt a its.toArray nn dd sl u f k (by simpa using hkl) (by lia) (by simpa [f2 k hkl y b1] using b2) fun m hm hmk=>?_) ⟨ho,f1,?_⟩
 ·have hml:m<its.length:=by simpa using hm
  obtain ⟨y',hy'⟩:∃ y',l[m]?=some y':=⟨_,List.getElem?_eq_getElem (by lia)⟩
  simpa [f2 m hml y' hy'] using b3 m y' hmk hy'
 ·exact ⟨.int _,H,I.tok _,⟨_,rfl⟩,q _ _ (Same.refl H) (by rw [RP])⟩
theorem idx_tuple {α:Al} {st:Store} {x:V} {v u:Value} {px z:PV} {l:List PV} {a:Addr} {vs:List V} {Q:VK} (I:Inv X pins σ H s) (r:RSt X.K α st H) (hu:X.A.units+200<cLine) (h1:SqT X.K H a vs) (h2:RPs X.K H (Live α st) l vs) (hx:RW X.K α st H px x) (rx:RelV x u)
  (hz:ixFind px l=some z) (q:∀ w H',Same H H'→RP X.K H' (Live α st) z w→Q w H'):wpAny (model X.prog X.w) X.A (call (.builtin "tuple.index") [.ref a,u]) (EP X pins σ Q) X.xe s:=by
 obtain ⟨k,e1,e2,rfl⟩:=zF6 hz
 obtain ⟨⟨y,b1,b2⟩,b3⟩:=zq8 e1
 obtain ⟨its,nn,sl,r1,hzl,ho⟩:=tup_is I h1
 obtain ⟨f,f1,f2⟩:=seq_eqs I hx rx X.A.in1 (by show X.A.units+1+102<cLine;lia) h2 r1 e2
 have l1:=h2.length
 have l2:=r1.length
 have hkl:k<its.length:=by rw [← l2,← l1];exact (List.getElem?_eq_some_iff.mp b1).1
 refine call_meets F.slot_tuple_index ⟨_,ho,rfl⟩ F.entry_tuple_index (F.args_tuple_index_2 _ _) (zH1 a its.toArray nn none sl u f k (by simpa using hkl) (by simpa [f2 k hkl y b1] using b2) fun m hm hmk=>?_) ⟨ho,f1,?_⟩
 ·have hml:m<its.length:=by simpa using hm
  obtain ⟨y',hy'⟩:∃ y',l[m]?=some y':=⟨_,List.getElem?_eq_getElem (by lia)⟩
  simpa [f2 m hml y' hy'] using b3 m y' hmk hy'
 ·exact ⟨.int _,H,I.tok _,⟨_,rfl⟩,q _ _ (Same.refl H) (by rw [RP])⟩
theorem se_index (hu:X.A.units+200<cLine) (ho:SE X C o io) (ha:SA X C [e] [ie])
  (hbase:attributeBase o "index" X.env (eval o X.env)=eval o X.env)
  (hfew:((backTo cpos (starEach [e] X.env)).all (fun x=>!x.1)&&(backToKw cpos (keywordEach [] X.env)).all (fun x=>x.1.isSome)
   && decide ([e].length+([]:List Keyword).length+(if ([]:List Keyword).isEmpty then 0 else 1)<30))=true)
  (hline:(apos.endLine==cpos.line)=true) (hs:starEach [e] X.env=(false,eval e X.env)::starEach [] X.env) (hplain:(backTo cpos (starEach [] X.env)).any (·.1)=false) :
  SE X C (.Call (.Attribute o "index" apos) [e] [] cpos) (.meth .index io [ie]):=by
 intro pins s σ H Q I h
 obtain ⟨env,α,st,v,st',at',ev,q⟩:=h
 rw [ev_meth] at ev
 obtain ⟨ov,st1,e1,ev⟩:=Res.bind_inv ev
 obtain ⟨_,st0,e0,ev⟩:=Res.bind_inv ev
 obtain ⟨⟨x0,hv0⟩,hst⟩:=zG5 e0
 rw [hst] at ev
 obtain ⟨vs,st2,e2,ev⟩:=Res.bind_inv ev
 have ev:(match views st2 vs with | some xs=>methOp .index ov xs st2 | none=>.stuck)=Res.ok v st':=ev
 cases hv:views st2 vs with
 | none=>rw [hv] at ev;cases ev
 | some xs =>
  rw [hv] at ev
  have ev:(match view st2 ov with | some y=>okO (mIndex y xs) st2 | none=>.stuck)=Res.ok v st':=ev
  cases hx:view st2 ov with
  | none=>rw [hx] at ev;cases ev
  | some y =>
   rw [hx] at ev
   obtain ⟨z,h1,h2,h3⟩:=zq7 ev
   subst h2 h3
   refine wpAny_Call_method_late hbase hfew hline rfl (thn (ho pins s σ H (fun w H1=>∃ α1,Ext X.K α st H α1 st1 H1∧RSt X.K α1 st1 H1∧RV X.K α1 st1 H1 ov w) I ⟨env,α,st,ov,st1,at',e1,fun w H1 α1 x1 r1 v1=>⟨α1,x1,r1,v1⟩⟩) fun vv s1 h_=>?_)
   obtain ⟨w,H1,I1,rw1,α1,x1,r1,v1⟩:=h_
   have fin:∀ (T id:String),PlainAttrs T→Slot T "index" id→typeOf (.builtin id)=pure (.type "method_descriptor")→s1.TypeIs vv T→(∀ a,vv=.ref a→∃ ob,s1.heap.get? a=some ob∧ob.dict=none) →
     (∀ (s2:Shared) (H2:Hp) (α2:Al) (us:List Value) (ws:List V),Inv X pins σ H2 s2→Vals ws us→Ext X.K α1 st1 H1 α2 st' H2→RSt X.K α2 st' H2→Paired (RV X.K α2 st' H2) vs ws→wpAny (model X.prog X.w) X.A (call (.builtin id) (vv::us)) (EP X pins σ Q) X.xe s2) →
     MethodOn X.prog X.w X.A "index" cpos vv (backTo cpos (starEach [e] X.env)) (EP X pins σ Q) X.xe s1:=by
    intro T id pa slot hty t1 t2 go
    refine ⟨T,id,pa,slot,hty,t1,t2,?_⟩
    have hA:=ha cpos pins s1 σ H1 (fun ws H2=>∃ α2,Ext X.K α1 st1 H1 α2 st' H2∧RSt X.K α2 st' H2∧Paired (RV X.K α2 st' H2) vs ws) I1 ⟨env,α1,st1,vs,st',at'.next x1 r1,e2,fun ws H2 α2 x2 r2 pr=>⟨α2,x2,r2,pr⟩⟩
    rw [hs] at hA ⊢
    refine Calls.callWith_builtin (by show (false || (backTo cpos (starEach [] X.env)).any (·.1))=false;rw [hplain] <;> rfl) (Calls.evalArgs_plain ?_)
    exact thn hA fun us s2 ⟨ws,H2,I2,r2,α2,x2,rr2,pr⟩=>go s2 H2 α2 us ws I2 r2 x2 rr2 pr
   have one:∀ {α2:Al} {H2:Hp} {us:List Value} {ws:List V},RSt X.K α2 st' H2→Paired (RV X.K α2 st' H2) vs ws→Vals ws us→∀ {l:List PV},mIndex y xs=some z→(y=.lst l∨y=.tup l)→∃ px w u,us=[u]∧RW X.K α2 st' H2 px w∧RelV w u∧ixFind px l=some z:=by
    intro α2 H2 us ws r2 pr rv l hm hl
    have pw:=zH5 r2 pr hv
    cases pw with
    | nil=>rcases hl with rfl | rfl <;> cases hm
    | cons hp t =>
     cases t with
     | cons _ _=>rcases hl with rfl | rfl <;> cases hm
     | nil =>
      cases rv with
      | cons ra rt =>
       cases rt
       exact ⟨_,_,_,rfl,hp,ra,by rcases hl with rfl | rfl <;> exact hm⟩
   cases ov with
   | ref n =>
    obtain ⟨a,rfl,ha1⟩:=v1
    obtain rfl:=(show _=Value.ref a from rw1)
    have ho1:∃ l1,objAt st1 n=some (.lst l1):=by
     have hv0:(match objAt st1 n with | some (.lst xs)=>some (PV.lst xs) | _=>none)=some x0:=hv0
     cases ho:objAt st1 n with
     | none=>rw [ho] at hv0;cases hv0
     | some ob=>rw [ho] at hv0;cases ob <;> first | exact ⟨_,rfl⟩ | cases hv0
    have ho2:∃ l2,objAt st' n=some (.lst l2)∧y=.lst l2:=by
     have hx:(match objAt st' n with | some (.lst xs)=>some (PV.lst xs) | _=>none)=some y:=hx
     cases ho:objAt st' n with
     | none=>rw [ho] at hx;cases hx
     | some ob=>rw [ho] at hx;cases ob <;> first | (cases hx;exact ⟨_,rfl,rfl⟩) | cases hx
    obtain ⟨l1,ho1⟩:=ho1
    obtain ⟨l2,ho2,rfl⟩:=ho2
    obtain ⟨a',vs1,c1,c2,c3⟩:=r1.lst n l1 ho1
    rw [ha1] at c1;cases c1
    obtain ⟨t1,t2⟩:=zS0 (T := "list") I1 (show L2.RelV (.ref a) (.ref a) from rfl) (show tyV X.K "list" (.ref a) H1 from .inl ⟨rfl,vs1,SqL.of c2⟩)
    refine fin "list" "list.index" F.plainAttrs_list F.slot_list_index F.type_list_index t1 t2 fun s2 H2 α2 us ws I2 rv x2 r2 pr=>?_
    obtain ⟨px,w,u,rfl,hp,ra,hz⟩:=one r2 pr rv (l:=l2) h1 (.inl rfl)
    obtain ⟨a2,vs2,d1,d2,d3⟩:=r2.lst n l2 ho2
    rw [x2.pre n a ha1] at d1;cases d1
    exact zR7 (v:=.ref a) I2 r2 hu (SqL.of d2) d3 hp ra hz fun w H3 s3 rp=>q w H3 α2 (x1.trans (x2.trans (.of_same r2 s3))) (r2.same s3) rp
   | p x =>
    have hxy:y=x:=by cases hx;rfl
    subst hxy
    cases y with
    | lst l =>
     have v1:RP X.K H1 (Live α1 st1) (.lst l) w:=v1
     have v1':=v1
     rw [RP] at v1'
     obtain ⟨a,vs1,rfl,c1,_,c3⟩:=v1'
     obtain rfl:=(show _=Value.ref a from rw1)
     obtain ⟨t1,t2⟩:=zS0 (T := "list") I1 (show L2.RelV (.ref a) (.ref a) from rfl) (show tyV X.K "list" (.ref a) H1 from .inl ⟨rfl,vs1,c1⟩)
     refine fin "list" "list.index" F.plainAttrs_list F.slot_list_index F.type_list_index t1 t2 fun s2 H2 α2 us ws I2 rv x2 r2 pr=>?_
     obtain ⟨px,w,u,rfl,hp,ra,hz⟩:=one r2 pr rv (l:=l) h1 (.inl rfl)
     have v2:=x2.rp v1
     rw [RP] at v2
     obtain ⟨a2,vs2,e',d1,_,d3⟩:=v2
     cases e'
     exact zR7 (v:=.ref a) I2 r2 hu d1 d3 hp ra hz fun w H3 s3 rp=>q w H3 α2 (x1.trans (x2.trans (.of_same r2 s3))) (r2.same s3) rp
    | tup l =>
     have v1:RP X.K H1 (Live α1 st1) (.tup l) w:=v1
     have v1':=v1
     rw [RP] at v1'
     obtain ⟨a,vs1,rfl,c1,c3⟩:=v1'
     obtain rfl:=(show _=Value.ref a from rw1)
     obtain ⟨its,nn,sl,_,_,hob⟩:=tup_is I1 c1
     refine fin "tuple" "tuple.index" F.plainAttrs_tuple F.slot_tuple_index F.type_tuple_index ⟨_,hob,rfl⟩ (fun b e=>by cases e;exact ⟨_,hob,rfl⟩) fun s2 H2 α2 us ws I2 rv x2 r2 pr=>?_
     obtain ⟨px,w,u,rfl,hp,ra,hz⟩:=one r2 pr rv (l:=l) h1 (.inr rfl)
     have v2:=x2.rp v1
     rw [RP] at v2
     obtain ⟨a2,vs2,e',d1,d3⟩:=v2
     cases e'
     exact idx_tuple (v:=.ref a) I2 r2 hu d1 d3 hp ra hz fun w H3 s3 rp=>q w H3 α2 (x1.trans (x2.trans (.of_same r2 s3))) (r2.same s3) rp
    | non=>cases h1
    | bl _=>cases h1
    | int _=>cases h1
    | str _=>cases h1
end
open PySem
structure Sb where
 it:Addr
 l:Addr
 tp:Bool
 its:List Value
def Sb.on (b:Sb) (i:Nat) (h:Heap):Prop:=if b.tp=true then h.IsTupleIter b.it b.l i∧h.IsTuple b.l b.its.toArray else h.IsListIter b.it b.l i∧h.IsList b.l b.its.toArray
theorem Sb.frame {b:Sb} {i:Nat} {h h':Heap} (x:b.on i h) (k1:∀ o,h.get? b.it=some o→h'.get? b.it=some o) (k2:∀ o,h.get? b.l=some o→h'.get? b.l=some o):b.on i h':=by
 unfold Sb.on at *
 split at x
 ·rename_i ht
  rw [if_pos ht]
  exact ⟨x.1.at k1,let ⟨o,e,r⟩:=x.2;⟨o,k2 o e,r⟩⟩
 ·rename_i ht
  rw [if_neg ht]
  exact ⟨x.1.at k1,x.2.at k2⟩
section
variable {prog:Program} {w:World} {A:Around} {E:Value→Shared→Prop} {s:Shared}
theorem zX9 {b t:Addr} {k:Nat} {vs:Array Value} {y:Value} {R:Value→Shared→Prop} (x1:s.heap.IsTupleIter b t k) (x2:s.heap.IsTuple t vs) (x3:vs[k]?=some y)
  (q:∀ h2,h2.IsTupleIter b t (k+1)→Heap.SameBut b s.heap h2→R y { s with heap:=h2 }):wpAny (model prog w) A (Builtin.SmallTypes.nextOf (.ref b)) R E s:=by
 obtain ⟨u,hu,hcu,hdu⟩:=id x1
 obtain ⟨ut,hut,_,m,hdt⟩:=x2
 unfold Builtin.SmallTypes.nextOf
 refine wpAny_bind (wpAny_callSpecial?_slot (name:=Str.ofString "__next__") x1.typeIs F.slot_tuple_iterator_next
   (wpAny_call_entry F.slot_tuple_iterator_next x1.typeIs F.entry_tuple_iterator_next ?_ (F.args_tuple_iterator_next_1 _)))
 show wpAny _ _ (field (.ref b) 0 >>= _) _ _ _
 refine wpAny_bind (wpAny_field hu hdu (x:=.ref t) (by rfl) ?_)
 have ne:¬ ((Value.ref t==Value.none)=true):=Bool.false_ne_true
 show wpAny _ _ (if (Value.ref t==Value.none)=true then _ else _) _ _ _
 rw [if_neg ne]
 show wpAny _ _ (field (.ref b) 1 >>= _) _ _ _
 refine wpAny_bind (wpAny_field hu hdu (x:=.int k 0) (by rfl) ?_)
 show wpAny _ _ (seqItems? (.ref t) >>= _) _ _ _
 refine wpAny_bind (wpAny_seqItems hut hdt ?_)
 simp only [Int.toNat_natCast,x3]
 refine wpAny_bind (wpAny_setField hu hdu (by simp) (wpAny_pure ⟨y,rfl,wpAny_pure (q _ ⟨_,Heap.get?_update_self _ hu (Obj.isFreed_of_fields (Obj.data_mapFields hdu _)),(Obj.cls_mapFields ..).trans hcu,?_⟩ (Heap.SameBut.update ..))⟩))
 rw [Obj.data_mapFields hdu]
 simp [rawInt]
theorem nextT_end {b t:Addr} {k:Nat} {vs:Array Value} {R:Value→Shared→Prop} (hh:A.handled=none) (x1:s.heap.IsTupleIter b t k) (x2:s.heap.IsTuple t vs) (x3:vs[k]?=none)
  (q:∀ h2 e,Heap.ExtBut b s.heap h2→(∃ o,h2.get? e=some o∧o.cls=.type "StopIteration")→E (.ref e) { s with heap:=h2 }):wpAny (model prog w) A (Builtin.SmallTypes.nextOf (.ref b)) R E s:=by
 obtain ⟨u,hu,hcu,hdu⟩:=id x1
 obtain ⟨ut,hut,_,m,hdt⟩:=x2
 unfold Builtin.SmallTypes.nextOf
 refine wpAny_bind (wpAny_callSpecial?_slot (name:=Str.ofString "__next__") x1.typeIs F.slot_tuple_iterator_next
   (wpAny_call_entry F.slot_tuple_iterator_next x1.typeIs F.entry_tuple_iterator_next ?_ (F.args_tuple_iterator_next_1 _)))
 show wpAny _ _ (field (.ref b) 0 >>= _) _ _ _
 refine wpAny_bind (wpAny_field hu hdu (x:=.ref t) (by rfl) ?_)
 have ne:¬ ((Value.ref t==Value.none)=true):=Bool.false_ne_true
 show wpAny _ _ (if (Value.ref t==Value.none)=true then _ else _) _ _ _
 rw [if_neg ne]
 show wpAny _ _ (field (.ref b) 1 >>= _) _ _ _
 refine wpAny_bind (wpAny_field hu hdu (x:=.int k 0) (by rfl) ?_)
 show wpAny _ _ (seqItems? (.ref t) >>= _) _ _ _
 refine wpAny_bind (wpAny_seqItems hut hdt ?_)
 simp only [Int.toNat_natCast,x3]
 refine wpAny_bind (wpAny_rule (wpAny_bind (wpAny_setField hu hdu (by simp) ?_)))
 show wpAny _ _ (newExc (.type "StopIteration") [] >>= _) _ _ _
 refine wpAny_bind ?_
 simp only [newExc,newTuple]
 refine wpAny_bind (wpAny_newObj_type ?_ (by size_fits))
 refine wpAny_bind (m:=firstArgMember _ _) (wpAny_of_eq (a:=Value.none) (by first | rfl | (simp only [firstArgMember];rfl)) ?_)
 refine wpAny_newObj_type ?_ (by size_fits)
 simp only [raiseNew]
 refine wpAny_bind (wpAny_handled ?_)
 first | rw [show A.in1.handled=none from hh] | rw [hh]
 refine wpAny_bind (wpAny_pure (wpAny_throw ?_))
 exact q _ _ (((Heap.SameBut.update ..).extBut.push _).push _) ⟨_,Heap.get?_push_size _ rfl,rfl⟩
theorem Sb.item {b:Sb} {k:Nat} {y:Value} {R:Value→Shared→Prop} (x:b.on k s.heap) (hy:b.its[k]?=some y)
  (q:∀ h2,b.on (k+1) h2→Heap.SameBut b.it s.heap h2→R y { s with heap:=h2 }) (hne:b.l≠b.it):wpAny (model prog w) A (Builtin.SmallTypes.nextOf (.ref b.it)) R E s:=by
 by_cases ht:b.tp=true
 ·have x':=x
  unfold Sb.on at x'
  rw [if_pos ht] at x'
  refine zX9 x'.1 x'.2 (by simpa using hy) fun h2 z1 z2=>q h2 ?_ z2
  unfold Sb.on
  rw [if_pos ht]
  exact ⟨z1,x'.2.extBut z2.extBut hne⟩
 ·have x':=x
  unfold Sb.on at x'
  rw [if_neg ht] at x'
  refine wpAny_nextOf_list_item x'.1 x'.2 (by simpa using hy) fun h2 z1 z2=>q h2 ?_ z2
  unfold Sb.on
  rw [if_neg ht]
  exact ⟨z1,x'.2.extBut z2.extBut hne⟩
theorem Sb.fin {b:Sb} {k:Nat} {R:Value→Shared→Prop} (hh:A.handled=none) (x:b.on k s.heap) (hy:b.its[k]?=none)
  (q:∀ h2 e,Heap.ExtBut b.it s.heap h2→(∃ o,h2.get? e=some o∧o.cls=.type "StopIteration")→E (.ref e) { s with heap:=h2 }):wpAny (model prog w) A (Builtin.SmallTypes.nextOf (.ref b.it)) R E s:=by
 by_cases ht:b.tp=true
 ·unfold Sb.on at x
  rw [if_pos ht] at x
  exact nextT_end hh x.1 x.2 (by simpa using hy) q
 ·unfold Sb.on at x
  rw [if_neg ht] at x
  exact wpAny_nextOf_list_end hh x.1 x.2 (by simpa using hy) q
end
open PySem
noncomputable abbrev TupAt (h:Heap) (T:Addr) (vs:List Value):Prop:=h.get? T=some { cls:=.type "tuple", data:=.seq vs.toArray }
structure ZAp (z TI TO:Addr) (bs:List Sb):Prop where
 ne:bs≠[]
 len:bs.length≤1000
 zT:TO≠z
 iz:∀ b∈bs,b.it≠z∧b.it≠TO∧b.it≠TI
 lz:∀ b∈bs,b.l≠z∧b.l≠TO∧∀ c∈bs,b.l≠c.it
 nd:(bs.map Sb.it).Nodup
 Tz:TI≠z∧TI≠TO
noncomputable def Tup2 (bs:List Sb):List Value:=bs.map fun b=>.ref b.it
section
variable {prog:Program} {w:World} {A:Around} {E:Value→Shared→Prop} {s:Shared}
def ZIv (s:Shared) (z TI TO:Addr) (bs:List Sb) (i:Nat) (rest:List (Value×Nat)) (b:Option Fin×Unit) (s':Shared):Prop :=
 b=(none,())∧∃ k h',s'={ s with heap:=h' }∧k≤bs.length∧rest=((Tup2 bs).drop k).zipIdx k∧IsZip h' z TI TO .ellipsis ∧
  (∃ o:List Value,TupAt h' TO o∧o.length=bs.length∧∀ j<k,∀ b,bs[j]?=some b→o[j]?=b.its[i]?∧b.its[i]?≠none)∧(∀ (j:Nat) b,bs[j]?=some b→b.on (if j<k then i+1 else i) h')∧h'.objs.size=s.heap.objs.size ∧
  ∀ c o,c≠z→c≠TO→(∀ b∈bs,c≠b.it)→s.heap.get? c=some o→h'.get? c=some o
theorem nd_get {bs:List Sb} (h:(bs.map Sb.it).Nodup) {j k:Nat} {b c:Sb} (hj:bs[j]?=some b) (hk:bs[k]?=some c) (hne:j≠k):b.it≠c.it:=by
 intro e
 obtain ⟨h1,e1⟩:=List.getElem?_eq_some_iff.mp hj
 obtain ⟨h2,e2⟩:=List.getElem?_eq_some_iff.mp hk
 have p:=List.pairwise_iff_getElem.mp h
 rcases Nat.lt_or_gt_of_ne hne with hlt | hlt
 ·exact p j k (by simpa using h1) (by simpa using h2) hlt (by simp [e1,e2,e])
 ·exact p k j (by simpa using h2) (by simpa using h1) hlt (by simp [e1,e2,e])
theorem ZIv.step {z TI TO:Addr} {bs:List Sb} {i k:Nat} {b:Sb} {x:Value} {h1 h2 h3:Heap} {o:List Value} (D:ZAp z TI TO bs) (hk:bs[k]?=some b) (hx:b.its[i]?=some x)
  (hz:IsZip h1 z TI TO .ellipsis) (ho:TupAt h1 TO o) (hol:o.length=bs.length) (hov:∀ j<k,∀ b,bs[j]?=some b→o[j]?=b.its[i]?∧b.its[i]?≠none) (hon:∀ (j:Nat) b,bs[j]?=some b→b.on (if j<k then i+1 else i) h1) (hsz:h1.objs.size=s.heap.objs.size)
  (hkp:∀ c o,c≠z→c≠TO→(∀ b∈bs,c≠b.it)→s.heap.get? c=some o→h1.get? c=some o)
  (n2:b.on (i+1) h2) (s2:Heap.SameBut b.it h1 h2) (n3:TupAt h3 TO (o.set k x)) (s3:Heap.SameBut TO h2 h3) :
  ZIv s z TI TO bs i (((Tup2 bs).drop (k+1)).zipIdx (k+1)) (none,()) { s with heap:=h3 }:=by
 have hmem:b∈bs:=List.mem_of_getElem? hk
 have hkl:k<bs.length:=(List.getElem?_eq_some_iff.mp hk).1
 obtain ⟨b1,b2,b3⟩:=D.iz b hmem
 refine ⟨rfl,k+1,h3,rfl,hkl,rfl,?_,⟨o.set k x,n3,by simpa using hol,?_⟩,?_,by rw [s3.1,s2.1];exact hsz,?_⟩
 ·exact s3.extBut _ _ D.zT.symm (s2.extBut _ _ b1.symm hz)
 ·intro j hj c hc
  by_cases e:j=k
  ·subst e
   rw [hk] at hc;cases hc
   rw [List.getElem?_set_self (by lia),hx]
   exact ⟨rfl,by simp⟩
  ·rw [List.getElem?_set_ne (by lia)]
   exact hov j (by lia) c hc
 ·intro j c hc
  obtain ⟨c1,c2,c3⟩:=D.iz c (List.mem_of_getElem? hc)
  obtain ⟨l1,l2,l3⟩:=D.lz c (List.mem_of_getElem? hc)
  by_cases e:j=k
  ·subst e
   rw [hk] at hc;cases hc
   rw [if_pos (by lia)]
   exact Sb.frame n2 (fun o e=>s3.extBut _ _ c2 e) fun o e=>s3.extBut _ _ l2 e
  ·have hne:=nd_get D.nd hc hk e
   have hold:=hon j c hc
   rw [show (if j<k+1 then i+1 else i)=(if j<k then i+1 else i) by by_cases h:j<k <;> simp [h] <;> lia]
   exact Sb.frame hold (fun o e=>s3.extBut _ _ c2 (s2.extBut _ _ hne e)) fun o e=>s3.extBut _ _ l2 (s2.extBut _ _ (l3 b hmem) e)
 ·intro c o' n1 n2' n3' e
  exact s3.extBut _ _ n2' (s2.extBut _ _ (n3' b hmem) (hkp c o' n1 n2' n3' e))
theorem zipN_item {z TI TO:Addr} {bs:List Sb} {i:Nat} {vs ow:List Value} {R:Value→Shared→Prop} (D:ZAp z TI TO bs)
  (hz:IsZip s.heap z TI TO .none) (hTI:TupAt s.heap TI (Tup2 bs)) (hTO:TupAt s.heap TO ow) (how:ow.length=bs.length) (hb:∀ b∈bs,b.on i s.heap) (hv:vs.length=bs.length)
  (hvs:∀ (k:Nat) b,bs[k]?=some b→∃ x,b.its[i]?=some x∧vs[k]?=some x)
  (q:∀ h2,IsZip h2 z TI TO (rawInt s.heap.objs.size)→TupAt h2 TO vs→(∀ b∈bs,b.on (i+1) h2)→TupAt h2 s.heap.objs.size vs→h2.objs.size=s.heap.objs.size+1 →
   (∀ c o,c≠z→c≠TO→(∀ b∈bs,c≠b.it)→s.heap.get? c=some o→h2.get? c=some o)→R (.ref s.heap.objs.size) { s with heap:=h2 }) :
  wpAny (model prog w) A (Builtin.«zip.__next__» ⟨[.ref z],[]⟩) (fun fin s'=>∃ v,fin=.done (.ret v)∧R v s') E s:=by
 show wpAny _ _ (field (.ref z) 2 >>= _) _ _ _
 refine wpAny_bind (wpAny_field hz (by rfl) (x:=.bool false) (by rfl) ?_)
 show wpAny _ _ (field (.ref z) 3 >>= _) _ _ _
 refine wpAny_bind (wpAny_field hz (by rfl) (x:=.ref TI) (by rfl) ?_)
 refine wpAny_bind (wpAny_seqItems hTI (by rfl) ?_)
 have hne:(Tup2 bs).toArray.isEmpty=false:=by
  have:=D.ne
  cases bs with
  | nil=>exact absurd rfl this
  | cons b r=>rfl
 have hlen:=D.len
 simp only [hne,Bool.false_eq_true,if_false]
 refine wpAny_bind ?_
 unfold Builtin.SmallTypes.ownedTupleIsFree
 refine wpAny_bind (wpAny_field hz (by rfl) (x:=.none) (by rfl) (wpAny_pure ?_))
 simp only [if_true]
 refine wpAny_bind (wpAny_rule ?_)
 refine wpAny_bind (wpAny_field hz (by rfl) (x:=.ref TO) (by rfl) ?_)
 refine wpAny_bind (wpAny_setField_rec hz (by simp) fun ha za sa=>?_)
 replace za:IsZip ha z TI TO .ellipsis:=za
 refine wpAny_bind ?_
 refine wpAny_forIn_list _ (ZIv s z TI TO bs i) _ ?turn ?fin _ _ ?start
 case start =>
  refine ⟨rfl,0,ha,rfl,Nat.zero_le _,by simp,za,⟨ow,sa.extBut _ _ D.zT hTO,how,fun j hj=>absurd hj (by lia)⟩,fun j b hj=>?_,sa.1,fun c o c1 _ _ e=>sa.extBut _ _ c1 e⟩
  have hm:=List.mem_of_getElem? hj
  rw [if_neg (by lia)]
  exact Sb.frame (hb b hm) (fun o e=>sa.extBut _ _ (D.iz b hm).1 e) fun o e=>sa.extBut _ _ (D.lz b hm).1 e
 case turn =>
  rintro ⟨u,kk⟩ rest b0 s1 ⟨rfl,k,h1,rfl,hk,hr,z1,⟨o,o1,o2,o3⟩,on1,sz1,kp1⟩
  have hkl:k<bs.length:=by
   by_cases h:k<bs.length
   ·exact h
   ·rw [List.drop_of_length_le (by simp [Tup2];lia)] at hr;cases hr
  obtain ⟨b,hbk⟩:∃ b,bs[k]?=some b:=⟨_,List.getElem?_eq_getElem hkl⟩
  have hm:=List.mem_of_getElem? hbk
  have hu:u=.ref b.it∧kk=k∧rest=((Tup2 bs).drop (k+1)).zipIdx (k+1):=by
   have e1:(Tup2 bs).drop k=.ref b.it::(Tup2 bs).drop (k+1):=by
    have hl:k<(Tup2 bs).length:=by simpa [Tup2] using hkl
    rw [List.drop_eq_getElem_cons hl]
    congr 1
    obtain ⟨_,e⟩:=List.getElem?_eq_some_iff.mp hbk
    simp [Tup2,e]
   rw [e1,List.zipIdx_cons] at hr
   cases hr
   exact ⟨rfl,rfl,rfl⟩
  obtain ⟨rfl,rfl,rfl⟩:=hu
  obtain ⟨x,hx,hxv⟩:=hvs _ b hbk
  have ob:=on1 _ b hbk
  rw [if_neg (by lia)] at ob
  refine wpAny_bind (wpAny_onRaise ?_)
  show wpAny _ _ (Builtin.SmallTypes.nextOf (.ref b.it) >>= _) _ _ _
  refine wpAny_bind (Sb.item ob hx (fun h2 n2 s2=>wpAny_pure ?_) (((D.lz b hm).2.2 b hm)))
  have t2:TupAt h2 TO o:=s2.extBut _ _ (D.iz b hm).2.1.symm o1
  refine wpAny_bind (wpAny_seqItems t2 (by rfl) ?_)
  have hos:o.toArray.size≤sizeLine:=by
   have:sizeLine=16777216:=by decide
   simp;lia
  refine wpAny_bind (wpAny_updateSeq t2 (by rfl) ?_ hos (by simp;simp at hos;lia))
  refine wpAny_bind (wpAny_letGo (wpAny_pure ?_))
  refine ZIv.step D hbk hx z1 o1 o2 o3 on1 sz1 kp1 n2 s2 ?_ (Heap.SameBut.update ..)
  show (h2.update TO _).get? TO=_
  rw [Heap.get?_update_self _ t2 rfl]
  simp [Obj.mapSeq]
 case fin =>
  rintro b0 s1 ⟨rfl,k,h1,rfl,hk,hr,z1,⟨o,o1,o2,o3⟩,on1,sz1,kp1⟩
  have hkn:k=bs.length:=by
   by_cases h:k<bs.length
   ·have hl:k<(Tup2 bs).length:=by simpa [Tup2] using h
    rw [List.drop_eq_getElem_cons hl,List.zipIdx_cons] at hr;cases hr
   ·lia
  subst hkn
  have hov:o=vs:=by
   refine List.ext_getElem? fun j=>?_
   by_cases hj:j<bs.length
   ·obtain ⟨b,hbj⟩:∃ b,bs[j]?=some b:=⟨_,List.getElem?_eq_getElem hj⟩
    obtain ⟨x,e1,e2⟩:=hvs j b hbj
    rw [(o3 j hj b hbj).1,e1,e2]
   ·rw [List.getElem?_eq_none (by lia),List.getElem?_eq_none (by lia)]
  subst hov
  refine wpAny_bind (wpAny_seqItems o1 (by rfl) ?_)
  refine wpAny_bind (wpAny_newTuple ?_ ?_)
  ·show wpAny _ _ (Builtin.SmallTypes.ownedTupleHandOut (.ref z) (.ref h1.objs.size) >>= _) _ _ _
   refine wpAny_bind ?_
   unfold Builtin.SmallTypes.ownedTupleHandOut
   have z2:IsZip (h1.push { cls:=.type "tuple", data:=.seq o.toArray.toList.toArray }) z TI TO .ellipsis:=Heap.get?_push_of_some _ z1
   refine wpAny_bind (wpAny_setField_rec z2 (by simp) fun h3 z3 s3=>?_)
   replace z3:IsZip h3 z TI TO (rawInt h1.objs.size):=z3
   refine wpAny_setField_rec z3 (by simp) fun h4 z4 s4=>?_
   replace z4:IsZip h4 z TI TO (rawInt h1.objs.size):=z4
   have up:∀ c u,c≠z→h1.get? c=some u→h4.get? c=some u:=fun c u c1 e=>s4.extBut _ _ c1 (s3.extBut _ _ c1 (Heap.get?_push_of_some _ e))
   have hzl:z<h1.objs.size:=Heap.lt_size z1
   have hT:TupAt h4 h1.objs.size o:=s4.extBut _ _ (Nat.ne_of_gt hzl) (s3.extBut _ _ (Nat.ne_of_gt hzl) (by rw [Heap.get?_push_size _ rfl]))
   have h4s:h4.objs.size=h1.objs.size+1:=by rw [s4.1,s3.1,Heap.size_push]
   refine wpAny_pure ⟨_,rfl,?_⟩
   rw [sz1] at z4 hT h4s ⊢
   refine q h4 z4 (up _ _ D.zT o1) (fun b hm=>?_) hT h4s fun c u c1 c2 c3 e=>up c u c1 (kp1 c u c1 c2 c3 e)
   obtain ⟨j,hj,ej⟩:=List.getElem_of_mem hm
   have:=on1 j b (by rw [List.getElem?_eq_getElem hj,ej])
   rw [if_pos hj] at this
   exact Sb.frame this (fun u e=>up _ u (D.iz b hm).1 e) fun u e=>up _ u (D.lz b hm).1 e
  ·have:sizeLine=16777216:=by decide
   simp;lia
end
open PySem
section
variable {prog:Program} {w:World} {A:Around} {E:Value→Shared→Prop} {s:Shared}
theorem zipN_end {z TI TO:Addr} {bs:List Sb} {i:Nat} {ow:List Value} {R:Fin→Shared→Prop} (hh:A.handled=none) (D:ZAp z TI TO bs)
  (hz:IsZip s.heap z TI TO .none) (hTI:TupAt s.heap TI (Tup2 bs)) (hTO:TupAt s.heap TO ow) (how:ow.length=bs.length) (hb:∀ b∈bs,b.on i s.heap) (hend:∃ b∈bs,b.its[i]?=none)
  (q:∀ h2 e,(∀ c o,c≠z→c≠TO→(∀ b∈bs,c≠b.it)→s.heap.get? c=some o→h2.get? c=some o)→(∃ o,h2.get? e=some o∧o.cls=.type "StopIteration")→E (.ref e) { s with heap:=h2 }) :
  wpAny (model prog w) A (Builtin.«zip.__next__» ⟨[.ref z],[]⟩) R E s:=by
 show wpAny _ _ (field (.ref z) 2 >>= _) _ _ _
 refine wpAny_bind (wpAny_field hz (by rfl) (x:=.bool false) (by rfl) ?_)
 show wpAny _ _ (field (.ref z) 3 >>= _) _ _ _
 refine wpAny_bind (wpAny_field hz (by rfl) (x:=.ref TI) (by rfl) ?_)
 refine wpAny_bind (wpAny_seqItems hTI (by rfl) ?_)
 have hne:(Tup2 bs).toArray.isEmpty=false:=by
  have:=D.ne
  cases bs with
  | nil=>exact absurd rfl this
  | cons b r=>rfl
 have hlen:=D.len
 simp only [hne,Bool.false_eq_true,if_false]
 refine wpAny_bind ?_
 unfold Builtin.SmallTypes.ownedTupleIsFree
 refine wpAny_bind (wpAny_field hz (by rfl) (x:=.none) (by rfl) (wpAny_pure ?_))
 simp only [if_true]
 refine wpAny_bind (wpAny_rule ?_)
 refine wpAny_bind (wpAny_field hz (by rfl) (x:=.ref TO) (by rfl) ?_)
 refine wpAny_bind (wpAny_setField_rec hz (by simp) fun ha za sa=>?_)
 replace za:IsZip ha z TI TO .ellipsis:=za
 refine wpAny_bind ?_
 refine wpAny_forIn_list _ (ZIv s z TI TO bs i) _ ?turn ?fin _ _ ?start
 case start =>
  refine ⟨rfl,0,ha,rfl,Nat.zero_le _,by simp,za,⟨ow,sa.extBut _ _ D.zT hTO,how,fun j hj=>absurd hj (by lia)⟩,fun j b hj=>?_,sa.1,fun c o c1 _ _ e=>sa.extBut _ _ c1 e⟩
  have hm:=List.mem_of_getElem? hj
  rw [if_neg (by lia)]
  exact Sb.frame (hb b hm) (fun o e=>sa.extBut _ _ (D.iz b hm).1 e) fun o e=>sa.extBut _ _ (D.lz b hm).1 e
 case turn =>
  rintro ⟨u,kk⟩ rest b0 s1 ⟨rfl,k,h1,rfl,hk,hr,z1,⟨o,o1,o2,o3⟩,on1,sz1,kp1⟩
  have hkl:k<bs.length:=by
   by_cases h:k<bs.length
   ·exact h
   ·rw [List.drop_of_length_le (by simp [Tup2];lia)] at hr;cases hr
  obtain ⟨b,hbk⟩:∃ b,bs[k]?=some b:=⟨_,List.getElem?_eq_getElem hkl⟩
  have hm:=List.mem_of_getElem? hbk
  have hu:u=.ref b.it∧kk=k∧rest=((Tup2 bs).drop (k+1)).zipIdx (k+1):=by
   have e1:(Tup2 bs).drop k=.ref b.it::(Tup2 bs).drop (k+1):=by
    have hl:k<(Tup2 bs).length:=by simpa [Tup2] using hkl
    rw [List.drop_eq_getElem_cons hl]
    congr 1
    obtain ⟨_,e⟩:=List.getElem?_eq_some_iff.mp hbk
    simp [Tup2,e]
   rw [e1,List.zipIdx_cons] at hr
   cases hr
   exact ⟨rfl,rfl,rfl⟩
  obtain ⟨rfl,rfl,rfl⟩:=hu
  have ob:=on1 _ b hbk
  rw [if_neg (by lia)] at ob
  refine wpAny_bind (wpAny_onRaise ?_)
  show wpAny _ _ (Builtin.SmallTypes.nextOf (.ref b.it) >>= _) _ _ _
  cases hx:b.its[i]? with
  | none =>
   refine wpAny_bind (Sb.fin hh ob hx fun h2 e k2 he=>?_)
   obtain ⟨oe,hoe,hce⟩:=he
   have z2:IsZip h2 z TI TO .ellipsis:=k2 _ _ (D.iz b hm).1.symm z1
   have hez:e≠z:=fun e'=>by subst e';rw [z2] at hoe;cases hoe;simp at hce
   refine wpAny_setField_rec z2 (by simp) fun h3 _ s3=>q h3 e (fun c u c1 c2 c3 x=>?_) ⟨oe,s3.extBut _ _ hez hoe,hce⟩
   exact s3.extBut _ _ c1 (k2 _ _ (c3 b hm) (kp1 c u c1 c2 c3 x))
  | some x =>
   refine wpAny_bind (Sb.item ob hx (fun h2 n2 s2=>wpAny_pure ?_) (((D.lz b hm).2.2 b hm)))
   have t2:TupAt h2 TO o:=s2.extBut _ _ (D.iz b hm).2.1.symm o1
   refine wpAny_bind (wpAny_seqItems t2 (by rfl) ?_)
   have hos:o.toArray.size≤sizeLine:=by
    have:sizeLine=16777216:=by decide
    simp;lia
   refine wpAny_bind (wpAny_updateSeq t2 (by rfl) ?_ hos (by simp;simp at hos;lia))
   refine wpAny_bind (wpAny_letGo (wpAny_pure ?_))
   refine ZIv.step D hbk hx z1 o1 o2 o3 on1 sz1 kp1 n2 s2 ?_ (Heap.SameBut.update ..)
   show (h2.update TO _).get? TO=_
   rw [Heap.get?_update_self _ t2 rfl]
   simp [Obj.mapSeq]
 case fin =>
  rintro b0 s1 ⟨rfl,k,h1,rfl,hk,hr,z1,⟨o,o1,o2,o3⟩,on1,sz1,kp1⟩
  have hkn:k=bs.length:=by
   by_cases h:k<bs.length
   ·have hl:k<(Tup2 bs).length:=by simpa [Tup2] using h
    rw [List.drop_eq_getElem_cons hl,List.zipIdx_cons] at hr;cases hr
   ·lia
  obtain ⟨b,hm,hbe⟩:=hend
  obtain ⟨j,hj,ej⟩:=List.getElem_of_mem hm
  exact absurd hbe (o3 j (by lia) b (by rw [List.getElem?_eq_getElem hj,ej])).2
theorem zM7 {z TI TO:Addr} {bs:List Sb} {i:Nat} {vs ow:List Value} {R:Option Value→Shared→Prop} (D:ZAp z TI TO bs)
  (hz:IsZip s.heap z TI TO .none) (hTI:TupAt s.heap TI (Tup2 bs)) (hTO:TupAt s.heap TO ow) (how:ow.length=bs.length) (hb:∀ b∈bs,b.on i s.heap) (hv:vs.length=bs.length)
  (hvs:∀ (k:Nat) b,bs[k]?=some b→∃ x,b.its[i]?=some x∧vs[k]?=some x)
  (q:∀ h2,IsZip h2 z TI TO (rawInt s.heap.objs.size)→TupAt h2 TO vs→(∀ b∈bs,b.on (i+1) h2)→TupAt h2 s.heap.objs.size vs→h2.objs.size=s.heap.objs.size+1 →
   (∀ c o,c≠z→c≠TO→(∀ b∈bs,c≠b.it)→s.heap.get? c=some o→h2.get? c=some o)→R (some (.ref s.heap.objs.size)) { s with heap:=h2 }) :
  wpAny (model prog w) A (pyNext (.ref z)) R E s:=by
 have hty:s.TypeIs (.ref z) "zip" := ⟨_,hz,rfl⟩
 unfold pyNext
 refine wpAny_bind (wpAny_attempt (wpAny_callSpecial?_slot (name:=Str.ofString "__next__") hty F.slot_zip_next (wpAny_call_entry F.slot_zip_next hty F.entry_zip_next ?_ (F.args_zip_next_1 _))))
 exact zipN_item D hz hTI hTO how hb hv hvs fun h2 a1 a2 a3 a4 a5 a6=>wpAny_pure (q h2 a1 a2 a3 a4 a5 a6)
theorem zP4 {z TI TO:Addr} {bs:List Sb} {i:Nat} {ow:List Value} {R:Option Value→Shared→Prop} (hh:A.handled=none) (D:ZAp z TI TO bs)
  (hz:IsZip s.heap z TI TO .none) (hTI:TupAt s.heap TI (Tup2 bs)) (hTO:TupAt s.heap TO ow) (how:ow.length=bs.length) (hb:∀ b∈bs,b.on i s.heap) (hend:∃ b∈bs,b.its[i]?=none)
  (q:∀ h2,(∀ c o,c≠z→c≠TO→(∀ b∈bs,c≠b.it)→s.heap.get? c=some o→h2.get? c=some o)→R none { s with heap:=h2 }) :
  wpAny (model prog w) A (pyNext (.ref z)) R E s:=by
 have hty:s.TypeIs (.ref z) "zip" := ⟨_,hz,rfl⟩
 unfold pyNext
 refine wpAny_bind (wpAny_attempt (wpAny_callSpecial?_slot (name:=Str.ofString "__next__") hty F.slot_zip_next (wpAny_call_entry F.slot_zip_next hty F.entry_zip_next ?_ (F.args_zip_next_1 _))))
 refine zipN_end hh D hz hTI hTO how hb hend fun h2 e k2 he=>?_
 obtain ⟨o,ho,hc⟩:=he
 exact wpAny_bind (wpAny_isInstance (T := "StopIteration") (b:=true) ⟨o,ho,hc⟩ isSubtype_stop (wpAny_pure (q _ k2)))
structure Sr where
 l:Addr
 tp:Bool
 its:List Value
def Sr.on (r:Sr) (h:Heap):Prop:=if r.tp=true then h.IsTuple r.l r.its.toArray else h.IsList r.l r.its.toArray
theorem Sr.frame {r:Sr} {h h':Heap} (x:r.on h) (k:∀ o,h.get? r.l=some o→h'.get? r.l=some o):r.on h':=by
 unfold Sr.on at *
 split at x
 ·rename_i ht
  rw [if_pos ht];exact (let ⟨o,e,q⟩:=x;⟨o,k o e,q⟩)
 ·rename_i ht
  rw [if_neg ht];exact x.at k
theorem Sr.lt {r:Sr} {h:Heap} (x:r.on h):r.l<h.objs.size:=by
 unfold Sr.on at x
 split at x
 ·obtain ⟨o,e,_⟩:=x;exact Heap.lt_size e
 ·obtain ⟨o,e,_⟩:=x;exact Heap.lt_size e
noncomputable def Sr.sb (r:Sr) (it:Addr):Sb:=⟨it,r.l,r.tp,r.its⟩
noncomputable def sbs (n:Nat) (rs:List Sr):List Sb:=(rs.zipIdx n).map fun p=>p.1.sb p.2
theorem Sr.iter {r:Sr} {R:Value→Shared→Prop} (x:r.on s.heap)
  (q:∀ h2,(r.sb s.heap.objs.size).on 0 h2→h2.objs.size=s.heap.objs.size+1→(∀ c o,s.heap.get? c=some o→h2.get? c=some o)→R (.ref s.heap.objs.size) { s with heap:=h2 }):wpAny (model prog w) A (pyIter (.ref r.l)) R E s:=by
 by_cases ht:r.tp=true
 ·have x':=x
  unfold Sr.on at x'
  rw [if_pos ht] at x'
  refine wpAny_pyIter_tuple x' (q _ ?_ (Heap.size_push _ _) fun c o e=>Heap.get?_push_of_some _ e)
  unfold Sb.on
  rw [if_pos (show (r.sb s.heap.objs.size).tp=true from ht)]
  exact ⟨⟨_,Heap.get?_push_size _ rfl,rfl,rfl⟩,x'.push _⟩
 ·have x':=x
  unfold Sr.on at x'
  rw [if_neg ht] at x'
  refine wpAny_pyIter_list x' (q _ ?_ (Heap.size_push _ _) fun c o e=>Heap.get?_push_of_some _ e)
  unfold Sb.on
  rw [if_neg (show ¬ (r.sb s.heap.objs.size).tp=true from ht)]
  exact ⟨⟨_,Heap.get?_push_size _ rfl,rfl,rfl⟩,x'.push _⟩
theorem zN9 {rs:List Sr} {R:List Value→Shared→Prop} (x:∀ r∈rs,r.on s.heap)
  (q:∀ h2,(∀ b∈sbs s.heap.objs.size rs,b.on 0 h2)→h2.objs.size=s.heap.objs.size+rs.length→(∀ c o,s.heap.get? c=some o→h2.get? c=some o)→R (Tup2 (sbs s.heap.objs.size rs)) { s with heap:=h2 }) :
  wpAny (model prog w) A (Builtin.SmallTypes.iterAll (rs.map fun r=>.ref r.l)) R E s:=by
 unfold Builtin.SmallTypes.iterAll
 refine wpAny_bind ?_
 refine wpAny_forIn_list _ (fun rest acc s1=>∃ k h1,s1={ s with heap:=h1 }∧k≤rs.length∧rest=(rs.drop k).map (fun r=>.ref r.l)∧acc.toList=Tup2 (sbs s.heap.objs.size (rs.take k))∧(∀ b∈sbs s.heap.objs.size (rs.take k),b.on 0 h1)∧h1.objs.size=s.heap.objs.size+k∧∀ c o,s.heap.get? c=some o→h1.get? c=some o) _ ?turn ?fin _ _ ?start
 case start=>exact ⟨0,s.heap,rfl,Nat.zero_le _,by simp,by simp [sbs,Tup2],by simp [sbs],by simp,fun _ _ e=>e⟩
 case turn =>
  rintro u rest acc s1 ⟨k,h1,rfl,hk,hr,ha,hb,hs,kp⟩
  have hkl:k<rs.length:=by
   by_cases h:k<rs.length
   ·exact h
   ·rw [List.drop_of_length_le (by lia)] at hr;cases hr
  rw [List.drop_eq_getElem_cons hkl,List.map_cons] at hr
  cases hr
  have hm:rs[k]∈rs:=List.getElem_mem _
  refine wpAny_bind (wpAny_holding (Sr.iter (Sr.frame (x _ hm) fun o e=>kp _ o e) fun h2 n2 z2 k2=>wpAny_pure ?_))
  have et:rs.take (k+1)=rs.take k++[rs[k]]:=by rw [List.take_succ,List.getElem?_eq_getElem hkl];rfl
  have es:sbs s.heap.objs.size (rs.take (k+1))=sbs s.heap.objs.size (rs.take k)++[rs[k].sb h1.objs.size]:=by
   rw [et]
   unfold sbs
   rw [List.zipIdx_append,List.map_append]
   congr 1
   simp [hs,Nat.min_eq_left (Nat.le_of_lt hkl),Nat.add_comm]
  refine ⟨k+1,h2,rfl,hkl,rfl,?_,?_,by rw [z2,hs];lia,fun c o e=>k2 c o (kp c o e)⟩
  ·rw [es]
   unfold Tup2 at *
   rw [Array.toList_push,ha,List.map_append]
   rfl
  ·rw [es]
   intro b hb'
   rcases List.mem_append.mp hb' with h | h
   ·exact Sb.frame (hb b h) (fun o e=>k2 _ o e) fun o e=>k2 _ o e
   ·have:b=rs[k].sb h1.objs.size:=by simpa using h
    subst this;exact n2
 case fin =>
  rintro acc s1 ⟨k,h1,rfl,hk,hr,ha,hb,hs,kp⟩
  have hkn:k=rs.length:=by
   by_cases h:k<rs.length
   ·rw [List.drop_eq_getElem_cons h,List.map_cons] at hr;cases hr
   ·lia
  subst hkn
  rw [List.take_length] at ha hb
  refine wpAny_pure ?_
  rw [ha]
  exact q h1 hb hs kp
end
theorem zv5 (rs:List Sr):Meets (Builtin.«zip.__new__» ⟨.type "zip" :: rs.map (fun r=>.ref r.l),[]⟩) (fun _ R s=>(∀ r∈rs,r.on s.heap)∧rs.length≤1000∧∀ h2 z TI TO,z=s.heap.objs.size+rs.length+2→TI=s.heap.objs.size+rs.length→TO=s.heap.objs.size+rs.length+1→IsZip h2 z TI TO .none→TupAt h2 TI (Tup2 (sbs s.heap.objs.size rs))→TupAt h2 TO ((Tup2 (sbs s.heap.objs.size rs)).map fun _=>.none) →
      (∀ b∈sbs s.heap.objs.size rs,b.on 0 h2)→h2.objs.size=s.heap.objs.size+rs.length+3→(∀ c o,s.heap.get? c=some o→h2.get? c=some o)→R (.ok (.ret (.ref z))) { s with heap:=h2 }) :=
  .of_wp fun prog w A R s h=>by
    obtain ⟨hp,g,d,tk,os⟩:=s
    obtain ⟨x,hl,q⟩:=h
    have hsub:=sub_zip
    unfold Builtin.«zip.__new__»
    wp_walk using zN9 x
    intro h2 y1 y2 y3
    dsimp only at *
    have hln:(Tup2 (sbs hp.objs.size rs)).length=rs.length:=by simp [Tup2,sbs]
    have hsl:sizeLine=16777216:=by decide
    generalize hT:Tup2 (sbs hp.objs.size rs)=ts at *
    refine wpAny_bind (wpAny_newTuple ?_ (by lia))
    refine wpAny_bind (wpAny_newTuple ?_ (by rw [List.length_map];lia))
    dsimp only
    have e1:(h2.push { cls:=.type "tuple", data:=.seq ts.toArray }).objs.size=h2.objs.size+1:=Heap.size_push ..
    have g1:(h2.push { cls:=.type "tuple", data:=.seq ts.toArray }).get? h2.objs.size=some { cls:=.type "tuple", data:=.seq ts.toArray }:=Heap.get?_push_size _ rfl
    have g0:∀ c o,h2.get? c=some o→(h2.push { cls:=.type "tuple", data:=.seq ts.toArray }).get? c=some o:=fun c o e=>Heap.get?_push_of_some _ e
    generalize (h2.push { cls:=.type "tuple", data:=.seq ts.toArray })=h3 at *
    have e2:=Heap.size_push h3 { cls:=.type "tuple", data:=.seq (List.map (fun _=>Value.none) ts).toArray }
    have g2:(h3.push { cls:=.type "tuple", data:=.seq (List.map (fun _=>Value.none) ts).toArray }).get? h3.objs.size=some _:=Heap.get?_push_size _ rfl
    have g3:∀ c o,h3.get? c=some o→(h3.push { cls:=.type "tuple", data:=.seq (List.map (fun _=>Value.none) ts).toArray }).get? c=some o:=fun c o e=>Heap.get?_push_of_some _ e
    generalize (h3.push { cls:=.type "tuple", data:=.seq (List.map (fun _=>Value.none) ts).toArray })=h4 at *
    wp_walk
    have e3:=fun o=>Heap.size_push h4 o
    refine ⟨_,rfl,q _ _ h2.objs.size h3.objs.size (by rw [e2,e1,y2]) (by rw [y2]) (by rw [e1,y2]) (Heap.get?_push_size _ rfl) ?_ ?_ ?_ ?_ ?_⟩
    · exact Heap.get?_push_of_some _ (g3 _ _ g1)
    · exact Heap.get?_push_of_some _ g2
    · exact fun b hb=>Sb.frame (y1 b hb) (fun o e=>Heap.get?_push_of_some _ (g3 _ _ (g0 _ _ e))) fun o e=>Heap.get?_push_of_some _ (g3 _ _ (g0 _ _ e))
    · rw [e3,e2,e1,y2]
    · exact fun c o e=>Heap.get?_push_of_some _ (g3 _ _ (g0 _ _ (y3 c o e)))
open PySem L2 PySem.SeqAt PyProof.Rows
theorem zD9 (a b c:Value):checkTypeCall "zip" ⟨[a,b,c],[]⟩=pure ():=by kernel_rfl
theorem zJ2 (a b c:Value):checkBuiltinCall "zip.__new__" ⟨[.type "zip", a,b,c],[]⟩=pure ():=by kernel_rfl
theorem zO2 (a b c d:Value):argsOk "object.__init__" ⟨[a,b,c,d],[]⟩:=by
 unfold argsOk
 rw [signature?_of (id := "object.__init__") (n:=['_','_','t','i','n','i','_','_']) (o:=['t','c','e','j','b','o'])
   (by kernel_rfl) F.owner_object]
 kernel_rfl
section
variable {prog:Program} {w:World} {A:Around} {E:Value→Shared→Prop} {s:Shared}
def NewZ (s:Shared) (rs:List Sr) (Q:Value→Shared→Prop):Prop:=∀ h2 z TI TO,z=s.heap.objs.size+rs.length+2→TI=s.heap.objs.size+rs.length→TO=s.heap.objs.size+rs.length+1→IsZip h2 z TI TO .none→TupAt h2 TI (Tup2 (sbs s.heap.objs.size rs))→TupAt h2 TO ((Tup2 (sbs s.heap.objs.size rs)).map fun _=>.none) →
      (∀ b∈sbs s.heap.objs.size rs,b.on 0 h2)→h2.objs.size=s.heap.objs.size+rs.length+3→(∀ c o,s.heap.get? c=some o→h2.get? c=some o)→Q (.ref z) { s with heap:=h2 }
theorem call_zipS (rs:List Sr) (hn:rs.length=2∨rs.length=3) (x:∀ r∈rs,r.on s.heap) {Q:Value→Shared→Prop} (q:NewZ s rs Q):wpAny (model prog w) A (call (.type "zip") (rs.map fun r=>.ref r.l)) Q E s:=by
 have go:(∀ h2 z TI TO,z=s.heap.objs.size+rs.length+2→TI=s.heap.objs.size+rs.length→TO=s.heap.objs.size+rs.length+1→IsZip h2 z TI TO .none→TupAt h2 TI (Tup2 (sbs s.heap.objs.size rs))→TupAt h2 TO ((Tup2 (sbs s.heap.objs.size rs)).map fun _=>.none) →
   (∀ b∈sbs s.heap.objs.size rs,b.on 0 h2)→h2.objs.size=s.heap.objs.size+rs.length+3→(∀ c o,s.heap.get? c=some o→h2.get? c=some o)→wants (fun obj s₁=>s₁.TypeIs obj "zip" ∧ Q obj s₁) E (.ok (.ret (.ref z))) { s with heap:=h2 }):=by
  intro h2 z TI TO e1 e2 e3 g1 g2 g3 g4 g5 g6
  exact ⟨⟨_,g1,rfl⟩,q h2 z TI TO e1 e2 e3 g1 g2 g3 g4 g5 g6⟩
 match rs,hn,x,q,go with
 | [a,b],_,x,q,go=>exact callType_new F.called_zip (by decide) (F.typeCall_zip_2 _ _) (F.newCall_zip_2 _ _) (fun obj=>F.args_object_init_3 obj _ _) F.entry_zip_new (zv5 [a,b]) ⟨x,by simp,go⟩
 | [a,b,c],_,x,q,go=>exact callType_new F.called_zip (by decide) (zD9 _ _ _) (zJ2 _ _ _) (fun obj=>zO2 obj _ _ _) F.entry_zip_new (zv5 [a,b,c]) ⟨x,by simp,go⟩
 | [],h,_,_,_=>simp at h
 | [_],h,_,_,_=>simp at h
 | _::_::_::_::_,h,_,_,_=>simp at h
end
def Cont (K:PySem.W.Frag) (H:Hp) (p:Nat×Bool) (vs:List V):Prop:=if p.2=true then SqT K H p.1 vs else SqL K H p.1 vs
noncomputable def Itz (K:PySem.W.Frag) (ps:List (Nat×Bool)):L2.It :=
  ⟨fun i H=>∃ vss,Paired (Cont K H) ps vss∧∀ vs∈vss,i<vs.length,
   fun i H x H'=>∃ T row,H T=none∧x=.ref T∧H'=upd H T (.tup row)∧∀ vss,Paired (Cont K H) ps vss→row=vss.map fun vs=>vs.getD i .non,
   fun i H=>∃ vss,Paired (Cont K H) ps vss∧∃ vs∈vss,vs.length≤i⟩
section
variable {X:Cx} {pins:List (Addr×Obj)} {σ:L2.St} {H:Hp} {s:Shared}
theorem Cont.inj {p:Nat×Bool} {vs ws:List V} (I:Inv X pins σ H s) (h:Cont X.K H p vs) (g:Cont X.K H p ws):vs=ws:=by
 unfold Cont at h g
 split at h
 ·rename_i ht;rw [if_pos ht] at g;exact I.tuple_inj h g
 ·rename_i ht;rw [if_neg ht] at g;exact I.list_inj h g
theorem Cont.injs (I:Inv X pins σ H s):∀ {ps:List (Nat×Bool)} {vss wss:List (List V)},Paired (Cont X.K H) ps vss→Paired (Cont X.K H) ps wss→vss=wss
 | _,_,_,.nil,.nil=>rfl
 | _,_,_,.cons a t,.cons b u=>by rw [Cont.inj I a b,Cont.injs I t u]
theorem Cont.src {p:Nat×Bool} {vs:List V} (I:Inv X pins σ H s) (h:Cont X.K H p vs):∃ its:List Value,Vals vs its∧(⟨p.1,p.2,its⟩:Sr).on s.heap∧vs.length≤sizeLine:=by
 unfold Cont at h
 split at h
 ·rename_i ht
  obtain ⟨its,r,q,z⟩:=I.tuple h
  refine ⟨its,r,?_,z⟩
  unfold Sr.on
  rw [if_pos ht];exact q
 ·rename_i ht
  obtain ⟨its,r,q,z⟩:=I.list h
  refine ⟨its,r,?_,z⟩
  unfold Sr.on
  rw [if_neg ht];exact q.isList
theorem Cont.srcs (I:Inv X pins σ H s):∀ {ps:List (Nat×Bool)} {vss:List (List V)},Paired (Cont X.K H) ps vss→∃ rs:List Sr,rs.map (fun r=>(r.l,r.tp))=ps∧Paired (fun vs (r:Sr)=>Vals vs r.its) vss rs∧∀ r∈rs,r.on s.heap
 | [],[],.nil=>⟨[],rfl,.nil,by simp⟩
 | p::ps,vs::vss,.cons a t=>by
  obtain ⟨its,r,q,_⟩:=Cont.src I a
  obtain ⟨rs,e,pr,on⟩:=Cont.srcs I t
  refine ⟨⟨p.1,p.2,its⟩::rs,by simp [e],.cons r pr,fun r' hr=>?_⟩
  rcases List.mem_cons.mp hr with rfl | hr
  ·exact q
  ·exact on r' hr
theorem Inv.turnedL {t':Nat} {h':Heap} {ch:List Addr} (I:Inv X pins σ H s) (k:∀ b o,b∉ch→s.heap.get? b=some o→h'.get? b=some o) (hf:∀ b∈ch,FpOk X pins H b):Inv X pins σ H { s with heap:=h',toks:=t' }:=by
 refine I.step (g':=s.gens) (d':=s.drawn) (ch:=ch) (fun b hb=>?_) (fun b o _ _ hc e _=>k b o hc e) (fun b o _ _ hc e _=>⟨o.slots,k b o hc e⟩) (fun _ _ _ _ n=>n) (fun b o hc e=>⟨o,k b o hc e⟩)
  (fun _ _ e=>e) (fun _ _ _ e=>e) (fun b ps e=>⟨#[],by rw [e];simp⟩) (fun m hm=>?_) (fun b u e=>?_) I.bare
 ·obtain ⟨_,f1,_,f3,f4,f5⟩:=hf b hb
  exact ⟨f3,f1,f4,f5⟩
 ·obtain ⟨o,es,ep,ho,r⟩:=hm
  exact ⟨o,es,ep,k _ o (fun z=>(hf _ z).2.1 rfl) ho,r⟩
 ·have no:∀ c u,H c=some u→c∉ch:=fun c u e z=>by rw [(hf c z).1] at e;cases e
  refine (I.hok b u e).stay (fun c v hc q=>k c v ?_ q) (fun _ q=>q) fun _ _ q=>q
  rcases hc with z | z
  ·rw [z];exact no b u e
  ·exact no c _ z
end
def ItAt (it l:Nat) (tp:Bool) (i:Nat) (h:Heap):Prop:=if tp=true then h.IsTupleIter it l i else h.IsListIter it l i
theorem on_iff {b:Sb} {i:Nat} {h:Heap}:b.on i h↔ItAt b.it b.l b.tp i h∧(⟨b.l,b.tp,b.its⟩:Sr).on h:=by
 unfold Sb.on ItAt Sr.on
 by_cases ht:b.tp=true
 ·rw [if_pos ht,if_pos ht,if_pos ht]
 ·rw [if_neg ht,if_neg ht,if_neg ht]
theorem ItAt.keep {it l:Nat} {tp:Bool} {i:Nat} {h h':Heap} (x:ItAt it l tp i h) (k:∀ o,h.get? it=some o→h'.get? it=some o):ItAt it l tp i h':=by
 unfold ItAt at *
 split at x
 ·rename_i ht;rw [if_pos ht];exact x.at k
 ·rename_i ht;rw [if_neg ht];exact x.at k
theorem ItAt.obj {it l:Nat} {tp:Bool} {i:Nat} {h:Heap} (x:ItAt it l tp i h):∃ o,h.get? it=some o∧∀ v,o.data≠.cell v:=by
 unfold ItAt at x
 split at x
 ·obtain ⟨o,e,c,d⟩:=x;exact ⟨o,e,fun v z=>by rw [d] at z;cases z⟩
 ·obtain ⟨o,e,c,d⟩:=x;exact ⟨o,e,fun v z=>by rw [d] at z;cases z⟩
def ZTn (n0 z TI TO:Nat) (ps:List (Nat×Bool)) (i:Nat) (h:Heap):Prop :=
 IsZip h z TI TO .none∧TupAt h TI ((List.range ps.length).map fun k=>.ref (n0+k))∧(∃ ow:List Value,TupAt h TO ow∧ow.length=ps.length)∧∀ (k:Nat) p,ps[k]?=some p→ItAt (n0+k) p.1 p.2 i h
noncomputable def ZFp (n0 z TI TO:Nat) (n:Nat):List Nat:=z::TI::TO::(List.range n).map (n0 + ·)
theorem zn9 {n0:Nat} {rs:List Sr} {k:Nat}:(sbs n0 rs)[k]?=(rs[k]?).map fun r=>r.sb (n0+k):=by
 unfold sbs
 rw [List.getElem?_map,List.getElem?_zipIdx]
 cases rs[k]? <;> simp
theorem zG6 {n0:Nat} {rs:List Sr}:Tup2 (sbs n0 rs)=(List.range rs.length).map fun k=>.ref (n0+k):=by
 refine List.ext_getElem? fun k=>?_
 unfold Tup2
 rw [List.getElem?_map,zn9,List.getElem?_map]
 by_cases h:k<rs.length
 ·rw [List.getElem?_eq_getElem h,List.getElem?_range h];rfl
 ·rw [List.getElem?_eq_none (by lia),List.getElem?_eq_none (by simpa using h)];rfl
theorem zB1 {n0:Nat} {rs:List Sr}:(sbs n0 rs).length=rs.length:=by simp [sbs]
theorem zmem {n0 z TI TO b:Nat} {n:Nat} (h:b∈ZFp n0 z TI TO n):b=z∨b=TI∨b=TO∨∃ k,k<n∧b=n0+k:=by
 simp only [ZFp,List.mem_cons,List.mem_map,List.mem_range] at h
 rcases h with h | h | h | ⟨k,hk,e⟩
 ·exact .inl h
 ·exact .inr (.inl h)
 ·exact .inr (.inr (.inl h))
 ·exact .inr (.inr (.inr ⟨k,hk,e.symm⟩))
theorem get?_of_push {h:Heap} {o u:Obj} {b:Nat} (hb:b≠h.objs.size) (e:(h.push o).get? b=some u):h.get? b=some u:=by
 have hl:=Heap.lt_size e
 rw [Heap.size_push] at hl
 have hl:b<h.objs.size+1:=hl
 have hlt:b<h.objs.size:=by lia
 unfold Heap.get? Heap.push at *
 simp only [Array.getElem?_push] at e
 rw [if_neg (by lia)] at e
 exact e
theorem zfacts {n0 z TI TO:Nat} {ps:List (Nat×Bool)} {rs:List Sr} (hn:1≤ps.length∧ps.length≤3) (hz:z=n0+ps.length+2) (hTI:TI=n0+ps.length) (hTO:TO=n0+ps.length+1) (hlt:∀ p∈ps,p.1<n0) (e:rs.map (fun r=>(r.l,r.tp))=ps):ZAp z TI TO (sbs n0 rs):=by
 have hrl:rs.length=ps.length:=by rw [← e];simp
 have mem:∀ b∈sbs n0 rs,∃ k r,k<ps.length∧rs[k]?=some r∧b=r.sb (n0+k):=fun b hb=>by
  obtain ⟨k,hk,ek⟩:=List.getElem_of_mem hb
  have hg:=List.getElem?_eq_getElem hk
  rw [ek,zn9] at hg
  obtain ⟨r,hr,rfl⟩:=Option.map_eq_some_iff.mp hg
  exact ⟨k,r,by have:=(List.getElem?_eq_some_iff.mp hr).1;lia,hr,rfl⟩
 have ll:∀ r∈rs,@LT.lt Nat _ r.l n0:=fun r hr=>hlt (r.l,r.tp) (by rw [← e];exact List.mem_map.mpr ⟨r,hr,rfl⟩)
 refine ⟨fun h=>?_,by rw [zB1];lia,(show @Ne Nat TO z by lia),fun b hb=>?_,fun b hb=>?_,?_,(show @Ne Nat TI z by lia),(show @Ne Nat TI TO by lia)⟩
 ·have:rs.length=0:=by rw [← zB1 (n0:=n0),h];rfl
  lia
 ·obtain ⟨k,r,hk,hr,rfl⟩:=mem b hb
  exact ⟨(show @Ne Nat (n0+k) z by lia),(show @Ne Nat (n0+k) TO by lia),(show @Ne Nat (n0+k) TI by lia)⟩
 ·obtain ⟨k,r,hk,hr,rfl⟩:=mem b hb
  have:=ll r (List.mem_of_getElem? hr)
  refine ⟨?_,?_,fun c hc=>?_⟩
  ·show @Ne Nat r.l z;lia
  ·show @Ne Nat r.l TO;lia
  ·obtain ⟨k2,r2,_,_,rfl⟩:=mem c hc
   show @Ne Nat r.l (n0+k2);lia
 ·have:(sbs n0 rs).map Sb.it=(List.range rs.length).map (n0 + ·):=by
   refine List.ext_getElem? fun k=>?_
   rw [List.getElem?_map,zn9,List.getElem?_map]
   by_cases h:k<rs.length
   ·rw [List.getElem?_eq_getElem h,List.getElem?_range h];rfl
   ·rw [List.getElem?_eq_none (by lia),List.getElem?_eq_none (by simpa using h)];rfl
  rw [this]
  unfold List.Nodup
  rw [List.pairwise_map]
  exact List.nodup_range.imp fun h e=>h (Nat.add_left_cancel e)
theorem zon {n0:Nat} {ps:List (Nat×Bool)} {rs:List Sr} {i:Nat} {h:Heap} (e:rs.map (fun r=>(r.l,r.tp))=ps) (t4:∀ (k:Nat) p,ps[k]?=some p→ItAt (n0+k) p.1 p.2 i h) (on:∀ r∈rs,r.on h):∀ b∈sbs n0 rs,b.on i h:=fun b hb=>by
 obtain ⟨k,hk,ek⟩:=List.getElem_of_mem hb
 have hg:=List.getElem?_eq_getElem hk
 rw [ek,zn9] at hg
 obtain ⟨r,hr,rfl⟩:=Option.map_eq_some_iff.mp hg
 refine on_iff.mpr ⟨?_,on r (List.mem_of_getElem? hr)⟩
 exact t4 k (r.l,r.tp) (by rw [← e,List.getElem?_map,hr];rfl)
theorem zrow {i:Nat}:∀ {vss:List (List V)} {rs:List Sr},Paired (fun vs (r:Sr)=>Vals vs r.its) vss rs→(∀ vs∈vss,i<vs.length)→∃ (row:List V) (us:List Value),row=vss.map (fun vs=>vs.getD i .non)∧Vals row us∧us.length=rs.length∧∀ (k:Nat) r,rs[k]?=some r→∃ x,r.its[i]?=some x∧us[k]?=some x
 | [],[],.nil,_=>⟨[],[],rfl,.nil,rfl,fun k r h=>by simp at h⟩
 | vs::vss,r::rs,.cons h t,hl=>by
  obtain ⟨row,us,e1,e2,e3,e4⟩:=zrow t fun v hv=>hl v (List.mem_cons_of_mem _ hv)
  have hi:=hl vs (by simp)
  obtain ⟨u,hu,ru⟩:=h.get (List.getElem?_eq_getElem hi)
  refine ⟨vs[i]::row,u::us,?_,.cons ru e2,by simp [e3],fun k r' hr=>?_⟩
  ·rw [List.map_cons,e1,List.getD_eq_getElem?_getD,List.getElem?_eq_getElem hi];rfl
  ·cases k with
   | zero=>simp at hr;subst hr;exact ⟨u,hu,rfl⟩
   | succ k =>
    obtain ⟨x,b1,b2⟩:=e4 k r' (by simpa using hr)
    exact ⟨x,b1,by simpa using b2⟩
theorem zend {n0:Nat} {i:Nat}:∀ {vss:List (List V)} {rs:List Sr},Paired (fun vs (r:Sr)=>Vals vs r.its) vss rs→(∃ vs∈vss,vs.length≤i)→∃ b∈sbs n0 rs,b.its[i]?=none:=by
 intro vss rs h hv
 obtain ⟨vs,hm,hle⟩:=hv
 have:∃ r∈rs,r.its[i]?=none:=by
  clear n0
  induction h with
  | nil=>cases hm
  | cons hh t ih =>
   rcases List.mem_cons.mp hm with rfl | hm
   ·exact ⟨_,List.mem_cons_self,List.getElem?_eq_none (by have:=hh.length;lia)⟩
   ·obtain ⟨r,hr,e⟩:=ih hm
    exact ⟨r,List.mem_cons_of_mem _ hr,e⟩
 obtain ⟨r,hr,e⟩:=this
 obtain ⟨k,hk,ek⟩:=List.getElem_of_mem hr
 exact ⟨r.sb (n0+k),List.mem_of_getElem? (by rw [zn9,List.getElem?_eq_getElem hk,ek];rfl),e⟩
theorem turn_zip {P:Program} {w:World} {K:PySem.W.Frag} {elts:List Expr} {x1} {pos:Pos} (n0 z TI TO:Nat) (ps:List (Nat×Bool)) (hn:1≤ps.length∧ps.length≤3) (hz:z=n0+ps.length+2) (hTI:TI=n0+ps.length) (hTO:TO=n0+ps.length+1) (hlt:∀ p∈ps,p.1<n0) :
  Turn P w K (.Tuple elts x1 pos) (Itz K ps) (ZFp n0 z TI TO ps.length) z (ZTn n0 z TI TO ps) where
 mem:=by simp [ZFp]
 obj:=fun i h st b hb=>by
  obtain ⟨t1,t2,⟨ow,t3,_⟩,t4⟩:=st
  simp only [ZFp,List.mem_cons,List.mem_map,List.mem_range] at hb
  rcases hb with rfl | rfl | rfl | ⟨k,hk,rfl⟩
  ·exact ⟨_,t1,fun v e=>by cases e⟩
  ·exact ⟨_,t2,fun v e=>by cases e⟩
  ·exact ⟨_,t3,fun v e=>by cases e⟩
  ·exact (t4 k _ (List.getElem?_eq_getElem hk)).obj
 keep:=fun i h h' st k=>by
  obtain ⟨t1,t2,⟨ow,t3,t3'⟩,t4⟩:=st
  refine ⟨k z (by simp [ZFp]) _ t1,k TI (by simp [ZFp]) _ t2,⟨ow,k TO (by simp [ZFp]) _ t3,t3'⟩,fun j p hj=>(t4 j p hj).keep fun o e=>k _ ?_ o e⟩
  have:=(List.getElem?_eq_some_iff.mp hj).1
  simp only [ZFp,List.mem_cons,List.mem_map,List.mem_range]
  exact .inr (.inr (.inr ⟨j,this,rfl⟩))
 item:=by
  intro X hP hw hK hc i pins s σ H E I hf st hg
  subst hP hw hK
  obtain ⟨t1,t2,⟨ow,t3,t3'⟩,t4⟩:=st
  obtain ⟨vss,pr,hlen⟩:=hg
  obtain ⟨rs,ers,prs,on⟩:=Cont.srcs I pr
  have hrl:rs.length=ps.length:=by rw [← ers];simp
  have F:=zfacts hn hz hTI hTO hlt ers
  have hzl:z<s.heap.objs.size:=Heap.lt_size t1
  have hTOl:TO<s.heap.objs.size:=Heap.lt_size t3
  obtain ⟨row,vs,hrow,hvs,hvl,hget⟩:=zrow prs hlen
  refine zM7 (bs:=sbs n0 rs) (i:=i) (vs:=vs) (ow:=ow) F t1 (by rw [zG6,hrl];exact t2) t3 (by rw [t3',zB1,hrl]) (zon ers t4 on) (by rw [hvl,zB1]) (by
   intro k b hb
   rw [zn9] at hb
   obtain ⟨r,hr,rfl⟩:=Option.map_eq_some_iff.mp hb
   exact hget k r hr) fun h2 z2 to2 on2 tup2 sz2 kp2=>⟨_,rfl,?_⟩
  refine wpAny_letOwnedTupleGo_zip z2 fun h3 z3 s3=>?_
  have hTne:s.heap.objs.size≠z:=Nat.ne_of_gt hzl
  have hfresh:=I.fresh
  -- the new tuple laid,then the zip's own objects turned
  have hrz:row.length≤sizeLine:=by
   have e:=hvs.length
   have:sizeLine=16777216:=by decide
   lia
  have I1:Inv X pins σ (upd H s.heap.objs.size (.tup row)) { s with heap:=s.heap.push { cls:=.type "tuple", data:=.seq vs.toArray } } :=
   I.laid (t':=s.toks) (fun b o e=>Heap.get?_push_of_some _ e) (Nat.le_refl _) (show ObjOk X.prog X.w _ _ _ (.tup row) from ⟨hrz,vs,hvs,IsTupD.new _ _⟩)
  have fpn:∀ b∈ZFp n0 z TI TO ps.length,b≠s.heap.objs.size:=fun b hb e=>by
   subst e
   rcases zmem hb with rfl | rfl | rfl | ⟨k,hk,e⟩
   ·exact hTne rfl
   ·exact absurd (Heap.lt_size t2) (by lia)
   ·exact absurd hTOl (by lia)
   ·obtain ⟨o,e1,_⟩:=(t4 k _ (List.getElem?_eq_getElem hk)).obj
    have:=Heap.lt_size e1
    lia
  have hf1:∀ b∈ZFp n0 z TI TO ps.length,FpOk X pins (upd H s.heap.objs.size (.tup row)) b:=fun b hb=>⟨by rw [ze6 (fpn b hb)];exact (hf b hb).1,(hf b hb).2⟩
  have I2:Inv X pins σ (upd H s.heap.objs.size (.tup row)) { s with heap:=h3 }:=by
   refine Inv.turnedL (s:={ s with heap:=s.heap.push { cls:=.type "tuple", data:=.seq vs.toArray } }) (t':=s.toks) (ch:=ZFp n0 z TI TO ps.length) I1 (fun b o hb e=>?_) hf1
   have nb:b≠z∧b≠TO∧∀ c∈sbs n0 rs,b≠c.it:=by
    refine ⟨fun e=>hb (by simp [ZFp,e]),fun e=>hb (by simp [ZFp,e]),fun c hc e=>hb ?_⟩
    obtain ⟨k,hk,ek⟩:=List.getElem_of_mem hc
    have hg:=List.getElem?_eq_getElem hk
    rw [ek,zn9] at hg
    obtain ⟨r,hr,rfl⟩:=Option.map_eq_some_iff.mp hg
    have hkl:=(List.getElem?_eq_some_iff.mp hr).1
    simp only [ZFp,List.mem_cons,List.mem_map,List.mem_range]
    exact .inr (.inr (.inr ⟨k,by lia,by rw [e];rfl⟩))
   by_cases hbs:b=s.heap.objs.size
   ·subst hbs
    have e:some { cls:=Value.type "tuple", data:=Data.seq vs.toArray }=some o:=by rw [← e];exact (Heap.get?_push_size _ rfl).symm
    cases e
    exact s3.extBut _ _ hTne tup2
   ·have e':s.heap.get? b=some o:=get?_of_push hbs e
    exact s3.extBut _ _ nb.1 (kp2 b o nb.1 nb.2.1 nb.2.2 e')
  refine ⟨.ref s.heap.objs.size,_,I2,rfl,⟨_,row,hfresh,rfl,rfl,fun wss pw=>?_⟩,⟨z3,?_,⟨vs,s3.extBut _ _ F.zT to2,by rw [hvl,hrl]⟩,?_⟩,fun b hb=>by rw [ze6 (fpn b hb)];exact (hf b hb).1⟩
  ·rw [hrow,Cont.injs I pw pr]
  ·have:=kp2 TI _ F.Tz.1 F.Tz.2 (fun b hb=>(F.iz b hb).2.2.symm) t2
   exact s3.extBut _ _ F.Tz.1 this
  ·intro k p hk
   have hr:∃ r,rs[k]?=some r∧(r.l,r.tp)=p:=by
    rw [← ers,List.getElem?_map] at hk
    obtain ⟨r,e1,e2⟩:=Option.map_eq_some_iff.mp hk
    exact ⟨r,e1,e2⟩
   obtain ⟨r,hr,rfl⟩:=hr
   have hb:(sbs n0 rs)[k]?=some (r.sb (n0+k)):=by rw [zn9,hr];rfl
   have hm:=List.mem_of_getElem? hb
   exact ((on_iff.mp (on2 _ hm)).1).keep fun o e=>s3.extBut _ _ (F.iz _ hm).1 e
 done:=by
  intro X hP hw hK hc i pins s σ H E I hf st hg
  subst hP hw hK
  obtain ⟨t1,t2,⟨ow,t3,t3'⟩,t4⟩:=st
  obtain ⟨vss,pr,hend⟩:=hg
  obtain ⟨rs,ers,prs,on⟩:=Cont.srcs I pr
  have hrl:rs.length=ps.length:=by rw [← ers];simp
  have F:=zfacts hn hz hTI hTO hlt ers
  refine zP4 (bs:=sbs n0 rs) (i:=i) (ow:=ow) (I.ok.hd hc) F t1 (by rw [zG6,hrl];exact t2) t3 (by rw [t3',zB1,hrl]) (zon ers t4 on) (zend prs hend) fun h2 kp2=>⟨rfl,?_⟩
  refine Inv.turnedL (t':=s.toks) (ch:=ZFp n0 z TI TO ps.length) I (fun b o hb e=>?_) hf
  refine kp2 b o (fun e=>hb (by simp [ZFp,e])) (fun e=>hb (by simp [ZFp,e])) (fun c hc e=>hb ?_) e
  obtain ⟨k,hk,ek⟩:=List.getElem_of_mem hc
  have hg:=List.getElem?_eq_getElem hk
  rw [ek,zn9] at hg
  obtain ⟨r,hr,rfl⟩:=Option.map_eq_some_iff.mp hg
  have hkl:=(List.getElem?_eq_some_iff.mp hr).1
  simp only [ZFp,List.mem_cons,List.mem_map,List.mem_range]
  exact .inr (.inr (.inr ⟨k,by lia,by rw [e];rfl⟩))
 self:=fun _ _ _ _ _ st h=>wpAny_pyIter_zip st.1 h
open PySem L2 PySem.SeqAt PyProof.Rows
noncomputable def iZip (K:PySem.W.Frag) (ta:TA):TI:=fun σ H R=>ta σ H fun vs H1=>∃ ps:List (Nat×Bool),vs=ps.map (fun p=>V.ref p.1)∧(ps.length=2∨ps.length=3)∧∃ vss,Paired (Cont K H1) ps vss∧((∀ vs∈vss,vs.length≤sizeLine)→R (Itz K ps) H1)
section
variable {X:Cx} {C:CallF} {e:Expr} {es elts:List Expr} {x1:Nat} {tpos pos p:Pos} {ta:TA} {irs:List E}
theorem zK9:∀ {ps:List (Nat×Bool)} {us:List Value},Vals (ps.map fun p=>V.ref p.1) us→us=ps.map fun p=>Value.ref p.1
 | [],_,.nil=>rfl
 | p::ps,_,.cons r t=>by rw [zK9 t,show _=Value.ref p.1 from r];rfl
theorem Cont.sizes {pins:List (Addr×Obj)} {σ:L2.St} {H:Hp} {s:Shared} (I:Inv X pins σ H s):∀ {ps:List (Nat×Bool)} {vss:List (List V)},Paired (Cont X.K H) ps vss→∀ vs∈vss,vs.length≤sizeLine
 | _,_,.nil=>fun vs h=>by cases h
 | _,_,.cons a t=>fun vs h=>by
  rcases List.mem_cons.mp h with rfl | h
  ·obtain ⟨_,_,_,z⟩:=Cont.src I a;exact z
  ·exact Cont.sizes I t vs h
theorem pi_zip (hg:Gl X "zip") (hm:X.mg "zip" = none) (hv:bootBuiltins "zip" = some (.type "zip")) (ha:PA X (e::es) ta)
  (he:starEach (e::es) X.env=(false,eval e X.env)::starEach es X.env) (hpl:(backTo pos (starEach es X.env)).any (·.1)=false):PI X (.Tuple elts x1 tpos) (.Call (.Name "zip" p) (e::es) [] pos) (iZip X.K ta):=by
 intro pins s σ H R I h
 refine wpAny_Call_Name_kw (zS6 I hg hm hv ?_)
 refine PyProof.Rows.callWith_type1 (thn (ha pos pins s σ H _ I h) fun us s1 ⟨vs,H1,I1,r1,q1⟩=>?_) he hpl
 obtain ⟨ps,rfl,hn,vss,pr,hR⟩:=q1
 have hR:=hR (Cont.sizes I1 pr)
 have hus:=zK9 r1
 subst hus
 obtain ⟨rs,ers,prs,on⟩:=Cont.srcs I1 pr
 have hrl:rs.length=ps.length:=by rw [← ers];simp
 have eus:(ps.map fun p=>Value.ref p.1)=rs.map fun r=>Value.ref r.l:=by rw [← ers,List.map_map];rfl
 rw [eus]
 refine call_zipS rs (by lia) on ?_
 intro h2 z TI TO e1 e2 e3 g1 g2 g3 g4 g5 g6
 refine wpAny_pyIter_zip g1 ?_
 have hlt:∀ p∈ps,p.1<s1.heap.objs.size:=fun p hp=>by
  rw [← ers] at hp
  obtain ⟨r,hr,rfl⟩:=List.mem_map.mp hp
  exact Sr.lt (on r hr)
 have hfp:∀ b∈ZFp s1.heap.objs.size z TI TO ps.length,s1.heap.objs.size≤b:=fun b hb=>by
  rcases zmem hb with rfl | rfl | rfl | ⟨k,hk,rfl⟩ <;> lia
 refine ⟨z,ZFp s1.heap.objs.size z TI TO ps.length,ZTn s1.heap.objs.size z TI TO ps,Itz X.K ps,H1,rfl,I1.kept (t':=s1.toks) g6,turn_zip _ _ _ _ _ (by lia) (by lia) (by lia) (by lia) hlt,⟨g1,?_,⟨_,g3,?_⟩,fun k p hk=>?_⟩,fun b hb=>I1.fpOk (hfp b hb) (I1.hok.fresh (hfp b hb)),hR⟩
 ·rw [zG6,hrl] at g2;exact g2
 ·rw [List.length_map,zG6,List.length_map,List.length_range,hrl]
 ·rw [← ers,List.getElem?_map] at hk
  obtain ⟨r,c1,rfl⟩:=Option.map_eq_some_iff.mp hk
  have hb:(sbs s1.heap.objs.size rs)[k]?=some (r.sb (s1.heap.objs.size+k)):=by rw [zn9,c1];rfl
  exact (on_iff.mp (g4 _ (List.mem_of_getElem? hb))).1
theorem z_src {K:PySem.W.Frag} {α:Al} {st:Store} {H:Hp}:∀ {xs:List PV} {ls:List (List PV)} {ws:List V},xs.mapM zItems=some ls→Paired (RV K α st H) (xs.map .p) ws →
  ∃ (ps:List (Nat×Bool)) (vss:List (List V)),ws=ps.map (fun p=>V.ref p.1)∧ps.length=xs.length∧Paired (Cont K H) ps vss∧Paired (fun (l:List PV) vs=>RPs K H (Live α st) l vs) ls vss ∧
   ∀ α' st' H',Lk K α st H α' st' H'→RSt K α' st' H'→Paired (Cont K H') ps vss∧Paired (fun (l:List PV) vs=>RPs K H' (Live α' st') l vs) ls vss
 | [],ls,ws,h,pr=>by
  cases pr
  cases h
  exact ⟨[],[],rfl,rfl,.nil,.nil,fun _ _ _ _ _=>⟨.nil,.nil⟩⟩
 | x::xr,ls,ws,h,pr=>by
  rw [List.map_cons] at pr
  cases pr with
  | cons hv t =>
   rw [List.mapM_cons] at h
   cases e1:zItems x with
   | none=>rw [e1] at h;cases h
   | some l =>
    rw [e1] at h
    cases e2:xr.mapM zItems with
    | none=>rw [e2] at h;cases h
    | some lr =>
     rw [e2] at h
     cases h
     obtain ⟨ps,vss,rfl,hl,c1,c2,c3⟩:=z_src e2 t
     cases x with
     | tup l' =>
      cases e1
      have hv:RP K H (Live α st) (.tup l) _:=hv
      rw [RP] at hv
      obtain ⟨a,vs,rfl,h1,h2⟩:=hv
      refine ⟨(a,true)::ps,vs::vss,rfl,by simp [hl],.cons (by unfold Cont;rw [if_pos rfl];exact h1) c1,.cons h2 c2,fun α' st' H' lk r'=>?_⟩
      obtain ⟨d1,d2⟩:=c3 α' st' H' lk r'
      exact ⟨.cons (by unfold Cont;rw [if_pos rfl];exact lk.tup a vs h1) d1,.cons (lk.rps h2) d2⟩
     | lst l' =>
      cases e1
      have hv:RP K H (Live α st) (.lst l) _:=hv
      rw [RP] at hv
      obtain ⟨a,vs,rfl,h1,h0,h2⟩:=hv
      refine ⟨(a,false)::ps,vs::vss,rfl,by simp [hl],.cons (by unfold Cont;rw [if_neg (by simp)];exact h1) c1,.cons h2 c2,fun α' st' H' lk r'=>?_⟩
      obtain ⟨d1,d2⟩:=c3 α' st' H' lk r'
      exact ⟨.cons (by unfold Cont;rw [if_neg (by simp)];exact (lk.lst a vs h1 h0).1) d1,.cons (lk.rps h2) d2⟩
     | _=>cases e1
theorem z_row {K:PySem.W.Frag} {H:Hp} {lv:Addr→Prop} {i:Nat}:∀ {ls:List (List PV)} {vss:List (List V)},Paired (fun (l:List PV) vs=>RPs K H lv l vs) ls vss→(∀ l∈ls,i<l.length) →
  RPs K H lv (ls.map fun l=>l.getD i .non) (vss.map fun vs=>vs.getD i .non)
 | _,_,.nil,_=>by simp [RPs]
 | l::ls,vs::vss,.cons h t,hl=>by
  have hi:=hl l (by simp)
  obtain ⟨v,hv,rp⟩:=h.get (List.getElem?_eq_getElem hi)
  rw [List.map_cons,List.map_cons,RPs]
  refine ⟨_,_,rfl,?_,z_row t fun l' h'=>hl l' (List.mem_cons_of_mem _ h')⟩
  rw [List.getD_eq_getElem?_getD,List.getD_eq_getElem?_getD,hv,List.getElem?_eq_getElem hi]
  exact rp
theorem zU9 {K:PySem.W.Frag} {H:Hp} {lv:Addr→Prop}:∀ {ls:List (List PV)} {vss:List (List V)},Paired (fun (l:List PV) vs=>RPs K H lv l vs) ls vss→vss.map List.length=ls.map List.length
 | _,_,.nil=>rfl
 | _,_,.cons h t=>by rw [List.map_cons,List.map_cons,zU9 t,RPs.length h]
theorem zJ1 {ls:List (List PV)} (hn:ls.length=2∨ls.length=3) (i:Nat):i<(zipRows ls).length↔∀ l∈ls,i<l.length:=by
 match ls,hn with
 | [a,b],_=>simp [zipRows];lia
 | [a,b,c],_=>simp [zipRows];lia
 | [],h=>simp at h
 | [_],h=>simp at h
 | _::_::_::_::_,h=>simp at h
theorem zip_get {ls:List (List PV)} (hn:ls.length=2∨ls.length=3) {i:Nat} {x:PV} (h:(zipRows ls)[i]?=some x):x=.tup (ls.map fun l=>l.getD i .non):=by
 have hi:=(zJ1 hn i).mp (List.getElem?_eq_some_iff.mp h).1
 match ls,hn with
 | [a,b],_ =>
  have ha:=hi a (by simp)
  have hb:=hi b (by simp)
  simp only [zipRows,List.getElem?_map,Option.map_eq_some_iff] at h
  obtain ⟨⟨u,v⟩,h1,rfl⟩:=h
  obtain ⟨h2,h3⟩:=List.getElem?_zip_eq_some.mp h1
  simp [h2,h3]
 | [a,b,c],_ =>
  have ha:=hi a (by simp)
  have hb:=hi b (by simp)
  have hc:=hi c (by simp)
  simp only [zipRows,List.getElem?_map,Option.map_eq_some_iff] at h
  obtain ⟨⟨u,v,y⟩,h1,rfl⟩:=h
  obtain ⟨h2,h3⟩:=List.getElem?_zip_eq_some.mp h1
  obtain ⟨h4,h5⟩:=List.getElem?_zip_eq_some.mp h3
  simp [h2,h4,h5]
 | [],h=>simp at h
 | [_],h=>simp at h
 | _::_::_::_::_,h=>simp at h
theorem si_zip (hn:irs.length=2∨irs.length=3) (hg:Gl X "zip") (hm:X.mg "zip" = none) (hv:bootBuiltins "zip" = some (.type "zip")) (ha:SA X C (e::es) irs)
  (he:starEach (e::es) X.env=(false,eval e X.env)::starEach es X.env) (hpl:(backTo pos (starEach es X.env)).any (·.1)=false):SI X C (.Tuple elts x1 tpos) (.Call (.Name "zip" p) (e::es) [] pos) (.zip irs) :=
 PI.mono (pi_zip hg hm hv ha he hpl) fun σ H R h_=>by
  obtain ⟨env,α,st,rows,src,st',at',ev,q⟩:=h_
  rw [evIt_zip] at ev
  obtain ⟨xs,st1,e1,ev⟩:=Res.bind_inv ev
  have hxl:=zw3 e1
  refine ⟨env,α,st,xs.map .p,st1,at',zD4 e1,fun ws H1 α1 x1 r1 pr=>?_⟩
  have ev:(match xs.mapM zItems with | some ls=>Res.ok (zipRows ls,none) st1 | none=>.stuck)=Res.ok (rows,src) st':=ev
  cases hz:xs.mapM zItems with
  | none=>rw [hz] at ev;cases ev
  | some ls =>
   rw [hz] at ev
   cases ev
   obtain ⟨ps,vss,rfl,hpl',c1,c2,c3⟩:=z_src hz pr
   have hll:ls.length=xs.length:=by
    have:=zU9 c2
    have l1:=congrArg List.length this
    simp at l1
    have:∀ {ps:List (Nat×Bool)} {vss:List (List V)},Paired (Cont X.K H1) ps vss→ps.length=vss.length:=by
     intro ps vss h
     induction h with
     | nil=>rfl
     | cons _ _ ih=>simp [ih]
    have l2:=this c1
    lia
   have hn3:ls.length=2∨ls.length=3:=by lia
   refine ⟨ps,rfl,by lia,vss,c1,fun hsize=>q _ _ _ x1 r1 (fun α2 st2 H2 x2 r2 _=>?_) ?_⟩
   ·obtain ⟨d1,d2⟩:=c3 α2 st2 H2 x2 r2
    have dl:=zU9 d2
    have lenM:∀ i,(∀ l∈ls,i<l.length)↔∀ vs∈vss,i<vs.length:=fun i=>by
     have k1:(∀ l∈ls,i<l.length)↔∀ n∈ls.map List.length,i<n:=by simp
     have k2:(∀ vs∈vss,i<vs.length)↔∀ n∈vss.map List.length,i<n:=by simp
     rw [k1,k2,dl]
    refine ⟨fun i hi=>⟨vss,d1,(lenM i).mp ((zJ1 hn3 i).mp hi)⟩,fun i x w H' hx ⟨T,row,hT,hw,hH,hrow⟩=>?_,fun i hi=>?_⟩
    ·subst hw hH
     have s1:Same H2 (upd H2 T (.tup row)):=zh7 hT _
     refine ⟨s1,?_⟩
     rw [zip_get hn3 hx,RP,hrow vss d1]
     refine ⟨T,_,rfl,SqT.of zf5,?_⟩
     have hi:=(zJ1 hn3 i).mp (List.getElem?_eq_some_iff.mp hx).1
     rw [hrow vss d1] at s1
     exact (Ext.of_same r2 s1).rps (z_row d2 hi)
    ·have:¬ ∀ vs∈vss,i<vs.length:=fun h=>by
      have:=(zJ1 hn3 i).mpr ((lenM i).mpr h)
      lia
     simp only [Classical.not_forall] at this
     obtain ⟨vs,hm,hlt⟩:=this
     exact ⟨vss,d1,vs,hm,by lia⟩
   ·have hsz:∀ l∈ls,l.length≤sizeLine:=by
     have k1:(∀ l∈ls,l.length≤sizeLine)↔∀ n∈ls.map List.length,n≤sizeLine:=by simp
     have k2:(∀ vs∈vss,vs.length≤sizeLine)↔∀ n∈vss.map List.length,n≤sizeLine:=by simp
     rw [k1,← zU9 c2,← k2];exact hsize
    match ls,hn3,hsz with
    | [a,b],_,hsz=>have:=hsz a (by simp);simp [zipRows];lia
    | [a,b,c],_,hsz=>have:=hsz a (by simp);simp [zipRows];lia
    | [],h,_=>simp at h
    | [_],h,_=>simp at h
    | _::_::_::_::_,h,_=>simp at h
end
open PySem L2 PySem.SeqAt PyProof.Rows
section
variable {X:Cx} {C:CallF} {pos:Pos}
noncomputable def tDNewF (K:PySem.W.Frag):TE:=fun _ H Q=>∀ p,H p=none→K.lookup p=none→Q (.ref p) (upd H p (.dK []))
theorem pe_dnewF:PE X (.Dict [] [] pos) (tDNewF X.K):=fun pins s σ H Q I h =>
 wpAny_Dict_empty ⟨.ref s.heap.objs.size,_,I.laid (a:=s.heap.objs.size) (o:=.dK []) (t':=s.toks) (fun _ _ q=>Heap.get?_push_of_some _ q) (Nat.le_refl _) (zT3 s.heap I.big),rfl,h _ (I.hok.fresh (Nat.le_refl _)) (zs2 I)⟩
theorem se_dict0:SE X C (.Dict [] [] pos) (.dict [] []) :=
 PE.mono pe_dnewF fun σ H Q h_=>by
  obtain ⟨env,α,st,v,st',at',e,q⟩:=h_
  rw [ev_dict] at e
  obtain ⟨xs,st1,e1,e⟩:=Res.bind_inv e
  rw [evPs_nil] at e1
  cases e1
  intro p hp hK
  have ex0:=zG3 (o:=.dct []) (h':=.dK []) at'.rs hp hK
  have rs0:=zO3 (o:=.dct []) (h':=.dK []) at'.rs hp hK (fun xs z=>by cases z) (fun kvs z=>by cases z;exact ⟨[],rfl,by rw [RKV]⟩)
  have ha:=zL8 (p:=p) at'.rs
  have hob:objAt (st++[PObj.dct []]) st.length=some (.dct []):=by simp [objAt]
  have e:(match objAt (st++[PObj.dct []]) st.length with | some (.dct [])=>Res.ok (Val.ref st.length) ((st++[PObj.dct []]).set st.length (.dct ((([]:List PV).zip []).foldl (fun (d:List (PV×PV)) (p:PV×PV)=>dPut p.1 p.2 d) []))) | _=>.stuck)=.ok v st':=e
  rw [hob] at e
  have hs:(st++[PObj.dct []]).set st.length (.dct [])=st++[PObj.dct []]:=by simp
  have e:Res.ok (Val.ref st.length) ((st++[PObj.dct []]).set st.length (.dct []))=.ok v st':=e
  rw [hs] at e
  cases e
  exact q _ _ _ ex0 rs0 ⟨p,rfl,ha⟩
end
theorem len1 {fd:FuncData} {ps:List Str} (h:∀ a,bindArgs fd ⟨[a],[]⟩=pure (ps.zip [a])):∀ us:List Value,us.length=1→bindArgs fd ⟨us,[]⟩=pure (ps.zip us)
 | [a],_=>h a
theorem len2 {fd:FuncData} {ps:List Str} (h:∀ a b,bindArgs fd ⟨[a,b],[]⟩=pure (ps.zip [a,b])):∀ us:List Value,us.length=2→bindArgs fd ⟨us,[]⟩=pure (ps.zip us)
 | [a,b],_=>h a b
theorem len3 {fd:FuncData} {ps:List Str} (h:∀ a b c,bindArgs fd ⟨[a,b,c],[]⟩=pure (ps.zip [a,b,c])):∀ us:List Value,us.length=3→bindArgs fd ⟨us,[]⟩=pure (ps.zip us)
 | [a,b,c],_=>h a b c
open PySem L2 PySem.SeqAt PyProof.Rows
theorem zp4 {α:Type} {l:List (Str×α)} {x y:Str} {v c:α} (h:((y,v)::l).lookup x=some c):(x=y∧c=v)∨(x≠y∧l.lookup x=some c):=by
 rw [List.lookup_cons] at h
 cases e:x==y with
 | true=>rw [e] at h;cases h;exact .inl ⟨beq_iff_eq.mp e,rfl⟩
 | false=>rw [e] at h;exact .inr ⟨by simpa using e,h⟩
theorem zC9 (b0:Nat):∀ (names:List (Str×NameKind)) (h:Heap) (acc:List (Str×Addr)),b0≤h.objs.size→(∀ x c,acc.lookup x=some c→c<h.objs.size) →
  (∀ x y c,acc.lookup x=some c→acc.lookup y=some c→b0≤c→x=y)→(∀ x c,acc.lookup x=some c→b0≤c→h.IsCell c none) →
  (∀ x y c,(cellsFrom h.objs.size names acc).lookup x=some c→(cellsFrom h.objs.size names acc).lookup y=some c→b0≤c→x=y)∧(∀ x c,(cellsFrom h.objs.size names acc).lookup x=some c→b0≤c→(pushCells h names).IsCell c none) ∧
  (∀ x c,(cellsFrom h.objs.size names acc).lookup x=some c→b0≤c∨acc.lookup x=some c)∧(∀ x,(x,NameKind.cell)∉names→(cellsFrom h.objs.size names acc).lookup x=acc.lookup x) ∧
  (∀ x,((x,NameKind.cell)∈names∨∃ c,acc.lookup x=some c)→∃ c,(cellsFrom h.objs.size names acc).lookup x=some c)∧∀ x c,(x,NameKind.cell)∈names→(cellsFrom h.objs.size names acc).lookup x=some c→b0≤c
 | [],h,acc,_,_,a2,a3=>⟨a2,a3,fun _ _ e=>.inr e,fun _ _=>rfl,fun x e=>by
  rcases e with e | e
  ·cases e
  ·exact e,fun _ _ e=>by cases e⟩
 | (name,kind)::r,h,acc,hb,a1,a2,a3=>by
  unfold cellsFrom pushCells
  by_cases hk:(kind==NameKind.cell)=true
  ·rw [if_pos hk,if_pos hk]
   have hk':kind=.cell:=by simpa using hk
   have hsz:(h.push { cls:=.type "cell", data:=.cell none }).objs.size=h.objs.size+1:=Heap.size_push _ _
   have ih:=zC9 b0 r (h.push { cls:=.type "cell", data:=.cell none }) ((name,h.objs.size)::acc) (by rw [hsz];exact Nat.le_succ_of_le hb)
    (fun x c e=>by
     rw [hsz]
     rcases zp4 e with ⟨_,rfl⟩ | ⟨_,e⟩
     ·exact Nat.lt_succ_self _
     ·exact Nat.lt_succ_of_lt (a1 x c e))
    (fun x y c e1 e2 hbp=>by
     rcases zp4 e1 with ⟨z1,w1⟩ | ⟨_,e1⟩ <;> rcases zp4 e2 with ⟨z2,w2⟩ | ⟨_,e2⟩
     ·rw [z1,z2]
     ·exact absurd (w1▸a1 y c e2) (Nat.lt_irrefl _)
     ·exact absurd (w2▸a1 x c e1) (Nat.lt_irrefl _)
     ·exact a2 x y c e1 e2 hbp)
    (fun x c e hbp=>by
     rcases zp4 e with ⟨_,rfl⟩ | ⟨_,e⟩
     ·exact ⟨_,Heap.get?_push_size _ rfl,rfl⟩
     ·exact (a3 x c e hbp).keeps fun b o e=>Heap.get?_push_of_some _ e)
   rw [hsz] at ih
   obtain ⟨i1,i2,i3,i4,i5,i6⟩:=ih
   refine ⟨i1,i2,fun x c e=>?_,fun x hx=>?_,fun x hx=>i5 x ?_,fun x c hx e=>?_⟩
   ·rcases i3 x c e with z | z
    ·exact .inl z
    ·rcases zp4 z with ⟨_,rfl⟩ | ⟨_,z⟩
     ·exact .inl hb
     ·exact .inr z
   ·rw [i4 x (fun z=>hx (List.mem_cons_of_mem _ z)),List.lookup_cons]
    split
    ·rename_i hx'
     exact absurd (by rw [hk',beq_iff_eq.mp hx'];exact List.mem_cons_self) hx
    ·rfl
   ·rcases hx with hx | ⟨c,hx⟩
    ·rcases List.mem_cons.mp hx with e | e
     ·cases e;exact .inr ⟨h.objs.size,by rw [List.lookup_cons];simp⟩
     ·exact .inl e
    ·refine .inr ?_
     rw [List.lookup_cons]
     split
     ·exact ⟨_,rfl⟩
     ·exact ⟨c,hx⟩
   ·by_cases hr:(x,NameKind.cell)∈r
    ·exact i6 x c hr e
    ·rcases List.mem_cons.mp hx with z | z
     ·cases z
      rw [i4 _ hr] at e
      rcases zp4 e with ⟨_,rfl⟩ | ⟨z,_⟩
      ·exact hb
      ·exact absurd rfl z
     ·exact absurd z hr
  ·rw [if_neg hk,if_neg hk]
   obtain ⟨i1,i2,i3,i4,i5,i6⟩:=zC9 b0 r h acc hb a1 a2 a3
   have inr:∀ x,(x,NameKind.cell)∈(name,kind)::r→(x,NameKind.cell)∈r:=fun x hx=>by
    rcases List.mem_cons.mp hx with e | e
    ·cases e;exact absurd rfl hk
    ·exact e
   exact ⟨i1,i2,i3,fun x hx=>i4 x fun z=>hx (List.mem_cons_of_mem _ z),fun x hx=>i5 x (hx.imp (inr x) id),fun x c hx e=>i6 x c (inr x hx) e⟩
noncomputable def compCxC (X:Cx) (scope:Scope) (N:List Str) (cl:List (Str×Addr)) (s₀:Shared) (H₀:Hp) (ex:List Addr) (pn:List (Addr×Obj)):Cx where
 prog:=X.prog
 w:=X.w
 K:=X.K
 mg:=X.mg
 base:=X.base
 A:=X.A
 N:=N
 s₀:=s₀
 H₀:=H₀
 env:=compEnvC scope cl s₀.heap.objs.size X.env
 outer:=X.stack
 stack:=X.stack
 ex:=ex
 fn:=fun x=>scope.names.any fun y=>y.1==x&&y.2 == .cell
 calm:=X.calm
 pn:=pn
 xe:=fun _ _=>False
section
variable {X:Cx} {pins:List (Addr×Obj)} {σ:L2.St} {H:Hp} {s:Shared} {scope:Scope} {N:List Str} {cl:List (Str×Addr)} {fp:List Addr} {caps:List Nat}
theorem comp_invC {h1:Heap} {σ':L2.St} (I:Inv X pins σ H s) (hk:scope.kind=.function) (hcl:∀ x c,cl.lookup x=some c→X.env.cells.lookup x=some c∨(s.heap.objs.size<c∧h1.IsCell c none)) (hinj:∀ x y c,cl.lookup x=some c→cl.lookup y=some c→x=y) (hnew:∀ x c,(x,NameKind.cell)∈scope.names→cl.lookup x=some c→s.heap.objs.size≤c) (hclf:∀ x,(compEnvC scope cl s.heap.objs.size X.env).kindOf x=some .cell∨(compEnvC scope cl s.heap.objs.size X.env).kindOf x=some .free→∃ c,cl.lookup x=some c)
  (hfp:∀ b∈fp,FpOk X pins H b) (hfs:∀ b∈fp,b<s.heap.objs.size) (hn:h1.Ns s.heap.objs.size fun _=>none) (hkept:∀ b o,s.heap.get? b=some o→h1.get? b=some o) (hl:σ'.length=N.length)
  (hσ:∀ (j:Nat) x v,N[j]?=some x→σ'[j]?=some (some v)→∃ (i:Nat),X.N[i]?=some x∧σ[i]?=some (some v)∧(X.env.kindOf x=some .cell∨X.env.kindOf x=some .free)∧((compEnvC scope cl s.heap.objs.size X.env).kindOf x=some .cell∨(compEnvC scope cl s.heap.objs.size X.env).kindOf x=some .free)∧Vis X.env.scope x∧∀ c,cl.lookup x=some c→X.env.cells.lookup x=some c) :
  Inv (compCxC X scope N cl s H fp (X.pn++pins)) [] σ' H { s with heap:=h1 }:=by
 have nofr:∀ {b:Addr},b≠X.env.locals→b∉X.fs→b∉frs X.stack:=fun h1 h2 z=>by
  rcases List.mem_cons.mp (I.stkSub _ z) with e | e
  ·exact h1 e
  ·exact h2 e
 refine ⟨⟨I.ok.mod,hk,I.ok.glob,I.ok.blt,Nat.le_refl _,hinj,hclf,fun x c e hc=>?_,I.ok.hd,I.ok.frames,.inl rfl,fun b hb=>?_,I.bs,Nat.le_trans I.ok.bsz I.sz,fun b o e hb=>?_,fun b hb=>?_,I.stack,I.stkFree⟩,
  rfl,I.bare,Un.kept hkept,⟨_,hn,fun j x v e1 e2 e3=>?_⟩,fun x c e=>?_,I.hok.fresh (Nat.le_refl _),fun x c e=>?_,fun p hp=>?_,I.hok.kept hkept,hl⟩
 ·obtain ⟨y,hy,hz⟩:=List.any_eq_true.mp (show (scope.names.any fun y=>y.1==x&&y.2 == .cell)=true from e)
  rw [Bool.and_eq_true,beq_iff_eq,beq_iff_eq] at hz
  obtain ⟨y1,y2⟩:=y
  obtain ⟨rfl,rfl⟩:=hz
  exact hnew _ c hy hc
 ·refine ⟨Nat.ne_of_lt (hfs b hb),fun x c e=>?_⟩
  rcases hcl x c e with z | z
  ·exact (hfp b hb).2.2.2.2.1 x c z
  ·exact Nat.ne_of_gt (Nat.lt_trans (hfs b hb) z.1)
 ·have hb:b∈fp:=hb
  obtain ⟨_,_,_,f3,_⟩:=hfp b hb
  rcases f3 with z | z
  ·exact I.ok.noex b o e z
  ·exact absurd (Nat.lt_of_lt_of_le (Heap.lt_size e) (Nat.le_trans I.ok.bsz z)) (Nat.lt_irrefl _)
 ·have hb:b∈fp:=hb
  obtain ⟨_,f1,f2,_⟩:=hfp b hb
  exact nofr f1 f2
 ·obtain ⟨i,a1,a2,a3,a4,a5,a6⟩:=hσ j x v e1 e2
  obtain ⟨m,hm,hlk⟩:=I.loc
  obtain ⟨u,r,l⟩:=hlk i x v a1 a2 a5
  refine ⟨u,r,.inr ⟨a4,?_⟩⟩
  rcases l with ⟨k,_⟩ | ⟨_,c,e,z⟩
  ·rcases a3 with a3 | a3 <;> rw [k] at a3 <;> cases a3
  ·obtain ⟨c',hc'⟩:=hclf x a4
   have:=a6 c' hc'
   rw [e] at this
   cases this
   obtain ⟨o,ho,hd⟩:=z
   exact ⟨c,hc',o,hkept c o ho,hd⟩
 ·rcases hcl x c e with z | z
  ·obtain ⟨v,o,ho,hd⟩:=I.cell x c z
   exact ⟨v,o,hkept c o ho,hd⟩
  ·exact ⟨none,z.2⟩
 ·rcases hcl x c e with z | z
  ·exact I.freeC x c z
  ·exact I.hok.fresh (Nat.le_of_lt z.1)
 ·have hp:p∈(X.pn++pins)++[]:=hp
  rw [List.append_nil] at hp
  obtain ⟨e,n,ne,nf,d⟩:=I.pin p hp
  exact ⟨hkept _ _ e,n,Nat.ne_of_lt (Heap.lt_size e),nofr ne nf,d⟩
end
theorem zQ8 {X:Cx} {pins:List (Addr×Obj)} {σ σ':L2.St} {H3 H':Hp} {s3 s1:Shared} {h':Heap} {scope:Scope} {N:List Str} {cl:List (Str×Addr)} {fp:List Addr} (I3:Inv X pins σ H3 s3)
  (I':Inv (compCxC X scope N cl s3 H3 fp (X.pn++pins)) [] σ' H' s1) (hsb:Heap.SameBut s3.heap.objs.size s1.heap h') (hfp:∀ b∈fp,FpOk X pins H3 b):Inv X pins σ H' { s1 with heap:=h' }:=by
 have old:∀ b o,s3.heap.get? b=some o→∀ o',s1.heap.get? b=some o'→h'.get? b=some o':=fun b o e o' e'=>(hsb.2 b (Nat.ne_of_lt (Heap.lt_size e))).trans e'
 have B:=I'.base
 have free:H' s3.heap.objs.size=none:=I'.free
 refine I3.call' (s':={ s1 with heap:=h' }) (ch:=fp) I'.os ⟨fun b o e n hb hx=>?_,fun b o e n hb hx=>?_,fun b o e n hx=>B.free b o e n hx,fun b o e hx=>?_,B.tups,B.frzs,B.tbls⟩ (fun b u e=>?_) I'.bare (fun b hb=>?_)
 ·exact old b o e _ (B.keep b o e n hb hx)
 ·obtain ⟨sl,e1⟩:=B.slot b o e n hb hx
  exact ⟨sl,old b o e _ e1⟩
 ·obtain ⟨o',e1⟩:=B.there b o e hx
  exact ⟨o',old b o e _ e1⟩
 ·refine (I'.hok b u e).stay (fun c v hc q=>(hsb.2 c ?_).trans q) (fun _ q=>q) fun _ _ q=>q
  rintro rfl
  rcases hc with z | z
  ·rw [← z,free] at e;cases e
  ·rw [free] at z;cases z
 ·obtain ⟨f0,f1,f2,f3,f4,f5⟩:=hfp b hb
  exact ⟨f3,f1,f4,f5⟩
structure CompOkC (X:Cx) (scope:Scope) (N:List Str) (caps:List Nat) (n:Nat):Prop where
 kind:scope.kind=.function
 names:∀ x∈scope.names,x.2=.local→scope.names.lookup x.1=some .local
 fc:∀ x,(x,NameKind.free)∈scope.names→(x,NameKind.cell)∉scope.names
 free:∀ x∈scope.names,x.2=.free→X.env.kindOf x.1=some .cell∨X.env.kindOf x.1=some .free
 look:∀ x,scope.names.lookup x=some .free→∃ k,(relabel scope X.env).names.lookup x=some k∧(k=.cell∨k=.free)
 back:∀ x,(relabel scope X.env).names.lookup x=some .cell∨(relabel scope X.env).names.lookup x=some .free→(x,NameKind.free)∈scope.names∨(x,NameKind.cell)∈scope.names
 cap:∀ (j i:Nat),caps[j]?=some i→∃ x,N[j]?=some x∧X.N[i]?=some x∧scope.names.lookup x=some .free
 len:N.length=caps.length+n
theorem newEnvC {M:Model} {A:Around} {E:Value→Shared→Prop} {s:Shared} {scope:Scope} {g:Addr} {cl:List (Str×Addr)} {q:Str} {env:PySem.Env} {Q:PySem.Env→Shared→Prop}
  (h:Q { scope,locals:=s.heap.objs.size,globals:=g,cells:=cellsFrom (s.heap.objs.size+1) scope.names cl,qual:=q,func:=none,code:=env.code,frame:=env.frame,builtins:=env.builtins } { s with heap:=pushCells (s.heap.push { cls:=.type "dict", data:=.dict #[] }) scope.names }) :
  wpAny M A (newFunctionEnv scope g cl [] q none .none (some env)) Q E s:=by
 simp only [newFunctionEnv,Option.isSome_some,if_true]
 refine wpAny_bind (wpAny_alloc ?_)
 refine wpAny_bind (wpAny_layCells _ (fun name kind cells=>by cases hkc:kind==NameKind.cell <;> simp [hkc]) _ _ _ _ ?_)
 rw [show ({ s with heap:=s.heap.push { cls:=.type "dict", data:=.dict #[] } }:Shared).heap.objs.size=s.heap.objs.size+1 from Heap.size_push ..]
 exact wpAny_bind (wpAny_pure (wpAny_pure h))
section
variable {X:Cx} {elt iter tg:Expr} {ifs:List Expr} {scope:Scope} {pos:Pos} {N:List Str} {caps:List Nat} {n:Nat} {wi:TI} {g:TG} {tc:TT} {te:TE}
theorem pe_compC (hcalm:X.calm=true) (ok:CompOkC X scope N caps n) (hi:PI X tg iter wi)
  (hg:∀ cl s₀ H₀ ex pn,PG (compCxC X scope N cl s₀ H₀ ex pn) tg g) (ht:∀ cl s₀ H₀ ex pn,PTs (compCxC X scope N cl s₀ H₀ ex pn) ifs tc) (he:∀ cl s₀ H₀ ex pn,PE (compCxC X scope N cl s₀ H₀ ex pn) elt te)
  (hs:∀ x,foldedSetIterable iter X.env x=pure x):PE X (.ListComp elt [⟨tg,iter,ifs,0⟩] scope pos) (tComp X.K caps n wi g tc te):=by
 intro pins s σ H Q I h
 have hcells:∀ x∈scope.names,x.2=.free→∃ c,X.env.cells.lookup x.1=some c:=fun x hx hf=>I.ok.has x.1 (ok.free x hx hf)
 obtain ⟨cl0,hclo,hcl0,hclf0⟩:=zE9 hcells
 rw [eval_ListComp]
 refine wpAny_comprehension_free (use:=none) rfl hs hclo ok.kind ok.names (thn (hi pins s σ H _ I h) fun xv s1 h1=>thn h1 fun itv s2 h2=>?_)
 obtain ⟨it,fp,tn,J,H2,rfl,I2,T,st2,f2,q2⟩:=h2
 have hKD:X.K.lookup s2.heap.objs.size=none:=by
  cases e:X.K.lookup s2.heap.objs.size with
  | none=>rfl
  | some o=>exact absurd (Heap.lt_size (I2.kIn _ _ e)) (Nat.lt_irrefl _)
 obtain ⟨W,⟨m0,w0⟩,turn⟩:=q2 s2.heap.objs.size I2.fresh hKD
 refine wpAny_newObj_type ?_
 have I3:Inv X pins σ (upd H2 s2.heap.objs.size (.lst [])) { s2 with heap:=s2.heap.push { cls:=.type "list", data:=.seq ([]:List Value).toArray },toks:=s2.toks }:=I2.lnew .nil (by decide)
 generalize hD:s2.heap.objs.size=D at *
 generalize hs3:({ s2 with heap:=s2.heap.push { cls:=.type "list", data:=.seq ([]:List Value).toArray },toks:=s2.toks }:Shared)=s3 at I3
 refine newEnvC ?_
 have hsz:(s3.heap.push { cls:=.type "dict", data:=.dict #[] }).objs.size=s3.heap.objs.size+1:=Heap.size_push _ _
 have old3:∀ x c,X.env.cells.lookup x=some c→c<s3.heap.objs.size:=fun x c e=>(I3.cell x c e).elim fun _ z=>z.lt
 have old0:∀ x c,cl0.lookup x=some c→c<s3.heap.objs.size:=fun x c e=>old3 x c (hcl0 x c e)
 have mix:=zC9 (s3.heap.objs.size+1) scope.names (s3.heap.push { cls:=.type "dict", data:=.dict #[] }) cl0 (by rw [hsz];exact Nat.le_refl _)
  (fun x c e=>by rw [hsz];exact Nat.lt_succ_of_lt (old0 x c e)) (fun x _ c e _ hbp=>absurd (old0 x c e) (Nat.not_lt.mpr (Nat.le_of_succ_le hbp))) (fun x c e hbp=>absurd (old0 x c e) (Nat.not_lt.mpr (Nat.le_of_succ_le hbp)))
 rw [hsz] at mix
 generalize hcl':cellsFrom (s3.heap.objs.size+1) scope.names cl0=cl at mix
 obtain ⟨x1,x2,x3,x4,x5,x6⟩:=mix
 generalize hh1:pushCells (s3.heap.push { cls:=.type "dict", data:=.dict #[] }) scope.names=h1 at x2
 have hns:h1.Ns s3.heap.objs.size (fun _=>none):=by rw [← hh1];exact (Heap.Ns.new s3.heap (.type "dict")).keeps (pushCells_keeps _ _)
 have hcl:∀ x c,cl.lookup x=some c→X.env.cells.lookup x=some c∨(s3.heap.objs.size<c∧h1.IsCell c none):=fun x c e=>by
  rcases x3 x c e with z | z
  ·exact .inr ⟨z,x2 x c e z⟩
  ·exact .inl (hcl0 x c z)
 have hinj:∀ x y c,cl.lookup x=some c→cl.lookup y=some c→x=y:=fun x y c e1 e2=>by
  by_cases hc:s3.heap.objs.size+1≤c
  ·exact x1 x y c e1 e2 hc
  ·rcases hcl x c e1 with z1 | z1
   ·rcases hcl y c e2 with z2 | z2
    ·exact I3.ok.inj x y c z1 z2
    ·exact absurd z2.1 hc
   ·exact absurd z1.1 hc
 have hclf:∀ x,(compEnvC scope cl s3.heap.objs.size X.env).kindOf x=some .cell∨(compEnvC scope cl s3.heap.objs.size X.env).kindOf x=some .free→∃ c,cl.lookup x=some c:=fun x hx=>by
  rcases ok.back x hx with z | z
  ·exact x5 x (.inr (hclf0 (x,.free) z rfl))
  ·exact x5 x (.inl z)
 have e3:s3.heap.objs.size=D+1:=by rw [← hs3,← hD];exact Heap.size_push _ _
 have hkept:∀ b o,s3.heap.get? b=some o→h1.get? b=some o:=fun b o e=>by rw [← hh1];exact pushCells_keeps _ _ b o (Heap.get?_push_of_some _ e)
 have h23:∀ b o,s2.heap.get? b=some o→s3.heap.get? b=some o:=fun b o e=>by rw [← hs3];exact Heap.get?_push_of_some _ e
 have hfD:∀ b∈fp,b<D:=fun b hb=>by
  obtain ⟨o,e,_⟩:=T.obj 0 _ st2 b hb
  rw [← hD];exact Heap.lt_size e
 have f3:∀ b∈fp,FpOk X pins (upd H2 D (.lst [])) b:=fun b hb=>⟨by rw [ze6 (Nat.ne_of_lt (hfD b hb))];exact (f2 b hb).1,(f2 b hb).2⟩
 have kX:∀ x,X.env.kindOf x=X.env.scope.names.lookup x:=fun x=>rfl
 have I4:Inv (compCxC X scope N cl s3 (upd H2 D (.lst [])) fp (X.pn++pins)) [] (capsσ caps n σ) (upd H2 D (.lst [])) { s3 with heap:=h1 }:=by
  refine comp_invC I3 ok.kind hcl hinj (fun x c hx e=>Nat.le_of_succ_le (x6 x c hx e)) hclf f3 (fun b hb=>by rw [e3];exact Nat.lt_succ_of_lt (hfD b hb)) hns hkept ?_ (fun j x v e1 e2=>?_)
  ·unfold capsσ
   rw [List.length_append,List.length_map,List.length_replicate,ok.len]
  ·have hj:j<caps.length:=by
    by_cases hj:j<caps.length
    ·exact hj
    ·unfold capsσ at e2
     rw [List.getElem?_append_right (by simpa using hj),List.getElem?_replicate] at e2
     split at e2 <;> cases e2
   unfold capsσ at e2
   rw [List.getElem?_append_left (by simpa using hj),List.getElem?_map,List.getElem?_eq_getElem hj] at e2
   obtain ⟨x',a1,a2,a3⟩:=ok.cap j caps[j] (List.getElem?_eq_getElem hj)
   rw [e1] at a1;cases a1
   have fr:=ok.free (x,.free) (zi5 a3) rfl
   obtain ⟨k,b1,b2⟩:=ok.look x a3
   refine ⟨caps[j],a2,?_,fr,?_,?_,fun c ec=>?_⟩
   ·have e2:(σ[caps[j]]?).join=some v:=Option.some.inj e2
    cases hσ:σ[caps[j]]? with
    | none=>rw [hσ] at e2;cases e2
    | some o=>rw [hσ] at e2;exact congrArg some e2
   ·rcases b2 with rfl | rfl
    ·exact .inl b1
    ·exact .inr b1
   ·rcases fr with z | z
    ·exact .inr (.inl z)
    ·exact .inr (.inr z)
   ·rw [x4 x (ok.fc x (zi5 a3))] at ec
    exact hcl0 x c ec
 have fpc:∀ {H':Hp},(∀ b∈fp,H' b=none)→∀ b∈fp,FpOk (compCxC X scope N cl s3 (upd H2 D (.lst [])) fp (X.pn++pins)) [] H' b:=fun {H'} hn b hb=>by
  obtain ⟨f0,f1,f2',f3',f4,f5⟩:=f3 b hb
  refine ⟨hn b hb,Nat.ne_of_lt (show b<s3.heap.objs.size by rw [e3];exact Nat.lt_succ_of_lt (hfD b hb)),fun z=>?_,.inl hb,fun x c e=>(hcl x c e).elim (f4 x c) fun z=>Nat.ne_of_gt (Nat.lt_trans (show b<s3.heap.objs.size by rw [e3];exact Nat.lt_succ_of_lt (hfD b hb)) z.1),fun p hp=>f5 p (by have hp:p∈(X.pn++pins)++[]:=hp;rwa [List.append_nil] at hp)⟩
  rcases List.mem_cons.mp (I3.stkSub _ z) with e | e
  ·exact f1 e
  ·exact f2' e
 have st4:tn 0 h1:=T.keep 0 _ _ st2 fun b _ o e=>hkept b o (h23 b o e)
 have loop:∀ s4:Shared,s4={ s3 with heap:=h1 }→codeAny (model X.prog X.w) X.A (.compLoop (.ListComp elt [⟨tg,iter,ifs,0⟩] scope pos) 0 (.ref it) (.ref D) (compEnvC scope cl s3.heap.objs.size X.env))
   (compPost (model X.prog X.w) X.A X.xe none (EP X pins σ Q) (.ref D) s3.heap.objs.size) s4:=by
  rintro s4 rfl
  refine zM3 (fun m s'=>∃ i σ' H' ys,Inv (compCxC X scope N cl s3 (upd H2 D (.lst [])) fp (X.pn++pins)) [] σ' H' s'∧tn i s'.heap∧(∀ b∈fp,H' b=none)∧W i m σ' H' ys) ?_ m0 ⟨0,_,_,[],I4,st4,fun b hb=>(f3 b hb).1,w0⟩
  rintro m s5 ⟨i,σ5,H5,ys,I5,st5,fr5,w5⟩
  obtain ⟨hDl,tu⟩:=turn i m σ5 H5 ys w5
  rcases tu with ⟨stop,qn⟩ | ⟨go,hz,step⟩
  ·refine thn (T.done (compCxC X scope N cl s3 (upd H2 D (.lst [])) fp (X.pn++pins)) rfl rfl rfl hcalm i [] s5 σ5 H5 (fun _ _=>False) I5 (fpc fr5) st5 stop) fun r s6 h_=>?_
   obtain ⟨hr,I6⟩:=h_
   subst hr
   obtain ⟨mm,hmm,_⟩:=I6.loc
   exact ⟨mm,hmm,fun h' hb'=>⟨.ref D,H5,zQ8 I3 I6 hb' f3,rfl,qn⟩⟩
  ·refine thn (T.item (compCxC X scope N cl s3 (upd H2 D (.lst [])) fp (X.pn++pins)) rfl rfl rfl hcalm i [] s5 σ5 H5 (fun _ _=>False) I5 (fpc fr5) st5 go) fun r s6 h_=>?_
   obtain ⟨u,hr,h6⟩:=h_
   subst hr
   refine thn h6 fun _ s7 h_=>?_
   obtain ⟨x,H7,I7,r7,y7,st7,fr7⟩:=h_
   have I7':=I7.pinned (fpc fr7) (T.obj _ _ st7)
   refine thn (hg _ _ _ _ _ _ s7 σ5 H7 x u _ I7' r7 (step x H7 y7)) fun _ s8 h_=>?_
   obtain ⟨σ8,H8,I8,q8⟩:=h_
   refine thn (ht _ _ _ _ _ _ s8 σ8 H8 _ I8 q8) fun b s9 h_=>?_
   obtain ⟨H9,I9,q9⟩:=h_
   have pinsK:∀ {σ7:L2.St} {Hx:Hp} {sx:Shared},Inv (compCxC X scope N cl s3 (upd H2 D (.lst [])) fp (X.pn++pins)) ([]++pinsAt fp s7.heap) σ7 Hx sx→tn (i+1) sx.heap∧∀ b∈fp,Hx b=none:=fun Ix=>by
    refine ⟨T.keep _ _ _ st7 fun b hb o e=>(Ix.pin (b,o) (List.mem_append_right _ (List.mem_append_right _ (zl8 hb e)))).1,fun b hb=>?_⟩
    obtain ⟨o,e,d⟩:=T.obj _ _ st7 b hb
    exact (Ix.pin (b,o) (List.mem_append_right _ (List.mem_append_right _ (zl8 hb e)))).2.1
   cases b with
   | false =>
    obtain ⟨m',hm,w9⟩:=q9
    exact ⟨m',hm,i+1,σ8,H9,ys,I9.unpinned,(pinsK I9).1,(pinsK I9).2,w9⟩
   | true =>
    refine thn (he _ _ _ _ _ _ s9 σ8 H9 _ I9 q9) fun yv s10 h_=>?_
    obtain ⟨y,H10,I10,r10,hD10,m',hm,w10⟩:=h_
    refine thn (zC1 _ s10 σ8 H10 (.ref D) [y] (.ref D) [yv] (fun v Hx=>v=.non∧Hx=upd H10 D (.lst (ys++[y]))) I10 rfl (.cons r10 .nil) ⟨D,ys,y,rfl,rfl,hD10,hz,rfl,rfl⟩) fun _ s11 h_=>?_
    obtain ⟨_,H11,I11,_,_,e11⟩:=h_
    subst e11
    exact ⟨m',hm,i+1,σ8,_,ys++[y],I11.unpinned,(pinsK I11).1,(pinsK I11).2,w10⟩
 exact codeAny_compStart_list (loop _ rfl) (T.self _ 0 _ _ _ st4 (loop _ rfl))
end
section
variable {X:Cx} {C:CallF} {elt iter tg:Expr} {ifs:List Expr} {ielt:E} {it:It} {t:Tg} {scope:Scope} {pos:Pos} {N:List Str} {caps:List Nat} {n:Nat}
theorem se_compC {cond:Option E} (hcalm:X.calm=true) (ok:CompOkC X scope N caps n) (hi:SI X C tg iter it)
  (hg:∀ cl s₀ H₀ ex pn,SG (compCxC X scope N cl s₀ H₀ ex pn) tg t) (ht:∀ cl s₀ H₀ ex pn,PTs (compCxC X scope N cl s₀ H₀ ex pn) ifs (tTs X.K C cond)) (he:∀ cl s₀ H₀ ex pn,SE (compCxC X scope N cl s₀ H₀ ex pn) C elt ielt)
  (hs:∀ x,foldedSetIterable iter X.env x=pure x):SE X C (.ListComp elt [⟨tg,iter,ifs,0⟩] scope pos) (.comp false ielt t it cond caps n) :=
 PE.mono (pe_compC (g:=tG X.K t) (te:=tP X.K C ielt) hcalm ok hi hg ht he hs) fun _ _ _ h=>zN1 h
end
noncomputable def compChkC (XN:List Str) (up scope:Scope) (N:List Str) (caps:List Nat) (n:Nat):Bool :=
 decide (scope.kind=.function)&&scope.names.all (fun x=>decide (x.2≠.local) || decide (scope.names.lookup x.1=some .local))&&scope.names.all (fun x=>decide (x.2≠.free) || decide ((x.1,NameKind.cell)∉scope.names))
 && scope.names.all (fun x=>decide (x.2≠.free) || decide (up.names.lookup x.1=some .cell) || decide (up.names.lookup x.1=some .free))
 && scope.names.all (fun x=>decide (x.2≠.free) || decide ((relabel' scope up).lookup x.1=some .cell) || decide ((relabel' scope up).lookup x.1=some .free))
 && (relabel' scope up).all (fun x=>(decide (x.2≠.cell)&&decide (x.2≠.free)) || (decide ((x.1,NameKind.free)∈scope.names) || decide ((x.1,NameKind.cell)∈scope.names)))
 && capOk XN scope caps N&&decide (N.length=caps.length+n)
theorem zc7 {X:Cx} {up scope:Scope} {XN N:List Str} {caps:List Nat} {n:Nat} (hu:X.env.scope=up) (hN:X.N=XN) (h:compChkC XN up scope N caps n=true):CompOkC X scope N caps n:=by
 subst hu hN
 unfold compChkC at h
 rw [Bool.and_eq_true,Bool.and_eq_true,Bool.and_eq_true,Bool.and_eq_true,Bool.and_eq_true,Bool.and_eq_true,Bool.and_eq_true] at h
 obtain ⟨⟨⟨⟨⟨⟨⟨h1,h2⟩,h3⟩,h4⟩,h5⟩,h6⟩,h7⟩,h8⟩:=h
 rw [List.all_eq_true] at h2 h3 h4 h5 h6
 have rl:(relabel scope X.env).names=relabel' scope X.env.scope:=rfl
 refine ⟨of_decide_eq_true h1,fun x hx e=>?_,fun x hx=>?_,fun x hx e=>?_,fun x e=>?_,fun x e=>?_,cap_at h7,of_decide_eq_true h8⟩
 ·have:=h2 x hx
  rw [Bool.or_eq_true] at this
  rcases this with z | z
  ·exact absurd e (of_decide_eq_true z)
  ·exact of_decide_eq_true z
 ·have:=h3 (x,.free) hx
  rw [Bool.or_eq_true] at this
  rcases this with z | z
  ·exact absurd rfl (of_decide_eq_true z)
  ·exact of_decide_eq_true z
 ·have:=h4 x hx
  rw [Bool.or_eq_true,Bool.or_eq_true] at this
  rcases this with (z | z) | z
  ·exact absurd e (of_decide_eq_true z)
  ·exact .inl (of_decide_eq_true z)
  ·exact .inr (of_decide_eq_true z)
 ·have:=h5 (x,.free) (zi5 e)
  rw [Bool.or_eq_true,Bool.or_eq_true] at this
  rcases this with (z | z) | z
  ·exact absurd rfl (of_decide_eq_true z)
  ·exact ⟨_,by rw [rl];exact of_decide_eq_true z,.inl rfl⟩
  ·exact ⟨_,by rw [rl];exact of_decide_eq_true z,.inr rfl⟩
 ·rw [rl] at e
  rcases e with e | e
  ·have:=h6 (x,.cell) (zi5 e)
   rw [Bool.or_eq_true,Bool.and_eq_true] at this
   rcases this with z | z
   ·exact absurd rfl (of_decide_eq_true z.1)
   ·rw [Bool.or_eq_true] at z;exact z.imp of_decide_eq_true of_decide_eq_true
  ·have:=h6 (x,.free) (zi5 e)
   rw [Bool.or_eq_true,Bool.and_eq_true] at this
   rcases this with z | z
   ·exact absurd rfl (of_decide_eq_true z.2)
   ·rw [Bool.or_eq_true] at z;exact z.imp of_decide_eq_true of_decide_eq_true
theorem zY2 {X:Cx} {up0 scope0 scope:Scope} {XN N:List Str} {caps:List Nat} {n:Nat} {cl:List (Str×Addr)} {s₀:Shared} {H₀:Hp} {ex:List Addr} {pn:List (Addr×Obj)} (hu:X.env.scope=up0)
  (h:compChkC XN { scope0 with names:=relabel' scope0 up0 } scope N caps n=true):CompOkC (compCxC X scope0 XN cl s₀ H₀ ex pn) scope N caps n:=by
 subst hu
 exact zc7 rfl rfl h
open PySem L2 PySem.SeqAt PyProof.Rows
section
variable {prog:Program} {w:World} {A:Around} {E:Value→Shared→Prop}
end
section
variable {X:Cx} {C:CallF} {W:Nat} {pos:Pos}
end
open PySem L2 PySem.SeqAt PyProof.Rows
structure JE (X:Cx) (C:CallF) (e:Expr) (ir:E):Prop where
 h:SE X C e ir
structure JT (X:Cx) (C:CallF) (e:Expr) (ir:E):Prop where
 h:ST X C e ir
structure JW (X:Cx) (C:CallF) (e:Expr) (ir:E):Prop where
 h:SW X C e ir
structure JF (X:Cx) (C:CallF) (e:Expr) (ir:E):Prop where
 h:SF X C e ir
structure JA (X:Cx) (C:CallF) (e:List Expr) (ir:List E):Prop where
 h:SA X C e ir
structure JO (X:Cx) (C:CallF) (e:Option Expr) (ir:Option E):Prop where
 h:SO X C e ir
structure JI (X:Cx) (C:CallF) (tg iter:Expr) (it:It):Prop where
 h:SI X C tg iter it
structure JG (X:Cx) (tg:Expr) (t:Tg):Prop where
 h:SG X tg t
structure JGs (X:Cx) (es:List Expr) (is:List Nat):Prop where
 h:PGs X es (tGs X.K is)
structure JTs (X:Cx) (C:CallF) (ifs:List Expr) (cond:Option E):Prop where
 h:PTs X ifs (tTs X.K C cond)
structure JP (X:Cx) (C:CallF) (pos:Pos) (ks:List (Option Expr)) (vs:List Expr) (pks:List PV) (irs:List E):Prop where
 h:PPs X pos ks vs (prs X.K C pks irs)
structure JS (X:Cx) (C:CallF) (W:Nat) (b:Stmt) (ss:S):Prop where
 h:SS X C W b ss
structure JSs (X:Cx) (C:CallF) (W:Nat) (b:List Stmt) (ss:List S):Prop where
 h:SSs X C W b ss
section
variable {X:Cx} {C:CallF} {W:Nat} {a b c e o i value l elt iter tg:Expr} {es rest elts:List Expr} {x1:Nat} {tpos:Pos} {ia ib ic ie io ii iv ielt il:E} {irs:List E} {pos p p2 pos' apos cpos:Pos} {it:It} {t:Tg} {scope:Scope} {N:List Str} {caps:List Nat} {n:Nat} {ifs:List Expr} {name:Str} {id:String} {m:Mt} {is:List Nat} {PR:List FD} {d k:Nat}
theorem zp5 {j}:JE X C (.Constant .none j pos) (.const .non):=⟨se_non⟩
theorem zE5 {i j}:JE X C (.Constant (.bool i) j pos) (.const (.bl i)):=⟨se_bl⟩
theorem za2 {i j}:JE X C (.Constant (.int i) j pos) (.const (.int i)):=⟨se_int⟩
theorem zb0 {x j} {cs:List Nat} (h:x=⟨cs.toArray⟩:=by decide +kernel) (hl:cs.length≤1000:=by decide):JE X C (.Constant (.str x) j pos) (.const (.str cs)):=⟨se_str (h:=h) (hl:=hl)⟩
theorem jsv (i:Nat) {x:Str} {pos:Pos} (hN:X.N[i]?=some x:=by rfl) (hv:Vis X.env.scope x:=by trivial) (hd:(x==("__debug__" : Str))=false:=by decide) (hcd:(x==("__classdict__" : Str))=false:=by decide):JE X C (.Name x pos) (.var i):=⟨sv (i:=i) (hN:=hN) (hv:=hv) (hd:=hd) (hcd:=hcd)⟩
theorem zb9 {op:Operator} {g:PV→PV→Option PV} {ir:E} (ho:Op2 X (binaryOp op) g) (ha:JE X C a ia) (hb:JE X C b ib) (hi:∀ env st,evalE C ir env st=(evalE C ia env st).bind fun x st=>(evalE C ib env st).bind fun y st=>op2 g x y st):JE X C (.BinOp a op b pos) ir:=⟨se_op (ho:=ho) (ha:=ha.h) (hb:=hb.h) (hi:=hi)⟩
theorem jse_neg (ha:JE X C a ia):JE X C (.UnaryOp .USub a pos) (.neg ia):=⟨se_neg (ha:=ha.h)⟩
theorem zg5 {op:CmpOp} {g:PV→PV→Option PV} {ir:E} (ho:Op2 X (compareOp op) g) (ha:JE X C a ia) (hb:JE X C b ib) (hm:behindInMarks op b=false) (hi:∀ env st,evalE C ir env st=(evalE C ia env st).bind fun x st=>(evalE C ib env st).bind fun y st=>op2 g x y st):JE X C (.Compare a [op] [b] pos) ir:=⟨se_cmp (ho:=ho) (ha:=ha.h) (hb:=hb.h) (hm:=hm) (hi:=hi)⟩
theorem zy0 {op} (h:JE X C a ia):JE X C (.BoolOp op [a] pos) ia:=⟨se_one (h:=h.h)⟩
theorem zQ2 (ha:JE X C a ia) (hb:JE X C (.BoolOp .And (b::rest) pos) ib):JE X C (.BoolOp .And (a::b::rest) pos) (.and ia ib):=⟨se_and (ha:=ha.h) (hb:=hb.h)⟩
theorem jse_or (ha:JE X C a ia) (hb:JE X C (.BoolOp .Or (b::rest) pos) ib):JE X C (.BoolOp .Or (a::b::rest) pos) (.or ia ib):=⟨se_or (ha:=ha.h) (hb:=hb.h)⟩
theorem zo3 (hc:JT X C c ic) (ha:JE X C a ia) (hb:JE X C b ib):JE X C (.IfExp c a b pos) (.ite ic ia ib):=⟨se_ite (hc:=hc.h) (ha:=ha.h) (hb:=hb.h)⟩
theorem za8 {es:List Expr} {irs:List E} {x1} (h:JA X C es irs) (hl:es.length≤1000:=by decide) (hi:irs.length=es.length:=by rfl):JE X C (.Tuple es x1 pos) (.tup irs):=⟨se_tup (h:=h.h) (hl:=hl) (hi:=hi)⟩
theorem zr2 {es:List Expr} {irs:List E} (h:JA X C es irs) (hl:es.length≤1000:=by decide) (hi:irs.length=es.length:=by rfl):JE X C (.List es pos) (.list false irs):=⟨se_lst (h:=h.h) (hl:=hl) (hi:=hi)⟩
theorem zr9 (h:JF X C e ie):JE X C e (.thaw ie):=⟨se_thaw (h:=h.h)⟩
theorem zH9 {es:List Expr} {irs:List E} (h:JA X C es irs) (hl:es.length≤1000) (hi:irs.length=es.length):JF X C (.List es pos) (.list false irs):=⟨sf_lst (h:=h.h) (hl:=hl) (hi:=hi)⟩
theorem jsf_add (ha:JE X C a ia) (hb:JE X C b ib):JF X C (.BinOp a .Add b pos) (.bin .add ia ib):=⟨sf_add (ha:=ha.h) (hb:=hb.h)⟩
theorem zU4 {keys:List (Option Expr)} {values:List Expr} {ks:List PV} (h:JP X C pos keys values ks irs) (hk:ks.all isKey=true) (hl1:ks.length=irs.length) (hall:keys.all (·.isSome)=true) (hl:keys.length=values.length) (h0:keys≠[]) (h15:keys.length≤15) (hks:ks.length≤15):JE X C (.Dict keys values pos) (.dict ks irs):=⟨se_dict (h:=h.h) (hk:=hk) (hl1:=hl1) (hall:=hall) (hl:=hl) (h0:=h0) (h15:=h15) (hks:=hks)⟩
theorem jse_dict0  : JE X C (.Dict [] [] pos) (.dict [] []):=⟨se_dict0⟩
theorem jsp_nil  : JP X C pos [] [] [] []:=⟨sp_nil⟩
theorem zq2 {k v:Expr} {ks:List (Option Expr)} {vs:List Expr} {pk:PV} {iv:E} {pks:List PV} (hk:PE X k (tC (kV (keyF pk)))) (hv:JE X C v iv) (hr:JP X C pos ks vs pks irs) :
  JP X C pos (some k::ks) (v::vs) (pk::pks) (iv::irs):=⟨sp_cons (hk:=hk) (hv:=hv.h) (hr:=hr.h)⟩
theorem zk5  : JO X C none none:=⟨so_none⟩
theorem zh3 (h:JE X C e ie):JO X C (some e) (some ie):=⟨so_some (h:=h.h)⟩
theorem zh4 {lo hi:Option Expr} {ilo ihi:Option E} (he:JE X C e ie) (hl:JO X C lo ilo) (hh:JO X C hi ihi):JE X C (.Subscript e (.Slice lo hi none p2) pos) (.slice ie ilo ihi):=⟨se_slice (he:=he.h) (hl:=hl.h) (hh:=hh.h)⟩
theorem zb2 (hu:X.A.units+1<cLine) (ha:JE X C a ia) (hb:JE X C b ib) (hs:PlainIx b):JE X C (.Subscript a b pos) (.ix ia ib):=⟨se_ix (hu:=hu) (ha:=ha.h) (hb:=hb.h) (hs:=hs)⟩
theorem zd2 {cond:Option E} (hcalm:X.calm=true) (ok:CompOkC X scope N caps n) (hi:JI X C tg iter it) (hg:∀ cl s₀ H₀ ex pn,JG (compCxC X scope N cl s₀ H₀ ex pn) tg t) (ht:∀ cl s₀ H₀ ex pn,JTs (compCxC X scope N cl s₀ H₀ ex pn) C ifs cond) (he:∀ cl s₀ H₀ ex pn,JE (compCxC X scope N cl s₀ H₀ ex pn) C elt ielt) (hs:∀ x,foldedSetIterable iter X.env x=pure x:=by intro _;rfl):JE X C (.ListComp elt [⟨tg,iter,ifs,0⟩] scope pos) (.comp false ielt t it cond caps n):=⟨se_compC (hcalm:=hcalm) (ok:=ok) (hi:=hi.h) (hg:=fun cl s₀ H₀ ex pn=>(hg cl s₀ H₀ ex pn).h) (ht:=fun cl s₀ H₀ ex pn=>(ht cl s₀ H₀ ex pn).h) (he:=fun cl s₀ H₀ ex pn=>(he cl s₀ H₀ ex pn).h) (hs:=hs)⟩
theorem zz6 {i:Nat} {y:Str} {py spos:Pos} {cond:Option E} (hN:X.N.Nodup) (hyi:X.N[i]?=some y) (hyl:X.env.scope.names.lookup y=some .local) (hcalm:X.calm=true) (ok:CompOk X scope N caps n) (hi:JI X C tg iter it) (hg:∀ cl s₀ H₀ ex pn,JG (compCx X scope N cl s₀ H₀ ex pn) tg t) (ht:∀ cl s₀ H₀ ex pn,JTs (compCx X scope N cl s₀ H₀ ex pn) C ifs cond) (he:∀ cl s₀ H₀ ex pn,JE (compCx X scope N cl s₀ H₀ ex pn) C elt ielt) (hs:∀ x,foldedSetIterable iter X.env x=pure x:=by intro _;rfl) (hsw:swapsWith (.ListComp elt [⟨tg,iter,ifs,0⟩] scope pos) (some (.Name y py)) spos.line X.env=pure true:=by rfl) :
  JS X C W (.Assign [.Name y py] (.ListComp elt [⟨tg,iter,ifs,0⟩] scope pos) spos) (.set i (.comp false ielt t it cond caps n)):=⟨ss_setC (hN:=hN) (hyi:=hyi) (hyl:=hyl) (hcalm:=hcalm) (ok:=ok) (hi:=hi.h) (hg:=fun cl s₀ H₀ ex pn=>(hg cl s₀ H₀ ex pn).h) (ht:=fun cl s₀ H₀ ex pn=>(ht cl s₀ H₀ ex pn).h) (he:=fun cl s₀ H₀ ex pn=>(he cl s₀ H₀ ex pn).h) (hs:=hs) (hsw:=hsw)⟩
theorem zA6 {i:Nat} {y:Str} {py spos:Pos} {cond:Option E} (hN:X.N.Nodup) (hyi:X.N[i]?=some y) (hyl:X.env.scope.names.lookup y=some .local) (hcalm:X.calm=true) (ok:CompOk X scope N caps n) (hi:JI X C tg iter it) (hg:∀ cl s₀ H₀ ex pn,JG (compCx X scope N cl s₀ H₀ ex pn) tg t) (ht:∀ cl s₀ H₀ ex pn,JTs (compCx X scope N cl s₀ H₀ ex pn) C ifs cond) (he:∀ cl s₀ H₀ ex pn,JE (compCx X scope N cl s₀ H₀ ex pn) C elt ielt) (hs:∀ x,foldedSetIterable iter X.env x=pure x:=by intro _;rfl) (hsw:swapsWith (.ListComp elt [⟨tg,iter,ifs,0⟩] scope pos) (some (.Name y py)) spos.line X.env=pure true:=by rfl) :
  JS X C W (.Assign [.Name y py] (.ListComp elt [⟨tg,iter,ifs,0⟩] scope pos) spos) (.set i (.thaw (.comp false ielt t it cond caps n))):=⟨ss_setCM (hN:=hN) (hyi:=hyi) (hyl:=hyl) (hcalm:=hcalm) (ok:=ok) (hi:=hi.h) (hg:=fun cl s₀ H₀ ex pn=>(hg cl s₀ H₀ ex pn).h) (ht:=fun cl s₀ H₀ ex pn=>(ht cl s₀ H₀ ex pn).h) (he:=fun cl s₀ H₀ ex pn=>(he cl s₀ H₀ ex pn).h) (hs:=hs) (hsw:=hsw)⟩
theorem zk4 {a:Expr} {ia:E} (hg:Gl X "range") (hm:X.mg "range" = none) (ha:JE X C a ia) (hs:starEach [a] X.env=[(false,eval a X.env)]:=by rfl):JI X C tg (.Call (.Name "range" p) [a] [] pos) (.range ia):=⟨si_range (hg:=hg) (hm:=hm) (ha:=ha.h) (hs:=hs)⟩
theorem ze5 (hl:JE X C l il):JI X C tg l (.of il):=⟨si_seq (hl:=hl.h)⟩
theorem jsi_zip (hn:irs.length=2∨irs.length=3) (hg:Gl X "zip") (hm:X.mg "zip" = none) (hv:bootBuiltins "zip" = some (.type "zip")) (ha:JA X C (e::es) irs) (he:starEach (e::es) X.env=(false,eval e X.env)::starEach es X.env:=by rfl) (hpl:(backTo pos (starEach es X.env)).any (·.1)=false:=by rfl):JI X C (.Tuple elts x1 tpos) (.Call (.Name "zip" p) (e::es) [] pos) (.zip irs):=⟨si_zip (hn:=hn) (hg:=hg) (hm:=hm) (hv:=hv) (ha:=ha.h) (he:=he) (hpl:=hpl)⟩
theorem zq4 (hu:X.A.units+200<cLine) (ho:JE X C o io) (ha:JA X C [e] [ie]) (hbase:attributeBase o "index" X.env (eval o X.env)=eval o X.env:=by rfl) (hfew:((backTo cpos (starEach [e] X.env)).all (fun x=>!x.1)&&(backToKw cpos (keywordEach [] X.env)).all (fun x=>x.1.isSome)
      && decide ([e].length+([]:List Keyword).length+(if ([]:List Keyword).isEmpty then 0 else 1)<30))=true:=by rfl) (hline:(apos.endLine==cpos.line)=true:=by rfl) (hs:starEach [e] X.env=(false,eval e X.env)::starEach [] X.env:=by rfl) (hplain:(backTo cpos (starEach [] X.env)).any (·.1)=false:=by rfl) :
    JE X C (.Call (.Attribute o "index" apos) [e] [] cpos) (.meth .index io [ie]):=⟨se_index (hu:=hu) (ho:=ho.h) (ha:=ha.h) (hbase:=hbase) (hfew:=hfew) (hline:=hline) (hs:=hs) (hplain:=hplain)⟩
theorem za7 {x:Str} {f:Addr} {fd:FuncData} {ps:List Str} (F:FnOk X.prog X.w X.K X.mg X.base CX0 d f fd ps (spF X.K PR W d k ps.length)) (hr:Room d X.A) (hg:Gl X x) (hm:X.mg x=some (.ref f)) (hk:PySem.W.keepIn X.K (.ref f)=true) (hb:Binds X.K fd ps []) (ha:JA X (runF PR W d) (e::es) irs) (hn:irs.length=ps.length) (hdb:(x==("__debug__" : Str))=false:=by decide) (he:starEach (e::es) X.env=(false,eval e X.env)::starEach es X.env:=by rfl) (hpl:(backTo pos (starEach es X.env)).any (·.1)=false:=by rfl) :
  JE X (runF PR W d) (.Call (.Name x p) (e::es) [] pos) (.call k irs):=⟨se_call (F:=F) (hr:=hr) (hg:=hg) (hm:=hm) (hk:=hk) (hb:=hb) (ha:=ha.h) (hn:=hn) (hdb:=hdb) (he:=he) (hpl:=hpl)⟩
theorem zc1 {x:Str} {id:String} {g:List PV→Option PV} {ir:E} (hc:CallN X (.builtin id) g) (hi:∀ env st,evalE C ir env st=(evalEs C irs env st).bind fun vs st=>opN g vs st) (hg:Gl X x) (hm:X.mg x=none) (hv:bootBuiltins x=some (.builtin id)) (ha:JA X C (e::es) irs) (hn:x ≠ "__name__" := by decide) (hdb:(x==("__debug__" : Str))=false:=by decide) (he:starEach (e::es) X.env=(false,eval e X.env)::starEach es X.env:=by rfl) (hpl:(backTo pos (starEach es X.env)).any (·.1)=false:=by rfl) :
  JE X C (.Call (.Name x p) (e::es) [] pos) ir:=⟨se_callB (hc:=hc) (hi:=hi) (hg:=hg) (hm:=hm) (hv:=hv) (ha:=ha.h) (hn:=hn) (hdb:=hdb) (he:=he) (hpl:=hpl)⟩
theorem zc9 {x:Str} {T:String} {g:List PV→Option PV} {ir:E} (hc:CallN X (.type T) g) (hi:∀ env st,evalE C ir env st=(evalEs C irs env st).bind fun vs st=>opN g vs st) (hg:Gl X x) (hm:X.mg x=none) (hv:bootBuiltins x=some (.type T)) (ha:JA X C (e::es) irs) (hn:x ≠ "__name__" := by decide) (hdb:(x==("__debug__" : Str))=false:=by decide) (he:starEach (e::es) X.env=(false,eval e X.env)::starEach es X.env:=by rfl) (hpl:(backTo pos (starEach es X.env)).any (·.1)=false:=by rfl) :
  JE X C (.Call (.Name x p) (e::es) [] pos) ir:=⟨se_callTy (hc:=hc) (hi:=hi) (hg:=hg) (hm:=hm) (hv:=hv) (ha:=ha.h) (hn:=hn) (hdb:=hdb) (he:=he) (hpl:=hpl)⟩
theorem zu4 {g:List PV→List PV→Option (PV×List PV)} (slot:Slot "list" name id) (hty:typeOf (.builtin id)=pure (.type "method_descriptor")) (hm:MtK X id g) (ho:JE X C o io) (ha:JA X C (e::es) irs) (hg:∀ v vs st,methN m v vs st=(match purs vs with | some xs=>onRef v st (g xs) | none=>.stuck)) (hbase:attributeBase o name X.env (eval o X.env)=eval o X.env:=by rfl) (hfew:((backTo cpos (starEach (e::es) X.env)).all (fun x=>!x.1)&&(backToKw cpos (keywordEach [] X.env)).all (fun x=>x.1.isSome)
      && decide ((e::es).length+([]:List Keyword).length+(if ([]:List Keyword).isEmpty then 0 else 1)<30))=true:=by rfl) (hline:(apos.endLine==cpos.line)=true:=by rfl) (hs:starEach (e::es) X.env=(false,eval e X.env)::starEach es X.env:=by rfl) (hplain:(backTo cpos (starEach es X.env)).any (·.1)=false:=by rfl) :
    JE X C (.Call (.Attribute o name apos) (e::es) [] cpos) (.meth m io irs):=⟨se_mtK (slot:=slot) (hty:=hty) (hm:=hm) (ho:=ho.h) (ha:=ha.h) (hg:=hg) (hbase:=hbase) (hfew:=hfew) (hline:=hline) (hs:=hs) (hplain:=hplain)⟩
theorem jse_mtL0 {g:List PV→List PV→Option (PV×List PV)} (slot:Slot "list" name id) (hty:typeOf (.builtin id)=pure (.type "method_descriptor")) (hm:MtL X id g) (ho:JE X C o io) (hg:∀ v st,methN m v [] st=onRef v st (g [])) (hbase:attributeBase o name X.env (eval o X.env)=eval o X.env:=by rfl) (hline:(apos.endLine==cpos.line)=true:=by rfl) :
  JE X C (.Call (.Attribute o name apos) [] [] cpos) (.meth m io []):=⟨se_mtL0 (slot:=slot) (hty:=hty) (hm:=hm) (ho:=ho.h) (hg:=hg) (hbase:=hbase) (hline:=hline)⟩
theorem zz4 (ha:JT X C a ia):JW X C (.BoolOp .And [a] pos) ia:=⟨sw_and1 (ha:=ha.h)⟩
theorem zQ4 (ha:JT X C a ia):JW X C (.BoolOp .Or [a] pos) ia:=⟨sw_or1 (ha:=ha.h)⟩
theorem zH3 (ha:JT X C a ia) (hb:JW X C (.BoolOp .And (b::rest) pos) ib):JW X C (.BoolOp .And (a::b::rest) pos) (.and ia ib):=⟨sw_and (ha:=ha.h) (hb:=hb.h)⟩
theorem jsw_or (ha:JT X C a ia) (hb:JW X C (.BoolOp .Or (b::rest) pos) ib):JW X C (.BoolOp .Or (a::b::rest) pos) (.or ia ib):=⟨sw_or (ha:=ha.h) (hb:=hb.h)⟩
theorem zA5 {e:Expr} {ir:E} (h:JW X C e ir):JT X C e ir:=⟨sw_pt (h:=h.h)⟩
theorem jst_not (ha:JT X C a ia):JT X C (.UnaryOp .Not a pos) (.not ia):=⟨st_not (ha:=ha.h)⟩
theorem za9 {op:CmpOp} {g:PV→PV→Option PV} {ir:E} (ho:Op2 X (compareOp op) g) (ha:JE X C a ia) (hb:JE X C b ib) (hm:behindInMarks op b=false) (hi:∀ env st,evalE C ir env st=(evalE C ia env st).bind fun x st=>(evalE C ib env st).bind fun y st=>op2 g x y st):JT X C (.Compare a [op] [b] pos) ir:=⟨st_cmp (ho:=ho) (ha:=ha.h) (hb:=hb.h) (hm:=hm) (hi:=hi)⟩
theorem zI3 {e:Expr} {ir:E} (h:JE X C e ir) (he:∀ whole,isTrue e X.env whole=(do let v ← whole;standAt e.pos;holding [v] (truthy v)):=by intro _;rfl):JT X C e ir:=⟨st_val (h:=h.h) (he:=he)⟩
theorem za6  : JSs X C W [] []:=⟨ss_nil⟩
theorem za1 {st:Stmt} {rest:List Stmt} {i:S} {ir:List S} (h1:JS X C W st i) (h2:JSs X C W rest ir):JSs X C W (st::rest) (i::ir):=⟨ss_cons (h1:=h1.h) (h2:=h2.h)⟩
theorem zn2 {ie:E} (h:JE X C e ie) (hs:swapsWith e none pos.line X.env=pure false:=by rfl):JS X C W (.Expr e pos) (.expr ie):=⟨ss_expr (h:=h.h) (hs:=hs)⟩
theorem zb1 {ie:E} (h:JE X C e ie):JS X C W (.Return (some e) pos) (.ret ie):=⟨ss_ret (h:=h.h)⟩
theorem zV7 (h:JE X C e ie):JE X C e (.freeze ie):=⟨se_freeze (h:=h.h)⟩
theorem zb7 {i:Nat} {x:Str} {ie:E} {pos':Pos} (hN:X.N.Nodup) (hi:X.N[i]?=some x) (hx:Loc X.env.scope x) (h:JE X C e ie) (hs:swapsWith e (some (.Name x pos')) pos.line X.env=pure false:=by rfl) (hf:X.fn x=true∨X.env.scope.names.lookup x=some .local:=by trivial) :
  JS X C W (.Assign [.Name x pos'] e pos) (.set i ie):=⟨ss_set (hN:=hN) (hi:=hi) (hx:=hx) (h:=h.h) (hs:=hs) (hf:=hf)⟩
theorem zB7 (hu:X.A.units+1<cLine) (ho:JE X C o io) (hi:JE X C i ii) (hv:JE X C value iv) (ha:∀ v,assign (.Subscript o i pos') X.env v=(do
      let ov ← holding [v] (eval o X.env)
      let iv ← holding [v,ov] (eval i X.env)
      standAt pos'
      holding [v,ov,iv] (setItem ov iv v)
      release [v,ov,iv] []):=by intro _;rfl) (hs:swapsWithSole [.Subscript o i pos'] value pos.line X.env=pure false:=by rfl) (hw:swappedStores [.Subscript o i pos'] value X.env=pure none:=by rfl) (h1:(assignEach [.Subscript o i pos'] X.env).map (·.2)=[assign (.Subscript o i pos') X.env]:=by rfl):JS X C W (.Assign [.Subscript o i pos'] value pos) (.setIx io ii iv):=⟨ss_setIx (hu:=hu) (ho:=ho.h) (hi:=hi.h) (hv:=hv.h) (ha:=ha) (hs:=hs) (hw:=hw) (h1:=h1)⟩
theorem zc4 {c:Expr} {ic:E} {a b:List Stmt} {sa sb:List S} (hc:JT X C c ic) (ha:JSs X C W a sa) (hb:JSs X C W b sb):JS X C W (.If c a b pos) (.ite ic sa sb):=⟨ss_if (hc:=hc.h) (ha:=ha.h) (hb:=hb.h)⟩
theorem jss_aug {i:Nat} {x:Str} {e:Expr} {ie:E} {op:Operator} {b:Bop} {pos':Pos} (ho:IpI X op b) (hN:X.N.Nodup) (hi:X.N[i]?=some x) (hx:Loc X.env.scope x) (h:JE X C e ie) (hb:∀ x y z,binOp b x y=some z→(∃ i j k,x=.int i∧y=.int j∧z=.int k)∨∀ i,x≠.int i) (hf:X.fn x=true∨X.env.scope.names.lookup x=some .local:=by trivial) :
  JS X C W (.AugAssign (.Name x pos') op e pos) (.augI i b ie):=⟨ss_aug (ho:=ho) (hN:=hN) (hi:=hi) (hx:=hx) (h:=h.h) (hb:=hb) (hf:=hf)⟩
theorem jss_while {c:Expr} {body:List Stmt} {ic:E} {ib:List S} (hp:PassesOwn (model X.prog X.w) X.A X.env X.xe) (hc:JT X C c ic) (hb:JSs X C W body ib):JS X C W (.While c body [] pos) (.while ic ib):=⟨ss_while (hp:=hp) (hc:=hc.h) (hb:=hb.h)⟩
theorem zp6 {iter:Expr} {body:List Stmt} {it:It} {t:Tg} {ib:List S} (hp:PassesOwn (model X.prog X.w) X.A X.env X.xe) (hc:X.calm=true) (hi:JI X C tg iter it) (hg:JG X tg t) (hb:JSs X C W body ib) (hs:∀ x,foldedSetIterable iter X.env x=pure x:=by intro _;rfl):JS X C W (.For tg iter body [] pos) (.for t it ib):=⟨ss_for (hp:=hp) (hc:=hc) (hi:=hi.h) (hg:=hg.h) (hb:=hb.h) (hs:=hs)⟩
theorem zc0 {i:Nat} {x:Str} (hN:X.N.Nodup) (hi:X.N[i]?=some x) (hx:Loc X.env.scope x) (hf:X.fn x=true∨X.env.scope.names.lookup x=some .local:=by trivial):JG X (.Name x pos) (.name i):=⟨sg_name (hN:=hN) (hi:=hi) (hx:=hx) (hf:=hf)⟩
theorem zQ7 {k:Nat} (hc:X.calm=true) (h:JGs X es is) (hn:(assignEach es X.env).length=is.length:=by rfl) (hst:(assignEach es X.env).findIdx? (·.1)=none:=by rfl):JG X (.Tuple es k pos) (.tup is):=⟨sg_tup (hc:=hc) (h:=h.h) (hn:=hn) (hst:=hst)⟩
theorem zI5  : JGs X [] []:=⟨sgs_nil⟩
theorem zm1 {i:Nat} {x:Str} (hN:X.N.Nodup) (hi:X.N[i]?=some x) (hx:Loc X.env.scope x) (h:JGs X es is) (hf:X.fn x=true∨X.env.scope.names.lookup x=some .local:=by trivial) (hs:(assignEach (.Name x pos::es) X.env).map (·.2)=assign (.Name x pos) X.env::(assignEach es X.env).map (·.2):=by rfl):JGs X (.Name x pos::es) (i::is):=⟨sgs_cons (hN:=hN) (hi:=hi) (hx:=hx) (h:=h.h) (hf:=hf) (hs:=hs)⟩
theorem za3  : JA X C [] []:=⟨sa_nil⟩
theorem za0 {es:List Expr} {irs:List E} (ha:JE X C a ia) (hr:JA X C es irs) (hs:starEach (a::es) X.env=(false,eval a X.env)::starEach es X.env:=by rfl):JA X C (a::es) (ia::irs):=⟨sa_cons (ha:=ha.h) (hr:=hr.h) (hs:=hs)⟩
theorem zr7  : JTs X C [] none:=⟨pts0⟩
theorem zy5 {c:Expr} {ic:E} (h:JT X C c ic):JTs X C [c] (some ic):=⟨pts1 (h:=h.h)⟩
end
section
variable {P:Program} {w:World} {K:PySem.W.Frag} {mg:Str→Option Value} {base:Heap} {PR:List FD} {W d k:Nat}
theorem zm3 {d:Nat} {A:Around} (h:Room d A):A.units+1<cLine:=by have:=h.un;omega
theorem zm8 {d:Nat} {A:Around} (h:Room d A):A.units+200<cLine:=by have:=h.un;omega
theorem ze2 {x qual:Str} {st:Stmt} {f:Addr} {fd:FuncData} {N ps:List Str} {ib:List S} (F:Fun K x qual st f fd) (S:FnScope N ps (defScope st)) (hP:PR[k]?=some ⟨ps.length,N.length,ib⟩)
  (hb:∀ (cdv:Value) (A:Around) (outer:List PySem.Env) (s:Shared) (H:Hp) (E:XK),Room d (A.deeper (envOfC qual (defScope st) s.heap.objs.size f cdv)) →
   JSs (cxOf CX0 P w K mg base N qual (defScope st) f cdv A outer s H E).nox (runF PR W d) W (defBody st) ib):FnOk P w K mg base CX0 (d+1) f fd ps (spF K PR W (d+1) k ps.length) :=
 fn_succ F S hP fun cdv A outer s H E hr=>(hb cdv A outer s H E hr).h
end
end OR
set_option bootstrap.genMatcherCode true
local macro_rules
 | `(tactic| simp! [$as,*]) => do
  let bs : Lean.Syntax.TSepArray [`Lean.Parser.Tactic.simpErase, `Lean.Parser.Tactic.simpLemma] "," := ⟨as.elemsAndSeps⟩
  `(tactic| ((try dsimp [-OR.exs_cons, -OR.thenS_next, -OR.sliceOp, -OR.bfOp, -OR.ixVal, -OR.walkOf, -Int.reducePow, -List.all_eq_true, -List.reverse_reverse, $bs,*]); try simp [-OR.exs_cons, -OR.thenS_next, -OR.sliceOp, -OR.bfOp, -OR.ixVal, -OR.walkOf, -Int.reducePow, -List.all_eq_true, -List.reverse_reverse, $as,*]))
 | `(tactic| simp! [$as,*] $l:location) => `(tactic| simp [-OR.exs_cons, -OR.thenS_next, -OR.sliceOp, -OR.bfOp, -OR.ixVal, -OR.walkOf, -Int.reducePow, -List.all_eq_true, -List.reverse_reverse, $as,*] $l:location)
 | `(tactic| simp! only [$as,*] $[$l:location]?) => `(tactic| simp only [$as,*, List.map_cons, List.map_nil, List.cons_append, List.nil_append, Nat.reduceSub, List.replicate] $[$l:location]?)
 | `(tactic| trivial) => `(tactic| first | exact Or.inl rfl | exact Or.inr (Or.inl rfl) | exact Or.inr rfl | exact Or.inr (Or.inr rfl) | assumption)
 | `(tactic| dsimp! only) => `(tactic| simp only [OR.thenS_next, OR.exs_nil, OR.sat_ok, List.set_cons_succ, List.set_cons_zero])
set_option bootstrap.genMatcherCode false
namespace LA
open OR
noncomputable def zq9:List S :=
  [.set 2 (.thaw (.list false [(.var 1)])),
  .set 3 (.const (.int 0)),
  .while (.cmp .lt (.var 3) (.blt .len [(.var 2)]))
    [.for (.tup [4,5]) (.of (.var 0))
       [.ite (.and (.cmp .eq (.var 4) (.ix (.var 2) (.var 3))) (.cmp .notIn (.var 5) (.var 2)))
          [.expr (.meth .append (.var 2) [(.var 5)])]
          []],
     .augI 3 .add (.const (.int 1))],
  .ret (.freeze (.var 2))]
noncomputable def zr1:FD:=⟨2,6,zq9⟩
noncomputable def zj6:List S :=
 [.set 3 (.ix (.var 0) (.const (.int 0))),
 .ite (.cmp .eq (.var 3) (.const (.str [110,117,109])))
  [.ret (.cmp .ge (.var 1) (.var 2))]
  [],
 .ite (.cmp .eq (.var 3) (.const (.str [108,111,119])))
  [.ret (.or (.cmp .isNone (.var 2) (.const .non)) (.and (.cmp .notNone (.var 1) (.const .non)) (.cmp .le (.var 1) (.var 2))))]
  [],
 .ite (.cmp .eq (.var 3) (.const (.str [99,104,97,105,110])))
  [.ret (.cmp .ge (.meth .index (.ix (.var 0) (.const (.int 1))) [(.var 1)]) (.meth .index (.ix (.var 0) (.const (.int 1))) [(.var 2)]))]
  [],
 .ite (.cmp .eq (.var 3) (.const (.str [115,101,116])))
  [.ret (.blt .all [(.comp false (.cmp .isIn (.var 1) (.var 0)) (.name 1) (.of (.var 2)) none [1] 1)])]
  [],
 .ite (.cmp .eq (.var 3) (.const (.str [119,101,98])))
  [.ret (.cmp .isIn (.var 1) (.call 0 [(.ix (.var 0) (.const (.int 2))),(.var 2)]))]
  [],
 .ite (.cmp .eq (.var 3) (.const (.str [114,111,119])))
  [.ret (.blt .all [(.comp false (.call 1 [(.var 0),(.var 1),(.var 2)]) (.tup [0,1,2]) (.zip [(.ix (.var 0) (.const (.int 1))),(.var 1),(.var 2)]) none [] 3)])]
  [],
 .ret (.or (.cmp .gt (.ix (.var 1) (.const (.int 0))) (.ix (.var 2) (.const (.int 0)))) (.and (.cmp .eq (.ix (.var 1) (.const (.int 0))) (.ix (.var 2) (.const (.int 0)))) (.call 1 [(.ix (.var 0) (.const (.int 1))),(.ix (.var 1) (.const (.int 1))),(.ix (.var 2) (.const (.int 1)))])))]
noncomputable def ze8:FD:=⟨3,4,zj6⟩
noncomputable def b_met:List S :=
 [.ite (.cmp .eq (.ix (.var 0) (.const (.int 0))) (.const (.str [115,101,116])))
  [.ret (.blt .tuple [(.comp false (.var 2) (.name 2) (.of (.ix (.var 0) (.const (.int 1)))) (some (.and (.cmp .isIn (.var 2) (.var 0)) (.cmp .isIn (.var 2) (.var 1)))) [1,2] 1)])]
  [],
 .ret (.ite (.call 1 [(.var 0),(.var 1),(.var 2)]) (.var 2) (.var 1))]
noncomputable def f_met:FD:=⟨3,3,b_met⟩
noncomputable def zp9:List S :=
  [.set 2 (.ix (.var 0) (.const (.int 0))),
  .ite (.cmp .eq (.var 2) (.const (.str [110,117,109])))
    [.ret (.ite (.cmp .gt (.var 1) (.const (.int 0))) (.tup [(.bin .sub (.var 1) (.const (.int 1)))]) (.tup []))]
    [],
  .ite (.cmp .eq (.var 2) (.const (.str [108,111,119])))
    [.ret (.ite (.cmp .isNone (.var 1) (.const .non)) (.tup []) (.tup [(.bin .add (.var 1) (.const (.int 1)))]))]
    [],
  .ite (.cmp .eq (.var 2) (.const (.str [99,104,97,105,110])))
    [.set 3 (.meth .index (.ix (.var 0) (.const (.int 1))) [(.var 1)]),
     .ret (.ite (.cmp .gt (.var 3) (.const (.int 0))) (.tup [(.ix (.ix (.var 0) (.const (.int 1))) (.bin .sub (.var 3) (.const (.int 1))))]) (.tup []))]
    [],
  .ite (.cmp .eq (.var 2) (.const (.str [115,101,116])))
    [.ret (.call 4 [(.ix (.var 0) (.const (.int 1))),(.var 1)])]
    [],
  .ite (.cmp .eq (.var 2) (.const (.str [119,101,98])))
    [.ret (.call 5 [(.ix (.var 0) (.const (.int 1))),(.ix (.var 0) (.const (.int 2))),(.var 1)])]
    [],
  .ret (.tup [])]
noncomputable def zj9:FD:=⟨2,4,zp9⟩
noncomputable def zn8:List S :=
 [.ite (.cmp .ne (.blt .len [(.var 1)]) (.const (.int 1)))
  [.ret (.tup [])]
  [],
 .ret (.tup [(.blt .tuple [(.comp false (.var 1) (.name 1) (.of (.var 0)) (some (.cmp .ne (.var 1) (.ix (.var 0) (.const (.int 0))))) [1] 1)])])]
noncomputable def zo1:FD:=⟨2,2,zn8⟩
noncomputable def zo2:List S :=
 [.set 3 (.call 0 [(.var 1),(.var 2)]),
 .set 4 (.comp false (.var 1) (.name 1) (.of (.var 0)) (some (.cmp .notIn (.var 1) (.var 0))) [3] 1),
 .ret (.blt .tuple [(.comp false (.var 2) (.name 2) (.of (.var 4)) (some (.blt .all [(.comp false (.cmp .isIn (.var 1) (.call 0 [(.var 0),(.var 2)])) (.name 2) (.of (.var 1)) none [0,2] 1)])) [1,4] 1)])]
noncomputable def zn7:FD:=⟨3,5,zo2⟩
noncomputable def zs1:List S :=
 [.set 2 (.bin .mul (.const (.int 31)) (.var 1)),
 .ite (.cmp .gt (.blt .len [(.var 0)]) (.const (.int 0)))
  [.set 2 (.bin .add (.ix (.var 0) (.bin .mod (.var 1) (.blt .len [(.var 0)]))) (.bin .mul (.const (.int 7919)) (.bin .fdiv (.var 1) (.blt .len [(.var 0)]))))]
  [],
 .ret (.dict [(.str [99,101,108,108]),(.str [108,101,102,116]),(.str [116,117,114,110])] [(.var 2),(.bin .mul (.blt .max2 [(.const (.int 0)),(.var 2)]) (.blt .toInt [(.cmp .ge (.var 2) (.bin .pow (.const (.int 10)) (.const (.int 18))))])),(.const (.int 0))])]
noncomputable def zo7:FD:=⟨2,3,zs1⟩
noncomputable def zs0:List S :=
  [.set 2 (.ix (.var 0) (.const (.str [116,117,114,110]))),
  .setIx (.var 0) (.const (.str [116,117,114,110])) (.bin .add (.var 2) (.const (.int 1))),
  .set 3 (.ix (.var 0) (.const (.str [108,101,102,116]))),
  .ite (.cmp .gt (.var 3) (.const (.int 0)))
    [.setIx (.var 0) (.const (.str [108,101,102,116])) (.bin .fdiv (.var 3) (.var 1)),
     .ret (.bin .mod (.var 3) (.var 1))]
    [],
  .set 4 (.bin .add (.bin .add (.bin .mod (.ix (.var 0) (.const (.str [99,101,108,108]))) (.const (.int 2147483647))) (.bin .mul (.bin .mul (.const (.int 31)) (.var 2)) (.var 2))) (.const (.int 1))),
  .set 5 (.bin .mod (.bin .mul (.var 4) (.bin .add (.const (.int 48271)) (.bin .mul (.const (.int 40)) (.var 2)))) (.const (.int 2147483629))),
  .ret (.bin .mod (.bin .fdiv (.bin .mod (.bin .add (.bin .mul (.bin .fdiv (.var 5) (.const (.int 11))) (.const (.int 69621))) (.var 2)) (.const (.int 998244353))) (.const (.int 7))) (.var 1))]
noncomputable def zp3:FD:=⟨2,6,zs0⟩
noncomputable def zk0:List S :=
  [.set 2 (.bin .mul (.const (.str [97,98,99,100,101,102,103,104,105,106,107,108,109,110,111,112,113,114,115,116,117,118,119,120,121,122])) (.const (.int 2))),
  .set 3 (.call 7 [(.var 0),(.const (.int 3))]),
  .set 4 (.call 7 [(.var 0),(.const (.int 26))]),
  .set 5 (.thaw (.list false [(.const (.str [110,117,109])),(.const (.str [110,117,109,98])),(.const (.str [108,111,119])),(.const (.str [114,111,119,115])),(.const (.str [115,101,116])),(.const (.str [97,115,107,115])),(.const (.str [112,117,116])),(.const (.str [111,102]))])),
  .ite (.cmp .eq (.var 3) (.const (.int 0)))
    [.set 5 (.thaw (.comp false (.slice (.var 0) (some (.var 1)) (some (.bin .add (.bin .add (.var 1) (.const (.int 1))) (.var 2)))) (.name 2) (.range (.const (.int 8))) none [2,4] 1))]
    [],
  .ite (.cmp .eq (.var 3) (.const (.int 1)))
    [.set 6 (.bin .add (.const (.int 1)) (.call 7 [(.var 0),(.const (.int 8))])),
     .set 7 (.call 7 [(.var 0),(.var 6)]),
     .set 8 (.slice (.var 2) (some (.var 4)) (some (.bin .add (.var 4) (.var 7)))),
     .set 9 (.slice (.var 2) (some (.bin .add (.bin .add (.var 4) (.var 7)) (.const (.int 1)))) (some (.bin .add (.var 4) (.var 6)))),
     .set 5 (.thaw (.comp false (.bin .add (.bin .add (.var 2) (.ix (.var 0) (.bin .mod (.bin .add (.var 1) (.bin .mul (.const (.int 3)) (.var 4))) (.const (.int 26))))) (.var 3)) (.name 4) (.range (.const (.int 8))) none [2,4,8,9] 1))]
    [],
  .set 10 (.call 7 [(.var 0),(.const (.int 8))]),
  .set 5 (.thaw (.bin .add (.slice (.var 5) (some (.var 10)) none) (.slice (.var 5) none (some (.var 10))))),
  .ite (.cmp .eq (.call 7 [(.var 0),(.const (.int 2))]) (.const (.int 0)))
    [.expr (.meth .reverse (.var 5) [])]
    [],
  .ret (.slice (.var 5) none (some (.var 1)))]
noncomputable def zt2:FD:=⟨2,11,zk0⟩
noncomputable def zC5:List S :=
 [.set 1 (.thaw (.list false [(.tup [(.tup [(.const (.int 0)),(.const (.int 1))])]),(.tup [(.tup [(.const (.int 0)),(.const (.int 1))]),(.tup [(.const (.int 1)),(.const (.int 2))]),(.tup [(.const (.int 0)),(.const (.int 2))])]),(.tup [(.tup [(.const (.int 0)),(.const (.int 1))]),(.tup [(.const (.int 0)),(.const (.int 2))]),(.tup [(.const (.int 1)),(.const (.int 3))]),(.tup [(.const (.int 2)),(.const (.int 3))])])])),
 .expr (.meth .append (.var 1) [(.tup [(.tup [(.const (.int 0)),(.const (.int 1))]),(.tup [(.const (.int 0)),(.const (.int 2))]),(.tup [(.const (.int 0)),(.const (.int 3))]),(.tup [(.const (.int 1)),(.const (.int 4))]),(.tup [(.const (.int 2)),(.const (.int 4))]),(.tup [(.const (.int 3)),(.const (.int 4))])])]),
 .expr (.meth .append (.var 1) [(.tup [(.tup [(.const (.int 0)),(.const (.int 1))]),(.tup [(.const (.int 1)),(.const (.int 2))]),(.tup [(.const (.int 2)),(.const (.int 4))]),(.tup [(.const (.int 0)),(.const (.int 3))]),(.tup [(.const (.int 3)),(.const (.int 4))])])]),
 .expr (.meth .append (.var 1) [(.tup [(.tup [(.const (.int 0)),(.const (.int 1))]),(.tup [(.const (.int 1)),(.const (.int 2))]),(.tup [(.const (.int 2)),(.const (.int 5))]),(.tup [(.const (.int 0)),(.const (.int 3))]),(.tup [(.const (.int 3)),(.const (.int 4))]),(.tup [(.const (.int 4)),(.const (.int 5))]),(.tup [(.const (.int 0)),(.const (.int 5))])])]),
 .expr (.meth .append (.var 1) [(.tup [(.tup [(.const (.int 0)),(.const (.int 1))]),(.tup [(.const (.int 0)),(.const (.int 2))]),(.tup [(.const (.int 0)),(.const (.int 3))]),(.tup [(.const (.int 1)),(.const (.int 4))]),(.tup [(.const (.int 2)),(.const (.int 4))]),(.tup [(.const (.int 2)),(.const (.int 5))]),(.tup [(.const (.int 3)),(.const (.int 5))]),(.tup [(.const (.int 4)),(.const (.int 6))]),(.tup [(.const (.int 5)),(.const (.int 6))])])]),
 .set 2 (.ix (.var 1) (.call 7 [(.var 0),(.const (.int 7))])),
 .set 3 (.bin .add (.const (.int 1)) (.blt .max1 [(.comp false (.ix (.var 0) (.const (.int 1))) (.name 0) (.of (.var 2)) none [] 1)])),
 .set 4 (.call 8 [(.var 0),(.var 3)]),
 .set 5 (.call 7 [(.var 0),(.var 3)]),
 .set 6 (.call 7 [(.var 0),(.blt .len [(.var 2)])]),
 .set 7 (.bin .add (.slice (.var 4) (some (.var 5)) none) (.slice (.var 4) none (some (.var 5)))),
 .set 8 (.comp false (.tup [(.ix (.var 0) (.var 1)),(.ix (.var 0) (.var 2))]) (.tup [1,2]) (.of (.bin .add (.slice (.var 2) (some (.var 6)) none) (.slice (.var 2) none (some (.var 6))))) none [7] 2),
 .ret (.tup [(.const (.str [119,101,98])),(.blt .tuple [(.var 4)]),(.blt .tuple [(.var 8)])])]
noncomputable def zB8:FD:=⟨1,9,zC5⟩
noncomputable def zx0:List S :=
 [.set 1 (.call 7 [(.var 0),(.const (.int 6))]),
 .ite (.cmp .lt (.var 1) (.const (.int 2)))
  [.ret (.tup [(.ix (.list false [(.const (.str [110,117,109])),(.const (.str [108,111,119]))]) (.var 1))])]
  [],
 .ite (.cmp .eq (.var 1) (.const (.int 2)))
  [.ret (.tup [(.const (.str [99,104,97,105,110])),(.blt .tuple [(.call 8 [(.var 0),(.bin .add (.const (.int 2)) (.call 7 [(.var 0),(.const (.int 5))]))])])])]
  [],
 .ite (.cmp .eq (.var 1) (.const (.int 3)))
  [.ret (.tup [(.const (.str [115,101,116])),(.blt .tuple [(.call 8 [(.var 0),(.bin .add (.const (.int 1)) (.call 7 [(.var 0),(.const (.int 5))]))])])])]
  [],
 .ret (.ite (.cmp .eq (.var 1) (.const (.int 4))) (.call 9 [(.var 0)]) (.tup [(.const (.str [110,117,109]))]))]
noncomputable def zx8:FD:=⟨1,2,zx0⟩
noncomputable def zx7:List S :=
 [.ite (.cmp .eq (.call 7 [(.var 0),(.const (.int 2))]) (.const (.int 0)))
  [.ret (.tup [(.const (.str [110,101,119,101,114])),(.call 10 [(.var 0)])])]
  [],
 .ret (.tup [(.const (.str [114,111,119])),(.blt .tuple [(.comp false (.call 10 [(.var 0)]) (.name 1) (.range (.bin .add (.const (.int 1)) (.call 7 [(.var 0),(.const (.int 2))]))) none [0] 1)])])]
noncomputable def zx2:FD:=⟨1,1,zx7⟩
noncomputable def zt4:List S :=
 [.set 1 (.call 7 [(.var 0),(.const (.int 10))]),
 .ite (.cmp .lt (.var 1) (.const (.int 5)))
  [.ret (.call 10 [(.var 0)])]
  [],
 .ite (.cmp .eq (.var 1) (.const (.int 5)))
  [.ret (.tup [(.const (.str [110,101,119,101,114])),(.call 11 [(.var 0)])])]
  [],
 .ite (.cmp .eq (.var 1) (.const (.int 6)))
  [.ret (.tup [(.const (.str [114,111,119])),(.blt .tuple [(.comp false (.call 10 [(.var 0)]) (.name 1) (.range (.bin .add (.const (.int 1)) (.call 7 [(.var 0),(.const (.int 3))]))) none [0] 1)])])]
  [],
 .ite (.cmp .eq (.var 1) (.const (.int 7)))
  [.ret (.call 11 [(.var 0)])]
  [],
 .set 2 (.thaw (.comp false (.call 10 [(.var 0)]) (.name 1) (.range (.call 7 [(.var 0),(.const (.int 3))])) none [0] 1)),
 .ite (.cmp .eq (.var 1) (.const (.int 8)))
  [.expr (.meth .insert (.var 2) [(.call 7 [(.var 0),(.bin .add (.blt .len [(.var 2)]) (.const (.int 1)))]),(.call 11 [(.var 0)])])]
  [.set 2 (.thaw (.bin .add (.list false [(.tup [(.const (.str [110,101,119,101,114])),(.call 10 [(.var 0)])]),(.tup [(.const (.str [110,101,119,101,114])),(.call 10 [(.var 0)])])]) (.slice (.var 2) none (some (.const (.int 1))))))],
 .ret (.tup [(.const (.str [114,111,119])),(.blt .tuple [(.var 2)])])]
noncomputable def zt5:FD:=⟨1,3,zt4⟩
noncomputable def zf4:List S :=
  [.set 2 (.ix (.var 1) (.const (.int 0))),
  .ite (.or (.cmp .eq (.var 2) (.const (.str [110,117,109]))) (.cmp .eq (.var 2) (.const (.str [108,111,119]))))
    [.set 3 (.list false [(.call 7 [(.var 0),(.const (.int 4))]),(.call 7 [(.var 0),(.const (.int 4))]),(.bin .add (.const (.int 8)) (.call 7 [(.var 0),(.const (.int 4))])),(.call 7 [(.var 0),(.bin .sub (.bin .pow (.const (.int 10)) (.const (.int 20))) (.const (.int 5)))])]),
     .set 3 (.ix (.var 3) (.call 7 [(.var 0),(.const (.int 4))])),
     .ret (.ite (.and (.cmp .eq (.var 2) (.const (.str [108,111,119]))) (.cmp .eq (.call 7 [(.var 0),(.const (.int 4))]) (.const (.int 0)))) (.const .non) (.var 3))]
    [],
  .ite (.or (.cmp .eq (.var 2) (.const (.str [99,104,97,105,110]))) (.cmp .eq (.var 2) (.const (.str [119,101,98]))))
    [.ret (.ix (.ix (.var 1) (.const (.int 1))) (.call 7 [(.var 0),(.blt .len [(.ix (.var 1) (.const (.int 1)))])]))]
    [],
  .ite (.cmp .eq (.var 2) (.const (.str [115,101,116])))
    [.ret (.blt .tuple [(.comp false (.var 1) (.name 1) (.of (.ix (.var 1) (.const (.int 1)))) (some (.cmp .eq (.call 7 [(.var 0),(.const (.int 2))]) (.const (.int 0)))) [0] 1)])]
    [],
  .ite (.cmp .eq (.var 2) (.const (.str [110,101,119,101,114])))
    [.ret (.tup [(.call 7 [(.var 0),(.const (.int 3))]),(.call 13 [(.var 0),(.ix (.var 1) (.const (.int 1)))])])]
    [],
  .ret (.blt .tuple [(.comp false (.call 13 [(.var 0),(.var 1)]) (.name 1) (.of (.ix (.var 1) (.const (.int 1)))) none [0] 1)])]
noncomputable def zd0:FD:=⟨2,4,zf4⟩
noncomputable def zt1:List S :=
  [.set 1 (.dict [] []),
  .for (.name 2) (.of (.ix (.var 0) (.const (.int 1))))
    [.set 3 (.list false [(.var 2)]),
     .for (.name 4) (.range (.blt .len [(.ix (.var 0) (.const (.int 1)))]))
       [.set 3 (.bin .add (.var 3) (.comp false (.ix (.var 1) (.const (.int 1))) (.name 1) (.of (.ix (.var 0) (.const (.int 2)))) (some (.and (.cmp .isIn (.ix (.var 1) (.const (.int 0))) (.var 0)) (.cmp .notIn (.ix (.var 1) (.const (.int 1))) (.var 0)))) [3] 1))],
     .setIx (.var 1) (.var 2) (.comp false (.var 1) (.name 1) (.of (.ix (.var 0) (.const (.int 1)))) (some (.cmp .isIn (.var 1) (.var 0))) [3] 1)],
  .ret (.var 1)]
noncomputable def zu5:FD:=⟨1,5,zt1⟩
noncomputable def zf2:List S :=
  [.set 3 (.ix (.var 0) (.const (.int 0))),
  .ite (.cmp .eq (.var 3) (.const (.str [110,117,109])))
    [.ret (.cmp .ge (.var 1) (.var 2))]
    [],
  .ite (.cmp .eq (.var 3) (.const (.str [108,111,119])))
    [.ret (.or (.cmp .isNone (.var 2) (.const .non)) (.and (.cmp .notNone (.var 1) (.const .non)) (.cmp .le (.var 1) (.var 2))))]
    [],
  .ite (.cmp .eq (.var 3) (.const (.str [99,104,97,105,110])))
    [.ret (.cmp .ge (.meth .index (.blt .list [(.ix (.var 0) (.const (.int 1)))]) [(.var 1)]) (.meth .index (.blt .list [(.ix (.var 0) (.const (.int 1)))]) [(.var 2)]))]
    [],
  .ite (.cmp .eq (.var 3) (.const (.str [115,101,116])))
    [.ret (.cmp .eq (.comp false (.var 1) (.name 1) (.of (.var 2)) (some (.cmp .notIn (.var 1) (.var 0))) [1] 1) (.list false []))]
    [],
  .ite (.cmp .eq (.var 3) (.const (.str [119,101,98])))
    [.ret (.cmp .isIn (.var 1) (.ix (.call 14 [(.var 0)]) (.var 2)))]
    [],
  .ite (.cmp .eq (.var 3) (.const (.str [110,101,119,101,114])))
    [.ite (.cmp .ne (.ix (.var 1) (.const (.int 0))) (.ix (.var 2) (.const (.int 0))))
       [.ret (.cmp .gt (.ix (.var 1) (.const (.int 0))) (.ix (.var 2) (.const (.int 0))))]
       [],
     .ret (.call 15 [(.ix (.var 0) (.const (.int 1))),(.ix (.var 1) (.const (.int 1))),(.ix (.var 2) (.const (.int 1)))])]
    [],
  .ret (.cmp .notIn (.const (.bl false)) (.comp false (.call 15 [(.ix (.ix (.var 0) (.const (.int 1))) (.var 3)),(.ix (.var 1) (.var 3)),(.ix (.var 2) (.var 3))]) (.name 3) (.range (.blt .len [(.ix (.var 0) (.const (.int 1)))])) none [0,1,2] 1))]
noncomputable def zc3:FD:=⟨3,4,zf2⟩
noncomputable def zi4:List S :=
  [.set 1 (.ix (.var 0) (.const (.int 0))),
  .ite (.cmp .eq (.var 1) (.const (.str [119,101,98])))
    [.set 2 (.call 14 [(.var 0)]),
     .ret (.ix (.comp false (.var 2) (.name 2) (.of (.ix (.var 0) (.const (.int 1)))) (some (.cmp .eq (.blt .len [(.ix (.var 1) (.var 2))]) (.blt .len [(.ix (.var 0) (.const (.int 1)))]))) [0,2] 1) (.const (.int 0)))]
    [],
  .ite (.cmp .eq (.var 1) (.const (.str [110,101,119,101,114])))
    [.ret (.tup [(.const (.int 0)),(.call 16 [(.ix (.var 0) (.const (.int 1)))])])]
    [],
  .ite (.cmp .eq (.var 1) (.const (.str [114,111,119])))
    [.ret (.blt .tuple [(.comp false (.call 16 [(.var 0)]) (.name 0) (.of (.ix (.var 0) (.const (.int 1)))) none [] 1)])]
    [],
  .ret (.ix (.dict [(.str [110,117,109]),(.str [108,111,119]),(.str [115,101,116]),(.str [99,104,97,105,110])] [(.const (.int 0)),(.const .non),(.tup []),(.ix (.ix (.var 0) (.neg (.const (.int 1)))) (.const (.int 0)))]) (.var 1))]
noncomputable def zd6:FD:=⟨1,3,zi4⟩
noncomputable def zj5:List S :=
  [.set 3 (.ix (.var 1) (.const (.int 0))),
  .ite (.cmp .eq (.var 3) (.const (.str [110,117,109])))
    [.ret (.blt .max2 [(.const (.int 0)),(.bin .sub (.bin .add (.var 2) (.call 7 [(.var 0),(.const (.int 3))])) (.const (.int 1)))])]
    [],
  .ite (.cmp .eq (.var 3) (.const (.str [108,111,119])))
    [.ret (.ite (.cmp .isNone (.var 2) (.const .non)) (.call 7 [(.var 0),(.const (.int 3))]) (.blt .max2 [(.const (.int 0)),(.bin .sub (.bin .add (.var 2) (.call 7 [(.var 0),(.const (.int 3))])) (.const (.int 1)))]))]
    [],
  .ite (.cmp .eq (.var 3) (.const (.str [115,101,116])))
    [.set 4 (.call 7 [(.var 0),(.blt .len [(.ix (.var 1) (.const (.int 1)))])]),
     .ret (.blt .tuple [(.comp false (.var 3) (.name 3) (.of (.ix (.var 1) (.const (.int 1)))) (some (.cmp .ne (.cmp .isIn (.var 3) (.var 1)) (.cmp .eq (.var 3) (.ix (.ix (.var 0) (.const (.int 1))) (.var 2))))) [1,2,4] 1)])]
    [],
  .ite (.cmp .eq (.var 3) (.const (.str [110,101,119,101,114])))
    [.ret (.tup [(.blt .max2 [(.const (.int 0)),(.bin .add (.ix (.var 2) (.const (.int 0))) (.ix (.list false [(.const (.int 0)),(.const (.int 0)),(.const (.int 1)),(.neg (.const (.int 1)))]) (.call 7 [(.var 0),(.const (.int 4))])))]),(.call 17 [(.var 0),(.ix (.var 1) (.const (.int 1))),(.ix (.var 2) (.const (.int 1)))])])]
    [],
  .ite (.cmp .eq (.var 3) (.const (.str [114,111,119])))
    [.set 4 (.call 7 [(.var 0),(.blt .len [(.var 2)])]),
     .set 5 (.call 17 [(.var 0),(.ix (.ix (.var 1) (.const (.int 1))) (.var 4)),(.ix (.var 2) (.var 4))]),
     .ret (.bin .add (.bin .add (.slice (.var 2) none (some (.var 4))) (.tup [(.var 5)])) (.slice (.var 2) (some (.bin .add (.var 4) (.const (.int 1)))) none))]
    [],
  .ret (.ix (.ix (.var 1) (.const (.int 1))) (.call 7 [(.var 0),(.blt .len [(.ix (.var 1) (.const (.int 1)))])]))]
noncomputable def ze9:FD:=⟨3,6,zj5⟩
noncomputable def zv4:List S :=
 [.ite (.cmp .ne (.ix (.var 0) (.const (.int 0))) (.const (.str [115,101,116])))
  [.ret (.blt .list [(.ix (.var 0) (.const (.int 1)))])]
  [],
 .set 1 (.list false [(.tup [])]),
 .for (.name 2) (.of (.ix (.var 0) (.const (.int 1))))
  [.set 1 (.bin .add (.var 1) (.comp false (.bin .add (.var 1) (.tup [(.var 0)])) (.name 1) (.of (.var 1)) none [2] 1))],
 .ret (.var 1)]
noncomputable def zr4:FD:=⟨1,3,zv4⟩
noncomputable def zv3:List S :=
 [.ite (.cmp .eq (.ix (.var 0) (.const (.int 0))) (.const (.str [115,101,116])))
  [.ret (.blt .tuple [(.comp false (.var 1) (.name 1) (.of (.var 1)) (some (.cmp .isIn (.var 1) (.var 0))) [2] 1)])]
  [],
 .ret (.ite (.call 15 [(.var 0),(.var 1),(.var 2)]) (.var 2) (.var 1))]
noncomputable def zr8:FD:=⟨3,3,zv3⟩
noncomputable def zk1:List S :=
  [.set 2 (.ix (.var 0) (.const (.int 0))),
  .ite (.cmp .eq (.var 2) (.const (.str [110,117,109])))
    [.ret (.ite (.cmp .gt (.var 1) (.const (.int 0))) (.tup [(.bin .sub (.var 1) (.const (.int 1)))]) (.tup []))]
    [],
  .ite (.cmp .eq (.var 2) (.const (.str [108,111,119])))
    [.ret (.ite (.cmp .isNone (.var 1) (.const .non)) (.tup []) (.tup [(.bin .add (.var 1) (.const (.int 1)))]))]
    [],
  .ite (.or (.cmp .eq (.var 2) (.const (.str [114,111,119]))) (.cmp .eq (.var 2) (.const (.str [110,101,119,101,114]))))
    [.ret (.tup [])]
    [],
  .set 3 (.comp false (.var 2) (.name 2) (.of (.call 18 [(.var 0)])) (some (.not (.call 15 [(.var 0),(.var 2),(.var 1)]))) [0,1] 1),
  .set 4 (.thaw (.list false [])),
  .for (.name 5) (.of (.var 3))
    [.ite (.cmp .notIn (.const (.bl false)) (.comp false (.call 15 [(.var 0),(.var 1),(.var 2)]) (.name 2) (.of (.var 3)) none [0,5] 1))
       [.expr (.meth .append (.var 4) [(.var 5)])]
       []],
  .ret (.blt .tuple [(.slice (.var 4) none (some (.const (.int 1))))])]
noncomputable def zg3:FD:=⟨2,6,zk1⟩
noncomputable def zx4:List S :=
 [.set 2 (.comp false (.call 13 [(.var 0),(.var 1)]) (.name 2) (.range (.const (.int 3))) none [0,1] 1),
 .set 3 (.comp false (.call 17 [(.var 0),(.var 1),(.var 2)]) (.name 2) (.of (.var 2)) none [0,1] 1),
 .ret (.bin .add (.bin .add (.var 2) (.var 3)) (.list false [(.call 16 [(.var 1)])]))]
noncomputable def zx1:FD:=⟨2,4,zx4⟩
noncomputable def zW5:List S :=
  [.for (.name 1) (.range (.const (.int 8)))
    [.set 2 (.call 6 [(.var 0),(.var 1)]),
     .set 3 (.blt .tuple [(.call 8 [(.var 2),(.bin .add (.const (.int 4)) (.call 7 [(.var 2),(.const (.int 2))]))])]),
     .for (.name 4) (.of (.tup [(.call 12 [(.var 2)]),(.tup [(.const (.str [115,101,116])),(.var 3)]),(.tup [(.const (.str [99,104,97,105,110])),(.var 3)]),(.call 9 [(.var 2)]),(.tup [(.const (.str [108,111,119]))]),(.tup [(.const (.str [110,117,109]))])]))
       [.set 5 (.call 21 [(.var 2),(.var 4)]),
        .set 6 (.blt .repr [(.tup [(.var 4),(.var 5)])]),
        .for (.name 7) (.of (.var 5))
          [.ite (.cmp .ne (.blt .repr [(.call 3 [(.var 4),(.var 7)])]) (.blt .repr [(.call 20 [(.var 4),(.var 7)])]))
             [.ret (.const (.bl false))]
             [],
           .ite (.cmp .isIn (.ix (.var 4) (.const (.int 0))) (.tup [(.const (.str [110,117,109])),(.const (.str [108,111,119])),(.const (.str [99,104,97,105,110])),(.const (.str [115,101,116]))]))
             [.for (.name 8) (.of (.var 5))
                [.ite (.cmp .ne (.blt .repr [(.call 2 [(.var 4),(.var 7),(.var 8)])]) (.blt .repr [(.call 19 [(.var 4),(.var 7),(.var 8)])]))
                   [.ret (.const (.bl false))]
                   []]]
             []],
        .ite (.cmp .ne (.blt .repr [(.tup [(.var 4),(.var 5)])]) (.var 6))
          [.ret (.const (.bl false))]
          []]],
  .ret (.const (.bl true))]
noncomputable def f_law:FD:=⟨1,9,zW5⟩
noncomputable def prog:List FD:=[zr1,ze8,f_met,zj9,zo1,zn7,zo7,zp3,zt2,zB8,zx8,zx2,zt5,zd0,zu5,zc3,zd6,ze9,zr4,zr8,zg3,zx1,f_law]
noncomputable abbrev zK2:Nat:=0
noncomputable abbrev zF1:Nat:=1
noncomputable abbrev i_met:Nat:=2
noncomputable abbrev i_below:Nat:=3
noncomputable abbrev zD7:Nat:=4
noncomputable abbrev zD6:Nat:=5
noncomputable abbrev zX1:Nat:=6
noncomputable abbrev zp0:Nat:=7
noncomputable abbrev zP7:Nat:=8
noncomputable abbrev i_law_web:Nat:=9
noncomputable abbrev zF2:Nat:=10
noncomputable abbrev zW8:Nat:=11
noncomputable abbrev zP0:Nat:=12
noncomputable abbrev zL0:Nat:=13
noncomputable abbrev zP1:Nat:=14
noncomputable abbrev zs8:Nat:=15
noncomputable abbrev zO7:Nat:=16
noncomputable abbrev zV4:Nat:=17
noncomputable abbrev zN3:Nat:=18
noncomputable abbrev zL6:Nat:=19
noncomputable abbrev zD0:Nat:=20
noncomputable abbrev zX3:Nat:=21
noncomputable abbrev i_law:Nat:=22
noncomputable def wellD (c l t:Int):PObj:=.dct [(.str [99,101,108,108],.int c),(.str [108,101,102,116],.int l),(.str [116,117,114,110],.int t)]
theorem zT9 {i:Int} (h1:-1000000000000000000≤i) (h2:i≤1000000000000000000):small64 i=true:=by
 unfold small64
 exact decide_eq_true ⟨by lia,by lia⟩
theorem zo6 (a b:Int) (h:0<b):0≤a % b∧a % b<b:=⟨Int.emod_nonneg _ (by lia),Int.emod_lt_of_pos _ h⟩
theorem draw_eq (W d w:Nat) (c l t m:Int) (st:Store) (hw:objAt st w=some (wellD c l t)) (hl:0≤l) (ht:0≤t) (ht2:t≤1000000) (hm:0<m) (hm2:m<1000000000000000000000000000000) :
  ∃ r l',0≤r∧r<m∧0≤l'∧runF prog W (d+1) zp0 [.ref w,.p (.int m)] st=.ok (.p (.int r)) (st.set w (wellD c l' (t+1))):=by
 have g1:=fun o=>zp1 (o:=o) (zn3 hw)
 have s31:small64 31=true:=by decide
 have s40:small64 40=true:=by decide
 have st31:small64 (31 * t)=true:=zT9 (by lia) (by lia)
 have sm:small64 (48271+40 * t)=true:=zT9 (by lia) (by lia)
 have s6:small64 69621=true:=by decide
 by_cases h:0<l
 ·refine ⟨l % m,l / m,(zo6 l m hm).1,(zo6 l m hm).2,Int.ediv_nonneg hl (by lia),?_⟩
  rw [zb3 (fd:=zp3) rfl rfl]
  simp [zp3,zs0,hw,wellD,dGet,dPut,h,g1,hm,hm2,zU3]
 ·refine ⟨((((c % 2147483647+31 * t * t+1) * (48271+40 * t) % 2147483629) / 11 * 69621+t) % 998244353 / 7) % m,l,(zo6 _ m hm).1,(zo6 _ m hm).2,hl,?_⟩
  rw [zb3 (fd:=zp3) rfl rfl]
  simp [zp3,zs0,hw,wellD,dGet,dPut,h,g1,hm,hm2,zU3,s31,s40,st31,sm,s6]
theorem well_eq (W d:Nat) (ns:List Int) (k:Int) (st:Store) (h63:ns.length≤63) (hk:0≤k) (hk2:k≤1000000) :
  ∃ c l,0≤l∧runF prog W (d+1) zX1 [.p (.lst (ns.map .int)),.p (.int k)] st=.ok (.ref st.length) (st++[wellD c l 0]):=by
 have s31:small64 31=true:=by decide
 have s79:small64 7919=true:=by decide
 have s10:small64 10=true:=by decide
 have sb:∀ (p:Prop) [Decidable p],small64 (if p then (1:Int) else 0)=true:=by intro p _;split <;> decide
 have mx:∀ c:Int,0≤(if (0:Int)<c then c else 0):=fun c=>by split <;> lia
 have mul0:∀ (c:Int) (b:Bool),0≤(if (0:Int)<c then c else 0) * (if b=true then 1 else 0):=fun c b=>Int.mul_nonneg (mx c) (by cases b <;> decide)
 have i18:(10:Int) ^ 18=1000000000000000000:=by decide
 by_cases h:(0:Int)<ns.length
 ·have hmod:=zo6 k ns.length h
  obtain ⟨v,hv⟩:∃ v,ns[(k % (ns.length:Int)).toNat]?=some v:=⟨_,List.getElem?_eq_getElem (by lia)⟩
  refine ⟨v+7919 * (k / (ns.length:Int)),(if (0:Int)<v+7919 * (k / (ns.length:Int)) then v+7919 * (k / (ns.length:Int)) else 0) * (if decide ((10:Int) ^ 18≤v+7919 * (k / (ns.length:Int)))=true then 1 else 0),mul0 _ _,?_⟩
  have hl2:(ns.length:Int)<1000000000000000000000000000000:=by lia
  have hix:ixAt ns.length (k % (ns.length:Int))=some (k % (ns.length:Int)).toNat:=by
   unfold ixAt;rw [if_pos hmod.1,if_pos hmod.2]
  rw [zb3 (fd:=zo7) rfl rfl]
  have h':0<ns.length:=by lia
  simp [zo7,zs1,s31,s10,s79,sb,wellD,dPut,h,h',hl2,hix,hv,trim,-Int.reducePow]
 ·have h0:ns.length=0:=by lia
  refine ⟨31 * k,(if (0:Int)<31 * k then 31 * k else 0) * (if decide ((10:Int) ^ 18≤31 * k)=true then 1 else 0),mul0 _ _,?_⟩
  rw [zb3 (fd:=zo7) rfl rfl]
  have h':¬ 0<ns.length:=by lia
  simp [zo7,zs1,s31,s10,sb,wellD,dPut,h,h0,trim,-Int.reducePow]
def Well (st:Store) (w:Nat) (T:Int):Prop:=∃ c l t,objAt st w=some (wellD c l t)∧0≤l∧0≤t∧t≤T
def Drew (w:Nat) (T:Int) (st st':Store):Prop:=(∃ o,st'=st.set w o)∧Well st' w T
theorem Well.lt {st w T} (h:Well st w T):w<st.length:=by obtain ⟨_,_,_,h,_⟩:=h;exact zn3 h
theorem Well.mono {st w T T'} (h:Well st w T) (g:T≤T'):Well st w T':=by
 obtain ⟨c,l,t,a,b,d,e⟩:=h
 exact ⟨c,l,t,a,b,d,by lia⟩
theorem Well.app {st w T r} (h:Well st w T):Well (st++r) w T:=by
 obtain ⟨c,l,t,a,b⟩:=h
 exact ⟨c,l,t,by rw [zq6 (zn3 a)];exact a,b⟩
theorem zv2 {W D w:Nat} (hD:0<D) {T m:Int} {st:Store} (hw:Well st w T) (hT:T<1000000) (hm:0<m) (hm2:m<1000000000000000000000000000000) :
  Sat (runF prog W D zp0 [.ref w,.p (.int m)] st) fun v st'=>(∃ r,v=.p (.int r)∧0≤r∧r<m)∧Drew w (T+1) st st':=by
 obtain ⟨d,rfl⟩:∃ d,D=d+1:=⟨D - 1,by lia⟩
 obtain ⟨c,l,t,h1,h2,h3,h4⟩:=hw
 obtain ⟨r,l',a1,a2,a3,a4⟩:=draw_eq W d w c l t m st h1 h2 h3 (by lia) hm hm2
 exact sat_eq a4 ⟨⟨r,rfl,a1,a2⟩,⟨_,rfl⟩,c,l',t+1,zp1 (zn3 h1),a3,by lia,by lia⟩
theorem zi7 {W d w:Nat} {T m:Int} {st:Store} (hw:Well st w T) (hT:T<1000000) (hm:0<m:=by decide) (hm2:m<1000000000000000000000000000000:=by decide) :
  Sat (runF prog W (d+1) zp0 [.ref w,.p (.int m)] st) fun v st'=>(∃ r,v=.p (.int r)∧0≤r∧r<m)∧Drew w (T+1) st st':=zv2 (Nat.succ_pos d) hw hT hm hm2
theorem Drew.trans {w T T' st st1 st2} (h:Drew w T st st1) (g:Drew w T' st1 st2):Drew w T' st st2:=by
 obtain ⟨⟨o,rfl⟩,_⟩:=h
 obtain ⟨⟨o',rfl⟩,q⟩:=g
 exact ⟨⟨o',by simp⟩,q⟩
theorem Drew.refl {w T st} (h:Well st w T):Drew w T st st:=by
 refine ⟨?_,h⟩
 obtain ⟨c,l,t,a,_⟩:=h
 exact ⟨wellD c l t,by
  unfold objAt at a
  obtain ⟨h1,h2⟩:=List.getElem?_eq_some_iff.mp a
  rw [← h2];simp⟩
theorem Drew.len {w T st st'} (h:Drew w T st st'):st'.length=st.length:=by
 obtain ⟨⟨o,rfl⟩,_⟩:=h;simp
theorem Drew.mono {w T T' st st'} (h:Drew w T st st') (g:T≤T'):Drew w T' st st':=⟨h.1,h.2.mono g⟩
theorem Drew.take {w T st st'} (h:Drew w T st st'):st'.take st.length=st':=by
 rw [← h.len];simp
theorem zs6 {W D w:Nat} (hD:0<D) {T m:Int} {st rs:Store} (hw:Well st w T) (hT:T<1000000) (hm:0<m) (hm2:m<1000000000000000000000000000000) :
  Sat (runF prog W D zp0 [.ref w,.p (.int m)] (st++rs)) fun v st'=>(∃ r,v=.p (.int r)∧0≤r∧r<m)∧∃ o,st'=st.set w o++rs∧Well (st.set w o) w (T+1):=by
 refine (zv2 hD hw.app hT hm hm2).mono ?_
 rintro v st' ⟨h,⟨o,rfl⟩,hw'⟩
 refine ⟨h,o,List.set_append_left _ _ hw.lt,?_⟩
 rw [List.set_append_left _ _ hw.lt] at hw'
 obtain ⟨c,l,t,a,b⟩:=hw'
 exact ⟨c,l,t,by rw [zq6 (by simpa using hw.lt)] at a;exact a,b⟩
theorem Drew.cut {w T st st'} (h:Drew w T st st'):Drew w T st (st'.take st.length):=by rw [h.take];exact h
theorem Drew.unapp {w T st rs st'} (h:Drew w T (st++rs) st') (hw:w<st.length):∃ o,st'=st.set w o++rs∧Well (st.set w o) w T:=by
 obtain ⟨⟨o,rfl⟩,hw'⟩:=h
 refine ⟨o,List.set_append_left _ _ hw,?_⟩
 rw [List.set_append_left _ _ hw] at hw'
 obtain ⟨c,l,t,a,b⟩:=hw'
 exact ⟨c,l,t,by rw [zq6 (by simpa using hw)] at a;exact a,b⟩
noncomputable def isNm (cs:List Nat):Bool:=decide (1≤cs.length)&&decide (cs.length≤8)&&cs.all fun c=>decide (97≤c∧c≤122)
def goodNs (ns:List (List Nat)):Prop:=ns.Nodup∧∀ n∈ns,isNm n=true
theorem goodNs.perm {a b} (h:goodNs a) (p:List.Perm b a):goodNs b:=⟨p.nodup_iff.mpr h.1,fun n hn=>h.2 n (p.mem_iff.mp hn)⟩
theorem goodNs.take {a} (h:goodNs a) (k:Nat):goodNs (a.take k):=⟨h.1.sublist (List.take_sublist _ _),fun n hn=>h.2 n (List.mem_of_mem_take hn)⟩
noncomputable def namesTail:List S:=zk0.drop 6
theorem zW3 {W d w n k:Nat} {T:Int} {m:Nat} {st0 st:Store} {ns:List (List Nat)} {x2 x3 x4 x6 x7 x8 x9 x10:Option Val}
  (hw:w<n) (hnk:n≤k) (hd:Drew w T st0 (st.take n)) (hT:T+2≤1000000) (hk:objAt st k=some (.lst (ns.map .str))) (h8:ns.length=8) (hg:goodNs ns) (hm:m≤8) :
  Sat (execSs (runF prog W (d+1)) W namesTail [some (.ref w),some (.p (.int m)),x2,x3,x4,some (.ref k),x6,x7,x8,x9,x10] st)
   fun f st'=>∃ ns',f=.ret (.p (.lst (ns'.map .str)))∧ns'.length=m∧goodNs ns'∧Drew w (T+2) st0 (st'.take n):=by
 have hwl:Well st w T:=by
  have:=hd.2.app (r:=st.drop n)
  rwa [List.take_append_drop] at this
 simp only [namesTail,zk0,List.drop_succ_cons,List.drop_zero]
 apply za4
 simp! []
 refine (zi7 hwl (by lia)).mono ?_
 rintro _ st1 ⟨⟨r,rfl,hr0,hr1⟩,⟨o1,rfl⟩,hw1⟩
 apply za4
 have hk1:objAt (st.set w o1) k=some (.lst (ns.map .str)):=by rw [zq5 (by lia)];exact hk
 simp! [op1,zi6 hk1,sliceOp,zx9,zz2 _ _ hr0,zy4 _ _ hr0,zs7,h8]
 have hl:(8 - r.toNat+min r.toNat 8)=8:=by lia
 simp! [hl,zs7]
 dsimp! only
 have hp:=zw1 ns r.toNat
 have hg2:=hg.perm hp
 have h82:(ns.drop r.toNat++ns.take r.toNat).length=8:=by rw [hp.length_eq];exact h8
 rw [← List.map_drop,← List.map_take,← List.map_append]
 generalize ns.drop r.toNat++ns.take r.toNat=ns2 at hg2 h82
 apply za4
 simp! []
 refine (zi7 hw1.app (by lia)).mono ?_
 rintro _ st2 ⟨⟨q,rfl,hq0,hq1⟩,⟨o2,rfl⟩,hw2⟩
 have hwn:w<st.length:=hwl.lt
 have hkn:k<st.length:=zn3 hk
 have hS:((st.set w o1++[PObj.lst (List.map PV.str ns2)]).set w o2)=st.set w o2++[PObj.lst (List.map PV.str ns2)]:=by
  rw [List.set_append_left _ _ (by simpa using hwn)];simp
 rw [hS] at hw2 ⊢
 have hD:∀ r,Drew w (T+2) st0 (List.take n (st.set w o2++r)):=by
  intro r
  rw [List.take_append_of_le_length (by simp;lia),List.take_set]
  obtain ⟨⟨o0,h0⟩,-⟩:=hd
  refine ⟨⟨o2,?_⟩,?_⟩
  ·rw [h0];simp
  ·obtain ⟨c,l,t,a,b⟩:=hw2
   refine ⟨c,l,t,?_,by lia⟩
   rw [zq6 (by simpa using hwn),zp1 hwn] at a
   rw [zp1 (by simp;lia)];exact a
 have ho:objAt (st.set w o2++[PObj.lst (List.map PV.str ns2)]) st.length=some (.lst (ns2.map .str)):=zn1 (by simp)
 have hm0:(0:Int)≤m:=by lia
 by_cases hq:q=0
 ·subst hq
  simp! [pyEq]
  apply za4
  simp! [zi6 ho,zu8 ho,gReverse]
  apply za4
  have ho2:objAt (st.set w o2++[PObj.lst (List.map PV.str ns2).reverse]) st.length=some (.lst (ns2.reverse.map .str)):=by
   rw [List.map_reverse];exact zn1 (by simp)
  simp! [op1,zi6 ho2,sliceOp,zx9,zy4 _ _ hm0]
  exact ⟨ns2.reverse.take m,by simp,by simp;lia,(hg2.perm (List.reverse_perm _)).take m,hD _⟩
 ·simp! [pyEq,hq]
  apply za4
  simp! [op1,zi6 ho,sliceOp,zx9,zy4 _ _ hm0]
  exact ⟨ns2.take m,by simp,by simp;lia,hg2.take m,hD _⟩
noncomputable def L52:List Nat:=[97,98,99,100,101,102,103,104,105,106,107,108,109,110,111,112,113,114,115,116,117,118,119,120,121,122,97,98,99,100,101,102,103,104,105,106,107,108,109,110,111,112,113,114,115,116,117,118,119,120,121,122]
noncomputable instance (ns):Decidable (goodNs ns):=by unfold goodNs;infer_instance
noncomputable def pre0 (s:Nat):List (List Nat):=(List.range 8).map fun k=>(L52.drop s).take (1+k)
noncomputable def pre1 (s z a:Nat):List (List Nat):=(List.range 8).map fun k=>(L52.drop s).take a++((L52.drop ((s+3 * k) % 26)).take 1)++(L52.drop (s+a+1)).take (z - a - 1)
theorem L52_ok:L52.all (fun c=>decide (97≤c∧c≤122))=true:=by decide
theorem sub_ok {l:List Nat} (h:∀ c∈l,c∈L52):l.all (fun c=>decide (97≤c∧c≤122))=true:=by
 rw [List.all_eq_true]
 exact fun c hc=>List.all_eq_true.mp L52_ok c (h c hc)
theorem cut_ok {s z:Nat}:∀ c∈(L52.drop s).take z,c∈L52:=fun c hc=>List.mem_of_mem_drop (List.mem_of_mem_take hc)
theorem zL4 {α β:Type} {f:α→β} {l:List α} (h:l.Nodup) (hf:∀ a b,f a=f b→a=b):(l.map f).Nodup:=by
 unfold List.Nodup at *
 rw [List.pairwise_map]
 exact h.imp fun hab hfab=>hab (hf _ _ hfab)
theorem pre0_good:∀ s,s<26→goodNs (pre0 s):=by decide +kernel
theorem one_good:∀ s,s<26→((List.range 8).map fun k=>(L52.drop ((s+3 * k) % 26)).take 1).Nodup:=by decide +kernel
theorem tn1 {a b:Int} (ha:0≤a) (hb:0≤b):(a+b).toNat - a.toNat=b.toNat:=by rw [Int.toNat_add ha hb,Nat.add_sub_cancel_left]
theorem tn2 {a b:Int} (ha:0≤a) (hb:0≤b):(a+b+1).toNat=a.toNat+b.toNat+1:=by rw [Int.toNat_add (Int.add_nonneg ha hb) (by decide),Int.toNat_add ha hb];rfl
theorem tn3 {a c:Int} {b:Nat} (ha:0≤a) (hc:0≤c):(a+(1+c)).toNat - (a.toNat+b+1)=(1+c).toNat - b - 1:=by
 obtain ⟨n,rfl⟩:=Int.eq_ofNat_of_zero_le ha
 obtain ⟨m,rfl⟩:=Int.eq_ofNat_of_zero_le hc
 show ((n+(1+m):Nat):Int).toNat - _=((1+m:Nat):Int).toNat - _ - 1
 rw [Int.toNat_natCast,Int.toNat_natCast,Int.toNat_natCast]
 lia
theorem tn4 {a:Int} {k:Nat} (ha:0≤a):((a+3 * (k:Int)) % 26).toNat=(a.toNat+3 * k) % 26:=by
 obtain ⟨n,rfl⟩:=Int.eq_ofNat_of_zero_le ha
 show (((n+3 * k) % 26:Nat):Int).toNat=_
 rw [Int.toNat_natCast,Int.toNat_natCast]
theorem mn1 {a b:Nat}:min a (52 - b)+1≤16777216:=Nat.le_trans (Nat.succ_le_succ (Nat.le_trans (Nat.min_le_right _ _) (Nat.sub_le _ _))) (by decide)
theorem mn2 {a b c d:Nat}:min a (52 - b)+1+min c (51 - d)≤16777216:=Nat.le_trans (Nat.add_le_add (Nat.succ_le_succ (Nat.le_trans (Nat.min_le_right _ _) (Nat.sub_le _ _))) (Nat.le_trans (Nat.min_le_right _ _) (Nat.sub_le _ _))) (by decide:53+51≤16777216)
theorem pre1_good (s:Nat) (hs:s<26) (z:Nat) (hz:z<9) (a:Nat) (ha:a<z):goodNs (pre1 s z a):=by
 constructor
 ·have h:=zL4 (f:=fun x=>(L52.drop s).take a++x++(L52.drop (s+a+1)).take (z - a - 1)) (one_good s hs) fun x y h=>by simpa using h
  rw [List.map_map] at h
  exact h
 ·intro n hn
  obtain ⟨k,hk,rfl⟩:=List.mem_map.mp hn
  have hl:L52.length=52:=by decide
  have hk8:(s+3 * k) % 26<26:=Nat.mod_lt _ (by lia)
  have h1:((L52.drop s).take a++((L52.drop ((s+3 * k) % 26)).take 1)++(L52.drop (s+a+1)).take (z - a - 1)).length=z:=by
   simp [hl];lia
  unfold isNm
  rw [h1,sub_ok]
  ·simp;lia
  ·intro c hc
   simp only [List.mem_append] at hc
   rcases hc with (hc | hc) | hc <;> exact cut_ok c hc
noncomputable def base8:List (List Nat):=[[110,117,109],[110,117,109,98],[108,111,119],[114,111,119,115],[115,101,116],[97,115,107,115],[112,117,116],[111,102]]
theorem zw5 {W D w:Nat} {T:Int} {m:Nat} {st:Store} (hD:2≤D) (hw:Well st w T) (hT:T+6≤1000000) (hm:m≤8) :
  Sat (runF prog W D zP7 [.ref w,.p (.int m)] st) fun v st'=>(∃ ns,v=.p (.lst (ns.map .str))∧ns.length=m∧goodNs ns)∧Drew w (T+6) st st':=by
 obtain ⟨d,rfl⟩:∃ d,D=d+2:=⟨D - 2,by lia⟩
 have hwn:=hw.lt
 rw [zb3 (fd:=zt2) rfl rfl]
 rw [sat_bind]
 have fin:∀ f st',(∃ ns',f=Flow.ret (.p (.lst (ns'.map .str)))∧ns'.length=m∧goodNs ns'∧Drew w (T+6) st (st'.take st.length))→Sat (leave st.length f st') fun v st'=>(∃ ns,v=.p (.lst (ns.map .str))∧ns.length=m∧goodNs ns)∧Drew w (T+6) st st':=by
  rintro f st' ⟨ns',rfl,h1,h2,h3⟩
  simp only [leave_ret,trim_p,sat_ok]
  exact ⟨⟨ns',rfl,h1,h2⟩,h3⟩
 refine Sat.mono ?_ fin
 clear fin
 simp only [zt2,List.map_cons,List.map_nil,List.cons_append,List.nil_append,Nat.reduceSub,List.replicate]
 rw [show zk0=zk0.take 6++namesTail from rfl,zX8,sat_bind]
 simp only [zk0,List.take_succ_cons,List.take_zero]
 have hmul:bMul (.str [97,98,99,100,101,102,103,104,105,106,107,108,109,110,111,112,113,114,115,116,117,118,119,120,121,122]) (.int 2)=some (.str L52):=by simp [zs7,L52,List.replicate]
 have hl52:L52.length=52:=by decide
 have s3:small64 3=true:=by decide
 apply za4
 simp! [hmul,-bMul]
 apply za4
 simp! []
 refine (zi7 hw (by lia)).mono ?_
 rintro _ _ ⟨⟨r3,rfl,h30,h31⟩,⟨o3,rfl⟩,hw3⟩
 apply za4
 simp! []
 refine (zi7 hw3 (by lia)).mono ?_
 rintro _ _ ⟨⟨r4,rfl,h40,h41⟩,⟨o4,rfl⟩,hw4⟩
 rw [List.set_set] at hw4 ⊢
 apply za4
 simp! []
 dsimp! only
 have hw4':Well (st.set w o4) w (T+2):=hw4.mono (by lia)
 clear hw4 hw3
 -- behind both ways: the list,at its place
 have fin:∀ (k:Nat) (ns:List (List Nat)) (T':Int) (o:PObj) (rs:List PObj) x3 x4 x6 x7 x8 x9 x10,T'≤T+4→Well (st.set w o) w T'→objAt (st.set w o++rs) k=some (.lst (ns.map .str))→st.length≤k→ns.length=8→goodNs ns →
   Sat (execSs (runF prog W (d+1)) W namesTail [some (.ref w),some (.p (.int m)),some (.p (.str L52)),x3,x4,some (.ref k),x6,x7,x8,x9,x10] (st.set w o++rs)) fun a st_3=>∃ ns',a=Flow.ret (Val.p (PV.lst (List.map PV.str ns')))∧ns'.length=m∧goodNs ns'∧Drew w (T+6) st (List.take (List.length st) st_3):=by
  intro k ns T' o rs x3 x4 x6 x7 x8 x9 x10 hT' hw' hk hlk h8 hg
  refine (zW3 (n:=st.length) (st0:=st) (T:=T+4) hwn hlk ?_ (by lia) hk h8 hg hm).mono fun f st' h=>?_
  ·rw [List.take_append_of_le_length (by simp),List.take_of_length_le (by simp)]
   exact ⟨⟨o,rfl⟩,hw'.mono hT'⟩
  ·obtain ⟨ns',h1,h2,h3,h4⟩:=h
   exact ⟨ns',h1,h2,h3,h4.mono (by lia)⟩
 by_cases c0:r3=0
 ·subst c0
  refine zb8 rfl ?_
  apply za4
  simp! [zu9]
  rw [zg8 (fun k:Nat=>PV.int k) (fun k=>PV.str ((L52.drop r4.toNat).take (1+k))) (fun env=>∃ v,env=[some (.p (.str L52)),some (.p (.int r4)),v]) _ _ _ ⟨_,rfl⟩ ?_]
  ·simp! []
   dsimp! only
   skip
   apply za4
   simp! [pyEq]
   dsimp! only
   exact fin _ (pre0 r4.toNat) (T+2) _ _ _ _ _ _ _ _ _ (by lia) hw4' (by simp [objAt,pre0]) (by simp) (by simp [pre0]) (pre0_good _ (by lia))
  ·rintro k hk env ⟨v,rfl⟩
   refine ⟨_,rfl,⟨_,rfl⟩,?_⟩
   have hk8:k<8:=List.mem_range.mp hk
   simp! [sliceOp]
   rw [zQ9 _ _ _ h40 (by lia) (by rw [hl52];lia)]
   rw [show (r4+1+(k:Int)).toNat - r4.toNat=1+k by lia]
 ·apply za4
  simp! [pyEq,c0]
  dsimp! only
  by_cases c1:r3=1
  ·subst c1
   refine zb8 rfl ?_
   apply za4
   simp! []
   refine (zs6 (by lia) hw4' (by lia) (by lia) (by lia)).mono ?_
   rintro _ _ ⟨⟨r6,rfl,h60,h61⟩,o6,rfl,hw6⟩
   rw [List.set_set] at hw6 ⊢
   simp! []
   apply za4
   simp! []
   refine (zs6 (by lia) hw6 (by lia) (by lia) (by lia)).mono ?_
   rintro _ _ ⟨⟨r7,rfl,h70,h71⟩,o7,rfl,hw7⟩
   rw [List.set_set] at hw7 ⊢
   apply za4
   simp! [sliceOp]
   rw [zQ9 _ _ _ h40 (by lia) (by rw [hl52];lia),tn1 h40 h70]
   apply za4
   simp! [sliceOp]
   rw [zQ9 _ _ _ (by lia) (by lia) (by rw [hl52];lia),tn2 h40 h70,tn3 h40 h60]
   apply za4
   simp! [zu9]
   rw [zg8 (fun k:Nat=>PV.int k) (fun k=>PV.str ((L52.drop r4.toNat).take r7.toNat++((L52.drop ((r4.toNat+3 * k) % 26)).take 1)++(L52.drop (r4.toNat+r7.toNat+1)).take ((1+r6).toNat - r7.toNat - 1)))
    (fun env=>∃ v,env=[some (.p (.str L52)),some (.p (.int r4)),some (.p (.str ((L52.drop r4.toNat).take r7.toNat))),some (.p (.str ((L52.drop (r4.toNat+r7.toNat+1)).take ((1+r6).toNat - r7.toNat - 1)))),v]) _ _ _ ⟨_,rfl⟩ ?_]
   ·simp! []
    dsimp! only
    exact fin _ (pre1 r4.toNat (1+r6).toNat r7.toNat) (T+4) _ _ _ _ _ _ _ _ _ (by lia) (hw7.mono (by lia)) (by simp [objAt,pre1]) (by simp) (by simp [pre1]) (pre1_good _ (by lia) _ (by lia) _ (by lia))
   ·rintro k hk env ⟨v,rfl⟩
    refine ⟨_,rfl,⟨_,rfl⟩,?_⟩
    have hk8:k<8:=List.mem_range.mp hk
    have hmod:=zo6 (r4+3 * k) 26 (by lia)
    obtain ⟨x,x1,x2,x3⟩:=zH4 L52 ((r4+3 * k) % 26) hmod.1 (by rw [hl52];lia)
    have hn:((r4+3 * (k:Int)) % 26).toNat=(r4.toNat+3 * k) % 26:=tn4 h40
    have hx:(L52.drop ((r4.toNat+3 * k) % 26)).take 1=[x]:=by
     rw [← hn,List.take_one,List.head?_drop,x1];rfl
    rw [hx]
    rw [hl52] at x3
    simp! [s3,x1,x3,hl52]
    rw [if_pos (zs7 mn1)]
    simp! [hl52]
    rw [if_pos (zs7 mn2)]
    rfl
  ·apply za4
   simp! [pyEq,c1]
   dsimp! only
   exact fin _ base8 (T+2) _ _ _ _ _ _ _ _ _ (by lia) hw4' (by simp [objAt,base8]) (by simp) (by simp [base8]) (by decide +kernel)
inductive Ord where
 | num
 | low
 | chain (ns:List (List Nat))
 | set (ns:List (List Nat))
 | web (ns:List (List Nat)) (ps:List (List Nat×List Nat))
 | row (os:List Ord)
 | newer (o:Ord)
mutual
noncomputable def enc:Ord→PV
 | .num=>.tup [.str [110,117,109]]
 | .low=>.tup [.str [108,111,119]]
 | .chain ns=>.tup [.str [99,104,97,105,110],.tup (ns.map .str)]
 | .set ns=>.tup [.str [115,101,116],.tup (ns.map .str)]
 | .web ns ps=>.tup [.str [119,101,98],.tup (ns.map .str),.tup (ps.map fun p=>.tup [.str p.1,.str p.2])]
 | .row os=>.tup [.str [114,111,119],.tup (encs os)]
 | .newer o=>.tup [.str [110,101,119,101,114],enc o]
noncomputable def encs:List Ord→List PV
 | []=>[]
 | o::r=>enc o::encs r
end
theorem encs_eq:∀ os,encs os=os.map enc
 | []=>by rw [encs];rfl
 | o::r=>by rw [encs,encs_eq r];rfl
theorem zi8:enc .num=.tup [.str [110,117,109]]:=by rw [enc]
theorem zj2:enc .low=.tup [.str [108,111,119]]:=by rw [enc]
theorem zf3 {ns}:enc (.chain ns)=.tup [.str [99,104,97,105,110],.tup (ns.map .str)]:=by rw [enc]
theorem zi1 {ns}:enc (.set ns)=.tup [.str [115,101,116],.tup (ns.map .str)]:=by rw [enc]
theorem zo0 {ns ps}:enc (.web ns ps)=.tup [.str [119,101,98],.tup (ns.map .str),.tup (ps.map fun p=>.tup [.str p.1,.str p.2])]:=by rw [enc]
theorem zi9 {os}:enc (.row os)=.tup [.str [114,111,119],.tup (os.map enc)]:=by rw [enc,encs_eq]
theorem zf9 {o}:enc (.newer o)=.tup [.str [110,101,119,101,114],enc o]:=by rw [enc]
mutual
noncomputable def dpt:Ord→Nat
 | .row os=>dpts os+1
 | .newer o=>dpt o+1
 | _=>1
noncomputable def dpts:List Ord→Nat
 | []=>0
 | o::r=>max (dpt o) (dpts r)
end
theorem zq1 {o:Ord}:∀ {os:List Ord},o∈os→dpt o≤dpts os
 | [],h=>by cases h
 | x::r,h=>by
  rw [dpts]
  rcases List.mem_cons.mp h with rfl | h
  ·lia
  ·have:=zq1 h;lia
theorem zH8 {d:Nat}:∀ {os:List Ord},(∀ o∈os,dpt o≤d)→dpts os≤d
 | [],_=>by rw [dpts];lia
 | x::r,h=>by
  rw [dpts]
  have h1:=h x (by simp)
  have h2:=zH8 (d:=d) (os:=r) fun o ho=>h o (List.mem_cons_of_mem _ ho)
  lia
theorem zu3:∀ o:Ord,1≤dpt o
 | .row os=>by rw [dpt];lia
 | .newer o=>by rw [dpt];lia
 | .num=>by rw [dpt] <;> simp
 | .low=>by rw [dpt] <;> simp
 | .chain _=>by rw [dpt] <;> simp
 | .set _=>by rw [dpt] <;> simp
 | .web _ _=>by rw [dpt] <;> simp
noncomputable def shp:List (List (Nat×Nat)):=[[(0,1)],[(0,1),(1,2),(0,2)],[(0,1),(0,2),(1,3),(2,3)],[(0,1),(0,2),(0,3),(1,4),(2,4),(3,4)],
 [(0,1),(1,2),(2,4),(0,3),(3,4)],[(0,1),(1,2),(2,5),(0,3),(3,4),(4,5),(0,5)],[(0,1),(0,2),(0,3),(1,4),(2,4),(2,5),(3,5),(4,6),(5,6)]]
noncomputable def manyOf (rows:List (Nat×Nat)):Nat:=1+rows.foldl (fun m p=>max m p.2) 0
noncomputable def rot {α:Type} (k:Nat) (xs:List α):List α:=xs.drop k++xs.take k
noncomputable def webPs (rows:List (Nat×Nat)) (sh at':Nat) (ns:List (List Nat)):List (List Nat×List Nat) :=
 (rot at' rows).map fun p=>((rot sh ns).getD p.1 [],(rot sh ns).getD p.2 [])
def okWeb (ns:List (List Nat)) (ps:List (List Nat×List Nat)):Prop :=
 goodNs ns∧∃ rows∈shp,∃ sh at',sh<manyOf rows∧at'<rows.length∧ns.length=manyOf rows∧ps=webPs rows sh at' ns
mutual
noncomputable def ok:Ord→Prop
 | .num=>True
 | .low=>True
 | .chain ns=>goodNs ns∧2≤ns.length∧ns.length≤6
 | .set ns=>goodNs ns∧1≤ns.length∧ns.length≤5
 | .web ns ps=>okWeb ns ps
 | .row os=>1≤os.length∧os.length≤3∧oks os
 | .newer o=>ok o
noncomputable def oks:List Ord→Prop
 | []=>True
 | o::r=>ok o∧oks r
end
theorem oks_iff:∀ {os},oks os↔∀ o∈os,ok o
 | []=>by rw [oks];simp
 | o::r=>by rw [oks,oks_iff];simp
theorem zq3 {os}:ok (.row os)↔1≤os.length∧os.length≤3∧∀ o∈os,ok o:=by rw [ok,oks_iff]
theorem zj8 {o}:ok (.newer o)↔ok o:=by rw [ok]
theorem zz1:∀ rows∈shp,2≤manyOf rows∧manyOf rows≤7∧1≤rows.length∧rows.length≤9∧∀ p∈rows,p.1<manyOf rows∧p.2<manyOf rows:=by decide
noncomputable def rowPV (p:Nat×Nat):PV:=.tup [.int p.1,.int p.2]
theorem shp_max:∀ rows∈shp,fMax (rows.map fun p=>PV.int p.2)=some (.int ((manyOf rows:Int) - 1)):=by
 intro rows h
 simp only [shp,List.mem_cons,List.not_mem_nil,or_false] at h
 rcases h with rfl | rfl | rfl | rfl | rfl | rfl | rfl <;> rfl
theorem zJ7 {n} (h:isNm n=true):1≤n.length∧n.length≤8:=by
 unfold isNm at h;simp at h;lia
theorem zw2 {n} (h:isNm n=true):n.all okC=true:=by
 unfold isNm at h
 simp only [Bool.and_eq_true] at h
 rw [List.all_eq_true] at *
 intro c hc
 have:=h.2 c hc
 simp at this
 unfold okC
 simp;lia
theorem zA1 {ns:List (List Nat)} (h:∀ n∈ns,isNm n=true):wts (ns.map .str)≤12 * ns.length:=by
 induction ns with
 | nil=>simp
 | cons n r ih =>
  have h1:=zJ7 (h n (by simp))
  have h2:=ih fun x hx=>h x (List.mem_cons_of_mem _ hx)
  simp;lia
theorem zm4 {α:Type} {k:Nat} {xs:List α} {x:α}:x∈rot k xs↔x∈xs:=(zw1 xs k).mem_iff
theorem zB2 {α:Type} {k:Nat} {xs:List α}:(rot k xs).length=xs.length:=(zw1 xs k).length_eq
theorem web_sat {W D w:Nat} {T:Int} {st:Store} (hD:3≤D) (hw:Well st w T) (hT:T+9≤1000000) :
  Sat (runF prog W D i_law_web [.ref w] st) fun v st'=>(∃ ns ps,v=.p (enc (.web ns ps))∧okWeb ns ps)∧Drew w (T+9) st st':=by
 obtain ⟨d,rfl⟩:∃ d,D=d+3:=⟨D - 3,by lia⟩
 have hwn:=hw.lt
 rw [zb3 (fd:=zB8) rfl rfl,sat_bind]
 simp! only [zB8,zC5]
 apply za4
 simp! []
 apply za4
 simp! [view,lstAt,gAppend,zO1]
 apply za4
 simp! [view,lstAt,gAppend,zO1]
 apply za4
 simp! [view,lstAt,gAppend,zO1]
 apply za4
 simp! [view,lstAt,gAppend,zO1]
 dsimp! only
 obtain ⟨L,hL⟩:∃ L,L=shp.map fun rows=>PV.tup (rows.map rowPV):=⟨_,rfl⟩
 have hL':[PV.tup [PV.tup [PV.int 0,PV.int 1]],PV.tup [PV.tup [PV.int 0,PV.int 1],PV.tup [PV.int 1,PV.int 2],PV.tup [PV.int 0,PV.int 2]],PV.tup [PV.tup [PV.int 0,PV.int 1],PV.tup [PV.int 0,PV.int 2],PV.tup [PV.int 1,PV.int 3],PV.tup [PV.int 2,PV.int 3]],PV.tup [PV.tup [PV.int 0,PV.int 1],PV.tup [PV.int 0,PV.int 2],PV.tup [PV.int 0,PV.int 3],PV.tup [PV.int 1,PV.int 4],PV.tup [PV.int 2,PV.int 4],PV.tup [PV.int 3,PV.int 4]],PV.tup [PV.tup [PV.int 0,PV.int 1],PV.tup [PV.int 1,PV.int 2],PV.tup [PV.int 2,PV.int 4],PV.tup [PV.int 0,PV.int 3],PV.tup [PV.int 3,PV.int 4]],PV.tup [PV.tup [PV.int 0,PV.int 1],PV.tup [PV.int 1,PV.int 2],PV.tup [PV.int 2,PV.int 5],PV.tup [PV.int 0,PV.int 3],PV.tup [PV.int 3,PV.int 4],PV.tup [PV.int 4,PV.int 5],PV.tup [PV.int 0,PV.int 5]],PV.tup [PV.tup [PV.int 0,PV.int 1],PV.tup [PV.int 0,PV.int 2],PV.tup [PV.int 0,PV.int 3],PV.tup [PV.int 1,PV.int 4],PV.tup [PV.int 2,PV.int 4],PV.tup [PV.int 2,PV.int 5],PV.tup [PV.int 3,PV.int 5],PV.tup [PV.int 4,PV.int 6],PV.tup [PV.int 5,PV.int 6]]]=L:=by rw [hL];rfl
 rw [hL']
 clear hL'
 apply za4
 simp! []
 refine (zs6 (by lia) hw (by lia) (by lia) (by lia)).mono ?_
 rintro _ _ ⟨⟨r1,rfl,h10,h11⟩,o1,rfl,hw1⟩
 have hLl:L.length=7:=by rw [hL];rfl
 obtain ⟨x,hx1,hx2,hx3⟩:=zH4 L r1 h10 (by rw [hLl];lia)
 rw [hL] at hx2
 obtain ⟨rows,hrows,rfl⟩:=List.mem_map.mp hx2
 obtain ⟨hm2,hm7,hr1,hr9,hrm⟩:=zz1 rows hrows
 clear hL
 simp! [view,zn1,hx3,hx1]
 apply za4
 simp! []
 rw [zg8 rowPV (fun p=>PV.int p.2) (fun env=>∃ v,env=[v]) _ _ _ ⟨_,rfl⟩ ?g1]
 case g1 =>
  rintro p hp env ⟨v,rfl⟩
  refine ⟨_,rfl,⟨_,rfl⟩,?_⟩
  simp! [rowPV,ixAt]
 simp! [bfOp,shp_max rows hrows]
 rw [show (1:Int)+((manyOf rows:Int) - 1)=manyOf rows by lia]
 apply za4
 simp! []
 refine Sat.k1 (zw5 (by lia) hw1.app (by lia) (by lia)) fun ns _ hnl hns hd=>?_
 obtain ⟨o2,rfl,hw2⟩:=hd.unapp (by simpa using hwn)
 rw [List.set_set] at hw2 ⊢
 clear hd
 apply za4
 simp! []
 refine (zs6 (by lia) hw2 (by lia) (by lia) (by lia)).mono ?_
 rintro _ _ ⟨⟨r3,rfl,h30,h31⟩,o3,rfl,hw3⟩
 rw [List.set_set] at hw3 ⊢
 apply za4
 simp! [bfOp]
 refine (zs6 (by lia) hw3 (by lia) (by lia) (by lia)).mono ?_
 rintro _ _ ⟨⟨r4,rfl,h40,h41⟩,o4,rfl,hw4⟩
 rw [List.set_set] at hw4 ⊢
 apply za4
 have z1:ns.length - r3.toNat+min r3.toNat ns.length≤SZ:=zs7 (by lia)
 simp! [sliceOp,zx9,zz2 _ _ h30,zy4 _ _ h30,z1]
 apply za4
 have z2:rows.length - r4.toNat+min r4.toNat rows.length≤SZ:=zs7 (by lia)
 simp! [sliceOp,zx9,zz2 _ _ h40,zy4 _ _ h40,z2]
 rw [← List.map_drop,← List.map_take,← List.map_append,← List.map_drop,← List.map_take,← List.map_append]
 rw [show rows.drop r4.toNat++rows.take r4.toNat=rot r4.toNat rows from rfl,show ns.drop r3.toNat++ns.take r3.toNat=rot r3.toNat ns from rfl]
 rw [zg8 rowPV (fun p=>PV.tup [.str ((rot r3.toNat ns).getD p.1 []),.str ((rot r3.toNat ns).getD p.2 [])]) (fun env=>∃ v v',env=[some (.p (.lst ((rot r3.toNat ns).map .str))),v,v']) _ _ _ ⟨_,_,rfl⟩ ?g2]
 case g2 =>
  rintro p hp env ⟨v,v',rfl⟩
  have hpm:=hrm p (zm4.mp hp)
  have hrl:(rot r3.toNat ns).length=manyOf rows:=by rw [zB2,hnl]
  have q:∀ k:Nat,k<manyOf rows→∃ a,(rot r3.toNat ns).getD k []=a∧ixAt (rot r3.toNat ns).length (k:Int)=some k∧(rot r3.toNat ns)[k]?=some a:=by
   intro k hk
   refine ⟨_,rfl,?_,?_⟩
   ·unfold ixAt;rw [if_pos (by lia),if_pos (by lia)];simp
   ·rw [List.getD_eq_getElem?_getD,List.getElem?_eq_getElem (by lia)];rfl
  obtain ⟨a,a1,a2,a3⟩:=q _ hpm.1
  obtain ⟨b,b1,b2,b3⟩:=q _ hpm.2
  rw [a1,b1]
  refine ⟨_,rfl,⟨_,_,rfl⟩,?_⟩
  simp! [a2,b2,a3,b3]
 simp! []
 apply za4
 simp! [bfOp]
 refine ⟨⟨ns,webPs rows r3.toNat r4.toNat ns,?_,hns,rows,hrows,r3.toNat,r4.toNat,by lia,by lia,hnl,rfl⟩,?_⟩
 ·rw [zo0];simp [webPs]
 ·exact ⟨⟨o4,rfl⟩,hw4.mono (by lia)⟩
open OR
theorem zr3 {P:Ord→Prop} (hnum:P .num) (hlow:P .low) (hch:∀ ns,P (.chain ns)) (hset:∀ ns,P (.set ns)) (hweb:∀ ns ps,P (.web ns ps))
  (hrow:∀ os,(∀ o∈os,P o)→P (.row os)) (hnew:∀ o,P o→P (.newer o)):∀ o,P o:=by
 have key:∀ n o,dpt o≤n→P o:=by
  intro n
  induction n with
  | zero=>intro o h;have:=zu3 o;lia
  | succ n ih =>
   intro o h
   cases o with
   | num=>exact hnum
   | low=>exact hlow
   | chain ns=>exact hch ns
   | set ns=>exact hset ns
   | web ns ps=>exact hweb ns ps
   | row os=>rw [dpt] at h;exact hrow os fun o ho=>ih o (by have:=zq1 ho;lia)
   | newer o=>rw [dpt] at h;exact hnew o (ih o (by lia))
 exact fun o=>key _ o (Nat.le_refl _)
theorem zn6 {os}:dpt (.row os)=dpts os+1:=by rw [dpt]
theorem zj7 {o}:dpt (.newer o)=dpt o+1:=by rw [dpt]
@[simp] theorem dpt_num:dpt .num=1:=by rw [dpt] <;> simp
@[simp] theorem dpt_low:dpt .low=1:=by rw [dpt] <;> simp
@[simp] theorem dpt_chain {ns}:dpt (.chain ns)=1:=by rw [dpt] <;> simp
@[simp] theorem dpt_set {ns}:dpt (.set ns)=1:=by rw [dpt] <;> simp
@[simp] theorem dpt_web {ns ps}:dpt (.web ns ps)=1:=by rw [dpt] <;> simp
theorem zh2 {ns ps} (h:okWeb ns ps):ps.length≤9∧ns.length≤7∧2≤ns.length∧∀ p∈ps,p.1∈ns∧p.2∈ns:=by
 obtain ⟨hg,rows,hr,sh,at',h1,h2,h3,rfl⟩:=h
 obtain ⟨m2,m7,r1,r9,hm⟩:=zz1 rows hr
 refine ⟨by simp [webPs,zB2];lia,by lia,by lia,?_⟩
 intro p hp
 obtain ⟨q,hq,rfl⟩:=List.mem_map.mp hp
 have hq':=hm q (zm4.mp hq)
 have g:∀ k,k<manyOf rows→(rot sh ns).getD k []∈ns:=by
  intro k hk
  rw [← zm4 (k:=sh),List.getD_eq_getElem?_getD,List.getElem?_eq_getElem (by rw [zB2];lia)]
  exact List.getElem_mem _
 exact ⟨g _ hq'.1,g _ hq'.2⟩
theorem ze7 {ns:List (List Nat)}:deps (ns.map .str)=0:=by
 induction ns with
 | nil=>simp
 | cons n r ih=>simp [ih]
theorem wts_le {xs:List PV} {b:Nat} (h:∀ x∈xs,wt x≤b):wts xs≤xs.length * (b+2):=by
 induction xs with
 | nil=>simp
 | cons x r ih =>
  have h1:=h x (by simp)
  have h2:=ih fun y hy=>h y (List.mem_cons_of_mem _ hy)
  simp [Nat.succ_mul];lia
theorem dpts_mem {os:List Ord} (h:os≠[]):∃ o∈os,dpts os=dpt o:=by
 induction os with
 | nil=>exact absurd rfl h
 | cons o r ih =>
  rw [dpts]
  by_cases hr:r=[]
  ·subst hr;exact ⟨o,by simp,by rw [dpts];lia⟩
  ·obtain ⟨q,hq,e⟩:=ih hr
   by_cases hle:dpt o≤dpts r
   ·exact ⟨q,List.mem_cons_of_mem _ hq,by lia⟩
   ·exact ⟨o,by simp,by lia⟩
theorem zq0:∀ o,ok o→okv 0 (enc o)=true∧dep (enc o)≤2 * dpt o+1∧wt (enc o)+100≤500 * 4 ^ dpt o:=by
 have nsok:∀ ns:List (List Nat),goodNs ns→(ns.map PV.str).all (okv 0)=true:=by
  intro ns h
  rw [List.all_eq_true]
  intro x hx
  obtain ⟨n,hn,rfl⟩:=List.mem_map.mp hx
  rw [okv_str];exact zw2 (h.2 n hn)
 refine zr3 ?_ ?_ ?_ ?_ ?_ ?_ ?_
 ·intro _;rw [zi8];refine ⟨by decide,by simp,by simp⟩
 ·intro _;rw [zj2];refine ⟨by decide,by simp,by simp⟩
 ·intro ns h
  rw [ok] at h
  have:=zA1 h.1.2
  rw [zf3]
  refine ⟨?_,by simp [ze7],by simp;lia⟩
  have:=nsok ns h.1
  simp only [okv_tup,List.all_cons,this];decide
 ·intro ns h
  rw [ok] at h
  have:=zA1 h.1.2
  rw [zi1]
  refine ⟨?_,by simp [ze7],by simp;lia⟩
  have:=nsok ns h.1
  simp only [okv_tup,List.all_cons,this];decide
 ·intro ns ps h
  rw [ok] at h
  obtain ⟨h1,h2,h3,h4⟩:=zh2 h
  have:=zA1 h.1.2
  have hw2:wts (ps.map fun p=>PV.tup [.str p.1,.str p.2])≤(ps.map fun p=>PV.tup [.str p.1,.str p.2]).length * (27+2):=wts_le fun x hx=>by
   obtain ⟨p,hp,rfl⟩:=List.mem_map.mp hx
   have a:=zJ7 (h.1.2 _ (h4 p hp).1)
   have b:=zJ7 (h.1.2 _ (h4 p hp).2)
   simp;lia
  rw [List.length_map] at hw2
  rw [zo0]
  have hdp:deps (ps.map fun p=>PV.tup [.str p.1,.str p.2])≤1:=zx3.mpr fun x hx=>by
   obtain ⟨p,hp,rfl⟩:=List.mem_map.mp hx
   simp
  refine ⟨?_,by simp [ze7];lia,by simp;lia⟩
  have q:=nsok ns h.1
  have q2:(ps.map fun p=>PV.tup [.str p.1,.str p.2]).all (okv 0)=true:=by
   rw [List.all_eq_true]
   intro x hx
   obtain ⟨p,hp,rfl⟩:=List.mem_map.mp hx
   have a:=zw2 (h.1.2 _ (h4 p hp).1)
   have b:=zw2 (h.1.2 _ (h4 p hp).2)
   simp only [okv_tup,List.all_cons,okv_str,a,b];rfl
  simp only [okv_tup,List.all_cons,q,q2];decide
 ·intro os ih h
  rw [zq3] at h
  have ih':=fun o ho=>ih o ho (h.2.2 o ho)
  rw [zi9,zn6]
  have b:∀ o∈os,4 ^ dpt o≤4 ^ dpts os:=fun o ho=>Nat.pow_le_pow_right (by lia) (zq1 ho)
  have hwb:wts (os.map enc)≤(os.map enc).length * (500 * 4 ^ dpts os - 100+2):=wts_le fun x hx=>by
   obtain ⟨o,ho,rfl⟩:=List.mem_map.mp hx
   have:=(ih' o ho).2.2
   have:=b o ho
   lia
  have hdp:deps (os.map enc)≤2 * dpts os+1:=zx3.mpr fun x hx=>by
   obtain ⟨o,ho,rfl⟩:=List.mem_map.mp hx
   have:=(ih' o ho).2.1
   have:=zq1 ho
   lia
  have hok:(os.map enc).all (okv 0)=true:=by
   rw [List.all_eq_true]
   intro x hx
   obtain ⟨o,ho,rfl⟩:=List.mem_map.mp hx
   exact (ih' o ho).1
  refine ⟨?_,by simp;lia,?_⟩
  ·simp only [okv_tup,List.all_cons,hok];decide
  ·have hp:1≤4 ^ dpts os:=Nat.one_le_pow _ _ (by lia)
   rw [Nat.pow_succ]
   generalize 4 ^ dpts os=P at *
   have:(os.map enc).length≤3:=by simpa using h.2.1
   have h3:(os.map enc).length * (500 * P - 100+2)≤3 * (500 * P - 100+2):=Nat.mul_le_mul_right _ this
   simp;lia
 ·intro o ih h
  rw [zj8] at h
  obtain ⟨a,b,c⟩:=ih h
  rw [zf9,zj7]
  refine ⟨?_,by simp;lia,?_⟩
  ·simp only [okv_tup,List.all_cons,a];decide
  ·have hp:1≤4 ^ dpt o:=Nat.one_le_pow _ _ (by lia)
   rw [Nat.pow_succ]
   simp;lia
theorem zv0 {W D w:Nat} {T:Int} {st:Store} (hD:4≤D) (hw:Well st w T) (hT:T+10≤1000000) :
  Sat (runF prog W D zF2 [.ref w] st) fun v st'=>(∃ o,v=.p (enc o)∧ok o∧dpt o=1)∧Drew w (T+10) st st':=by
 obtain ⟨d,rfl⟩:∃ d,D=d+4:=⟨D - 4,by lia⟩
 have hwn:=hw.lt
 rw [zb3 (fd:=zx8) rfl rfl,sat_bind]
 simp! only [zx8,zx0]
 apply za4
 simp! []
 refine (zi7 hw (by lia)).mono ?_
 rintro _ _ ⟨⟨r,rfl,h0,h1⟩,⟨o1,rfl⟩,hw1⟩
 dsimp! only
 have hd1:Drew w (T+10) st (st.set w o1):=⟨⟨o1,rfl⟩,hw1.mono (by lia)⟩
 obtain rfl | rfl | rfl | rfl | rfl | rfl:r=0∨r=1∨r=2∨r=3∨r=4∨r=5:=by lia
 ·apply za4
  simp! []
  apply za4
  simp! [ixAt]
  exact ⟨⟨.num,by rw [zi8],by rw [ok];trivial,by simp⟩,hd1.cut⟩
 ·apply za4
  simp! []
  apply za4
  simp! [ixAt]
  exact ⟨⟨.low,by rw [zj2],by rw [ok];trivial,by simp⟩,hd1.cut⟩
 ·apply za4
  simp! []
  dsimp! only
  refine zb8 rfl ?_
  apply za4
  simp! []
  refine (zi7 hw1 (by lia)).mono ?_
  rintro _ _ ⟨⟨q,rfl,q0,q1⟩,⟨o2,rfl⟩,hw2⟩
  rw [List.set_set] at hw2 ⊢
  simp! []
  rw [show 2+q=((2+q).toNat:Int) by lia]
  refine Sat.k1 (zw5 (by lia) hw2 (by lia) (by lia)) fun ns _ hnl hns hd=>?_
  simp! [bfOp]
  exact ⟨⟨.chain ns,by rw [zf3],by rw [ok];exact ⟨hns,by lia,by lia⟩,by simp⟩,Drew.cut (Drew.trans ⟨⟨o2,rfl⟩,hw2⟩ (hd.mono (by lia)))⟩
 ·apply za4
  simp! []
  apply za4
  simp! [pyEq]
  dsimp! only
  refine zb8 rfl ?_
  apply za4
  simp! []
  refine (zi7 hw1 (by lia)).mono ?_
  rintro _ _ ⟨⟨q,rfl,q0,q1⟩,⟨o2,rfl⟩,hw2⟩
  rw [List.set_set] at hw2 ⊢
  simp! []
  rw [show 1+q=((1+q).toNat:Int) by lia]
  refine Sat.k1 (zw5 (by lia) hw2 (by lia) (by lia)) fun ns _ hnl hns hd=>?_
  simp! [bfOp]
  exact ⟨⟨.set ns,by rw [zi1],by rw [ok];exact ⟨hns,by lia,by lia⟩,by simp⟩,Drew.cut (Drew.trans ⟨⟨o2,rfl⟩,hw2⟩ (hd.mono (by lia)))⟩
 ·apply za4
  simp! []
  apply za4
  simp! [pyEq]
  apply za4
  simp! [pyEq]
  apply za4
  simp! [pyEq]
  refine (web_sat (by lia) hw1 (by lia)).mono ?_
  rintro _ _ ⟨⟨ns,ps,rfl,hwb⟩,hd⟩
  simp! []
  exact ⟨⟨.web ns ps,rfl,by rw [ok];exact hwb,by simp⟩,Drew.cut (Drew.trans ⟨⟨o1,rfl⟩,hw1⟩ (hd.mono (by lia)))⟩
 ·apply za4
  simp! []
  apply za4
  simp! [pyEq]
  apply za4
  simp! [pyEq]
  apply za4
  simp! [pyEq]
  exact ⟨⟨.num,by rw [zi8],by rw [ok];trivial,by simp⟩,hd1.cut⟩
theorem zA9 {W D w:Nat} {T:Int} {st:Store} (hD:4≤D) (hw:Well st w T) (n:Nat) (hT:T+10 * n≤1000000) (v0:Option Val) :
  Sat (compE (runF prog W D) (.call zF2 [(.var 0)]) none (.name 1) none ((List.range n).map fun k:Nat=>PV.int (k:Int)) [some (.ref w),v0] st [])
   fun xs st'=>(∃ os:List Ord,xs=os.map enc∧os.length=n∧∀ o∈os,ok o∧dpt o=1)∧Drew w (T+10 * n) st st':=by
 refine (zp7 (fun xs env st' acc=>(∃ v,env=[some (.ref w),v])∧∃ os:List Ord,acc=os.map enc∧os.length+xs.length=n∧(∀ o∈os,ok o∧dpt o=1)∧Drew w (T+10 * os.length) st st') _ _ _ _ ⟨⟨_,rfl⟩,[],rfl,by simp,by simp,by simpa using Drew.refl hw⟩ ?_).mono ?_
 ·rintro x r env st' acc ⟨⟨v,rfl⟩,os,rfl,hl,ho,hd⟩
  refine ⟨_,rfl,?_⟩
  simp only [List.length_cons] at hl
  simp! []
  refine Sat.k1 (zv0 hD hd.2 (by lia)) fun o st2 h1 h2 hd2=>?_
  refine ⟨_,rfl,os++[o],by simp,by simp;lia,?_,?_⟩
  ·intro o' h'
   rcases List.mem_append.mp h' with h | h
   ·exact ho o' h
   ·have:o'=o:=by simpa using h
    subst this;exact ⟨h1,h2⟩
  ·exact (hd.trans hd2).mono (by simp;lia)
 ·rintro ys st' ⟨env',_,os,h1,h2,h3,h4⟩
  simp at h2
  exact ⟨⟨os,h1,h2,h3⟩,by rw [← h2];exact h4⟩
theorem zI0 {W D w:Nat} {T:Int} {st:Store} (hD:5≤D) (hw:Well st w T) (hT:T+30≤1000000) :
  Sat (runF prog W D zW8 [.ref w] st) fun v st'=>(∃ o,v=.p (enc o)∧ok o∧dpt o=2)∧Drew w (T+30) st st':=by
 obtain ⟨d,rfl⟩:∃ d,D=d+5:=⟨D - 5,by lia⟩
 have hwn:=hw.lt
 rw [zb3 (fd:=zx2) rfl rfl,sat_bind]
 simp! only [zx2,zx7]
 apply za4
 simp! []
 refine (zi7 hw (by lia)).mono ?_
 rintro _ _ ⟨⟨r,rfl,h0,h1⟩,⟨o1,rfl⟩,hw1⟩
 have hd1:Drew w (T+1) st (st.set w o1):=⟨⟨o1,rfl⟩,hw1.mono (by lia)⟩
 by_cases c0:r=0
 ·subst c0
  simp! [pyEq]
  apply za4
  simp! []
  refine Sat.k1 (zv0 (by lia) hw1 (by lia)) fun o _ q1 q2 hd2=>?_
  simp! []
  exact ⟨⟨.newer o,by rw [zf9],zj8.mpr q1,by rw [zj7,q2]⟩,((hd1.trans hd2).mono (by lia)).cut⟩
 ·simp! [pyEq,c0]
  apply za4
  simp! []
  refine Sat.k1 (zi7 hw1 (by lia)) fun r2 _ h20 h21 hd2=>?_
  have z1:-1000000≤1+r2:=by lia
  have z2:1+r2≤(SZ:Int):=zu9 (by lia)
  simp! [z1,z2]
  refine Sat.k1 (zA9 (by lia) hd2.2 (1+r2).toNat (by lia) none) fun os _ q1 q2 hd3=>?_
  simp! [bfOp]
  refine ⟨⟨.row os,by rw [zi9],zq3.mpr ⟨by lia,by lia,fun o ho=>(q2 o ho).1⟩,?_⟩,(((hd1.trans hd2).trans hd3).mono (by lia)).cut⟩
  rw [zn6]
  obtain ⟨o,ho,e⟩:=dpts_mem (os:=os) (by intro h;subst h;simp at q1;lia)
  rw [e,(q2 o ho).2]
theorem order_sat {W D w:Nat} {T:Int} {st:Store} (hD:6≤D) (hw:Well st w T) (hT:T+90≤1000000) :
  Sat (runF prog W D zP0 [.ref w] st) fun v st'=>(∃ o,v=.p (enc o)∧ok o∧dpt o≤3)∧Drew w (T+90) st st':=by
 obtain ⟨d,rfl⟩:∃ d,D=d+6:=⟨D - 6,by lia⟩
 have hwn:=hw.lt
 rw [zb3 (fd:=zt5) rfl rfl,sat_bind]
 simp! only [zt5,zt4]
 apply za4
 simp! []
 refine Sat.k1 (zi7 hw (by lia)) fun r _ h0 h1 hd1=>?_
 dsimp! only
 by_cases c0:r<5
 ·apply za4
  simp! [c0]
  apply za4
  simp! []
  refine Sat.k1 (zv0 (by lia) hd1.2 (by lia)) fun o _ q1 q2 hd2=>?_
  simp! []
  exact ⟨⟨o,rfl,q1,by lia⟩,((hd1.trans hd2).mono (by lia)).cut⟩
 apply za4
 simp! [c0]
 dsimp! only
 by_cases c1:r=5
 ·subst c1
  refine zb8 rfl ?_
  apply za4
  simp! []
  refine Sat.k1 (zI0 (by lia) hd1.2 (by lia)) fun o _ q1 q2 hd2=>?_
  simp! []
  exact ⟨⟨.newer o,by rw [zf9],zj8.mpr q1,by rw [zj7];lia⟩,((hd1.trans hd2).mono (by lia)).cut⟩
 apply za4
 simp! [pyEq,c1]
 dsimp! only
 by_cases c2:r=6
 ·subst c2
  refine zb8 rfl ?_
  apply za4
  simp! []
  refine Sat.k1 (zi7 hd1.2 (by lia)) fun r2 _ h20 h21 hd2=>?_
  have z1:-1000000≤1+r2:=by lia
  have z2:1+r2≤(SZ:Int):=zu9 (by lia)
  simp! [z1,z2]
  refine Sat.k1 (zA9 (by lia) hd2.2 (1+r2).toNat (by lia) none) fun os _ q1 q2 hd3=>?_
  simp! [bfOp]
  refine ⟨⟨.row os,by rw [zi9],zq3.mpr ⟨by lia,by lia,fun o ho=>(q2 o ho).1⟩,?_⟩,(((hd1.trans hd2).trans hd3).mono (by lia)).cut⟩
  rw [zn6]
  have:=zH8 (d:=1) fun o ho=>Nat.le_of_eq (q2 o ho).2
  lia
 apply za4
 simp! [pyEq,c2]
 dsimp! only
 by_cases c3:r=7
 ·subst c3
  refine zb8 rfl ?_
  apply za4
  simp! []
  refine Sat.k1 (zI0 (by lia) hd1.2 (by lia)) fun o _ q1 q2 hd2=>?_
  simp! []
  exact ⟨⟨o,rfl,q1,by lia⟩,((hd1.trans hd2).mono (by lia)).cut⟩
 apply za4
 simp! [pyEq,c3]
 apply za4
 simp! []
 refine Sat.k1 (zi7 hd1.2 (by lia)) fun r2 st2 h20 h21 hd2=>?_
 have z1:-1000000≤r2:=by lia
 have z2:r2≤(SZ:Int):=zu9 (by lia)
 simp! [z1,z2]
 refine Sat.k1 (zA9 (by lia) hd2.2 r2.toNat (by lia) none) fun os st3 q1 q2 hd3=>?_
 dsimp! only
 have hd:=(hd1.trans hd2).trans hd3
 have hlen:=hd.len
 clear hd1 hd2 hd3
 have hobj:objAt (st3++[PObj.lst (os.map enc)]) st3.length=some (.lst (os.map enc)):=objAt_new
 apply za4
 by_cases c4:r=8
 ·subst c4
  simp! [pyEq]
  apply za4
  simp! [zi6 hobj,opN,views,bfOp]
  have hw3:w<st3.length:=by lia
  refine (zs6 (by lia) hd.2 (by lia) (by lia) (by lia)).mono ?_
  rintro _ _ ⟨⟨r4,rfl,h40,h41⟩,o4,rfl,hw4⟩
  refine Sat.k1 (zI0 (by lia) hw4.app (by lia)) fun o _ p1 p2 hd5=>?_
  obtain ⟨o5,rfl,hw5⟩:=hd5.unapp (by simpa using hw3)
  rw [List.set_set] at hw5 ⊢
  have hobj5:objAt (st3.set w o5++[PObj.lst (os.map enc)]) st3.length=some (.lst (os.map enc)):=zn1 (by simp)
  have z4:r4≤(os.length:Int):=by lia
  have z5:os.length<SZ:=zO1 (by lia)
  simp! [zu8 hobj5,gInsert,h40,z4,z5]
  dsimp! only
  rw [← List.map_take,← List.map_drop,← List.map_cons,← List.map_append]
  have hmem:∀ q∈os.take r4.toNat++o::os.drop r4.toNat,ok q∧dpt q≤2:=by
   intro q hq
   rcases List.mem_append.mp hq with h | h
   ·have:=q2 q (List.mem_of_mem_take h);exact ⟨this.1,by lia⟩
   ·rcases List.mem_cons.mp h with rfl | h
    ·exact ⟨p1,by lia⟩
    ·have:=q2 q (List.mem_of_mem_drop h);exact ⟨this.1,by lia⟩
  have hlq:(os.take r4.toNat++o::os.drop r4.toNat).length=os.length+1:=by simp;lia
  generalize os.take r4.toNat++o::os.drop r4.toNat=qs at hmem hlq
  have hobj6:objAt (st3.set w o5++[PObj.lst (qs.map enc)]) st3.length=some (.lst (qs.map enc)):=zn1 (by simp)
  apply za4
  simp! [zi6 hobj6,opN,views,bfOp]
  refine ⟨⟨.row qs,by rw [zi9],zq3.mpr ⟨by lia,by lia,fun o ho=>(hmem o ho).1⟩,?_⟩,?_⟩
  ·rw [zn6]
   have:=zH8 (d:=2) fun o ho=>(hmem o ho).2
   lia
  ·rw [← hlen]
   have hd6:Drew w (T+90) st (st3.set w o5):=hd.trans ⟨⟨o5,rfl⟩,hw5.mono (by lia)⟩
   simpa using hd6
 ·have hw3:w<st3.length:=by lia
  simp! [pyEq,c4]
  apply za4
  simp! []
  refine Sat.k1 (zv0 (by lia) hd.2.app (by lia)) fun o _ p1 p2 hd5=>?_
  obtain ⟨o5,rfl,hw5⟩:=hd5.unapp (by simpa using hw3)
  simp! []
  refine (zv0 (by lia) hw5.app (by lia)).mono ?_
  rintro _ _ ⟨⟨o',rfl,p1',p2'⟩,hd6⟩
  obtain ⟨o6,rfl,hw6⟩:=hd6.unapp (by simpa using hw3)
  rw [List.set_set] at hw6 ⊢
  have hobj5:objAt (st3.set w o6++[PObj.lst (os.map enc)]) st3.length=some (.lst (os.map enc)):=zn1 (by simp)
  have z6:2+min 1 os.length≤SZ:=zs7 (by lia)
  simp! [op1,zi6 hobj5,sliceOp,zx9,zy4 _ (1:Int) (by lia),z6]
  dsimp! only
  have hqs:(PV.tup [PV.str [110,101,119,101,114],enc o]::PV.tup [PV.str [110,101,119,101,114],enc o']::List.take 1 (List.map enc os))=(Ord.newer o :: .newer o'::os.take 1).map enc:=by
   simp [zf9]
  rw [hqs]
  have hmem:∀ q∈(Ord.newer o :: .newer o'::os.take 1),ok q∧dpt q≤2:=by
   intro q hq
   rcases List.mem_cons.mp hq with rfl | hq
   ·exact ⟨zj8.mpr p1,by rw [zj7];lia⟩
   rcases List.mem_cons.mp hq with rfl | hq
   ·exact ⟨zj8.mpr p1',by rw [zj7];lia⟩
   ·have:=q2 q (List.mem_of_mem_take hq);exact ⟨this.1,by lia⟩
  have hlq:(Ord.newer o :: .newer o'::os.take 1).length≤3∧1≤(Ord.newer o :: .newer o'::os.take 1).length:=by simp;lia
  generalize (Ord.newer o :: .newer o'::os.take 1)=qs at hmem hlq
  have hobj6:objAt (st3.set w o6++[PObj.lst (os.map enc),PObj.lst (qs.map enc)]) (st3.length+1)=some (.lst (qs.map enc)):=by
   rw [show (st3.set w o6++[PObj.lst (os.map enc),PObj.lst (qs.map enc)])=(st3.set w o6++[PObj.lst (os.map enc)])++[PObj.lst (qs.map enc)] by simp]
   exact zn1 (by simp)
  apply za4
  simp! [zi6 hobj6,opN,views,bfOp]
  refine ⟨⟨.row qs,by rw [zi9],zq3.mpr ⟨by lia,by lia,fun o ho=>(hmem o ho).1⟩,?_⟩,?_⟩
  ·rw [zn6]
   have:=zH8 (d:=2) fun o ho=>(hmem o ho).2
   lia
  ·rw [← hlen]
   have hd7:Drew w (T+90) st (st3.set w o6):=hd.trans ⟨⟨o6,rfl⟩,hw6.mono (by lia)⟩
   simpa using hd7
@[simp] noncomputable def isNat:PV→Bool
 | .int i=>decide (0≤i)
 | _=>false
@[simp] noncomputable def isLow:PV→Bool
 | .non=>true
 | .int i=>decide (0≤i)
 | _=>false
@[simp] noncomputable def isOf (ns:List (List Nat)):PV→Bool
 | .str s=>decide (s∈ns)
 | _=>false
@[simp] noncomputable def onTup (f:List PV→Bool):PV→Bool
 | .tup ts=>f ts
 | _=>false
@[simp] noncomputable def isTwo (f:PV→Bool):List PV→Bool
 | [a,h]=>isNat a&&f h
 | _=>false
mutual
noncomputable def isH:Ord→PV→Bool
 | .num,a=>isNat a
 | .low,a=>isLow a
 | .chain ns,a=>isOf ns a
 | .web ns _,a=>isOf ns a
 | .set ns,a=>onTup (fun ts=>decide (ts=(ns.filter fun n=>decide (PV.str n∈ts)).map .str)) a
 | .row os,a=>onTup (isHs os) a
 | .newer o,a=>onTup (isTwo (isH o)) a
noncomputable def isHs:List Ord→List PV→Bool
 | [],[]=>true
 | o::os,t::ts=>isH o t&&isHs os ts
 | _,_=>false
end
theorem zu7:∀ {os ts},isHs os ts=true→os.length=ts.length
 | [],[],_=>rfl
 | [],_::_,h=>by simp [isHs] at h
 | _::_,[],h=>by simp [isHs] at h
 | o::os,t::ts,h=>by
  rw [isHs,Bool.and_eq_true] at h
  simp [zu7 h.2]
theorem zU7:∀ {os ts},os.length=ts.length→isHs os ts=(os.zip ts).all fun p=>isH p.1 p.2
 | [],[],_=>by rw [isHs];rfl
 | [],_::_,h=>by simp at h
 | _::_,[],h=>by simp at h
 | o::os,t::ts,h=>by
  rw [isHs,zU7 (by simpa using h)];rfl
theorem pyEq_str {y:PV} {n:List Nat}:pyEq y (.str n)=decide (y=.str n):=by
 cases y <;> simp [pyEq]
theorem zu6 {y:PV} {n:List Nat}:pyEq (.str n) y=decide (y=.str n):=by
 cases y <;> simp [pyEq,eq_comm]
theorem zF7 {n:List Nat} {ts:List PV}:itemIn (.str n) ts=decide (PV.str n∈ts):=by
 unfold itemIn
 rw [Bool.eq_iff_iff]
 simp [pyEq_str]
theorem zd7 {t:PV} {ns:List (List Nat)}:itemIn t (ns.map .str)=(match t with | .str s=>decide (s∈ns) | _=>false):=by
 unfold itemIn
 rw [Bool.eq_iff_iff]
 cases t <;> simp [zu6]
open OR
theorem zJ9:∀ {os ts o t},isHs os ts=true→isH o t=true→isHs (os++[o]) (ts++[t])=true
 | [],[],o,t,_,h=>by simp [isHs,h]
 | [],_::_,_,_,h,_=>by simp [isHs] at h
 | _::_,[],_,_,h,_=>by simp [isHs] at h
 | a::os,b::ts,o,t,h,g=>by
  rw [isHs,Bool.and_eq_true] at h
  rw [List.cons_append,List.cons_append,isHs,h.1,zJ9 h.2 g];rfl
theorem zE6 {α:Type} [DecidableEq α] {L ns:List α} (h:L.Sublist ns) (hn:ns.Nodup):ns.filter (fun n=>decide (n∈L))=L:=by
 induction h with
 | slnil=>rfl
 | @cons l₁ l₂ a hs ih =>
  rw [List.nodup_cons] at hn
  have:a∉l₁:=fun h=>hn.1 (hs.subset h)
  rw [List.filter_cons,if_neg (by simpa using this)]
  exact ih hn.2
 | @cons_cons l₁ l₂ a hs ih =>
  rw [List.nodup_cons] at hn
  rw [List.filter_cons,if_pos (by simp)]
  congr 1
  rw [← ih hn.2]
  refine List.filter_congr fun x hx=>?_
  have hne:x≠a:=fun h=>hn.1 (h▸hx)
  simp [hne,ih hn.2]
theorem zI7 {ns L:List (List Nat)} (h:L.Sublist ns) (hn:ns.Nodup):isH (.set ns) (.tup (L.map .str))=true:=by
 rw [isH]
 refine decide_eq_true ?_
 congr 1
 conv=>lhs;rw [← zE6 h hn]
 refine List.filter_congr fun x hx=>?_
 simp
noncomputable def B20:Nat:=100000000000000000000
def HOk (o:Ord) (h:PV):Prop:=isH o h=true∧okv B20 h=true∧dep h≤dep (enc o)∧wt h≤5 * wt (enc o)
theorem zz0 {W d w:Nat} {T:Int} {st:Store} {wd:List Nat} {ns:List (List Nat)} {r:List PV} {e:Env} (hw:Well st w T) (hT:T<1000000) (h1:0<ns.length) (h2:ns.length≤100) :
  Sat (evalE (runF prog W (d+1)) (.ix (.ix (.var 1) (.const (.int 1))) (.call zp0 [.var 0,.blt .len [.ix (.var 1) (.const (.int 1))]])) (some (.ref w)::some (.p (.tup (.str wd :: .tup (ns.map .str)::r)))::e) st)
   fun v st'=>(∃ n,v=.p (.str n)∧n∈ns)∧Drew w (T+1) st st':=by
 have h0:(1:Int)<(r.length:Int)+1+1:=by lia
 simp! [bfOp,ixAt,h0]
 refine Sat.k1 (zi7 hw hT (by lia) (by lia)) fun r _ h0 h1 hd=>?_
 obtain ⟨n,hn,hnm,hni⟩:=zH4 ns r h0 h1
 unfold ixAt at hni
 simp! [hni,hn]
 exact ⟨hnm,hd⟩
theorem zW7 {W w:Nat}:∀ o,ok o→∀ D T st,dpt o+1≤D→Well st w T→T+wt (enc o)≤1000000 →
  Sat (runF prog W D zL0 [.ref w,.p (enc o)] st) fun v st'=>(∃ h,v=.p h∧HOk o h)∧Drew w (T+wt (enc o)) st st':=by
 have number:∀ (D:Nat) (T:Int) (st:Store) (word:List Nat),Well st w T→T+10≤1000000→(word=[110,117,109]∨word=[108,111,119]) →
   Sat (execSs (runF prog W (D+1)) W (match zf4 with | _ :: .ite _ b _::_=>b | _=>[]) [some (.ref w),some (.p (.tup [.str word])),some (.p (.str word)),none] st)
    fun f st'=>(∃ v,f=.ret (.p v)∧(v=.non∧word=[108,111,119]∨∃ i:Int,v=.int i∧0≤i∧i<100000000000000000000))∧Drew w (T+6) st st':=by
  intro D T st word hw hT hword
  simp only [zf4]
  apply za4
  simp! []
  refine Sat.k1 (zi7 hw (by lia)) fun r1 _ h10 h11 hd1=>?_
  simp! []
  refine Sat.k1 (zi7 hd1.2 (by lia)) fun r2 _ h20 h21 hd2=>?_
  simp! []
  refine Sat.k1 (zi7 hd2.2 (by lia)) fun r3 _ h30 h31 hd3=>?_
  have s10:small64 10=true:=by decide
  have e20:(10:Int) ^ 20 - 5=99999999999999999995:=by decide
  simp! [s10,e20]
  refine Sat.k1 (zi7 hd3.2 (by lia)) fun r4 _ h40 h41 hd4=>?_
  simp! []
  apply za4
  simp! []
  refine Sat.k1 (zi7 hd4.2 (by lia)) fun r5 _ h50 h51 hd5=>?_
  have hd:=(((hd1.trans hd2).trans hd3).trans hd4).trans hd5
  obtain ⟨x,hx,hxm,hxi⟩:=zH4 [PV.int r1,PV.int r2,PV.int (8+r3),PV.int r4] r5 h50 (by simpa using h51)
  have hxx:∃ i:Int,x=.int i∧0≤i∧i<100000000000000000000:=by
   simp at hxm
   rcases hxm with rfl | rfl | rfl | rfl
   ·exact ⟨_,rfl,by lia,by lia⟩
   ·exact ⟨_,rfl,by lia,by lia⟩
   ·exact ⟨_,rfl,by lia,by lia⟩
   ·exact ⟨_,rfl,by lia,by lia⟩
  simp only [List.length_cons,List.length_nil,Nat.reduceAdd] at hxi
  simp! [hxi,hx]
  apply za4
  rcases hword with rfl | rfl
  ·simp! [pyEq]
   exact ⟨hxx,hd.mono (by lia)⟩
  ·simp! [pyEq]
   refine Sat.k1 (zi7 hd5.2 (by lia)) fun r6 _ h60 h61 hd6=>?_
   have hdd:=(hd.trans hd6).mono (by lia:T+1+1+1+1+1+1≤T+6)
   by_cases c:r6=0
   ·simp! [pyEq,c]
    exact hdd
   ·simp! [pyEq,c]
    exact ⟨Or.inr hxx,hdd⟩
 refine zr3 ?_ ?_ ?_ ?_ ?_ ?_ ?_
 ·intro _ D T st hD hw hT
  obtain ⟨d,rfl⟩:∃ d,D=d+2:=⟨D - 2,by simp at hD;lia⟩
  have q:=number d T st [110,117,109] hw (by rw [zi8] at hT;simp at hT;lia) (Or.inl rfl)
  rw [zi8] at hT ⊢
  rw [zb3 (fd:=zd0) rfl rfl,sat_bind];simp! only [zd0,zf4]
  refine zb5 rfl ?_;apply za4
  simp! [pyEq]
  refine q.mono ?_
  rintro _ st' ⟨⟨v,rfl,hv⟩,hd⟩
  simp! []
  refine ⟨?_,(hd.mono (by simp)).cut⟩
  rcases hv with ⟨rfl,h⟩ | ⟨i,rfl,h0,h1⟩
  ·exact absurd h (by decide)
  ·exact ⟨by rw [isH];simpa using h0,by simp [B20];lia,by simp,by simp [zi8]⟩
 ·intro _ D T st hD hw hT
  obtain ⟨d,rfl⟩:∃ d,D=d+2:=⟨D - 2,by simp at hD;lia⟩
  have q:=number d T st [108,111,119] hw (by rw [zj2] at hT;simp at hT;lia) (Or.inr rfl)
  rw [zj2] at hT ⊢
  rw [zb3 (fd:=zd0) rfl rfl,sat_bind];simp! only [zd0,zf4]
  refine zb5 rfl ?_;apply za4
  simp! [pyEq]
  refine q.mono ?_
  rintro _ st' ⟨⟨v,rfl,hv⟩,hd⟩
  simp! []
  refine ⟨?_,(hd.mono (by simp)).cut⟩
  rcases hv with ⟨rfl,h⟩ | ⟨i,rfl,h0,h1⟩
  ·exact ⟨by simp [isH],by simp,by simp,by simp [zj2]⟩
  ·exact ⟨by rw [isH];simpa using h0,by simp [B20];lia,by simp,by simp [zj2]⟩
 ·intro ns hok D T st hD hw hT
  rw [ok] at hok
  obtain ⟨d,rfl⟩:∃ d,D=d+2:=⟨D - 2,by simp at hD;lia⟩
  have hTT:T+10≤1000000∧T+1≤T+(wt (enc (.chain ns)):Int):=by rw [zf3] at hT ⊢;simp at hT ⊢;lia
  have hk:∀ n∈ns,HOk (.chain ns) (.str n):=fun n hn=>by
   have a:=zJ7 (hok.1.2 n hn)
   have b:=zJ4 (List.mem_map_of_mem (f:=PV.str) hn)
   refine ⟨by rw [isH];simpa using hn,by simpa using zw2 (hok.1.2 n hn),by simp,?_⟩
   rw [zf3];simp at b ⊢;lia
  generalize hW:T+(wt (enc (.chain ns)):Int)=TT at hTT hT ⊢
  rw [zf3]
  rw [zb3 (fd:=zd0) rfl rfl,sat_bind];simp! only [zd0,zf4]
  refine zb5 rfl ?_;dsimp! only
  refine za5 rfl ?_
  refine zb8 rfl (zy8 (Sat.k0 (zz0 hw (by lia) (by lia) (by lia)) fun n _ hnm hd=>?_))
  simp! []
  exact ⟨hk n hnm,(hd.mono hTT.2).cut⟩
 ·intro ns hok D T st hD hw hT
  rw [ok] at hok
  obtain ⟨d,rfl⟩:∃ d,D=d+2:=⟨D - 2,by simp at hD;lia⟩
  have hTT:T+10≤1000000∧T+ns.length+1≤T+(wt (enc (.set ns)):Int):=by
   have:ns.length≤wts (ns.map .str):=by
    clear hok hT hD
    induction ns with
    | nil=>simp
    | cons n r ih=>simp at ih ⊢;lia
   rw [zi1] at hT ⊢;simp at hT ⊢;lia
  have hk:∀ L:List (List Nat),L.Sublist ns→HOk (.set ns) (.tup (L.map .str)):=fun L hL=>by
   have b:=wts_sub (hL.map PV.str)
   refine ⟨zI7 hL hok.1.1,?_,?_,?_⟩
   ·rw [okv_tup,List.all_eq_true]
    intro x hx
    obtain ⟨n,hn,rfl⟩:=List.mem_map.mp hx
    rw [okv_str];exact zw2 (hok.1.2 n (hL.subset hn))
   ·rw [zi1];simp [ze7]
   ·rw [zi1];simp at b ⊢;lia
  generalize hW:T+(wt (enc (.set ns)):Int)=TT at hTT hT ⊢
  rw [zi1]
  rw [zb3 (fd:=zd0) rfl rfl,sat_bind];simp! only [zd0,zf4]
  refine zb5 rfl ?_;dsimp! only
  refine za5 rfl ?_
  refine za5 rfl ?_
  refine zb8 rfl ?_
  apply za4
  simp! [bfOp,ixAt]
  refine (zp7 (fun xs env st' acc=>(∃ v,env=[some (.ref w),v])∧∃ (a b L:List (List Nat)),ns=a++b∧xs=b.map .str∧acc=L.map .str∧L.Sublist a∧Drew w (T+a.length) st st') _ _ _ _ ⟨⟨_,rfl⟩,[],ns,[],rfl,rfl,rfl,List.nil_sublist _,by simpa using Drew.refl hw⟩ ?_).mono ?_
  ·rintro x r env st' acc ⟨⟨v,rfl⟩,a,b,L,e1,e2,rfl,hs,hd⟩
   obtain ⟨n,b',rfl,rfl,rfl⟩:∃ n b',b=n::b'∧x=.str n∧r=b'.map .str:=by
    cases b with
    | nil=>cases e2
    | cons n b'=>cases e2;exact ⟨n,b',rfl,rfl,rfl⟩
   have hla:a.length+1≤ns.length:=by rw [e1];simp
   refine ⟨_,rfl,?_⟩
   simp! []
   refine Sat.k1 (zi7 hd.2 (by lia)) fun q _ q0 q1 hd2=>?_
   have hdd:=(hd.trans hd2).mono (by simp;lia:T+a.length+1≤T+((a++[n]).length:Int))
   by_cases c:q=0
   ·simp! [pyEq,c]
    exact ⟨a++[n],b',by simp [e1],rfl,L++[n],by simp,hs.append (List.Sublist.refl _),by simpa using hdd⟩
   ·simp! [pyEq,c]
    exact ⟨a++[n],b',by simp [e1],rfl,L,rfl,hs.trans (List.sublist_append_left _ _),by simpa using hdd⟩
  ·rintro ys st' ⟨env',_,a,b,L,e1,e2,rfl,hs,hd⟩
   have hb:b=[]:=by
    cases b with
    | nil=>rfl
    | cons _ _=>cases e2
   subst hb
   simp at e1
   subst e1
   exact ⟨hk L hs,(hd.mono (by lia)).cut⟩
 ·intro ns ps hok D T st hD hw hT
  rw [ok] at hok
  obtain ⟨d,rfl⟩:∃ d,D=d+2:=⟨D - 2,by simp at hD;lia⟩
  have hl:=zh2 hok
  have hTT:T+10≤1000000∧T+1≤T+(wt (enc (.web ns ps)):Int):=by rw [zo0] at hT ⊢;simp at hT ⊢;lia
  have hk:∀ n∈ns,HOk (.web ns ps) (.str n):=fun n hn=>by
   have a:=zJ7 (hok.1.2 n hn)
   have b:=zJ4 (List.mem_map_of_mem (f:=PV.str) hn)
   refine ⟨by rw [isH];simpa using hn,by simpa using zw2 (hok.1.2 n hn),by simp,?_⟩
   rw [zo0];simp at b ⊢;lia
  generalize hW:T+(wt (enc (.web ns ps)):Int)=TT at hTT hT ⊢
  rw [zo0]
  rw [zb3 (fd:=zd0) rfl rfl,sat_bind];simp! only [zd0,zf4]
  refine zb5 rfl ?_;dsimp! only
  refine za5 rfl ?_
  refine zb8 rfl (zy8 (Sat.k0 (zz0 hw (by lia) (by lia) (by lia)) fun n _ hnm hd=>?_))
  simp! []
  exact ⟨hk n hnm,(hd.mono hTT.2).cut⟩
 ·intro os ih hok D T st hD hw hT
  rw [zq3] at hok
  rw [zn6] at hD
  obtain ⟨d,rfl⟩:∃ d,D=d+1:=⟨D - 1,by lia⟩
  have hTT:T+(wts (os.map enc):Int)≤T+(wt (enc (.row os)):Int):=by rw [zi9];simp;lia
  have hk:∀ hs:List PV,isHs os hs=true→(∀ h∈hs,okv B20 h=true∧dep h≤deps (os.map enc))→wts hs≤5 * wts (os.map enc)→HOk (.row os) (.tup hs):=fun hs h1 h2 h3=>by
   refine ⟨by rw [isH];exact h1,?_,?_,?_⟩
   ·rw [okv_tup,List.all_eq_true]
    exact fun h hh=>(h2 h hh).1
   ·rw [zi9]
    have:=zx3.mpr fun h hh=>(h2 h hh).2
    simp;lia
   ·rw [zi9];simp;lia
  generalize hW:T+(wt (enc (.row os)):Int)=TT at hTT hT ⊢
  rw [zi9]
  rw [zb3 (fd:=zd0) rfl rfl,sat_bind];simp! only [zd0,zf4]
  refine zb5 rfl ?_;dsimp! only
  refine za5 rfl ?_
  refine za5 rfl ?_
  refine za5 rfl ?_
  refine za5 rfl ?_
  apply za4
  simp! [ixAt]
  refine (zp7 (fun xs env st' acc=>(∃ v,env=[some (.ref w),v])∧∃ (a b:List Ord),os=a++b∧xs=b.map enc∧isHs a acc=true∧(∀ h∈acc,okv B20 h=true∧dep h≤deps (os.map enc))∧wts acc≤5 * wts (a.map enc)∧Drew w (T+wts (a.map enc)) st st') _ _ _ _ ⟨⟨_,rfl⟩,[],os,rfl,rfl,by simp [isHs],by simp,by simp,by simpa using Drew.refl hw⟩ ?_).mono ?_
  ·rintro x r env st' acc ⟨⟨v,rfl⟩,a,b,e1,e2,h1,h2,h3,hd⟩
   obtain ⟨o,b',rfl,rfl,rfl⟩:∃ o b',b=o::b'∧x=enc o∧r=b'.map enc:=by
    cases b with
    | nil=>cases e2
    | cons n b'=>cases e2;exact ⟨n,b',rfl,rfl,rfl⟩
   have hmem:o∈os:=by rw [e1];simp
   have hwle:wts (a.map enc)+(wt (enc o)+2)≤wts (os.map enc):=by rw [e1];simp
   refine ⟨_,rfl,?_⟩
   simp! []
   have hdo:=zq1 hmem
   refine (ih o hmem (hok.2.2 o hmem) d _ _ (by lia) hd.2 (by lia)).mono ?_
   rintro _ st2 ⟨⟨h,rfl,g1,g2,g3,g4⟩,hd2⟩
   refine ⟨_,rfl,a++[o],b',by simp [e1],rfl,zJ9 h1 g1,?_,?_,?_⟩
   ·intro y hy
    rcases hy with hy | rfl
    ·exact h2 y hy
    ·exact ⟨g2,Nat.le_trans g3 (zx3.mp (Nat.le_refl _) _ (List.mem_map_of_mem hmem))⟩
   ·simp;lia
   ·exact (hd.trans hd2).mono (by simp;lia)
  ·rintro ys st' ⟨env',_,a,b,e1,e2,h1,h2,h3,hd⟩
   have hb:b=[]:=by
    cases b with
    | nil=>rfl
    | cons _ _=>cases e2
   subst hb
   simp at e1
   subst e1
   simp! [bfOp]
   exact ⟨hk _ h1 h2 h3,(hd.mono (by lia)).cut⟩
 ·intro o ih hok D T st hD hw hT
  rw [zj8] at hok
  rw [zj7] at hD
  obtain ⟨d,rfl⟩:∃ d,D=d+1:=⟨D - 1,by lia⟩
  have hdp:=zu3 o
  have hTT:T+1+(wt (enc o):Int)≤T+(wt (enc (.newer o)):Int):=by rw [zf9];simp;lia
  have hk:∀ (i:Int) (h:PV),0≤i→i<3→HOk o h→HOk (.newer o) (.tup [.int i,h]):=by
   rintro i h h0 h1 ⟨g1,g2,g3,g4⟩
   refine ⟨by rw [isH];simp [h0,g1],?_,?_,?_⟩
   ·simp [g2];unfold B20;lia
   ·rw [zf9];simp;lia
   ·rw [zf9];simp;lia
  generalize hW:T+(wt (enc (.newer o)):Int)=TT at hTT hT ⊢
  rw [zf9]
  rw [zb3 (fd:=zd0) rfl rfl,sat_bind];simp! only [zd0,zf4]
  refine zb5 rfl ?_;dsimp! only
  refine za5 rfl ?_
  refine za5 rfl ?_
  refine za5 rfl ?_
  refine zb8 rfl ?_
  apply za4
  simp! []
  refine Sat.k1 (zv2 (by lia) hw (by lia) (by lia) (by lia)) fun r _ h0 h1 hd=>?_
  simp! [ixAt]
  refine Sat.k0 (ih hok d _ _ (by lia) hd.2 (by lia)) fun h st2 hh hd2=>?_
  simp! []
  exact ⟨hk r h h0 h1 hh,((hd.trans hd2).mono (by lia)).cut⟩
@[simp] noncomputable def onInt (f:Int→Int→Bool):PV→PV→Bool
 | .int a,.int b=>f a b
 | _,_=>false
@[simp] noncomputable def geLow (a:PV):PV→Bool
 | .non=>true
 | b=>onInt (fun a b=>decide (a≤b)) a b
@[simp] noncomputable def onStr (f:Nm→Nm→Bool):PV→PV→Bool
 | .str a,.str b=>f a b
 | _,_=>false
@[simp] noncomputable def onTups (f:List PV→List PV→Bool):PV→PV→Bool
 | .tup a,.tup b=>f a b
 | _,_=>false
@[simp] noncomputable def geTwo (f:PV→PV→Bool):List PV→List PV→Bool
 | [i,h],[j,k]=>onInt (fun i j=>decide (j<i) || (decide (i=j)&&f h k)) i j
 | _,_=>false
mutual
noncomputable def geH:Ord→PV→PV→Bool
 | .num,a,b=>onInt (fun a b=>decide (b≤a)) a b
 | .low,a,b=>geLow a b
 | .chain ns,a,b=>onStr (fun a b=>decide (plc ns b≤plc ns a)) a b
 | .set _,a,b=>onTups (fun a b=>b.all fun n=>decide (n∈a)) a b
 | .web _ ps,a,b=>onStr (fun a b=>decide (a∈nov ps b)) a b
 | .row os,a,b=>onTups (geHs os) a b
 | .newer o,a,b=>onTups (geTwo (geH o)) a b
noncomputable def geHs:List Ord→List PV→List PV→Bool
 | o::os,a::as,b::bs=>geH o a b&&geHs os as bs
 | _,_,_=>true
end
theorem geH_set {ns as bs}:geH (.set ns) (.tup as) (.tup bs)=bs.all fun n=>decide (n∈as):=by rw [geH];rfl
theorem zC2 {ns ps a b}:geH (.web ns ps) (.str a) (.str b)=decide (a∈nov ps b):=by rw [geH];rfl
theorem geH_row {os as bs}:geH (.row os) (.tup as) (.tup bs)=geHs os as bs:=by rw [geH];rfl
theorem geH_newer {o i h j k}:geH (.newer o) (.tup [.int i,h]) (.tup [.int j,k])=(decide (j<i) || (decide (i=j)&&geH o h k)):=by rw [geH];rfl
noncomputable def wl (ns:List Nm) (ps:List (Nm×Nm)):Nm:=((ns.filter fun n=>decide (n∉ps.map Prod.snd)).head?).getD []
mutual
noncomputable def lst:Ord→PV
 | .num=>.int 0
 | .low=>.non
 | .chain ns=>.str (ns.headD [])
 | .set _=>.tup []
 | .web ns ps=>.str (wl ns ps)
 | .row os=>.tup (lsts os)
 | .newer o=>.tup [.int 0,lst o]
noncomputable def lsts:List Ord→List PV
 | []=>[]
 | o::r=>lst o::lsts r
end
theorem zD3:∀ os,lsts os=os.map lst
 | []=>by rw [lsts];rfl
 | o::r=>by rw [lsts,zD3 r];rfl
theorem zw6 {α:Type} [DecidableEq α] {ns:List α} {p:α→Bool} {c:α} (hn:ns.Nodup) (hc:c∈ns) (h:∀ n∈ns,p n=true↔n=c):ns.filter p=[c]:=by
 induction ns with
 | nil=>cases hc
 | cons n r ih =>
  rw [List.nodup_cons] at hn
  rw [List.filter_cons]
  by_cases e:n=c
  ·subst e
   rw [if_pos ((h n (by simp)).mpr rfl)]
   congr 1
   rw [List.filter_eq_nil_iff]
   intro x hx hp
   exact hn.1 ((h x (List.mem_cons_of_mem _ hx)).mp hp▸hx)
  ·rw [if_neg (fun hp=>e ((h n (by simp)).mp hp))]
   refine ih hn.2 ?_ fun x hx=>h x (List.mem_cons_of_mem _ hx)
   rcases List.mem_cons.mp hc with h | h
   ·exact absurd h.symm e
   ·exact h
theorem shp_up:∀ rows∈shp,(∀ p∈rows,p.1<p.2)∧∀ j,j<manyOf rows→j≠0→∃ p∈rows,p.2=j:=by decide
structure WebF (ns:List Nm) (ps:List (Nm×Nm)) (c0:Nm):Prop where
 mem:c0∈ns
 not:c0∉ps.map Prod.snd
 all:∀ n∈ns,Reach ps c0 n
 up:∀ n∈ns,n≠c0→n∈ps.map Prod.snd
 sub:∀ p∈ps,p.1∈ns∧p.2∈ns
 len:ps.length≤9
theorem zM2 {ns ps} (h:okWeb ns ps):∃ c0,WebF ns ps c0:=by
 have hm:=zh2 h
 obtain ⟨hg,rows,hr,sh,at',h1,h2,h3,rfl⟩:=h
 obtain ⟨m2,m7,r1,r9,hrm⟩:=zz1 rows hr
 obtain ⟨u1,u2⟩:=shp_up rows hr
 have hnd:(rot sh ns).Nodup:=(zw1 ns sh).nodup_iff.mpr hg.1
 have hl:(rot sh ns).length=manyOf rows:=by rw [zB2,h3]
 have getD_inj:∀ i j,i<manyOf rows→j<manyOf rows→(rot sh ns).getD i []=(rot sh ns).getD j []→i=j:=by
  intro i j hi hj e
  rw [List.getD_eq_getElem?_getD,List.getD_eq_getElem?_getD,List.getElem?_eq_getElem (by lia),List.getElem?_eq_getElem (by lia)] at e
  have e:(rot sh ns)[i]'(by lia)=(rot sh ns)[j]'(by lia):=e
  have p:=List.pairwise_iff_getElem.mp hnd
  by_cases hij:i=j
  ·exact hij
  ·rcases Nat.lt_or_gt_of_ne hij with hlt | hlt
   ·exact absurd e (p i j (by lia) (by lia) hlt)
   ·exact absurd e.symm (p j i (by lia) (by lia) hlt)
 have memD:∀ i,i<manyOf rows→(rot sh ns).getD i []∈ns:=fun i hi=>by
  rw [← zm4 (k:=sh),List.getD_eq_getElem?_getD,List.getElem?_eq_getElem (by lia)]
  exact List.getElem_mem _
 have ofD:∀ n∈ns,∃ i,i<manyOf rows∧n=(rot sh ns).getD i []:=fun n hn=>by
  obtain ⟨i,hi,e⟩:=List.getElem_of_mem ((zm4 (k:=sh)).mpr hn)
  exact ⟨i,by lia,by rw [List.getD_eq_getElem?_getD,List.getElem?_eq_getElem hi,e];rfl⟩
 have inps:∀ p∈rows,((rot sh ns).getD p.1 [],(rot sh ns).getD p.2 [])∈webPs rows sh at' ns:=fun p hp =>
  List.mem_map.mpr ⟨p,zm4.mpr hp,rfl⟩
 have reach:∀ j,j<manyOf rows→Reach (webPs rows sh at' ns) ((rot sh ns).getD 0 []) ((rot sh ns).getD j []):=by
  intro j
  induction j using Nat.strongRecOn with
  | ind j ih =>
   intro hj
   by_cases h0:j=0
   ·subst h0;exact .refl _
   ·obtain ⟨p,hp,e⟩:=u2 j hj h0
    have hlt:=u1 p hp
    have:=ih p.1 (by lia) (hrm p hp).1
    have hin:=inps p hp
    rw [e] at hin
    exact this.step hin
 have not0:(rot sh ns).getD 0 []∉(webPs rows sh at' ns).map Prod.snd:=by
  intro hin
  obtain ⟨q,hq,e⟩:=List.mem_map.mp hin
  obtain ⟨p,hp,rfl⟩:=List.mem_map.mp hq
  have hp':=zm4.mp hp
  have hlt:=u1 p hp'
  have:=getD_inj _ _ (hrm p hp').2 (by lia) e
  lia
 refine ⟨(rot sh ns).getD 0 [],memD 0 (by lia),not0,?_,?_,hm.2.2.2,hm.1⟩
 ·intro n hn
  obtain ⟨i,hi,rfl⟩:=ofD n hn
  exact reach i hi
 ·intro n hn hne
  obtain ⟨i,hi,rfl⟩:=ofD n hn
  have hi0:i≠0:=fun h=>hne (by rw [h])
  obtain ⟨p,hp,e⟩:=u2 i hi hi0
  refine List.mem_map.mpr ⟨_,inps p hp,?_⟩
  simp [e]
theorem WebF.wl {ns ps c0} (h:WebF ns ps c0) (hn:ns.Nodup):LA.wl ns ps=c0∧(ns.filter fun n=>decide (n∉ps.map Prod.snd))=[c0]:=by
 have:(ns.filter fun n=>decide (n∉ps.map Prod.snd))=[c0]:=zw6 hn h.mem fun n hn'=>by
  simp only [decide_eq_true_eq]
  constructor
  ·intro hx
   by_cases e:n=c0
   ·exact e
   ·exact absurd (h.up n hn' e) hx
  ·rintro rfl;exact h.not
 refine ⟨?_,this⟩
 unfold LA.wl
 rw [this];rfl
theorem WebF.only {ns ps c0 n} (h:WebF ns ps c0) (r:Reach ps n c0):n=c0:=by
 cases r with
 | refl=>rfl
 | step _ m=>exact absurd (List.mem_map.mpr ⟨_,m,rfl⟩) h.not
theorem WebF.least_iff {ns ps c0 n} (h:WebF ns ps c0) (hn:n∈ns):(∀ x∈ns,Reach ps n x)↔n=c0 :=
 ⟨fun g=>h.only (g c0 h.mem),fun e=>e▸h.all⟩
open OR
theorem zK8 {ps qs:List (Nm×Nm)} {g:Nm→Nm} (h:∀ p∈ps,(g p.1,g p.2)∈qs) {a b:Nm} (r:Reach ps a b):Reach qs (g a) (g b):=by
 induction r with
 | refl=>exact .refl _
 | step _ m ih=>exact ih.step (h _ m)
noncomputable def nrows (rows:List (Nat×Nat)):List (Nm×Nm):=rows.map fun p=>([p.1],[p.2])
noncomputable def joinOk (rows:List (Nat×Nat)):Bool :=
 let ups:=(List.range (manyOf rows)).map fun i=>nov (nrows rows) [i]
 ups.all fun a=>ups.all fun b=>(List.range (manyOf rows)).any fun k=>a.contains [k]&&b.contains [k]&&(List.range (manyOf rows)).all fun l=>!a.contains [l] || !b.contains [l] || (ups.getD k []).contains [l]
theorem zX0:shp.all joinOk=true:=by decide +kernel
theorem shp_join:∀ rows∈shp,∀ i,i<manyOf rows→∀ j,j<manyOf rows→∃ k,k<manyOf rows∧[k]∈nov (nrows rows) [i]∧[k]∈nov (nrows rows) [j]∧∀ l,l<manyOf rows→[l]∈nov (nrows rows) [i]→[l]∈nov (nrows rows) [j]→[l]∈nov (nrows rows) [k]:=by
 intro rows hr i hi j hj
 have h:=List.all_eq_true.mp zX0 rows hr
 unfold joinOk at h
 have h:=List.all_eq_true.mp (List.all_eq_true.mp h _ (List.mem_map.mpr ⟨i,List.mem_range.mpr hi,rfl⟩)) _ (List.mem_map.mpr ⟨j,List.mem_range.mpr hj,rfl⟩)
 obtain ⟨k,hk,h⟩:=List.any_eq_true.mp h
 have hk:=List.mem_range.mp hk
 rw [Bool.and_eq_true,Bool.and_eq_true] at h
 obtain ⟨⟨h1,h2⟩,h3⟩:=h
 refine ⟨k,hk,by simpa using h1,by simpa using h2,fun l hl g1 g2=>?_⟩
 have h:=List.all_eq_true.mp h3 l (List.mem_range.mpr hl)
 rw [List.getD_eq_getElem?_getD,List.getElem?_map,List.getElem?_range hk] at h
 simpa [g1,g2] using h
structure WebJ (ns:List Nm) (ps:List (Nm×Nm)):Prop where
 anti:∀ a∈ns,∀ b∈ns,Reach ps a b→Reach ps b a→a=b
 join:∀ a∈ns,∀ b∈ns,∃ c∈ns,Reach ps a c∧Reach ps b c∧∀ d∈ns,Reach ps a d→Reach ps b d→Reach ps c d
theorem zG4 {ns ps} (h:okWeb ns ps):WebJ ns ps:=by
 obtain ⟨hg,rows,hr,sh,at',h1,h2,h3,rfl⟩:=h
 obtain ⟨m2,m7,r1,r9,hrm⟩:=zz1 rows hr
 obtain ⟨u1,u2⟩:=shp_up rows hr
 have hj:=shp_join rows hr
 have hnd:(rot sh ns).Nodup:=(zw1 ns sh).nodup_iff.mpr hg.1
 have hl:(rot sh ns).length=manyOf rows:=by rw [zB2,h3]
 have hnl:(nrows rows).length≤50:=by simp [nrows];lia
 let g:Nm→Nm:=fun x=>(rot sh ns).getD (x.headD 0) []
 let g':Nm→Nm:=fun x=>[(rot sh ns).idxOf x]
 have gg:∀ i,i<manyOf rows→(rot sh ns).idxOf ((rot sh ns).getD i [])=i:=fun i hi=>by
  rw [List.getD_eq_getElem?_getD,List.getElem?_eq_getElem (by lia)]
  exact hnd.idxOf_getElem i (by lia)
 have ofD:∀ n∈ns,∃ i,i<manyOf rows∧n=(rot sh ns).getD i []:=fun n hn=>by
  obtain ⟨i,hi,e⟩:=List.getElem_of_mem ((zm4 (k:=sh)).mpr hn)
  exact ⟨i,by lia,by rw [List.getD_eq_getElem?_getD,List.getElem?_eq_getElem hi,e];rfl⟩
 have memD:∀ i,i<manyOf rows→(rot sh ns).getD i []∈ns:=fun i hi=>by
  rw [← zm4 (k:=sh),List.getD_eq_getElem?_getD,List.getElem?_eq_getElem (by lia)]
  exact List.getElem_mem _
 have to:∀ i j,Reach (nrows rows) [i] [j]→Reach (webPs rows sh at' ns) ((rot sh ns).getD i []) ((rot sh ns).getD j []):=fun i j r =>
  zK8 (g:=g) (fun p hp=>by
   obtain ⟨q,hq,rfl⟩:=List.mem_map.mp hp
   exact List.mem_map.mpr ⟨q,zm4.mpr hq,rfl⟩) r
 have fro:∀ i j,i<manyOf rows→j<manyOf rows→Reach (webPs rows sh at' ns) ((rot sh ns).getD i []) ((rot sh ns).getD j [])→Reach (nrows rows) [i] [j]:=fun i j hi hj r=>by
  have:=zK8 (qs:=nrows rows) (g:=g') (fun p hp=>by
   obtain ⟨q,hq,rfl⟩:=List.mem_map.mp hp
   have hq:=zm4.mp hq
   have b:=hrm q hq
   refine List.mem_map.mpr ⟨q,hq,?_⟩
   show _=([(rot sh ns).idxOf _],[(rot sh ns).idxOf _])
   rw [gg _ b.1,gg _ b.2]) r
  have e:Reach (nrows rows) [(rot sh ns).idxOf ((rot sh ns).getD i [])] [(rot sh ns).idxOf ((rot sh ns).getD j [])]:=this
  rwa [gg i hi,gg j hj] at e
 have up:∀ {x y},Reach (nrows rows) x y→x.headD 0≤y.headD 0:=fun r=>by
  induction r with
  | refl=>exact Nat.le_refl _
  | step _ m ih =>
   obtain ⟨q,hq,e⟩:=List.mem_map.mp m
   cases e
   have:=u1 q hq
   simp at ih ⊢
   lia
 constructor
 ·intro a ha b hb r1 r2
  obtain ⟨i,hi,rfl⟩:=ofD a ha
  obtain ⟨j,hj,rfl⟩:=ofD b hb
  have q1:=up (fro i j hi hj r1)
  have q2:=up (fro j i hj hi r2)
  simp at q1 q2
  rw [show i=j by lia]
 ·intro a ha b hb
  obtain ⟨i,hi,rfl⟩:=ofD a ha
  obtain ⟨j,hj',rfl⟩:=ofD b hb
  obtain ⟨k,hk,k1,k2,k3⟩:=hj i hi j hj'
  refine ⟨_,memD k hk,to i k ((zk6 hnl).mp k1),to j k ((zk6 hnl).mp k2),fun d hd r1 r2=>?_⟩
  obtain ⟨l,hl',rfl⟩:=ofD d hd
  exact to k l ((zk6 hnl).mp (k3 l hl' ((zk6 hnl).mpr (fro i l hi hl' r1)) ((zk6 hnl).mpr (fro j l hj' hl' r2))))
noncomputable def pairPV (p:Nm×Nm):PV:=.tup [.str p.1,.str p.2]
theorem zJ0 {s:Nm} {p:Nm×Nm} {r f}:addAll s (p::r) f=addAll s r (if p.1=s∧p.2∉f then f++[p.2] else f):=rfl
def NO1 (ps:List (Nm×Nm)) (n:Nm) (st:Store) (k:Nat) (env:Env) (st':Store):Prop:=∃ f i x4 x5,env=[some (.p (.tup (ps.map pairPV))),some (.p (.str n)),some (.ref st.length),some (.p (.int (i:Nat))),x4,x5]∧st'=st++[.lst (f.map .str)]∧BInv ps n f i∧bfs ps (60 - i) f i=nov ps n∧ps.length+2≤k+i
def NO2 (ps:List (Nm×Nm)) (n:Nm) (st:Store) (env:Env) (st':Store):Prop:=∃ v x4 x5,env=[some (.p (.tup (ps.map pairPV))),some (.p (.str n)),some (.ref st.length),v,x4,x5]∧st'=st++[.lst ((nov ps n).map .str)]
def NO3 (ps:List (Nm×Nm)) (n:Nm) (st:Store) (s:Nm) (f:List Nm) (i:Nat) (xs:List PV) (env:Env) (st':Store):Prop:=∃ g r x4 x5,env=[some (.p (.tup (ps.map pairPV))),some (.p (.str n)),some (.ref st.length),some (.p (.int (i:Nat))),x4,x5]∧xs=r.map pairPV∧st'=st++[.lst ((f++g).map .str)]∧addAll s r (f++g)=addAll s ps f∧(f++g).length+r.length≤f.length+ps.length
theorem zv6 {W D:Nat} {ps:List (Nm×Nm)} {n:Nm} {st:Store} (hW:60≤W) (hD:1≤D) (hl:ps.length≤50) :
  runF prog W D zK2 [.p (.tup (ps.map pairPV)),.p (.str n)] st=.ok (.p (.lst ((nov ps n).map .str))) st:=by
 obtain ⟨d,rfl⟩:∃ d,D=d+1:=⟨D - 1,by lia⟩
 apply zb6
 rw [zb3 (fd:=zr1) rfl rfl,sat_bind];simp! only [zr1,zq9]
 apply za4
 simp! []
 apply za4
 simp! []
 apply za4
 simp! []
 refine (zN4 (NO1 ps n st) (NO2 ps n st) ?_ ?_ W _ _ ⟨[n],0,none,none,rfl,rfl,binv0,rfl,by lia⟩).mono ?_
 ·rintro env st' ⟨f,i,x4,x5,rfl,rfl,hb,_,hk⟩
  have h1:=hb.le
  have h2:=hb.len
  lia
 ·rintro k env st' ⟨f,i,x4,x5,rfl,rfl,hb,he,hk⟩
  have ho:objAt (st++[.lst (f.map .str)]) st.length=some (.lst (f.map .str)):=objAt_new
  by_cases hi:i<f.length
  ·simp! [opN,views,zi6 ho,bfOp,hi]
   obtain ⟨s,hs⟩:∃ s,f[i]?=some s:=⟨_,List.getElem?_eq_getElem hi⟩
   apply za4
   simp! []
   refine (zo5 (NO3 ps n st s f i) _ _ _ ⟨[],ps,_,_,rfl,rfl,by simp,by simp,by simp⟩ ?_).mono ?_
   ·rintro x r env st' ⟨g,r',x4,x5,rfl,e2,rfl,hadd,hlen⟩
    obtain ⟨p,r2,rfl,rfl,rfl⟩:∃ p r2,r'=p::r2∧x=pairPV p∧r=r2.map pairPV:=by
     cases r' with
     | nil=>cases e2
     | cons p r2=>cases e2;exact ⟨p,r2,rfl,rfl,rfl⟩
    have ho2:objAt (st++[.lst ((f++g).map .str)]) st.length=some (.lst ((f++g).map .str)):=objAt_new
    have hgs:(f++g)[i]?=some s:=by rw [List.getElem?_append_left hi];exact hs
    have hix:ixAt ((f++g).map PV.str).length (i:Int)=some i:=by
     unfold ixAt;rw [if_pos (by lia),if_pos (by simp;lia)];simp
    rw [zJ0] at hadd
    refine ⟨_,rfl,?_⟩
    apply za4
    generalize hfg:f++g=fg at *
    have hix':ixAt fg.length (i:Int)=some i:=by simpa using hix
    have hlf:=hb.len
    have z1:fg.length<SZ:=zO1 (by simp at hlen;lia)
    by_cases c1:p.1=s
    ·by_cases c2:p.2∈fg
     ·rw [if_neg (by simp [c2])] at hadd
      simp! [ho2,hix',hgs,zu6,c1,op2,zi6 ho2,zd7,c2,ze7]
      dsimp! only
      exact ⟨_,rfl,g,r2,_,_,rfl,rfl,by rw [hfg],by rw [hfg];exact hadd,by rw [hfg];simp at hlen ⊢;lia⟩
     ·rw [if_pos ⟨c1,c2⟩] at hadd
      simp! [ho2,hix',hgs,zu6,c1,op2,zi6 ho2,zd7,c2,ze7]
      apply za4
      simp! [zi6 ho2,zu8 ho2,gAppend,z1]
      dsimp! only
      refine ⟨_,rfl,g++[p.2],r2,_,_,rfl,rfl,by rw [← List.append_assoc,hfg];simp,by rw [← List.append_assoc,hfg];exact hadd,by rw [← List.append_assoc,hfg];simp at hlen ⊢;lia⟩
    ·rw [if_neg (fun h=>c1 h.1)] at hadd
     have c1':¬ s=p.1:=fun h=>c1 h.symm
     simp! [ho2,hix',hgs,zu6,c1,c1']
     dsimp! only
     exact ⟨_,rfl,g,r2,_,_,rfl,rfl,by rw [hfg],by rw [hfg];exact hadd,by rw [hfg];simp at hlen ⊢;lia⟩
   ·rintro _ st' ⟨env',rfl,g,r',x4,x5,rfl,e2,rfl,hadd,hlen⟩
    have hr:r'=[]:=by
     cases r' with
     | nil=>rfl
     | cons _ _=>cases e2
    subst hr
    apply za4
    simp! []
    dsimp! only
    refine ⟨_,rfl,f++g,i+1,_,_,rfl,by simp,?_,?_,by lia⟩
    ·rw [show f++g=addAll s ps f from hadd];exact hb.next hs
    ·rw [show f++g=addAll s ps f from hadd]
     have hlf:=hb.len
     have hli:=hb.le
     rw [← he,show 60 - i=(60 - (i+1))+1 by lia,bfs,hs]
  ·simp! [opN,views,zi6 ho,bfOp,hi]
   have hn:f[i]?=none:=List.getElem?_eq_none (by lia)
   have hlf:=hb.len
   have hli:=hb.le
   have:f=nov ps n:=by
    rw [← he,show 60 - i=(60 - i - 1)+1 by lia,bfs,hn]
   exact ⟨_,_,_,rfl,by rw [this]⟩
 ·rintro _ st' ⟨env',rfl,v,x4,x5,rfl,rfl⟩
  apply za4
  simp! []
theorem zf8 {a} (h:isH .num a=true):∃ i:Int,a=.int i∧0≤i:=by
 cases a <;> simp [isH] at h
 exact ⟨_,rfl,h⟩
theorem zf0 {a} (h:isH .low a=true):a=.non∨∃ i:Int,a=.int i∧0≤i:=by
 cases a <;> simp [isH] at h
 ·exact .inl rfl
 ·exact .inr ⟨_,rfl,h⟩
theorem zc6 {ns a} (h:isH (.chain ns) a=true):∃ s∈ns,a=.str s:=by
 cases a <;> simp [isH] at h
 exact ⟨_,h,rfl⟩
theorem zg6 {ns ps a} (h:isH (.web ns ps) a=true):∃ s∈ns,a=.str s:=by
 cases a <;> simp [isH] at h
 exact ⟨_,h,rfl⟩
theorem zh6 {ns a} (h:isH (.set ns) a=true):∃ L:List Nm,L.Sublist ns∧a=.tup (L.map .str):=by
 cases a with
 | tup ts =>
  rw [isH] at h
  have:=of_decide_eq_true h
  exact ⟨_,List.filter_sublist,by rw [← this]⟩
 | _=>simp [isH] at h
theorem zu2 {os a} (h:isH (.row os) a=true):∃ ts,a=.tup ts∧isHs os ts=true:=by
 cases a with
 | tup ts=>rw [isH] at h;exact ⟨ts,rfl,h⟩
 | _=>simp [isH] at h
theorem zm6 {o a} (h:isH (.newer o) a=true):∃ (i:Int) (k:PV),a=.tup [.int i,k]∧0≤i∧isH o k=true:=by
 cases a with
 | tup ts =>
  match ts with
  | []=>simp [isH] at h
  | [x]=>simp [isH] at h
  | [x,y] =>
   cases x with
   | int i=>rw [isH] at h;simp at h;exact ⟨i,y,rfl,h.1,h.2⟩
   | _=>simp [isH] at h
  | x::y::z::r=>simp [isH] at h
 | _=>simp [isH] at h
theorem zy6:∀ {os ts},isHs os ts=true→∀ p∈os.zip ts,isH p.1 p.2=true
 | os,ts,h=>by
  rw [zU7 (zu7 h),List.all_eq_true] at h
  exact h
theorem zG7:∀ {os as bs},geHs os as bs=(os.zip (as.zip bs)).all fun p=>geH p.1 p.2.1 p.2.2
 | [],_,_=>by rw [geHs] <;> simp
 | _::_,[],_=>by rw [geHs] <;> simp
 | _::_,_::_,[]=>by rw [geHs] <;> simp
 | o::os,a::as,b::bs=>by rw [geHs,zG7];rfl
theorem zo8 {ns ps}:enc (.web ns ps)=.tup [.str [119,101,98],.tup (ns.map .str),.tup (ps.map pairPV)]:=zo0
theorem zT8 {α β γ:Type} {os:List α} {as:List β} {bs:List γ} {o x y} (hp:(o,x,y)∈os.zip (as.zip bs)):(o,x)∈os.zip as∧(o,y)∈os.zip bs:=by
 obtain ⟨k,hk,e⟩:=List.getElem_of_mem hp
 simp at hk e
 exact ⟨List.mem_iff_getElem.mpr ⟨k,by simp;lia,by simp [e]⟩,List.mem_iff_getElem.mpr ⟨k,by simp;lia,by simp [e]⟩⟩
theorem isHs_at {os ts} {k:Nat} (h:isHs os ts=true) (h1:k<os.length) (h2:k<ts.length):isH os[k] ts[k]=true :=
 zy6 h (os[k],ts[k]) (List.mem_iff_getElem.mpr ⟨k,by simp;lia,by simp⟩)
theorem zt0 {W:Nat} (hW:60≤W):∀ o,ok o→∀ D,dpt o+1≤D→∀ a b st,isH o a=true→isH o b=true →
  runF prog W D zF1 [.p (enc o),.p a,.p b] st=.ok (.p (.bl (geH o a b))) st:=by
 have hd:∀ o:Ord,∀ D,dpt o+1≤D→∃ d,D=d+2:=fun o D h=>⟨D - 2,by have:=zu3 o;lia⟩
 refine zr3 ?_ ?_ ?_ ?_ ?_ ?_ ?_
 ·intro _ D hD a b st ha hb
  obtain ⟨d,rfl⟩:=hd _ D hD
  obtain ⟨i,rfl,hi⟩:=zf8 ha
  obtain ⟨j,rfl,hj⟩:=zf8 hb
  apply zb6
  rw [zi8]
  rw [zb3 (fd:=ze8) rfl rfl,sat_bind];simp! only [ze8,zj6]
  refine zb5 rfl ?_;dsimp! only
  refine zb8 rfl ?_
  apply za4
  simp! [geH]
 ·intro _ D hD a b st ha hb
  obtain ⟨d,rfl⟩:=hd _ D hD
  apply zb6
  rw [zj2]
  rw [zb3 (fd:=ze8) rfl rfl,sat_bind];simp! only [ze8,zj6]
  refine zb5 rfl ?_;dsimp! only
  refine za5 rfl ?_
  refine zb8 rfl ?_
  apply za4
  rcases zf0 ha with rfl | ⟨i,rfl,hi⟩
  ·rcases zf0 hb with rfl | ⟨j,rfl,hj⟩
   ·simp! [geH]
   ·simp! [geH]
  ·rcases zf0 hb with rfl | ⟨j,rfl,hj⟩
   ·simp! [geH]
   ·simp! [geH]
 ·intro ns _ D hD a b st ha hb
  obtain ⟨d,rfl⟩:=hd _ D hD
  obtain ⟨s,hs,rfl⟩:=zc6 ha
  obtain ⟨t,ht,rfl⟩:=zc6 hb
  apply zb6
  rw [zf3]
  rw [zb3 (fd:=ze8) rfl rfl,sat_bind];simp! only [ze8,zj6]
  refine zb5 rfl ?_;dsimp! only
  refine za5 rfl ?_
  refine za5 rfl ?_
  refine zb8 rfl ?_
  apply za4
  simp! [ixAt,zo9 hs,zo9 ht,geH]
 ·intro ns hok D hD a b st ha hb
  obtain ⟨d,rfl⟩:=hd _ D hD
  obtain ⟨L,hL,rfl⟩:=zh6 ha
  obtain ⟨M,hM,rfl⟩:=zh6 hb
  apply zb6
  rw [zi1]
  rw [zb3 (fd:=ze8) rfl rfl,sat_bind];simp! only [ze8,zj6]
  refine zb5 rfl ?_;dsimp! only
  refine za5 rfl ?_
  refine za5 rfl ?_
  refine za5 rfl ?_
  refine zb8 rfl ?_
  apply za4
  simp! []
  rw [zg8 PV.str (fun n=>.bl (decide (n∈L))) (fun env=>∃ v,env=[some (.p (.tup (L.map .str))),v]) _ _ _ ⟨_,rfl⟩ ?g1]
  case g1 =>
   rintro n hn env ⟨v,rfl⟩
   refine ⟨_,rfl,⟨_,rfl⟩,?_⟩
   simp! [zF7]
  have hba:=zn4 (fun n:Nm=>decide (n∈L)) M
  have hge:geH (.set ns) (.tup (L.map .str)) (.tup (M.map .str))=M.all fun n=>decide (n∈L):=by
   rw [geH_set,List.all_map]
   congr 1
   funext n
   simp
  rw [hge]
  generalize (M.all fun n=>decide (n∈L))=r at hba ⊢
  simp! [bfOp,hba]
 ·intro ns ps hok D hD a b st ha hb
  rw [ok] at hok
  obtain ⟨d,rfl⟩:=hd _ D hD
  obtain ⟨s,hs,rfl⟩:=zg6 ha
  obtain ⟨t,ht,rfl⟩:=zg6 hb
  have hl:=(zh2 hok).1
  apply zb6
  rw [zo8]
  rw [zb3 (fd:=ze8) rfl rfl,sat_bind];simp! only [ze8,zj6]
  refine zb5 rfl ?_;dsimp! only
  refine za5 rfl ?_
  refine za5 rfl ?_
  refine za5 rfl ?_
  refine za5 rfl ?_
  refine zb8 rfl ?_
  apply za4
  simp! [ixAt,zv6 (D:=d+1) hW (by lia) (by lia:ps.length≤50),zd7,ze7,geH]
 ·intro os ih hok D hD a b st ha hb
  rw [zq3] at hok
  rw [zn6] at hD
  obtain ⟨d,rfl⟩:∃ d,D=d+2:=⟨D - 2,by lia⟩
  obtain ⟨as,rfl,hA⟩:=zu2 ha
  obtain ⟨bs,rfl,hB⟩:=zu2 hb
  apply zb6
  rw [zi9]
  rw [zb3 (fd:=ze8) rfl rfl,sat_bind];simp! only [ze8,zj6]
  refine zb5 rfl ?_;dsimp! only
  refine za5 rfl ?_
  refine za5 rfl ?_
  refine za5 rfl ?_
  refine za5 rfl ?_
  refine za5 rfl ?_
  refine zb8 rfl ?_
  apply za4
  simp! [ixAt,List.mapM_cons,zipRows]
  have hz:List.zip (List.map enc os) (as.zip bs)=(os.zip (as.zip bs)).map fun p=>(enc p.1,p.2):=by
   rw [List.zip_map_left];rfl
  rw [hz,List.map_map]
  rw [zg8 ((fun p=>PV.tup [p.1,p.2.1,p.2.2])∘fun p:Ord×PV×PV=>(enc p.1,p.2)) (fun p=>.bl (geH p.1 p.2.1 p.2.2)) (fun env=>∃ v v' v'',env=[v,v',v'']) _ _ _ ⟨_,_,_,rfl⟩ ?g1]
  case g1 =>
   rintro ⟨o,x,y⟩ hp env ⟨v,v',v'',rfl⟩
   have h1:=List.of_mem_zip hp
   have h2:=List.of_mem_zip h1.2
   have hdm:=zq1 h1.1
   have hx:isH o x=true:=zy6 hA (o,x) (zT8 hp).1
   have hy:isH o y=true:=zy6 hB (o,y) (zT8 hp).2
   refine ⟨_,rfl,⟨_,_,_,rfl⟩,?_⟩
   simp! [ih o h1.1 (hok.2.2 o h1.1) (d+1) (by lia) x y st hx hy]
  have hba:=zn4 (fun p:Ord×PV×PV=>geH p.1 p.2.1 p.2.2) (os.zip (as.zip bs))
  rw [geH_row,zG7]
  generalize (os.zip (as.zip bs)).all (fun p=>geH p.1 p.2.1 p.2.2)=r at hba ⊢
  simp! [bfOp,hba]
 ·intro o ih hok D hD a b st ha hb
  rw [zj8] at hok
  rw [zj7] at hD
  obtain ⟨d,rfl⟩:∃ d,D=d+2:=⟨D - 2,by lia⟩
  obtain ⟨i,h,rfl,hi,hh⟩:=zm6 ha
  obtain ⟨j,k,rfl,hj,hk⟩:=zm6 hb
  have ihk:=ih hok (d+1) (by lia) h k st hh hk
  apply zb6
  rw [zf9]
  rw [zb3 (fd:=ze8) rfl rfl,sat_bind];simp! only [ze8,zj6]
  refine zb5 rfl ?_;dsimp! only
  refine za5 rfl ?_
  refine za5 rfl ?_
  refine za5 rfl ?_
  refine za5 rfl ?_
  refine za5 rfl ?_
  refine za5 rfl ?_
  apply za4
  by_cases c1:j<i
  ·simp! [ixAt,c1,geH]
  ·by_cases c2:i=j
   ·simp! [ixAt,c1,c2,pyEq,ihk,geH]
   ·simp! [ixAt,c1,c2,pyEq,geH]
theorem plc_inj:∀ {ns:List (List Nat)} {s t:List Nat},s∈ns→t∈ns→plc ns s=plc ns t→s=t
 | [],s,t,hs,_,_=>by cases hs
 | n::r,s,t,hs,ht,e=>by
  have gs:=zV1 (s:=s) (ns:=r)
  have gt:=zV1 (s:=t) (ns:=r)
  rw [zl2,zl2] at e
  by_cases c1:n=s
  ·by_cases c2:n=t
   ·rw [← c1,← c2]
   ·rw [if_pos c1,if_neg c2] at e
    split at e <;> lia
  ·by_cases c2:n=t
   ·rw [if_neg c1,if_pos c2] at e
    split at e <;> lia
   ·have hs:s∈r:=(List.mem_cons.mp hs).resolve_left fun h=>c1 h.symm
    have ht:t∈r:=(List.mem_cons.mp ht).resolve_left fun h=>c2 h.symm
    have ms:=zt7.mpr hs
    have mt:=zt7.mpr ht
    rw [if_neg c1,if_neg c2,if_neg (by lia),if_neg (by lia)] at e
    exact plc_inj hs ht (by lia)
noncomputable def lowOver (ns:List Nm) (ps:List (Nm×Nm)) (a b c:Nm):Bool :=
 decide (c∈nov ps a)&&decide (c∈nov ps b)&&ns.all fun d=>!(decide (d∈nov ps a)&&decide (d∈nov ps b)) || decide (d∈nov ps c)
noncomputable def wjn (ns:List Nm) (ps:List (Nm×Nm)) (a b:Nm):Nm:=((ns.filter (lowOver ns ps a b)).head?).getD []
@[simp] noncomputable def jTup (f:List PV→List PV→List PV):PV→PV→PV
 | .tup a,.tup b=>.tup (f a b)
 | a,_=>a
@[simp] noncomputable def jStr (f:Nm→Nm→Nm):PV→PV→PV
 | .str a,.str b=>.str (f a b)
 | a,_=>a
@[simp] noncomputable def jTwo (f:PV→PV→PV):List PV→List PV→List PV
 | [.int i,h],[.int j,k]=>if i=j then [.int i,f h k] else if j<i then [.int i,h] else [.int j,k]
 | a,_=>a
mutual
noncomputable def jnH:Ord→PV→PV→PV
 | .num,a,b=>if geH .num a b=true then a else b
 | .low,a,b=>if geH .low a b=true then a else b
 | .chain ns,a,b=>if geH (.chain ns) a b=true then a else b
 | .set ns,a,b=>jTup (fun a b=>(ns.filter fun n=>decide (PV.str n∈a) || decide (PV.str n∈b)).map .str) a b
 | .web ns ps,a,b=>jStr (wjn ns ps) a b
 | .row os,a,b=>jTup (jnHs os) a b
 | .newer o,a,b=>jTup (jTwo (jnH o)) a b
noncomputable def jnHs:List Ord→List PV→List PV→List PV
 | o::os,a::as,b::bs=>jnH o a b::jnHs os as bs
 | _,_,_=>[]
end
theorem jnH_set {ns a b}:jnH (.set ns) (.tup a) (.tup b)=.tup ((ns.filter fun n=>decide (PV.str n∈a) || decide (PV.str n∈b)).map .str):=by rw [jnH];rfl
theorem jnH_web {ns ps a b}:jnH (.web ns ps) (.str a) (.str b)=.str (wjn ns ps a b):=by rw [jnH];rfl
structure PO (o:Ord):Prop where
 refl:∀ a,isH o a=true→geH o a a=true
 anti:∀ a b,isH o a=true→isH o b=true→geH o a b=true→geH o b a=true→a=b
 trans:∀ a b c,isH o a=true→isH o b=true→isH o c=true→geH o a b=true→geH o b c=true→geH o a c=true
 jn:∀ a b,isH o a=true→isH o b=true→isH o (jnH o a b)=true∧geH o (jnH o a b) a=true∧geH o (jnH o a b) b=true ∧
  ∀ c,isH o c=true→geH o c a=true→geH o c b=true→geH o c (jnH o a b)=true
theorem PO.of_total {o} (refl:∀ a,isH o a=true→geH o a a=true) (anti:∀ a b,isH o a=true→isH o b=true→geH o a b=true→geH o b a=true→a=b)
  (trans:∀ a b c,isH o a=true→isH o b=true→isH o c=true→geH o a b=true→geH o b c=true→geH o a c=true)
  (tot:∀ a b,isH o a=true→isH o b=true→geH o a b=true∨geH o b a=true) (hj:∀ a b,isH o a=true→isH o b=true→jnH o a b=if geH o a b=true then a else b):PO o:=by
 refine ⟨refl,anti,trans,fun a b ha hb=>?_⟩
 rw [hj a b ha hb]
 by_cases h:geH o a b=true
 ·rw [if_pos h]
  exact ⟨ha,refl a ha,h,fun c _ h1 _=>h1⟩
 ·rw [if_neg h]
  exact ⟨hb,(tot a b ha hb).resolve_left h,refl b hb,fun c _ _ h2=>h2⟩
theorem po_num:PO .num:=by
 refine .of_total ?_ ?_ ?_ ?_ ?_
 ·intro a ha;obtain ⟨i,rfl,_⟩:=zf8 ha;simp [geH]
 ·intro a b ha hb h1 h2
  obtain ⟨i,rfl,_⟩:=zf8 ha;obtain ⟨j,rfl,_⟩:=zf8 hb
  simp [geH] at h1 h2 ⊢;lia
 ·intro a b c ha hb hc h1 h2
  obtain ⟨i,rfl,_⟩:=zf8 ha;obtain ⟨j,rfl,_⟩:=zf8 hb;obtain ⟨k,rfl,_⟩:=zf8 hc
  simp [geH] at h1 h2 ⊢;lia
 ·intro a b ha hb
  obtain ⟨i,rfl,_⟩:=zf8 ha;obtain ⟨j,rfl,_⟩:=zf8 hb
  simp [geH];lia
 ·intro a b ha hb
  obtain ⟨i,rfl,_⟩:=zf8 ha;obtain ⟨j,rfl,_⟩:=zf8 hb
  rw [jnH] <;> simp
theorem po_low:PO .low:=by
 refine .of_total ?_ ?_ ?_ ?_ ?_
 ·intro a ha
  rcases zf0 ha with rfl | ⟨i,rfl,_⟩ <;> simp [geH]
 ·intro a b ha hb h1 h2
  rcases zf0 ha with rfl | ⟨i,rfl,_⟩ <;> rcases zf0 hb with rfl | ⟨j,rfl,_⟩ <;> simp [geH] at h1 h2 ⊢
  lia
 ·intro a b c ha hb hc h1 h2
  rcases zf0 ha with rfl | ⟨i,rfl,_⟩ <;> rcases zf0 hb with rfl | ⟨j,rfl,_⟩ <;> rcases zf0 hc with rfl | ⟨k,rfl,_⟩ <;> simp [geH] at h1 h2 ⊢
  lia
 ·intro a b ha hb
  rcases zf0 ha with rfl | ⟨i,rfl,_⟩ <;> rcases zf0 hb with rfl | ⟨j,rfl,_⟩ <;> simp [geH]
  lia
 ·intro a b ha hb
  rcases zf0 ha with rfl | ⟨i,rfl,_⟩ <;> rcases zf0 hb with rfl | ⟨j,rfl,_⟩ <;> rw [jnH] <;> simp
theorem zT7 {ns}:PO (.chain ns):=by
 refine .of_total ?_ ?_ ?_ ?_ ?_
 ·intro a ha;obtain ⟨s,_,rfl⟩:=zc6 ha;simp [geH]
 ·intro a b ha hb h1 h2
  obtain ⟨s,hs,rfl⟩:=zc6 ha;obtain ⟨t,ht,rfl⟩:=zc6 hb
  simp [geH] at h1 h2 ⊢
  exact plc_inj hs ht (by lia)
 ·intro a b c ha hb hc h1 h2
  obtain ⟨s,hs,rfl⟩:=zc6 ha;obtain ⟨t,ht,rfl⟩:=zc6 hb;obtain ⟨u,hu,rfl⟩:=zc6 hc
  simp [geH] at h1 h2 ⊢;lia
 ·intro a b ha hb
  obtain ⟨s,hs,rfl⟩:=zc6 ha;obtain ⟨t,ht,rfl⟩:=zc6 hb
  simp [geH];lia
 ·intro a b ha hb
  obtain ⟨s,hs,rfl⟩:=zc6 ha;obtain ⟨t,ht,rfl⟩:=zc6 hb
  rw [jnH] <;> simp
theorem zh8 {ns a} (h:isH (.set ns) a=true):∃ ts,a=.tup ts∧ts=(ns.filter fun n=>decide (PV.str n∈ts)).map .str:=by
 cases a with
 | tup ts=>rw [isH] at h;exact ⟨ts,rfl,of_decide_eq_true h⟩
 | _=>simp [isH] at h
theorem zB4 {ns:List Nm} {ts:List PV} (h:ts=(ns.filter fun n=>decide (PV.str n∈ts)).map .str) {x:PV} (hx:x∈ts):∃ n∈ns,x=.str n:=by
 rw [h] at hx
 obtain ⟨n,hn,rfl⟩:=List.mem_map.mp hx
 exact ⟨n,(List.mem_filter.mp hn).1,rfl⟩
theorem zf1 {ns:List Nm} {a b:List PV}:geH (.set ns) (.tup a) (.tup b)=true↔∀ x∈b,x∈a:=by
 rw [geH];simp
theorem po_set {ns}:PO (.set ns):=by
 constructor
 ·intro a ha;obtain ⟨ts,rfl,_⟩:=zh8 ha
  exact zf1.mpr fun x h=>h
 ·intro a b ha hb h1 h2
  obtain ⟨ts,rfl,h⟩:=zh8 ha;obtain ⟨us,rfl,g⟩:=zh8 hb
  have h1:=zf1.mp h1
  have h2:=zf1.mp h2
  congr 1
  rw [h,g]
  congr 1
  apply List.filter_congr
  intro n _
  rw [decide_eq_decide]
  exact ⟨h2 _,h1 _⟩
 ·intro a b c ha hb hc h1 h2
  obtain ⟨ts,rfl,_⟩:=zh8 ha;obtain ⟨us,rfl,_⟩:=zh8 hb;obtain ⟨vs,rfl,_⟩:=zh8 hc
  exact zf1.mpr fun x hx=>zf1.mp h1 x (zf1.mp h2 x hx)
 ·intro a b ha hb
  obtain ⟨ts,rfl,h⟩:=zh8 ha;obtain ⟨us,rfl,g⟩:=zh8 hb
  rw [jnH_set]
  refine ⟨?_,zf1.mpr fun x hx=>?_,zf1.mpr fun x hx=>?_,fun c hc h1 h2=>?_⟩
  ·rw [isH];apply decide_eq_true
   congr 1
   apply List.filter_congr
   intro n hn
   rw [Bool.eq_iff_iff]
   simp [hn]
  ·obtain ⟨n,hn,rfl⟩:=zB4 h hx
   exact List.mem_map.mpr ⟨n,List.mem_filter.mpr ⟨hn,by simp [hx]⟩,rfl⟩
  ·obtain ⟨n,hn,rfl⟩:=zB4 g hx
   exact List.mem_map.mpr ⟨n,List.mem_filter.mpr ⟨hn,by simp [hx]⟩,rfl⟩
  ·obtain ⟨vs,rfl,_⟩:=zh8 hc
   refine zf1.mpr fun x hx=>?_
   obtain ⟨n,hn,rfl⟩:=List.mem_map.mp hx
   have:=(List.mem_filter.mp hn).2
   simp at this
   rcases this with q | q
   ·exact zf1.mp h1 _ q
   ·exact zf1.mp h2 _ q
theorem zP6 {ns ps a b c} (hl:ps.length≤50):lowOver ns ps a b c=true↔Reach ps a c∧Reach ps b c∧∀ d∈ns,Reach ps a d→Reach ps b d→Reach ps c d:=by
 unfold lowOver
 simp only [Bool.and_eq_true,decide_eq_true_eq,List.all_eq_true,zk6 hl,Bool.or_eq_true,Bool.not_eq_true',Bool.and_eq_false_iff,decide_eq_false_iff_not]
 constructor
 ·rintro ⟨⟨h1,h2⟩,h3⟩
  refine ⟨h1,h2,fun d hd g1 g2=>?_⟩
  rcases h3 d hd with (h | h) | h
  ·exact absurd g1 h
  ·exact absurd g2 h
  ·exact h
 ·rintro ⟨h1,h2,h3⟩
  refine ⟨⟨h1,h2⟩,fun d hd=>?_⟩
  by_cases g1:Reach ps a d
  ·by_cases g2:Reach ps b d
   ·exact .inr (h3 d hd g1 g2)
   ·exact .inl (.inr g2)
  ·exact .inl (.inl g1)
theorem wjn_spec {ns ps a b} (h:okWeb ns ps) (ha:a∈ns) (hb:b∈ns):wjn ns ps a b∈ns∧Reach ps a (wjn ns ps a b)∧Reach ps b (wjn ns ps a b)∧∀ d∈ns,Reach ps a d→Reach ps b d→Reach ps (wjn ns ps a b) d:=by
 have hl:ps.length≤50:=by have:=(zh2 h).1;lia
 obtain ⟨c,hc,h1,h2,h3⟩:=(zG4 h).join a ha b hb
 have e:ns.filter (lowOver ns ps a b)=[c]:=zw6 h.1.1 hc fun n hn=>by
  rw [zP6 hl]
  constructor
  ·rintro ⟨g1,g2,g3⟩
   exact (zG4 h).anti n hn c hc (g3 c hc h1 h2) (h3 n hn g1 g2)
  ·rintro rfl;exact ⟨h1,h2,h3⟩
 have:wjn ns ps a b=c:=by unfold wjn;rw [e];rfl
 rw [this]
 exact ⟨hc,h1,h2,h3⟩
theorem po_web {ns ps} (h:okWeb ns ps):PO (.web ns ps):=by
 have hl:ps.length≤50:=by have:=(zh2 h).1;lia
 have ge:∀ a b,geH (.web ns ps) (.str a) (.str b)=true↔Reach ps b a:=fun a b=>by rw [zC2,decide_eq_true_eq,zk6 hl]
 constructor
 ·intro a ha;obtain ⟨s,_,rfl⟩:=zg6 ha;rw [ge];exact .refl _
 ·intro a b ha hb h1 h2
  obtain ⟨s,hs,rfl⟩:=zg6 ha;obtain ⟨t,ht,rfl⟩:=zg6 hb
  rw [ge] at h1 h2
  rw [(zG4 h).anti s hs t ht h2 h1]
 ·intro a b c ha hb hc h1 h2
  obtain ⟨s,hs,rfl⟩:=zg6 ha;obtain ⟨t,ht,rfl⟩:=zg6 hb;obtain ⟨u,hu,rfl⟩:=zg6 hc
  rw [ge] at h1 h2 ⊢
  exact h2.trans h1
 ·intro a b ha hb
  obtain ⟨s,hs,rfl⟩:=zg6 ha;obtain ⟨t,ht,rfl⟩:=zg6 hb
  obtain ⟨q1,q2,q3,q4⟩:=wjn_spec h hs ht
  rw [jnH_web,ge,ge]
  refine ⟨by rw [isH];exact decide_eq_true q1,q2,q3,fun c hc h1 h2=>?_⟩
  obtain ⟨u,hu,rfl⟩:=zg6 hc
  rw [ge] at h1 h2 ⊢
  exact q4 u hu h1 h2
open OR
mutual
noncomputable def nb:PV→Bool
 | .bl _=>false
 | .tup xs=>nbs xs
 | .lst xs=>nbs xs
 | _=>true
noncomputable def nbs:List PV→Bool
 | []=>true
 | x::r=>nb x&&nbs r
end
noncomputable def mtH:Ord→PV→PV→PV
 | .set ns,a,b=>jTup (fun a b=>(ns.filter fun n=>decide (PV.str n∈a)&&decide (PV.str n∈b)).map .str) a b
 | .num,a,b=>if geH .num a b=true then b else a
 | .low,a,b=>if geH .low a b=true then b else a
 | .chain ns,a,b=>if geH (.chain ns) a b=true then b else a
 | .web _ _,a,_=>a
 | .row _,a,_=>a
 | .newer _,a,_=>a
structure MT (o:Ord) (a b m:PV):Prop where
 is:isH o m=true
 one:geH o a m=true
 two:geH o b m=true
 all:∀ c,isH o c=true→(geH o a c&&geH o b c)=geH o m c
theorem zI4 {o} (P:PO o) {a b} (ha:isH o a=true) (hb:isH o b=true) (tot:geH o a b=true∨geH o b a=true):MT o a b (if geH o a b=true then b else a):=by
 by_cases h:geH o a b=true
 ·rw [if_pos h]
  refine ⟨hb,h,P.refl _ hb,fun c hc=>?_⟩
  cases e:geH o b c with
  | false=>exact Bool.and_false _
  | true=>rw [P.trans a b c ha hb hc h e];rfl
 ·rw [if_neg h]
  have h':=tot.resolve_left h
  refine ⟨ha,P.refl _ ha,h',fun c hc=>?_⟩
  cases e:geH o a c with
  | false=>rfl
  | true=>rw [P.trans b a c hb ha hc h' e];rfl
theorem mt_set {ns} (P:PO (.set ns)) {a b} (ha:isH (.set ns) a=true) (hb:isH (.set ns) b=true):MT (.set ns) a b (mtH (.set ns) a b):=by
 obtain ⟨ts,rfl,h⟩:=zh8 ha;obtain ⟨us,rfl,g⟩:=zh8 hb
 have e:mtH (.set ns) (.tup ts) (.tup us)=.tup ((ns.filter fun n=>decide (PV.str n∈ts)&&decide (PV.str n∈us)).map .str):=by rw [mtH];rfl
 have mem:∀ x,x∈((ns.filter fun n=>decide (PV.str n∈ts)&&decide (PV.str n∈us)).map PV.str)↔x∈ts∧x∈us:=fun x=>by
  constructor
  ·intro hx
   obtain ⟨n,hn,rfl⟩:=List.mem_map.mp hx
   simpa using (List.mem_filter.mp hn).2
  ·rintro ⟨h1,h2⟩
   obtain ⟨n,hn,rfl⟩:=zB4 h h1
   exact List.mem_map.mpr ⟨n,List.mem_filter.mpr ⟨hn,by simp [h1,h2]⟩,rfl⟩
 rw [e]
 refine ⟨?_,zf1.mpr fun x hx=>((mem x).mp hx).1,zf1.mpr fun x hx=>((mem x).mp hx).2,fun c hc=>?_⟩
 ·rw [isH];apply decide_eq_true
  congr 1
  apply List.filter_congr
  intro n hn
  rw [Bool.eq_iff_iff]
  simp [hn]
 ·obtain ⟨vs,rfl,_⟩:=zh8 hc
  rw [Bool.eq_iff_iff,Bool.and_eq_true,zf1,zf1,zf1]
  exact ⟨fun ⟨h1,h2⟩ x hx=>(mem x).mpr ⟨h1 x hx,h2 x hx⟩,fun h1=>⟨fun x hx=>((mem x).mp (h1 x hx)).1,fun x hx=>((mem x).mp (h1 x hx)).2⟩⟩
noncomputable def meets:Ord→Bool
 | .num=>true
 | .low=>true
 | .chain _=>true
 | .set _=>true
 | .web _ _=>false
 | .row _=>false
 | .newer _=>false
theorem mt {o} (ho:ok o) (hm:meets o=true) {a b} (ha:isH o a=true) (hb:isH o b=true):MT o a b (mtH o a b):=by
 cases o with
 | num =>
  rw [mtH]
  refine zI4 po_num ha hb ?_
  obtain ⟨i,rfl,_⟩:=zf8 ha;obtain ⟨j,rfl,_⟩:=zf8 hb
  simp [geH];lia
 | low =>
  rw [mtH]
  refine zI4 po_low ha hb ?_
  rcases zf0 ha with rfl | ⟨i,rfl,_⟩ <;> rcases zf0 hb with rfl | ⟨j,rfl,_⟩ <;> simp [geH]
  lia
 | chain ns =>
  rw [mtH]
  refine zI4 zT7 ha hb ?_
  obtain ⟨s,hs,rfl⟩:=zc6 ha;obtain ⟨t,ht,rfl⟩:=zc6 hb
  simp [geH];lia
 | set ns=>exact mt_set po_set ha hb
 | web _ _=>cases hm
 | row _=>cases hm
 | newer _=>cases hm
noncomputable def lowerW (ns:List Nm) (ps:List (Nm×Nm)) (h:Nm):List Nm:=ns.filter fun n=>decide (n∉nov ps h)
@[simp] noncomputable def ofInt (f:Int→List PV):PV→List PV
 | .int i=>f i
 | _=>[]
@[simp] noncomputable def ofStr (f:Nm→List PV):PV→List PV
 | .str i=>f i
 | _=>[]
@[simp] noncomputable def ofTup (f:List PV→List PV):PV→List PV
 | .tup i=>f i
 | _=>[]
@[simp] noncomputable def ofOne (f:PV→List PV):List PV→List PV
 | [x]=>f x
 | _=>[]
noncomputable def blH:Ord→PV→List PV
 | .num,h=>ofInt (fun i=>if 0<i then [.int (i - 1)] else []) h
 | .low,h=>ofInt (fun i=>[.int (i+1)]) h
 | .chain ns,h=>ofStr (fun s=>if 0<plc ns s then [.str ((ns[(plc ns s - 1).toNat]?).getD [])] else []) h
 | .set ns,h=>ofTup (ofOne fun x=>[.tup ((ns.filter fun n=>!decide (PV.str n=x)).map .str)]) h
 | .web ns ps,h=>ofStr (fun h=>((lowerW ns ps h).filter fun n=>(lowerW ns ps h).all fun m=>decide (n∈nov ps m)).map .str) h
 | .row _,_=>[]
 | .newer _,_=>[]
theorem zA7 {i:Int}:blH .num (.int i)=if 0<i then [.int (i - 1)] else []:=rfl
theorem blH_non:blH .low .non=[]:=rfl
theorem zI6 {i:Int}:blH .low (.int i)=[.int (i+1)]:=rfl
theorem zv7 {ns:List Nm} {s:Nm}:blH (.chain ns) (.str s)=if 0<plc ns s then [.str ((ns[(plc ns s - 1).toNat]?).getD [])] else []:=rfl
theorem zO4 {ns:List Nm} {x:PV}:blH (.set ns) (.tup [x])=[.tup ((ns.filter fun n=>!decide (PV.str n=x)).map .str)]:=rfl
theorem blH_nil {ns:List Nm}:blH (.set ns) (.tup [])=[]:=rfl
theorem zG9 {ns:List Nm} {ps:List (Nm×Nm)} {h:Nm}:blH (.web ns ps) (.str h)=((lowerW ns ps h).filter fun n=>(lowerW ns ps h).all fun m=>decide (n∈nov ps m)).map .str:=rfl
theorem plc_at:∀ {ns:List Nm} {k:Nat} {s:Nm},ns.Nodup→ns[k]?=some s→plc ns s=k
 | [],k,s,_,h=>by simp at h
 | n::r,0,s,_,h=>by
  simp at h;subst h
  rw [zl2,if_pos rfl];rfl
 | n::r,k+1,s,nd,h=>by
  rw [List.nodup_cons] at nd
  have h:r[k]?=some s:=by simpa using h
  have ih:=plc_at nd.2 h
  have hs:s∈r:=List.mem_of_getElem? h
  have hne:n≠s:=fun e=>nd.1 (e▸hs)
  rw [zl2,if_neg hne,ih,if_neg (by lia)]
  lia
theorem zQ3 {s:Nm}:∀ {ns:List Nm},plc ns s<ns.length
 | []=>by simp [zO5]
 | n::r=>by
  have ih:=zQ3 (s:=s) (ns:=r)
  rw [zl2,List.length_cons]
  split
  ·lia
  ·split <;> lia
structure BL (o:Ord) (h b:PV):Prop where
 is:isH o b=true
 or:∀ x,isH o x=true→geH o x h = !geH o b x
theorem bl {o} (ho:ok o) {h b:PV} {r:List PV} (hh:isH o h=true) (e:blH o h=b::r):BL o h b:=by
 cases o with
 | num =>
  obtain ⟨i,rfl,hi⟩:=zf8 hh
  rw [zA7] at e
  by_cases c:0<i
  ·rw [if_pos c] at e
   cases e
   refine ⟨by simp [isH];lia,fun x hx=>?_⟩
   obtain ⟨j,rfl,_⟩:=zf8 hx
   simp only [geH,onInt]
   rw [Bool.eq_iff_iff];simp;lia
  ·rw [if_neg c] at e;cases e
 | low =>
  rcases zf0 hh with rfl | ⟨i,rfl,hi⟩
  ·cases e
  ·rw [zI6] at e
   cases e
   refine ⟨by simp [isH];lia,fun x hx=>?_⟩
   rcases zf0 hx with rfl | ⟨j,rfl,_⟩
   ·simp [geH]
   ·simp only [geH,geLow,onInt]
    rw [Bool.eq_iff_iff];simp;lia
 | chain ns =>
  rw [ok] at ho
  obtain ⟨s,hs,rfl⟩:=zc6 hh
  rw [zv7] at e
  by_cases c:0<plc ns s
  ·rw [if_pos c] at e
   have hl:=zQ3 (s:=s) (ns:=ns)
   have hk:(plc ns s - 1).toNat<ns.length:=by lia
   rw [List.getElem?_eq_getElem hk] at e
   cases e
   have hp:=plc_at ho.1.1 (List.getElem?_eq_getElem hk)
   refine ⟨by simp [isH],fun x hx=>?_⟩
   obtain ⟨t,ht,rfl⟩:=zc6 hx
   simp only [geH,onStr,Option.getD_some,hp]
   rw [Bool.eq_iff_iff];simp;lia
  ·rw [if_neg c] at e;cases e
 | set ns =>
  obtain ⟨ts,rfl,g⟩:=zh8 hh
  match ts,e with
  | [y],e =>
   rw [zO4] at e
   cases e
   obtain ⟨n0,hn0,rfl⟩:=zB4 g (x:=y) (by simp)
   refine ⟨?_,fun x hx=>?_⟩
   ·rw [isH];apply decide_eq_true
    congr 1
    apply List.filter_congr
    intro n hn
    rw [Bool.eq_iff_iff]
    simp [hn]
   ·obtain ⟨us,rfl,gu⟩:=zh8 hx
    rw [Bool.eq_iff_iff,zf1,Bool.not_eq_true',← Bool.not_eq_true,zf1]
    constructor
    ·intro h1 h2
     have:=h2 _ (h1 (.str n0) (by simp))
     simp at this
    ·intro h1 x hx
     have:x=.str n0:=by simpa using hx
     subst this
     by_cases q:PV.str n0∈us
     ·exact q
     ·refine absurd (fun z hz=>?_) h1
      obtain ⟨n,hn,rfl⟩:=zB4 gu hz
      exact List.mem_map.mpr ⟨n,List.mem_filter.mpr ⟨hn,by simp;rintro rfl;exact q hz⟩,rfl⟩
  | [],e=>cases e
  | _::_::_,e=>cases e
 | web ns ps =>
  rw [ok] at ho
  have hl:ps.length≤50:=by have:=(zh2 ho).1;lia
  obtain ⟨s,hs,rfl⟩:=zg6 hh
  rw [zG9] at e
  have hb:b∈((lowerW ns ps s).filter fun n=>(lowerW ns ps s).all fun m=>decide (n∈nov ps m)).map PV.str:=by rw [e];simp
  obtain ⟨n,hn,rfl⟩:=List.mem_map.mp hb
  obtain ⟨h1,h2⟩:=List.mem_filter.mp hn
  obtain ⟨h3,h4⟩:=List.mem_filter.mp h1
  rw [List.all_eq_true] at h2
  rw [decide_eq_true_eq,zk6 hl] at h4
  refine ⟨by simpa [isH] using h3,fun x hx=>?_⟩
  obtain ⟨t,ht,rfl⟩:=zg6 hx
  rw [Bool.eq_iff_iff,zC2,decide_eq_true_eq,zk6 hl,zC2,Bool.not_eq_true',decide_eq_false_iff_not,zk6 hl]
  constructor
  ·intro r1 r2;exact h4 (r1.trans r2)
  ·intro r1
   by_cases q:Reach ps s t
   ·exact q
   ·refine absurd ?_ r1
    have:=h2 t (List.mem_filter.mpr ⟨ht,by rw [decide_eq_true_eq,zk6 hl];exact q⟩)
    rwa [decide_eq_true_eq,zk6 hl] at this
 | row os=>cases e
 | newer o=>cases e
open OR
noncomputable def subs (ns:List Nm):List (List Nm):=ns.foldl (fun f n=>f++f.map (· ++ [n])) [[]]
theorem zB3 {ns:List Nm} {n:Nm}:subs (ns++[n])=subs ns++(subs ns).map (· ++ [n]):=by simp [subs]
theorem zT1 {ns:List Nm}:(subs ns).length=2 ^ ns.length:=by
 have:∀ r:List Nm,(subs r.reverse).length=2 ^ r.length:=by
  intro r
  induction r with
  | nil=>rfl
  | cons n r ih=>rw [List.reverse_cons,zB3,List.length_append,List.length_map,ih,List.length_cons,Nat.pow_succ];lia
 have h:=this ns.reverse
 rwa [List.reverse_reverse,List.length_reverse] at h
theorem zG8 {ns L:List Nm}:L∈subs ns↔L.Sublist ns:=by
 have:∀ (r L:List Nm),L∈subs r.reverse↔L.Sublist r.reverse:=by
  intro r
  induction r with
  | nil=>intro L;simp [subs]
  | cons n r ih =>
   intro L
   rw [List.reverse_cons,zB3,List.mem_append,List.mem_map,List.sublist_append_iff,ih]
   constructor
   ·rintro (h | ⟨M,h,rfl⟩)
    ·exact ⟨L,[],by simp,h,by simp⟩
    ·exact ⟨M,[n],rfl,(ih M).mp h,List.Sublist.refl _⟩
   ·rintro ⟨M,N,rfl,h1,h2⟩
    rcases List.sublist_cons_iff.mp h2 with h | ⟨r',e,h⟩
    ·have:N=[]:=by simpa using h
     subst this;rw [List.append_nil];exact Or.inl h1
    ·have:r'=[]:=by simpa using h
     subst this;subst e;exact Or.inr ⟨M,(ih M).mpr h1,rfl⟩
 have h:=this ns.reverse L
 rwa [List.reverse_reverse] at h
noncomputable def setPV (L:List Nm):PV:=.tup (L.map .str)
noncomputable def allH:Ord→List PV
 | .chain ns=>ns.map .str
 | .set ns=>(subs ns).map setPV
 | .web ns _=>ns.map .str
 | .num=>[]
 | .low=>[]
 | .row _=>[]
 | .newer _=>[]
noncomputable def rest (o:Ord) (h:PV):List PV:=(allH o).filter fun x=>!geH o x h
noncomputable def firsts (o:Ord) (h:PV):List PV:=(rest o h).filter fun a=>(rest o h).all fun b=>geH o a b
noncomputable def listed:Ord→Bool
 | .chain _=>true
 | .set _=>true
 | .web _ _=>true
 | .num=>false
 | .low=>false
 | .row _=>false
 | .newer _=>false
theorem zS2 {o} (ho:ok o) (hl:listed o=true) {x:PV}:x∈allH o↔isH o x=true:=by
 cases o with
 | chain ns=>rw [allH,List.mem_map];exact ⟨fun ⟨n,hn,e⟩=>e▸(by rw [isH];simpa using hn),fun h=>by obtain ⟨s,hs,rfl⟩:=zc6 h;exact ⟨s,hs,rfl⟩⟩
 | web ns ps=>rw [allH,List.mem_map];exact ⟨fun ⟨n,hn,e⟩=>e▸(by rw [isH];simpa using hn),fun h=>by obtain ⟨s,hs,rfl⟩:=zg6 h;exact ⟨s,hs,rfl⟩⟩
 | set ns =>
  rw [ok] at ho
  rw [allH,List.mem_map]
  constructor
  ·rintro ⟨L,hL,rfl⟩
   exact zI7 (zG8.mp hL) ho.1.1
  ·intro h
   obtain ⟨L,hL,rfl⟩:=zh6 h
   exact ⟨L,zG8.mpr hL,rfl⟩
 | _=>cases hl
theorem zl4 {o h} (ho:ok o) (hl:listed o=true) {x:PV}:x∈rest o h↔isH o x=true∧geH o x h=false:=by
 rw [rest,List.mem_filter,zS2 ho hl,Bool.not_eq_true']
theorem zl6 {o h} (ho:ok o) (hl:listed o=true) {x:PV}:x∈firsts o h↔x∈rest o h∧∀ y∈rest o h,geH o x y=true:=by
 rw [firsts,List.mem_filter,List.all_eq_true]
theorem zL5 {o} (ho:ok o) (hl:listed o=true):PO o:=by
 cases o with
 | chain ns=>exact zT7
 | set ns=>exact po_set
 | web ns ps=>rw [ok] at ho;exact po_web ho
 | _=>cases hl
theorem zE7 {o h} (ho:ok o) (hl:listed o=true) {x y:PV} (hx:x∈firsts o h) (hy:y∈firsts o h):x=y:=by
 obtain ⟨x1,x2⟩:=(zl6 ho hl).mp hx
 obtain ⟨y1,y2⟩:=(zl6 ho hl).mp hy
 exact (zL5 ho hl).anti x y ((zl4 ho hl).mp x1).1 ((zl4 ho hl).mp y1).1 (x2 y y1) (y2 x x1)
theorem zM6 {o h b} (ho:ok o) (hl:listed o=true) (K:BL o h b):(firsts o h).take 1=[b]:=by
 have P:=zL5 ho hl
 have hb:b∈firsts o h:=by
  refine (zl6 ho hl).mpr ⟨(zl4 ho hl).mpr ⟨K.is,?_⟩,fun x hx=>?_⟩
  ·rw [K.or b K.is,P.refl b K.is];rfl
  ·obtain ⟨h1,h2⟩:=(zl4 ho hl).mp hx
   rw [K.or x h1] at h2
   simpa using h2
 cases e:firsts o h with
 | nil=>rw [e] at hb;cases hb
 | cons x r =>
  have:x=b:=zE7 ho hl (by rw [e];simp) hb
  rw [this];rfl
theorem zv1 {o h} (ho:ok o) (hl:listed o=true) (hh:isH o h=true):(firsts o h).take 1=blH o h:=by
 have B:=fun b r=>bl (b:=b) (r:=r) ho hh
 have none:(∀ g,g∈firsts o h→False)→(firsts o h).take 1=[]:=fun k=>by
  cases e:firsts o h with
  | nil=>rfl
  | cons x r=>exact (k x (by rw [e];simp)).elim
 cases o with
 | chain ns =>
  obtain ⟨s,hs,rfl⟩:=zc6 hh
  rw [zv7] at B ⊢
  by_cases c:0<plc ns s
  ·rw [if_pos c] at B ⊢
   exact zM6 ho hl (B _ _ rfl)
  ·rw [if_neg c]
   refine none fun g hg=>?_
   obtain ⟨g1,g2⟩:=(zl4 ho hl).mp ((zl6 ho hl).mp hg).1
   obtain ⟨t,ht,rfl⟩:=zc6 g1
   have:=zt7.mpr ht
   simp only [geH,onStr,decide_eq_false_iff_not] at g2
   lia
 | set ns =>
  obtain ⟨L,hL,rfl⟩:=zh6 hh
  rw [ok] at ho
  have nd:=ho.1.1.sublist hL
  match L,hL,nd with
  | [x],hL,nd =>
   rw [List.map_cons,List.map_nil,zO4] at B ⊢
   exact zM6 (by rw [ok];exact ho) hl (B _ _ rfl)
  | [],hL,nd =>
   rw [List.map_nil,blH_nil]
   ·refine none fun g hg=>?_
    obtain ⟨g1,g2⟩:=(zl4 (by rw [ok];exact ho) hl).mp ((zl6 (by rw [ok];exact ho) hl).mp hg).1
    obtain ⟨M,hM,rfl⟩:=zh6 g1
    simp [geH] at g2
  | x::y::r,hL,nd =>
   have e:blH (.set ns) (.tup ((x::y::r).map .str))=[]:=rfl
   rw [e]
   refine none fun g hg=>?_
   have ho':ok (.set ns):=by rw [ok];exact ho
   obtain ⟨k1,k2⟩:=(zl6 ho' hl).mp hg
   obtain ⟨g1,g2⟩:=(zl4 ho' hl).mp k1
   obtain ⟨M,hM,rfl⟩:=zh6 g1
   have no:¬ ∀ n∈x::y::r,n∈M:=fun q=>by
    rw [← Bool.not_eq_true,zf1] at g2
    exact g2 fun z hz=>by
     obtain ⟨n,hn,rfl⟩:=List.mem_map.mp hz
     exact List.mem_map_of_mem (q n hn)
   have key:∀ u∈x::y::r,∀ v∈x::y::r,v≠u→v∈M:=by
    intro u hu v hv hne
    have hin:PV.tup ((ns.filter fun n=>!decide (n=u)).map .str)∈rest (.set ns) (.tup ((x::y::r).map .str)):=by
     refine (zl4 ho' hl).mpr ⟨zI7 List.filter_sublist ho.1.1,?_⟩
     rw [← Bool.not_eq_true,zf1]
     intro q
     have:=q (.str u) (List.mem_map_of_mem hu)
     simp at this
    have h3:=k2 _ hin
    rw [zf1] at h3
    have:=h3 (.str v) (by simp [hL.subset hv,hne])
    simpa using this
   have hxy:x≠y:=by
    rw [List.nodup_cons] at nd
    intro e;exact nd.1 (by simp [e])
   have hx:x∈M:=key y (by simp) x (by simp) hxy
   have hall:∀ n∈x::y::r,n∈M:=fun n hn=>by
    by_cases c:n=x
    ·subst c;exact hx
    ·exact key x (by simp) n hn c
   exact no hall
 | web ns ps =>
  obtain ⟨s,hs,rfl⟩:=zg6 hh
  rw [zG9]
  have hr:rest (.web ns ps) (.str s)=(lowerW ns ps s).map .str:=by
   rw [rest,allH,lowerW,List.filter_map]
   congr 1
   apply List.filter_congr
   intro n hn
   simp [zC2]
  have hf:firsts (.web ns ps) (.str s)=((lowerW ns ps s).filter fun n=>(lowerW ns ps s).all fun m=>decide (n∈nov ps m)).map .str:=by
   rw [firsts,hr,List.filter_map]
   congr 1
   apply List.filter_congr
   intro n hn
   rw [Function.comp,List.all_map]
   rfl
  have nd:(firsts (.web ns ps) (.str s)).Nodup:=by
   rw [hf]
   rw [ok] at ho
   have s1:(lowerW ns ps s).Sublist ns:=List.filter_sublist
   exact List.Pairwise.map _ (fun a b h e=>h (by simpa using e)) ((ho.1.1.sublist s1).sublist List.filter_sublist)
  rw [← hf]
  cases e:firsts (.web ns ps) (.str s) with
  | nil=>rfl
  | cons x r=>cases r with
   | nil=>rfl
   | cons y r =>
    have:x=y:=zE7 ho hl (by rw [e];simp) (by rw [e];simp)
    rw [e,List.nodup_cons] at nd
    exact absurd (by simp [this]) nd.1
 | _=>cases hl
theorem met_set {ns L M:List Nm} (hn:ns.Nodup) (hL:L.Sublist ns):(L.filter fun n=>decide (n∈M)).map PV.str=(ns.filter fun n=>decide (PV.str n∈L.map PV.str)&&decide (PV.str n∈M.map PV.str)).map .str:=by
 congr 1
 conv=>lhs;rw [← zE6 hL hn]
 rw [List.filter_filter]
 apply List.filter_congr
 intro n hn
 rw [Bool.eq_iff_iff]
 simp [and_comm]
theorem zH6 {W d:Nat} {wd:List Nat} {r:List PV} {a b:PV} {g:Bool} {st:Store} (h1:wd≠[115,101,116])
  (al:runF prog W (d+2) zF1 [.p (.tup (.str wd::r)),.p a,.p b] st=.ok (.p (.bl g)) st) :
  runF prog W (d+3) i_met [.p (.tup (.str wd::r)),.p a,.p b] st=.ok (.p (if g=true then b else a)) st:=by
 have h0:(0:Int)<(r.length:Int)+1:=by lia
 apply zb6
 rw [zb3 (fd:=f_met) rfl rfl,sat_bind];simp! only [f_met,b_met]
 apply za4
 simp! [ixAt,h0,pyEq,h1]
 apply za4
 cases g <;> simp! [al]
theorem met_eq {W d:Nat} (hW:60≤W) {o:Ord} (ho:ok o) (hm:meets o=true) {a b:PV} (st:Store) (ha:isH o a=true) (hb:isH o b=true) :
  runF prog W (d+3) i_met [.p (enc o),.p a,.p b] st=.ok (.p (mtH o a b)) st:=by
 cases o with
 | num =>
  have al:=zt0 (W:=W) hW .num ho (d+2) (by simp) a b st ha hb
  rw [zi8] at al ⊢
  rw [mtH]
  exact zH6 (by decide) al
 | low =>
  have al:=zt0 (W:=W) hW .low ho (d+2) (by simp) a b st ha hb
  rw [zj2] at al ⊢
  rw [mtH]
  exact zH6 (by decide) al
 | chain ns =>
  have al:=zt0 (W:=W) hW (.chain ns) ho (d+2) (by simp) a b st ha hb
  rw [zf3] at al ⊢
  rw [mtH]
  exact zH6 (by decide) al
 | set ns =>
  obtain ⟨L,hL,rfl⟩:=zh6 ha
  obtain ⟨M,hM,rfl⟩:=zh6 hb
  apply zb6
  rw [zi1]
  rw [zb3 (fd:=f_met) rfl rfl,sat_bind];simp! only [f_met,b_met]
  apply za4
  simp! [ixAt,pyEq]
  apply za4
  simp! [ixAt]
  rw [zd5 PV.str (fun n=>decide (PV.str n∈L.map PV.str)&&decide (PV.str n∈M.map PV.str)) PV.str (fun env=>∃ v,env=[some (.p (.tup (L.map .str))),some (.p (.tup (M.map .str))),v]) _ _ _ ⟨_,rfl⟩ ?g2]
  case g2 =>
   rintro n hn env ⟨v,rfl⟩
   refine ⟨_,rfl,⟨_,rfl⟩,?_,by simp! []⟩
   by_cases c1:n∈L
   ·simp! [zd7,ze7,c1]
   ·simp! [zd7,ze7,c1]
  rw [mtH]
  simp! [bfOp]
 | web _ _=>cases hm
 | row _=>cases hm
 | newer _=>cases hm
theorem blH_set {ns:List Nm} {L:List Nm}:blH (.set ns) (.tup (L.map .str))=if h:L.length=1 then [.tup ((ns.filter fun n=>!decide (n=L[0])).map .str)] else []:=by
 match L with
 | []=>rfl
 | [x]=>rw [List.map_cons,List.map_nil,zO4];simp
 | _::_::_=>rfl
theorem zA8 {W d:Nat} {ns L:List Nm} {st:Store} :
  runF prog W (d+1) zD7 [.p (.tup (ns.map .str)),.p (.tup (L.map .str))] st=.ok (.p (.tup (blH (.set ns) (.tup (L.map .str))))) st:=by
 apply zb6
 rw [blH_set]
 rw [zb3 (fd:=zo1) rfl rfl,sat_bind];simp! only [zo1,zn8]
 apply za4
 by_cases c:L.length=1
 ·obtain ⟨x,rfl⟩:∃ x,L=[x]:=by
   match L,c with
   | [x],_=>exact ⟨x,rfl⟩
  simp! [bfOp,pyEq]
  apply za4
  simp! []
  rw [zd5 PV.str (fun n=>!decide (n=x)) PV.str (fun env=>∃ v,env=[some (.p (.tup [.str x])),v]) _ _ _ ⟨_,rfl⟩ ?g2]
  case g2 =>
   rintro n hn env ⟨v,rfl⟩
   refine ⟨_,rfl,⟨_,rfl⟩,?_,by simp! []⟩
   simp! [ixAt,pyEq]
  simp! [bfOp]
 ·have c':¬ ((L.length:Int)=1):=by lia
  simp! [bfOp,pyEq,c,c']
  apply za4
  simp! []
theorem zB0 {W d:Nat} {ns:List Nm} {ps:List (Nm×Nm)} {h:Nm} {st:Store} (hW:60≤W) (hl:ps.length≤50) :
  runF prog W (d+2) zD6 [.p (.tup (ns.map .str)),.p (.tup (ps.map pairPV)),.p (.str h)] st=.ok (.p (.tup (blH (.web ns ps) (.str h)))) st:=by
 have n1:=fun n st=>zv6 (W:=W) (D:=d+1) (ps:=ps) (n:=n) (st:=st) hW (by lia) hl
 apply zb6
 rw [zG9]
 rw [zb3 (fd:=zn7) rfl rfl,sat_bind];simp! only [zn7,zo2]
 apply za4
 simp! [n1]
 apply za4
 simp! []
 rw [zd5 PV.str (fun n=>decide (n∉nov ps h)) PV.str (fun env=>∃ v,env=[some (.p (.lst ((nov ps h).map .str))),v]) _ _ _ ⟨_,rfl⟩ ?g2]
 case g2 =>
  rintro n hn env ⟨v,rfl⟩
  refine ⟨_,rfl,⟨_,rfl⟩,?_,by simp! []⟩
  simp! [zd7,ze7]
 simp! []
 apply za4
 simp! []
 have hlo':lowerW ns ps h=ns.filter fun n=>!decide (n∈nov ps h):=by simp [lowerW]
 generalize ns.filter (fun n=>!decide (n∈nov ps h))=lo at hlo' ⊢
 rw [hlo',zd5 PV.str (fun n=>lo.all fun m=>decide (n∈nov ps m)) PV.str (fun env=>∃ v,env=[some (.p (.tup (ps.map pairPV))),some (.p (.lst (lo.map .str))),v]) _ _ _ ⟨_,rfl⟩ ?g3]
 case g3 =>
  rintro n hn env ⟨v,rfl⟩
  refine ⟨_,rfl,⟨_,rfl⟩,?_,by simp! []⟩
  have hba:=zn4 (fun m:Nm=>decide (n∈nov ps m)) lo
  simp! []
  rw [zg8 PV.str (fun m=>.bl (decide (n∈nov ps m))) (fun env=>∃ v,env=[some (.p (.tup (ps.map pairPV))),some (.p (.str n)),v]) _ _ _ ⟨_,rfl⟩ ?g4]
  case g4 =>
   rintro m hm env ⟨v,rfl⟩
   refine ⟨_,rfl,⟨_,rfl⟩,?_⟩
   simp! [n1,zd7,ze7]
  generalize (lo.all fun m=>decide (n∈nov ps m))=r at hba ⊢
  simp! [bfOp,hba]
 simp! [bfOp]
theorem below_eq {W d:Nat} (hW:60≤W) {o:Ord} (ho:ok o) {h:PV} (st:Store) (hh:isH o h=true) :
  runF prog W (d+3) i_below [.p (enc o),.p h] st=.ok (.p (.tup (blH o h))) st:=by
 apply zb6
 cases o with
 | num =>
  obtain ⟨i,rfl,hi⟩:=zf8 hh
  rw [zi8,zA7]
  rw [zb3 (fd:=zj9) rfl rfl,sat_bind];simp! only [zj9,zp9]
  refine zb5 rfl ?_;dsimp! only
  refine zb8 rfl ?_
  apply za4
  by_cases c:0<i <;> simp! [c]
 | low =>
  rw [zj2]
  rw [zb3 (fd:=zj9) rfl rfl,sat_bind];simp! only [zj9,zp9]
  refine zb5 rfl ?_;dsimp! only
  refine za5 rfl ?_
  refine zb8 rfl ?_
  apply za4
  rcases zf0 hh with rfl | ⟨i,rfl,hi⟩
  ·simp! [blH_non]
  ·simp! [zI6]
 | chain ns =>
  rw [ok] at ho
  obtain ⟨s,hs,rfl⟩:=zc6 hh
  rw [zf3,zv7]
  have hp:=zt7.mpr hs
  have hl:=zQ3 (s:=s) (ns:=ns)
  rw [zb3 (fd:=zj9) rfl rfl,sat_bind];simp! only [zj9,zp9]
  refine zb5 rfl ?_;dsimp! only
  refine za5 rfl ?_
  refine za5 rfl ?_
  refine zb8 rfl ?_
  apply za4
  simp! [ixAt,zo9 hs]
  apply za4
  by_cases c:0<plc ns s
  ·obtain ⟨n,hn,hnm,hni⟩:=zH4 ns (plc ns s - 1) (by lia) (by lia)
   rw [show (plc ns s - 1).toNat=(plc ns s).toNat - 1 by lia] at hn
   have i21:ixAt 2 1=some 1:=by decide
   simp! [i21,c,hni,hn]
  ·simp! [c]
 | set ns =>
  obtain ⟨L,hL,rfl⟩:=zh6 hh
  rw [zi1]
  rw [zb3 (fd:=zj9) rfl rfl,sat_bind];simp! only [zj9,zp9]
  refine zb5 rfl ?_;dsimp! only
  refine za5 rfl ?_
  refine za5 rfl ?_
  refine za5 rfl ?_
  refine zb8 rfl ?_
  apply za4
  simp! [ixAt,zA8]
 | web ns ps =>
  rw [ok] at ho
  have hl:ps.length≤50:=by have:=(zh2 ho).1;lia
  obtain ⟨s,hs,rfl⟩:=zg6 hh
  have e:=zB0 (W:=W) (d:=d) (ns:=ns) (h:=s) (st:=st) hW hl
  rw [zo8]
  rw [zb3 (fd:=zj9) rfl rfl,sat_bind];simp! only [zj9,zp9]
  refine zb5 rfl ?_;dsimp! only
  refine za5 rfl ?_
  refine za5 rfl ?_
  refine za5 rfl ?_
  refine za5 rfl ?_
  refine zb8 rfl ?_
  apply za4
  simp! [ixAt,e]
 | row os =>
  have e:blH (.row os) h=[]:=rfl
  rw [zi9,e]
  rw [zb3 (fd:=zj9) rfl rfl,sat_bind];simp! only [zj9,zp9]
  refine zb5 rfl ?_;dsimp! only
  refine za5 rfl ?_
  refine za5 rfl ?_
  refine za5 rfl ?_
  refine za5 rfl ?_
  refine za5 rfl ?_
  apply za4
  simp! []
 | newer o =>
  have e:blH (.newer o) h=[]:=rfl
  rw [zf9,e]
  rw [zb3 (fd:=zj9) rfl rfl,sat_bind];simp! only [zj9,zp9]
  refine zb5 rfl ?_;dsimp! only
  refine za5 rfl ?_
  refine za5 rfl ?_
  refine za5 rfl ?_
  refine za5 rfl ?_
  refine za5 rfl ?_
  apply za4
  simp! []
noncomputable def ovF (ns:List Nm) (ps:List (Nm×Nm)) (n:Nm):List Nm:=ns.filter fun x=>decide (x∈ups ps ns.length [n])
noncomputable def ovD (ns:List Nm) (ps:List (Nm×Nm)) (ms:List Nm):PObj:=.dct (ms.map fun n=>(.str n,.lst ((ovF ns ps n).map .str)))
theorem zI8 {F:Nm→PV} {t:Nm}:∀ {ns:List Nm},t∈ns→dGet (.str t) (ns.map fun n=>(PV.str n,F n))=some (F t)
 | [],h=>by cases h
 | n::r,h=>by
  rw [List.map_cons,dGet]
  by_cases e:n=t
  ·subst e;simp
  ·rw [if_neg (by simpa using e)]
   refine zI8 ?_
   rcases List.mem_cons.mp h with h | h
   ·exact absurd h.symm e
   ·exact h
theorem dPut_new {F:Nm→PV} {t:Nm} {v:PV} {ns:List Nm} (h:t∉ns):dPut (.str t) v (ns.map fun n=>(PV.str n,F n))=(ns.map fun n=>(PV.str n,F n))++[(.str t,v)]:=by
 unfold dPut
 rw [if_neg]
 simp
 exact h
def OV1 (ns:List Nm) (ps:List (Nm×Nm)) (st:Store) (xs:List PV) (env:Env) (st':Store):Prop :=
 ∃ a b x2 x3 x4,ns=a++b∧xs=b.map .str∧env=[some (.p (.tup [.str [119,101,98],.tup (ns.map .str),.tup (ps.map pairPV)])),some (.ref st.length),x2,x3,x4]∧st'=st++[ovD ns ps a]
def OV2 (ns:List Nm) (ps:List (Nm×Nm)) (st:Store) (a:List Nm) (n:Nm) (xs:List PV) (env:Env) (st':Store):Prop :=
 ∃ f x4,xs.length≤ns.length∧f.length+9 * xs.length≤1+9 * ns.length∧ups ps xs.length f=ups ps ns.length [n]∧env=[some (.p (.tup [.str [119,101,98],.tup (ns.map .str),.tup (ps.map pairPV)])),some (.ref st.length),some (.p (.str n)),some (.p (.lst (f.map .str))),x4]∧st'=st++[ovD ns ps a]
theorem zV0 {W D:Nat} {ns:List Nm} {ps:List (Nm×Nm)} {st:Store} (hD:1≤D) (h:okWeb ns ps) :
  runF prog W D zP1 [.p (enc (.web ns ps))] st=.ok (.ref st.length) (st++[ovD ns ps ns]):=by
 obtain ⟨d,rfl⟩:∃ d,D=d+1:=⟨D - 1,by lia⟩
 obtain ⟨l9,n7,n2,hsub⟩:=zh2 h
 apply zb6
 rw [zo8]
 rw [zb3 (fd:=zu5) rfl rfl,sat_bind];simp! only [zu5,zt1]
 apply za4
 simp! []
 apply za4
 simp! [ixAt]
 refine (zo5 (OV1 ns ps st) _ _ _ ⟨[],ns,_,_,_,rfl,rfl,rfl,by simp [ovD]⟩ ?_).mono ?_
 ·rintro x r env st' ⟨a,b,x2,x3,x4,e1,e2,rfl,rfl⟩
  obtain ⟨n,b',rfl,rfl,rfl⟩:∃ n b',b=n::b'∧x=.str n∧r=b'.map .str:=by
   cases b with
   | nil=>cases e2
   | cons n b'=>cases e2;exact ⟨n,b',rfl,rfl,rfl⟩
  have hna:n∉a:=by
   intro hm
   have hnd:=h.1.1
   rw [e1,List.nodup_append] at hnd
   exact hnd.2.2 n hm n (by simp) rfl
  have hnn:n∈ns:=by rw [e1];simp
  refine ⟨_,rfl,?_⟩
  apply za4
  simp! []
  apply za4
  have z1:(ns.length:Int)≤(SZ:Int):=zu9 (by lia)
  have z2:(-1000000:Int)≤ns.length:=by lia
  simp! [ixAt,bfOp,z1,z2]
  refine (zo5 (OV2 ns ps st a n) _ _ _ ⟨[n],_,by simp,by simp,by simp,rfl,rfl⟩ ?_).mono ?_
  ·rintro y q env st' ⟨f,x4,hq,hf,hu,rfl,rfl⟩
   simp only [List.length_cons] at hq hf hu
   refine ⟨_,rfl,?_⟩
   apply za4
   simp! [ixAt]
   rw [zd5 pairPV (fun p=>decide (p.1∈f)&&decide (p.2∉f)) (fun p=>.str p.2) (fun env=>∃ v,env=[some (.p (.lst (f.map .str))),v]) _ _ _ ⟨_,rfl⟩ ?g1]
   case g1 =>
    rintro p hp env ⟨v,rfl⟩
    refine ⟨_,rfl,⟨_,rfl⟩,?_,?_⟩
    ·by_cases c1:p.1∈f
     ·simp! [pairPV,ixAt,zd7,ze7,c1]
     ·simp! [pairPV,ixAt,zd7,ze7,c1]
    ·intro _
     simp! [pairPV,ixAt]
   have hfl:(ps.filter fun p=>decide (p.1∈f)&&decide (p.2∉f)).length≤ps.length:=List.length_filter_le _ _
   have z3:f.length+(ps.filter fun p=>decide (p.1∈f)&&decide (p.2∉f)).length≤SZ:=zs7 (by lia)
   generalize hg:(ps.filter fun p=>decide (p.1∈f)&&decide (p.2∉f))=g at hfl z3
   simp! [z3]
   dsimp! only
   refine ⟨_,rfl,f++g.map Prod.snd,some (.p y),by lia,by simp;lia,?_,by simp,rfl⟩
   rw [ups] at hu
   rw [← hu]
   unfold upRow
   rw [hg]
  ·rintro _ st' ⟨env',rfl,f,x4,hq,hf,hu,rfl,rfl⟩
   have hfe:f=ups ps ns.length [n]:=hu
   apply za4
   simp! [ixAt]
   rw [zd5 PV.str (fun x=>decide (x∈ups ps ns.length [n])) PV.str (fun env=>∃ v,env=[some (.p (.lst (f.map .str))),v]) _ _ _ ⟨_,rfl⟩ ?g2]
   case g2 =>
    rintro x hx env ⟨v,rfl⟩
    refine ⟨_,rfl,⟨_,rfl⟩,?_,by simp! []⟩
    simp! [zd7,ze7,hfe]
   have hla:a.length<1000000:=by
    have:a.length≤ns.length:=by rw [e1];simp
    lia
   simp! [ovD,hla,dPut_new hna]
   dsimp! only
   refine ⟨_,rfl,a++[n],b',_,_,_,by simp [e1],rfl,rfl,?_⟩
   simp [ovD,ovF]
 ·rintro _ st' ⟨env',rfl,a,b,x2,x3,x4,e1,e2,rfl,rfl⟩
  have hb:b=[]:=by
   cases b with
   | nil=>rfl
   | cons _ _=>cases e2
  subst hb
  simp at e1
  subst e1
  apply za4
  simp! [trim]
theorem zP3 {ns ps n x} (h:okWeb ns ps) (hn:n∈ns):x∈ovF ns ps n↔x∈ns∧Reach ps n x:=by
 unfold ovF
 rw [List.mem_filter]
 have:=mem_ups (x:=x) (fun p hp=>((zh2 h).2.2.2 p hp).2) hn
 simp [this]
theorem zF9 {l:List Bool}:itemIn (.bl false) (l.map .bl) = !l.all id:=by
 induction l with
 | nil=>rfl
 | cons b r ih =>
  unfold itemIn at *
  rw [List.map_cons,List.any_cons,ih,List.all_cons]
  cases b <;> simp [pyEq]
theorem zk3 {W:Nat}:∀ o,ok o→∀ D,dpt o+1≤D→∀ a b st,isH o a=true→isH o b=true →
  runF prog W D zs8 [.p (enc o),.p a,.p b] st=.ok (.p (.bl (geH o a b))) st:=by
 have hd:∀ o:Ord,∀ D,dpt o+1≤D→∃ d,D=d+2:=fun o D h=>⟨D - 2,by have:=zu3 o;lia⟩
 refine zr3 ?_ ?_ ?_ ?_ ?_ ?_ ?_
 ·intro _ D hD a b st ha hb
  obtain ⟨d,rfl⟩:=hd _ D hD
  obtain ⟨i,rfl,hi⟩:=zf8 ha
  obtain ⟨j,rfl,hj⟩:=zf8 hb
  apply zb6
  rw [zi8]
  rw [zb3 (fd:=zc3) rfl rfl,sat_bind];simp! only [zc3,zf2]
  refine zb5 rfl ?_;dsimp! only
  refine zb8 rfl ?_
  apply za4
  simp! [geH]
 ·intro _ D hD a b st ha hb
  obtain ⟨d,rfl⟩:=hd _ D hD
  apply zb6
  rw [zj2]
  rw [zb3 (fd:=zc3) rfl rfl,sat_bind];simp! only [zc3,zf2]
  refine zb5 rfl ?_;dsimp! only
  refine za5 rfl ?_
  refine zb8 rfl ?_
  apply za4
  rcases zf0 ha with rfl | ⟨i,rfl,hi⟩
  ·rcases zf0 hb with rfl | ⟨j,rfl,hj⟩
   ·simp! [geH]
   ·simp! [geH]
  ·rcases zf0 hb with rfl | ⟨j,rfl,hj⟩
   ·simp! [geH]
   ·simp! [geH]
 ·intro ns _ D hD a b st ha hb
  obtain ⟨d,rfl⟩:=hd _ D hD
  obtain ⟨s,hs,rfl⟩:=zc6 ha
  obtain ⟨t,ht,rfl⟩:=zc6 hb
  apply zb6
  rw [zf3]
  rw [zb3 (fd:=zc3) rfl rfl,sat_bind];simp! only [zc3,zf2]
  refine zb5 rfl ?_;dsimp! only
  refine za5 rfl ?_
  refine za5 rfl ?_
  refine zb8 rfl ?_
  apply za4
  simp! [ixAt,bfOp,zo9 hs,zo9 ht,geH]
 ·intro ns hok D hD a b st ha hb
  obtain ⟨d,rfl⟩:=hd _ D hD
  obtain ⟨L,hL,rfl⟩:=zh6 ha
  obtain ⟨M,hM,rfl⟩:=zh6 hb
  apply zb6
  rw [zi1]
  rw [zb3 (fd:=zc3) rfl rfl,sat_bind];simp! only [zc3,zf2]
  refine zb5 rfl ?_;dsimp! only
  refine za5 rfl ?_
  refine za5 rfl ?_
  refine za5 rfl ?_
  refine zb8 rfl ?_
  apply za4
  simp! []
  rw [zd5 PV.str (fun n=>decide (n∉L)) PV.str (fun env=>∃ v,env=[some (.p (.tup (L.map .str))),v]) _ _ _ ⟨_,rfl⟩ ?g1]
  case g1 =>
   rintro n hn env ⟨v,rfl⟩
   refine ⟨_,rfl,⟨_,rfl⟩,?_,by simp! []⟩
   simp! [zF7]
  have hge:geH (.set ns) (.tup (L.map .str)) (.tup (M.map .str))=decide ((M.filter fun n=>decide (n∉L))=[]):=by
   rw [geH_set,List.all_map,Bool.eq_iff_iff]
   simp
  rw [hge]
  have d11:∀ k,depOk (k+1) 1=true:=fun k=>by simp [depOk]
  have d12:depOk 1 1=true:=by decide
  cases hF:(M.filter fun n=>decide (n∉L)) with
  | nil=>simp! [pyEq,pyEqs,d12]
  | cons x r=>simp! [pyEq,pyEqs,d11]
 ·intro ns ps hok D hD a b st ha hb
  rw [ok] at hok
  obtain ⟨d,rfl⟩:=hd _ D hD
  obtain ⟨s,hs,rfl⟩:=zg6 ha
  obtain ⟨t,ht,rfl⟩:=zg6 hb
  have hl:=(zh2 hok).1
  have hov:=zV0 (W:=W) (D:=d+1) (st:=st) (by lia) hok
  have hge:geH (.web ns ps) (.str s) (.str t)=decide (s∈ovF ns ps t):=by
   rw [zC2,Bool.eq_iff_iff]
   simp only [decide_eq_true_eq]
   rw [zk6 (by lia),zP3 hok ht]
   simp [hs]
  rw [hge]
  apply zb6
  rw [zo8] at hov ⊢
  rw [zb3 (fd:=zc3) rfl rfl,sat_bind];simp! only [zc3,zf2]
  refine zb5 rfl ?_;dsimp! only
  refine za5 rfl ?_
  refine za5 rfl ?_
  refine za5 rfl ?_
  refine za5 rfl ?_
  refine zb8 rfl ?_
  apply za4
  simp! [hov,ovD,zI8 ht,zd7,ze7]
 ·intro os ih hok D hD a b st ha hb
  rw [zq3] at hok
  rw [zn6] at hD
  obtain ⟨d,rfl⟩:∃ d,D=d+2:=⟨D - 2,by lia⟩
  obtain ⟨as,rfl,hA⟩:=zu2 ha
  obtain ⟨bs,rfl,hB⟩:=zu2 hb
  have la:=zu7 hA
  have lb:=zu7 hB
  apply zb6
  rw [zi9]
  rw [zb3 (fd:=zc3) rfl rfl,sat_bind];simp! only [zc3,zf2]
  refine zb5 rfl ?_;dsimp! only
  refine za5 rfl ?_
  refine za5 rfl ?_
  refine za5 rfl ?_
  refine za5 rfl ?_
  refine za5 rfl ?_
  refine za5 rfl ?_
  apply za4
  have z1:(os.length:Int)≤(SZ:Int):=zu9 (by lia)
  have z2:(-1000000:Int)≤os.length:=by lia
  simp! [bfOp,ixAt,z1,z2]
  rw [zg8 (fun k:Nat=>PV.int k) (fun k=>.bl (if h:k<os.length then geH os[k] (as[k]'(la▸h)) (bs[k]'(lb▸h)) else false)) (fun env=>∃ v,env=[some (.p (PV.tup [PV.str [114,111,119],PV.tup (List.map enc os)])),some (.p (.tup as)),some (.p (.tup bs)),v]) _ _ _ ⟨_,rfl⟩ ?g1]
  case g1 =>
   rintro k hk env ⟨v,rfl⟩
   have hko:k<os.length:=List.mem_range.mp hk
   have hka:k<as.length:=by lia
   have hkb:k<bs.length:=by lia
   have hm:os[k]∈os:=List.getElem_mem _
   refine ⟨_,rfl,⟨_,rfl⟩,?_⟩
   have hdm:=zq1 hm
   have hx:isH os[k] as[k]=true:=isHs_at hA hko hka
   have hy:isH os[k] bs[k]=true:=isHs_at hB hko hkb
   have ihk:=ih _ hm (hok.2.2 _ hm) (d+1) (by lia) as[k] bs[k] st hx hy
   simp! [ixAt,hko,hka,hkb,ihk]
  simp! []
  rw [show (List.map (fun k=>PV.bl (if h:k<os.length then geH os[k] (as[k]'(la▸h)) (bs[k]'(lb▸h)) else false)) (List.range os.length))=((List.range os.length).map fun k=>(if h:k<os.length then geH os[k] (as[k]'(la▸h)) (bs[k]'(lb▸h)) else false)).map .bl by rw [List.map_map];rfl,zF9,geH_row,zG7]
  congr 1
  rw [show ((List.range os.length).map fun k=>(if h:k<os.length then geH os[k] (as[k]'(la▸h)) (bs[k]'(lb▸h)) else false))=(os.zip (as.zip bs)).map fun p=>geH p.1 p.2.1 p.2.2 by
   refine List.ext_getElem (by simp;lia) fun k h1 h2=>?_
   have:k<os.length:=by simpa using h1
   simp [this]]
  rw [List.all_map];rfl
 ·intro o ih hok D hD a b st ha hb
  rw [zj8] at hok
  rw [zj7] at hD
  obtain ⟨d,rfl⟩:∃ d,D=d+2:=⟨D - 2,by lia⟩
  obtain ⟨i,h,rfl,hi,hh⟩:=zm6 ha
  obtain ⟨j,k,rfl,hj,hk⟩:=zm6 hb
  have ihk:=ih hok (d+1) (by lia) h k st hh hk
  apply zb6
  rw [zf9]
  rw [zb3 (fd:=zc3) rfl rfl,sat_bind];simp! only [zc3,zf2]
  refine zb5 rfl ?_;dsimp! only
  refine za5 rfl ?_
  refine za5 rfl ?_
  refine za5 rfl ?_
  refine za5 rfl ?_
  refine za5 rfl ?_
  refine zb8 rfl ?_
  apply za4
  by_cases c2:i=j
  ·subst c2
   simp! [ixAt,pyEq]
   apply za4
   simp! [ixAt,ihk,geH]
  ·simp! [ixAt,c2,pyEq]
   apply za4
   simp! [ixAt,geH,c2]
theorem zN7 {W:Nat}:∀ o,ok o→∀ D,dpt o+1≤D→∀ st,runF prog W D zO7 [.p (enc o)] st=.ok (.p (lst o)) st:=by
 have hd:∀ o:Ord,∀ D,dpt o+1≤D→∃ d,D=d+2:=fun o D h=>⟨D - 2,by have:=zu3 o;lia⟩
 refine zr3 ?_ ?_ ?_ ?_ ?_ ?_ ?_
 ·intro _ D hD st
  obtain ⟨d,rfl⟩:=hd _ D hD
  apply zb6
  rw [zi8]
  rw [zb3 (fd:=zd6) rfl rfl,sat_bind];simp! only [zd6,zi4]
  refine zb5 rfl ?_;dsimp! only
  refine za5 rfl ?_
  refine za5 rfl ?_
  refine za5 rfl ?_
  apply za4
  simp! [ixAt,dPut,dGet,lst]
 ·intro _ D hD st
  obtain ⟨d,rfl⟩:=hd _ D hD
  apply zb6
  rw [zj2]
  rw [zb3 (fd:=zd6) rfl rfl,sat_bind];simp! only [zd6,zi4]
  refine zb5 rfl ?_;dsimp! only
  refine za5 rfl ?_
  refine za5 rfl ?_
  refine za5 rfl ?_
  apply za4
  simp! [ixAt,dPut,dGet,lst]
 ·intro ns hok D hD st
  rw [ok] at hok
  obtain ⟨d,rfl⟩:=hd _ D hD
  apply zb6
  rw [zf3]
  rw [zb3 (fd:=zd6) rfl rfl,sat_bind];simp! only [zd6,zi4]
  refine zb5 rfl ?_;dsimp! only
  refine za5 rfl ?_
  refine za5 rfl ?_
  refine za5 rfl ?_
  apply za4
  cases ns with
  | nil=>simp at hok
  | cons n r =>
   have h0:(0:Int)<(r.length:Int)+1:=by lia
   simp! [ixAt,dPut,dGet,lst,h0]
 ·intro ns hok D hD st
  rw [ok] at hok
  obtain ⟨d,rfl⟩:=hd _ D hD
  apply zb6
  rw [zi1]
  rw [zb3 (fd:=zd6) rfl rfl,sat_bind];simp! only [zd6,zi4]
  refine zb5 rfl ?_;dsimp! only
  refine za5 rfl ?_
  refine za5 rfl ?_
  refine za5 rfl ?_
  apply za4
  cases ns with
  | nil=>simp at hok
  | cons n r =>
   have h0:(0:Int)<(r.length:Int)+1:=by lia
   simp! [ixAt,dPut,dGet,lst,h0]
 ·intro ns ps hok D hD st
  rw [ok] at hok
  obtain ⟨d,rfl⟩:=hd _ D hD
  obtain ⟨c0,hc⟩:=zM2 hok
  obtain ⟨hw1,hw2⟩:=hc.wl hok.1.1
  have hov:=zV0 (W:=W) (D:=d+1) (st:=st) (by lia) hok
  have hfil:(ns.filter fun n=>decide ((ovF ns ps n).length=ns.length))=[c0]:=zw6 hok.1.1 hc.mem fun n hn=>by
   rw [decide_eq_true_eq,← hc.least_iff hn]
   constructor
   ·intro hl x hx
    have hs:ovF ns ps n=ns:=List.filter_sublist.eq_of_length hl
    exact ((zP3 hok hn).mp (by rw [hs];exact hx)).2
   ·intro hall
    have:ovF ns ps n=ns:=by
     unfold ovF
     rw [List.filter_eq_self]
     intro x hx
     have:=(zP3 hok hn).mpr ⟨hx,hall x hx⟩
     unfold ovF at this
     exact (List.mem_filter.mp this).2
    rw [this]
  apply zb6
  rw [zo8] at hov ⊢
  rw [zb3 (fd:=zd6) rfl rfl,sat_bind];simp! only [zd6,zi4]
  refine zb5 rfl ?_;dsimp! only
  refine zb8 rfl ?_
  apply za4
  simp! [hov]
  apply za4
  simp! [ixAt]
  rw [zd5 PV.str (fun n=>decide ((ovF ns ps n).length=ns.length)) PV.str (fun env=>∃ v,env=[some (.p (.tup [.str [119,101,98],.tup (ns.map .str),.tup (ps.map pairPV)])),some (.ref st.length),v]) _ _ _ ⟨_,rfl⟩ ?g1]
  case g1 =>
   rintro n hn env ⟨v,rfl⟩
   refine ⟨_,rfl,⟨_,rfl⟩,?_,by simp! []⟩
   simp! [ixAt,ovD,zI8 hn,bfOp,pyEq]
   lia
  rw [hfil]
  simp! [ixAt]
  rw [lst,hw1]
 ·intro os ih hok D hD st
  rw [zq3] at hok
  rw [zn6] at hD
  obtain ⟨d,rfl⟩:∃ d,D=d+2:=⟨D - 2,by lia⟩
  apply zb6
  rw [zi9]
  rw [zb3 (fd:=zd6) rfl rfl,sat_bind];simp! only [zd6,zi4]
  refine zb5 rfl ?_;dsimp! only
  refine za5 rfl ?_
  refine za5 rfl ?_
  refine zb8 rfl ?_
  apply za4
  simp! [ixAt]
  rw [zg8 enc lst (fun env=>∃ v,env=[v]) _ _ _ ⟨_,rfl⟩ ?g1]
  case g1 =>
   rintro o ho env ⟨v,rfl⟩
   refine ⟨_,rfl,⟨_,rfl⟩,?_⟩
   have:=zq1 ho
   simp! [ih o ho (hok.2.2 o ho) (d+1) (by lia) st]
  simp! [bfOp]
  rw [lst,zD3]
 ·intro o ih hok D hD st
  rw [zj8] at hok
  rw [zj7] at hD
  obtain ⟨d,rfl⟩:∃ d,D=d+2:=⟨D - 2,by lia⟩
  apply zb6
  rw [zf9]
  rw [zb3 (fd:=zd6) rfl rfl,sat_bind];simp! only [zd6,zi4]
  refine zb5 rfl ?_;dsimp! only
  refine za5 rfl ?_
  refine zb8 rfl ?_
  apply za4
  simp! [ixAt,ih hok (d+1) (by lia) st]
  rw [lst]
theorem zp2:∀ o,ok o→∀ h,isH o h=true→dep h≤dep (enc o)∧wt h≤5 * wt (enc o):=by
 refine zr3 ?_ ?_ ?_ ?_ ?_ ?_ ?_
 ·intro _ h hh
  obtain ⟨i,rfl,_⟩:=zf8 hh
  rw [zi8];simp
 ·intro _ h hh
  rcases zf0 hh with rfl | ⟨i,rfl,_⟩ <;> (rw [zj2];simp)
 ·intro ns hok h hh
  obtain ⟨s,hs,rfl⟩:=zc6 hh
  have b:=zJ4 (List.mem_map_of_mem (f:=PV.str) hs)
  rw [zf3];simp at b ⊢;lia
 ·intro ns hok h hh
  obtain ⟨L,hL,rfl⟩:=zh6 hh
  have b:=wts_sub (hL.map PV.str)
  rw [zi1];simp [ze7];lia
 ·intro ns ps hok h hh
  obtain ⟨s,hs,rfl⟩:=zg6 hh
  have b:=zJ4 (List.mem_map_of_mem (f:=PV.str) hs)
  rw [zo0];simp at b ⊢;lia
 ·intro os ih hok h hh
  rw [zq3] at hok
  obtain ⟨ts,rfl,ht⟩:=zu2 hh
  rw [zi9]
  have key:∀ (os:List Ord) (ts:List PV),isHs os ts=true→(∀ o∈os,∀ h,isH o h=true→dep h≤dep (enc o)∧wt h≤5 * wt (enc o))→deps ts≤deps (os.map enc)∧wts ts≤5 * wts (os.map enc):=by
   intro os
   induction os with
   | nil =>
    intro ts ht _
    cases ts with
    | nil=>simp
    | cons _ _=>simp [isHs] at ht
   | cons o r ih2 =>
    intro ts ht hall
    cases ts with
    | nil=>simp [isHs] at ht
    | cons t ts =>
     rw [isHs,Bool.and_eq_true] at ht
     have h1:=hall o (by simp) t ht.1
     have h2:=ih2 ts ht.2 fun o ho=>hall o (List.mem_cons_of_mem _ ho)
     simp;lia
  have:=key os ts ht fun o ho h hh=>ih o ho (hok.2.2 o ho) h hh
  simp;lia
 ·intro o ih hok h hh
  rw [zj8] at hok
  obtain ⟨i,k,rfl,_,hk⟩:=zm6 hh
  have:=ih hok k hk
  rw [zf9];simp;lia
theorem zR2:∀ {os ts:List _} {k:Nat} {o:Ord} {x:PV},isHs os ts=true→os[k]?=some o→isH o x=true→isHs os (ts.take k++x::ts.drop (k+1))=true
 | [],_,_,_,_,_,h,_=>by simp at h
 | _::_,[],_,_,_,h,_,_=>by simp [isHs] at h
 | o::os,t::ts,0,o',x,h,ho,hx=>by
  simp at ho;subst ho
  rw [isHs,Bool.and_eq_true] at h
  simp [isHs,hx,h.2]
 | o::os,t::ts,k+1,o',x,h,ho,hx=>by
  rw [isHs,Bool.and_eq_true] at h
  have:=zR2 (k:=k) h.2 (by simpa using ho) hx
  simp [isHs,h.1]
  simpa using this
theorem near_sat {W w:Nat}:∀ o,ok o→∀ D T st h B,dpt o+1≤D→Well st w T→T+wt (enc o)≤1000000→isH o h=true→okv B h=true→3≤B →
  Sat (runF prog W D zV4 [.ref w,.p (enc o),.p h] st) fun v st'=>(∃ k,v=.p k∧isH o k=true∧okv (B+1) k=true)∧Drew w (T+wt (enc o)) st st':=by
 have hd:∀ o:Ord,∀ D,dpt o+1≤D→∃ d,D=d+2:=fun o D h=>⟨D - 2,by have:=zu3 o;lia⟩
 refine zr3 ?_ ?_ ?_ ?_ ?_ ?_ ?_
 ·intro _ D T st h B hD hw hT hh hB h3
  obtain ⟨d,rfl⟩:=hd _ D hD
  obtain ⟨i,rfl,hi⟩:=zf8 hh
  simp at hB
  rw [zi8] at hT ⊢
  simp at hT
  rw [zb3 (fd:=ze9) rfl rfl,sat_bind];simp! only [ze9,zj5]
  refine zb5 rfl ?_;dsimp! only
  refine zb8 rfl ?_
  apply za4
  simp! []
  refine Sat.k1 (zi7 hw (by lia)) fun r _ h0 h1 hd=>?_
  simp! [bfOp]
  refine ⟨?_,(hd.mono (by simp <;> lia)).cut⟩
  rw [isH]
  split
  ·exact ⟨decide_eq_true (by lia),by lia⟩
  ·exact ⟨by simp,by lia⟩
 ·intro _ D T st h B hD hw hT hh hB h3
  obtain ⟨d,rfl⟩:=hd _ D hD
  rw [zj2] at hT ⊢
  simp at hT
  rw [zb3 (fd:=ze9) rfl rfl,sat_bind];simp! only [ze9,zj5]
  refine zb5 rfl ?_;dsimp! only
  refine za5 rfl ?_
  refine zb8 rfl ?_
  apply za4
  rcases zf0 hh with rfl | ⟨i,rfl,hi⟩
  ·simp! []
   refine Sat.k1 (zi7 hw (by lia)) fun r _ h0 h1 hd=>?_
   simp! []
   exact ⟨⟨by rw [isH];simpa using h0,by lia⟩,(hd.mono (by simp)).cut⟩
  ·simp at hB
   simp! []
   refine Sat.k1 (zi7 hw (by lia)) fun r _ h0 h1 hd=>?_
   simp! [bfOp]
   refine ⟨?_,(hd.mono (by simp <;> lia)).cut⟩
   rw [isH]
   split
   ·exact ⟨decide_eq_true (by lia),by lia⟩
   ·exact ⟨by simp,by lia⟩
 ·intro ns hok D T st h B hD hw hT hh hB h3
  rw [ok] at hok
  obtain ⟨d,rfl⟩:=hd _ D hD
  obtain ⟨s,hs,rfl⟩:=zc6 hh
  rw [zf3] at hT ⊢
  simp at hT
  rw [zb3 (fd:=ze9) rfl rfl,sat_bind];simp! only [ze9,zj5]
  refine zb5 rfl ?_;dsimp! only
  refine za5 rfl ?_
  refine za5 rfl ?_
  refine za5 rfl ?_
  refine za5 rfl ?_
  refine za5 rfl ?_
  refine zy8 (Sat.k0 (zz0 hw (by lia) (by lia) (by lia)) fun n _ hnm hd=>?_)
  simp! []
  exact ⟨⟨by rw [isH];simpa using hnm,zw2 (hok.1.2 n hnm)⟩,(hd.mono (by simp <;> lia)).cut⟩
 ·intro ns hok D T st h B hD hw hT hh hB h3
  rw [ok] at hok
  obtain ⟨d,rfl⟩:=hd _ D hD
  obtain ⟨L,hL,rfl⟩:=zh6 hh
  rw [zi1] at hT ⊢
  simp at hT
  rw [zb3 (fd:=ze9) rfl rfl,sat_bind];simp! only [ze9,zj5]
  refine zb5 rfl ?_;dsimp! only
  refine za5 rfl ?_
  refine za5 rfl ?_
  refine zb8 rfl ?_
  apply za4
  simp! [bfOp,ixAt]
  refine Sat.k1 (zi7 hw (by lia) (by lia) (by lia)) fun r st1 h0 h1 hd=>?_
  obtain ⟨m,hm,hmm,hmi⟩:=zH4 ns r h0 h1
  apply za4
  simp! [ixAt]
  rw [zd5 PV.str (fun n=>decide (n∈L) != decide (n=m)) PV.str (fun env=>∃ v,env=[some (.p (.tup [.str [115,101,116],.tup (ns.map .str)])),some (.p (.tup (L.map .str))),some (.p (.int r)),v]) _ _ _ ⟨_,rfl⟩ ?g1]
  case g1 =>
   rintro n hn env ⟨v,rfl⟩
   refine ⟨_,rfl,⟨_,rfl⟩,?_,by simp! []⟩
   unfold ixAt at hmi
   simp! [zd7,ze7,ixAt,hmi,hm]
  simp! [bfOp]
  refine ⟨⟨zI7 List.filter_sublist hok.1.1,?_⟩,(hd.mono (by simp <;> lia)).cut⟩
  rw [List.all_eq_true]
  intro n hn
  rw [zw2 (hok.1.2 n hn)];simp
 ·intro ns ps hok D T st h B hD hw hT hh hB h3
  rw [ok] at hok
  obtain ⟨d,rfl⟩:=hd _ D hD
  have hl:=zh2 hok
  obtain ⟨s,hs,rfl⟩:=zg6 hh
  rw [zo0] at hT ⊢
  simp at hT
  rw [zb3 (fd:=ze9) rfl rfl,sat_bind];simp! only [ze9,zj5]
  refine zb5 rfl ?_;dsimp! only
  refine za5 rfl ?_
  refine za5 rfl ?_
  refine za5 rfl ?_
  refine za5 rfl ?_
  refine za5 rfl ?_
  refine zy8 (Sat.k0 (zz0 hw (by lia) (by lia) (by lia)) fun n _ hnm hd=>?_)
  simp! []
  exact ⟨⟨by rw [isH];simpa using hnm,zw2 (hok.1.2 n hnm)⟩,(hd.mono (by simp <;> lia)).cut⟩
 ·intro os ih hok D T st h B hD hw hT hh hB h3
  rw [zq3] at hok
  rw [zn6] at hD
  obtain ⟨d,rfl⟩:∃ d,D=d+1:=⟨D - 1,by lia⟩
  obtain ⟨ts,rfl,ht⟩:=zu2 hh
  have hlen:=zu7 ht
  rw [okv_tup,List.all_eq_true] at hB
  rw [zi9] at hT ⊢
  simp at hT
  rw [zb3 (fd:=ze9) rfl rfl,sat_bind];simp! only [ze9,zj5]
  refine zb5 rfl ?_;dsimp! only
  refine za5 rfl ?_
  refine za5 rfl ?_
  refine za5 rfl ?_
  refine za5 rfl ?_
  refine zb8 rfl ?_
  apply za4
  simp! [bfOp]
  refine Sat.k1 (zv2 (by lia) hw (by lia) (by lia) (by lia)) fun r st1 h0 h1 hd1=>?_
  apply za4
  obtain ⟨x,x1,x2,x3⟩:=zH4 ts r h0 h1
  obtain ⟨o,o1,o2,o3⟩:=zH4 os r h0 (by lia)
  have hox:isH o x=true:=by
   refine zy6 ht (o,x) ?_
   rw [List.mem_iff_getElem?]
   exact ⟨r.toNat,by rw [List.getElem?_zip_eq_some];exact ⟨o1,x1⟩⟩
  have hwo:wt (enc o)+2≤wts (os.map enc):=zJ4 (List.mem_map_of_mem o2)
  have hdo:=zq1 o2
  have o3':ixAt (os.map enc).length r=some r.toNat:=by rw [List.length_map];exact o3
  have i01:ixAt 2 1=some 1:=by decide
  simp! [i01,o3,o1,x3,x1]
  refine Sat.k1 (ih o o2 (hok.2.2 o o2) d _ _ x B (by lia) hd1.2 (by lia) hox (hB x x2) h3) fun k st2 hk1 hk2 hd2=>?_
  apply za4
  have e1:=zy4 ts r h0
  have e2:=zz2 ts (r+1) (by lia)
  rw [show (r+1).toNat=r.toNat+1 by lia] at e2
  have z5:(ts.take r.toNat).length+[k].length≤SZ:=zs7 (by simp <;> lia)
  have z6:(ts.take r.toNat++[k]).length+(ts.drop (r.toNat+1)).length≤SZ:=zs7 (by simp <;> lia)
  simp only [ex_ret,ev_bin,ev_slice,evO_none,evO_some,ev_var,ev_tup,evPs_cons,evPs_nil,ev_const,varOf,List.getElem?_cons_succ,List.getElem?_cons_zero,Res.bind_ok,Res.bindV_ok,Res.bindP_ok,intOf,op1_p,op2_p,sliceOp,binOp,bAdd,okO_some,e1,e2,if_pos z5,if_pos z6,thenS_ret,leave_ret,trim_p,sat_ok]
  refine ⟨⟨_,rfl,?_,?_⟩,((hd1.trans hd2).mono ?_).cut⟩
  ·rw [isH,List.append_assoc];exact zR2 ht o1 hk1
  ·rw [okv_tup,List.all_eq_true]
   intro u hu
   simp only [List.append_assoc,List.mem_append,List.mem_cons,List.not_mem_nil,false_or,or_false] at hu
   rcases hu with hu | rfl | hu
   ·exact okv_mono (by lia) u (hB u (List.mem_of_mem_take hu))
   ·exact hk2
   ·exact okv_mono (by lia) u (hB u (List.mem_of_mem_drop hu))
  ·lia
 ·intro o ih hok D T st h B hD hw hT hh hB h3
  rw [zj8] at hok
  rw [zj7] at hD
  obtain ⟨d,rfl⟩:∃ d,D=d+1:=⟨D - 1,by lia⟩
  have hdp:=zu3 o
  obtain ⟨i,k,rfl,hi,hk⟩:=zm6 hh
  simp at hB
  rw [zf9] at hT ⊢
  simp at hT
  rw [zb3 (fd:=ze9) rfl rfl,sat_bind];simp! only [ze9,zj5]
  refine zb5 rfl ?_;dsimp! only
  refine za5 rfl ?_
  refine za5 rfl ?_
  refine za5 rfl ?_
  refine zb8 rfl ?_
  apply za4
  simp! [ixAt]
  refine Sat.k1 (zv2 (by lia) hw (by lia) (by lia) (by lia)) fun r st1 h0 h1 hd1=>?_
  obtain ⟨x,x1,x2,x3⟩:=zH4 [PV.int 0,PV.int 0,PV.int 1,PV.int (-1)] r h0 (by simpa using h1)
  obtain ⟨e,rfl,he1,he2⟩:∃ e:Int,x=.int e∧-1≤e∧e≤1:=by
   simp at x2
   rcases x2 with rfl | rfl | rfl
   ·exact ⟨0,rfl,by lia,by lia⟩
   ·exact ⟨1,rfl,by lia,by lia⟩
   ·exact ⟨-1,rfl,by lia,by lia⟩
  simp only [List.length_cons,List.length_nil,Nat.reduceAdd] at x3
  have hie:(if 0≤r then if r<4 then some r.toNat else none else if -4≤r then some (r+4).toNat else none)=some r.toNat:=by rw [if_pos h0,if_pos h1]
  simp! [hie,x1,bfOp]
  refine Sat.k1 (ih hok d _ _ k B (by lia) hd1.2 (by lia) hk hB.2 h3) fun k2 st2 hk1 hk2 hd2=>?_
  simp! []
  refine ⟨?_,((hd1.trans hd2).mono (by lia)).cut⟩
  rw [isH]
  split
  ·exact ⟨by simp [hk1];lia,by lia,hk2⟩
  ·exact ⟨by simp [hk1],by lia,hk2⟩
theorem lst_facts:∀ o,ok o→isH o (lst o)=true∧okv 0 (lst o)=true∧∀ a,isH o a=true→geH o a (lst o)=true:=by
 refine zr3 ?_ ?_ ?_ ?_ ?_ ?_ ?_
 ·intro _
  refine ⟨by simp [lst,isH],by simp [lst],fun a ha=>?_⟩
  obtain ⟨i,rfl,hi⟩:=zf8 ha
  simp [lst,geH,hi]
 ·intro _
  refine ⟨by simp [lst,isH],by simp [lst],fun a ha=>?_⟩
  rcases zf0 ha with rfl | ⟨i,rfl,hi⟩ <;> simp [lst,geH]
 ·intro ns hok
  rw [ok] at hok
  cases ns with
  | nil=>simp at hok
  | cons n r =>
   refine ⟨by simp [lst,isH],by simpa [lst] using zw2 (hok.1.2 n (by simp)),fun a ha=>?_⟩
   obtain ⟨s,hs,rfl⟩:=zc6 ha
   have h0:=zt7.mpr hs
   have e:plc (n::r) n=0:=by rw [zl2,if_pos rfl]
   simp only [lst,geH,onStr,List.headD_cons,e]
   exact decide_eq_true h0
 ·intro ns hok
  refine ⟨by simp [lst,isH],by simp [lst],fun a ha=>?_⟩
  obtain ⟨L,hL,rfl⟩:=zh6 ha
  simp [lst,geH]
 ·intro ns ps hok
  rw [ok] at hok
  obtain ⟨c0,hc⟩:=zM2 hok
  obtain ⟨hw1,hw2⟩:=hc.wl hok.1.1
  have hl:=(zh2 hok).1
  refine ⟨by simp [lst,isH,hw1,hc.mem],by simpa [lst,hw1] using zw2 (hok.1.2 c0 hc.mem),fun a ha=>?_⟩
  obtain ⟨s,hs,rfl⟩:=zg6 ha
  simp only [lst,geH,onStr,hw1]
  exact decide_eq_true ((zk6 (by lia)).mpr (hc.all s hs))
 ·intro os ih hok
  rw [zq3] at hok
  have key:∀ qs:List Ord,(∀ o∈qs,o∈os)→isHs qs (qs.map lst)=true∧(qs.map lst).all (okv 0)=true∧∀ as,isHs qs as=true→geHs qs as (qs.map lst)=true:=by
   intro qs
   induction qs with
   | nil=>intro _;exact ⟨by simp [isHs],rfl,fun as _=>by simp [geHs]⟩
   | cons o r ih2 =>
    intro hq
    obtain ⟨a1,a2,a3⟩:=ih o (hq o (by simp)) (hok.2.2 o (hq o (by simp)))
    obtain ⟨b1,b2,b3⟩:=ih2 fun x hx=>hq x (List.mem_cons_of_mem _ hx)
    refine ⟨by simp [isHs,a1,b1],by simp only [List.map_cons,List.all_cons,a2,b2];rfl,fun as has=>?_⟩
    cases as with
    | nil=>simp [isHs] at has
    | cons a as =>
     rw [isHs,Bool.and_eq_true] at has
     simp [geHs,a3 a has.1,b3 as has.2]
  obtain ⟨b1,b2,b3⟩:=key os fun o ho=>ho
  refine ⟨by rw [lst,zD3,isH];exact b1,by rw [lst,zD3,okv_tup];exact b2,fun a ha=>?_⟩
  obtain ⟨ts,rfl,ht⟩:=zu2 ha
  rw [lst,zD3,geH];exact b3 ts ht
 ·intro o ih hok
  rw [zj8] at hok
  obtain ⟨a1,a2,a3⟩:=ih hok
  refine ⟨by simp [lst,isH,a1],by simp [lst,a2],fun a ha=>?_⟩
  obtain ⟨i,k,rfl,hi,hk⟩:=zm6 ha
  rw [lst,geH_newer,a3 k hk]
  simp;lia
def HB (o:Ord) (h:PV):Prop:=isH o h=true∧okv (B20+1) h=true
theorem HB.repr {o:Ord} (ho:ok o) (hdo:dpt o≤3) {x:PV} (h:HB o x):∃ t,reprOf x=some t:=by
 obtain ⟨g1,g2,g3⟩:=zq0 o ho
 have h4:4 ^ dpt o≤4 ^ 3:=Nat.pow_le_pow_right (by lia) hdo
 have h64:4 ^ 3=64:=rfl
 have hb:=zp2 o ho x h.1
 exact zO0 (B:=B20+1) (by unfold B20;lia) h.2 (by lia) (by lia)
theorem zS9 {W d:Nat} {wd:List Nat} {ns:List Nm} {r:List PV} {st:Store} (h1:wd≠[115,101,116]) :
  runF prog W (d+1) zN3 [.p (.tup (.str wd :: .tup (ns.map .str)::r))] st=.ok (.p (.lst (ns.map .str))) st:=by
 have h0:(0:Int)<(r.length:Int)+1+1:=by lia
 have h2:(1:Int)<(r.length:Int)+1+1:=by lia
 apply zb6
 rw [zb3 (fd:=zr4) rfl rfl,sat_bind];simp! only [zr4,zv4]
 apply za4
 simp! [ixAt,h0,pyEq,h1]
 apply za4
 simp! [ixAt,h2,bfOp]
def LA1 (ns:List Nm) (st:Store) (xs:List PV) (env:Env) (st':Store):Prop :=
 ∃ (a b:List Nm) (x2:Option Val),ns=a++b∧env=[some (.p (enc (.set ns))),some (.p (.lst ((subs a).map setPV))),x2]∧xs=b.map PV.str∧st'=st
theorem zX4 {W d:Nat} {o:Ord} {st:Store} (ho:ok o) (hl:listed o=true):runF prog W (d+1) zN3 [.p (enc o)] st=.ok (.p (.lst (allH o))) st:=by
 cases o with
 | chain ns=>rw [zf3,allH];exact zS9 (by decide)
 | web ns ps=>rw [zo8,allH];exact zS9 (by decide)
 | set ns =>
  rw [ok] at ho
  apply zb6
  rw [allH,zi1]
  rw [zb3 (fd:=zr4) rfl rfl,sat_bind];simp! only [zr4,zv4]
  refine za5 (by simp! [ixAt,pyEq]) ?_
  refine zz8 (.lst [.tup []]) (by simp! []) ?_
  simp only [List.set_cons_succ,List.set_cons_zero]
  apply za4
  simp! [ixAt]
  refine (zo5 (LA1 ns st) _ _ _ ⟨[],ns,_,rfl,by rw [zi1];rfl,rfl,rfl⟩ ?_).mono ?_
  ·rintro x r env st' ⟨a,b,x2,e1,rfl,e2,rfl⟩
   obtain ⟨n,b',rfl,rfl,rfl⟩:∃ n b',b=n::b'∧x=PV.str n∧r=b'.map PV.str:=by
    cases b with
    | nil=>cases e2
    | cons n b'=>cases e2;exact ⟨n,b',rfl,rfl,rfl⟩
   have hal:a.length+1≤5:=by rw [e1] at ho;simp at ho;lia
   have h2:2 ^ a.length≤2 ^ 4:=Nat.pow_le_pow_right (by lia) (by lia)
   have hsz:(subs a).length+(subs a).length≤SZ:=zs7 (by rw [zT1];lia)
   refine ⟨_,rfl,?_⟩
   refine zz8 (.lst ((subs (a++[n])).map setPV)) ?_ ?_
   ·simp! []
    rw [zg8 setPV (fun L=>setPV (L++[n])) (fun env=>∃ v,env=[some (.p (.str n)),v]) _ _ _ ⟨_,rfl⟩ ?g1]
    case g1 =>
     rintro L hL env ⟨v,rfl⟩
     refine ⟨_,rfl,⟨_,rfl⟩,?_⟩
     have hLl:=(zG8.mp hL).length_le
     have z1:L.length+1≤SZ:=zs7 (by lia)
     simp! [setPV,z1]
    rw [zB3]
    simp! [hsz]
   simp! []
   exact ⟨a++[n],b',_,by simp [e1],rfl,rfl,rfl⟩
  ·rintro _ s2 ⟨env2,rfl,a,b,x2,e1,rfl,e2,rfl⟩
   have hb:b=[]:=by
    cases b with
    | nil=>rfl
    | cons _ _=>cases e2
   subst hb
   simp at e1
   subst e1
   apply za4
   simp! []
 | _=>cases hl
theorem zB5 {W d:Nat} {wd:List Nat} {r:List PV} {a b:PV} {g:Bool} {st:Store} (h1:wd≠[115,101,116])
  (al:runF prog W (d+2) zs8 [.p (.tup (.str wd::r)),.p a,.p b] st=.ok (.p (.bl g)) st) :
  runF prog W (d+3) zL6 [.p (.tup (.str wd::r)),.p a,.p b] st=.ok (.p (if g=true then b else a)) st:=by
 have h0:(0:Int)<(r.length:Int)+1:=by lia
 apply zb6
 rw [zb3 (fd:=zr8) rfl rfl,sat_bind];simp! only [zr8,zv3]
 apply za4
 simp! [ixAt,h0,pyEq,h1]
 apply za4
 cases g <;> simp! [al]
theorem zX6 {W d:Nat} {o:Ord} (ho:ok o) (hm:meets o=true) {a b:PV} (st:Store) (ha:isH o a=true) (hb:isH o b=true) :
  runF prog W (d+3) zL6 [.p (enc o),.p a,.p b] st=.ok (.p (mtH o a b)) st:=by
 cases o with
 | num =>
  have al:=zk3 (W:=W) .num ho (d+2) (by simp) a b st ha hb
  rw [zi8] at al ⊢
  rw [mtH]
  exact zB5 (by decide) al
 | low =>
  have al:=zk3 (W:=W) .low ho (d+2) (by simp) a b st ha hb
  rw [zj2] at al ⊢
  rw [mtH]
  exact zB5 (by decide) al
 | chain ns =>
  have al:=zk3 (W:=W) (.chain ns) ho (d+2) (by simp) a b st ha hb
  rw [zf3] at al ⊢
  rw [mtH]
  exact zB5 (by decide) al
 | set ns =>
  rw [ok] at ho
  obtain ⟨L,hL,rfl⟩:=zh6 ha
  obtain ⟨M,hM,rfl⟩:=zh6 hb
  apply zb6
  rw [zi1]
  rw [zb3 (fd:=zr8) rfl rfl,sat_bind];simp! only [zr8,zv3]
  apply za4
  simp! [ixAt,pyEq]
  apply za4
  simp! [ixAt]
  rw [zd5 PV.str (fun n=>decide (n∈M)) PV.str (fun env=>∃ v,env=[some (.p (.tup (M.map .str))),v]) _ _ _ ⟨_,rfl⟩ ?g2]
  case g2 =>
   rintro n hn env ⟨v,rfl⟩
   refine ⟨_,rfl,⟨_,rfl⟩,?_,by simp! []⟩
   simp! [zd7,ze7]
  rw [List.nil_append,met_set ho.1.1 hL,mtH]
  simp! [bfOp]
 | web _ _=>cases hm
 | row _=>cases hm
 | newer _=>cases hm
def LB1 (o:Ord) (h:PV) (st:Store) (xs:List PV) (env:Env) (st':Store):Prop :=
 ∃ (f r:List PV) (x2 x5:Option Val),env=[some (.p (enc o)),some (.p h),x2,some (.p (.lst (rest o h))),some (.ref st.length),x5]∧xs=r∧st'=st++[.lst f]∧(∀ x∈r,isH o x=true) ∧
  f++r.filter (fun a=>(rest o h).all fun b=>geH o a b)=firsts o h∧f.length+r.length≤(rest o h).length
theorem allH_len {o} (ho:ok o):(allH o).length≤60:=by
 cases o with
 | chain ns=>rw [ok] at ho;rw [allH,List.length_map];lia
 | set ns =>
  rw [ok] at ho;rw [allH,List.length_map,zT1]
  have h2:2 ^ ns.length≤2 ^ 5:=Nat.pow_le_pow_right (by lia) ho.2.2
  lia
 | web ns ps=>rw [ok] at ho;have:=zh2 ho;rw [allH,List.length_map];lia
 | _=>exact Nat.zero_le _
theorem zr0 {W d:Nat} {o:Ord} {h:PV} {st:Store} {wd:List Nat} {rr:List PV} (ho:ok o) (hdo:dpt o≤1) (hl:listed o=true) (hh:isH o h=true) (he:enc o=.tup (.str wd::rr))
  (h1:wd≠[110,117,109]) (h2:wd≠[108,111,119]) (h3:wd≠[114,111,119]) (h4:wd≠[110,101,119,101,114]) :
  runF prog W (d+3) zD0 [.p (enc o),.p h] st=.ok (.p (.tup (blH o h))) st:=by
 have al:=fun a b st=>zk3 (W:=W) o ho (d+2) (by lia) a b st
 have ea:=fun st=>zX4 (W:=W) (d:=d+1) (st:=st) ho hl
 have mem:=fun x=>zS2 ho hl (x:=x)
 have mr:=fun x=>zl4 ho hl (h:=h) (x:=x)
 have hrl:(rest o h).length≤60:=Nat.le_trans (List.length_filter_le _ _) (allH_len ho)
 rw [← zv1 ho hl hh]
 apply zb6
 rw [zb3 (fd:=zg3) rfl rfl,sat_bind];simp! only [zg3,zk1]
 rw [he]
 refine zb5 rfl ?_
 simp only [List.set_cons_succ,List.set_cons_zero]
 rw [← he]
 refine zR5 rfl (decide_eq_false h1) ?_
 refine zR5 rfl (decide_eq_false h2) ?_
 refine za5 (by simp! [pyEq,h3,h4]) ?_
 refine zz8 (.lst (rest o h)) ?_ ?_
 ·simp! [ea]
  have:=zd5 (C:=runF prog W (d+2)) (e:=.var 2) (c:=.not (.call 15 [(.var 0),(.var 2),(.var 1)])) (tgt:=.name 2) (st:=st) (fun x:PV=>x) (fun x=>!geH o x h) (fun x=>x) (fun env=>∃ v,env=[some (.p (enc o)),some (.p h),v]) (allH o) [some (.p (enc o)),some (.p h),none] [] ⟨_,rfl⟩ ?g2
  case g2 =>
   rintro x hx env ⟨v,rfl⟩
   refine ⟨_,rfl,⟨_,rfl⟩,?_,by simp! []⟩
   simp! [al _ _ _ ((mem x).mp hx) hh]
  rw [List.map_id'] at this
  rw [this]
  simp! [rest]
 simp only [List.set_cons_succ,List.set_cons_zero]
 apply za4
 simp! []
 apply za4
 simp! []
 refine (zo5 (LB1 o h st) _ _ _ ⟨[],rest o h,_,_,rfl,rfl,rfl,fun x hx=>((mr x).mp hx).1,by rw [firsts];rfl,by simp⟩ ?_).mono ?_
 ·rintro x r env st' ⟨f,r',x2,x5,rfl,rfl,rfl,hr,hf,hlen⟩
  have hx:=hr x (by simp)
  have ho2:objAt (st++[.lst f]) st.length=some (.lst f):=objAt_new
  simp only [List.length_cons] at hlen
  have z1:f.length<SZ:=zO1 (by lia)
  refine ⟨_,rfl,?_⟩
  apply za4
  have hc:=zg8 (C:=runF prog W (d+2)) (e:=.call 15 [(.var 0),(.var 1),(.var 2)]) (tgt:=.name 2) (st:=st++[.lst f]) (fun x:PV=>x) (fun b=>.bl (geH o x b)) (fun env=>∃ v,env=[some (.p (enc o)),some (.p x),v]) (rest o h) [some (.p (enc o)),some (.p x),none] [] ⟨_,rfl⟩ ?g1
  case g1 =>
   rintro y hy env ⟨v,rfl⟩
   refine ⟨_,rfl,⟨_,rfl⟩,?_⟩
   simp! [al _ _ _ hx ((mr y).mp hy).1]
  rw [List.map_id'] at hc
  have hm:itemIn (.bl false) ((rest o h).map fun b=>PV.bl (geH o x b)) = !(rest o h).all fun b=>geH o x b:=by
   have:=zF9 (l:=(rest o h).map fun b=>geH o x b)
   rw [List.map_map,List.all_map] at this
   exact this
  have hdz:deps ((rest o h).map fun b=>PV.bl (geH o x b))=0:=by
   refine Nat.le_zero.mp (zx3.mpr fun y hy=>?_)
   obtain ⟨b,_,rfl⟩:=List.mem_map.mp hy
   simp
  rw [List.filter_cons] at hf
  generalize hb:((rest o h).all fun b=>geH o x b)=b at hm hf
  cases b with
  | true =>
   simp! [hc,hm]
   apply za4
   simp! [zi6 ho2,zu8 ho2,gAppend,z1]
   dsimp! only
   rw [if_pos rfl] at hf
   exact ⟨_,rfl,f++[x],r,_,_,rfl,rfl,by simp,fun y hy=>hr y (List.mem_cons_of_mem _ hy),by rw [← hf];simp,by simp;lia⟩
  | false =>
   simp! [hc,hm]
   dsimp! only
   rw [if_neg (by simp)] at hf
   exact ⟨_,rfl,f,r,_,_,rfl,rfl,by simp,fun y hy=>hr y (List.mem_cons_of_mem _ hy),hf,by lia⟩
 ·rintro _ st' ⟨env',rfl,f,r',x2,x5,rfl,e2,rfl,_,hf,hlen⟩
  subst e2
  simp at hf
  subst hf
  apply za4
  have ho2:objAt (st++[.lst (firsts o h)]) st.length=some (.lst (firsts o h)):=objAt_new
  have e1:=zy4 (firsts o h) 1 (by decide)
  simp! [op1,zi6 ho2,sliceOp,e1,bfOp]
theorem zJ5 {W d:Nat} {o:Ord} (ho:ok o) {h:PV} (st:Store) (hh:isH o h=true) :
  runF prog W (d+3) zD0 [.p (enc o),.p h] st=.ok (.p (.tup (blH o h))) st:=by
 cases o with
 | num =>
  apply zb6
  obtain ⟨i,rfl,hi⟩:=zf8 hh
  rw [zi8,zA7]
  rw [zb3 (fd:=zg3) rfl rfl,sat_bind];simp! only [zg3,zk1]
  refine zb5 rfl ?_;dsimp! only
  refine zb8 rfl ?_
  apply za4
  by_cases c:0<i <;> simp! [c]
 | low =>
  apply zb6
  rw [zj2]
  rw [zb3 (fd:=zg3) rfl rfl,sat_bind];simp! only [zg3,zk1]
  refine zb5 rfl ?_;dsimp! only
  refine za5 rfl ?_
  refine zb8 rfl ?_
  apply za4
  rcases zf0 hh with rfl | ⟨i,rfl,hi⟩
  ·simp! [blH_non]
  ·simp! [zI6]
 | chain ns=>exact zr0 ho (by simp) rfl hh zf3 (by decide) (by decide) (by decide) (by decide)
 | set ns=>exact zr0 ho (by simp) rfl hh zi1 (by decide) (by decide) (by decide) (by decide)
 | web ns ps=>exact zr0 ho (by simp) rfl hh zo0 (by decide) (by decide) (by decide) (by decide)
 | row os =>
  have e:blH (.row os) h=[]:=rfl
  apply zb6
  rw [zi9,e]
  rw [zb3 (fd:=zg3) rfl rfl,sat_bind];simp! only [zg3,zk1]
  refine zb5 rfl ?_;dsimp! only
  refine za5 rfl ?_
  refine za5 rfl ?_
  refine zb8 rfl ?_
  apply za4
  simp! []
 | newer o =>
  have e:blH (.newer o) h=[]:=rfl
  apply zb6
  rw [zf9,e]
  rw [zb3 (fd:=zg3) rfl rfl,sat_bind];simp! only [zg3,zk1]
  refine zb5 rfl ?_;dsimp! only
  refine za5 rfl ?_
  refine za5 rfl ?_
  refine zb8 rfl ?_
  apply za4
  simp! []
theorem enc_word:∀ o,∃ wd r,enc o=.tup (.str wd::r)∧itemIn (.str wd) [PV.str [110,117,109],PV.str [108,111,119],PV.str [99,104,97,105,110],PV.str [115,101,116]]=meets o
 | .num=>⟨_,_,zi8,rfl⟩
 | .low=>⟨_,_,zj2,rfl⟩
 | .chain _=>⟨_,_,zf3,rfl⟩
 | .set _=>⟨_,_,zi1,rfl⟩
 | .web _ _=>⟨_,_,zo0,rfl⟩
 | .row _=>⟨_,_,zi9,rfl⟩
 | .newer _=>⟨_,_,zf9,rfl⟩
theorem mt_HB {o:Ord} (ho:ok o) (hm:meets o=true) {a b:PV} (ha:HB o a) (hb:HB o b):HB o (mtH o a b):=by
 refine ⟨(mt ho hm ha.1 hb.1).is,?_⟩
 cases o with
 | num=>rw [mtH];split <;> first | exact hb.2 | exact ha.2
 | low=>rw [mtH];split <;> first | exact hb.2 | exact ha.2
 | chain ns=>rw [mtH];split <;> first | exact hb.2 | exact ha.2
 | set ns =>
  rw [ok] at ho
  obtain ⟨ts,rfl,_⟩:=zh8 ha.1;obtain ⟨us,rfl,_⟩:=zh8 hb.1
  rw [mtH]
  show okv _ (.tup _)=true
  rw [okv_tup,List.all_map,List.all_eq_true]
  intro n hn
  simpa using zw2 (ho.1.2 n (List.mem_filter.mp hn).1)
 | _=>cases hm
theorem blH_len {o h} (ho:ok o) (hh:isH o h=true):(blH o h).length≤1:=by
 cases o with
 | num=>obtain ⟨i,rfl,_⟩:=zf8 hh;rw [zA7];split <;> simp
 | low =>
  rcases zf0 hh with rfl | ⟨i,rfl,_⟩
  ·exact Nat.zero_le _
  ·exact Nat.le_refl _
 | chain ns=>rw [← zv1 ho rfl hh];simp;lia
 | set ns=>rw [← zv1 ho rfl hh];simp;lia
 | web ns ps=>rw [← zv1 ho rfl hh];simp;lia
 | row os=>exact Nat.zero_le _
 | newer o=>exact Nat.zero_le _
theorem bl_okv {o h} (ho:ok o) (hh:HB o h):(blH o h).all (okv (B20+2))=true:=by
 obtain ⟨h1,h2⟩:=hh
 have nms:∀ {ns:List Nm} {p:Nm→Bool},goodNs ns→((ns.filter p).map PV.str).all (okv (B20+2))=true:=fun {ns p} g=>by
  rw [List.all_map,List.all_eq_true]
  intro n hn
  simpa using zw2 (g.2 n (List.mem_filter.mp hn).1)
 cases o with
 | num =>
  obtain ⟨i,rfl,hi⟩:=zf8 h1
  rw [zA7]
  simp at h2
  split
  ·simp;lia
  ·rfl
 | low =>
  rcases zf0 h1 with rfl | ⟨i,rfl,hi⟩
  ·rfl
  ·rw [zI6]
   simp at h2 ⊢
   lia
 | chain ns =>
  rw [ok] at ho
  obtain ⟨s,hs,rfl⟩:=zc6 h1
  rw [zv7]
  split
  ·cases e:ns[(plc ns s - 1).toNat]? with
   | none=>simp
   | some n=>simpa using zw2 (ho.1.2 n (List.mem_of_getElem? e))
  ·rfl
 | set ns =>
  rw [ok] at ho
  obtain ⟨L,hL,rfl⟩:=zh6 h1
  rw [blH_set]
  split
  ·rw [List.all_cons,okv_tup,nms ho.1];rfl
  ·rfl
 | web ns ps =>
  rw [ok] at ho
  obtain ⟨s,hs,rfl⟩:=zg6 h1
  rw [zG9,lowerW,List.filter_filter]
  exact nms ho.1
 | row os=>rfl
 | newer o=>rfl
theorem bl_repr {o h} (ho:ok o) (hdo:dpt o≤3) (hh:HB o h):∃ t,reprOf (.tup (blH o h))=some t:=by
 obtain ⟨g1,g2,g3⟩:=zq0 o ho
 have h4:4 ^ dpt o≤4 ^ 3:=Nat.pow_le_pow_right (by lia) hdo
 have h64:4 ^ 3=64:=rfl
 have hl:=blH_len ho hh.1
 have B:=fun b r=>bl (b:=b) (r:=r) ho hh.1
 have ha:=bl_okv ho hh
 refine zO0 (B:=B20+2) (by unfold B20;lia) (by rw [okv_tup];exact ha) ?_ ?_
 ·cases e:blH o h with
  | nil=>simp
  | cons b r =>
   rw [e] at hl
   have hr:r=[]:=by cases r with | nil=>rfl | cons _ _=>simp at hl
   subst hr
   have:=zp2 o ho b (B b [] e).is
   simp;lia
 ·cases e:blH o h with
  | nil=>simp
  | cons b r =>
   rw [e] at hl
   have hr:r=[]:=by cases r with | nil=>rfl | cons _ _=>simp at hl
   subst hr
   have:=zp2 o ho b (B b [] e).is
   simp;lia
def S3 (w:Nat) (o:Ord) (st0:Store) (T:Int) (xs:List PV) (env:Env) (st:Store) (acc:List PV):Prop :=
 ∃ v,env=[some (.ref w),some (.p (enc o)),v]∧acc.length+xs.length=3∧Drew w (T+(acc.length * wt (enc o):Nat)) st0 st∧∀ h∈acc,isH o h=true∧okv B20 h=true
def S4 (w:Nat) (o:Ord) (st0:Store) (T:Int) (xs:List PV) (env:Env) (st:Store) (acc:List PV):Prop :=
 ∃ v,env=[some (.ref w),some (.p (enc o)),v]∧acc.length+xs.length=3∧Drew w (T+((3+acc.length) * wt (enc o):Nat)) st0 st∧(∀ h∈xs,isH o h=true∧okv B20 h=true)∧∀ h∈acc,HB o h
theorem zK6 {W D w:Nat} {o:Ord} {T:Int} {st:Store} (ho:ok o) (hdo:dpt o≤3) (hD:5≤D) (hw:Well st w T) (hT:T+6 * wt (enc o)≤1000000) :
  Sat (runF prog W D zX3 [.ref w,.p (enc o)] st) fun v st'=>(∃ L,v=.p (.lst L)∧L.length=7∧∀ x∈L,HB o x)∧Drew w (T+6 * wt (enc o)) st st':=by
 obtain ⟨d,rfl⟩:∃ d,D=d+1:=⟨D - 1,by lia⟩
 have i3:(3:Int)≤SZ:=zu9 (by lia)
 obtain ⟨l1,l2,l3⟩:=lst_facts o ho
 have e2:=fun st=>zN7 (W:=W) o ho d (by lia) st
 rw [zb3 (fd:=zx1) rfl rfl,sat_bind];simp! only [zx1,zx4]
 apply za4
 simp! [i3]
 refine (zp7 (S3 w o st T) _ _ _ _ ⟨_,rfl,by simp,by simpa using Drew.refl hw,by simp⟩ ?_).mono ?_
 ·rintro x r env s acc ⟨v,rfl,hlen,hd,hacc⟩
  simp only [List.length_cons] at hlen
  have hm:acc.length * wt (enc o)≤2 * wt (enc o):=Nat.mul_le_mul_right _ (by lia)
  have hs:∀ h:PV,(acc++[h]).length * wt (enc o)=acc.length * wt (enc o)+wt (enc o):=fun h=>by rw [List.length_append,List.length_singleton,Nat.succ_mul]
  refine ⟨_,rfl,?_⟩
  simp! []
  generalize acc.length * wt (enc o)=m at *
  refine Sat.k0 (zW7 o ho _ _ _ (by lia) hd.2 (by lia)) fun h s1 hh hd2=>?_
  refine ⟨_,rfl,_,rfl,by simp;lia,?_,?_⟩
  ·rw [hs]
   exact (hd.trans hd2).mono (by lia)
  ·intro y hy
   rcases List.mem_append.mp hy with hy | hy
   ·exact hacc y hy
   ·have:y=h:=by simpa using hy
    subst this;exact ⟨hh.1,hh.2.1⟩
 rintro ys s1 ⟨env',v,_,hlen,hd,hys⟩
 simp at hlen
 rw [hlen] at hd
 apply za4
 simp! []
 refine (zp7 (S4 w o st T) _ _ _ _ ⟨_,rfl,by simpa using hlen,by simpa using hd,hys,by simp⟩ ?_).mono ?_
 ·rintro x r env s acc ⟨v,rfl,hl2,hd1,hxs,hacc⟩
  simp only [List.length_cons] at hl2
  have hm:(3+acc.length) * wt (enc o)≤5 * wt (enc o):=Nat.mul_le_mul_right _ (by lia)
  have hs:∀ h:PV,(3+(acc++[h]).length) * wt (enc o)=(3+acc.length) * wt (enc o)+wt (enc o):=fun h=>by rw [List.length_append,List.length_singleton,← Nat.add_assoc,Nat.succ_mul]
  refine ⟨_,rfl,?_⟩
  simp! []
  obtain ⟨hx1,hx2⟩:=hxs x (by simp)
  generalize (3+acc.length) * wt (enc o)=m at *
  refine Sat.k1 (near_sat o ho _ _ _ x B20 (by lia) hd1.2 (by lia) hx1 hx2 (by decide)) fun h s2 hh1 hh2 hd2=>?_
  refine ⟨_,rfl,_,rfl,by simp;lia,?_,fun y hy=>hxs y (List.mem_cons_of_mem _ hy),?_⟩
  ·rw [hs]
   exact (hd1.trans hd2).mono (by lia)
  ·intro y hy
   rcases List.mem_append.mp hy with hy | hy
   ·exact hacc y hy
   ·have:y=h:=by simpa using hy
    subst this;exact ⟨hh1,hh2⟩
 rintro zs s2 ⟨env',v,_,hl2,hd2,_,hzs⟩
 simp at hl2
 rw [hl2] at hd2
 dsimp! only
 have z1:ys.length+zs.length≤SZ:=zs7 (by lia)
 have z2:ys.length+zs.length+1≤SZ:=zs7 (by lia)
 refine ret_sat (v:=.p (.lst (ys++zs++[lst o]))) (st':=s2) (by simp! [z1,z2,e2]) ?_
 simp! []
 refine ⟨⟨by lia,?_⟩,(hd2.mono (by lia)).cut⟩
 rintro x (hx | hx | rfl)
 ·exact ⟨(hys x hx).1,okv_mono (by lia) _ (hys x hx).2⟩
 ·exact hzs x hx
 ·exact ⟨l1,okv_mono (by lia) _ l2⟩
noncomputable def lawBody:List S:=match zW5 with
 | [.for _ _ b,_]=>b
 | _=>[]
noncomputable def lawBody2:List S:=match lawBody with
 | [_,_,.for _ _ b]=>b
 | _=>[]
def N1 (a0 a1 a3:Option Val) (w:Nat) (o:Ord) (L:List PV) (K:List Nat) (st0:Store) (xs:List PV) (env:Env) (st:Store):Prop :=
 (∃ x7 x8,env=[a0,a1,some (.ref w),a3,some (.p (enc o)),some (.p (.lst L)),some (.p (.str K)),x7,x8])∧st=st0∧∀ x∈xs,HB o x
def N2 (a0 a1 a3:Option Val) (w:Nat) (o:Ord) (L:List PV) (K:List Nat) (x:PV) (st0:Store) (xs:List PV) (env:Env) (st:Store):Prop :=
 (∃ x8,env=[a0,a1,some (.ref w),a3,some (.p (enc o)),some (.p (.lst L)),some (.p (.str K)),some (.p x),x8])∧st=st0∧∀ x∈xs,HB o x
theorem body2_sat {W d w:Nat} {T:Int} {o:Ord} (hW:60≤W) (ho:ok o) (hdo:dpt o≤3) (a0 a1 a3 x5 x6 x7 x8:Option Val) {st:Store} (hw:Well st w T) (hT:T+6 * wt (enc o)≤1000000) :
  Sat (execSs (runF prog W (d+8)) W lawBody2 [a0,a1,some (.ref w),a3,some (.p (enc o)),x5,x6,x7,x8] st)
   fun f st'=>(∃ x4 y5 y6 y7 y8,f=.next [a0,a1,some (.ref w),a3,x4,y5,y6,y7,y8])∧Well st' w (T+6 * wt (enc o)):=by
 simp only [lawBody2,lawBody,zW5]
 apply za4
 simp! []
 refine Sat.k1 (zK6 (D:=d+8) ho hdo (by lia) hw hT) fun L st1 hLl hL hd=>?_
 dsimp! only
 have hw1:=hd.2
 obtain ⟨g1,g2,g3⟩:=zq0 o ho
 have h4:4 ^ dpt o≤4 ^ 3:=Nat.pow_le_pow_right (by lia) hdo
 have h64:4 ^ 3=64:=rfl
 have hwL:wts L≤L.length * (160000+2):=wts_le fun x hx=>by
  have:=(zp2 o ho x (hL x hx).1).2
  lia
 have hdL:deps L≤7:=zx3.mpr fun x hx=>by
  have:=(zp2 o ho x (hL x hx).1).1
  lia
 have hokL:L.all (okv (B20+1))=true:=by rw [List.all_eq_true];exact fun x hx=>(hL x hx).2
 have c38:B20+1<10 ^ 38:=by unfold B20;lia
 obtain ⟨K,hK⟩:=zO0 (B:=B20+1) (v:=.tup [enc o,.lst L]) c38 (by simp only [okv_tup,okv_lst,List.all_cons,hokL,okv_mono (Nat.zero_le _) _ g1];rfl) (by simp;lia) (by simp;lia)
 refine zz8 (.str K) (by simp! [bfOp,-reprOf,hK]) ?_
 simp only [List.set_cons_succ,List.set_cons_zero]
 apply za4
 simp! []
 refine (zo5 (N1 a0 a1 a3 w o L K st1) _ _ _ ⟨⟨_,_,rfl⟩,rfl,hL⟩ ?_).mono ?_
 ·rintro x r env s ⟨⟨x7,x8,rfl⟩,rfl,hx⟩
  have hx0:=hx x (by simp)
  have e1:=below_eq (W:=W) (d:=d+5) hW ho s hx0.1
  have e2:=zJ5 (W:=W) (d:=d+5) ho s hx0.1
  obtain ⟨t,ht⟩:=bl_repr ho hdo hx0
  obtain ⟨wd,rr,ew,em⟩:=enc_word o
  have h0:(0:Int)<(rr.length:Int)+1:=by lia
  refine ⟨_,rfl,?_⟩
  refine za5 (by simp! [e1,e2,bfOp,-reprOf,ht,pyEq]) ?_
  cases hm:meets o with
  | false =>
   refine za5 (by rw [ew];simp! [ixAt,h0,em,hm]) ?_
   simp! []
   exact ⟨⟨_,_,rfl⟩,rfl,fun z hz=>hx z (List.mem_cons_of_mem _ hz)⟩
  | true =>
   refine zb8 (by rw [ew];simp! [ixAt,h0,em,hm]) ?_
   apply za4
   simp! []
   refine (zo5 (N2 a0 a1 a3 w o L K x s) _ _ _ ⟨⟨_,rfl⟩,rfl,hL⟩ ?_).mono ?_
   ·rintro y q env s2 ⟨⟨x8,rfl⟩,rfl,hy⟩
    have hy0:=hy y (by simp)
    have m1:=met_eq (W:=W) (d:=d+5) hW ho hm s2 hx0.1 hy0.1
    have m2:=zX6 (W:=W) (d:=d+5) ho hm s2 hx0.1 hy0.1
    obtain ⟨u,hu⟩:=(mt_HB ho hm hx0 hy0).repr ho hdo
    refine ⟨_,rfl,?_⟩
    refine za5 (by simp! [m1,m2,bfOp,-reprOf,hu,pyEq]) ?_
    simp! []
    exact ⟨⟨_,rfl⟩,rfl,fun z hz=>hy z (List.mem_cons_of_mem _ hz)⟩
   ·rintro _ s2 ⟨env2,rfl,⟨x8,rfl⟩,rfl,_⟩
    dsimp! only
    exact ⟨_,rfl,⟨_,_,rfl⟩,rfl,fun z hz=>hx z (List.mem_cons_of_mem _ hz)⟩
 ·rintro _ s2 ⟨env2,rfl,⟨x7,x8,rfl⟩,rfl,_⟩
  dsimp! only
  refine za5 (by simp! [bfOp,-reprOf,hK,pyEq]) ?_
  simp! []
  exact hw1
def N3 (a0 a1 a3:Option Val) (w:Nat) (xs:List PV) (env:Env) (st:Store):Prop :=
 ∃ (os:List Ord) (T:Int) (x4 x5 x6 x7 x8:Option Val),env=[a0,a1,some (.ref w),a3,x4,x5,x6,x7,x8]∧xs=os.map enc∧(∀ o∈os,ok o∧dpt o≤3)∧Well st w T∧T+6 * wts (os.map enc)≤1000000
theorem body_sat {W d:Nat} (hW:60≤W) (ns:List Int) (h63:ns.length≤63) (k:Nat) (hk:k<1000) (st:Store) (x2 x3 x4 x5 x6 x7 x8:Option Val) :
  Sat (execSs (runF prog W (d+8)) W lawBody [some (.p (.lst (ns.map .int))),some (.p (.int k)),x2,x3,x4,x5,x6,x7,x8] st)
   fun f _=>∃ y2 y3 y4 y5 y6 y7 y8,f=.next [some (.p (.lst (ns.map .int))),some (.p (.int k)),y2,y3,y4,y5,y6,y7,y8]:=by
 have hb2:=fun w T o hw hT a0 a1 a3 x5 x6 x7 x8 st=>body2_sat (W:=W) (d:=d) (w:=w) (T:=T) (o:=o) (st:=st) hW hw hT a0 a1 a3 x5 x6 x7 x8
 simp only [lawBody2,lawBody,zW5] at hb2 ⊢
 obtain ⟨c,l,hl,hwell⟩:=well_eq W (d+7) ns k st h63 (by lia) (by lia)
 apply za4
 simp! [hwell]
 dsimp! only
 have hw:Well (st++[wellD c l 0]) st.length 0:=⟨c,l,0,objAt_new,hl,by lia,by lia⟩
 generalize st++[wellD c l 0]=st0 at hw
 generalize st.length=w at hw
 apply za4
 simp! []
 refine Sat.k1 (zi7 hw (by lia)) fun r s1 h0 h1 hd1=>?_
 simp! []
 have e4:(4+r)=((4+r).toNat:Int):=by lia
 rw [e4]
 refine Sat.k1 (zw5 (m:=(4+r).toNat) (by lia) hd1.2 (by lia) (by lia)) fun L s2 hLl hLg hd2=>?_
 simp! [bfOp]
 apply za4
 simp! []
 refine Sat.k1 (order_sat (by lia) hd2.2 (by lia)) fun o s3 ho hdo hd3=>?_
 simp! []
 refine (web_sat (by lia) hd3.2 (by lia)).mono ?_
 rintro _ s4 ⟨⟨ms,ps,rfl,hweb⟩,hd4⟩
 simp! []
 have kS:ok (.set L):=by rw [ok];exact ⟨hLg,by lia,by lia⟩
 have kC:ok (.chain L):=by rw [ok];exact ⟨hLg,by lia,by lia⟩
 have kW:ok (.web ms ps):=by rw [ok];exact hweb
 have w1:=(zq0 o ho).2.2
 have w2:=(zq0 _ kS).2.2
 have w3:=(zq0 _ kC).2.2
 have w4:=(zq0 _ kW).2.2
 have h4:4 ^ dpt o≤4 ^ 3:=Nat.pow_le_pow_right (by lia) hdo
 have h64:4 ^ 3=64:=rfl
 have eN:enc .num=(PV.tup [PV.str [110,117,109]]):=zi8
 have eL:enc .low=(PV.tup [PV.str [108,111,119]]):=zj2
 refine (zo5 (N3 _ _ (some (.p (.tup (L.map .str)))) w) _ _ _ ⟨[o,.set L,.chain L,.web ms ps,.low,.num],0+1+6+90+9,_,_,_,_,_,rfl,?_,?_,hd4.2,?_⟩ ?_).mono ?_
 ·simp only [List.map_cons,List.map_nil,zi1,zf3,eN,eL]
 ·intro q hq
  simp only [List.mem_cons,List.not_mem_nil,or_false] at hq
  rcases hq with rfl | rfl | rfl | rfl | rfl | rfl
  ·exact ⟨ho,hdo⟩
  ·exact ⟨kS,by simp⟩
  ·exact ⟨kC,by simp⟩
  ·exact ⟨kW,by simp⟩
  ·exact ⟨by simp [ok],by simp⟩
  ·exact ⟨by simp [ok],by simp⟩
 ·simp [eN,eL] at w2 w3 w4 ⊢
  lia
 ·rintro x r env s ⟨os,T,x4,x5,x6,x7,x8,rfl,e,hos,hws,hT⟩
  obtain ⟨q,os',rfl,rfl,rfl⟩:∃ q os',os=q::os'∧x=enc q∧r=os'.map enc:=by
   cases os with
   | nil=>cases e
   | cons q os'=>cases e;exact ⟨q,os',rfl,rfl,rfl⟩
  obtain ⟨q1,q2⟩:=hos q (by simp)
  simp only [List.map_cons,wts_cons] at hT
  refine ⟨_,rfl,?_⟩
  refine (hb2 w T q q1 q2 _ _ _ _ _ _ _ s hws (by lia)).mono ?_
  rintro _ s5 ⟨⟨y4,y5,y6,y7,y8,rfl⟩,hw5⟩
  exact ⟨_,rfl,os',_,_,_,_,_,_,rfl,rfl,fun z hz=>hos z (List.mem_cons_of_mem _ hz),hw5,by lia⟩
 ·rintro _ s5 ⟨env2,rfl,os,T,y4,y5,y6,y7,y8,rfl,_⟩
  dsimp! only
  exact ⟨_,_,_,_,_,_,_,rfl⟩
def N5 (ns:List Int) (xs:List PV) (env:Env) (st:Store):Prop :=
 (∃ x1 x2 x3 x4 x5 x6 x7 x8,env=[some (.p (.lst (ns.map .int))),x1,x2,x3,x4,x5,x6,x7,x8])∧∀ x∈xs,∃ k:Nat,k<1000∧x=.int k
theorem law_eq (W d:Nat) (hW:60≤W) (ns:List Int) (h63:ns.length≤63):∃ st,runF prog W (d+9) i_law [.p (.lst (ns.map .int))] []=.ok (.p (.bl true)) st:=by
 have main:Sat (runF prog W (d+9) i_law [.p (.lst (ns.map .int))] []) fun v _=>v=.p (.bl true):=by
  rw [zb3 (fd:=f_law) rfl rfl,sat_bind];simp! only [f_law,zW5]
  apply za4
  have i12:(8:Int)≤SZ:=zu9 (by lia)
  simp! [i12]
  refine (zo5 (N5 ns) _ _ _ ⟨⟨_,_,_,_,_,_,_,_,rfl⟩,?_⟩ ?_).mono ?_
  ·intro x hx
   obtain ⟨k,hk,rfl⟩:=List.mem_map.mp hx
   have:=List.mem_range.mp hk
   exact ⟨k,by lia,rfl⟩
  ·rintro x r env s ⟨⟨x1,x2,x3,x4,x5,x6,x7,x8,rfl⟩,hx⟩
   obtain ⟨k,hk,rfl⟩:=hx x (by simp)
   refine ⟨_,rfl,?_⟩
   refine (body_sat hW ns h63 k hk s x2 x3 x4 x5 x6 x7 x8).mono ?_
   rintro _ s2 ⟨y2,y3,y4,y5,y6,y7,y8,rfl⟩
   exact ⟨_,rfl,⟨_,_,_,_,_,_,_,_,rfl⟩,fun y hy=>hx y (List.mem_cons_of_mem _ hy)⟩
  ·rintro _ s2 ⟨env2,rfl,⟨x1,x2,x3,x4,x5,x6,x7,x8,rfl⟩,_⟩
   apply za4
   simp! []
 obtain ⟨v,st,h,rfl⟩:=zu1.mp main
 exact ⟨st,h⟩
open PySem L2 OR PySem.SeqAt PyProof.Rows
noncomputable def top (i:Nat):Stmt:=PySem.Challenge.pw_onlyrise_k06_met_and_below.main.body.getD i (.Pass ⟨0,0,0,0⟩)
noncomputable abbrev zd1:Stmt:=top 1
noncomputable abbrev zf6:Stmt:=top 3
noncomputable abbrev zy1:Stmt:=top 4
noncomputable abbrev zl0:Stmt:=top 5
noncomputable abbrev zc8:Stmt:=top 6
noncomputable abbrev zc2:Stmt:=top 7
noncomputable abbrev zh0:Stmt:=top 9
noncomputable abbrev zg9:Stmt:=top 10
noncomputable abbrev ze3:Stmt:=top 11
noncomputable abbrev zh1:Stmt:=top 12
noncomputable abbrev zg7:Stmt:=top 13
noncomputable abbrev zg2:Stmt:=top 14
noncomputable abbrev zd9:Stmt:=top 15
noncomputable abbrev zd4:Stmt:=top 16
noncomputable abbrev ze4:Stmt:=top 17
noncomputable abbrev zc5:Stmt:=top 18
noncomputable abbrev ze0:Stmt:=top 19
noncomputable abbrev zg0:Stmt:=top 20
noncomputable abbrev zi0:Stmt:=top 21
noncomputable abbrev zh9:Stmt:=top 22
noncomputable abbrev ze1:Stmt:=top 23
noncomputable abbrev zf7:Stmt:=top 24
noncomputable abbrev zt6:Stmt:=top 25
theorem zj4:FnScope ["pairs", "name", "found", "seen", "lower", "higher"] ["pairs", "name"] (defScope zd1):=⟨rfl,rfl,rfl,by decide +kernel,rfl,by decide +kernel,by decide +kernel⟩
theorem zA0:FnScope ["order", "one", "other", "sort"] ["order", "one", "other"] (defScope zf6):=⟨rfl,rfl,rfl,by decide +kernel,rfl,by decide +kernel,by decide +kernel⟩
theorem sc_met:FnScope ["order", "one", "other"] ["order", "one", "other"] (defScope zy1):=⟨rfl,rfl,rfl,by decide +kernel,rfl,by decide +kernel,by decide +kernel⟩
theorem zJ3:FnScope ["order", "height", "sort", "place"] ["order", "height"] (defScope zl0):=⟨rfl,rfl,rfl,by decide +kernel,rfl,by decide +kernel,by decide +kernel⟩
theorem zA3:FnScope ["names", "height"] ["names", "height"] (defScope zc8):=⟨rfl,rfl,rfl,by decide +kernel,rfl,by decide +kernel,by decide +kernel⟩
theorem zm0:FnScope ["names", "pairs", "height", "over", "lower"] ["names", "pairs", "height"] (defScope zc2):=⟨rfl,rfl,rfl,by decide +kernel,rfl,by decide +kernel,by decide +kernel⟩
theorem zu0:FnScope ["_law_script", "_law_k", "_law_cell"] ["_law_script", "_law_k"] (defScope zh0):=⟨rfl,rfl,rfl,by decide +kernel,rfl,by decide +kernel,by decide +kernel⟩
theorem zm7:FnScope ["_law_well_here", "_law_many", "_law_turn", "_law_left", "_law_here", "_law_mixed"] ["_law_well_here", "_law_many"] (defScope zg9):=⟨rfl,rfl,rfl,by decide +kernel,rfl,by decide +kernel,by decide +kernel⟩
theorem zd8:FnScope ["_law_well_here", "_law_many", "_law_letters", "_law_way", "_law_start", "_law_names_here", "_law_size", "_law_at", "_law_head", "_law_tail", "_law_turn"] ["_law_well_here", "_law_many"] (defScope ze3):=⟨rfl,rfl,rfl,by decide +kernel,rfl,by decide +kernel,by decide +kernel⟩
theorem zj3:FnScope ["_law_well_here", "_law_some_here", "_law_rows", "_law_many", "_law_names_here", "_law_shift", "_law_at", "_law_called", "_law_pairs"] ["_law_well_here"] (defScope zh1):=⟨rfl,rfl,rfl,by decide +kernel,rfl,by decide +kernel,by decide +kernel⟩
theorem zC8:FnScope ["_law_well_here", "_law_way"] ["_law_well_here"] (defScope zg7):=⟨rfl,rfl,rfl,by decide +kernel,rfl,by decide +kernel,by decide +kernel⟩
theorem zQ0:FnScope ["_law_well_here"] ["_law_well_here"] (defScope zg2):=⟨rfl,rfl,rfl,by decide +kernel,rfl,by decide +kernel,by decide +kernel⟩
theorem zn5:FnScope ["_law_well_here", "_law_way", "_law_parts"] ["_law_well_here"] (defScope zd9):=⟨rfl,rfl,rfl,by decide +kernel,rfl,by decide +kernel,by decide +kernel⟩
theorem zl3:FnScope ["_law_well_here", "_law_order_here", "_law_word", "_law_number"] ["_law_well_here", "_law_order_here"] (defScope zd4):=⟨rfl,rfl,rfl,by decide +kernel,rfl,by decide +kernel,by decide +kernel⟩
theorem zk2:FnScope ["_law_order_here", "_law_found", "_law_name", "_law_some_here", "_law_k"] ["_law_order_here"] (defScope ze4):=⟨rfl,rfl,rfl,by decide +kernel,rfl,by decide +kernel,by decide +kernel⟩
theorem zr6:FnScope ["_law_order_here", "_law_one", "_law_other", "_law_word"] ["_law_order_here", "_law_one", "_law_other"] (defScope zc5):=⟨rfl,rfl,rfl,by decide +kernel,rfl,by decide +kernel,by decide +kernel⟩
theorem zr5:FnScope ["_law_order_here", "_law_word", "_law_over"] ["_law_order_here"] (defScope ze0):=⟨rfl,rfl,rfl,by decide +kernel,rfl,by decide +kernel,by decide +kernel⟩
theorem zm2:FnScope ["_law_well_here", "_law_order_here", "_law_height_here", "_law_word", "_law_at", "_law_near_here"] ["_law_well_here", "_law_order_here", "_law_height_here"] (defScope zg0):=⟨rfl,rfl,rfl,by decide +kernel,rfl,by decide +kernel,by decide +kernel⟩
theorem zs4:FnScope ["_law_order_here", "_law_found", "_law_name"] ["_law_order_here"] (defScope zi0):=⟨rfl,rfl,rfl,by decide +kernel,rfl,by decide +kernel,by decide +kernel⟩
theorem zY4:FnScope ["_law_order_here", "_law_one", "_law_other"] ["_law_order_here", "_law_one", "_law_other"] (defScope zh9):=⟨rfl,rfl,rfl,by decide +kernel,rfl,by decide +kernel,by decide +kernel⟩
theorem zk9:FnScope ["_law_order_here", "_law_height_here", "_law_word", "_law_rest", "_law_firsts", "_law_one"] ["_law_order_here", "_law_height_here"] (defScope ze1):=⟨rfl,rfl,rfl,by decide +kernel,rfl,by decide +kernel,by decide +kernel⟩
theorem zt3:FnScope ["_law_well_here", "_law_order_here", "_law_some_here", "_law_more"] ["_law_well_here", "_law_order_here"] (defScope zf7):=⟨rfl,rfl,rfl,by decide +kernel,rfl,by decide +kernel,by decide +kernel⟩
theorem zv9:FnScope ["_law_script", "_law_k", "_law_well_here", "_law_names_here", "_law_order_here", "_law_some_here", "_law_kept", "_law_one", "_law_other"] ["_law_script"] (defScope zt6):=⟨rfl,rfl,rfl,by decide +kernel,rfl,by decide +kernel,by decide +kernel⟩
theorem nd0:(["part", "first", "second"]:List Str).Nodup:=by decide +kernel
theorem nd1:(["one", "name"]:List Str).Nodup:=by decide +kernel
theorem nd2:(["one", "other", "name"]:List Str).Nodup:=by decide +kernel
theorem nd3:(["height", "name"]:List Str).Nodup:=by decide +kernel
theorem nd4:(["pairs", "name", "other"]:List Str).Nodup:=by decide +kernel
theorem nd5:(["pairs", "lower", "name"]:List Str).Nodup:=by decide +kernel
theorem nd6:(["over", "name"]:List Str).Nodup:=by decide +kernel
theorem nd7:(["_law_letters", "_law_start", "_law_head", "_law_tail", "_law_k"]:List Str).Nodup:=by decide +kernel
theorem nd8:(["_law_letters", "_law_start", "_law_k"]:List Str).Nodup:=by decide +kernel
theorem nd9:(["_law_called", "_law_one", "_law_other"]:List Str).Nodup:=by decide +kernel
theorem nd10:(["_law_pair"]:List Str).Nodup:=by decide +kernel
theorem nd11:(["_law_well_here", "_law_k"]:List Str).Nodup:=by decide +kernel
theorem nd12:(["_law_well_here", "_law_k"]:List Str).Nodup:=by decide +kernel
theorem nd13:(["_law_well_here", "_law_k"]:List Str).Nodup:=by decide +kernel
theorem nd14:(["_law_well_here", "_law_part"]:List Str).Nodup:=by decide +kernel
theorem nd15:(["_law_well_here", "_law_name"]:List Str).Nodup:=by decide +kernel
theorem nd16:(["_law_some_here", "_law_one"]:List Str).Nodup:=by decide +kernel
theorem nd17:(["_law_some_here", "_law_pair"]:List Str).Nodup:=by decide +kernel
theorem nd18:(["_law_order_here", "_law_one", "_law_other", "_law_k"]:List Str).Nodup:=by decide +kernel
theorem nd19:(["_law_one", "_law_name"]:List Str).Nodup:=by decide +kernel
theorem nd20:(["_law_part"]:List Str).Nodup:=by decide +kernel
theorem nd21:(["_law_order_here", "_law_over", "_law_name"]:List Str).Nodup:=by decide +kernel
theorem nd22:(["_law_order_here", "_law_height_here", "_law_at", "_law_name"]:List Str).Nodup:=by decide +kernel
theorem nd23:(["_law_name", "_law_one"]:List Str).Nodup:=by decide +kernel
theorem nd24:(["_law_other", "_law_name"]:List Str).Nodup:=by decide +kernel
theorem nd25:(["_law_order_here", "_law_one", "_law_other"]:List Str).Nodup:=by decide +kernel
theorem nd26:(["_law_order_here", "_law_height_here", "_law_one"]:List Str).Nodup:=by decide +kernel
theorem nd27:(["_law_well_here", "_law_order_here", "_law_height_here"]:List Str).Nodup:=by decide +kernel
theorem nd28:(["_law_well_here", "_law_order_here", "_law_j"]:List Str).Nodup:=by decide +kernel
theorem bb_all:bootBuiltins "all" = some (.builtin "all"):=by decide +kernel
theorem bb_int:bootBuiltins "int" = some (.type "int"):=by decide +kernel
theorem zm9:bootBuiltins "len" = some (.builtin "len"):=by decide +kernel
theorem zQ5:bootBuiltins "list" = some (.type "list"):=by decide +kernel
theorem zK0:bootBuiltins "max" = some (.builtin "max"):=by decide +kernel
theorem zw8:bootBuiltins "repr" = some (.builtin "repr"):=by decide +kernel
theorem zh5:bootBuiltins "tuple" = some (.type "tuple"):=by decide +kernel
theorem bb_zip:bootBuiltins "zip" = some (.type "zip"):=by decide +kernel
structure Md (K:PySem.W.Frag) (mg:Str→Option Value) (f:Nat→Addr) (fd:Nat→FuncData):Prop where
 m0:mg "names_over" = some (.ref (f 0))
 F0:Fun K "names_over" "names_over" zd1 (f 0) (fd 0)
 b0:Binds K (fd 0) ["pairs", "name"] []
 m1:mg "at_least" = some (.ref (f 1))
 F1:Fun K "at_least" "at_least" zf6 (f 1) (fd 1)
 b1:Binds K (fd 1) ["order", "one", "other"] []
 m2:mg "met" = some (.ref (f 2))
 F2:Fun K "met" "met" zy1 (f 2) (fd 2)
 b2:Binds K (fd 2) ["order", "one", "other"] []
 m3:mg "below" = some (.ref (f 3))
 F3:Fun K "below" "below" zl0 (f 3) (fd 3)
 b3:Binds K (fd 3) ["order", "height"] []
 m4:mg "below_in_set" = some (.ref (f 4))
 F4:Fun K "below_in_set" "below_in_set" zc8 (f 4) (fd 4)
 b4:Binds K (fd 4) ["names", "height"] []
 m5:mg "below_in_web" = some (.ref (f 5))
 F5:Fun K "below_in_web" "below_in_web" zc2 (f 5) (fd 5)
 b5:Binds K (fd 5) ["names", "pairs", "height"] []
 m6:mg "_law_well" = some (.ref (f 6))
 F6:Fun K "_law_well" "_law_well" zh0 (f 6) (fd 6)
 b6:Binds K (fd 6) ["_law_script", "_law_k"] []
 m7:mg "_law_draw" = some (.ref (f 7))
 F7:Fun K "_law_draw" "_law_draw" zg9 (f 7) (fd 7)
 b7:Binds K (fd 7) ["_law_well_here", "_law_many"] []
 m8:mg "_law_names" = some (.ref (f 8))
 F8:Fun K "_law_names" "_law_names" ze3 (f 8) (fd 8)
 b8:Binds K (fd 8) ["_law_well_here", "_law_many"] []
 m9:mg "_law_web" = some (.ref (f 9))
 F9:Fun K "_law_web" "_law_web" zh1 (f 9) (fd 9)
 b9:Binds K (fd 9) ["_law_well_here"] []
 m10:mg "_law_flat" = some (.ref (f 10))
 F10:Fun K "_law_flat" "_law_flat" zg7 (f 10) (fd 10)
 b10:Binds K (fd 10) ["_law_well_here"] []
 m11:mg "_law_nest" = some (.ref (f 11))
 F11:Fun K "_law_nest" "_law_nest" zg2 (f 11) (fd 11)
 b11:Binds K (fd 11) ["_law_well_here"] []
 m12:mg "_law_order" = some (.ref (f 12))
 F12:Fun K "_law_order" "_law_order" zd9 (f 12) (fd 12)
 b12:Binds K (fd 12) ["_law_well_here"] []
 m13:mg "_law_height" = some (.ref (f 13))
 F13:Fun K "_law_height" "_law_height" zd4 (f 13) (fd 13)
 b13:Binds K (fd 13) ["_law_well_here", "_law_order_here"] []
 m14:mg "_law_overs" = some (.ref (f 14))
 F14:Fun K "_law_overs" "_law_overs" ze4 (f 14) (fd 14)
 b14:Binds K (fd 14) ["_law_order_here"] []
 m15:mg "_law_at_least" = some (.ref (f 15))
 F15:Fun K "_law_at_least" "_law_at_least" zc5 (f 15) (fd 15)
 b15:Binds K (fd 15) ["_law_order_here", "_law_one", "_law_other"] []
 m16:mg "_law_least" = some (.ref (f 16))
 F16:Fun K "_law_least" "_law_least" ze0 (f 16) (fd 16)
 b16:Binds K (fd 16) ["_law_order_here"] []
 m17:mg "_law_near" = some (.ref (f 17))
 F17:Fun K "_law_near" "_law_near" zg0 (f 17) (fd 17)
 b17:Binds K (fd 17) ["_law_well_here", "_law_order_here", "_law_height_here"] []
 m18:mg "_law_all" = some (.ref (f 18))
 F18:Fun K "_law_all" "_law_all" zi0 (f 18) (fd 18)
 b18:Binds K (fd 18) ["_law_order_here"] []
 m19:mg "_law_met" = some (.ref (f 19))
 F19:Fun K "_law_met" "_law_met" zh9 (f 19) (fd 19)
 b19:Binds K (fd 19) ["_law_order_here", "_law_one", "_law_other"] []
 m20:mg "_law_below" = some (.ref (f 20))
 F20:Fun K "_law_below" "_law_below" ze1 (f 20) (fd 20)
 b20:Binds K (fd 20) ["_law_order_here", "_law_height_here"] []
 m21:mg "_law_some" = some (.ref (f 21))
 F21:Fun K "_law_some" "_law_some" zf7 (f 21) (fd 21)
 b21:Binds K (fd 21) ["_law_well_here", "_law_order_here"] []
 m22:mg "law" = some (.ref (f 22))
 F22:Fun K "law" "law" zt6 (f 22) (fd 22)
 b22:Binds K (fd 22) ["_law_script"] []
 z_all:mg "all" = none
 z_int:mg "int" = none
 z_len:mg "len" = none
 z_list:mg "list" = none
 z_max:mg "max" = none
 z_range:mg "range" = none
 z_repr:mg "repr" = none
 z_tuple:mg "tuple" = none
 z_zip:mg "zip" = none
structure Ih (P:Program) (w:World) (K:PySem.W.Frag) (mg:Str→Option Value) (base:Heap) (f:Nat→Addr) (fd:Nat→FuncData) (W d:Nat):Prop where
 h0:FnOk P w K mg base CX0 d (f 0) (fd 0) ["pairs", "name"] (spF K prog W d 0 2)
 h1:FnOk P w K mg base CX0 d (f 1) (fd 1) ["order", "one", "other"] (spF K prog W d 1 3)
 h2:FnOk P w K mg base CX0 d (f 2) (fd 2) ["order", "one", "other"] (spF K prog W d 2 3)
 h3:FnOk P w K mg base CX0 d (f 3) (fd 3) ["order", "height"] (spF K prog W d 3 2)
 h4:FnOk P w K mg base CX0 d (f 4) (fd 4) ["names", "height"] (spF K prog W d 4 2)
 h5:FnOk P w K mg base CX0 d (f 5) (fd 5) ["names", "pairs", "height"] (spF K prog W d 5 3)
 h6:FnOk P w K mg base CX0 d (f 6) (fd 6) ["_law_script", "_law_k"] (spF K prog W d 6 2)
 h7:FnOk P w K mg base CX0 d (f 7) (fd 7) ["_law_well_here", "_law_many"] (spF K prog W d 7 2)
 h8:FnOk P w K mg base CX0 d (f 8) (fd 8) ["_law_well_here", "_law_many"] (spF K prog W d 8 2)
 h9:FnOk P w K mg base CX0 d (f 9) (fd 9) ["_law_well_here"] (spF K prog W d 9 1)
 h10:FnOk P w K mg base CX0 d (f 10) (fd 10) ["_law_well_here"] (spF K prog W d 10 1)
 h11:FnOk P w K mg base CX0 d (f 11) (fd 11) ["_law_well_here"] (spF K prog W d 11 1)
 h12:FnOk P w K mg base CX0 d (f 12) (fd 12) ["_law_well_here"] (spF K prog W d 12 1)
 h13:FnOk P w K mg base CX0 d (f 13) (fd 13) ["_law_well_here", "_law_order_here"] (spF K prog W d 13 2)
 h14:FnOk P w K mg base CX0 d (f 14) (fd 14) ["_law_order_here"] (spF K prog W d 14 1)
 h15:FnOk P w K mg base CX0 d (f 15) (fd 15) ["_law_order_here", "_law_one", "_law_other"] (spF K prog W d 15 3)
 h16:FnOk P w K mg base CX0 d (f 16) (fd 16) ["_law_order_here"] (spF K prog W d 16 1)
 h17:FnOk P w K mg base CX0 d (f 17) (fd 17) ["_law_well_here", "_law_order_here", "_law_height_here"] (spF K prog W d 17 3)
 h18:FnOk P w K mg base CX0 d (f 18) (fd 18) ["_law_order_here"] (spF K prog W d 18 1)
 h19:FnOk P w K mg base CX0 d (f 19) (fd 19) ["_law_order_here", "_law_one", "_law_other"] (spF K prog W d 19 3)
 h20:FnOk P w K mg base CX0 d (f 20) (fd 20) ["_law_order_here", "_law_height_here"] (spF K prog W d 20 2)
 h21:FnOk P w K mg base CX0 d (f 21) (fd 21) ["_law_well_here", "_law_order_here"] (spF K prog W d 21 2)
 h22:FnOk P w K mg base CX0 d (f 22) (fd 22) ["_law_script"] (spF K prog W d 22 1)
section
variable {P:Program} {w:World} {K:PySem.W.Frag} {mg:Str→Option Value} {base:Heap} {f:Nat→Addr} {fd:Nat→FuncData} {W d:Nat} {cdv:Value} {A:Around} {outer:List PySem.Env} {s:Shared} {H:Hp} {E:XK}
theorem zM0 (M:Md K mg f fd) (ih:Ih P w K mg base f fd W d) (hr:Room d (A.deeper (envOfC "names_over" (defScope zd1) s.heap.objs.size (f 0) cdv))) :
    JSs (cxOf CX0 P w K mg base ["pairs", "name", "found", "seen", "lower", "higher"] "names_over" (defScope zd1) (f 0) cdv A outer s H E).nox (runF prog W d) W (defBody zd1) zq9 :=
  have hu1:=zm3 hr
  have hu2:=zm8 hr
  have hgd:=hr.gd
  (za1 (zb7 (i:=2) zj4.nd rfl (by trivial) (zr9 (zH9 (za0 (jsv 1) za3) (by decide) rfl)))
    (za1 (zb7 (i:=3) zj4.nd rfl (by trivial) za2)
    (za1 (jss_while PassesOwn.never (za9 o_lt (jsv 3) (zc1 zt8 (fun _ _=>ev_blt) rfl M.z_len zm9 (za0 (jsv 2) za3)) (zb4 _) fun _ _=>ev_cmp)
     (za1 (zp6 PassesOwn.never rfl (ze5 (jsv 0)) (zQ7 rfl (zm1 (i:=4) zj4.nd rfl (by trivial) (zm1 (i:=5) zj4.nd rfl (by trivial) zI5)))
      (za1 (zc4 (zA5 (zH3 (za9 (zk7 hu2) (jsv 4) (zb2 hu1 (jsv 2) (jsv 3) (fun _ _=>rfl)) (zb4 _) fun _ _=>ev_cmp) (zz4 (za9 (zx6 hu2) (jsv 5) (jsv 2) (by with_unfolding_all rfl) fun _ _=>ev_cmp))))
       (za1 (zn2 (zu4 PySem.F.slot_list_append PySem.F.type_list_append zs5 (jsv 2) (za0 (jsv 5) za3) zs3))
       za6)
       za6)
      za6))
     (za1 (jss_aug ipi_add (i:=3) zj4.nd rfl (by trivial) za2 hb_add)
     za6)))
    (za1 (zb1 (zV7 (jsv 2)))
    za6))))
theorem zY6 (M:Md K mg f fd) (ih:Ih P w K mg base f fd W d) (hr:Room d (A.deeper (envOfC "at_least" (defScope zf6) s.heap.objs.size (f 1) cdv))) :
    JSs (cxOf CX0 P w K mg base ["order", "one", "other", "sort"] "at_least" (defScope zf6) (f 1) cdv A outer s H E).nox (runF prog W d) W (defBody zf6) zj6 :=
  have hu1:=zm3 hr
  have hu2:=zm8 hr
  have hgd:=hr.gd
  (za1 (zb7 (i:=3) zA0.nd rfl (by trivial) (zb2 hu1 (jsv 0) za2 (fun _ _=>rfl)))
    (za1 (zc4 (za9 (zk7 hu2) (jsv 3) (zb0 (cs:=[110,117,109])) (zb4 _) fun _ _=>ev_cmp)
     (za1 (zb1 (zg5 o_ge (jsv 1) (jsv 2) (zb4 _) fun _ _=>ev_cmp))
     za6)
     za6)
    (za1 (zc4 (za9 (zk7 hu2) (jsv 3) (zb0 (cs:=[108,111,119])) (zb4 _) fun _ _=>ev_cmp)
     (za1 (zb1 (jse_or (zg5 o_is (jsv 2) zp5 (zb4 _) fun _ _=>ev_cmp) (zy0 (zQ2 (zg5 o_isnot (jsv 1) zp5 (zb4 _) fun _ _=>ev_cmp) (zy0 (zg5 o_le (jsv 1) (jsv 2) (zb4 _) fun _ _=>ev_cmp))))))
     za6)
     za6)
    (za1 (zc4 (za9 (zk7 hu2) (jsv 3) (zb0 (cs:=[99,104,97,105,110])) (zb4 _) fun _ _=>ev_cmp)
     (za1 (zb1 (zg5 o_ge (zq4 hu2 (zb2 hu1 (jsv 0) za2 (fun _ _=>rfl)) (za0 (jsv 1) za3)) (zq4 hu2 (zb2 hu1 (jsv 0) za2 (fun _ _=>rfl)) (za0 (jsv 2) za3)) (zb4 _) fun _ _=>ev_cmp))
     za6)
     za6)
    (za1 (zc4 (za9 (zk7 hu2) (jsv 3) (zb0 (cs:=[115,101,116])) (zb4 _) fun _ _=>ev_cmp)
     (za1 (zb1 (zc1 (n_all rfl) (fun _ _=>ev_blt) rfl M.z_all bb_all (za0 (zd2 (N:=["one", "name"]) rfl (zc7 (up:=defScope zf6) (XN:=["order", "one", "other", "sort"]) rfl rfl (by decide +kernel)) (ze5 (jsv 2)) (fun _ _ _ _ _=>zc0 (i:=1) nd1 rfl (by trivial)) (fun _ _ _ _ _=>zr7) (fun _ _ _ _ _=>(zg5 (zY7 hu2) (jsv 1) (jsv 0) (by with_unfolding_all rfl) fun _ _=>ev_cmp))) za3)))
     za6)
     za6)
    (za1 (zc4 (za9 (zk7 hu2) (jsv 3) (zb0 (cs:=[119,101,98])) (zb4 _) fun _ _=>ev_cmp)
     (za1 (zb1 (zg5 (zY7 hu2) (jsv 1) (za7 (ps:=["pairs", "name"]) ih.h0 hr rfl M.m0 M.F0.kp M.b0 (za0 (zb2 hu1 (jsv 0) za2 (fun _ _=>rfl)) (za0 (jsv 2) za3)) rfl) (by with_unfolding_all rfl) fun _ _=>ev_cmp))
     za6)
     za6)
    (za1 (zc4 (za9 (zk7 hu2) (jsv 3) (zb0 (cs:=[114,111,119])) (zb4 _) fun _ _=>ev_cmp)
     (za1 (zb1 (zc1 (n_all rfl) (fun _ _=>ev_blt) rfl M.z_all bb_all (za0 (zd2 (N:=["part", "first", "second"]) rfl (zc7 (up:=defScope zf6) (XN:=["order", "one", "other", "sort"]) rfl rfl (by decide +kernel)) (jsi_zip (Or.inr rfl) rfl M.z_zip bb_zip (za0 (zb2 hu1 (jsv 0) za2 (fun _ _=>rfl)) (za0 (jsv 1) (za0 (jsv 2) za3)))) (fun _ _ _ _ _=>zQ7 rfl (zm1 (i:=0) nd0 rfl (by trivial) (zm1 (i:=1) nd0 rfl (by trivial) (zm1 (i:=2) nd0 rfl (by trivial) zI5)))) (fun _ _ _ _ _=>zr7) (fun _ _ _ _ _=>(za7 (ps:=["order", "one", "other"]) ih.h1 hr rfl M.m1 M.F1.kp M.b1 (za0 (jsv 0) (za0 (jsv 1) (za0 (jsv 2) za3))) rfl))) za3)))
     za6)
     za6)
    (za1 (zb1 (jse_or (zg5 o_gt (zb2 hu1 (jsv 1) za2 (fun _ _=>rfl)) (zb2 hu1 (jsv 2) za2 (fun _ _=>rfl)) (zb4 _) fun _ _=>ev_cmp) (zy0 (zQ2 (zg5 (zk7 hu2) (zb2 hu1 (jsv 1) za2 (fun _ _=>rfl)) (zb2 hu1 (jsv 2) za2 (fun _ _=>rfl)) (zb4 _) fun _ _=>ev_cmp) (zy0 (za7 (ps:=["order", "one", "other"]) ih.h1 hr rfl M.m1 M.F1.kp M.b1 (za0 (zb2 hu1 (jsv 0) za2 (fun _ _=>rfl)) (za0 (zb2 hu1 (jsv 1) za2 (fun _ _=>rfl)) (za0 (zb2 hu1 (jsv 2) za2 (fun _ _=>rfl)) za3))) rfl))))))
    za6))))))))
theorem d_met (M:Md K mg f fd) (ih:Ih P w K mg base f fd W d) (hr:Room d (A.deeper (envOfC "met" (defScope zy1) s.heap.objs.size (f 2) cdv))) :
    JSs (cxOf CX0 P w K mg base ["order", "one", "other"] "met" (defScope zy1) (f 2) cdv A outer s H E).nox (runF prog W d) W (defBody zy1) b_met :=
  have hu1:=zm3 hr
  have hu2:=zm8 hr
  have hgd:=hr.gd
  (za1 (zc4 (za9 (zk7 hu2) (zb2 hu1 (jsv 0) za2 (fun _ _=>rfl)) (zb0 (cs:=[115,101,116])) (zb4 _) fun _ _=>ev_cmp)
     (za1 (zb1 (zc9 zj1 (fun _ _=>ev_blt) rfl M.z_tuple zh5 (za0 (zd2 (N:=["one", "other", "name"]) rfl (zc7 (up:=defScope zy1) (XN:=["order", "one", "other"]) rfl rfl (by decide +kernel)) (ze5 (zb2 hu1 (jsv 0) za2 (fun _ _=>rfl))) (fun _ _ _ _ _=>zc0 (i:=2) nd2 rfl (by trivial)) (fun _ _ _ _ _=>(zy5 (zA5 (zH3 (za9 (zY7 hu2) (jsv 2) (jsv 0) (by with_unfolding_all rfl) fun _ _=>ev_cmp) (zz4 (za9 (zY7 hu2) (jsv 2) (jsv 1) (by with_unfolding_all rfl) fun _ _=>ev_cmp)))))) (fun _ _ _ _ _=>(jsv 2))) za3)))
     za6)
     za6)
    (za1 (zb1 (zo3 (zI3 (za7 (ps:=["order", "one", "other"]) ih.h1 hr rfl M.m1 M.F1.kp M.b1 (za0 (jsv 0) (za0 (jsv 1) (za0 (jsv 2) za3))) rfl)) (jsv 2) (jsv 1)))
    za6))
theorem d_below (M:Md K mg f fd) (ih:Ih P w K mg base f fd W d) (hr:Room d (A.deeper (envOfC "below" (defScope zl0) s.heap.objs.size (f 3) cdv))) :
    JSs (cxOf CX0 P w K mg base ["order", "height", "sort", "place"] "below" (defScope zl0) (f 3) cdv A outer s H E).nox (runF prog W d) W (defBody zl0) zp9 :=
  have hu1:=zm3 hr
  have hu2:=zm8 hr
  have hgd:=hr.gd
  (za1 (zb7 (i:=2) zJ3.nd rfl (by trivial) (zb2 hu1 (jsv 0) za2 (fun _ _=>rfl)))
    (za1 (zc4 (za9 (zk7 hu2) (jsv 2) (zb0 (cs:=[110,117,109])) (zb4 _) fun _ _=>ev_cmp)
     (za1 (zb1 (zo3 (za9 o_gt (jsv 1) za2 (zb4 _) fun _ _=>ev_cmp) (za8 (za0 (zb9 zV9 (jsv 1) za2 fun _ _=>ev_bin) za3)) (za8 za3)))
     za6)
     za6)
    (za1 (zc4 (za9 (zk7 hu2) (jsv 2) (zb0 (cs:=[108,111,119])) (zb4 _) fun _ _=>ev_cmp)
     (za1 (zb1 (zo3 (za9 o_is (jsv 1) zp5 (zb4 _) fun _ _=>ev_cmp) (za8 za3) (za8 (za0 (zb9 zi2 (jsv 1) za2 fun _ _=>ev_bin) za3))))
     za6)
     za6)
    (za1 (zc4 (za9 (zk7 hu2) (jsv 2) (zb0 (cs:=[99,104,97,105,110])) (zb4 _) fun _ _=>ev_cmp)
     (za1 (zb7 (i:=3) zJ3.nd rfl (by trivial) (zq4 hu2 (zb2 hu1 (jsv 0) za2 (fun _ _=>rfl)) (za0 (jsv 1) za3)))
     (za1 (zb1 (zo3 (za9 o_gt (jsv 3) za2 (zb4 _) fun _ _=>ev_cmp) (za8 (za0 (zb2 hu1 (zb2 hu1 (jsv 0) za2 (fun _ _=>rfl)) (zb9 zV9 (jsv 3) za2 fun _ _=>ev_bin) (fun _ _=>rfl)) za3)) (za8 za3)))
     za6))
     za6)
    (za1 (zc4 (za9 (zk7 hu2) (jsv 2) (zb0 (cs:=[115,101,116])) (zb4 _) fun _ _=>ev_cmp)
     (za1 (zb1 (za7 (ps:=["names", "height"]) ih.h4 hr rfl M.m4 M.F4.kp M.b4 (za0 (zb2 hu1 (jsv 0) za2 (fun _ _=>rfl)) (za0 (jsv 1) za3)) rfl))
     za6)
     za6)
    (za1 (zc4 (za9 (zk7 hu2) (jsv 2) (zb0 (cs:=[119,101,98])) (zb4 _) fun _ _=>ev_cmp)
     (za1 (zb1 (za7 (ps:=["names", "pairs", "height"]) ih.h5 hr rfl M.m5 M.F5.kp M.b5 (za0 (zb2 hu1 (jsv 0) za2 (fun _ _=>rfl)) (za0 (zb2 hu1 (jsv 0) za2 (fun _ _=>rfl)) (za0 (jsv 1) za3))) rfl))
     za6)
     za6)
    (za1 (zb1 (za8 za3))
    za6)))))))
theorem zE1 (M:Md K mg f fd) (ih:Ih P w K mg base f fd W d) (hr:Room d (A.deeper (envOfC "below_in_set" (defScope zc8) s.heap.objs.size (f 4) cdv))) :
    JSs (cxOf CX0 P w K mg base ["names", "height"] "below_in_set" (defScope zc8) (f 4) cdv A outer s H E).nox (runF prog W d) W (defBody zc8) zn8 :=
  have hu1:=zm3 hr
  have hu2:=zm8 hr
  have hgd:=hr.gd
  (za1 (zc4 (za9 (o_ne hu2) (zc1 zt8 (fun _ _=>ev_blt) rfl M.z_len zm9 (za0 (jsv 1) za3)) za2 (zb4 _) fun _ _=>ev_cmp)
     (za1 (zb1 (za8 za3))
     za6)
     za6)
    (za1 (zb1 (za8 (za0 (zc9 zj1 (fun _ _=>ev_blt) rfl M.z_tuple zh5 (za0 (zd2 (N:=["height", "name"]) rfl (zc7 (up:=defScope zc8) (XN:=["names", "height"]) rfl rfl (by decide +kernel)) (ze5 (jsv 0)) (fun _ _ _ _ _=>zc0 (i:=1) nd3 rfl (by trivial)) (fun _ _ _ _ _=>(zy5 (za9 (o_ne hu2) (jsv 1) (zb2 hu1 (jsv 0) za2 (fun _ _=>rfl)) (zb4 _) fun _ _=>ev_cmp))) (fun _ _ _ _ _=>(jsv 1))) za3)) za3)))
    za6))
theorem zE2 (M:Md K mg f fd) (ih:Ih P w K mg base f fd W d) (hr:Room d (A.deeper (envOfC "below_in_web" (defScope zc2) s.heap.objs.size (f 5) cdv))) :
  JSs (cxOf CX0 P w K mg base ["names", "pairs", "height", "over", "lower"] "below_in_web" (defScope zc2) (f 5) cdv A outer s H E).nox (runF prog W d) W (defBody zc2) zo2 :=
 have hu1:=zm3 hr
 have hu2:=zm8 hr
 have hgd:=hr.gd
 (za1 (zb7 (i:=3) zm0.nd rfl (by trivial) (za7 (ps:=["pairs", "name"]) ih.h0 hr rfl M.m0 M.F0.kp M.b0 (za0 (jsv 1) (za0 (jsv 2) za3)) rfl))
  (za1 (zb7 (i:=4) zm0.nd rfl (by trivial) (zd2 (N:=["over", "name"]) rfl (zc7 (up:=defScope zc2) (XN:=["names", "pairs", "height", "over", "lower"]) rfl rfl (by decide +kernel)) (ze5 (jsv 0)) (fun _ _ _ _ _=>zc0 (i:=1) nd6 rfl (by trivial)) (fun _ _ _ _ _=>(zy5 (za9 (zx6 hu2) (jsv 1) (jsv 0) (by with_unfolding_all rfl) fun _ _=>ev_cmp))) (fun _ _ _ _ _=>(jsv 1))))
  (za1 (zb1 (zc9 zj1 (fun _ _=>ev_blt) rfl M.z_tuple zh5 (za0 (zd2 (N:=["pairs", "lower", "name"]) rfl (zc7 (up:=defScope zc2) (XN:=["names", "pairs", "height", "over", "lower"]) rfl rfl (by decide +kernel)) (ze5 (jsv 4)) (fun _ _ _ _ _=>zc0 (i:=2) nd5 rfl (by trivial)) (fun _ _ _ _ _=>(zy5 (zI3 (zc1 (n_all rfl) (fun _ _=>ev_blt) rfl M.z_all bb_all (za0 (zd2 (N:=["pairs", "name", "other"]) rfl (zY2 (up0:=defScope zc2) (XN:=["pairs", "lower", "name"]) rfl (by decide +kernel)) (ze5 (jsv 1)) (fun _ _ _ _ _=>zc0 (i:=2) nd4 rfl (by trivial)) (fun _ _ _ _ _=>zr7) (fun _ _ _ _ _=>(zg5 (zY7 hu2) (jsv 1) (za7 (ps:=["pairs", "name"]) ih.h0 hr rfl M.m0 M.F0.kp M.b0 (za0 (jsv 0) (za0 (jsv 2) za3)) rfl) (by with_unfolding_all rfl) fun _ _=>ev_cmp))) za3))))) (fun _ _ _ _ _=>(jsv 2))) za3)))
  za6)))
theorem zY1 (M:Md K mg f fd) (ih:Ih P w K mg base f fd W d) (hr:Room d (A.deeper (envOfC "_law_well" (defScope zh0) s.heap.objs.size (f 6) cdv))) :
    JSs (cxOf CX0 P w K mg base ["_law_script", "_law_k", "_law_cell"] "_law_well" (defScope zh0) (f 6) cdv A outer s H E).nox (runF prog W d) W (defBody zh0) zs1 :=
  have hu1:=zm3 hr
  have hu2:=zm8 hr
  have hgd:=hr.gd
  (za1 (zb7 (i:=2) zu0.nd rfl (by trivial) (zb9 zD8 za2 (jsv 1) fun _ _=>ev_bin))
    (za1 (zc4 (za9 o_gt (zc1 zt8 (fun _ _=>ev_blt) rfl M.z_len zm9 (za0 (jsv 0) za3)) za2 (zb4 _) fun _ _=>ev_cmp)
     (za1 (zb7 (i:=2) zu0.nd rfl (by trivial) (zb9 zi2 (zb2 hu1 (jsv 0) (zb9 zO8 (jsv 1) (zc1 zt8 (fun _ _=>ev_blt) rfl M.z_len zm9 (za0 (jsv 0) za3)) fun _ _=>ev_bin) (fun _ _=>rfl)) (zb9 zD8 za2 (zb9 zR3 (jsv 1) (zc1 zt8 (fun _ _=>ev_blt) rfl M.z_len zm9 (za0 (jsv 0) za3)) fun _ _=>ev_bin) fun _ _=>ev_bin) fun _ _=>ev_bin))
     za6)
     za6)
    (za1 (zb1 (zU4 (zq2 (zC6 (cs:=[99,101,108,108]) (by decide +kernel)) (jsv 2) (zq2 (zC6 (cs:=[108,101,102,116]) (by decide +kernel)) (zb9 zD8 (zc1 (zU0 rfl) (fun _ _=>ev_blt) rfl M.z_max zK0 (za0 za2 (za0 (jsv 2) za3))) (zc9 n_int (fun _ _=>ev_blt) rfl M.z_int bb_int (za0 (zg5 o_ge (jsv 2) (zb9 o_pow za2 za2 fun _ _=>ev_bin) (zb4 _) fun _ _=>ev_cmp) za3)) fun _ _=>ev_bin) (zq2 (zC6 (cs:=[116,117,114,110]) (by decide +kernel)) za2 jsp_nil))) rfl rfl rfl rfl (fun z=>nomatch z) (by decide) (by decide)))
    za6)))
theorem zV6 (M:Md K mg f fd) (ih:Ih P w K mg base f fd W d) (hr:Room d (A.deeper (envOfC "_law_draw" (defScope zg9) s.heap.objs.size (f 7) cdv))) :
    JSs (cxOf CX0 P w K mg base ["_law_well_here", "_law_many", "_law_turn", "_law_left", "_law_here", "_law_mixed"] "_law_draw" (defScope zg9) (f 7) cdv A outer s H E).nox (runF prog W d) W (defBody zg9) zs0 :=
  have hu1:=zm3 hr
  have hu2:=zm8 hr
  have hgd:=hr.gd
  (za1 (zb7 (i:=2) zm7.nd rfl (by trivial) (zb2 hu1 (jsv 0) (zb0 (cs:=[116,117,114,110])) (fun _ _=>rfl)))
    (za1 (zB7 hu1 (jsv 0) (zb0 (cs:=[116,117,114,110])) (zb9 zi2 (jsv 2) za2 fun _ _=>ev_bin))
    (za1 (zb7 (i:=3) zm7.nd rfl (by trivial) (zb2 hu1 (jsv 0) (zb0 (cs:=[108,101,102,116])) (fun _ _=>rfl)))
    (za1 (zc4 (za9 o_gt (jsv 3) za2 (zb4 _) fun _ _=>ev_cmp)
     (za1 (zB7 hu1 (jsv 0) (zb0 (cs:=[108,101,102,116])) (zb9 zR3 (jsv 3) (jsv 1) fun _ _=>ev_bin))
     (za1 (zb1 (zb9 zO8 (jsv 3) (jsv 1) fun _ _=>ev_bin))
     za6))
     za6)
    (za1 (zb7 (i:=4) zm7.nd rfl (by trivial) (zb9 zi2 (zb9 zi2 (zb9 zO8 (zb2 hu1 (jsv 0) (zb0 (cs:=[99,101,108,108])) (fun _ _=>rfl)) za2 fun _ _=>ev_bin) (zb9 zD8 (zb9 zD8 za2 (jsv 2) fun _ _=>ev_bin) (jsv 2) fun _ _=>ev_bin) fun _ _=>ev_bin) za2 fun _ _=>ev_bin))
    (za1 (zb7 (i:=5) zm7.nd rfl (by trivial) (zb9 zO8 (zb9 zD8 (jsv 4) (zb9 zi2 za2 (zb9 zD8 za2 (jsv 2) fun _ _=>ev_bin) fun _ _=>ev_bin) fun _ _=>ev_bin) za2 fun _ _=>ev_bin))
    (za1 (zb1 (zb9 zO8 (zb9 zR3 (zb9 zO8 (zb9 zi2 (zb9 zD8 (zb9 zR3 (jsv 5) za2 fun _ _=>ev_bin) za2 fun _ _=>ev_bin) (jsv 2) fun _ _=>ev_bin) za2 fun _ _=>ev_bin) za2 fun _ _=>ev_bin) (jsv 1) fun _ _=>ev_bin))
    za6)))))))
theorem zR0 (M:Md K mg f fd) (ih:Ih P w K mg base f fd W d) (hr:Room d (A.deeper (envOfC "_law_names" (defScope ze3) s.heap.objs.size (f 8) cdv))) :
    JSs (cxOf CX0 P w K mg base ["_law_well_here", "_law_many", "_law_letters", "_law_way", "_law_start", "_law_names_here", "_law_size", "_law_at", "_law_head", "_law_tail", "_law_turn"] "_law_names" (defScope ze3) (f 8) cdv A outer s H E).nox (runF prog W d) W (defBody ze3) zk0 :=
  have hu1:=zm3 hr
  have hu2:=zm8 hr
  have hgd:=hr.gd
  (za1 (zb7 (i:=2) zd8.nd rfl (by trivial) (zb9 zD8 (zb0 (cs:=[97,98,99,100,101,102,103,104,105,106,107,108,109,110,111,112,113,114,115,116,117,118,119,120,121,122])) za2 fun _ _=>ev_bin))
    (za1 (zb7 (i:=3) zd8.nd rfl (by trivial) (za7 (ps:=["_law_well_here", "_law_many"]) ih.h7 hr rfl M.m7 M.F7.kp M.b7 (za0 (jsv 0) (za0 za2 za3)) rfl))
    (za1 (zb7 (i:=4) zd8.nd rfl (by trivial) (za7 (ps:=["_law_well_here", "_law_many"]) ih.h7 hr rfl M.m7 M.F7.kp M.b7 (za0 (jsv 0) (za0 za2 za3)) rfl))
    (za1 (zb7 (i:=5) zd8.nd rfl (by trivial) (zr9 (zH9 (za0 (zb0 (cs:=[110,117,109])) (za0 (zb0 (cs:=[110,117,109,98])) (za0 (zb0 (cs:=[108,111,119])) (za0 (zb0 (cs:=[114,111,119,115])) (za0 (zb0 (cs:=[115,101,116])) (za0 (zb0 (cs:=[97,115,107,115])) (za0 (zb0 (cs:=[112,117,116])) (za0 (zb0 (cs:=[111,102])) za3)))))))) (by decide) rfl)))
    (za1 (zc4 (za9 (zk7 hu2) (jsv 3) za2 (zb4 _) fun _ _=>ev_cmp)
     (za1 (zA6 (i:=5) zd8.nd rfl rfl (N:=["_law_letters", "_law_start", "_law_k"]) rfl (zn0 (up:=defScope ze3) (XN:=["_law_well_here", "_law_many", "_law_letters", "_law_way", "_law_start", "_law_names_here", "_law_size", "_law_at", "_law_head", "_law_tail", "_law_turn"]) rfl rfl (by decide +kernel)) (zk4 rfl M.z_range za2) (fun _ _ _ _ _=>zc0 (i:=2) nd8 rfl (by trivial)) (fun _ _ _ _ _=>zr7) (fun _ _ _ _ _=>(zh4 (jsv 0) (zh3 (jsv 1)) (zh3 (zb9 zi2 (zb9 zi2 (jsv 1) za2 fun _ _=>ev_bin) (jsv 2) fun _ _=>ev_bin)))))
     za6)
     za6)
    (za1 (zc4 (za9 (zk7 hu2) (jsv 3) za2 (zb4 _) fun _ _=>ev_cmp)
     (za1 (zb7 (i:=6) zd8.nd rfl (by trivial) (zb9 zi2 za2 (za7 (ps:=["_law_well_here", "_law_many"]) ih.h7 hr rfl M.m7 M.F7.kp M.b7 (za0 (jsv 0) (za0 za2 za3)) rfl) fun _ _=>ev_bin))
     (za1 (zb7 (i:=7) zd8.nd rfl (by trivial) (za7 (ps:=["_law_well_here", "_law_many"]) ih.h7 hr rfl M.m7 M.F7.kp M.b7 (za0 (jsv 0) (za0 (jsv 6) za3)) rfl))
     (za1 (zb7 (i:=8) zd8.nd rfl (by trivial) (zh4 (jsv 2) (zh3 (jsv 4)) (zh3 (zb9 zi2 (jsv 4) (jsv 7) fun _ _=>ev_bin))))
     (za1 (zb7 (i:=9) zd8.nd rfl (by trivial) (zh4 (jsv 2) (zh3 (zb9 zi2 (zb9 zi2 (jsv 4) (jsv 7) fun _ _=>ev_bin) za2 fun _ _=>ev_bin)) (zh3 (zb9 zi2 (jsv 4) (jsv 6) fun _ _=>ev_bin))))
     (za1 (zA6 (i:=5) zd8.nd rfl rfl (N:=["_law_letters", "_law_start", "_law_head", "_law_tail", "_law_k"]) rfl (zn0 (up:=defScope ze3) (XN:=["_law_well_here", "_law_many", "_law_letters", "_law_way", "_law_start", "_law_names_here", "_law_size", "_law_at", "_law_head", "_law_tail", "_law_turn"]) rfl rfl (by decide +kernel)) (zk4 rfl M.z_range za2) (fun _ _ _ _ _=>zc0 (i:=4) nd7 rfl (by trivial)) (fun _ _ _ _ _=>zr7) (fun _ _ _ _ _=>(zb9 zi2 (zb9 zi2 (jsv 2) (zb2 hu1 (jsv 0) (zb9 zO8 (zb9 zi2 (jsv 1) (zb9 zD8 za2 (jsv 4) fun _ _=>ev_bin) fun _ _=>ev_bin) za2 fun _ _=>ev_bin) (fun _ _=>rfl)) fun _ _=>ev_bin) (jsv 3) fun _ _=>ev_bin)))
     za6)))))
     za6)
    (za1 (zb7 (i:=10) zd8.nd rfl (by trivial) (za7 (ps:=["_law_well_here", "_law_many"]) ih.h7 hr rfl M.m7 M.F7.kp M.b7 (za0 (jsv 0) (za0 za2 za3)) rfl))
    (za1 (zb7 (i:=5) zd8.nd rfl (by trivial) (zr9 (jsf_add (zh4 (jsv 5) (zh3 (jsv 10)) zk5) (zh4 (jsv 5) zk5 (zh3 (jsv 10))))))
    (za1 (zc4 (za9 (zk7 hu2) (za7 (ps:=["_law_well_here", "_law_many"]) ih.h7 hr rfl M.m7 M.F7.kp M.b7 (za0 (jsv 0) (za0 za2 za3)) rfl) za2 (zb4 _) fun _ _=>ev_cmp)
     (za1 (zn2 (jse_mtL0 PySem.F.slot_list_reverse PySem.F.type_list_reverse l_reverse (jsv 5) g_reverse))
     za6)
     za6)
    (za1 (zb1 (zh4 (jsv 5) zk5 (zh3 (jsv 1))))
    za6))))))))))
theorem d_law_web (M:Md K mg f fd) (ih:Ih P w K mg base f fd W d) (hr:Room d (A.deeper (envOfC "_law_web" (defScope zh1) s.heap.objs.size (f 9) cdv))) :
  JSs (cxOf CX0 P w K mg base ["_law_well_here", "_law_some_here", "_law_rows", "_law_many", "_law_names_here", "_law_shift", "_law_at", "_law_called", "_law_pairs"] "_law_web" (defScope zh1) (f 9) cdv A outer s H E).nox (runF prog W d) W (defBody zh1) zC5 :=
 have hu1:=zm3 hr
 have hu2:=zm8 hr
 have hgd:=hr.gd
 (za1 (zb7 (i:=1) zj3.nd rfl (by trivial) (zr9 (zH9 (za0 (za8 (za0 (za8 (za0 za2 (za0 za2 za3))) za3)) (za0 (za8 (za0 (za8 (za0 za2 (za0 za2 za3))) (za0 (za8 (za0 za2 (za0 za2 za3))) (za0 (za8 (za0 za2 (za0 za2 za3))) za3)))) (za0 (za8 (za0 (za8 (za0 za2 (za0 za2 za3))) (za0 (za8 (za0 za2 (za0 za2 za3))) (za0 (za8 (za0 za2 (za0 za2 za3))) (za0 (za8 (za0 za2 (za0 za2 za3))) za3))))) za3))) (by decide) rfl)))
  (za1 (zn2 (zu4 PySem.F.slot_list_append PySem.F.type_list_append zs5 (jsv 1) (za0 (za8 (za0 (za8 (za0 za2 (za0 za2 za3))) (za0 (za8 (za0 za2 (za0 za2 za3))) (za0 (za8 (za0 za2 (za0 za2 za3))) (za0 (za8 (za0 za2 (za0 za2 za3))) (za0 (za8 (za0 za2 (za0 za2 za3))) (za0 (za8 (za0 za2 (za0 za2 za3))) za3))))))) za3) zs3))
  (za1 (zn2 (zu4 PySem.F.slot_list_append PySem.F.type_list_append zs5 (jsv 1) (za0 (za8 (za0 (za8 (za0 za2 (za0 za2 za3))) (za0 (za8 (za0 za2 (za0 za2 za3))) (za0 (za8 (za0 za2 (za0 za2 za3))) (za0 (za8 (za0 za2 (za0 za2 za3))) (za0 (za8 (za0 za2 (za0 za2 za3))) za3)))))) za3) zs3))
  (za1 (zn2 (zu4 PySem.F.slot_list_append PySem.F.type_list_append zs5 (jsv 1) (za0 (za8 (za0 (za8 (za0 za2 (za0 za2 za3))) (za0 (za8 (za0 za2 (za0 za2 za3))) (za0 (za8 (za0 za2 (za0 za2 za3))) (za0 (za8 (za0 za2 (za0 za2 za3))) (za0 (za8 (za0 za2 (za0 za2 za3))) (za0 (za8 (za0 za2 (za0 za2 za3))) (za0 (za8 (za0 za2 (za0 za2 za3))) za3)))))))) za3) zs3))
  (za1 (zn2 (zu4 PySem.F.slot_list_append PySem.F.type_list_append zs5 (jsv 1) (za0 (za8 (za0 (za8 (za0 za2 (za0 za2 za3))) (za0 (za8 (za0 za2 (za0 za2 za3))) (za0 (za8 (za0 za2 (za0 za2 za3))) (za0 (za8 (za0 za2 (za0 za2 za3))) (za0 (za8 (za0 za2 (za0 za2 za3))) (za0 (za8 (za0 za2 (za0 za2 za3))) (za0 (za8 (za0 za2 (za0 za2 za3))) (za0 (za8 (za0 za2 (za0 za2 za3))) (za0 (za8 (za0 za2 (za0 za2 za3))) za3)))))))))) za3) zs3))
  (za1 (zb7 (i:=2) zj3.nd rfl (by trivial) (zb2 hu1 (jsv 1) (za7 (ps:=["_law_well_here", "_law_many"]) ih.h7 hr rfl M.m7 M.F7.kp M.b7 (za0 (jsv 0) (za0 za2 za3)) rfl) (fun _ _=>rfl)))
  (za1 (zb7 (i:=3) zj3.nd rfl (by trivial) (zb9 zi2 za2 (zc1 (n_max rfl) (fun _ _=>ev_blt) rfl M.z_max zK0 (za0 (zd2 (N:=["_law_pair"]) rfl (zc7 (up:=defScope zh1) (XN:=["_law_well_here", "_law_some_here", "_law_rows", "_law_many", "_law_names_here", "_law_shift", "_law_at", "_law_called", "_law_pairs"]) rfl rfl (by decide +kernel)) (ze5 (jsv 2)) (fun _ _ _ _ _=>zc0 (i:=0) nd10 rfl (by trivial)) (fun _ _ _ _ _=>zr7) (fun _ _ _ _ _=>(zb2 hu1 (jsv 0) za2 (fun _ _=>rfl)))) za3)) fun _ _=>ev_bin))
  (za1 (zb7 (i:=4) zj3.nd rfl (by trivial) (za7 (ps:=["_law_well_here", "_law_many"]) ih.h8 hr rfl M.m8 M.F8.kp M.b8 (za0 (jsv 0) (za0 (jsv 3) za3)) rfl))
  (za1 (zb7 (i:=5) zj3.nd rfl (by trivial) (za7 (ps:=["_law_well_here", "_law_many"]) ih.h7 hr rfl M.m7 M.F7.kp M.b7 (za0 (jsv 0) (za0 (jsv 3) za3)) rfl))
  (za1 (zb7 (i:=6) zj3.nd rfl (by trivial) (za7 (ps:=["_law_well_here", "_law_many"]) ih.h7 hr rfl M.m7 M.F7.kp M.b7 (za0 (jsv 0) (za0 (zc1 zt8 (fun _ _=>ev_blt) rfl M.z_len zm9 (za0 (jsv 2) za3)) za3)) rfl))
  (za1 (zb7 (i:=7) zj3.nd rfl (by trivial) (zb9 zi2 (zh4 (jsv 4) (zh3 (jsv 5)) zk5) (zh4 (jsv 4) zk5 (zh3 (jsv 5))) fun _ _=>ev_bin))
  (za1 (zz6 (i:=8) zj3.nd rfl rfl (N:=["_law_called", "_law_one", "_law_other"]) rfl (zn0 (up:=defScope zh1) (XN:=["_law_well_here", "_law_some_here", "_law_rows", "_law_many", "_law_names_here", "_law_shift", "_law_at", "_law_called", "_law_pairs"]) rfl rfl (by decide +kernel)) (ze5 (zb9 zi2 (zh4 (jsv 2) (zh3 (jsv 6)) zk5) (zh4 (jsv 2) zk5 (zh3 (jsv 6))) fun _ _=>ev_bin)) (fun _ _ _ _ _=>zQ7 rfl (zm1 (i:=1) nd9 rfl (by trivial) (zm1 (i:=2) nd9 rfl (by trivial) zI5))) (fun _ _ _ _ _=>zr7) (fun _ _ _ _ _=>(za8 (za0 (zb2 hu1 (jsv 0) (jsv 1) (fun _ _=>rfl)) (za0 (zb2 hu1 (jsv 0) (jsv 2) (fun _ _=>rfl)) za3)))))
  (za1 (zb1 (za8 (za0 (zb0 (cs:=[119,101,98])) (za0 (zc9 zj1 (fun _ _=>ev_blt) rfl M.z_tuple zh5 (za0 (jsv 4) za3)) (za0 (zc9 zj1 (fun _ _=>ev_blt) rfl M.z_tuple zh5 (za0 (jsv 8) za3)) za3)))))
  za6)))))))))))))
theorem zY0 (M:Md K mg f fd) (ih:Ih P w K mg base f fd W d) (hr:Room d (A.deeper (envOfC "_law_flat" (defScope zg7) s.heap.objs.size (f 10) cdv))) :
    JSs (cxOf CX0 P w K mg base ["_law_well_here", "_law_way"] "_law_flat" (defScope zg7) (f 10) cdv A outer s H E).nox (runF prog W d) W (defBody zg7) zx0 :=
  have hu1:=zm3 hr
  have hu2:=zm8 hr
  have hgd:=hr.gd
  (za1 (zb7 (i:=1) zC8.nd rfl (by trivial) (za7 (ps:=["_law_well_here", "_law_many"]) ih.h7 hr rfl M.m7 M.F7.kp M.b7 (za0 (jsv 0) (za0 za2 za3)) rfl))
    (za1 (zc4 (za9 o_lt (jsv 1) za2 (zb4 _) fun _ _=>ev_cmp)
     (za1 (zb1 (za8 (za0 (zb2 hu1 (zr2 (za0 (zb0 (cs:=[110,117,109])) (za0 (zb0 (cs:=[108,111,119])) za3))) (jsv 1) (fun _ _=>rfl)) za3)))
     za6)
     za6)
    (za1 (zc4 (za9 (zk7 hu2) (jsv 1) za2 (zb4 _) fun _ _=>ev_cmp)
     (za1 (zb1 (za8 (za0 (zb0 (cs:=[99,104,97,105,110])) (za0 (zc9 zj1 (fun _ _=>ev_blt) rfl M.z_tuple zh5 (za0 (za7 (ps:=["_law_well_here", "_law_many"]) ih.h8 hr rfl M.m8 M.F8.kp M.b8 (za0 (jsv 0) (za0 (zb9 zi2 za2 (za7 (ps:=["_law_well_here", "_law_many"]) ih.h7 hr rfl M.m7 M.F7.kp M.b7 (za0 (jsv 0) (za0 za2 za3)) rfl) fun _ _=>ev_bin) za3)) rfl) za3)) za3))))
     za6)
     za6)
    (za1 (zc4 (za9 (zk7 hu2) (jsv 1) za2 (zb4 _) fun _ _=>ev_cmp)
     (za1 (zb1 (za8 (za0 (zb0 (cs:=[115,101,116])) (za0 (zc9 zj1 (fun _ _=>ev_blt) rfl M.z_tuple zh5 (za0 (za7 (ps:=["_law_well_here", "_law_many"]) ih.h8 hr rfl M.m8 M.F8.kp M.b8 (za0 (jsv 0) (za0 (zb9 zi2 za2 (za7 (ps:=["_law_well_here", "_law_many"]) ih.h7 hr rfl M.m7 M.F7.kp M.b7 (za0 (jsv 0) (za0 za2 za3)) rfl) fun _ _=>ev_bin) za3)) rfl) za3)) za3))))
     za6)
     za6)
    (za1 (zb1 (zo3 (za9 (zk7 hu2) (jsv 1) za2 (zb4 _) fun _ _=>ev_cmp) (za7 (ps:=["_law_well_here"]) ih.h9 hr rfl M.m9 M.F9.kp M.b9 (za0 (jsv 0) za3) rfl) (za8 (za0 (zb0 (cs:=[110,117,109])) za3))))
    za6)))))
theorem zX2 (M:Md K mg f fd) (ih:Ih P w K mg base f fd W d) (hr:Room d (A.deeper (envOfC "_law_nest" (defScope zg2) s.heap.objs.size (f 11) cdv))) :
    JSs (cxOf CX0 P w K mg base ["_law_well_here"] "_law_nest" (defScope zg2) (f 11) cdv A outer s H E).nox (runF prog W d) W (defBody zg2) zx7 :=
  have hu1:=zm3 hr
  have hu2:=zm8 hr
  have hgd:=hr.gd
  (za1 (zc4 (za9 (zk7 hu2) (za7 (ps:=["_law_well_here", "_law_many"]) ih.h7 hr rfl M.m7 M.F7.kp M.b7 (za0 (jsv 0) (za0 za2 za3)) rfl) za2 (zb4 _) fun _ _=>ev_cmp)
     (za1 (zb1 (za8 (za0 (zb0 (cs:=[110,101,119,101,114])) (za0 (za7 (ps:=["_law_well_here"]) ih.h10 hr rfl M.m10 M.F10.kp M.b10 (za0 (jsv 0) za3) rfl) za3))))
     za6)
     za6)
    (za1 (zb1 (za8 (za0 (zb0 (cs:=[114,111,119])) (za0 (zc9 zj1 (fun _ _=>ev_blt) rfl M.z_tuple zh5 (za0 (zd2 (N:=["_law_well_here", "_law_k"]) rfl (zc7 (up:=defScope zg2) (XN:=["_law_well_here"]) rfl rfl (by decide +kernel)) (zk4 rfl M.z_range (zb9 zi2 za2 (za7 (ps:=["_law_well_here", "_law_many"]) ih.h7 hr rfl M.m7 M.F7.kp M.b7 (za0 (jsv 0) (za0 za2 za3)) rfl) fun _ _=>ev_bin)) (fun _ _ _ _ _=>zc0 (i:=1) nd11 rfl (by trivial)) (fun _ _ _ _ _=>zr7) (fun _ _ _ _ _=>(za7 (ps:=["_law_well_here"]) ih.h10 hr rfl M.m10 M.F10.kp M.b10 (za0 (jsv 0) za3) rfl))) za3)) za3))))
    za6))
theorem zO9 (M:Md K mg f fd) (ih:Ih P w K mg base f fd W d) (hr:Room d (A.deeper (envOfC "_law_order" (defScope zd9) s.heap.objs.size (f 12) cdv))) :
    JSs (cxOf CX0 P w K mg base ["_law_well_here", "_law_way", "_law_parts"] "_law_order" (defScope zd9) (f 12) cdv A outer s H E).nox (runF prog W d) W (defBody zd9) zt4 :=
  have hu1:=zm3 hr
  have hu2:=zm8 hr
  have hgd:=hr.gd
  (za1 (zb7 (i:=1) zn5.nd rfl (by trivial) (za7 (ps:=["_law_well_here", "_law_many"]) ih.h7 hr rfl M.m7 M.F7.kp M.b7 (za0 (jsv 0) (za0 za2 za3)) rfl))
    (za1 (zc4 (za9 o_lt (jsv 1) za2 (zb4 _) fun _ _=>ev_cmp)
     (za1 (zb1 (za7 (ps:=["_law_well_here"]) ih.h10 hr rfl M.m10 M.F10.kp M.b10 (za0 (jsv 0) za3) rfl))
     za6)
     za6)
    (za1 (zc4 (za9 (zk7 hu2) (jsv 1) za2 (zb4 _) fun _ _=>ev_cmp)
     (za1 (zb1 (za8 (za0 (zb0 (cs:=[110,101,119,101,114])) (za0 (za7 (ps:=["_law_well_here"]) ih.h11 hr rfl M.m11 M.F11.kp M.b11 (za0 (jsv 0) za3) rfl) za3))))
     za6)
     za6)
    (za1 (zc4 (za9 (zk7 hu2) (jsv 1) za2 (zb4 _) fun _ _=>ev_cmp)
     (za1 (zb1 (za8 (za0 (zb0 (cs:=[114,111,119])) (za0 (zc9 zj1 (fun _ _=>ev_blt) rfl M.z_tuple zh5 (za0 (zd2 (N:=["_law_well_here", "_law_k"]) rfl (zc7 (up:=defScope zd9) (XN:=["_law_well_here", "_law_way", "_law_parts"]) rfl rfl (by decide +kernel)) (zk4 rfl M.z_range (zb9 zi2 za2 (za7 (ps:=["_law_well_here", "_law_many"]) ih.h7 hr rfl M.m7 M.F7.kp M.b7 (za0 (jsv 0) (za0 za2 za3)) rfl) fun _ _=>ev_bin)) (fun _ _ _ _ _=>zc0 (i:=1) nd13 rfl (by trivial)) (fun _ _ _ _ _=>zr7) (fun _ _ _ _ _=>(za7 (ps:=["_law_well_here"]) ih.h10 hr rfl M.m10 M.F10.kp M.b10 (za0 (jsv 0) za3) rfl))) za3)) za3))))
     za6)
     za6)
    (za1 (zc4 (za9 (zk7 hu2) (jsv 1) za2 (zb4 _) fun _ _=>ev_cmp)
     (za1 (zb1 (za7 (ps:=["_law_well_here"]) ih.h11 hr rfl M.m11 M.F11.kp M.b11 (za0 (jsv 0) za3) rfl))
     za6)
     za6)
    (za1 (zA6 (i:=2) zn5.nd rfl rfl (N:=["_law_well_here", "_law_k"]) rfl (zn0 (up:=defScope zd9) (XN:=["_law_well_here", "_law_way", "_law_parts"]) rfl rfl (by decide +kernel)) (zk4 rfl M.z_range (za7 (ps:=["_law_well_here", "_law_many"]) ih.h7 hr rfl M.m7 M.F7.kp M.b7 (za0 (jsv 0) (za0 za2 za3)) rfl)) (fun _ _ _ _ _=>zc0 (i:=1) nd12 rfl (by trivial)) (fun _ _ _ _ _=>zr7) (fun _ _ _ _ _=>(za7 (ps:=["_law_well_here"]) ih.h10 hr rfl M.m10 M.F10.kp M.b10 (za0 (jsv 0) za3) rfl)))
    (za1 (zc4 (za9 (zk7 hu2) (jsv 1) za2 (zb4 _) fun _ _=>ev_cmp)
     (za1 (zn2 (zu4 PySem.F.slot_list_insert PySem.F.type_list_insert l_insert (jsv 2) (za0 (za7 (ps:=["_law_well_here", "_law_many"]) ih.h7 hr rfl M.m7 M.F7.kp M.b7 (za0 (jsv 0) (za0 (zb9 zi2 (zc1 zt8 (fun _ _=>ev_blt) rfl M.z_len zm9 (za0 (jsv 2) za3)) za2 fun _ _=>ev_bin) za3)) rfl) (za0 (za7 (ps:=["_law_well_here"]) ih.h11 hr rfl M.m11 M.F11.kp M.b11 (za0 (jsv 0) za3) rfl) za3)) g_insert))
     za6)
     (za1 (zb7 (i:=2) zn5.nd rfl (by trivial) (zr9 (jsf_add (zr2 (za0 (za8 (za0 (zb0 (cs:=[110,101,119,101,114])) (za0 (za7 (ps:=["_law_well_here"]) ih.h10 hr rfl M.m10 M.F10.kp M.b10 (za0 (jsv 0) za3) rfl) za3))) (za0 (za8 (za0 (zb0 (cs:=[110,101,119,101,114])) (za0 (za7 (ps:=["_law_well_here"]) ih.h10 hr rfl M.m10 M.F10.kp M.b10 (za0 (jsv 0) za3) rfl) za3))) za3))) (zh4 (jsv 2) zk5 (zh3 za2)))))
     za6))
    (za1 (zb1 (za8 (za0 (zb0 (cs:=[114,111,119])) (za0 (zc9 zj1 (fun _ _=>ev_blt) rfl M.z_tuple zh5 (za0 (jsv 2) za3)) za3))))
    za6))))))))
theorem zL9 (M:Md K mg f fd) (ih:Ih P w K mg base f fd W d) (hr:Room d (A.deeper (envOfC "_law_height" (defScope zd4) s.heap.objs.size (f 13) cdv))) :
    JSs (cxOf CX0 P w K mg base ["_law_well_here", "_law_order_here", "_law_word", "_law_number"] "_law_height" (defScope zd4) (f 13) cdv A outer s H E).nox (runF prog W d) W (defBody zd4) zf4 :=
  have hu1:=zm3 hr
  have hu2:=zm8 hr
  have hgd:=hr.gd
  (za1 (zb7 (i:=2) zl3.nd rfl (by trivial) (zb2 hu1 (jsv 1) za2 (fun _ _=>rfl)))
    (za1 (zc4 (zA5 (jsw_or (za9 (zk7 hu2) (jsv 2) (zb0 (cs:=[110,117,109])) (zb4 _) fun _ _=>ev_cmp) (zQ4 (za9 (zk7 hu2) (jsv 2) (zb0 (cs:=[108,111,119])) (zb4 _) fun _ _=>ev_cmp))))
     (za1 (zb7 (i:=3) zl3.nd rfl (by trivial) (zr2 (za0 (za7 (ps:=["_law_well_here", "_law_many"]) ih.h7 hr rfl M.m7 M.F7.kp M.b7 (za0 (jsv 0) (za0 za2 za3)) rfl) (za0 (za7 (ps:=["_law_well_here", "_law_many"]) ih.h7 hr rfl M.m7 M.F7.kp M.b7 (za0 (jsv 0) (za0 za2 za3)) rfl) (za0 (zb9 zi2 za2 (za7 (ps:=["_law_well_here", "_law_many"]) ih.h7 hr rfl M.m7 M.F7.kp M.b7 (za0 (jsv 0) (za0 za2 za3)) rfl) fun _ _=>ev_bin) (za0 (za7 (ps:=["_law_well_here", "_law_many"]) ih.h7 hr rfl M.m7 M.F7.kp M.b7 (za0 (jsv 0) (za0 (zb9 zV9 (zb9 o_pow za2 za2 fun _ _=>ev_bin) za2 fun _ _=>ev_bin) za3)) rfl) za3))))))
     (za1 (zb7 (i:=3) zl3.nd rfl (by trivial) (zb2 hu1 (jsv 3) (za7 (ps:=["_law_well_here", "_law_many"]) ih.h7 hr rfl M.m7 M.F7.kp M.b7 (za0 (jsv 0) (za0 za2 za3)) rfl) (fun _ _=>rfl)))
     (za1 (zb1 (zo3 (zA5 (zH3 (za9 (zk7 hu2) (jsv 2) (zb0 (cs:=[108,111,119])) (zb4 _) fun _ _=>ev_cmp) (zz4 (za9 (zk7 hu2) (za7 (ps:=["_law_well_here", "_law_many"]) ih.h7 hr rfl M.m7 M.F7.kp M.b7 (za0 (jsv 0) (za0 za2 za3)) rfl) za2 (zb4 _) fun _ _=>ev_cmp)))) zp5 (jsv 3)))
     za6)))
     za6)
    (za1 (zc4 (zA5 (jsw_or (za9 (zk7 hu2) (jsv 2) (zb0 (cs:=[99,104,97,105,110])) (zb4 _) fun _ _=>ev_cmp) (zQ4 (za9 (zk7 hu2) (jsv 2) (zb0 (cs:=[119,101,98])) (zb4 _) fun _ _=>ev_cmp))))
     (za1 (zb1 (zb2 hu1 (zb2 hu1 (jsv 1) za2 (fun _ _=>rfl)) (za7 (ps:=["_law_well_here", "_law_many"]) ih.h7 hr rfl M.m7 M.F7.kp M.b7 (za0 (jsv 0) (za0 (zc1 zt8 (fun _ _=>ev_blt) rfl M.z_len zm9 (za0 (zb2 hu1 (jsv 1) za2 (fun _ _=>rfl)) za3)) za3)) rfl) (fun _ _=>rfl)))
     za6)
     za6)
    (za1 (zc4 (za9 (zk7 hu2) (jsv 2) (zb0 (cs:=[115,101,116])) (zb4 _) fun _ _=>ev_cmp)
     (za1 (zb1 (zc9 zj1 (fun _ _=>ev_blt) rfl M.z_tuple zh5 (za0 (zd2 (N:=["_law_well_here", "_law_name"]) rfl (zc7 (up:=defScope zd4) (XN:=["_law_well_here", "_law_order_here", "_law_word", "_law_number"]) rfl rfl (by decide +kernel)) (ze5 (zb2 hu1 (jsv 1) za2 (fun _ _=>rfl))) (fun _ _ _ _ _=>zc0 (i:=1) nd15 rfl (by trivial)) (fun _ _ _ _ _=>(zy5 (za9 (zk7 hu2) (za7 (ps:=["_law_well_here", "_law_many"]) ih.h7 hr rfl M.m7 M.F7.kp M.b7 (za0 (jsv 0) (za0 za2 za3)) rfl) za2 (zb4 _) fun _ _=>ev_cmp))) (fun _ _ _ _ _=>(jsv 1))) za3)))
     za6)
     za6)
    (za1 (zc4 (za9 (zk7 hu2) (jsv 2) (zb0 (cs:=[110,101,119,101,114])) (zb4 _) fun _ _=>ev_cmp)
     (za1 (zb1 (za8 (za0 (za7 (ps:=["_law_well_here", "_law_many"]) ih.h7 hr rfl M.m7 M.F7.kp M.b7 (za0 (jsv 0) (za0 za2 za3)) rfl) (za0 (za7 (ps:=["_law_well_here", "_law_order_here"]) ih.h13 hr rfl M.m13 M.F13.kp M.b13 (za0 (jsv 0) (za0 (zb2 hu1 (jsv 1) za2 (fun _ _=>rfl)) za3)) rfl) za3))))
     za6)
     za6)
    (za1 (zb1 (zc9 zj1 (fun _ _=>ev_blt) rfl M.z_tuple zh5 (za0 (zd2 (N:=["_law_well_here", "_law_part"]) rfl (zc7 (up:=defScope zd4) (XN:=["_law_well_here", "_law_order_here", "_law_word", "_law_number"]) rfl rfl (by decide +kernel)) (ze5 (zb2 hu1 (jsv 1) za2 (fun _ _=>rfl))) (fun _ _ _ _ _=>zc0 (i:=1) nd14 rfl (by trivial)) (fun _ _ _ _ _=>zr7) (fun _ _ _ _ _=>(za7 (ps:=["_law_well_here", "_law_order_here"]) ih.h13 hr rfl M.m13 M.F13.kp M.b13 (za0 (jsv 0) (za0 (jsv 1) za3)) rfl))) za3)))
    za6))))))
theorem zR1 (M:Md K mg f fd) (ih:Ih P w K mg base f fd W d) (hr:Room d (A.deeper (envOfC "_law_overs" (defScope ze4) s.heap.objs.size (f 14) cdv))) :
    JSs (cxOf CX0 P w K mg base ["_law_order_here", "_law_found", "_law_name", "_law_some_here", "_law_k"] "_law_overs" (defScope ze4) (f 14) cdv A outer s H E).nox (runF prog W d) W (defBody ze4) zt1 :=
  have hu1:=zm3 hr
  have hu2:=zm8 hr
  have hgd:=hr.gd
  (za1 (zb7 (i:=1) zk2.nd rfl (by trivial) jse_dict0)
    (za1 (zp6 PassesOwn.never rfl (ze5 (zb2 hu1 (jsv 0) za2 (fun _ _=>rfl))) (zc0 (i:=2) zk2.nd rfl (by trivial))
     (za1 (zb7 (i:=3) zk2.nd rfl (by trivial) (zr2 (za0 (jsv 2) za3)))
     (za1 (zp6 PassesOwn.never rfl (zk4 rfl M.z_range (zc1 zt8 (fun _ _=>ev_blt) rfl M.z_len zm9 (za0 (zb2 hu1 (jsv 0) za2 (fun _ _=>rfl)) za3))) (zc0 (i:=4) zk2.nd rfl (by trivial))
      (za1 (zb7 (i:=3) zk2.nd rfl (by trivial) (zb9 zi2 (jsv 3) (zd2 (N:=["_law_some_here", "_law_pair"]) rfl (zc7 (up:=defScope ze4) (XN:=["_law_order_here", "_law_found", "_law_name", "_law_some_here", "_law_k"]) rfl rfl (by decide +kernel)) (ze5 (zb2 hu1 (jsv 0) za2 (fun _ _=>rfl))) (fun _ _ _ _ _=>zc0 (i:=1) nd17 rfl (by trivial)) (fun _ _ _ _ _=>(zy5 (zA5 (zH3 (za9 (zY7 hu2) (zb2 hu1 (jsv 1) za2 (fun _ _=>rfl)) (jsv 0) (by with_unfolding_all rfl) fun _ _=>ev_cmp) (zz4 (za9 (zx6 hu2) (zb2 hu1 (jsv 1) za2 (fun _ _=>rfl)) (jsv 0) (by with_unfolding_all rfl) fun _ _=>ev_cmp)))))) (fun _ _ _ _ _=>(zb2 hu1 (jsv 1) za2 (fun _ _=>rfl)))) fun _ _=>ev_bin))
      za6))
     (za1 (zB7 hu1 (jsv 1) (jsv 2) (zd2 (N:=["_law_some_here", "_law_one"]) rfl (zc7 (up:=defScope ze4) (XN:=["_law_order_here", "_law_found", "_law_name", "_law_some_here", "_law_k"]) rfl rfl (by decide +kernel)) (ze5 (zb2 hu1 (jsv 0) za2 (fun _ _=>rfl))) (fun _ _ _ _ _=>zc0 (i:=1) nd16 rfl (by trivial)) (fun _ _ _ _ _=>(zy5 (za9 (zY7 hu2) (jsv 1) (jsv 0) (by with_unfolding_all rfl) fun _ _=>ev_cmp))) (fun _ _ _ _ _=>(jsv 1))))
     za6))))
    (za1 (zb1 (jsv 1))
    za6)))
theorem zE0 (M:Md K mg f fd) (ih:Ih P w K mg base f fd W d) (hr:Room d (A.deeper (envOfC "_law_at_least" (defScope zc5) s.heap.objs.size (f 15) cdv))) :
    JSs (cxOf CX0 P w K mg base ["_law_order_here", "_law_one", "_law_other", "_law_word"] "_law_at_least" (defScope zc5) (f 15) cdv A outer s H E).nox (runF prog W d) W (defBody zc5) zf2 :=
  have hu1:=zm3 hr
  have hu2:=zm8 hr
  have hgd:=hr.gd
  (za1 (zb7 (i:=3) zr6.nd rfl (by trivial) (zb2 hu1 (jsv 0) za2 (fun _ _=>rfl)))
    (za1 (zc4 (za9 (zk7 hu2) (jsv 3) (zb0 (cs:=[110,117,109])) (zb4 _) fun _ _=>ev_cmp)
     (za1 (zb1 (zg5 o_ge (jsv 1) (jsv 2) (zb4 _) fun _ _=>ev_cmp))
     za6)
     za6)
    (za1 (zc4 (za9 (zk7 hu2) (jsv 3) (zb0 (cs:=[108,111,119])) (zb4 _) fun _ _=>ev_cmp)
     (za1 (zb1 (jse_or (zg5 o_is (jsv 2) zp5 (zb4 _) fun _ _=>ev_cmp) (zy0 (zQ2 (zg5 o_isnot (jsv 1) zp5 (zb4 _) fun _ _=>ev_cmp) (zy0 (zg5 o_le (jsv 1) (jsv 2) (zb4 _) fun _ _=>ev_cmp))))))
     za6)
     za6)
    (za1 (zc4 (za9 (zk7 hu2) (jsv 3) (zb0 (cs:=[99,104,97,105,110])) (zb4 _) fun _ _=>ev_cmp)
     (za1 (zb1 (zg5 o_ge (zq4 hu2 (zc9 n_list (fun _ _=>ev_blt) rfl M.z_list zQ5 (za0 (zb2 hu1 (jsv 0) za2 (fun _ _=>rfl)) za3)) (za0 (jsv 1) za3)) (zq4 hu2 (zc9 n_list (fun _ _=>ev_blt) rfl M.z_list zQ5 (za0 (zb2 hu1 (jsv 0) za2 (fun _ _=>rfl)) za3)) (za0 (jsv 2) za3)) (zb4 _) fun _ _=>ev_cmp))
     za6)
     za6)
    (za1 (zc4 (za9 (zk7 hu2) (jsv 3) (zb0 (cs:=[115,101,116])) (zb4 _) fun _ _=>ev_cmp)
     (za1 (zb1 (zg5 (zk7 hu2) (zd2 (N:=["_law_one", "_law_name"]) rfl (zc7 (up:=defScope zc5) (XN:=["_law_order_here", "_law_one", "_law_other", "_law_word"]) rfl rfl (by decide +kernel)) (ze5 (jsv 2)) (fun _ _ _ _ _=>zc0 (i:=1) nd19 rfl (by trivial)) (fun _ _ _ _ _=>(zy5 (za9 (zx6 hu2) (jsv 1) (jsv 0) (by with_unfolding_all rfl) fun _ _=>ev_cmp))) (fun _ _ _ _ _=>(jsv 1))) (zr2 za3) (zb4 _) fun _ _=>ev_cmp))
     za6)
     za6)
    (za1 (zc4 (za9 (zk7 hu2) (jsv 3) (zb0 (cs:=[119,101,98])) (zb4 _) fun _ _=>ev_cmp)
     (za1 (zb1 (zg5 (zY7 hu2) (jsv 1) (zb2 hu1 (za7 (ps:=["_law_order_here"]) ih.h14 hr rfl M.m14 M.F14.kp M.b14 (za0 (jsv 0) za3) rfl) (jsv 2) (fun _ _=>rfl)) (by with_unfolding_all rfl) fun _ _=>ev_cmp))
     za6)
     za6)
    (za1 (zc4 (za9 (zk7 hu2) (jsv 3) (zb0 (cs:=[110,101,119,101,114])) (zb4 _) fun _ _=>ev_cmp)
     (za1 (zc4 (za9 (o_ne hu2) (zb2 hu1 (jsv 1) za2 (fun _ _=>rfl)) (zb2 hu1 (jsv 2) za2 (fun _ _=>rfl)) (zb4 _) fun _ _=>ev_cmp)
      (za1 (zb1 (zg5 o_gt (zb2 hu1 (jsv 1) za2 (fun _ _=>rfl)) (zb2 hu1 (jsv 2) za2 (fun _ _=>rfl)) (zb4 _) fun _ _=>ev_cmp))
      za6)
      za6)
     (za1 (zb1 (za7 (ps:=["_law_order_here", "_law_one", "_law_other"]) ih.h15 hr rfl M.m15 M.F15.kp M.b15 (za0 (zb2 hu1 (jsv 0) za2 (fun _ _=>rfl)) (za0 (zb2 hu1 (jsv 1) za2 (fun _ _=>rfl)) (za0 (zb2 hu1 (jsv 2) za2 (fun _ _=>rfl)) za3))) rfl))
     za6))
     za6)
    (za1 (zb1 (zg5 (zx6 hu2) zE5 (zd2 (N:=["_law_order_here", "_law_one", "_law_other", "_law_k"]) rfl (zc7 (up:=defScope zc5) (XN:=["_law_order_here", "_law_one", "_law_other", "_law_word"]) rfl rfl (by decide +kernel)) (zk4 rfl M.z_range (zc1 zt8 (fun _ _=>ev_blt) rfl M.z_len zm9 (za0 (zb2 hu1 (jsv 0) za2 (fun _ _=>rfl)) za3))) (fun _ _ _ _ _=>zc0 (i:=3) nd18 rfl (by trivial)) (fun _ _ _ _ _=>zr7) (fun _ _ _ _ _=>(za7 (ps:=["_law_order_here", "_law_one", "_law_other"]) ih.h15 hr rfl M.m15 M.F15.kp M.b15 (za0 (zb2 hu1 (zb2 hu1 (jsv 0) za2 (fun _ _=>rfl)) (jsv 3) (fun _ _=>rfl)) (za0 (zb2 hu1 (jsv 1) (jsv 3) (fun _ _=>rfl)) (za0 (zb2 hu1 (jsv 2) (jsv 3) (fun _ _=>rfl)) za3))) rfl))) (by with_unfolding_all rfl) fun _ _=>ev_cmp))
    za6))))))))
theorem zQ6 (M:Md K mg f fd) (ih:Ih P w K mg base f fd W d) (hr:Room d (A.deeper (envOfC "_law_least" (defScope ze0) s.heap.objs.size (f 16) cdv))) :
    JSs (cxOf CX0 P w K mg base ["_law_order_here", "_law_word", "_law_over"] "_law_least" (defScope ze0) (f 16) cdv A outer s H E).nox (runF prog W d) W (defBody ze0) zi4 :=
  have hu1:=zm3 hr
  have hu2:=zm8 hr
  have hgd:=hr.gd
  (za1 (zb7 (i:=1) zr5.nd rfl (by trivial) (zb2 hu1 (jsv 0) za2 (fun _ _=>rfl)))
    (za1 (zc4 (za9 (zk7 hu2) (jsv 1) (zb0 (cs:=[119,101,98])) (zb4 _) fun _ _=>ev_cmp)
     (za1 (zb7 (i:=2) zr5.nd rfl (by trivial) (za7 (ps:=["_law_order_here"]) ih.h14 hr rfl M.m14 M.F14.kp M.b14 (za0 (jsv 0) za3) rfl))
     (za1 (zb1 (zb2 hu1 (zd2 (N:=["_law_order_here", "_law_over", "_law_name"]) rfl (zc7 (up:=defScope ze0) (XN:=["_law_order_here", "_law_word", "_law_over"]) rfl rfl (by decide +kernel)) (ze5 (zb2 hu1 (jsv 0) za2 (fun _ _=>rfl))) (fun _ _ _ _ _=>zc0 (i:=2) nd21 rfl (by trivial)) (fun _ _ _ _ _=>(zy5 (za9 (zk7 hu2) (zc1 zt8 (fun _ _=>ev_blt) rfl M.z_len zm9 (za0 (zb2 hu1 (jsv 1) (jsv 2) (fun _ _=>rfl)) za3)) (zc1 zt8 (fun _ _=>ev_blt) rfl M.z_len zm9 (za0 (zb2 hu1 (jsv 0) za2 (fun _ _=>rfl)) za3)) (zb4 _) fun _ _=>ev_cmp))) (fun _ _ _ _ _=>(jsv 2))) za2 (fun _ _=>rfl)))
     za6))
     za6)
    (za1 (zc4 (za9 (zk7 hu2) (jsv 1) (zb0 (cs:=[110,101,119,101,114])) (zb4 _) fun _ _=>ev_cmp)
     (za1 (zb1 (za8 (za0 za2 (za0 (za7 (ps:=["_law_order_here"]) ih.h16 hr rfl M.m16 M.F16.kp M.b16 (za0 (zb2 hu1 (jsv 0) za2 (fun _ _=>rfl)) za3) rfl) za3))))
     za6)
     za6)
    (za1 (zc4 (za9 (zk7 hu2) (jsv 1) (zb0 (cs:=[114,111,119])) (zb4 _) fun _ _=>ev_cmp)
     (za1 (zb1 (zc9 zj1 (fun _ _=>ev_blt) rfl M.z_tuple zh5 (za0 (zd2 (N:=["_law_part"]) rfl (zc7 (up:=defScope ze0) (XN:=["_law_order_here", "_law_word", "_law_over"]) rfl rfl (by decide +kernel)) (ze5 (zb2 hu1 (jsv 0) za2 (fun _ _=>rfl))) (fun _ _ _ _ _=>zc0 (i:=0) nd20 rfl (by trivial)) (fun _ _ _ _ _=>zr7) (fun _ _ _ _ _=>(za7 (ps:=["_law_order_here"]) ih.h16 hr rfl M.m16 M.F16.kp M.b16 (za0 (jsv 0) za3) rfl))) za3)))
     za6)
     za6)
    (za1 (zb1 (zb2 hu1 (zU4 (zq2 (zC6 (cs:=[110,117,109]) (by decide +kernel)) za2 (zq2 (zC6 (cs:=[108,111,119]) (by decide +kernel)) zp5 (zq2 (zC6 (cs:=[115,101,116]) (by decide +kernel)) (za8 za3) (zq2 (zC6 (cs:=[99,104,97,105,110]) (by decide +kernel)) (zb2 hu1 (zb2 hu1 (jsv 0) (jse_neg za2) (fun _ _=>rfl)) za2 (fun _ _=>rfl)) jsp_nil)))) rfl rfl rfl rfl (fun z=>nomatch z) (by decide) (by decide)) (jsv 1) (fun _ _=>rfl)))
    za6)))))
theorem zV3 (M:Md K mg f fd) (ih:Ih P w K mg base f fd W d) (hr:Room d (A.deeper (envOfC "_law_near" (defScope zg0) s.heap.objs.size (f 17) cdv))) :
    JSs (cxOf CX0 P w K mg base ["_law_well_here", "_law_order_here", "_law_height_here", "_law_word", "_law_at", "_law_near_here"] "_law_near" (defScope zg0) (f 17) cdv A outer s H E).nox (runF prog W d) W (defBody zg0) zj5 :=
  have hu1:=zm3 hr
  have hu2:=zm8 hr
  have hgd:=hr.gd
  (za1 (zb7 (i:=3) zm2.nd rfl (by trivial) (zb2 hu1 (jsv 1) za2 (fun _ _=>rfl)))
    (za1 (zc4 (za9 (zk7 hu2) (jsv 3) (zb0 (cs:=[110,117,109])) (zb4 _) fun _ _=>ev_cmp)
     (za1 (zb1 (zc1 (zU0 rfl) (fun _ _=>ev_blt) rfl M.z_max zK0 (za0 za2 (za0 (zb9 zV9 (zb9 zi2 (jsv 2) (za7 (ps:=["_law_well_here", "_law_many"]) ih.h7 hr rfl M.m7 M.F7.kp M.b7 (za0 (jsv 0) (za0 za2 za3)) rfl) fun _ _=>ev_bin) za2 fun _ _=>ev_bin) za3))))
     za6)
     za6)
    (za1 (zc4 (za9 (zk7 hu2) (jsv 3) (zb0 (cs:=[108,111,119])) (zb4 _) fun _ _=>ev_cmp)
     (za1 (zb1 (zo3 (za9 o_is (jsv 2) zp5 (zb4 _) fun _ _=>ev_cmp) (za7 (ps:=["_law_well_here", "_law_many"]) ih.h7 hr rfl M.m7 M.F7.kp M.b7 (za0 (jsv 0) (za0 za2 za3)) rfl) (zc1 (zU0 rfl) (fun _ _=>ev_blt) rfl M.z_max zK0 (za0 za2 (za0 (zb9 zV9 (zb9 zi2 (jsv 2) (za7 (ps:=["_law_well_here", "_law_many"]) ih.h7 hr rfl M.m7 M.F7.kp M.b7 (za0 (jsv 0) (za0 za2 za3)) rfl) fun _ _=>ev_bin) za2 fun _ _=>ev_bin) za3)))))
     za6)
     za6)
    (za1 (zc4 (za9 (zk7 hu2) (jsv 3) (zb0 (cs:=[115,101,116])) (zb4 _) fun _ _=>ev_cmp)
     (za1 (zb7 (i:=4) zm2.nd rfl (by trivial) (za7 (ps:=["_law_well_here", "_law_many"]) ih.h7 hr rfl M.m7 M.F7.kp M.b7 (za0 (jsv 0) (za0 (zc1 zt8 (fun _ _=>ev_blt) rfl M.z_len zm9 (za0 (zb2 hu1 (jsv 1) za2 (fun _ _=>rfl)) za3)) za3)) rfl))
     (za1 (zb1 (zc9 zj1 (fun _ _=>ev_blt) rfl M.z_tuple zh5 (za0 (zd2 (N:=["_law_order_here", "_law_height_here", "_law_at", "_law_name"]) rfl (zc7 (up:=defScope zg0) (XN:=["_law_well_here", "_law_order_here", "_law_height_here", "_law_word", "_law_at", "_law_near_here"]) rfl rfl (by decide +kernel)) (ze5 (zb2 hu1 (jsv 1) za2 (fun _ _=>rfl))) (fun _ _ _ _ _=>zc0 (i:=3) nd22 rfl (by trivial)) (fun _ _ _ _ _=>(zy5 (za9 (o_ne hu2) (zg5 (zY7 hu2) (jsv 3) (jsv 1) (by with_unfolding_all rfl) fun _ _=>ev_cmp) (zg5 (zk7 hu2) (jsv 3) (zb2 hu1 (zb2 hu1 (jsv 0) za2 (fun _ _=>rfl)) (jsv 2) (fun _ _=>rfl)) (zb4 _) fun _ _=>ev_cmp) (zb4 _) fun _ _=>ev_cmp))) (fun _ _ _ _ _=>(jsv 3))) za3)))
     za6))
     za6)
    (za1 (zc4 (za9 (zk7 hu2) (jsv 3) (zb0 (cs:=[110,101,119,101,114])) (zb4 _) fun _ _=>ev_cmp)
     (za1 (zb1 (za8 (za0 (zc1 (zU0 rfl) (fun _ _=>ev_blt) rfl M.z_max zK0 (za0 za2 (za0 (zb9 zi2 (zb2 hu1 (jsv 2) za2 (fun _ _=>rfl)) (zb2 hu1 (zr2 (za0 za2 (za0 za2 (za0 za2 (za0 (jse_neg za2) za3))))) (za7 (ps:=["_law_well_here", "_law_many"]) ih.h7 hr rfl M.m7 M.F7.kp M.b7 (za0 (jsv 0) (za0 za2 za3)) rfl) (fun _ _=>rfl)) fun _ _=>ev_bin) za3))) (za0 (za7 (ps:=["_law_well_here", "_law_order_here", "_law_height_here"]) ih.h17 hr rfl M.m17 M.F17.kp M.b17 (za0 (jsv 0) (za0 (zb2 hu1 (jsv 1) za2 (fun _ _=>rfl)) (za0 (zb2 hu1 (jsv 2) za2 (fun _ _=>rfl)) za3))) rfl) za3))))
     za6)
     za6)
    (za1 (zc4 (za9 (zk7 hu2) (jsv 3) (zb0 (cs:=[114,111,119])) (zb4 _) fun _ _=>ev_cmp)
     (za1 (zb7 (i:=4) zm2.nd rfl (by trivial) (za7 (ps:=["_law_well_here", "_law_many"]) ih.h7 hr rfl M.m7 M.F7.kp M.b7 (za0 (jsv 0) (za0 (zc1 zt8 (fun _ _=>ev_blt) rfl M.z_len zm9 (za0 (jsv 2) za3)) za3)) rfl))
     (za1 (zb7 (i:=5) zm2.nd rfl (by trivial) (za7 (ps:=["_law_well_here", "_law_order_here", "_law_height_here"]) ih.h17 hr rfl M.m17 M.F17.kp M.b17 (za0 (jsv 0) (za0 (zb2 hu1 (zb2 hu1 (jsv 1) za2 (fun _ _=>rfl)) (jsv 4) (fun _ _=>rfl)) (za0 (zb2 hu1 (jsv 2) (jsv 4) (fun _ _=>rfl)) za3))) rfl))
     (za1 (zb1 (zb9 zi2 (zb9 zi2 (zh4 (jsv 2) zk5 (zh3 (jsv 4))) (za8 (za0 (jsv 5) za3)) fun _ _=>ev_bin) (zh4 (jsv 2) (zh3 (zb9 zi2 (jsv 4) za2 fun _ _=>ev_bin)) zk5) fun _ _=>ev_bin))
     za6)))
     za6)
    (za1 (zb1 (zb2 hu1 (zb2 hu1 (jsv 1) za2 (fun _ _=>rfl)) (za7 (ps:=["_law_well_here", "_law_many"]) ih.h7 hr rfl M.m7 M.F7.kp M.b7 (za0 (jsv 0) (za0 (zc1 zt8 (fun _ _=>ev_blt) rfl M.z_len zm9 (za0 (zb2 hu1 (jsv 1) za2 (fun _ _=>rfl)) za3)) za3)) rfl) (fun _ _=>rfl)))
    za6)))))))
theorem d_law_all (M:Md K mg f fd) (ih:Ih P w K mg base f fd W d) (hr:Room d (A.deeper (envOfC "_law_all" (defScope zi0) s.heap.objs.size (f 18) cdv))) :
    JSs (cxOf CX0 P w K mg base ["_law_order_here", "_law_found", "_law_name"] "_law_all" (defScope zi0) (f 18) cdv A outer s H E).nox (runF prog W d) W (defBody zi0) zv4 :=
  have hu1:=zm3 hr
  have hu2:=zm8 hr
  have hgd:=hr.gd
  (za1 (zc4 (za9 (o_ne hu2) (zb2 hu1 (jsv 0) za2 (fun _ _=>rfl)) (zb0 (cs:=[115,101,116])) (zb4 _) fun _ _=>ev_cmp)
     (za1 (zb1 (zc9 n_list (fun _ _=>ev_blt) rfl M.z_list zQ5 (za0 (zb2 hu1 (jsv 0) za2 (fun _ _=>rfl)) za3)))
     za6)
     za6)
    (za1 (zb7 (i:=1) zs4.nd rfl (by trivial) (zr2 (za0 (za8 za3) za3)))
    (za1 (zp6 PassesOwn.never rfl (ze5 (zb2 hu1 (jsv 0) za2 (fun _ _=>rfl))) (zc0 (i:=2) zs4.nd rfl (by trivial))
     (za1 (zb7 (i:=1) zs4.nd rfl (by trivial) (zb9 zi2 (jsv 1) (zd2 (N:=["_law_name", "_law_one"]) rfl (zc7 (up:=defScope zi0) (XN:=["_law_order_here", "_law_found", "_law_name"]) rfl rfl (by decide +kernel)) (ze5 (jsv 1)) (fun _ _ _ _ _=>zc0 (i:=1) nd23 rfl (by trivial)) (fun _ _ _ _ _=>zr7) (fun _ _ _ _ _=>(zb9 zi2 (jsv 1) (za8 (za0 (jsv 0) za3)) fun _ _=>ev_bin))) fun _ _=>ev_bin))
     za6))
    (za1 (zb1 (jsv 1))
    za6))))
theorem d_law_met (M:Md K mg f fd) (ih:Ih P w K mg base f fd W d) (hr:Room d (A.deeper (envOfC "_law_met" (defScope zh9) s.heap.objs.size (f 19) cdv))) :
    JSs (cxOf CX0 P w K mg base ["_law_order_here", "_law_one", "_law_other"] "_law_met" (defScope zh9) (f 19) cdv A outer s H E).nox (runF prog W d) W (defBody zh9) zv3 :=
  have hu1:=zm3 hr
  have hu2:=zm8 hr
  have hgd:=hr.gd
  (za1 (zc4 (za9 (zk7 hu2) (zb2 hu1 (jsv 0) za2 (fun _ _=>rfl)) (zb0 (cs:=[115,101,116])) (zb4 _) fun _ _=>ev_cmp)
     (za1 (zb1 (zc9 zj1 (fun _ _=>ev_blt) rfl M.z_tuple zh5 (za0 (zd2 (N:=["_law_other", "_law_name"]) rfl (zc7 (up:=defScope zh9) (XN:=["_law_order_here", "_law_one", "_law_other"]) rfl rfl (by decide +kernel)) (ze5 (jsv 1)) (fun _ _ _ _ _=>zc0 (i:=1) nd24 rfl (by trivial)) (fun _ _ _ _ _=>(zy5 (za9 (zY7 hu2) (jsv 1) (jsv 0) (by with_unfolding_all rfl) fun _ _=>ev_cmp))) (fun _ _ _ _ _=>(jsv 1))) za3)))
     za6)
     za6)
    (za1 (zb1 (zo3 (zI3 (za7 (ps:=["_law_order_here", "_law_one", "_law_other"]) ih.h15 hr rfl M.m15 M.F15.kp M.b15 (za0 (jsv 0) (za0 (jsv 1) (za0 (jsv 2) za3))) rfl)) (jsv 2) (jsv 1)))
    za6))
theorem zN8 (M:Md K mg f fd) (ih:Ih P w K mg base f fd W d) (hr:Room d (A.deeper (envOfC "_law_below" (defScope ze1) s.heap.objs.size (f 20) cdv))) :
    JSs (cxOf CX0 P w K mg base ["_law_order_here", "_law_height_here", "_law_word", "_law_rest", "_law_firsts", "_law_one"] "_law_below" (defScope ze1) (f 20) cdv A outer s H E).nox (runF prog W d) W (defBody ze1) zk1 :=
  have hu1:=zm3 hr
  have hu2:=zm8 hr
  have hgd:=hr.gd
  (za1 (zb7 (i:=2) zk9.nd rfl (by trivial) (zb2 hu1 (jsv 0) za2 (fun _ _=>rfl)))
    (za1 (zc4 (za9 (zk7 hu2) (jsv 2) (zb0 (cs:=[110,117,109])) (zb4 _) fun _ _=>ev_cmp)
     (za1 (zb1 (zo3 (za9 o_gt (jsv 1) za2 (zb4 _) fun _ _=>ev_cmp) (za8 (za0 (zb9 zV9 (jsv 1) za2 fun _ _=>ev_bin) za3)) (za8 za3)))
     za6)
     za6)
    (za1 (zc4 (za9 (zk7 hu2) (jsv 2) (zb0 (cs:=[108,111,119])) (zb4 _) fun _ _=>ev_cmp)
     (za1 (zb1 (zo3 (za9 o_is (jsv 1) zp5 (zb4 _) fun _ _=>ev_cmp) (za8 za3) (za8 (za0 (zb9 zi2 (jsv 1) za2 fun _ _=>ev_bin) za3))))
     za6)
     za6)
    (za1 (zc4 (zA5 (jsw_or (za9 (zk7 hu2) (jsv 2) (zb0 (cs:=[114,111,119])) (zb4 _) fun _ _=>ev_cmp) (zQ4 (za9 (zk7 hu2) (jsv 2) (zb0 (cs:=[110,101,119,101,114])) (zb4 _) fun _ _=>ev_cmp))))
     (za1 (zb1 (za8 za3))
     za6)
     za6)
    (za1 (zz6 (i:=3) zk9.nd rfl rfl (N:=["_law_order_here", "_law_height_here", "_law_one"]) rfl (zn0 (up:=defScope ze1) (XN:=["_law_order_here", "_law_height_here", "_law_word", "_law_rest", "_law_firsts", "_law_one"]) rfl rfl (by decide +kernel)) (ze5 (za7 (ps:=["_law_order_here"]) ih.h18 hr rfl M.m18 M.F18.kp M.b18 (za0 (jsv 0) za3) rfl)) (fun _ _ _ _ _=>zc0 (i:=2) nd26 rfl (by trivial)) (fun _ _ _ _ _=>(zy5 (jst_not (zI3 (za7 (ps:=["_law_order_here", "_law_one", "_law_other"]) ih.h15 hr rfl M.m15 M.F15.kp M.b15 (za0 (jsv 0) (za0 (jsv 2) (za0 (jsv 1) za3))) rfl))))) (fun _ _ _ _ _=>(jsv 2)))
    (za1 (zb7 (i:=4) zk9.nd rfl (by trivial) (zr9 (zH9 za3 (by decide) rfl)))
    (za1 (zp6 PassesOwn.never rfl (ze5 (jsv 3)) (zc0 (i:=5) zk9.nd rfl (by trivial))
     (za1 (zc4 (za9 (zx6 hu2) zE5 (zd2 (N:=["_law_order_here", "_law_one", "_law_other"]) rfl (zc7 (up:=defScope ze1) (XN:=["_law_order_here", "_law_height_here", "_law_word", "_law_rest", "_law_firsts", "_law_one"]) rfl rfl (by decide +kernel)) (ze5 (jsv 3)) (fun _ _ _ _ _=>zc0 (i:=2) nd25 rfl (by trivial)) (fun _ _ _ _ _=>zr7) (fun _ _ _ _ _=>(za7 (ps:=["_law_order_here", "_law_one", "_law_other"]) ih.h15 hr rfl M.m15 M.F15.kp M.b15 (za0 (jsv 0) (za0 (jsv 1) (za0 (jsv 2) za3))) rfl))) (by with_unfolding_all rfl) fun _ _=>ev_cmp)
      (za1 (zn2 (zu4 PySem.F.slot_list_append PySem.F.type_list_append zs5 (jsv 4) (za0 (jsv 5) za3) zs3))
      za6)
      za6)
     za6))
    (za1 (zb1 (zc9 zj1 (fun _ _=>ev_blt) rfl M.z_tuple zh5 (za0 (zh4 (jsv 4) zk5 (zh3 za2)) za3)))
    za6))))))))
theorem zV5 (M:Md K mg f fd) (ih:Ih P w K mg base f fd W d) (hr:Room d (A.deeper (envOfC "_law_some" (defScope zf7) s.heap.objs.size (f 21) cdv))) :
  JSs (cxOf CX0 P w K mg base ["_law_well_here", "_law_order_here", "_law_some_here", "_law_more"] "_law_some" (defScope zf7) (f 21) cdv A outer s H E).nox (runF prog W d) W (defBody zf7) zx4 :=
 have hu1:=zm3 hr
 have hu2:=zm8 hr
 have hgd:=hr.gd
 (za1 (zz6 (i:=2) zt3.nd rfl rfl (N:=["_law_well_here", "_law_order_here", "_law_j"]) rfl (zn0 (up:=defScope zf7) (XN:=["_law_well_here", "_law_order_here", "_law_some_here", "_law_more"]) rfl rfl (by decide +kernel)) (zk4 rfl M.z_range za2) (fun _ _ _ _ _=>zc0 (i:=2) nd28 rfl (by trivial)) (fun _ _ _ _ _=>zr7) (fun _ _ _ _ _=>(za7 (ps:=["_law_well_here", "_law_order_here"]) ih.h13 hr rfl M.m13 M.F13.kp M.b13 (za0 (jsv 0) (za0 (jsv 1) za3)) rfl)))
  (za1 (zz6 (i:=3) zt3.nd rfl rfl (N:=["_law_well_here", "_law_order_here", "_law_height_here"]) rfl (zn0 (up:=defScope zf7) (XN:=["_law_well_here", "_law_order_here", "_law_some_here", "_law_more"]) rfl rfl (by decide +kernel)) (ze5 (jsv 2)) (fun _ _ _ _ _=>zc0 (i:=2) nd27 rfl (by trivial)) (fun _ _ _ _ _=>zr7) (fun _ _ _ _ _=>(za7 (ps:=["_law_well_here", "_law_order_here", "_law_height_here"]) ih.h17 hr rfl M.m17 M.F17.kp M.b17 (za0 (jsv 0) (za0 (jsv 1) (za0 (jsv 2) za3))) rfl)))
  (za1 (zb1 (zb9 zi2 (zb9 zi2 (jsv 2) (jsv 3) fun _ _=>ev_bin) (zr2 (za0 (za7 (ps:=["_law_order_here"]) ih.h16 hr rfl M.m16 M.F16.kp M.b16 (za0 (jsv 1) za3) rfl) za3)) fun _ _=>ev_bin))
  za6)))
theorem d_law (M:Md K mg f fd) (ih:Ih P w K mg base f fd W d) (hr:Room d (A.deeper (envOfC "law" (defScope zt6) s.heap.objs.size (f 22) cdv))) :
    JSs (cxOf CX0 P w K mg base ["_law_script", "_law_k", "_law_well_here", "_law_names_here", "_law_order_here", "_law_some_here", "_law_kept", "_law_one", "_law_other"] "law" (defScope zt6) (f 22) cdv A outer s H E).nox (runF prog W d) W (defBody zt6) zW5 :=
  have hu1:=zm3 hr
  have hu2:=zm8 hr
  have hgd:=hr.gd
  (za1 (zp6 PassesOwn.never rfl (zk4 rfl M.z_range za2) (zc0 (i:=1) zv9.nd rfl (by trivial))
     (za1 (zb7 (i:=2) zv9.nd rfl (by trivial) (za7 (ps:=["_law_script", "_law_k"]) ih.h6 hr rfl M.m6 M.F6.kp M.b6 (za0 (jsv 0) (za0 (jsv 1) za3)) rfl))
     (za1 (zb7 (i:=3) zv9.nd rfl (by trivial) (zc9 zj1 (fun _ _=>ev_blt) rfl M.z_tuple zh5 (za0 (za7 (ps:=["_law_well_here", "_law_many"]) ih.h8 hr rfl M.m8 M.F8.kp M.b8 (za0 (jsv 2) (za0 (zb9 zi2 za2 (za7 (ps:=["_law_well_here", "_law_many"]) ih.h7 hr rfl M.m7 M.F7.kp M.b7 (za0 (jsv 2) (za0 za2 za3)) rfl) fun _ _=>ev_bin) za3)) rfl) za3)))
     (za1 (zp6 PassesOwn.never rfl (ze5 (za8 (za0 (za7 (ps:=["_law_well_here"]) ih.h12 hr rfl M.m12 M.F12.kp M.b12 (za0 (jsv 2) za3) rfl) (za0 (za8 (za0 (zb0 (cs:=[115,101,116])) (za0 (jsv 3) za3))) (za0 (za8 (za0 (zb0 (cs:=[99,104,97,105,110])) (za0 (jsv 3) za3))) (za0 (za7 (ps:=["_law_well_here"]) ih.h9 hr rfl M.m9 M.F9.kp M.b9 (za0 (jsv 2) za3) rfl) (za0 (za8 (za0 (zb0 (cs:=[108,111,119])) za3)) (za0 (za8 (za0 (zb0 (cs:=[110,117,109])) za3)) za3)))))))) (zc0 (i:=4) zv9.nd rfl (by trivial))
      (za1 (zb7 (i:=5) zv9.nd rfl (by trivial) (za7 (ps:=["_law_well_here", "_law_order_here"]) ih.h21 hr rfl M.m21 M.F21.kp M.b21 (za0 (jsv 2) (za0 (jsv 4) za3)) rfl))
      (za1 (zb7 (i:=6) zv9.nd rfl (by trivial) (zc1 (zF0 hu2 hgd) (fun _ _=>ev_blt) rfl M.z_repr zw8 (za0 (za8 (za0 (jsv 4) (za0 (jsv 5) za3))) za3)))
      (za1 (zp6 PassesOwn.never rfl (ze5 (jsv 5)) (zc0 (i:=7) zv9.nd rfl (by trivial))
       (za1 (zc4 (za9 (o_ne hu2) (zc1 (zF0 hu2 hgd) (fun _ _=>ev_blt) rfl M.z_repr zw8 (za0 (za7 (ps:=["order", "height"]) ih.h3 hr rfl M.m3 M.F3.kp M.b3 (za0 (jsv 4) (za0 (jsv 7) za3)) rfl) za3)) (zc1 (zF0 hu2 hgd) (fun _ _=>ev_blt) rfl M.z_repr zw8 (za0 (za7 (ps:=["_law_order_here", "_law_height_here"]) ih.h20 hr rfl M.m20 M.F20.kp M.b20 (za0 (jsv 4) (za0 (jsv 7) za3)) rfl) za3)) (zb4 _) fun _ _=>ev_cmp)
        (za1 (zb1 zE5)
        za6)
        za6)
       (za1 (zc4 (za9 (zY7 hu2) (zb2 hu1 (jsv 4) za2 (fun _ _=>rfl)) (za8 (za0 (zb0 (cs:=[110,117,109])) (za0 (zb0 (cs:=[108,111,119])) (za0 (zb0 (cs:=[99,104,97,105,110])) (za0 (zb0 (cs:=[115,101,116])) za3))))) (by with_unfolding_all rfl) fun _ _=>ev_cmp)
        (za1 (zp6 PassesOwn.never rfl (ze5 (jsv 5)) (zc0 (i:=8) zv9.nd rfl (by trivial))
         (za1 (zc4 (za9 (o_ne hu2) (zc1 (zF0 hu2 hgd) (fun _ _=>ev_blt) rfl M.z_repr zw8 (za0 (za7 (ps:=["order", "one", "other"]) ih.h2 hr rfl M.m2 M.F2.kp M.b2 (za0 (jsv 4) (za0 (jsv 7) (za0 (jsv 8) za3))) rfl) za3)) (zc1 (zF0 hu2 hgd) (fun _ _=>ev_blt) rfl M.z_repr zw8 (za0 (za7 (ps:=["_law_order_here", "_law_one", "_law_other"]) ih.h19 hr rfl M.m19 M.F19.kp M.b19 (za0 (jsv 4) (za0 (jsv 7) (za0 (jsv 8) za3))) rfl) za3)) (zb4 _) fun _ _=>ev_cmp)
          (za1 (zb1 zE5)
          za6)
          za6)
         za6))
        za6)
        za6)
       za6)))
      (za1 (zc4 (za9 (o_ne hu2) (zc1 (zF0 hu2 hgd) (fun _ _=>ev_blt) rfl M.z_repr zw8 (za0 (za8 (za0 (jsv 4) (za0 (jsv 5) za3))) za3)) (jsv 6) (zb4 _) fun _ _=>ev_cmp)
       (za1 (zb1 zE5)
       za6)
       za6)
      za6)))))
     za6))))
    (za1 (zb1 zE5)
    za6))
end
open PySem L2 OR PySem.SeqAt PyProof.Rows
section
variable {P:Program} {w:World} {K:PySem.W.Frag} {mg:Str→Option Value} {base:Heap} {f:Nat→Addr} {fd:Nat→FuncData}
theorem all (M:Md K mg f fd) (W:Nat):∀ d:Nat,Ih P w K mg base f fd W d
 | 0=>⟨zg4,zg4,zg4,zg4,zg4,zg4,zg4,zg4,zg4,zg4,zg4,zg4,zg4,zg4,zg4,zg4,zg4,zg4,zg4,zg4,zg4,zg4,zg4⟩
 | d+1=>by
  have ih:=all M W d
  exact ⟨ze2 (ib:=zq9) M.F0 zj4 rfl fun cdv A outer s H E hr=>zM0 M ih hr,
   ze2 (ib:=zj6) M.F1 zA0 rfl fun cdv A outer s H E hr=>zY6 M ih hr,
   ze2 (ib:=b_met) M.F2 sc_met rfl fun cdv A outer s H E hr=>d_met M ih hr,
   ze2 (ib:=zp9) M.F3 zJ3 rfl fun cdv A outer s H E hr=>d_below M ih hr,
   ze2 (ib:=zn8) M.F4 zA3 rfl fun cdv A outer s H E hr=>zE1 M ih hr,
   ze2 (ib:=zo2) M.F5 zm0 rfl fun cdv A outer s H E hr=>zE2 M ih hr,
   ze2 (ib:=zs1) M.F6 zu0 rfl fun cdv A outer s H E hr=>zY1 M ih hr,
   ze2 (ib:=zs0) M.F7 zm7 rfl fun cdv A outer s H E hr=>zV6 M ih hr,
   ze2 (ib:=zk0) M.F8 zd8 rfl fun cdv A outer s H E hr=>zR0 M ih hr,
   ze2 (ib:=zC5) M.F9 zj3 rfl fun cdv A outer s H E hr=>d_law_web M ih hr,
   ze2 (ib:=zx0) M.F10 zC8 rfl fun cdv A outer s H E hr=>zY0 M ih hr,
   ze2 (ib:=zx7) M.F11 zQ0 rfl fun cdv A outer s H E hr=>zX2 M ih hr,
   ze2 (ib:=zt4) M.F12 zn5 rfl fun cdv A outer s H E hr=>zO9 M ih hr,
   ze2 (ib:=zf4) M.F13 zl3 rfl fun cdv A outer s H E hr=>zL9 M ih hr,
   ze2 (ib:=zt1) M.F14 zk2 rfl fun cdv A outer s H E hr=>zR1 M ih hr,
   ze2 (ib:=zf2) M.F15 zr6 rfl fun cdv A outer s H E hr=>zE0 M ih hr,
   ze2 (ib:=zi4) M.F16 zr5 rfl fun cdv A outer s H E hr=>zQ6 M ih hr,
   ze2 (ib:=zj5) M.F17 zm2 rfl fun cdv A outer s H E hr=>zV3 M ih hr,
   ze2 (ib:=zv4) M.F18 zs4 rfl fun cdv A outer s H E hr=>d_law_all M ih hr,
   ze2 (ib:=zv3) M.F19 zY4 rfl fun cdv A outer s H E hr=>d_law_met M ih hr,
   ze2 (ib:=zk1) M.F20 zk9 rfl fun cdv A outer s H E hr=>zN8 M ih hr,
   ze2 (ib:=zx4) M.F21 zt3 rfl fun cdv A outer s H E hr=>zV5 M ih hr,
   ze2 (ib:=zW5) M.F22 zv9 rfl fun cdv A outer s H E hr=>d_law M ih hr⟩
end
theorem all_mk {l:PySem.W.OpenLaw} {w:World} {K:PySem.W.Frag} {h:Heap} {mg:Str→Option Value} {fa f0 f1 f2 f3 f4 f5 f6 f7 f8 f9 f10 f11 f12 f13 f14 f15 f16 f17 f18 f19 f20 f21 f22:Addr} (X:K.In h) (G:h.Ns mainGlobals mg) (hfa:mg "law" = some (.ref fa)) (D:Nat)
    {od0 an0 od1 an1 od2 an2 od3 an3 od4 an4 od5 an5 od6 an6 od7 an7 od8 an8 od9 an9 od10 an10 od11 an11 od12 an12 od13 an13 od14 an14 od15 an15 od16 an16 od17 an17 od18 an18 od19 an19 od20 an20 od21 an21 od22 an22:Option Addr} {sl0 sl1 sl2 sl3 sl4 sl5 sl6 sl7 sl8 sl9 sl10 sl11 sl12 sl13 sl14 sl15 sl16 sl17 sl18 sl19 sl20 sl21 sl22:Array (Option Value)} {oc0 kV0 dc0 pm0 cd0 ct0 oc1 kV1 dc1 pm1 cd1 ct1 oc2 kV2 dc2 pm2 cd2 ct2 oc3 kV3 dc3 pm3 cd3 ct3 oc4 kV4 dc4 pm4 cd4 ct4 oc5 kV5 dc5 pm5 cd5 ct5 oc6 kV6 dc6 pm6 cd6 ct6 oc7 kV7 dc7 pm7 cd7 ct7 oc8 kV8 dc8 pm8 cd8 ct8 oc9 kV9 dc9 pm9 cd9 ct9 oc10 kV10 dc10 pm10 cd10 ct10 oc11 kV11 dc11 pm11 cd11 ct11 oc12 kV12 dc12 pm12 cd12 ct12 oc13 kV13 dc13 pm13 cd13 ct13 oc14 kV14 dc14 pm14 cd14 ct14 oc15 kV15 dc15 pm15 cd15 ct15 oc16 kV16 dc16 pm16 cd16 ct16 oc17 kV17 dc17 pm17 cd17 ct17 oc18 kV18 dc18 pm18 cd18 ct18 oc19 kV19 dc19 pm19 cd19 ct19 oc20 kV20 dc20 pm20 cd20 ct20 oc21 kV21 dc21 pm21 cd21 ct21 oc22 kV22 dc22 pm22 cd22 ct22:Value}
    (a0:PySem.W.nsIn K mainGlobals "names_over" = some (some (.ref f0))) (l0:K.lookup f0=some ⟨oc0,od0,.func (PySem.W.fnOf "names_over" "names_over" (defArgs zd1) (defBody zd1) (defScope zd1) .none kV0 dc0 pm0 an0 cd0 ct0),sl0⟩) (c0:PySem.W.codeIn K cd0 "names_over" = true) (k0:PySem.W.keepIn K (.ref f0)=true)
    (a1:PySem.W.nsIn K mainGlobals "at_least" = some (some (.ref f1))) (l1:K.lookup f1=some ⟨oc1,od1,.func (PySem.W.fnOf "at_least" "at_least" (defArgs zf6) (defBody zf6) (defScope zf6) .none kV1 dc1 pm1 an1 cd1 ct1),sl1⟩) (c1:PySem.W.codeIn K cd1 "at_least" = true) (k1:PySem.W.keepIn K (.ref f1)=true)
    (a2:PySem.W.nsIn K mainGlobals "met" = some (some (.ref f2))) (l2:K.lookup f2=some ⟨oc2,od2,.func (PySem.W.fnOf "met" "met" (defArgs zy1) (defBody zy1) (defScope zy1) .none kV2 dc2 pm2 an2 cd2 ct2),sl2⟩) (c2:PySem.W.codeIn K cd2 "met" = true) (k2:PySem.W.keepIn K (.ref f2)=true)
    (a3:PySem.W.nsIn K mainGlobals "below" = some (some (.ref f3))) (l3:K.lookup f3=some ⟨oc3,od3,.func (PySem.W.fnOf "below" "below" (defArgs zl0) (defBody zl0) (defScope zl0) .none kV3 dc3 pm3 an3 cd3 ct3),sl3⟩) (c3:PySem.W.codeIn K cd3 "below" = true) (k3:PySem.W.keepIn K (.ref f3)=true)
    (a4:PySem.W.nsIn K mainGlobals "below_in_set" = some (some (.ref f4))) (l4:K.lookup f4=some ⟨oc4,od4,.func (PySem.W.fnOf "below_in_set" "below_in_set" (defArgs zc8) (defBody zc8) (defScope zc8) .none kV4 dc4 pm4 an4 cd4 ct4),sl4⟩) (c4:PySem.W.codeIn K cd4 "below_in_set" = true) (k4:PySem.W.keepIn K (.ref f4)=true)
    (a5:PySem.W.nsIn K mainGlobals "below_in_web" = some (some (.ref f5))) (l5:K.lookup f5=some ⟨oc5,od5,.func (PySem.W.fnOf "below_in_web" "below_in_web" (defArgs zc2) (defBody zc2) (defScope zc2) .none kV5 dc5 pm5 an5 cd5 ct5),sl5⟩) (c5:PySem.W.codeIn K cd5 "below_in_web" = true) (k5:PySem.W.keepIn K (.ref f5)=true)
    (a6:PySem.W.nsIn K mainGlobals "_law_well" = some (some (.ref f6))) (l6:K.lookup f6=some ⟨oc6,od6,.func (PySem.W.fnOf "_law_well" "_law_well" (defArgs zh0) (defBody zh0) (defScope zh0) .none kV6 dc6 pm6 an6 cd6 ct6),sl6⟩) (c6:PySem.W.codeIn K cd6 "_law_well" = true) (k6:PySem.W.keepIn K (.ref f6)=true)
    (a7:PySem.W.nsIn K mainGlobals "_law_draw" = some (some (.ref f7))) (l7:K.lookup f7=some ⟨oc7,od7,.func (PySem.W.fnOf "_law_draw" "_law_draw" (defArgs zg9) (defBody zg9) (defScope zg9) .none kV7 dc7 pm7 an7 cd7 ct7),sl7⟩) (c7:PySem.W.codeIn K cd7 "_law_draw" = true) (k7:PySem.W.keepIn K (.ref f7)=true)
    (a8:PySem.W.nsIn K mainGlobals "_law_names" = some (some (.ref f8))) (l8:K.lookup f8=some ⟨oc8,od8,.func (PySem.W.fnOf "_law_names" "_law_names" (defArgs ze3) (defBody ze3) (defScope ze3) .none kV8 dc8 pm8 an8 cd8 ct8),sl8⟩) (c8:PySem.W.codeIn K cd8 "_law_names" = true) (k8:PySem.W.keepIn K (.ref f8)=true)
    (a9:PySem.W.nsIn K mainGlobals "_law_web" = some (some (.ref f9))) (l9:K.lookup f9=some ⟨oc9,od9,.func (PySem.W.fnOf "_law_web" "_law_web" (defArgs zh1) (defBody zh1) (defScope zh1) .none kV9 dc9 pm9 an9 cd9 ct9),sl9⟩) (c9:PySem.W.codeIn K cd9 "_law_web" = true) (k9:PySem.W.keepIn K (.ref f9)=true)
    (a10:PySem.W.nsIn K mainGlobals "_law_flat" = some (some (.ref f10))) (l10:K.lookup f10=some ⟨oc10,od10,.func (PySem.W.fnOf "_law_flat" "_law_flat" (defArgs zg7) (defBody zg7) (defScope zg7) .none kV10 dc10 pm10 an10 cd10 ct10),sl10⟩) (c10:PySem.W.codeIn K cd10 "_law_flat" = true) (k10:PySem.W.keepIn K (.ref f10)=true)
    (a11:PySem.W.nsIn K mainGlobals "_law_nest" = some (some (.ref f11))) (l11:K.lookup f11=some ⟨oc11,od11,.func (PySem.W.fnOf "_law_nest" "_law_nest" (defArgs zg2) (defBody zg2) (defScope zg2) .none kV11 dc11 pm11 an11 cd11 ct11),sl11⟩) (c11:PySem.W.codeIn K cd11 "_law_nest" = true) (k11:PySem.W.keepIn K (.ref f11)=true)
    (a12:PySem.W.nsIn K mainGlobals "_law_order" = some (some (.ref f12))) (l12:K.lookup f12=some ⟨oc12,od12,.func (PySem.W.fnOf "_law_order" "_law_order" (defArgs zd9) (defBody zd9) (defScope zd9) .none kV12 dc12 pm12 an12 cd12 ct12),sl12⟩) (c12:PySem.W.codeIn K cd12 "_law_order" = true) (k12:PySem.W.keepIn K (.ref f12)=true)
    (a13:PySem.W.nsIn K mainGlobals "_law_height" = some (some (.ref f13))) (l13:K.lookup f13=some ⟨oc13,od13,.func (PySem.W.fnOf "_law_height" "_law_height" (defArgs zd4) (defBody zd4) (defScope zd4) .none kV13 dc13 pm13 an13 cd13 ct13),sl13⟩) (c13:PySem.W.codeIn K cd13 "_law_height" = true) (k13:PySem.W.keepIn K (.ref f13)=true)
    (a14:PySem.W.nsIn K mainGlobals "_law_overs" = some (some (.ref f14))) (l14:K.lookup f14=some ⟨oc14,od14,.func (PySem.W.fnOf "_law_overs" "_law_overs" (defArgs ze4) (defBody ze4) (defScope ze4) .none kV14 dc14 pm14 an14 cd14 ct14),sl14⟩) (c14:PySem.W.codeIn K cd14 "_law_overs" = true) (k14:PySem.W.keepIn K (.ref f14)=true)
    (a15:PySem.W.nsIn K mainGlobals "_law_at_least" = some (some (.ref f15))) (l15:K.lookup f15=some ⟨oc15,od15,.func (PySem.W.fnOf "_law_at_least" "_law_at_least" (defArgs zc5) (defBody zc5) (defScope zc5) .none kV15 dc15 pm15 an15 cd15 ct15),sl15⟩) (c15:PySem.W.codeIn K cd15 "_law_at_least" = true) (k15:PySem.W.keepIn K (.ref f15)=true)
    (a16:PySem.W.nsIn K mainGlobals "_law_least" = some (some (.ref f16))) (l16:K.lookup f16=some ⟨oc16,od16,.func (PySem.W.fnOf "_law_least" "_law_least" (defArgs ze0) (defBody ze0) (defScope ze0) .none kV16 dc16 pm16 an16 cd16 ct16),sl16⟩) (c16:PySem.W.codeIn K cd16 "_law_least" = true) (k16:PySem.W.keepIn K (.ref f16)=true)
    (a17:PySem.W.nsIn K mainGlobals "_law_near" = some (some (.ref f17))) (l17:K.lookup f17=some ⟨oc17,od17,.func (PySem.W.fnOf "_law_near" "_law_near" (defArgs zg0) (defBody zg0) (defScope zg0) .none kV17 dc17 pm17 an17 cd17 ct17),sl17⟩) (c17:PySem.W.codeIn K cd17 "_law_near" = true) (k17:PySem.W.keepIn K (.ref f17)=true)
    (a18:PySem.W.nsIn K mainGlobals "_law_all" = some (some (.ref f18))) (l18:K.lookup f18=some ⟨oc18,od18,.func (PySem.W.fnOf "_law_all" "_law_all" (defArgs zi0) (defBody zi0) (defScope zi0) .none kV18 dc18 pm18 an18 cd18 ct18),sl18⟩) (c18:PySem.W.codeIn K cd18 "_law_all" = true) (k18:PySem.W.keepIn K (.ref f18)=true)
    (a19:PySem.W.nsIn K mainGlobals "_law_met" = some (some (.ref f19))) (l19:K.lookup f19=some ⟨oc19,od19,.func (PySem.W.fnOf "_law_met" "_law_met" (defArgs zh9) (defBody zh9) (defScope zh9) .none kV19 dc19 pm19 an19 cd19 ct19),sl19⟩) (c19:PySem.W.codeIn K cd19 "_law_met" = true) (k19:PySem.W.keepIn K (.ref f19)=true)
    (a20:PySem.W.nsIn K mainGlobals "_law_below" = some (some (.ref f20))) (l20:K.lookup f20=some ⟨oc20,od20,.func (PySem.W.fnOf "_law_below" "_law_below" (defArgs ze1) (defBody ze1) (defScope ze1) .none kV20 dc20 pm20 an20 cd20 ct20),sl20⟩) (c20:PySem.W.codeIn K cd20 "_law_below" = true) (k20:PySem.W.keepIn K (.ref f20)=true)
    (a21:PySem.W.nsIn K mainGlobals "_law_some" = some (some (.ref f21))) (l21:K.lookup f21=some ⟨oc21,od21,.func (PySem.W.fnOf "_law_some" "_law_some" (defArgs zf7) (defBody zf7) (defScope zf7) .none kV21 dc21 pm21 an21 cd21 ct21),sl21⟩) (c21:PySem.W.codeIn K cd21 "_law_some" = true) (k21:PySem.W.keepIn K (.ref f21)=true)
    (a22:PySem.W.nsIn K mainGlobals "law" = some (some (.ref f22))) (l22:K.lookup f22=some ⟨oc22,od22,.func (PySem.W.fnOf "law" "law" (defArgs zt6) (defBody zt6) (defScope zt6) .none kV22 dc22 pm22 an22 cd22 ct22),sl22⟩) (c22:PySem.W.codeIn K cd22 "law" = true) (k22:PySem.W.keepIn K (.ref f22)=true)
    (z_all:PySem.W.nsIn K mainGlobals "all" = some none)
    (z_int:PySem.W.nsIn K mainGlobals "int" = some none)
    (z_len:PySem.W.nsIn K mainGlobals "len" = some none)
    (z_list:PySem.W.nsIn K mainGlobals "list" = some none)
    (z_max:PySem.W.nsIn K mainGlobals "max" = some none)
    (z_range:PySem.W.nsIn K mainGlobals "range" = some none)
    (z_repr:PySem.W.nsIn K mainGlobals "repr" = some none)
    (z_tuple:PySem.W.nsIn K mainGlobals "tuple" = some none)
    (z_zip:PySem.W.nsIn K mainGlobals "zip" = some none)
    : ∃ fd:FuncData,(∀ (s:Shared) (v:Value),BindsTo s fd ⟨[v],[]⟩ [("_law_script", v)])∧∀ base:Heap,K.In base→base.Ns mainGlobals mg→FnOk l.prog w K mg base CX0 D fa fd ["_law_script"] (spF K prog 1000 D 22 1):=by
  have X0:=X
  have e:=hfa.symm.trans (PySem.W.mg_of X G a22)
  cases e
  refine ⟨PySem.W.fnOf "law" "law" (defArgs zt6) (defBody zt6) (defScope zt6) .none kV22 dc22 pm22 an22 cd22 ct22,fun s v=>.of_eq rfl,fun base _ _=>?_⟩
  have F0:=zj0 (st:=zd1) l0 c0 k0
  have b0:=F0.binds (ps:=["pairs", "name"]) fun _ _ _ _ _ _ us hl=>len2 (fun _ _=>rfl) us hl
  have F1:=zj0 (st:=zf6) l1 c1 k1
  have b1:=F1.binds (ps:=["order", "one", "other"]) fun _ _ _ _ _ _ us hl=>len3 (fun _ _ _=>rfl) us hl
  have F2:=zj0 (st:=zy1) l2 c2 k2
  have b2:=F2.binds (ps:=["order", "one", "other"]) fun _ _ _ _ _ _ us hl=>len3 (fun _ _ _=>rfl) us hl
  have F3:=zj0 (st:=zl0) l3 c3 k3
  have b3:=F3.binds (ps:=["order", "height"]) fun _ _ _ _ _ _ us hl=>len2 (fun _ _=>rfl) us hl
  have F4:=zj0 (st:=zc8) l4 c4 k4
  have b4:=F4.binds (ps:=["names", "height"]) fun _ _ _ _ _ _ us hl=>len2 (fun _ _=>rfl) us hl
  have F5:=zj0 (st:=zc2) l5 c5 k5
  have b5:=F5.binds (ps:=["names", "pairs", "height"]) fun _ _ _ _ _ _ us hl=>len3 (fun _ _ _=>rfl) us hl
  have F6:=zj0 (st:=zh0) l6 c6 k6
  have b6:=F6.binds (ps:=["_law_script", "_law_k"]) fun _ _ _ _ _ _ us hl=>len2 (fun _ _=>rfl) us hl
  have F7:=zj0 (st:=zg9) l7 c7 k7
  have b7:=F7.binds (ps:=["_law_well_here", "_law_many"]) fun _ _ _ _ _ _ us hl=>len2 (fun _ _=>rfl) us hl
  have F8:=zj0 (st:=ze3) l8 c8 k8
  have b8:=F8.binds (ps:=["_law_well_here", "_law_many"]) fun _ _ _ _ _ _ us hl=>len2 (fun _ _=>rfl) us hl
  have F9:=zj0 (st:=zh1) l9 c9 k9
  have b9:=F9.binds (ps:=["_law_well_here"]) fun _ _ _ _ _ _ us hl=>len1 (fun _=>rfl) us hl
  have F10:=zj0 (st:=zg7) l10 c10 k10
  have b10:=F10.binds (ps:=["_law_well_here"]) fun _ _ _ _ _ _ us hl=>len1 (fun _=>rfl) us hl
  have F11:=zj0 (st:=zg2) l11 c11 k11
  have b11:=F11.binds (ps:=["_law_well_here"]) fun _ _ _ _ _ _ us hl=>len1 (fun _=>rfl) us hl
  have F12:=zj0 (st:=zd9) l12 c12 k12
  have b12:=F12.binds (ps:=["_law_well_here"]) fun _ _ _ _ _ _ us hl=>len1 (fun _=>rfl) us hl
  have F13:=zj0 (st:=zd4) l13 c13 k13
  have b13:=F13.binds (ps:=["_law_well_here", "_law_order_here"]) fun _ _ _ _ _ _ us hl=>len2 (fun _ _=>rfl) us hl
  have F14:=zj0 (st:=ze4) l14 c14 k14
  have b14:=F14.binds (ps:=["_law_order_here"]) fun _ _ _ _ _ _ us hl=>len1 (fun _=>rfl) us hl
  have F15:=zj0 (st:=zc5) l15 c15 k15
  have b15:=F15.binds (ps:=["_law_order_here", "_law_one", "_law_other"]) fun _ _ _ _ _ _ us hl=>len3 (fun _ _ _=>rfl) us hl
  have F16:=zj0 (st:=ze0) l16 c16 k16
  have b16:=F16.binds (ps:=["_law_order_here"]) fun _ _ _ _ _ _ us hl=>len1 (fun _=>rfl) us hl
  have F17:=zj0 (st:=zg0) l17 c17 k17
  have b17:=F17.binds (ps:=["_law_well_here", "_law_order_here", "_law_height_here"]) fun _ _ _ _ _ _ us hl=>len3 (fun _ _ _=>rfl) us hl
  have F18:=zj0 (st:=zi0) l18 c18 k18
  have b18:=F18.binds (ps:=["_law_order_here"]) fun _ _ _ _ _ _ us hl=>len1 (fun _=>rfl) us hl
  have F19:=zj0 (st:=zh9) l19 c19 k19
  have b19:=F19.binds (ps:=["_law_order_here", "_law_one", "_law_other"]) fun _ _ _ _ _ _ us hl=>len3 (fun _ _ _=>rfl) us hl
  have F20:=zj0 (st:=ze1) l20 c20 k20
  have b20:=F20.binds (ps:=["_law_order_here", "_law_height_here"]) fun _ _ _ _ _ _ us hl=>len2 (fun _ _=>rfl) us hl
  have F21:=zj0 (st:=zf7) l21 c21 k21
  have b21:=F21.binds (ps:=["_law_well_here", "_law_order_here"]) fun _ _ _ _ _ _ us hl=>len2 (fun _ _=>rfl) us hl
  have F22:=zj0 (st:=zt6) l22 c22 k22
  have b22:=F22.binds (ps:=["_law_script"]) fun _ _ _ _ _ _ us hl=>len1 (fun _=>rfl) us hl
  have M:Md K mg (fun i=>[f0,f1,f2,f3,f4,f5,f6,f7,f8,f9,f10,f11,f12,f13,f14,f15,f16,f17,f18,f19,f20,f21,fa].getD i f0) (fun i=>[PySem.W.fnOf "names_over" "names_over" (defArgs zd1) (defBody zd1) (defScope zd1) .none kV0 dc0 pm0 an0 cd0 ct0,PySem.W.fnOf "at_least" "at_least" (defArgs zf6) (defBody zf6) (defScope zf6) .none kV1 dc1 pm1 an1 cd1 ct1,PySem.W.fnOf "met" "met" (defArgs zy1) (defBody zy1) (defScope zy1) .none kV2 dc2 pm2 an2 cd2 ct2,PySem.W.fnOf "below" "below" (defArgs zl0) (defBody zl0) (defScope zl0) .none kV3 dc3 pm3 an3 cd3 ct3,PySem.W.fnOf "below_in_set" "below_in_set" (defArgs zc8) (defBody zc8) (defScope zc8) .none kV4 dc4 pm4 an4 cd4 ct4,PySem.W.fnOf "below_in_web" "below_in_web" (defArgs zc2) (defBody zc2) (defScope zc2) .none kV5 dc5 pm5 an5 cd5 ct5,PySem.W.fnOf "_law_well" "_law_well" (defArgs zh0) (defBody zh0) (defScope zh0) .none kV6 dc6 pm6 an6 cd6 ct6,PySem.W.fnOf "_law_draw" "_law_draw" (defArgs zg9) (defBody zg9) (defScope zg9) .none kV7 dc7 pm7 an7 cd7 ct7,PySem.W.fnOf "_law_names" "_law_names" (defArgs ze3) (defBody ze3) (defScope ze3) .none kV8 dc8 pm8 an8 cd8 ct8,PySem.W.fnOf "_law_web" "_law_web" (defArgs zh1) (defBody zh1) (defScope zh1) .none kV9 dc9 pm9 an9 cd9 ct9,PySem.W.fnOf "_law_flat" "_law_flat" (defArgs zg7) (defBody zg7) (defScope zg7) .none kV10 dc10 pm10 an10 cd10 ct10,PySem.W.fnOf "_law_nest" "_law_nest" (defArgs zg2) (defBody zg2) (defScope zg2) .none kV11 dc11 pm11 an11 cd11 ct11,PySem.W.fnOf "_law_order" "_law_order" (defArgs zd9) (defBody zd9) (defScope zd9) .none kV12 dc12 pm12 an12 cd12 ct12,PySem.W.fnOf "_law_height" "_law_height" (defArgs zd4) (defBody zd4) (defScope zd4) .none kV13 dc13 pm13 an13 cd13 ct13,PySem.W.fnOf "_law_overs" "_law_overs" (defArgs ze4) (defBody ze4) (defScope ze4) .none kV14 dc14 pm14 an14 cd14 ct14,PySem.W.fnOf "_law_at_least" "_law_at_least" (defArgs zc5) (defBody zc5) (defScope zc5) .none kV15 dc15 pm15 an15 cd15 ct15,PySem.W.fnOf "_law_least" "_law_least" (defArgs ze0) (defBody ze0) (defScope ze0) .none kV16 dc16 pm16 an16 cd16 ct16,PySem.W.fnOf "_law_near" "_law_near" (defArgs zg0) (defBody zg0) (defScope zg0) .none kV17 dc17 pm17 an17 cd17 ct17,PySem.W.fnOf "_law_all" "_law_all" (defArgs zi0) (defBody zi0) (defScope zi0) .none kV18 dc18 pm18 an18 cd18 ct18,PySem.W.fnOf "_law_met" "_law_met" (defArgs zh9) (defBody zh9) (defScope zh9) .none kV19 dc19 pm19 an19 cd19 ct19,PySem.W.fnOf "_law_below" "_law_below" (defArgs ze1) (defBody ze1) (defScope ze1) .none kV20 dc20 pm20 an20 cd20 ct20,PySem.W.fnOf "_law_some" "_law_some" (defArgs zf7) (defBody zf7) (defScope zf7) .none kV21 dc21 pm21 an21 cd21 ct21,PySem.W.fnOf "law" "law" (defArgs zt6) (defBody zt6) (defScope zt6) .none kV22 dc22 pm22 an22 cd22 ct22].getD i (PySem.W.fnOf "names_over" "names_over" (defArgs zd1) (defBody zd1) (defScope zd1) .none kV0 dc0 pm0 an0 cd0 ct0)) :=
    ⟨PySem.W.mg_of X G a0,F0,b0,PySem.W.mg_of X G a1,F1,b1,PySem.W.mg_of X G a2,F2,b2,PySem.W.mg_of X G a3,F3,b3,PySem.W.mg_of X G a4,F4,b4,PySem.W.mg_of X G a5,F5,b5,PySem.W.mg_of X G a6,F6,b6,PySem.W.mg_of X G a7,F7,b7,PySem.W.mg_of X G a8,F8,b8,PySem.W.mg_of X G a9,F9,b9,PySem.W.mg_of X G a10,F10,b10,PySem.W.mg_of X G a11,F11,b11,PySem.W.mg_of X G a12,F12,b12,PySem.W.mg_of X G a13,F13,b13,PySem.W.mg_of X G a14,F14,b14,PySem.W.mg_of X G a15,F15,b15,PySem.W.mg_of X G a16,F16,b16,PySem.W.mg_of X G a17,F17,b17,PySem.W.mg_of X G a18,F18,b18,PySem.W.mg_of X G a19,F19,b19,PySem.W.mg_of X G a20,F20,b20,PySem.W.mg_of X G a21,F21,b21,PySem.W.mg_of X G a22,F22,b22,
     PySem.W.mg_none_of X G z_all,PySem.W.mg_none_of X G z_int,PySem.W.mg_none_of X G z_len,PySem.W.mg_none_of X G z_list,PySem.W.mg_none_of X G z_max,PySem.W.mg_none_of X G z_range,PySem.W.mg_none_of X G z_repr,PySem.W.mg_none_of X G z_tuple,PySem.W.mg_none_of X G z_zip⟩
  exact (all (P:=l.prog) (w:=w) (base:=base) M 1000 D).h22
theorem law_sp {K:PySem.W.Frag} {H:Hp} {a:Addr} {ns:List Int} {E:XK} (h63:ns.length≤63) (hS:SqL K H a (ns.map V.int)):spF K prog 1000 9 22 1 [.ref a] H (fun v _=>v=.bl true) E:=by
 obtain ⟨st,e⟩:=law_eq 1000 0 (by decide) ns h63
 exact ⟨rfl,al0,[],_,_,st,start_rst,script_at hS,e,fun w H x r v h=>bl_of h⟩
theorem walk {l:PySem.W.OpenLaw} {q:Program} {loose:List Str} {XP:(Str→Option Value)→Heap→Prop} {YP:World→Heap→Prop} {d:DefRec} {K:Params→PySem.W.Frag} (hn:l.most=some 63) (hdf:d.params.defaults=[]) (hY:∀ (w:World) (h:Heap),YP w h→(K w.params).In h)
  (F:∀ (w:World) (mg:Str→Option Value) (fa:Addr) (h:Heap),(K w.params).In h→h.Ns mainGlobals mg→mg d.name=some (.ref fa) →
   ∃ fd:FuncData,(∀ (s:Shared) (u:Value),BindsTo s fd ⟨[u],[]⟩ [("_law_script", u)])∧∀ base:Heap,(K w.params).In base→base.Ns mainGlobals mg→FnOk l.prog w (K w.params) mg base CX0 9 fa fd ["_law_script"] (spF (K w.params) prog 1000 9 22 1)) :
  PySem.W.WalkO q loose XP YP l.row.toRowW d [] (fun f vs=>PySem.call f vs) :=
 L2.walk_of (n:=63) (k:=9) (x := "_law_script") (CX:=fun _=>CX0) (sp:=fun w=>spF (K w.params) prog 1000 9 22 1) hn (by decide) hdf ⟨rfl,by decide,by decide,rfl⟩ hY F (fun _ _ a ns hl _ hS=>law_sp hl hS) fun _ _ _ _ _ z=>z
end LA
noncomputable def PySem.W.Fast.tw7313961670569511507:PySem.Program:=PySem.Challenge.pw_onlyrise_k06_met_and_below
theorem PySem.W.Fast.te7313961670569511507:PySem.Challenge.pw_onlyrise_k06_met_and_below=PySem.W.Fast.tw7313961670569511507:=rfl
open PySem PySem.W PyProof.Rows
set_option maxRecDepth 100000 in
set_option maxHeartbeats 0 in
theorem PySem.Challenge.cw_onlyrise_k06_met_and_below_holds : PySem.Challenge.rw_onlyrise_k06_met_and_below.Holds := by
 w_on;o_law;k_head;(case hw=>w_witness2)
 k_fill
 refine LA.walk (l:=PySem.Challenge.rw_onlyrise_k06_met_and_below) rfl rfl (fun w h Y=>PySem.W.kIn_of Y) ?F
 case F =>
  intro w mg fa h KX G hmg
  refine' LA.all_mk KX G hmg 9 ?_ ?_ ?_ ?_ ?_ ?_ ?_ ?_ ?_ ?_ ?_ ?_ ?_ ?_ ?_ ?_ ?_ ?_ ?_ ?_ ?_ ?_ ?_ ?_ ?_ ?_ ?_ ?_ ?_ ?_ ?_ ?_ ?_ ?_ ?_ ?_ ?_ ?_ ?_ ?_ ?_ ?_ ?_ ?_ ?_ ?_ ?_ ?_ ?_ ?_ ?_ ?_ ?_ ?_ ?_ ?_ ?_ ?_ ?_ ?_ ?_ ?_ ?_ ?_ ?_ ?_ ?_ ?_ ?_ ?_ ?_ ?_ ?_ ?_ ?_ ?_ ?_ ?_ ?_ ?_ ?_ ?_ ?_ ?_ ?_ ?_ ?_ ?_ ?_ ?_ ?_ ?_ ?_ ?_ ?_ ?_ ?_ ?_ ?_ ?_ ?_
  all_goals try k_is
