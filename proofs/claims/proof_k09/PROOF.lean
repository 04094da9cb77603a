import PyProof.Rows.All
import Wide.All
import OpenK.AllK
import Wide.FinOn
import Lean
import PyProof.EqAt
import PyProof.EqKinds
import PyProof.TupleCall
import PyProof.Rows.SortShellK
import KE.KSortTup
import PyProof.StrOps
import PyProof.TupleOfSeq
import PyProof.ZipIter
import PyProof.TupleIter
import PyProof.WalksMore
import PyProof.Draws
import PyProof.EnumFor
import PyProof.EnumMake
import PyProof.AttrMiss
import KE.KDictOf
import PySem.Challenge.RW_onlyrise_k09_things_spoken_or_not
set_option bootstrap.genMatcherCode false
set_option genSizeOf false
set_option Elab.async false
set_option linter.all false
set_option maxRecDepth 100000
set_option maxHeartbeats 4000000
open PySem.W (Frag fnOf nsIn keepIn codeIn mg_of mg_none_of)
namespace OR
inductive PV where
 | non
 | bl (b:Bool)
 | int (i:Int)
 | str (cs:List Nat)
 | tup (xs:List PV)
 | lst (xs:List PV)
deriving Inhabited
mutual
noncomputable def PV.beq:PV→PV→Bool
 | .non,.non=>true
 | .bl a,.bl b=>a==b
 | .int a,.int b=>decide (a=b)
 | .str a,.str b=>decide (a=b)
 | .tup a,.tup b=>PV.beqs a b
 | .lst a,.lst b=>PV.beqs a b
 | _,_=>false
noncomputable def PV.beqs:List PV→List PV→Bool
 | [],[]=>true
 | a::r,b::s=>PV.beq a b&&PV.beqs r s
 | _,_=>false
end
mutual
theorem PV.eq_of_beq:∀ {a b:PV},PV.beq a b=true→a=b
 | .non,b,h=>by cases b <;> simp [PV.beq] at h <;> rfl
 | .bl a,b,h=>by cases b <;> simp [PV.beq] at h <;> rw [h]
 | .int a,b,h=>by cases b <;> simp [PV.beq] at h <;> rw [h]
 | .str a,b,h=>by cases b <;> simp [PV.beq] at h <;> rw [h]
 | .tup a,b,h=>by
  cases b <;> simp only [PV.beq,Bool.false_eq_true] at h
  rw [PV.eqs_of_beqs h]
 | .lst a,b,h=>by
  cases b <;> simp only [PV.beq,Bool.false_eq_true] at h
  rw [PV.eqs_of_beqs h]
theorem PV.eqs_of_beqs:∀ {a b:List PV},PV.beqs a b=true→a=b
 | [],b,h=>by cases b <;> simp [PV.beqs] at h <;> rfl
 | x::r,b,h=>by
  cases b with
  | nil=>simp [PV.beqs] at h
  | cons y s =>
   simp only [PV.beqs,Bool.and_eq_true] at h
   rw [PV.eq_of_beq h.1,PV.eqs_of_beqs h.2]
end
mutual
theorem PV.beq_self:∀ (a:PV),PV.beq a a=true
 | .non=>rfl
 | .bl _=>by simp [PV.beq]
 | .int _=>by simp [PV.beq]
 | .str _=>by simp [PV.beq]
 | .tup a=>by rw [PV.beq];exact PV.beqs_self a
 | .lst a=>by rw [PV.beq];exact PV.beqs_self a
theorem PV.beqs_self:∀ (a:List PV),PV.beqs a a=true
 | []=>rfl
 | x::r=>by rw [PV.beqs,PV.beq_self x,PV.beqs_self r];rfl
end
noncomputable instance:DecidableEq PV:=fun a b=>if h:PV.beq a b=true then .isTrue (PV.eq_of_beq h) else .isFalse fun e=>h (e▸PV.beq_self a)
mutual
/-- == of the language -/
noncomputable def pyEq:PV→PV→Bool
 | .non,.non=>true
 | .bl a,.bl b=>a==b
 | .bl a,.int i=>decide ((if a then 1 else 0)=i)
 | .int i,.bl a=>decide (i=(if a then 1 else 0))
 | .int a,.int b=>decide (a=b)
 | .str a,.str b=>decide (a=b)
 | .tup a,.tup b=>pyEqs a b
 | .lst a,.lst b=>pyEqs a b
 | _,_=>false
noncomputable def pyEqs:List PV→List PV→Bool
 | [],[]=>true
 | a::r,b::s=>pyEq a b&&pyEqs r s
 | _,_=>false
end
mutual
/-- how deep a value goes -/
noncomputable def dep:PV→Nat
 | .tup xs=>deps xs+1
 | .lst xs=>deps xs+1
 | _=>0
noncomputable def deps:List PV→Nat
 | []=>0
 | x::r=>max (dep x) (deps r)
end
@[simp] theorem yK7:dep .non=0:=by rw [dep] <;> simp
@[simp] theorem yU4 {b}:dep (.bl b)=0:=by rw [dep] <;> simp
@[simp] theorem yK8 {b}:dep (.int b)=0:=by rw [dep] <;> simp
@[simp] theorem yB6 {b}:dep (.str b)=0:=by rw [dep] <;> simp
@[simp] theorem yK0 {xs}:dep (.tup xs)=deps xs+1:=by rw [dep]
@[simp] theorem yJ2 {xs}:dep (.lst xs)=deps xs+1:=by rw [dep]
@[simp] theorem ys9:deps []=0:=by rw [deps]
@[simp] theorem yh8 {x r}:deps (x::r)=max (dep x) (deps r):=by rw [deps]
noncomputable def zi3 (m n:Nat):Bool:=decide (m≤100) || decide (n≤100)
@[simp] theorem xf7 {n}:zi3 0 n=true:=by simp [zi3]
@[simp] theorem xd4 {n}:zi3 n 0=true:=by simp [zi3]
inductive Val where
 | p (v:PV)
 | ref (n:Nat)
deriving Inhabited
inductive zl8 where
 | lst (xs:List PV)
 | dct (kvs:List (PV×PV))
 | dead
deriving Inhabited
noncomputable abbrev za6:=List zl8
noncomputable abbrev Env:=List (Option Val)
inductive Res (α:Type) where
 | ok (a:α) (st:za6)
 | exn (cls:Nat) (args:List PV) (st:za6)
 | stuck
noncomputable def Res.bind {α β:Type}:Res α→(α→za6→Res β)→Res β
 | .ok a st,f=>f a st
 | .exn c as st,_=>.exn c as st
 | .stuck,_=>.stuck
@[simp] theorem Res.bind_ok {α β:Type} (a:α) (st:za6) (f:α→za6→Res β):(Res.ok a st).bind f=f a st:=rfl
@[simp] theorem Res.bind_stuck {α β:Type} (f:α→za6→Res β):(Res.stuck:Res α).bind f=.stuck:=rfl
@[simp] theorem Res.bind_exn {α β:Type} (c as st) (f:α→za6→Res β):(Res.exn c as st:Res α).bind f=.exn c as st:=rfl
noncomputable def zb6 (st:za6) (n:Nat):Option zl8:=st[n]?
theorem zo1 {st:za6} {n:Nat} {o:zl8} (h:n<st.length):zb6 (st.set n o) n=some o:=by unfold zb6;simp [h]
theorem zr4 {st:za6} {n m:Nat} {o:zl8} (h:m≠n):zb6 (st.set n o) m=zb6 st m:=by unfold zb6;simp [Ne.symm h]
@[simp] theorem zn7 {st:za6} {o:zl8}:zb6 (st++[o]) st.length=some o:=by unfold zb6;simp
theorem zq1 {st r:za6} {n:Nat} (h:n<st.length):zb6 (st++r) n=zb6 st n:=by unfold zb6;rw [List.getElem?_append_left h]
theorem zm2 {st:za6} {n:Nat} {o:zl8} (h:zb6 st n=some o):n<st.length:=(List.getElem?_eq_some_iff.mp h).1
noncomputable def view (st:za6):Val→Option PV
 | .p v=>some v
 | .ref n=>match zb6 st n with
  | some (.lst xs)=>some (.lst xs)
  | _=>none
@[simp] theorem view_p (st:za6) (v:PV):view st (.p v)=some v:=rfl
noncomputable def Res.bindV {β:Type} (r:Res Val) (f:PV→za6→Res β):Res β:=r.bind fun v st=>match view st v with
 | some x=>f x st
 | none=>.stuck
@[simp] theorem Res.bindV_ok {β:Type} (v:PV) (st:za6) (f:PV→za6→Res β):(Res.ok (Val.p v) st).bindV f=f v st:=rfl
noncomputable def Res.bindB {β:Type} (r:Res Val) (f:Bool→za6→Res β):Res β:=r.bind fun v st=>match v with
 | .p (.bl b)=>f b st
 | _=>.stuck
@[simp] theorem Res.bindB_ok {β:Type} (b:Bool) (st:za6) (f:Bool→za6→Res β):(Res.ok (Val.p (.bl b)) st).bindB f=f b st:=rfl
noncomputable def Res.bindP {β:Type} (r:Res Val) (f:PV→za6→Res β):Res β:=r.bind fun v st=>match v with
 | .p x=>f x st
 | _=>.stuck
@[simp] theorem Res.bindP_ok {β:Type} (v:PV) (st:za6) (f:PV→za6→Res β):(Res.ok (Val.p v) st).bindP f=f v st:=rfl
inductive Bop where | add | sub | mul | fdiv | mod | pow
inductive Cop where | eq | ne | lt | le | gt | ge | isIn | notIn | isNone | notNone
inductive Ty where | int | str | bool | list | tuple
inductive Bf where
 | len | isinst (t:Ty) | all | any | min1 | max1 | min2 | max2 | sum | toInt | toStr | repr | tuple | list | sorted | lenSet | abs | sortSet
inductive Mt where
 | find | upper | join | index | count | split | partition | startswith | endswith
 | append | extend | insert | pop | reverse | clear
inductive Tg where | name (i:Nat) | tup (is:List Nat)
mutual
inductive E where
 | var (i:Nat)
 | const (v:PV)
 | bin (op:Bop) (a b:E)
 | neg (a:E)
 | not (a:E)
 | cmp (op:Cop) (a b:E)
 | chain (op op':Cop) (a b c:E)
 | and (a b:E)
 | or (a b:E)
 | ite (c a b:E)
 | tup (es:List E)
 | list (mt:Bool) (es:List E)
 | dict (ks:List PV) (es:List E)
 | ix (a b:E)
 | slice (a:E) (lo hi:Option E)
 | call (f:Nat) (es:List E)
 | blt (f:Bf) (es:List E)
 | meth (m:Mt) (o:E) (es:List E)
 | comp (mt:Bool) (elt:E) (tgt:Tg) (it:It) (cond:Option E) (caps:List Nat) (n:Nat)
 | freeze (e:E)
 | thaw (e:E)
 | rev (e:E)
 | dictZ (a b:E)
 | dget (o k d:E)
inductive It where
 | of (e:E)
 | range (e:E)
 | zip (es:List E)
 | zipR (a b:E)
 | enum (e:E)
end
inductive S where
 | expr (e:E)
 | ret (e:E)
 | set (i:Nat) (e:E)
 | setT (is:List Nat) (e:E)
 | setIx (o i v:E)
 | aug (i:Nat) (op:Bop) (e:E)
 | augI (i:Nat) (op:Bop) (e:E)
 | ite (c:E) (a b:List S)
 | for (tgt:Tg) (it:It) (body:List S)
 | while (c:E) (body:List S)
 | pass
inductive Flow where
 | next (env:Env)
 | ret (v:Val)
@[irreducible] noncomputable def SZ:Nat:=16777216
noncomputable def zh4 (i:Int):Bool:=decide (-(2 ^ 64)<i∧i<2 ^ 64)
@[simp] noncomputable def xc4:PV→PV→Option PV
 | .int i,.int j=>some (.int (i+j))
 | .str a,.str b=>if a.length+b.length≤SZ then some (.str (a++b)) else none
 | .tup a,.tup b=>if a.length+b.length≤SZ then some (.tup (a++b)) else none
 | .lst a,.lst b=>if a.length+b.length≤SZ then some (.lst (a++b)) else none
 | _,_=>none
@[simp] noncomputable def bSub:PV→PV→Option PV
 | .int i,.int j=>some (.int (i - j))
 | _,_=>none
@[simp] noncomputable def xb3:PV→PV→Option PV
 | .int i,.int j=>if zh4 i || zh4 j then some (.int (i * j)) else none
 | .str a,.int n=>if 0≤n∧n≤1000000∧a.length * n.toNat≤SZ then some (.str (List.replicate n.toNat a).flatten) else none
 | .lst a,.int n=>if 0≤n∧n≤1000000∧a.length * n.toNat≤SZ then some (.lst (List.replicate n.toNat a).flatten) else none
 | _,_=>none
@[simp] noncomputable def yS7:PV→PV→Option PV
 | .int i,.int j=>if 0<j∧j<1000000000000000000000000000000 then some (.int (i / j)) else none
 | _,_=>none
@[simp] noncomputable def bMod:PV→PV→Option PV
 | .int i,.int j=>if 0<j then some (.int (i % j)) else none
 | _,_=>none
@[simp] noncomputable def bPow:PV→PV→Option PV
 | .int i,.int j=>if 0≤j∧j≤1000000∧zh4 i then some (.int (i ^ j.toNat)) else none
 | _,_=>none
@[simp] noncomputable def zV3 (op:Bop) (x y:PV):Option PV:=match op with
 | .add=>xc4 x y
 | .sub=>bSub x y
 | .mul=>xb3 x y
 | .fdiv=>yS7 x y
 | .mod=>bMod x y
 | .pow=>bPow x y
noncomputable def zz6 (b:List Nat):List Nat→Bool
 | []=>b.isEmpty
 | x::r=>b.isPrefixOf (x::r) || zz6 b r
noncomputable def findIn (b:List Nat):List Nat→Nat→Option Nat
 | [],k=>if b.isEmpty then some k else none
 | x::r,k=>if b.isPrefixOf (x::r) then some k else findIn b r (k+1)
noncomputable def xj2 (b a:List Nat):Int:=match findIn b a 0 with
 | some k=>(k:Int)
 | none=>-1
noncomputable def strLt:List Nat→List Nat→Bool
 | _,[]=>false
 | [],_::_=>true
 | x::r,y::s=>if x<y then true else if y<x then false else strLt r s
noncomputable def zp8 (x:PV) (xs:List PV):Bool:=xs.any fun y=>pyEq y x
@[simp] noncomputable def isIn:PV→PV→Option Bool
 | .str a,.str b=>some (zz6 a b)
 | x,.tup xs=>if zi3 (dep x) (deps xs) then some (zp8 x xs) else none
 | x,.lst xs=>if zi3 (dep x) (deps xs) then some (zp8 x xs) else none
 | _,_=>none
@[simp] noncomputable def yq6 (p:Int→Int→Bool):PV→PV→Option PV
 | .int i,.int j=>some (.bl (p i j))
 | _,_=>none
@[simp] noncomputable def zS5 (neg:Bool):PV→PV→Option PV
 | .non,.non=>some (.bl (!neg))
 | _,.non=>some (.bl neg)
 | .bl a,.bl b=>some (.bl ((a==b) != neg))
 | _,.bl _=>some (.bl neg)
 | _,_=>none
@[simp] noncomputable def zt6 (op:Cop) (x y:PV):Option PV:=match op with
 | .eq=>if zi3 (dep x) (dep y) then some (.bl (pyEq x y)) else none
 | .ne=>if zi3 (dep x) (dep y) then some (.bl (!pyEq x y)) else none
 | .lt=>yq6 (fun i j=>decide (i<j)) x y
 | .le=>yq6 (fun i j=>decide (i≤j)) x y
 | .gt=>yq6 (fun i j=>decide (j<i)) x y
 | .ge=>yq6 (fun i j=>decide (j≤i)) x y
 | .isIn=>(isIn x y).map .bl
 | .notIn=>(isIn x y).map fun b=>.bl (!b)
 | .isNone=>zS5 false x y
 | .notNone=>zS5 true x y
noncomputable def zk5 (n:Nat) (i:Int):Option Nat:=if 0≤i then (if i<n then some i.toNat else none) else if -(n:Int)≤i then some (i+n).toNat else none
@[simp] noncomputable def yq5:PV→PV→Option PV
 | .tup xs,.int i=>(zk5 xs.length i).bind fun j=>xs[j]?
 | .lst xs,.int i=>(zk5 xs.length i).bind fun j=>xs[j]?
 | .str cs,.int i=>(zk5 cs.length i).bind fun j=>(cs[j]?).map fun c=>.str [c]
 | _,_=>none
noncomputable def sIx (n d:Nat):Option Int→Nat
 | none=>d
 | some i=>if 0≤i then min i.toNat n else (n+i).toNat
noncomputable def cut {α:Type} (xs:List α) (lo hi:Option Int):List α:=(xs.drop (sIx xs.length 0 lo)).take (sIx xs.length xs.length hi - sIx xs.length 0 lo)
@[simp] noncomputable def sliceOp:PV→Option Int→Option Int→Option PV
 | .tup xs,lo,hi=>some (.tup (cut xs lo hi))
 | .lst xs,lo,hi=>some (.lst (cut xs lo hi))
 | .str cs,lo,hi=>some (.str (cut cs lo hi))
 | _,_,_=>none
noncomputable def yb9 (k:PV):List (PV×PV)→Option PV
 | []=>none
 | (k',v)::r=>if k'=k then some v else yb9 k r
noncomputable def zL1 (k v:PV) (kvs:List (PV×PV)):List (PV×PV):=if (kvs.any fun p=>decide (p.1=k))=true then kvs.map (fun p=>if p.1=k then (p.1,v) else p) else kvs++[(k,v)]
@[simp] noncomputable def yL0:Ty→PV→Bool
 | .int,.int _=>true
 | .int,.bl _=>true
 | .str,.str _=>true
 | .bool,.bl _=>true
 | .list,.lst _=>true
 | .tuple,.tup _=>true
 | _,_=>false
noncomputable def zm1:List PV→Option Bool
 | []=>some true
 | .bl b::r=>(zm1 r).map (b && ·)
 | _=>none
noncomputable def zA4:List PV→Option (List Int)
 | []=>some []
 | .int i::r=>(zA4 r).map (i :: ·)
 | _=>none
noncomputable def minL:Int→List Int→Int
 | m,[]=>m
 | m,x::r=>minL (if x<m then x else m) r
noncomputable def yu6:Int→List Int→Int
 | m,[]=>m
 | m,x::r=>yu6 (if m<x then x else m) r
noncomputable def okO (o:Option PV) (st:za6):Res Val:=match o with | some v=>.ok (.p v) st | none=>.stuck
@[simp] theorem xa4 (v:PV) (st:za6):okO (some v) st=.ok (.p v) st:=rfl
@[simp] theorem xb1 (st:za6):okO none st=.stuck:=rfl
noncomputable def yx0:List Nat:=[84,114,117,101]
noncomputable def zZ4:List Nat:=[70,97,108,115,101]
noncomputable def okC (c:Nat):Bool:=decide (32≤c∧c≤126∧c≠39∧c≠92)
noncomputable def zP4 (i:Int):List Nat:=(toString i).toList.map Char.toNat
noncomputable def zt0:List (List Nat)→List Nat
 | []=>[]
 | [x]=>x
 | x::r=>x++[44,32]++zt0 r
noncomputable def zR1 (ts:List (List Nat)):List Nat:=[40]++zt0 ts++(if ts.length=1 then [44,41] else [41])
noncomputable def zP7 (ts:List (List Nat)):List Nat:=[91]++zt0 ts++[93]
mutual
/-- a value written -/
noncomputable def shownP:PV→Option (List Nat)
 | .non=>some [78,111,110,101]
 | .bl true=>some yx0
 | .bl false=>some zZ4
 | .int i=>if i.natAbs.log2<1920 then some (zP4 i) else none
 | .str cs=>if cs.all okC then some ([39]++cs++[39]) else none
 | .tup xs=>match shownPs xs with
  | some ts=>some (zR1 ts)
  | none=>none
 | .lst xs=>match shownPs xs with
  | some ts=>some (zP7 ts)
  | none=>none
noncomputable def shownPs:List PV→Option (List (List Nat))
 | []=>some []
 | x::r=>match shownP x with
  | some t=>match shownPs r with
   | some ts=>some (t::ts)
   | none=>none
  | none=>none
end
noncomputable def zw4 (x:PV):Option (List Nat):=match shownP x with
 | some t=>if dep x≤100∧t.length≤SZ then some t else none
 | none=>none
@[simp] noncomputable def zz8:PV→Option (List Nat)
 | .bl true=>some yx0
 | .bl false=>some zZ4
 | x=>zw4 x
@[simp] noncomputable def zc3:PV→Option (List PV)
 | .tup xs=>some xs
 | .lst xs=>some xs
 | .str cs=>some (cs.map fun c=>.str [c])
 | _=>none
@[simp] noncomputable def xj9:PV→Option PV
 | .tup xs=>some (.int xs.length)
 | .lst xs=>some (.int xs.length)
 | .str cs=>some (.int cs.length)
 | _=>none
@[simp] noncomputable def zV6 (f:List PV→Option PV):PV→Option PV
 | .lst xs=>f xs
 | _=>none
@[simp] noncomputable def f1 (f:PV→Option PV):List PV→Option PV
 | [x]=>f x
 | _=>none
@[simp] noncomputable def f2 (f:PV→PV→Option PV):List PV→Option PV
 | [x,y]=>f x y
 | _=>none
@[simp] noncomputable def fI2 (f:Int→Int→Int):PV→PV→Option PV
 | .int i,.int j=>some (.int (f i j))
 | _,_=>none
@[simp] noncomputable def xe9:PV→Option PV
 | .int i=>some (.int i)
 | .bl b=>some (.int (if b then 1 else 0))
 | _=>none
@[simp] noncomputable def yy6:PV→Option PV
 | .tup xs=>some (.tup xs)
 | .lst xs=>some (.tup xs)
 | _=>none
@[simp] noncomputable def yL8:PV→Option PV
 | .tup xs=>some (.lst xs)
 | .lst xs=>some (.lst xs)
 | _=>none
noncomputable def xf1 (i:Int):List Int→List Int
 | []=>[i]
 | x::r=>if i<x then i::x::r else if x<i then x::xf1 i r else x::r
noncomputable def xd1 (i:List Nat):List (List Nat)→List (List Nat)
 | []=>[i]
 | x::r=>if strLt i x then i::x::r else if strLt x i then x::xd1 i r else x::r
noncomputable def zp4:List PV→Option (List (List Nat))
 | []=>some []
 | .str c::r=>(zp4 r).map (c :: ·)
 | _=>none
noncomputable def ys7 (xs:List PV):Option PV:=match zA4 xs with
 | some l=>if l.length<4000∧(l.foldl (fun d i=>xf1 i d) []).length<64 then some (.lst ((l.foldl (fun d i=>xf1 i d) []).map .int)) else none
 | none=>match zp4 xs with
  | some l=>if l.length<4000∧(l.foldl (fun d i=>xd1 i d) []).length<64 then some (.lst ((l.foldl (fun d i=>xd1 i d) []).map .str)) else none
  | none=>none
noncomputable def zT8 (i:List Nat):List (List Nat)→List (List Nat)
 | []=>[i]
 | x::r=>if strLt i x then i::x::r else x::zT8 i r
@[simp] noncomputable def zw0:PV→Option (List PV)
 | .tup xs=>some xs
 | .lst xs=>some xs
 | _=>none
noncomputable def yb1 (i:List (List Nat)):List (List (List Nat))→List (List (List Nat))
 | []=>[i]
 | x::r=>if i<x then i::x::r else x::yb1 i r
noncomputable def rowsOf:List PV→Option (List (List (List Nat)))
 | []=>some []
 | .tup xs::r=>match zp4 xs with
  | some (y::ys)=>(rowsOf r).map ((y::ys) :: ·)
  | _=>none
 | _=>none
noncomputable def zh1 (r:List (List Nat)):PV:=.tup (r.map .str)
noncomputable def zy7 (x:PV):Option PV:=match zw0 x with
 | some xs=>match zp4 xs with
  | some l=>if l.length<64 then some (.lst ((l.foldl (fun d i=>zT8 i d) []).map .str)) else none
  | none=>match rowsOf xs with
   | some l=>if l.length<128 then some (.lst ((l.foldl (fun d i=>yb1 i d) []).map zh1)) else none
   | none=>none
 | none=>none
noncomputable def fMin (xs:List PV):Option PV:=match zA4 xs with
 | some (i::r)=>some (.int (minL i r))
 | _=>none
noncomputable def yR1 (xs:List PV):Option PV:=match zA4 xs with
 | some (i::r)=>some (.int (yu6 i r))
 | _=>none
@[simp] noncomputable def bfOp (f:Bf) (xs:List PV):Option PV:=match f with
 | .len=>f1 xj9 xs
 | .isinst t=>f1 (fun v=>some (.bl (yL0 t v))) xs
 | .all=>f1 (zV6 fun l=>(zm1 l).map .bl) xs
 | .min1=>f1 (zV6 fMin) xs
 | .max1=>f1 (zV6 yR1) xs
 | .min2=>f2 (fI2 fun i j=>if j<i then j else i) xs
 | .max2=>f2 (fI2 fun i j=>if i<j then j else i) xs
 | .sum=>f1 (zV6 fun l=>(zA4 l).map fun l=>.int l.sum) xs
 | .toInt=>f1 xe9 xs
 | .repr=>f1 (fun v=>(zz8 v).map .str) xs
 | .tuple=>f1 yy6 xs
 | .list=>f1 yL8 xs
 | .sortSet=>f1 (zV6 ys7) xs
 | .sorted=>f1 zy7 xs
 | _=>none
noncomputable def upC (c:Nat):Nat:=if 97≤c∧c≤122 then c - 32 else c
noncomputable def yY3 (sep:List Nat):List (List Nat)→List Nat
 | []=>[]
 | [x]=>x
 | x::r=>x++sep++yY3 sep r
@[simp] noncomputable def yT7:PV→List PV→Option PV
 | .str a,[.str b]=>some (.int (xj2 b a))
 | _,_=>none
@[simp] noncomputable def yi6:PV→List PV→Option PV
 | .str a,[]=>if a.all (· < 128) then some (.str (a.map upC)) else none
 | _,_=>none
@[simp] noncomputable def xk9:PV→List PV→Option PV
 | .str sep,[.lst xs]=>match zp4 xs with
  | some l=>if (l.map List.length).sum+l.length * sep.length≤SZ then some (.str (yY3 sep l)) else none
  | none=>none
 | _,_=>none
noncomputable def ym4 (x:PV):List PV→Option Nat
 | []=>none
 | y::r=>if pyEq y x then some 0 else (ym4 x r).map (· + 1)
noncomputable def yy1 (x:PV) (xs:List PV):Option PV:=if zi3 (dep x) (deps xs) then (ym4 x xs).map fun k=>.int (k:Int) else none
@[simp] noncomputable def yZ4:PV→List PV→Option PV
 | .lst xs,[x]=>yy1 x xs
 | .tup xs,[x]=>yy1 x xs
 | _,_=>none
@[simp] noncomputable def yQ8:PV→List PV→Option PV
 | .lst xs,[x]=>if zi3 (dep x) (deps xs) then some (.int ((xs.filter fun y=>pyEq y x).length:Nat)) else none
 | .tup xs,[x]=>if zi3 (dep x) (deps xs) then some (.int ((xs.filter fun y=>pyEq y x).length:Nat)) else none
 | _,_=>none
@[simp] noncomputable def mtOp (m:Mt) (o:PV) (xs:List PV):Option PV:=match m with
 | .find=>yT7 o xs
 | .upper=>yi6 o xs
 | .join=>xk9 o xs
 | .index=>yZ4 o xs
 | .count=>yQ8 o xs
 | _=>none
@[simp] noncomputable def zo2:Tg→Val→za6→Env→Option Env
 | .name i,v,_,env=>some (env.set i (some v))
 | .tup is,v,st,env=>match view st v with
  | some (.tup xs)=>if is.length=xs.length then some ((is.zip xs).foldl (fun e p=>e.set p.1 (some (.p p.2))) env) else none
  | _=>none
noncomputable def zG9 (st:za6):Option (Nat×List PV)→Bool
 | none=>true
 | some (n,xs)=>decide (view st (.ref n)=some (.lst xs))
@[simp] theorem zj1 (st:za6):zG9 st none=true:=rfl
noncomputable def compLoop (fe:Env→za6→Res Val) (fc:Option (Env→za6→Res Val)) (tgt:Tg) (src:Option (Nat×List PV)):List PV→Env→za6→List PV→Res (List PV)
 | [],_,st,acc=>if zG9 st src then .ok acc st else .stuck
 | x::r,env,st,acc =>
  if zG9 st src then
   match zo2 tgt (.p x) st env with
   | none=>.stuck
   | some env'=>(match fc with | none=>Res.ok (Val.p (.bl true)) st | some f=>f env' st).bindB fun b st1 =>
     if b then (fe env' st1).bindP fun y st2=>compLoop fe fc tgt src r env' st2 (acc++[y])
     else compLoop fe fc tgt src r env' st1 acc
  else .stuck
noncomputable def zn3 (body:Env→za6→Res Flow) (tgt:Tg) (src:Option (Nat×List PV)):List PV→Env→za6→Res Flow
 | [],env,st=>if zG9 st src then .ok (.next env) st else .stuck
 | x::r,env,st =>
  if zG9 st src then
   match zo2 tgt (.p x) st env with
   | none=>.stuck
   | some env'=>(body env' st).bind fun f st1=>match f with
    | .next env2=>zn3 body tgt src r env2 st1
    | .ret v=>.ok (.ret v) st1
  else .stuck
noncomputable def zC5 (c:Env→za6→Res Val) (body:Env→za6→Res Flow):Nat→Env→za6→Res Flow
 | 0,_,_=>.stuck
 | k+1,env,st=>(c env st).bindB fun b st1=>if b then (body env st1).bind fun f st2=>match f with
   | .next env2=>zC5 c body k env2 st2
   | .ret v=>.ok (.ret v) st2
  else .ok (.next env) st1
noncomputable abbrev zb7:=Nat→List Val→za6→Res Val
@[simp] noncomputable def mk (mt:Bool) (xs:List PV) (st:za6):Res Val:=if mt then .ok (.ref st.length) (st++[.lst xs]) else .ok (.p (.lst xs)) st
@[simp] noncomputable def yy2 (ks:List PV) (n:Nat) (xs:List PV) (st:za6):Res Val:=match zb6 st n with
 | some (.dct [])=>.ok (.ref n) (st.set n (.dct ((ks.zip xs).foldl (fun d p=>zL1 p.1 p.2 d) [])))
 | _=>.stuck
@[simp] noncomputable def zw9 (caps:List Nat) (n:Nat) (env:Env):Env:=caps.map (fun i=>(env[i]?).join)++List.replicate n none
@[simp] noncomputable def yC3:Val→List PV→Option (Nat×List PV)
 | .ref n,xs=>some (n,xs)
 | .p _,_=>none
noncomputable def yl5:List (List PV)→List PV
 | [a,b]=>(a.zip b).map fun p=>.tup [p.1,p.2]
 | [a,b,c]=>(a.zip (b.zip c)).map fun p=>.tup [p.1,p.2.1,p.2.2]
 | _=>[]
noncomputable def ys2 (xs:List PV):List PV:=xs.zipIdx.map fun p=>.tup [.int p.2,p.1]
noncomputable def zM5 (st:za6) (n:Nat):Option (List PV):=match zb6 st n with
 | some (.lst l)=>some l
 | _=>none
noncomputable def dctAt (st:za6) (n:Nat):Option (List (PV×PV)):=match zb6 st n with
 | some (.dct l)=>some l
 | _=>none
@[simp] noncomputable def zp7 (o:Val) (st:za6) (f:List PV→Option (PV×List PV)):Res Val:=match o with
 | .p _=>.stuck
 | .ref n=>match zM5 st n with
  | some l=>match f l with
   | some (x,l')=>.ok (.p x) (st.set n (.lst l'))
   | none=>.stuck
  | none=>.stuck
noncomputable def zt9 (xs:List PV) (l:List PV):Option (PV×List PV):=match xs with
 | [x]=>if l.length<SZ then some (.non,l++[x]) else none
 | _=>none
noncomputable def zJ5 (xs:List PV) (l:List PV):Option (PV×List PV):=match xs with
 | [.lst ys]=>if l.length+ys.length≤SZ then some (.non,l++ys) else none
 | [.tup ys]=>if l.length+ys.length≤SZ then some (.non,l++ys) else none
 | _=>none
noncomputable def zB7 (xs:List PV) (l:List PV):Option (PV×List PV):=match xs with
 | []=>some (.non,l.reverse)
 | _=>none
noncomputable def yT9 (xs:List PV) (_:List PV):Option (PV×List PV):=match xs with
 | []=>some (.non,[])
 | _=>none
noncomputable def zJ9 (xs:List PV) (l:List PV):Option (PV×List PV):=match xs with
 | [.int i,x]=>if 0≤i∧i≤(l.length:Int)∧l.length<SZ then some (.non,l.take i.toNat++x::l.drop i.toNat) else none
 | _=>none
noncomputable def gPop (xs:List PV) (l:List PV):Option (PV×List PV):=match xs with
 | []=>match l.getLast? with
  | some x=>some (x,l.dropLast)
  | none=>none
 | _=>none
@[simp] noncomputable def zx2 (m:Mt) (o:Val) (xs:List PV) (st:za6):Res Val:=match m with
 | .append=>zp7 o st (zt9 xs)
 | .extend=>zp7 o st (zJ5 xs)
 | .reverse=>zp7 o st (zB7 xs)
 | .pop=>zp7 o st (gPop xs)
 | .clear=>zp7 o st (yT9 xs)
 | .insert=>zp7 o st (zJ9 xs)
 | m=>match view st o with
  | some v=>okO (mtOp m v xs) st
  | none=>.stuck
@[simp] noncomputable def ixVal (o:Val) (i:PV) (st:za6):Res Val :=
 match o with
 | .p v=>okO (yq5 v i) st
 | .ref n=>match zb6 st n with
  | some (.lst xs)=>okO (yq5 (.lst xs) i) st
  | some (.dct kvs)=>okO (yb9 i kvs) st
  | _=>.stuck
@[simp] noncomputable def zH0:PV→Bool
 | .int _=>true
 | .str _=>true
 | _=>false
@[simp] noncomputable def xb5 (xs:List PV) (i v:PV):Option (List PV):=match i with
 | .int k=>(zk5 xs.length k).map fun j=>xs.set j v
 | _=>none
@[simp] noncomputable def zW1 (o:Val) (i v:PV) (st:za6):Res Unit :=
 match o with
 | .p _=>.stuck
 | .ref n=>match zb6 st n with
  | some (.lst xs)=>match xb5 xs i v with
   | some ys=>.ok () (st.set n (.lst ys))
   | none=>.stuck
  | some (.dct kvs)=>if kvs.length<1000000∧zH0 i=true then .ok () (st.set n (.dct (zL1 i v kvs))) else .stuck
  | _=>.stuck
@[simp] noncomputable def yg6 (v:Val) (st:za6):Res Val :=
 match v with
 | .p x=>.ok (.p x) st
 | .ref n=>match zb6 st n with
  | some (.lst xs)=>.ok (.p (.lst xs)) (st.set n .dead)
  | _=>.stuck
@[simp] noncomputable def mkDZ (x y:PV) (st:za6):Res Val:=match zw0 x with
 | some ks=>match zw0 y with
  | some vs=>if ks.all zH0=true∧ks.length≤1000 then .ok (.ref st.length) (st++[.dct ((ks.zip vs).foldl (fun d p=>zL1 p.1 p.2 d) [])]) else .stuck
  | none=>.stuck
 | none=>.stuck
@[simp] noncomputable def yO7 (v:Val) (st:za6):Res Unit:=match v with
 | .ref n=>match zb6 st n with
  | some (.dct _)=>.ok () st
  | _=>.stuck
 | .p _=>.stuck
@[simp] noncomputable def yO0 (o:Val) (k x:PV) (st:za6):Res Val:=match o with
 | .ref n=>match zb6 st n with
  | some (.dct kvs)=>if zH0 k=true then .ok (.p ((yb9 k kvs).getD x)) st else .stuck
  | _=>.stuck
 | .p _=>.stuck
@[simp] noncomputable def yJ1 (x:PV) (st:za6):Res Val:=match x with
 | .lst xs=>.ok (.ref st.length) (st++[.lst xs])
 | _=>.stuck
@[simp] noncomputable def yY8:PV→Option PV
 | .tup xs=>some (.tup xs.reverse)
 | _=>none
noncomputable def op1 (f:PV→Option PV) (v:Val) (st:za6):Res Val:=match view st v with
 | some x=>okO (f x) st
 | none=>.stuck
@[simp] theorem op1_p {f x st}:op1 f (.p x) st=okO (f x) st:=rfl
noncomputable def op2 (f:PV→PV→Option PV) (v w:Val) (st:za6):Res Val:=match view st v with
 | some x=>match view st w with
  | some y=>okO (f x y) st
  | none=>.stuck
 | none=>.stuck
@[simp] theorem op2_p {f x y st}:op2 f (.p x) (.p y) st=okO (f x y) st:=rfl
noncomputable def zj4 (st:za6):List Val→Option (List PV)
 | []=>some []
 | v::r=>match view st v with
  | some x=>match zj4 st r with
   | some xs=>some (x::xs)
   | none=>none
  | none=>none
@[simp] theorem yR0 {st}:zj4 st []=some []:=rfl
@[simp] theorem xg8 {st x}:zj4 st [.p x]=some [x]:=rfl
@[simp] theorem xg4 {st x y}:zj4 st [.p x,.p y]=some [x,y]:=rfl
noncomputable def opN (f:List PV→Option PV) (vs:List Val) (st:za6):Res Val:=match zj4 st vs with
 | some xs=>okO (f xs) st
 | none=>.stuck
@[simp] theorem opN_1 {f x st}:opN f [.p x] st=okO (f [x]) st:=rfl
@[simp] theorem opN_2 {f x y st}:opN f [.p x,.p y] st=okO (f [x,y]) st:=rfl
@[simp] noncomputable def yS5 (op:Bop) (x y:PV) (st:za6):Res Val:=match x,y with
 | .int i,.int j=>okO (zV3 op (.int i) (.int j)) st
 | _,_=>.stuck
@[simp] noncomputable def seen (v:Val) (st:za6):Res Unit:=match view st v with
 | some _=>.ok () st
 | none=>.stuck
theorem zv6 {v:Val} {st st':za6} {u:Unit} (h:seen v st=.ok u st'):(∃ x,view st v=some x)∧st'=st:=by
 unfold seen at h
 cases e:view st v with
 | none=>rw [e] at h;cases h
 | some x=>rw [e] at h;cases h;exact ⟨⟨x,rfl⟩,rfl⟩
noncomputable def yb2:List Val→Option (List PV)
 | []=>some []
 | .p x::r=>match yb2 r with
  | some xs=>some (x::xs)
  | none=>none
 | .ref _::_=>none
noncomputable def keeps:Mt→Bool
 | .append=>true
 | .insert=>true
 | _=>false
noncomputable def zk3 (m:Mt) (o:Val) (vs:List Val) (st:za6):Res Val:=match (if keeps m then yb2 vs else zj4 st vs) with
 | some xs=>zx2 m o xs st
 | none=>.stuck
@[simp] theorem yE8 {m o st}:zk3 m o [] st=zx2 m o [] st:=by unfold zk3;cases m <;> rfl
@[simp] theorem xk1 {m o x st}:zk3 m o [.p x] st=zx2 m o [x] st:=by unfold zk3;cases m <;> rfl
@[simp] theorem xi9 {m o x y st}:zk3 m o [.p x,.p y] st=zx2 m o [x,y] st:=by unfold zk3;cases m <;> rfl
@[simp] noncomputable def zH3 (env:Env) (i:Nat) (st:za6):Res Val:=match env[i]? with
 | some (some v)=>.ok v st
 | _=>.stuck
@[simp] noncomputable def yP4:PV→Option PV
 | .int i=>some (.int (-i))
 | _=>none
@[simp] noncomputable def walkOf (v:Val) (st:za6):Res (List PV×Option (Nat×List PV)):=match view st v with
 | some x=>match zc3 x with
  | some xs=>.ok (xs,yC3 v xs) st
  | none=>.stuck
 | none=>.stuck
@[simp] noncomputable def xj6 (x:PV) (st:za6):Res (List PV×Option (Nat×List PV)):=match x with
 | .int i=>if -1000000≤i∧i≤SZ then .ok ((List.range i.toNat).map (fun k:Nat=>PV.int (k:Int)),none) st else .stuck
 | _=>.stuck
@[simp] noncomputable def walkZ (xs:List PV) (st:za6):Res (List PV×Option (Nat×List PV)):=match xs.mapM zw0 with
 | some ls=>.ok (yl5 ls,none) st
 | none=>.stuck
@[simp] noncomputable def yy0 (v:Val) (y:PV) (st:za6):Res (List PV×Option (Nat×List PV)):=match view st v with
 | some x=>match zw0 x with
  | some xs=>match zw0 y with
   | some ys=>.ok (yl5 [xs,ys],yC3 v xs) st
   | none=>.stuck
  | none=>.stuck
 | none=>.stuck
@[simp] noncomputable def xd2 (x:PV) (st:za6):Res (List PV×Option (Nat×List PV)):=match zw0 x with
 | some xs=>.ok (ys2 xs,none) st
 | none=>.stuck
@[simp] noncomputable def xl2 (x:PV) (st:za6):Res (Option Int):=match x with
 | .int i=>.ok (some i) st
 | _=>.stuck
mutual
noncomputable def evalE (C:zb7):E→Env→za6→Res Val
 | .var i,env,st=>zH3 env i st
 | .const v,_,st=>.ok (.p v) st
 | .bin op a b,env,st=>(evalE C a env st).bind fun x st=>(evalE C b env st).bind fun y st=>op2 (zV3 op) x y st
 | .neg a,env,st=>(evalE C a env st).bindV fun x st=>okO (yP4 x) st
 | .not a,env,st=>(evalE C a env st).bindB fun b st=>.ok (.p (.bl (!b))) st
 | .cmp op a b,env,st=>(evalE C a env st).bind fun x st=>(evalE C b env st).bind fun y st=>op2 (zt6 op) x y st
 | .chain op op' a b c,env,st=>(evalE C a env st).bind fun x st=>(evalE C b env st).bind fun y st=>(op2 (zt6 op) x y st).bindB fun k st =>
   if k then (evalE C c env st).bind fun z st=>op2 (zt6 op') y z st else .ok (.p (.bl false)) st
 | .and a b,env,st=>(evalE C a env st).bindB fun k st=>if k then evalE C b env st else .ok (.p (.bl false)) st
 | .or a b,env,st=>(evalE C a env st).bindB fun k st=>if k then .ok (.p (.bl true)) st else evalE C b env st
 | .ite c a b,env,st=>(evalE C c env st).bindB fun k st=>if k then evalE C a env st else evalE C b env st
 | .tup es,env,st=>(evalPs C es env st).bind fun xs st=>.ok (.p (.tup xs)) st
 | .list mt es,env,st=>(evalPs C es env st).bind fun xs st=>mk mt xs st
 | .dict ks es,env,st=>(evalPs C es env (st++[.dct []])).bind (yy2 ks st.length)
 | .ix a b,env,st=>(evalE C a env st).bind fun o st=>(evalE C b env st).bindV fun i st=>ixVal o i st
 | .slice a lo hi,env,st=>(evalE C a env st).bind fun x st=>(evalO C lo env st).bind fun l st=>(evalO C hi env st).bind fun h st=>op1 (fun x=>sliceOp x l h) x st
 | .call f es,env,st=>(evalEs C es env st).bind fun vs st=>C f vs st
 | .blt f es,env,st=>(evalEs C es env st).bind fun vs st=>opN (bfOp f) vs st
 | .meth m o es,env,st=>(evalE C o env st).bind fun v st=>(seen v st).bind fun _ st=>(evalEs C es env st).bind fun vs st=>zk3 m v vs st
 | .comp mt elt tgt it cond caps n,env,st=>(evalIt C it env st).bind fun p st =>
   (compLoop (evalE C elt) (match cond with | none=>none | some c=>some (evalE C c)) tgt p.2 p.1 (zw9 caps n env) st []).bind fun xs st=>mk mt xs st
 | .freeze e,env,st=>(evalE C e env st).bind yg6
 | .thaw e,env,st=>(evalE C e env st).bindP yJ1
 | .rev e,env,st=>(evalE C e env st).bind fun x st=>op1 yY8 x st
 | .dictZ a b,env,st=>(evalE C a env st).bindP fun x st=>(evalE C b env st).bindP fun y st=>mkDZ x y st
 | .dget o k d,env,st=>(evalE C o env st).bind fun ov st=>(yO7 ov st).bind fun _ st=>(evalE C k env st).bindP fun kx st=>(evalE C d env st).bindP fun x st=>yO0 ov kx x st
/-- pure values,left to right -/
noncomputable def evalPs (C:zb7):List E→Env→za6→Res (List PV)
 | [],_,st=>.ok [] st
 | e::r,env,st=>(evalE C e env st).bindP fun x st=>(evalPs C r env st).bind fun xs st=>.ok (x::xs) st
/-- values as they are -/
noncomputable def evalEs (C:zb7):List E→Env→za6→Res (List Val)
 | [],_,st=>.ok [] st
 | e::r,env,st=>(evalE C e env st).bind fun x st=>(evalEs C r env st).bind fun xs st=>.ok (x::xs) st
noncomputable def evalO (C:zb7):Option E→Env→za6→Res (Option Int)
 | none,_,st=>.ok none st
 | some e,env,st=>(evalE C e env st).bindV xl2
/-- what is walked,and the list that must stay as it is -/
noncomputable def evalIt (C:zb7):It→Env→za6→Res (List PV×Option (Nat×List PV))
 | .of e,env,st=>(evalE C e env st).bind walkOf
 | .range e,env,st=>(evalE C e env st).bindV xj6
 | .zip es,env,st=>(evalPs C es env st).bind walkZ
 | .zipR a b,env,st=>(evalE C a env st).bind fun v st=>(evalE C b env st).bindP fun y st=>yy0 v y st
 | .enum e,env,st=>(evalE C e env st).bindP xd2
end
@[simp] noncomputable def okN (o:Option Env) (st:za6):Res Flow:=match o with
 | some env=>.ok (.next env) st
 | none=>.stuck
mutual
noncomputable def execS (C:zb7) (W:Nat):S→Env→za6→Res Flow
 | .expr e,env,st=>(evalE C e env st).bind fun _ st=>.ok (.next env) st
 | .ret e,env,st=>(evalE C e env st).bind fun v st=>.ok (.ret v) st
 | .set i e,env,st=>(evalE C e env st).bind fun v st=>.ok (.next (env.set i (some v))) st
 | .setT is e,env,st=>(evalE C e env st).bind fun v st=>okN (zo2 (.tup is) v st env) st
 | .setIx o i v,env,st=>(evalE C v env st).bindP fun x st=>(evalE C o env st).bind fun ov st=>(evalE C i env st).bindV fun iv st=>(zW1 ov iv x st).bind fun _ st=>.ok (.next env) st
 | .aug i op e,env,st=>(zH3 env i st).bindP fun x st=>(evalE C e env st).bindV fun y st=>(okO (zV3 op x y) st).bind fun v st=>.ok (.next (env.set i (some v))) st
 | .augI i op e,env,st=>(zH3 env i st).bindP fun x st=>(evalE C e env st).bindV fun y st=>(yS5 op x y st).bind fun v st=>.ok (.next (env.set i (some v))) st
 | .ite c a b,env,st=>(evalE C c env st).bindB fun k st=>if k then execSs C W a env st else execSs C W b env st
 | .for tgt it body,env,st=>(evalIt C it env st).bind fun p st=>zn3 (execSs C W body) tgt p.2 p.1 env st
 | .while c body,env,st=>zC5 (evalE C c) (execSs C W body) W env st
 | .pass,env,st=>.ok (.next env) st
noncomputable def execSs (C:zb7) (W:Nat):List S→Env→za6→Res Flow
 | [],env,st=>.ok (.next env) st
 | s::r,env,st=>(execS C W s env st).bind fun f st=>match f with
  | .next env'=>execSs C W r env' st
  | .ret v=>.ok (.ret v) st
end
structure FD where
 params:Nat
 slots:Nat
 body:List S
noncomputable def yB4 (k:Nat) (v:Val) (st:za6):za6:=match v with
 | .p _=>st.take k
 | .ref n=>if n<k then st.take k else st
noncomputable def zi1 (P:List FD) (W:Nat):Nat→zb7
 | 0=>fun _ _ _=>.stuck
 | d+1=>fun f vs st=>match P[f]? with
  | none=>.stuck
  | some fd=>if vs.length=fd.params then
    (execSs (zi1 P W d) W fd.body (vs.map some++List.replicate (fd.slots - fd.params) none) st).bind fun fl st'=>match fl with
     | .ret v=>.ok v (yB4 st.length v st')
     | .next _=>.ok (.p .non) (st'.take st.length)
   else .stuck
noncomputable def zr2 (C:zb7) (elt:E) (cond:Option E) (tgt:Tg) (src:Option (Nat×List PV)) (xs:List PV) (env:Env) (st:za6) (acc:List PV):Res (List PV) :=
 compLoop (evalE C elt) (match cond with | none=>none | some c=>some (evalE C c)) tgt src xs env st acc
noncomputable def yC8 (C:zb7) (W:Nat) (body:List S) (tgt:Tg) (src:Option (Nat×List PV)) (xs:List PV) (env:Env) (st:za6):Res Flow:=zn3 (execSs C W body) tgt src xs env st
noncomputable def yN0 (C:zb7) (W:Nat) (c:E) (body:List S) (k:Nat) (env:Env) (st:za6):Res Flow:=zC5 (evalE C c) (execSs C W body) k env st
section
variable {C:zb7} {W:Nat} {env:Env} {st:za6}
@[simp] theorem yY2 {i}:evalE C (.var i) env st=zH3 env i st:=rfl
@[simp] theorem yw2 {v}:evalE C (.const v) env st=.ok (.p v) st:=rfl
@[simp] theorem zb1 {op a b}:evalE C (.bin op a b) env st=(evalE C a env st).bind fun x st=>(evalE C b env st).bind fun y st=>op2 (zV3 op) x y st:=rfl
@[simp] theorem yZ7 {a}:evalE C (.neg a) env st=(evalE C a env st).bindV fun x st=>okO (yP4 x) st:=rfl
@[simp] theorem yR4 {a}:evalE C (.not a) env st=(evalE C a env st).bindB fun b st=>.ok (.p (.bl (!b))) st:=rfl
@[simp] theorem zd4 {op a b}:evalE C (.cmp op a b) env st=(evalE C a env st).bind fun x st=>(evalE C b env st).bind fun y st=>op2 (zt6 op) x y st:=rfl
@[simp] theorem xa2 {op op' a b c}:evalE C (.chain op op' a b c) env st=(evalE C a env st).bind fun x st=>(evalE C b env st).bind fun y st=>(op2 (zt6 op) x y st).bindB fun k st =>
      if k then (evalE C c env st).bind fun z st=>op2 (zt6 op') y z st else .ok (.p (.bl false)) st:=rfl
@[simp] theorem yA4 {a b}:evalE C (.and a b) env st=(evalE C a env st).bindB fun k st=>if k then evalE C b env st else .ok (.p (.bl false)) st:=rfl
@[simp] theorem yQ6 {a b}:evalE C (.or a b) env st=(evalE C a env st).bindB fun k st=>if k then .ok (.p (.bl true)) st else evalE C b env st:=rfl
@[simp] theorem yZ6 {c a b}:evalE C (.ite c a b) env st=(evalE C c env st).bindB fun k st=>if k then evalE C a env st else evalE C b env st:=rfl
@[simp] theorem yU8 {es}:evalE C (.tup es) env st=(evalPs C es env st).bind fun xs st=>.ok (.p (.tup xs)) st:=rfl
@[simp] theorem yk3 {mt es}:evalE C (.list mt es) env st=(evalPs C es env st).bind fun xs st=>mk mt xs st:=rfl
@[simp] theorem yE0 {ks es}:evalE C (.dict ks es) env st=(evalPs C es env (st++[.dct []])).bind (yy2 ks st.length):=rfl
@[simp] theorem xe1 {a b}:evalE C (.ix a b) env st=(evalE C a env st).bind fun o st=>(evalE C b env st).bindV fun i st=>ixVal o i st:=rfl
@[simp] theorem yx4 {a lo hi}:evalE C (.slice a lo hi) env st=(evalE C a env st).bind fun x st=>(evalO C lo env st).bind fun l st=>(evalO C hi env st).bind fun h st=>op1 (fun x=>sliceOp x l h) x st:=rfl
@[simp] theorem yE3 {f es}:evalE C (.call f es) env st=(evalEs C es env st).bind fun vs st=>C f vs st:=rfl
@[simp] theorem zc6 {f es}:evalE C (.blt f es) env st=(evalEs C es env st).bind fun vs st=>opN (bfOp f) vs st:=rfl
@[simp] theorem zG3 {m o es}:evalE C (.meth m o es) env st=(evalE C o env st).bind fun v st=>(seen v st).bind fun _ st=>(evalEs C es env st).bind fun vs st=>zk3 m v vs st:=rfl
@[simp] theorem yl2 {mt elt tgt it cond caps n}:evalE C (.comp mt elt tgt it cond caps n) env st=(evalIt C it env st).bind fun p st=>(zr2 C elt cond tgt p.2 p.1 (zw9 caps n env) st []).bind fun xs st=>mk mt xs st:=by cases cond <;> (rw [evalE];rfl)
@[simp] theorem yM4 {e}:evalE C (.freeze e) env st=(evalE C e env st).bind yg6:=rfl
@[simp] theorem yn9 {e}:evalE C (.thaw e) env st=(evalE C e env st).bindP yJ1:=rfl
@[simp] theorem yX3 {e}:evalE C (.rev e) env st=(evalE C e env st).bind fun x st=>op1 yY8 x st:=rfl
@[simp] theorem xc2 {a b}:evalE C (.dictZ a b) env st=(evalE C a env st).bindP fun x st=>(evalE C b env st).bindP fun y st=>mkDZ x y st:=rfl
@[simp] theorem xi0 {o k d}:evalE C (.dget o k d) env st=(evalE C o env st).bind fun ov st=>(yO7 ov st).bind fun _ st=>(evalE C k env st).bindP fun kx st=>(evalE C d env st).bindP fun x st=>yO0 ov kx x st:=rfl
@[simp] theorem zM0:evalPs C [] env st=.ok [] st:=rfl
@[simp] theorem zE2 {e r}:evalPs C (e::r) env st=(evalE C e env st).bindP fun x st=>(evalPs C r env st).bind fun xs st=>.ok (x::xs) st:=rfl
@[simp] theorem zs5:evalEs C [] env st=.ok [] st:=rfl
@[simp] theorem zp9 {e r}:evalEs C (e::r) env st=(evalE C e env st).bind fun x st=>(evalEs C r env st).bind fun xs st=>.ok (x::xs) st:=rfl
@[simp] theorem yu8:evalO C none env st=.ok none st:=rfl
@[simp] theorem ys0 {e}:evalO C (some e) env st=(evalE C e env st).bindV xl2:=rfl
@[simp] theorem zS8 {e}:evalIt C (.of e) env st=(evalE C e env st).bind walkOf:=rfl
@[simp] theorem yb7 {e}:evalIt C (.range e) env st=(evalE C e env st).bindV xj6:=rfl
@[simp] theorem xa9 {es}:evalIt C (.zip es) env st=(evalPs C es env st).bind walkZ:=rfl
@[simp] theorem yR9 {a b}:evalIt C (.zipR a b) env st=(evalE C a env st).bind fun v st=>(evalE C b env st).bindP fun y st=>yy0 v y st:=rfl
@[simp] theorem yQ3 {e}:evalIt C (.enum e) env st=(evalE C e env st).bindP xd2:=rfl
@[simp] theorem yI4 {e}:execS C W (.expr e) env st=(evalE C e env st).bind fun _ st=>.ok (.next env) st:=rfl
@[simp] theorem yM3 {e}:execS C W (.ret e) env st=(evalE C e env st).bind fun v st=>.ok (.ret v) st:=rfl
@[simp] theorem yl7 {i e}:execS C W (.set i e) env st=(evalE C e env st).bind fun v st=>.ok (.next (env.set i (some v))) st:=rfl
@[simp] theorem xf6 {is e}:execS C W (.setT is e) env st=(evalE C e env st).bind fun v st=>okN (zo2 (.tup is) v st env) st:=rfl
@[simp] theorem ys3 {o i v}:execS C W (.setIx o i v) env st=(evalE C v env st).bindP fun x st=>(evalE C o env st).bind fun ov st=>(evalE C i env st).bindV fun iv st=>(zW1 ov iv x st).bind fun _ st=>.ok (.next env) st:=rfl
@[simp] theorem ex_aug {i op e}:execS C W (.aug i op e) env st=(zH3 env i st).bindP fun x st=>(evalE C e env st).bindV fun y st=>(okO (zV3 op x y) st).bind fun v st=>.ok (.next (env.set i (some v))) st:=rfl
@[simp] theorem xg5 {i op e}:execS C W (.augI i op e) env st=(zH3 env i st).bindP fun x st=>(evalE C e env st).bindV fun y st=>(yS5 op x y st).bind fun v st=>.ok (.next (env.set i (some v))) st:=rfl
@[simp] theorem yz0 {c a b}:execS C W (.ite c a b) env st=(evalE C c env st).bindB fun k st=>if k then execSs C W a env st else execSs C W b env st:=rfl
@[simp] theorem yU6 {tgt it body}:execS C W (.for tgt it body) env st=(evalIt C it env st).bind fun p st=>yC8 C W body tgt p.2 p.1 env st:=rfl
@[simp] theorem xc3 {c body}:execS C W (.while c body) env st=yN0 C W c body W env st:=rfl
@[simp] theorem xk4:execS C W .pass env st=.ok (.next env) st:=rfl
@[simp] theorem exs_nil:execSs C W [] env st=.ok (.next env) st:=rfl
noncomputable def yd0 (C:zb7) (W:Nat) (r:List S) (f:Flow) (st:za6):Res Flow:=match f with
 | .next env'=>execSs C W r env' st
 | .ret v=>.ok (.ret v) st
@[simp] theorem thenS_next {r env'}:yd0 C W r (.next env') st=execSs C W r env' st:=rfl
@[simp] theorem yQ5 {r v}:yd0 C W r (.ret v) st=.ok (.ret v) st:=rfl
@[simp] theorem exs_cons {s r}:execSs C W (s::r) env st=(execS C W s env st).bind (yd0 C W r):=rfl
theorem zx6 {elt cond tgt acc}:zr2 C elt cond tgt none [] env st acc=.ok acc st:=by unfold zr2;rw [compLoop];simp
theorem zW3 {body tgt}:yC8 C W body tgt none [] env st=.ok (.next env) st:=by unfold yC8;rw [zn3];simp
noncomputable def yg0 (k:Nat) (fl:Flow) (st':za6):Res Val:=match fl with
 | .ret v=>.ok v (yB4 k v st')
 | .next _=>.ok (.p .non) (st'.take k)
@[simp] theorem zN1 {k v st'}:yg0 k (.ret v) st'=.ok v (yB4 k v st'):=rfl
@[simp] theorem yL1 {k env st'}:yg0 k (.next env) st'=.ok (.p .non) (st'.take k):=rfl
theorem zf0 {P:List FD} {d f:Nat} {vs:List Val} {fd:FD} (h:P[f]?=some fd) (hl:vs.length=fd.params) :
  zi1 P W (d+1) f vs st=(execSs (zi1 P W d) W fd.body (vs.map some++List.replicate (fd.slots - fd.params) none) st).bind (yg0 st.length):=by
 simp only [zi1,h,hl,if_true]
 rfl
@[simp] theorem yX2 {k v}:yB4 k (.p v) st=st.take k:=rfl
@[simp] theorem xb4:List.take (List.length st) st=st:=List.take_length
end
theorem zx3 {C:zb7} {e:E} {tgt:Tg} {f:PV→PV} {st:za6}:∀ (xs:List PV) (env:Env) (acc:List PV) (I:Env→Prop),
  I env→(∀ x∈xs,∀ env,I env→∃ env',zo2 tgt (.p x) st env=some env'∧I env'∧evalE C e env' st=.ok (.p (f x)) st) →
  zr2 C e none tgt none xs env st acc=.ok (acc++xs.map f) st
 | [],env,acc,_,_,_=>by simp [zx6]
 | x::r,env,acc,I,hI,h=>by
  obtain ⟨env',h1,hI',h2⟩:=h x (by simp) env hI
  have ih:=zx3 r env' (acc++[f x]) I hI' fun y hy=>h y (List.mem_cons_of_mem _ hy)
  unfold zr2 at ih ⊢
  rw [compLoop]
  simp only [zj1,if_true,h1,Res.bindB_ok,h2,Res.bindP_ok]
  rw [ih]
  simp
theorem zq7 {α:Type} (p:α→Bool):∀ xs:List α,zm1 (xs.map fun x=>PV.bl (p x))=some (xs.all p)
 | []=>rfl
 | x::r=>by
  rw [List.map_cons,zm1,zq7 p r,List.all_cons]
  rfl
theorem ya2 {st:za6} {n:Nat} {o:zl8}:List.take (List.length st) (st.set n o)=st.set n o:=by
 rw [List.take_of_length_le (by simp)]
end OR
namespace OR
def Sat {α:Type}:Res α→(α→za6→Prop)→Prop
 | .ok a st,Q=>Q a st
 | .exn _ _ _,_=>False
 | .stuck,_=>False
section
variable {α β:Type}
theorem zz2 {r:Res α} {Q:α→za6→Prop}:Sat r Q↔∃ a st,r=.ok a st∧Q a st:=by
 cases r with
 | ok a st=>exact ⟨fun h=>⟨a,st,rfl,h⟩,fun ⟨_,_,e,h⟩=>by cases e;exact h⟩
 | exn _ _ _=>exact ⟨False.elim,fun ⟨_,_,e,_⟩=>(by cases e)⟩
 | stuck=>exact ⟨False.elim,fun ⟨_,_,e,_⟩=>(by cases e)⟩
@[simp] theorem sat_ok {a:α} {st:za6} {Q:α→za6→Prop}:Sat (.ok a st) Q=Q a st:=rfl
@[simp] theorem zd8 {r:Res α} {f:α→za6→Res β} {Q:β→za6→Prop}:Sat (r.bind f) Q=Sat r fun a st=>Sat (f a st) Q:=by
 cases r <;> rfl
theorem Sat.mono {r:Res α} {Q Q':α→za6→Prop} (h:Sat r Q) (g:∀ a st,Q a st→Q' a st):Sat r Q':=by
 cases r with
 | ok a st=>exact g a st h
 | exn _ _ _=>exact h
 | stuck=>exact h
theorem yU1 {r:Res α} {a:α} {st:za6} {Q:α→za6→Prop} (h:r=.ok a st) (q:Q a st):Sat r Q:=by rw [h];exact q
noncomputable def asB (v:Val) (f:Bool→za6→Res β) (st:za6):Res β:=match v with
 | .p (.bl b)=>f b st
 | _=>.stuck
noncomputable def asP (v:Val) (f:PV→za6→Res β) (st:za6):Res β:=match v with
 | .p x=>f x st
 | _=>.stuck
noncomputable def asV (v:Val) (f:PV→za6→Res β) (st:za6):Res β:=match view st v with
 | some x=>f x st
 | none=>.stuck
@[simp] theorem asB_p {b:Bool} {f:Bool→za6→Res β} {st:za6}:asB (.p (.bl b)) f st=f b st:=rfl
@[simp] theorem asP_p {x:PV} {f:PV→za6→Res β} {st:za6}:asP (.p x) f st=f x st:=rfl
@[simp] theorem asV_p {x:PV} {f:PV→za6→Res β} {st:za6}:asV (.p x) f st=f x st:=rfl
@[simp] theorem xh8 {n:Nat} {f:PV→za6→Res β} {st:za6}:asV (.ref n) f st=match view st (.ref n) with | some x=>f x st | none=>.stuck:=rfl
@[simp] theorem yV5 {r:Res Val} {f:Bool→za6→Res β} {Q:β→za6→Prop}:Sat (r.bindB f) Q=Sat r fun v st=>Sat (asB v f st) Q:=by cases r <;> rfl
@[simp] theorem yO9 {r:Res Val} {f:PV→za6→Res β} {Q:β→za6→Prop}:Sat (r.bindP f) Q=Sat r fun v st=>Sat (asP v f st) Q:=by cases r <;> rfl
@[simp] theorem yY1 {r:Res Val} {f:PV→za6→Res β} {Q:β→za6→Prop}:Sat (r.bindV f) Q=Sat r fun v st=>Sat (asV v f st) Q:=by cases r <;> rfl
@[simp] theorem xg6 {c:Prop} [Decidable c] {a b:Res α} {Q:α→za6→Prop}:Sat (if c then a else b) Q↔(if c then Sat a Q else Sat b Q):=by split <;> rfl
@[simp] theorem xf3 {o:Option PV} {st:za6} {Q:Val→za6→Prop}:Sat (okO o st) Q↔∃ x,o=some x∧Q (.p x) st:=by
 cases o with
 | none=>exact ⟨False.elim,fun ⟨_,e,_⟩=>(by cases e)⟩
 | some x=>exact ⟨fun h=>⟨x,rfl,h⟩,fun ⟨_,e,q⟩=>(by cases e;exact q)⟩
end
theorem zx5 {C:zb7} {e:E} {cond:Option E} {tgt:Tg} (J:List PV→Env→za6→List PV→Prop) :
  ∀ (xs:List PV) (env:Env) (st:za6) (acc:List PV),J xs env st acc →
  (∀ x r env st acc,J (x::r) env st acc→∃ env',zo2 tgt (.p x) st env=some env' ∧
   Sat (match cond with | none=>Res.ok (Val.p (.bl true)) st | some c=>evalE C c env' st) (fun v st1=>∃ b,v=.p (.bl b) ∧
    if b=true then Sat (evalE C e env' st1) (fun v st2=>∃ y,v=.p y∧J r env' st2 (acc++[y])) else J r env' st1 acc)) →
  Sat (zr2 C e cond tgt none xs env st acc) (fun ys st'=>∃ env',J [] env' st' ys)
 | [],env,st,acc,h,_=>by rw [zx6];exact ⟨env,h⟩
 | x::r,env,st,acc,h,step=>by
  obtain ⟨env',h1,hs⟩:=step x r env st acc h
  obtain ⟨v,st1,h2,b,rfl,h3⟩:=zz2.mp hs
  cases b with
  | true =>
   rw [if_pos rfl] at h3
   obtain ⟨_,st2,h4,y,rfl,h5⟩:=zz2.mp h3
   have ih:=zx5 (C:=C) (e:=e) (cond:=cond) (tgt:=tgt) J r env' st2 (acc++[y]) h5 step
   unfold zr2 at ih ⊢
   rw [compLoop]
   cases cond with
   | none=>cases h2;simpa only [zj1,if_true,h1,Res.bindB_ok,h4,Res.bindP_ok] using ih
   | some c=>simpa only [zj1,if_true,h1,h2,Res.bindB_ok,h4,Res.bindP_ok] using ih
  | false =>
   rw [if_neg (by simp)] at h3
   have ih:=zx5 (C:=C) (e:=e) (cond:=cond) (tgt:=tgt) J r env' st1 acc h3 step
   unfold zr2 at ih ⊢
   rw [compLoop]
   cases cond with
   | none=>cases h2
   | some c=>simpa only [zj1,if_true,h1,h2,Res.bindB_ok,Bool.false_eq_true,if_false] using ih
theorem zq9 {C:zb7} {W:Nat} {body:List S} {tgt:Tg} (J:List PV→Env→za6→Prop):∀ (xs:List PV) (env:Env) (st:za6),
  J xs env st →
  (∀ x r env st,J (x::r) env st→∃ env',zo2 tgt (.p x) st env=some env'∧Sat (execSs C W body env' st) (fun f st2=>∃ env2,f=.next env2∧J r env2 st2)) →
  Sat (yC8 C W body tgt none xs env st) (fun f st'=>∃ env',f=.next env'∧J [] env' st')
 | [],env,st,h,_=>by rw [zW3];exact ⟨env,rfl,h⟩
 | x::r,env,st,h,step=>by
  obtain ⟨env',h1,hs⟩:=step x r env st h
  obtain ⟨_,st2,h2,env2,rfl,h3⟩:=zz2.mp hs
  have ih:=zq9 (C:=C) (W:=W) (body:=body) (tgt:=tgt) J r env2 st2 h3 step
  unfold yC8 at ih ⊢
  rw [zn3]
  simpa only [zj1,if_true,h1,h2,Res.bind_ok] using ih
theorem zj5 {n:Nat} (h:n≤16777216):n≤SZ:=by unfold SZ;exact h
theorem yj1 {n:Nat} (h:n<16777216):n<SZ:=by unfold SZ;exact h
theorem zA2 {n:Int} (h:n≤16777216):n≤(SZ:Int):=by unfold SZ;exact h
theorem zu4 {α β:Type} (f:α→β) (xs:List α) (lo hi:Option Int):cut (xs.map f) lo hi=(cut xs lo hi).map f:=by
 unfold cut;simp
theorem zs4 {α:Type} (xs:List α) (r:Int) (h:0≤r):cut xs (some r) none=xs.drop r.toNat:=by
 simp only [cut,sIx,if_pos h]
 rw [List.take_of_length_le (by simp)]
 by_cases hr:r.toNat≤xs.length
 ·rw [Nat.min_eq_left hr]
 ·rw [Nat.min_eq_right (by omega),List.drop_of_length_le (by simp),List.drop_of_length_le (by omega)]
theorem zt1 {α:Type} (xs:List α) (r:Int) (h:0≤r):cut xs none (some r)=xs.take r.toNat:=by
 simp only [cut,sIx,if_pos h,List.drop_zero,Nat.sub_zero]
 by_cases hr:r.toNat≤xs.length
 ·rw [Nat.min_eq_left hr]
 ·rw [Nat.min_eq_right (by omega),List.take_of_length_le (by simp),List.take_of_length_le (by omega)]
theorem zS3 {α:Type} (xs:List α) (a b:Int) (h:0≤a) (hb:0≤b) (hx:b≤xs.length):cut xs (some a) (some b)=(xs.drop a.toNat).take (b.toNat - a.toNat):=by
 simp only [cut,sIx,if_pos h,if_pos hb]
 rw [Nat.min_eq_left (a:=b.toNat) (by omega)]
 by_cases hr:a.toNat≤xs.length
 ·rw [Nat.min_eq_left hr]
 ·rw [Nat.min_eq_right (by omega),List.drop_of_length_le (by simp),List.drop_of_length_le (by omega)]
  simp
theorem yc6 {C:zb7} {W:Nat} {a b:List S} {env:Env} {st:za6}:execSs C W (a++b) env st=(execSs C W a env st).bind (yd0 C W b):=by
 induction a generalizing env st with
 | nil=>simp
 | cons s r ih =>
  simp only [List.cons_append,exs_cons]
  cases execS C W s env st with
  | ok f st'=>cases f with
   | next env'=>simp only [Res.bind_ok,thenS_next,ih]
   | ret v=>rfl
  | exn c as st'=>rfl
  | stuck=>rfl
theorem yd3 {α:Type} (xs:List α) (i:Int) (h0:0≤i) (h1:i<xs.length):∃ x,xs[i.toNat]?=some x∧x∈xs∧zk5 xs.length i=some i.toNat :=
 ⟨xs[i.toNat],List.getElem?_eq_getElem (by omega),List.getElem_mem _,by unfold zk5;rw [if_pos h0,if_pos h1]⟩
theorem zL0 {α:Type} (xs:List α) (r:Nat):(xs.drop r++xs.take r).Perm xs:=by
 have:=List.perm_append_comm (l₁:=xs.drop r) (l₂:=xs.take r)
 rwa [List.take_append_drop] at this
theorem zj2 {α:Type} {C:zb7} {e:E} {tgt:Tg} (g f:α→PV) {st:za6} (I:Env→Prop):∀ (xs:List α) (env:Env) (acc:List PV),
  I env→(∀ x∈xs,∀ env,I env→∃ env',zo2 tgt (.p (g x)) st env=some env'∧I env'∧evalE C e env' st=.ok (.p (f x)) st) →
  zr2 C e none tgt none (xs.map g) env st acc=.ok (acc++xs.map f) st
 | [],env,acc,_,_=>by simp [zx6]
 | x::r,env,acc,hI,h=>by
  obtain ⟨env',h1,hI',h2⟩:=h x (by simp) env hI
  have ih:=zj2 (C:=C) (e:=e) (tgt:=tgt) g f I r env' (acc++[f x]) hI' fun y hy=>h y (List.mem_cons_of_mem _ hy)
  unfold zr2 at ih ⊢
  rw [List.map_cons,compLoop]
  simp only [zj1,if_true,h1,Res.bindB_ok,h2,Res.bindP_ok]
  rw [ih]
  simp
theorem zw7 {α:Type} {C:zb7} {e c:E} {tgt:Tg} (g:α→PV) (p:α→Bool) (f:α→PV) {st:za6} (I:Env→Prop):∀ (xs:List α) (env:Env) (acc:List PV),
  I env→(∀ x∈xs,∀ env,I env→∃ env',zo2 tgt (.p (g x)) st env=some env'∧I env'∧evalE C c env' st=.ok (.p (.bl (p x))) st∧(p x=true→evalE C e env' st=.ok (.p (f x)) st)) →
  zr2 C e (some c) tgt none (xs.map g) env st acc=.ok (acc++(xs.filter p).map f) st
 | [],env,acc,_,_=>by simp [zx6]
 | x::r,env,acc,hI,h=>by
  obtain ⟨env',h1,hI',h2,h3⟩:=h x (by simp) env hI
  have ih:=fun acc=>zw7 (C:=C) (e:=e) (c:=c) (tgt:=tgt) g p f I r env' acc hI' fun y hy=>h y (List.mem_cons_of_mem _ hy)
  unfold zr2 at ih ⊢
  rw [List.map_cons,compLoop]
  simp only [zj1,if_true,h1,h2,Res.bindB_ok]
  cases hp:p x with
  | true=>simp only [if_true,h3 hp,Res.bindP_ok];rw [ih];simp [hp]
  | false=>simp only [Bool.false_eq_true,if_false];rw [ih];simp [hp]
theorem zk1 {α:Type} {r:Res α} {x:α} {st:za6} (h:Sat r fun a s=>a=x∧s=st):r=.ok x st:=by
 obtain ⟨a,s,e,rfl,rfl⟩:=zz2.mp h
 exact e
theorem zi4 {st:za6} {k:Nat} {xs:List PV} (h:zb6 st k=some (.lst xs)):view st (.ref k)=some (.lst xs):=by
 simp only [view,h]
theorem zv5 {st:za6} {k:Nat} {xs:List PV} (h:zb6 st k=some (.lst xs)):zM5 st k=some xs:=by
 simp only [zM5,h]
theorem zj7 {S:za6} {o:zl8} {n:Nat} (h:n=S.length):zb6 (S++[o]) n=some o:=by rw [h];exact zn7
theorem Sat.k0 {α β:Type} {r:Res α} {Q:α→za6→Prop} {F:β→α} {P:β→Prop} {R:za6→Prop} (h:Sat r fun v st=>(∃ x,v=F x∧P x)∧R st) (k:∀ x st,P x→R st→Q (F x) st):Sat r Q:=by
 refine h.mono ?_
 rintro _ st ⟨⟨x,rfl,p⟩,q⟩
 exact k x st p q
theorem Sat.k1 {α β:Type} {r:Res α} {Q:α→za6→Prop} {F:β→α} {P P':β→Prop} {R:za6→Prop} (h:Sat r fun v st=>(∃ x,v=F x∧P x∧P' x)∧R st) (k:∀ x st,P x→P' x→R st→Q (F x) st):Sat r Q:=by
 refine h.mono ?_
 rintro _ st ⟨⟨x,rfl,p,p'⟩,q⟩
 exact k x st p p' q
theorem za3 {C:zb7} {W:Nat} {s:S} {r:List S} {env:Env} {st:za6} {Q:Flow→za6→Prop} (h:Sat (execS C W s env st) fun a st=>Sat (yd0 C W r a st) Q):Sat (execSs C W (s::r) env st) Q:=by
 rw [exs_cons,zd8];exact h
@[simp high] theorem yL4 {v:Val} {env:Env} {st:za6}:zH3 (some v::env) 0 st=.ok v st:=rfl
@[simp high] theorem yL6 {a:Option Val} {env:Env} {i:Nat} {st:za6}:zH3 (a::env) (i+1) st=zH3 env i st:=rfl
@[simp] theorem xg9 {v i:PV} {st:za6}:ixVal (.p v) i st=okO (yq5 v i) st:=rfl
@[simp] theorem yW8 {n:Nat} {i:PV} {st:za6}:ixVal (.ref n) i st=match zb6 st n with | some (.lst xs)=>okO (yq5 (.lst xs) i) st | some (.dct kvs)=>okO (yb9 i kvs) st | _=>.stuck:=rfl
@[simp] theorem xb7 {xs:List PV} {st:za6}:walkOf (.p (.tup xs)) st=.ok (xs,none) st:=rfl
@[simp] theorem xb9 {xs:List PV} {st:za6}:walkOf (.p (.lst xs)) st=.ok (xs,none) st:=rfl
@[simp] theorem yL5 {n:Nat} {st:za6}:walkOf (.ref n) st=match view st (.ref n) with | some x=>(match zc3 x with | some xs=>.ok (xs,yC3 (.ref n) xs) st | none=>.stuck) | none=>.stuck:=rfl
@[simp high] theorem o_lenT {xs:List PV} {st:za6}:opN (bfOp .len) [.p (.tup xs)] st=.ok (.p (.int xs.length)) st:=rfl
@[simp high] theorem o_lenL {xs:List PV} {st:za6}:opN (bfOp .len) [.p (.lst xs)] st=.ok (.p (.int xs.length)) st:=rfl
@[simp high] theorem o_tupL {xs:List PV} {st:za6}:opN (bfOp .tuple) [.p (.lst xs)] st=.ok (.p (.tup xs)) st:=rfl
@[simp high] theorem o_lstT {xs:List PV} {st:za6}:opN (bfOp .list) [.p (.tup xs)] st=.ok (.p (.lst xs)) st:=rfl
@[simp 20000] theorem ix_10 {x:PV} {st:za6}:ixVal (.p (.tup [x])) (.int 0) st=.ok (.p x) st:=rfl
@[simp 20000] theorem ix_20 {x y:PV} {st:za6}:ixVal (.p (.tup [x,y])) (.int 0) st=.ok (.p x) st:=rfl
@[simp 20000] theorem ix_21 {x y:PV} {st:za6}:ixVal (.p (.tup [x,y])) (.int 1) st=.ok (.p y) st:=rfl
@[simp 20000] theorem ix_30 {x y z:PV} {st:za6}:ixVal (.p (.tup [x,y,z])) (.int 0) st=.ok (.p x) st:=rfl
@[simp 20000] theorem ix_31 {x y z:PV} {st:za6}:ixVal (.p (.tup [x,y,z])) (.int 1) st=.ok (.p y) st:=rfl
@[simp 20000] theorem ix_32 {x y z:PV} {st:za6}:ixVal (.p (.tup [x,y,z])) (.int 2) st=.ok (.p z) st:=rfl
@[simp high] theorem eqS_p {a b:List Nat} {st:za6}:op2 (zt6 .eq) (.p (.str a)) (.p (.str b)) st=.ok (.p (.bl (decide (a=b)))) st:=rfl
@[simp high] theorem neB_p {a b:Bool} {st:za6}:op2 (zt6 .ne) (.p (.bl a)) (.p (.bl b)) st=.ok (.p (.bl (a != b))) st:=rfl
@[simp high] theorem eqB_p {a b:Bool} {st:za6}:op2 (zt6 .eq) (.p (.bl a)) (.p (.bl b)) st=.ok (.p (.bl (a==b))) st:=rfl
@[simp high] theorem neS_p {a b:List Nat} {st:za6}:op2 (zt6 .ne) (.p (.str a)) (.p (.str b)) st=.ok (.p (.bl (!decide (a=b)))) st:=rfl
@[simp high] theorem neI_p {a b:Int} {st:za6}:op2 (zt6 .ne) (.p (.int a)) (.p (.int b)) st=.ok (.p (.bl (!decide (a=b)))) st:=rfl
@[simp high] theorem ltI_p {a b:Int} {st:za6}:op2 (zt6 .lt) (.p (.int a)) (.p (.int b)) st=.ok (.p (.bl (decide (a<b)))) st:=rfl
@[simp high] theorem gtI_p {a b:Int} {st:za6}:op2 (zt6 .gt) (.p (.int a)) (.p (.int b)) st=.ok (.p (.bl (decide (b<a)))) st:=rfl
@[simp high] theorem geI_p {a b:Int} {st:za6}:op2 (zt6 .ge) (.p (.int a)) (.p (.int b)) st=.ok (.p (.bl (decide (b≤a)))) st:=rfl
@[simp high] theorem eqI_p {a b:Int} {st:za6}:op2 (zt6 .eq) (.p (.int a)) (.p (.int b)) st=.ok (.p (.bl (decide (a=b)))) st:=rfl
@[simp high] theorem addI_p {a b:Int} {st:za6}:op2 (zV3 .add) (.p (.int a)) (.p (.int b)) st=.ok (.p (.int (a+b))) st:=rfl
@[simp high] theorem subI_p {a b:Int} {st:za6}:op2 (zV3 .sub) (.p (.int a)) (.p (.int b)) st=.ok (.p (.int (a - b))) st:=rfl
theorem zo9 {C:zb7} {W:Nat} {c:E} {b b2 r:List S} {env:Env} {st:za6} {Q:Flow→za6→Prop} (h1:evalE C c env st=.ok (.p (.bl true)) st)
  (h:Sat (execSs C W b env st) fun f st1=>Sat (yd0 C W r f st1) Q):Sat (execSs C W (.ite c b b2::r) env st) Q:=by
 rw [exs_cons,zd8,yz0,h1]
 exact h
@[simp high] theorem xb8 {C:zb7} {env:Env} {st:za6} {mt:Bool} {elt:E} {tgt:Tg} {it:It} {caps:List Nat} {n:Nat}:evalE C (.comp mt elt tgt it none caps n) env st=(evalIt C it env st).bind fun p st=>(zr2 C elt none tgt p.2 p.1 (zw9 caps n env) st []).bind fun xs st=>mk mt xs st:=rfl
@[simp high] theorem xb6 {C:zb7} {env:Env} {st:za6} {mt:Bool} {elt c:E} {tgt:Tg} {it:It} {caps:List Nat} {n:Nat}:evalE C (.comp mt elt tgt it (some c) caps n) env st=(evalIt C it env st).bind fun p st=>(zr2 C elt (some c) tgt p.2 p.1 (zw9 caps n env) st []).bind fun xs st=>mk mt xs st:=rfl
mutual
noncomputable def wt:PV→Nat
 | .non=>4
 | .bl _=>5
 | .int _=>40
 | .str cs=>cs.length+2
 | .tup xs=>3+wts xs
 | .lst xs=>3+wts xs
noncomputable def wts:List PV→Nat
 | []=>0
 | x::r=>wt x+2+wts r
end
mutual
/-- numbers to a bound,texts of plain signs -/
noncomputable def okv (B:Nat):PV→Bool
 | .int i=>decide (i.natAbs≤B)
 | .str cs=>cs.all okC
 | .tup xs=>okvs B xs
 | .lst xs=>okvs B xs
 | _=>true
noncomputable def okvs (B:Nat):List PV→Bool
 | []=>true
 | x::r=>okv B x&&okvs B r
end
@[simp] theorem wt_non:wt .non=4:=by rw [wt]
@[simp] theorem xg1 {b}:wt (.bl b)=5:=by rw [wt]
@[simp] theorem yP9 {b}:wt (.int b)=40:=by rw [wt]
@[simp] theorem yP0 {b}:wt (.str b)=b.length+2:=by rw [wt]
@[simp] theorem yA1 {b}:wt (.tup b)=3+wts b:=by rw [wt]
@[simp] theorem wt_lst {b}:wt (.lst b)=3+wts b:=by rw [wt]
@[simp] theorem yG7:wts []=0:=by rw [wts]
@[simp] theorem zK2 {x r}:wts (x::r)=wt x+2+wts r:=by rw [wts]
@[simp] theorem xi1 {a b}:wts (a++b)=wts a+wts b:=by
 induction a with
 | nil=>simp
 | cons x r ih=>simp [ih];lia
theorem zT9 {a b:List PV} (h:a.Sublist b):wts a≤wts b:=by
 induction h with
 | slnil=>simp
 | cons x _ ih=>simp;lia
 | cons_cons x _ ih=>simp;lia
theorem yr3 {a b:List PV} (h:a.Perm b):wts a=wts b:=by
 induction h with
 | nil=>rfl
 | cons x _ ih=>simp [ih]
 | swap x y l=>simp;lia
 | trans _ _ h1 h2=>rw [h1,h2]
theorem yN7 {x:PV} {xs:List PV} (h:x∈xs):wt x+2≤wts xs:=by
 induction xs with
 | nil=>cases h
 | cons y r ih =>
  rcases List.mem_cons.mp h with rfl | h
  ·simp
  ·have:=ih h;simp;lia
@[simp] theorem xh7 {B}:okv B .non=true:=by rw [okv] <;> simp
@[simp] theorem okv_bl {B b}:okv B (.bl b)=true:=by rw [okv] <;> simp
@[simp] theorem yE6 {B i}:okv B (.int i)=decide (i.natAbs≤B):=by rw [okv]
@[simp] theorem zq6 {B cs}:okv B (.str cs)=cs.all okC:=by rw [okv]
theorem yh7 {B xs}:okvs B xs=xs.all (okv B):=by
 induction xs with
 | nil=>rw [okvs];rfl
 | cons x r ih=>rw [okvs,ih];rfl
@[simp] theorem zn2 {B xs}:okv B (.tup xs)=xs.all (okv B):=by rw [okv,yh7]
@[simp] theorem yi0 {B xs}:okv B (.lst xs)=xs.all (okv B):=by rw [okv,yh7]
mutual
theorem okv_mono {B B':Nat} (h:B≤B'):∀ v,okv B v=true→okv B' v=true
 | .non,_=>by simp
 | .bl _,_=>by simp
 | .int i,g=>by simp at g ⊢;lia
 | .str _,g=>by simpa using g
 | .tup xs,g=>by rw [okv] at g ⊢;exact okvs_mono h xs g
 | .lst xs,g=>by rw [okv] at g ⊢;exact okvs_mono h xs g
theorem okvs_mono {B B':Nat} (h:B≤B'):∀ v,okvs B v=true→okvs B' v=true
 | [],_=>by rw [okvs]
 | x::r,g=>by
  rw [okvs,Bool.and_eq_true] at g ⊢
  exact ⟨okv_mono h x g.1,okvs_mono h r g.2⟩
end
theorem zu9 {xs:List PV} {d:Nat}:deps xs≤d↔∀ x∈xs,dep x≤d:=by
 induction xs with
 | nil=>simp
 | cons x r ih=>simp [ih,Nat.max_le]
theorem yb5 {i:Int} (h:i.natAbs<10 ^ 38):(zP4 i).length≤39:=by
 unfold zP4
 rw [List.length_map,String.length_toList]
 have q:∀ n:Nat,n<10 ^ 38→(Nat.repr n).length≤38:=fun n hn=>by
  exact (Nat.length_repr_le_iff (by lia)).mpr hn
 cases i with
 | ofNat n =>
  show (Nat.repr n).length≤39
  have:=q n h
  lia
 | negSucc n =>
  have e:toString (Int.negSucc n) = "-" ++ Nat.repr (n+1):=rfl
  rw [e,String.length_append]
  have:=q (n+1) h
  have e1 : "-".length=1:=rfl
  lia
theorem zD8:∀ ts:List (List Nat),(zt0 ts).length≤(ts.map fun t=>t.length+2).sum
 | []=>by simp [zt0]
 | [x]=>by simp [zt0]
 | x::y::r=>by
  have:=zD8 (y::r)
  rw [zt0]
  ·simp at this ⊢;lia
  ·simp
mutual
theorem shown_ok {B:Nat} (hB:B<10 ^ 38):∀ v,okv B v=true→∃ t,shownP v=some t∧t.length≤wt v
 | .non,_=>⟨_,by rw [shownP],by simp⟩
 | .bl true,_=>⟨_,by rw [shownP],by simp [yx0]⟩
 | .bl false,_=>⟨_,by rw [shownP],by simp [zZ4]⟩
 | .int i,h=>by
  simp at h
  refine ⟨zP4 i,?_,?_⟩
  ·rw [shownP,if_pos]
   by_cases h0:i.natAbs=0
   ·rw [h0];decide
   ·rw [Nat.log2_lt h0]
    exact Nat.lt_of_le_of_lt h (Nat.lt_trans hB (by decide +kernel))
  ·have:=yb5 (i:=i) (by lia);simp;lia
 | .str cs,h=>by
  simp only [zq6] at h
  exact ⟨_,by rw [shownP,if_pos h],by simp⟩
 | .tup xs,h=>by
  rw [okv] at h
  obtain ⟨ts,h1,h2⟩:=showns_ok hB xs h
  refine ⟨zR1 ts,by rw [shownP,h1],?_⟩
  have:=zD8 ts
  unfold zR1
  split <;> simp <;> lia
 | .lst xs,h=>by
  rw [okv] at h
  obtain ⟨ts,h1,h2⟩:=showns_ok hB xs h
  refine ⟨zP7 ts,by rw [shownP,h1],?_⟩
  have:=zD8 ts
  unfold zP7
  simp;lia
theorem showns_ok {B:Nat} (hB:B<10 ^ 38):∀ v,okvs B v=true→∃ ts,shownPs v=some ts∧(ts.map fun t=>t.length+2).sum≤wts v
 | [],_=>⟨[],by rw [shownPs],by simp⟩
 | x::r,h=>by
  rw [okvs,Bool.and_eq_true] at h
  obtain ⟨t,h1,h2⟩:=shown_ok hB x h.1
  obtain ⟨ts,h3,h4⟩:=showns_ok hB r h.2
  exact ⟨t::ts,by rw [shownPs,h1,h3],by simp;lia⟩
end
theorem yH6 {B:Nat} {v:PV} (hB:B<10 ^ 38) (h:okv B v=true) (hd:dep v≤100) (hw:wt v≤16777216):∃ t,zz8 v=some t:=by
 obtain ⟨t,h1,h2⟩:=shown_ok hB v h
 have q:zw4 v=some t:=by
  unfold zw4
  rw [h1]
  exact if_pos ⟨hd,zj5 (by lia)⟩
 cases v with
 | bl b=>cases b <;> exact ⟨_,rfl⟩
 | _=>exact ⟨t,q⟩
end OR
namespace OR
end OR
namespace OR
theorem zQ1:∀ a:List Nat,strLt a a=false
 | []=>rfl
 | x::r=>by rw [strLt,if_neg (Nat.lt_irrefl _),if_neg (Nat.lt_irrefl _)];exact zQ1 r
theorem zF2:∀ {a b:List Nat},strLt a b=false→strLt b a=false→a=b
 | [],[],_,_=>rfl
 | [],_::_,h,_=>by rw [strLt] at h;cases h
 | _::_,[],_,h=>by rw [strLt] at h;cases h
 | x::r,y::s,h,g=>by
  rw [strLt] at h g
  by_cases c:x<y
  ·rw [if_pos c] at h;cases h
  ·by_cases c2:y<x
   ·rw [if_pos c2] at g;cases g
   ·rw [if_neg c,if_neg c2] at h
    rw [if_neg c2,if_neg c] at g
    have:x=y:=by lia
    rw [this,zF2 h g]
theorem zB0:∀ {a b c:List Nat},strLt a b=true→strLt b c=true→strLt a c=true
 | [],[],_,h,_=>by rw [strLt] at h;cases h
 | _::_,[],_,h,_=>by rw [strLt] at h;cases h
 | _,_::_,[],_,h=>by rw [strLt] at h;cases h
 | [],_::_,_::_,_,_=>by rw [strLt]
 | x::r,y::s,z::t,h,g=>by
  rw [strLt] at h g ⊢
  by_cases c1:x<y
  ·by_cases c2:y<z
   ·rw [if_pos (by lia)]
   ·by_cases c3:z<y
    ·rw [if_neg c2,if_pos c3] at g;cases g
    ·rw [if_pos (by lia)]
  ·by_cases c1':y<x
   ·rw [if_neg c1,if_pos c1'] at h;cases h
   ·rw [if_neg c1,if_neg c1'] at h
    have e:x=y:=by lia
    subst e
    by_cases c2:x<z
    ·rw [if_pos c2]
    ·by_cases c3:z<x
     ·rw [if_neg c2,if_pos c3] at g;cases g
     ·rw [if_neg c2,if_neg c3] at g ⊢
      exact zB0 h g
theorem yx2 {a b:List Nat} (h:strLt a b=true):strLt b a=false:=by
 cases c:strLt b a with
 | false=>rfl
 | true=>have:=zB0 h c;rw [zQ1] at this;cases this
theorem zD3 {i:List Nat}:∀ {d:List (List Nat)},(zT8 i d).Perm (i::d)
 | []=>by rw [zT8]
 | x::r=>by
  rw [zT8]
  split
  ·exact List.Perm.refl _
  ·exact ((zD3 (d:=r)).cons x).trans (List.Perm.swap i x r)
theorem yk1 {i:List Nat}:∀ {d:List (List Nat)},d.Pairwise (fun a b=>strLt b a=false)→(zT8 i d).Pairwise (fun a b=>strLt b a=false)
 | [],_=>by rw [zT8];simp
 | x::r,h=>by
  rw [List.pairwise_cons] at h
  rw [zT8]
  split
  ·rename_i c
   rw [List.pairwise_cons]
   refine ⟨fun b hb=>?_,List.pairwise_cons.mpr h⟩
   rcases List.mem_cons.mp hb with rfl | hb
   ·exact yx2 c
   ·have h1:=h.1 b hb
    cases c2:strLt b i with
    | false=>rfl
    | true=>rw [zB0 c2 c] at h1;cases h1
  ·rename_i c
   rw [List.pairwise_cons]
   refine ⟨fun b hb=>?_,yk1 h.2⟩
   rcases List.mem_cons.mp (zD3.mem_iff.mp hb) with rfl | hb
   ·simpa using c
   ·exact h.1 b hb
theorem yS1 (ns:List (List Nat)):(ns.foldl (fun d i=>zT8 i d) []).Pairwise (fun a b=>strLt b a=false)∧(ns.foldl (fun d i=>zT8 i d) []).Perm ns:=by
 have:∀ (ns d:List (List Nat)),d.Pairwise (fun a b=>strLt b a=false)→(ns.foldl (fun d i=>zT8 i d) d).Pairwise (fun a b=>strLt b a=false)∧(ns.foldl (fun d i=>zT8 i d) d).Perm (d++ns):=by
  intro ns
  induction ns with
  | nil=>intro d h;exact ⟨h,by simp⟩
  | cons i r ih =>
   intro d h
   obtain ⟨a,b⟩:=ih _ (yk1 (i:=i) h)
   refine ⟨a,b.trans ?_⟩
   refine ((zD3 (i:=i) (d:=d)).append_right r).trans ?_
   exact (List.perm_middle (a:=i) (l₁:=d) (l₂:=r)).symm
 obtain ⟨a,b⟩:=this ns [] .nil
 exact ⟨a,by simpa using b⟩
theorem zY4:∀ {a b:List (List Nat)},a.Pairwise (fun a b=>strLt b a=false)→b.Pairwise (fun a b=>strLt b a=false)→a.Perm b→a=b
 | [],b,_,_,p=>by rw [p.nil_eq]
 | x::r,[],_,_,p=>by have:=p.length_eq;simp at this
 | x::r,y::q,ha,hb,p=>by
  rw [List.pairwise_cons] at ha hb
  have e:x=y:=by
   rcases List.mem_cons.mp (p.mem_iff.mp (List.mem_cons_self (a:=x) (l:=r))) with e | e
   ·exact e
   ·rcases List.mem_cons.mp (p.mem_iff.mpr (List.mem_cons_self (a:=y) (l:=q))) with e2 | e2
    ·exact e2.symm
    ·exact zF2 (hb.1 x e) (ha.1 y e2)
  subst e
  rw [zY4 ha.2 hb.2 (List.Perm.cons_inv p)]
theorem yE9 (a:List (List Nat)):¬ a<a:=List.lt_irrefl a
theorem zD5 {i:List (List Nat)}:∀ {d:List (List (List Nat))},(yb1 i d).Perm (i::d)
 | []=>List.Perm.refl _
 | x::r=>by
  unfold yb1
  split
  ·exact List.Perm.refl _
  ·exact (List.Perm.cons x zD5).trans (List.Perm.swap i x r)
theorem yo7 {i:List (List Nat)}:∀ {d:List (List (List Nat))},d.Pairwise (fun a b=>¬ b<a)→(yb1 i d).Pairwise (fun a b=>¬ b<a)
 | [],_=>List.pairwise_singleton _ _
 | x::r,h=>by
  obtain ⟨h1,h2⟩:=List.pairwise_cons.mp h
  unfold yb1
  split
  ·rename_i c
   refine List.pairwise_cons.mpr ⟨fun y hy e=>?_,h⟩
   rcases List.mem_cons.mp hy with rfl | hy
   ·exact yE9 _ (List.lt_trans c e)
   ·exact h1 y hy (List.lt_trans e c)
  ·rename_i c
   refine List.pairwise_cons.mpr ⟨fun y hy=>?_,yo7 h2⟩
   rcases List.mem_cons.mp (zD5.mem_iff.mp hy) with rfl | hy
   ·exact c
   ·exact h1 y hy
theorem yM2 (xs:List (List (List Nat))):(xs.foldl (fun d i=>yb1 i d) []).Pairwise (fun a b=>¬ b<a)∧(xs.foldl (fun d i=>yb1 i d) []).Perm xs:=by
 have key:∀ (xs d:List (List (List Nat))),d.Pairwise (fun a b=>¬ b<a)→(xs.foldl (fun d i=>yb1 i d) d).Pairwise (fun a b=>¬ b<a)∧(xs.foldl (fun d i=>yb1 i d) d).Perm (d++xs):=by
  intro xs
  induction xs with
  | nil=>intro d h;exact ⟨h,by simp⟩
  | cons x r ih =>
   intro d h
   obtain ⟨a,b⟩:=ih (yb1 x d) (yo7 h)
   refine ⟨a,b.trans ?_⟩
   refine (List.Perm.append_right r zD5).trans ?_
   exact (List.perm_middle).symm
 have:=key xs [] List.Pairwise.nil
 simpa using this
theorem yb0:∀ {a b:List (List (List Nat))},a.Pairwise (fun a b=>¬ b<a)→b.Pairwise (fun a b=>¬ b<a)→a.Perm b→a=b
 | [],b,_,_,p=>by rw [p.nil_eq]
 | x::a,[],_,_,p=>by have:=p.length_eq;cases this
 | x::a,y::b,h1,h2,p=>by
  obtain ⟨u1,u2⟩:=List.pairwise_cons.mp h1
  obtain ⟨v1,v2⟩:=List.pairwise_cons.mp h2
  have e:x=y:=by
   have hx:x∈y::b:=p.mem_iff.mp (by simp)
   have hy:y∈x::a:=p.mem_iff.mpr (by simp)
   rcases List.mem_cons.mp hx with e | hx
   ·exact e
   ·rcases List.mem_cons.mp hy with e | hy
    ·exact e.symm
    ·exact List.le_antisymm (List.not_lt.mp (u1 y hy)) (List.not_lt.mp (v1 x hx))
  subst e
  rw [yb0 u2 v2 (List.Perm.cons_inv p)]
end OR
namespace L2
open PySem PySem.Spec PyProof.Rows
noncomputable abbrev Key:=Sum Int Str
noncomputable def ye9:Key→Value→Bool
 | .inl k,v=>Value.isInt k v
 | .inr x,v=>Value.isStrOf x v
noncomputable def keyH (w:World):Key→Int
 | .inl k=>hashInt k
 | .inr x=>hashStr w x
theorem zh2:∀ {k:Key} {v:Value},ye9 k v=true→(∃ i t,k=Sum.inl i∧v=Value.int i t)∨(∃ x t,k=Sum.inr x∧v=Value.str x t)
 | .inl i,v,h=>by
  obtain ⟨t,e⟩:=Value.isInt_shape (k:=i) (v:=v) h
  exact .inl ⟨i,t,rfl,e⟩
 | .inr x,v,h=>by
  obtain ⟨t,e⟩:=Value.isStrOf_shape (x:=x) (v:=v) h
  exact .inr ⟨x,t,rfl,e⟩
theorem yf7 (i:Int) (t:Tok):ye9 (.inl i) (.int i t)=true:=by simp [ye9,Value.isInt]
theorem yn8 (x:Str) (t:Tok):ye9 (.inr x) (.str x t)=true:=by simp [ye9,Value.isStrOf]
theorem yP2 (a b:Int):decide ((Sum.inl a:Key)=Sum.inl b)=(a==b):=by
 by_cases e:a=b
 ·subst e;simp
 ·have h:¬ (Sum.inl a:Key)=Sum.inl b:=fun q=>e (Sum.inl.inj q)
  rw [decide_eq_false h]
  exact (beq_eq_false_iff_ne.mpr e).symm
theorem yO3 (a b:Str):decide ((Sum.inr a:Key)=Sum.inr b)=decide (a=b):=by
 by_cases e:a=b
 ·subst e;simp
 ·have h:¬ (Sum.inr a:Key)=Sum.inr b:=fun q=>e (Sum.inr.inj q)
  rw [decide_eq_false h,decide_eq_false e]
theorem xa0 (a:Int) (b:Str):decide ((Sum.inl a:Key)=Sum.inr b)=false:=decide_eq_false (fun q=>nomatch q)
theorem yP5 (a:Str) (b:Int):decide ((Sum.inr a:Key)=Sum.inl b)=false:=decide_eq_false (fun q=>nomatch q)
noncomputable def zi6 (prog:Program) (w:World):PySem.KeyKind prog w Key where
 is:=ye9
 hash:=keyH w
 inj:=fun v a b ha hb=>by
  rcases zh2 ha with ⟨i,t,rfl,rfl⟩ | ⟨x,t,rfl,rfl⟩
  ·rcases zh2 hb with ⟨j,u,rfl,e⟩ | ⟨y,u,rfl,e⟩
   ·injection e with e1 _;rw [e1]
   ·exact nomatch e
  ·rcases zh2 hb with ⟨j,u,rfl,e⟩ | ⟨y,u,rfl,e⟩
   ·exact nomatch e
   ·injection e with e1 _;rw [e1]
 byValue:=fun k v h=>by
  rcases zh2 h with ⟨i,t,rfl,rfl⟩ | ⟨x,t,rfl,rfl⟩ <;> rfl
 pyHash:=fun hv h=>by
  rcases zh2 hv with ⟨i,t,rfl,rfl⟩ | ⟨x,t,rfl,rfl⟩
  ·exact wpAny_pyHash_int h
  ·exact wpAny_pyHash_str h
 eqBool:=fun hu hv h=>by
  rcases zh2 hu with ⟨i,t,rfl,rfl⟩ | ⟨x,t,rfl,rfl⟩
  ·rcases zh2 hv with ⟨j,u,rfl,rfl⟩ | ⟨y,u,rfl,rfl⟩
   ·rw [yP2] at h;exact wpAny_eqBool_int h
   ·rw [xa0] at h;exact SeqAt.EqAt.int_str i t y u _ _ _ _ h
  ·rcases zh2 hv with ⟨j,u,rfl,rfl⟩ | ⟨y,u,rfl,rfl⟩
   ·rw [yP5] at h;exact SeqAt.EqAt.str_int x t j u _ _ _ _ h
   ·rw [yO3] at h;exact wpAny_eqBool_str h
 «strs»:=fun k x t v h=>by
  rcases zh2 h with ⟨i,u,rfl,e⟩ | ⟨y,u,rfl,e⟩
  ·exact nomatch e
  ·injection e with e1 _
   subst e1
   cases v <;> rfl
theorem zT2 (prog:Program) (w:World) (i:Int) (t:Tok):(zi6 prog w).is (.inl i) (.int i t)=true:=yf7 i t
theorem zU4 (prog:Program) (w:World) (x:Str) (t:Tok):(zi6 prog w).is (.inr x) (.str x t)=true:=yn8 x t
inductive V where
 | non | bl (b:Bool) | int (i:Int) | str (x:Str) | byt (b:Array UInt8) | flt (b:UInt64) | ref (a:Addr) | ty (n:String)
 deriving DecidableEq
def RelV:V→Value→Prop
 | .non,u=>u=Value.none
 | .bl b,u=>u=Value.bool b
 | .int i,u=>∃ t,u=Value.int i t
 | .str x,u=>∃ t,u=Value.str x t
 | .byt b,u=>∃ t,u=Value.bytes b t
 | .flt b,u=>∃ t,u=Value.float b t
 | .ref a,u=>u=Value.ref a
 | .ty n,u=>u=Value.type n
noncomputable abbrev zg6:List V→List Value→Prop:=Paired RelV
theorem zg6.length {xs:List V} {us:List Value} (r:zg6 xs us):xs.length=us.length:=Paired.length r
theorem zg6.get:∀ {xs:List V} {us:List Value} {i:Nat} {x:V},zg6 xs us→xs[i]?=some x→∃ u,us[i]?=some u∧RelV x u
 | _,_,_,_,.nil,e=>by simp at e
 | _,_,0,_,.cons r _,e=>by simp at e;subst e;exact ⟨_,rfl,r⟩
 | _,_,i+1,x,.cons _ t,e=>by
  obtain ⟨u,h1,h2⟩:=zg6.get (i:=i) (x:=x) t (by simpa using e)
  exact ⟨u,by simpa using h1,h2⟩
theorem zg6.set {x:V} {u:Value} (r:RelV x u):∀ {xs:List V} {us:List Value} (i:Nat),zg6 xs us→zg6 (xs.set i x) (us.set i u)
 | _,_,_,.nil=>.nil
 | _,_,0,.cons _ t=>.cons r t
 | _,_,i+1,.cons q t=>.cons q (zg6.set r i t)
theorem zg6.append:∀ {xs ys:List V} {us ws:List Value},zg6 xs us→zg6 ys ws→zg6 (xs++ys) (us++ws)
 | _,_,_,_,.nil,s=>s
 | _,_,_,_,.cons r t,s=>.cons r (zg6.append t s)
theorem zg6.take:∀ {xs:List V} {us:List Value} (n:Nat),zg6 xs us→zg6 (xs.take n) (us.take n)
 | _,_,0,_=>.nil
 | _,_,_+1,.nil=>.nil
 | _,_,n+1,.cons r t=>.cons r (zg6.take n t)
theorem zg6.drop:∀ {xs:List V} {us:List Value} (n:Nat),zg6 xs us→zg6 (xs.drop n) (us.drop n)
 | _,_,0,r=>r
 | _,_,_+1,.nil=>.nil
 | _,_,n+1,.cons _ t=>zg6.drop n t
def yj6:Option V→Option Value→Prop
 | some v,some u=>RelV v u
 | none,none=>True
 | _,_=>False
def KV {κ:Type}:List (κ×V)→List (κ×Value)→Prop:=Paired fun (p:κ×V) (q:κ×Value)=>p.1=q.1∧RelV p.2 q.2
noncomputable def kV:Key→V
 | .inl i=>.int i
 | .inr x=>.str x
inductive HO where
 /-- a list -/
 | lst (xs:List V)
 /-- a tuple (never changes) -/
 | tup (xs:List V)
 /-- a dict whose keys are ints and texts;one whose keys are tuples of ints and texts (the empty one is both) -/
 | dK (kvs:List (Key×V)) | dT (kvs:List (List Key×V))
 /-- a set of ints: its members,its size -/
 | set (S:Int→Bool) (n:Nat)
 /-- an instance of the class at C,its dict at dx,its attributes -/
 | ins (C dx:Addr) (fs:List (Str×V))
 /-- the dict of the instance at x -/
 | own (x:Addr)
 /-- the dict of an exception -/
 | xd (fs:List (Str×V))
 /-- a bound method,f of x -/
 | met (f x:Addr)
 /-- a range object lo,lo+1,.. below hi -/
 | rng (lo hi:Int)
 /-- a thing that is known to the object (the script;a dict while a loop walks it): read,never written while it is so -/
 | frz (o:Obj) (u:HO)
 /-- a code object's table -/
 | tbl (ps:Array Value)
 /-- any other thing,by what is true of its one object (a def of one's own: SetO a S n:=HO.ext fun h=>..) -/
 | ext (φ:Heap→Prop)
noncomputable abbrev Hp:=Addr→Option HO
noncomputable def upd (H:Hp) (a:Addr) (o:HO):Hp:=fun b=>if b=a then some o else H b
theorem zd7 {H:Hp} {a:Addr} {o:HO}:upd H a o a=some o:=by unfold upd;rw [if_pos rfl]
theorem ze3 {H:Hp} {a b:Addr} {o:HO} (h:b≠a):upd H a o b=H b:=by unfold upd;rw [if_neg h]
theorem xc9 {H:Hp} {a b:Addr} {o u:HO} (h:H a=some o) (h':H b=some u) (d:o≠u):a≠b:=by
 intro e;subst e;rw [h] at h';exact d (Option.some.inj h')
theorem zk8 {H:Hp} {a b:Addr} {o:HO} (h:H a=some o) (h':H b=none):a≠b:=by
 intro e;subst e;rw [h] at h';cases h'
def zC9 (h:Heap) (a:Addr) (its:Array Value):Prop:=∃ o,h.get? a=some o∧o.cls=.type "tuple" ∧ o.dict=none∧∃ n,o.data=.seq its n
theorem zC9.new (h:Heap) (its:Array Value):zC9 (h.push { cls:=.type "tuple", data:=.seq its }) h.objs.size its:=⟨_,Heap.get?_push_size _ rfl,rfl,rfl,_,rfl⟩
section
variable (P:Program) (w:World)
def zj6 (H:Hp) (h:Heap) (a:Addr):HO→Prop
 | .lst xs=>xs.length≤sizeLine∧∃ (its:List Value) (n:Nat),zg6 xs its∧h.get? a=some { cls:=.type "list", data:=.seq its.toArray n }
 | .tup xs=>xs.length≤sizeLine∧∃ its:List Value,zg6 xs its∧zC9 h a its.toArray
 | .dK kvs=>kvs.length≤sizeLine∧(a==sysModules)=false∧∃ vs,KV kvs vs∧h.DictOf (zi6 P w) a vs
 | .dT kvs=>kvs.length≤sizeLine∧(a==sysModules)=false∧∃ xs:List (List Key×Addr×Value),
   Paired (fun (p:List Key×V) (q:List Key×Addr×Value)=>p.1=q.1∧H q.2.1=some (.tup (p.1.map kV))∧RelV p.2 q.2.2) kvs xs ∧
   ∃ o es ep,h.get? a=some o∧o.ExactDict∧o.data=.dict es ep∧es.toList=xs.map (entryOfKey (tupleKind (zi6 P w)))∧(xs.map (·.1)).Nodup
 | .set S n=>h.SetOf (intKind P w) a S n
 | .ins C dx fs=>H dx=some (.own a)∧fs.length≤1000∧dx≠a∧h.get? a=some (PySem.W.instObj C dx) ∧
   ∃ mA,h.Ns1 dx mA∧(∀ f,yj6 (fs.lookup f) (mA f))∧PySem.Within mA (fs.map (·.1))
 | .own _=>∃ o,h.get? a=some o
 | .xd fs=>∃ mA,h.Ns1 a mA∧∀ f,yj6 (fs.lookup f) (mA f)
 | .rng lo hi=>∃ t u v,h.get? a=some { cls:=.type "range", data:=.fields #[.int lo t,.int hi u,.int 1 v] }
 | .frz o u=>h.get? a=some o∧zj6 H h a u
 | .tbl ps=>h.get? a=some { cls:=.none,data:=.fields ps }
 | .met f x=>h.get? a=some (PySem.W.methodObj (.ref f) (.ref x))
 | .ext φ=>φ h∧(∃ o,h.get? a=some o)∧∀ h1 h2:Heap,φ h1→(∀ o,h1.get? a=some o→h2.get? a=some o)→φ h2
def HOk (H:Hp) (h:Heap):Prop:=∀ a o,H a=some o→zj6 P w H h a o
end
section
variable {P:Program} {w:World} {H H':Hp} {h h':Heap} {a:Addr} {o:HO}
theorem zj6.lt (x:zj6 P w H h a o):a<h.objs.size:=by
 cases o with
 | lst xs=>obtain ⟨_,_,_,_,e⟩:=x;exact Heap.lt_size e
 | tup xs=>obtain ⟨_,_,_,_,e,_⟩:=x;exact Heap.lt_size e
 | dK kvs=>obtain ⟨_,_,_,_,o,_,_,e,_⟩:=x;exact Heap.lt_size e
 | dT kvs=>obtain ⟨_,_,_,_,o,_,_,e,_⟩:=x;exact Heap.lt_size e
 | set S n=>obtain ⟨o,_,_,_,e,_⟩:=x;exact Heap.lt_size e
 | ins C dx fs=>obtain ⟨_,_,_,e,_⟩:=x;exact Heap.lt_size e
 | own y=>obtain ⟨_,e⟩:=x;exact Heap.lt_size e
 | xd fs=>obtain ⟨_,⟨_,_,_,e,_⟩,_⟩:=x;exact Heap.lt_size e
 | rng lo hi=>obtain ⟨_,_,_,e⟩:=x;exact Heap.lt_size e
 | frz ob u=>obtain ⟨e,_⟩:=x;exact Heap.lt_size e
 | tbl ps=>exact Heap.lt_size (show h.get? a=some _ from x)
 | met f y=>exact Heap.lt_size (show h.get? a=some _ from x)
 | ext φ=>obtain ⟨_,⟨_,e⟩,_⟩:=x;exact Heap.lt_size e
theorem Paired.mapP {α β:Type} {F G:α→β→Prop}:∀ {l₁:List α} {l₂:List β},Paired F l₁ l₂→(∀ a b,F a b→G a b)→Paired G l₁ l₂
 | _,_,.nil,_=>.nil
 | _,_,.cons r t,f=>.cons (f _ _ r) (Paired.mapP t f)
theorem zj6.stay (x:zj6 P w H h a o) (k:∀ b u,(b=a∨H b=some (.own a))→h.get? b=some u→h'.get? b=some u)
  (ho:∀ b,H b=some (.own a)→H' b=some (.own a)) (ht:∀ b xs,H b=some (.tup xs)→H' b=some (.tup xs)):zj6 P w H' h' a o:=by
 induction o with
 | lst xs=>obtain ⟨z,its,n,r,e⟩:=x;exact ⟨z,its,n,r,k _ _ (.inl rfl) e⟩
 | tup xs=>obtain ⟨z,its,r,ob,e,c⟩:=x;exact ⟨z,its,r,ob,k _ _ (.inl rfl) e,c⟩
 | dK kvs=>obtain ⟨z,y,vs,r,ob,es,ep,e,c⟩:=x;exact ⟨z,y,vs,r,ob,es,ep,k _ _ (.inl rfl) e,c⟩
 | dT kvs =>
  obtain ⟨z,y,xs,r,ob,es,ep,e,c⟩:=x
  exact ⟨z,y,xs,Paired.mapP r fun p q z=>⟨z.1,ht _ _ z.2.1,z.2.2⟩,ob,es,ep,k _ _ (.inl rfl) e,c⟩
 | set S n=>obtain ⟨ob,es,ep,t,e,c⟩:=x;exact ⟨ob,es,ep,t,k _ _ (.inl rfl) e,c⟩
 | ins C dx fs =>
  obtain ⟨d,z,ne,e,mA,⟨od,es,ep,e2,c⟩,r⟩:=x
  exact ⟨ho _ d,z,ne,k _ _ (.inl rfl) e,mA,⟨od,es,ep,k _ _ (.inr d) e2,c⟩,r⟩
 | own y=>obtain ⟨ob,e⟩:=x;exact ⟨ob,k _ _ (.inl rfl) e⟩
 | xd fs=>obtain ⟨mA,⟨od,es,ep,e,c⟩,r⟩:=x;exact ⟨mA,⟨od,es,ep,k _ _ (.inl rfl) e,c⟩,r⟩
 | rng lo hi=>obtain ⟨t,u,v,e⟩:=x;exact ⟨t,u,v,k _ _ (.inl rfl) e⟩
 | frz ob u ih=>obtain ⟨e,q⟩:=x;exact ⟨k _ _ (.inl rfl) e,ih q⟩
 | tbl ps =>
  have e:h.get? a=some { cls:=.none,data:=.fields ps }:=x
  show h'.get? a=some { cls:=.none,data:=.fields ps }
  exact k a _ (.inl rfl) e
 | met f y =>
  have e:h.get? a=some (PySem.W.methodObj (.ref f) (.ref y)):=x
  show h'.get? a=some (PySem.W.methodObj (.ref f) (.ref y))
  exact k a _ (.inl rfl) e
 | ext φ=>obtain ⟨p,⟨o,e⟩,st⟩:=x;exact ⟨st _ _ p fun o q=>k _ _ (.inl rfl) q,⟨o,k _ _ (.inl rfl) e⟩,st⟩
theorem HOk.lt (x:HOk P w H h) (e:H a=some o):a<h.objs.size:=(x a o e).lt
theorem HOk.fresh (x:HOk P w H h) (e:h.objs.size≤a):H a=none:=by
 cases q:H a with
 | none=>rfl
 | some u=>exact absurd (Nat.lt_of_lt_of_le (x.lt q) e) (Nat.lt_irrefl _)
theorem HOk.kept (x:HOk P w H h) (k:∀ b u,h.get? b=some u→h'.get? b=some u):HOk P w H h':=fun a o e =>
 (x a o e).stay (fun b u _ q=>k b u q) (fun _ q=>q) fun _ _ q=>q
theorem HOk.laid (x:HOk P w H h) (k:∀ b u,h.get? b=some u→h'.get? b=some u) (hp:h.objs.size≤a) (new:zj6 P w (upd H a o) h' a o):HOk P w (upd H a o) h':=fun b u e=>by
 have hn:=x.fresh hp
 by_cases hb:b=a
 ·subst hb;rw [zd7] at e;cases e;exact new
 ·rw [ze3 hb] at e
  exact (x b u e).stay (fun c v _ q=>k c v q) (fun c q=>by rw [ze3 (zk8 q hn)];exact q) fun c xs q=>by rw [ze3 (zk8 q hn)];exact q
end
def Rd (H:Hp) (a:Addr) (u:HO):Prop:=H a=some u∨∃ o,H a=some (.frz o u)
theorem Rd.ok {P:Program} {w:World} {H:Hp} {h:Heap} {a:Addr} {u:HO} (r:Rd H a u) (x:HOk P w H h):zj6 P w H h a u:=by
 rcases r with r | ⟨o,r⟩
 ·exact x a u r
 ·obtain ⟨_,q⟩:=x a _ r
  exact q
def Mut:Option HO→Prop
 | some (.lst _)=>True
 | some (.dK _)=>True
 | some (.dT _)=>True
 | some (.set _ _)=>True
 | some (.ins _ _ _)=>True
 | some (.ext _)=>True
 | _=>False
section
variable {P:Program} {w:World} {H:Hp} {h h':Heap} {x e:Addr} {o':HO}
theorem HOk.write (ok:HOk P w H h) (mu:Mut (H x)) (he:e=x∨H e=some (.own x)) (k:∀ b u,b≠e→h.get? b=some u→h'.get? b=some u) (heo:∃ u,h'.get? e=some u)
  (new:zj6 P w (upd H x o') h' x o'):HOk P w (upd H x o') h':=fun b u q=>by
 have nown:∀ c y,H c=some (.own y)→c≠x:=fun c y r z=>by subst z;rw [r] at mu;exact mu
 have ntup:∀ c xs,H c=some (.tup xs)→c≠x:=fun c xs r z=>by subst z;rw [r] at mu;exact mu
 by_cases hb:b=x
 ·subst hb;rw [zd7] at q;cases q;exact new
 ·rw [ze3 hb] at q
  by_cases hbe:b=e
  ·have q':H b=some (.own x):=by
    rcases he with z | z
    ·exact absurd (hbe.trans z) hb
    ·rw [hbe];exact z
   rw [q] at q';cases q'
   obtain ⟨v,hv⟩:=heo
   exact ⟨v,by rw [hbe];exact hv⟩
  ·refine (ok b u q).stay (fun c v hc r=>k c v ?_ r) (fun c r=>by rw [ze3 (nown c b r)];exact r) fun c xs r=>by rw [ze3 (ntup c xs r)];exact r
   rcases hc with rfl | hc
   ·exact hbe
   ·rintro rfl
    rcases he with z | z
    ·exact nown c b hc z
    ·rw [hc] at z;cases z;exact hb rfl
end
structure Un (fs ex:List Addr) (H H':Hp) (h h':Heap):Prop where
 keep:∀ b o,h.get? b=some o→H b=none→b∉fs→b∉ex→h'.get? b=some o
 slot:∀ b o,h.get? b=some o→H b=none→b∈fs→b∉ex→∃ sl,h'.get? b=some { o with slots:=sl }
 free:∀ b o,h.get? b=some o→H b=none→b∉ex→H' b=none
 there:∀ b o,h.get? b=some o→b∉ex→∃ o',h'.get? b=some o'
 tups:∀ b xs,H b=some (.tup xs)→H' b=some (.tup xs)
 frzs:∀ b o u,H b=some (.frz o u)→H' b=some (.frz o u)
 tbls:∀ b ps,H b=some (.tbl ps)→∃ more,H' b=some (.tbl (ps++more))
section
variable {fs fs' ex ex':List Addr} {H H1 H2:Hp} {h h1 h2 h':Heap} {a x e:Addr} {o:HO}
theorem Un.any (u:Un fs ex H H1 h h1) {b:Addr} {ob:Obj} (q:h.get? b=some ob) (n:H b=none) (hx:b∉ex):∃ sl,h1.get? b=some { ob with slots:=sl }:=by
 by_cases hb:b∈fs
 ·exact u.slot b ob q n hb hx
 ·exact ⟨ob.slots,u.keep b ob q n hb hx⟩
theorem Un.kept (k:∀ b u,h.get? b=some u→h'.get? b=some u):Un fs ex H H h h' :=
 ⟨fun b ob q _ _ _=>k b ob q,fun b ob q _ _ _=>⟨ob.slots,k b ob q⟩,fun _ _ _ n _=>n,fun b ob q _=>⟨ob,k b ob q⟩,fun _ _ q=>q,fun _ _ _ q=>q,fun _ ps q=>⟨#[],by rw [q];simp⟩⟩
theorem Un.refl:Un fs ex H H h h:=Un.kept fun _ _ q=>q
theorem Un.laid (k:∀ b u,h.get? b=some u→h'.get? b=some u) (hp:h.objs.size≤a) (hn:H a=none):Un fs ex H (upd H a o) h h' where
 keep:=fun b u q _ _ _=>k b u q
 slot:=fun b u q _ _ _=>⟨u.slots,k b u q⟩
 free:=fun b u q n _=>by rw [ze3 (Nat.ne_of_lt (Nat.lt_of_lt_of_le (Heap.lt_size q) hp))];exact n
 there:=fun b u q _=>⟨u,k b u q⟩
 tups:=fun b xs q=>by rw [ze3 (zk8 q hn)];exact q
 frzs:=fun b u xs q=>by rw [ze3 (zk8 q hn)];exact q
 tbls:=fun b ps q=>⟨#[],by rw [ze3 (zk8 q hn),q];simp⟩
theorem Un.write (mu:Mut (H x)) (he:e=x∨H e=some (.own x)) (k:∀ b u,b≠e→h.get? b=some u→h'.get? b=some u) (heo:∃ u,h'.get? e=some u):Un fs ex H (upd H x o) h h':=by
 have hx:∀ b,H b=none→b≠x:=fun b n z=>by subst z;rw [n] at mu;exact mu
 have hb:∀ b,H b=none→b≠e:=fun b n z=>by
  subst z
  rcases he with r | r
  ·exact hx b n r
  ·rw [n] at r;cases r
 have hm:∀ b u,H b=some u→¬ Mut (some u)→b≠x:=fun b u q nm z=>by subst z;rw [q] at mu;exact nm mu
 refine ⟨fun b u q n _ _=>k b u (hb b n) q,fun b u q n _ _=>⟨u.slots,k b u (hb b n) q⟩,fun b u q n _=>by rw [ze3 (hx b n)];exact n,fun b u q _=>?_,
  fun b xs q=>by rw [ze3 (hm b _ q fun z=>z)];exact q,fun b u xs q=>by rw [ze3 (hm b _ q fun z=>z)];exact q,fun b ps q=>⟨#[],by rw [ze3 (hm b _ q fun z=>z),q];simp⟩⟩
 by_cases hbe:b=e
 ·subst hbe;exact heo
 ·exact ⟨u,k b u hbe q⟩
end
noncomputable def trk (h:Heap) (H:Hp):List Addr:=(List.range h.objs.size).filter fun a=>(H a).isSome
noncomputable def yx5 (h:Heap) (H:Hp):Heap:=PySem.W.hideAll h (trk h H)
theorem yp3 (h:Heap) (H:Hp):(yx5 h H).objs.size=h.objs.size:=PySem.W.hideAll_size _ _
theorem yt7 {h:Heap} {H:Hp} {b:Addr} {o:Obj} (e:h.get? b=some o) (n:H b=none):(yx5 h H).get? b=some o :=
 PySem.W.hideAll_get _ e fun hm=>by
  have q:(H b).isSome=true:=(List.mem_filter.mp hm).2
  rw [n] at q;simp at q
theorem yF3 {h:Heap} {H:Hp} {b:Addr} {o:Obj} (e:(yx5 h H).get? b=some o):h.get? b=some o∧H b=none:=by
 have e':h.get? b=some o:=PySem.W.of_hideAll (trk h H) e
 refine ⟨e',?_⟩
 cases q:H b with
 | none=>rfl
 | some x =>
  have hm:b∈trk h H:=List.mem_filter.mpr ⟨List.mem_range.mpr (Heap.lt_size e'),by simp [q]⟩
  have z:(yx5 h H).get? b=none:=PySem.W.hideAll_none (trk h H) hm
  rw [z] at e;cases e
noncomputable def yH9 (g h:Heap) (L:Addr):List (Addr×Obj):=(List.range h.objs.size).filterMap fun a=>if a=L∨(g.get? a).isSome=true then none else (h.get? a).map fun o=>(a,o)
noncomputable def zp6 (g h:Heap) (L d:Addr):List (Addr×Obj):=(yH9 g h L).filter fun p=>decide (p.1≠d)
structure Mod (K:Frag) (mg:Str→Option Value) (base:Heap):Prop where
 kin:K.In base
 glob:base.Ns mainGlobals mg
 blt:∃ mb,base.Ns builtinsNs mb∧∀ x:Str,x ≠ "__name__" → mb x=bootBuiltins x
 nolimit:base.NoLimit
structure Cx where
 prog:Program
 w:World
 K:Frag
 mg:Str→Option Value
 base:Heap
 A:Around
 N:List Str
 s₀:Shared
 H₀:Hp
 env:Env
 outer:List Env
 stack:List Env
 ex:List Addr
 fn:Str→Bool
 calm:Bool
 pn:List (Addr×Obj)
 xe:Value→Shared→Prop
noncomputable def frs (l:List Env):List Addr:=l.filterMap (·.frame)
noncomputable abbrev Cx.fs (X:Cx):List Addr:=frs X.outer
def Vis (sc:Scope) (x:Str):Prop:=sc.names.lookup x=some .local∨sc.names.lookup x=some .cell∨sc.names.lookup x=some .free
def Loc (sc:Scope) (x:Str):Prop:=sc.names.lookup x=some .local∨sc.names.lookup x=some .cell
def Look (env:Env) (h:Heap) (m:Str→Option Value) (x:Str) (u:Value):Prop :=
 (env.kindOf x=some .local∧m x=some u)∨((env.kindOf x=some .cell∨env.kindOf x=some .free)∧∃ c,env.cells.lookup x=some c∧h.IsCell c (some u))
structure Cx.Ok (X:Cx):Prop where
 mod:Mod X.K X.mg X.base
 kind:X.env.scope.kind=.function
 glob:X.env.globals=mainGlobals
 blt:X.env.builtins=builtinsNs
 above:X.s₀.heap.objs.size≤X.env.locals
 inj:∀ x y c,X.env.cells.lookup x=some c→X.env.cells.lookup y=some c→x=y
 has:∀ x,(X.env.kindOf x=some .cell∨X.env.kindOf x=some .free)→∃ c,X.env.cells.lookup x=some c
 cab:∀ x c,X.fn x=true→X.env.cells.lookup x=some c→X.s₀.heap.objs.size≤c
 hd:X.calm=true→X.A.handled=none
 frames:X.A.frames=some X.stack
 stk:X.stack=X.outer∨(X.stack=X.env::X.outer∧X.env.frame=some X.env.locals)
 exf:∀ b∈X.ex,b≠X.env.locals∧∀ x c,X.env.cells.lookup x=some c→c≠b
 bs:∀ b o,X.base.get? b=some o→X.s₀.heap.get? b=some o∧X.H₀ b=none
 bsz:X.base.objs.size≤X.s₀.heap.objs.size
 noex:∀ b o,X.base.get? b=some o→b∉X.ex
 exfs:∀ b∈X.ex,b∉X.fs
 funs:X.s₀.heap.FunFrames X.base X.outer
 frf:∀ b∈X.fs,X.H₀ b=none
structure Inv (X:Cx) (pins:List (Addr×Obj)) (σ:List (Option V)) (H:Hp) (s:Shared):Prop where
 ok:X.Ok
 os:s.os=X.s₀.os
 bare:AllBare s.gens
 base:Un X.fs X.ex X.H₀ H X.s₀.heap s.heap
 loc:∃ m,s.heap.Ns X.env.locals m∧∀ (i:Nat) (x:Str) (v:V),X.N[i]?=some x→σ[i]?=some (some v)→Vis X.env.scope x→∃ u,RelV v u∧Look X.env s.heap m x u
 cell:∀ x c,X.env.cells.lookup x=some c→∃ v,s.heap.IsCell c v
 free:H X.env.locals=none
 freeC:∀ x c,X.env.cells.lookup x=some c→H c=none
 pin:∀ p∈X.pn++pins,s.heap.get? p.1=some p.2∧H p.1=none∧p.1≠X.env.locals∧p.1∉X.fs∧∀ v,p.2.data≠.cell v
 hok:HOk X.prog X.w H s.heap
 len:σ.length=X.N.length
section
variable {X:Cx} {pins:List (Addr×Obj)} {σ:List (Option V)} {H H':Hp} {s:Shared} {h':Heap}
theorem Cx.Ok.nofr (ok:X.Ok) {b:Addr} {o:Obj} (e:X.base.get? b=some o):b∉X.fs:=fun hb=>by
 have:=(ok.funs.mem hb).1
 rw [e] at this;cases this
theorem Inv.bs (I:Inv X pins σ H s):∀ b o,X.base.get? b=some o→s.heap.get? b=some o∧H b=none:=fun b o e =>
 ⟨I.base.keep b o (I.ok.bs b o e).1 (I.ok.bs b o e).2 (I.ok.nofr e) (I.ok.noex b o e),I.base.free b o (I.ok.bs b o e).1 (I.ok.bs b o e).2 (I.ok.noex b o e)⟩
theorem Inv.bk (I:Inv X pins σ H s):∀ b o,X.base.get? b=some o→s.heap.get? b=some o:=fun b o e=>(I.bs b o e).1
theorem Inv.mod (I:Inv X pins σ H s):Mod X.K X.mg X.base:=I.ok.mod
theorem Inv.kIn (I:Inv X pins σ H s):X.K.In s.heap:=I.ok.mod.kin.keeps I.bk
theorem Inv.lt (I:Inv X pins σ H s):X.env.locals<s.heap.objs.size:=let ⟨_,hn,_⟩:=I.loc;hn.lt
theorem Inv.sz (I:Inv X pins σ H s):X.s₀.heap.objs.size≤s.heap.objs.size:=Nat.le_trans I.ok.above (Nat.le_of_lt I.lt)
theorem Inv.nofs (I:Inv X pins σ H s) {a:Addr} (h:s.heap.objs.size≤a):a∉X.fs:=fun hb=>by
 obtain ⟨_,o,ho,_⟩:=I.ok.funs.mem hb
 exact absurd (Nat.lt_of_lt_of_le (Heap.lt_size ho) (Nat.le_trans I.sz h)) (Nat.lt_irrefl _)
theorem Inv.cne (I:Inv X pins σ H s):∀ x c,X.env.cells.lookup x=some c→c≠X.env.locals:=fun x c e z=>by
 obtain ⟨v,o,ho,hd⟩:=I.cell x c e
 obtain ⟨m,⟨o',es,ep,ho',hd',_⟩,_⟩:=I.loc
 rw [z,ho'] at ho;cases ho;rw [hd'] at hd;cases hd
theorem Inv.funs (I:Inv X pins σ H s):s.heap.FunFrames X.base X.outer:=by
 have all:∀ (l:List Env),(∀ b∈frs l,b∈X.fs)→X.s₀.heap.FunFrames X.base l→s.heap.FunFrames X.base l:=by
  intro l
  induction l with
  | nil=>intro _ _;trivial
  | cons env r ih =>
   intro hs hl
   obtain ⟨hk,⟨L,o,hf,hn,ho,hd⟩,hr⟩:=hl
   have hL:L∈X.fs:=hs L (by unfold frs;rw [List.filterMap_cons,hf];exact List.mem_cons_self)
   obtain ⟨sl,e⟩:=I.base.slot L o ho (I.ok.frf L hL) hL fun z=>I.ok.exfs L z hL
   exact ⟨hk,⟨L,_,hf,hn,e,hd⟩,ih (fun b hb=>hs b (by unfold frs;rw [List.filterMap_cons,hf];exact List.mem_cons_of_mem _ hb)) hr⟩
 exact all X.outer (fun _ hb=>hb) I.ok.funs
theorem Inv.stack (I:Inv X pins σ H s):s.heap.FunFrames X.base X.stack:=by
 rcases I.ok.stk with e | ⟨e,hf⟩
 ·rw [e];exact I.funs
 ·rw [e]
  obtain ⟨m,hn,_⟩:=I.loc
  refine .cons (by rw [I.ok.kind];decide) hf hn ?_ I.funs
  exact Heap.get?_none_of_le (Nat.le_trans I.ok.bsz I.ok.above)
theorem Inv.stkSub (I:Inv X pins σ H s):∀ b∈frs X.stack,b∈X.env.locals::X.fs:=fun b hb=>by
 rcases I.ok.stk with e | ⟨e,hf⟩
 ·rw [e] at hb;exact List.mem_cons_of_mem _ hb
 ·rw [e] at hb
  unfold frs at hb
  rw [List.filterMap_cons,hf] at hb
  exact hb
theorem Inv.stkFree (I:Inv X pins σ H s):∀ b∈frs X.stack,H b=none:=fun b hb=>by
 rcases List.mem_cons.mp (I.stkSub b hb) with e | hb
 ·rw [e];exact I.free
 ·obtain ⟨_,o,ho,_⟩:=I.ok.funs.mem hb
  exact I.base.free b o ho (I.ok.frf b hb) fun z=>I.ok.exfs b z hb
theorem Inv.step {g':Array GenState} {t':Nat} {d':Drawn} {ch:List Addr} (I:Inv X pins σ H s)
  (hch:∀ b∈ch,(b∈X.ex∨X.s₀.heap.objs.size≤b)∧b≠X.env.locals∧(∀ x c,X.env.cells.lookup x=some c→c≠b)∧∀ p∈X.pn++pins,p.1≠b)
  (keep:∀ b o,b≠X.env.locals→b∉X.fs→b∉ch→s.heap.get? b=some o→H b=none→h'.get? b=some o)
  (slot:∀ b o,b≠X.env.locals→b∈X.fs→b∉ch→s.heap.get? b=some o→H b=none→∃ sl,h'.get? b=some { o with slots:=sl }) (free:∀ b o,b∉ch→s.heap.get? b=some o→H b=none→H' b=none)
  (there:∀ b o,b∉ch→s.heap.get? b=some o→∃ o',h'.get? b=some o')
  (tups:∀ b xs,H b=some (.tup xs)→H' b=some (.tup xs)) (frzs:∀ b o u,H b=some (.frz o u)→H' b=some (.frz o u)) (tbls:∀ b ps,H b=some (.tbl ps)→∃ more,H' b=some (.tbl (ps++more)))
  (ns:∀ m,s.heap.Ns X.env.locals m→h'.Ns X.env.locals m) (hok:HOk X.prog X.w H' h') (hg:AllBare g') :
  Inv X pins σ H' { s with heap:=h',gens:=g',drawn:=d',toks:=t' }:=by
 have neL:∀ b o,X.s₀.heap.get? b=some o→b≠X.env.locals:=fun b o e=>Nat.ne_of_lt (Nat.lt_of_lt_of_le (Heap.lt_size e) I.ok.above)
 have neC:∀ b o,X.s₀.heap.get? b=some o→b∉X.ex→b∉ch:=fun b o e hx hb=>by
  rcases (hch b hb).1 with z | z
  ·exact hx z
  ·exact absurd (Nat.lt_of_lt_of_le (Heap.lt_size e) z) (Nat.lt_irrefl _)
 have cellK:∀ x c,X.env.cells.lookup x=some c→∀ v,s.heap.IsCell c v→h'.IsCell c v:=fun x c e v ⟨o,ho,hd⟩=>by
  have nch:c∉ch:=fun z=>(hch c z).2.2.1 x c e rfl
  by_cases hc:c∈X.fs
  ·obtain ⟨sl,q⟩:=slot c o (I.cne x c e) hc nch ho (I.freeC x c e)
   exact ⟨_,q,hd⟩
  ·exact ⟨o,keep c o (I.cne x c e) hc nch ho (I.freeC x c e),hd⟩
 refine ⟨I.ok,I.os,hg,⟨fun b o e n hb hx=>?_,fun b o e n hb hx=>?_,fun b o e n hx=>?_,fun b o e hx=>?_,fun b xs e=>tups b xs (I.base.tups b xs e),fun b o xs e=>frzs b o xs (I.base.frzs b o xs e),fun b ps e=>?_⟩,?_,fun x c e=>?_,?_,fun x c e=>?_,fun p hp=>?_,hok,I.len⟩
 ·exact keep b o (neL b o e) hb (neC b o e hx) (I.base.keep b o e n hb hx) (I.base.free b o e n hx)
 ·obtain ⟨sl,e1⟩:=I.base.slot b o e n hb hx
  obtain ⟨sl',e2⟩:=slot b _ (neL b o e) hb (neC b o e hx) e1 (I.base.free b o e n hx)
  exact ⟨sl',e2⟩
 ·obtain ⟨o',e1⟩:=I.base.there b o e hx
  exact free b o' (neC b o e hx) e1 (I.base.free b o e n hx)
 ·obtain ⟨o',e1⟩:=I.base.there b o e hx
  exact there b o' (neC b o e hx) e1
 ·obtain ⟨m1,e1⟩:=I.base.tbls b ps e
  obtain ⟨m2,e2⟩:=tbls b _ e1
  exact ⟨m1++m2,by rw [e2,Array.append_assoc]⟩
 ·obtain ⟨m,hn,hl⟩:=I.loc
  refine ⟨m,ns m hn,fun i x v e1 e2 e3=>?_⟩
  obtain ⟨u,r,l⟩:=hl i x v e1 e2 e3
  refine ⟨u,r,?_⟩
  rcases l with l | ⟨k,c,e,z⟩
  ·exact .inl l
  ·exact .inr ⟨k,c,e,cellK x c e _ z⟩
 ·obtain ⟨v,z⟩:=I.cell x c e
  exact ⟨v,cellK x c e v z⟩
 ·obtain ⟨m,⟨o,_,_,ho,_⟩,_⟩:=I.loc
  exact free _ o (fun z=>(hch _ z).2.1 rfl) ho I.free
 ·obtain ⟨v,o,ho,hd⟩:=I.cell x c e
  exact free c o (fun z=>(hch c z).2.2.1 x c e rfl) ho (I.freeC x c e)
 ·obtain ⟨e,n,ne,nf,d⟩:=I.pin p hp
  have nch:p.1∉ch:=fun z=>(hch p.1 z).2.2.2 p hp rfl
  exact ⟨keep p.1 p.2 ne nf nch e n,free p.1 p.2 nch e n,ne,nf,d⟩
theorem Inv.un {t':Nat} (I:Inv X pins σ H s) (u:Un X.fs [] H H' s.heap h') (hok:HOk X.prog X.w H' h'):Inv X pins σ H' { s with heap:=h',toks:=t' }:=by
 obtain ⟨m,⟨o,es,ep,ho,r⟩,_⟩:=id I.loc
 obtain ⟨sl,hL⟩:=u.any ho I.free (by simp)
 exact I.step (g':=s.gens) (d':=s.drawn) (ch:=[]) (fun _ z=>nomatch z) (fun b o _ hb _ e n=>u.keep b o e n hb (by simp)) (fun b o _ hb _ e n=>u.slot b o e n hb (by simp)) (fun b o _ e n=>u.free b o e n (by simp)) (fun b o _ e=>u.there b o e (by simp)) u.tups u.frzs u.tbls (fun m' hm=>by
  obtain ⟨o',es',ep',ho',r'⟩:=hm
  rw [ho] at ho';cases ho'
  exact ⟨_,es',ep',hL,r'⟩) hok I.bare
theorem Inv.call {g':Array GenState} {t':Nat} {d':Drawn} {ch:List Addr} (I:Inv X pins σ H s) (u:Un (frs X.stack) ch H H' s.heap h') (hok:HOk X.prog X.w H' h') (hg:AllBare g')
  (hch:∀ b∈ch,(b∈X.ex∨X.s₀.heap.objs.size≤b)∧b≠X.env.locals∧(∀ x c,X.env.cells.lookup x=some c→c≠b)∧∀ p∈X.pn++pins,p.1≠b) :
  Inv X pins σ H' { s with heap:=h',gens:=g',drawn:=d',toks:=t' }:=by
 obtain ⟨m,⟨o,es,ep,ho,r⟩,_⟩:=id I.loc
 obtain ⟨sl,hL⟩:=u.any ho I.free fun z=>(hch _ z).2.1 rfl
 exact I.step (ch:=ch) hch (fun b o hL hb hc e n=>u.keep b o e n (fun z=>(List.mem_cons.mp (I.stkSub b z)).elim hL hb) hc) (fun b o _ _ hc e n=>u.any e n hc) (fun b o hc e n=>u.free b o e n hc) (fun b o hc e=>u.there b o e hc) u.tups u.frzs u.tbls (fun m' hm=>by
  obtain ⟨o',es',ep',ho',r'⟩:=hm
  rw [ho] at ho';cases ho'
  exact ⟨_,es',ep',hL,r'⟩) hok hg
theorem Inv.turned {t':Nat} {it:Addr} (I:Inv X pins σ H s) (k:∀ b o,b≠it→s.heap.get? b=some o→h'.get? b=some o) (hn:H it=none) (hL:it≠X.env.locals)
  (h1:it∈X.ex∨X.s₀.heap.objs.size≤it) (h2:∀ x c,X.env.cells.lookup x=some c→c≠it) (h3:∀ p∈X.pn++pins,p.1≠it):Inv X pins σ H { s with heap:=h',toks:=t' }:=by
 have nit:∀ b u,H b=some u→b≠it:=fun b u e z=>by rw [z,hn] at e;cases e
 refine I.step (g':=s.gens) (d':=s.drawn) (ch:=[it]) (fun b hb=>?_) (fun b o _ _ hc e _=>k b o (fun z=>hc (by simp [z])) e) (fun b o _ _ hc e _=>⟨o.slots,k b o (fun z=>hc (by simp [z])) e⟩) (fun _ _ _ _ n=>n)
  (fun b o hc e=>⟨o,k b o (fun z=>hc (by simp [z])) e⟩) (fun _ _ e=>e) (fun _ _ _ e=>e) (fun b ps e=>⟨#[],by rw [e];simp⟩) (fun m hm=>?_) (fun b u e=>?_) I.bare
 ·have e:b=it:=by simpa using hb
  subst e
  exact ⟨h1,hL,h2,h3⟩
 ·obtain ⟨o,es,ep,ho,r⟩:=hm
  exact ⟨o,es,ep,k _ o (Ne.symm hL) ho,r⟩
 ·refine (I.hok b u e).stay (fun c v hc q=>k c v ?_ q) (fun _ q=>q) fun _ _ q=>q
  rcases hc with z | z
  ·rw [z];exact nit b u e
  ·exact nit c _ z
theorem Inv.tok (I:Inv X pins σ H s) (t:Nat):Inv X pins σ H { s with toks:=t }:=I.un (h':=s.heap) (t':=t) Un.refl I.hok
theorem Inv.kept {t':Nat} (I:Inv X pins σ H s) (k:∀ b u,s.heap.get? b=some u→h'.get? b=some u):Inv X pins σ H { s with heap:=h',toks:=t' }:=I.un (Un.kept k) (I.hok.kept k)
theorem Inv.laid {a:Addr} {o:HO} {t':Nat} (I:Inv X pins σ H s) (k:∀ b u,s.heap.get? b=some u→h'.get? b=some u) (hp:s.heap.objs.size≤a) (new:zj6 X.prog X.w (upd H a o) h' a o) :
  Inv X pins σ (upd H a o) { s with heap:=h',toks:=t' }:=I.un (Un.laid k hp (I.hok.fresh hp)) (I.hok.laid k hp new)
theorem Inv.write {x e:Addr} {o:HO} {t':Nat} (I:Inv X pins σ H s) (mu:Mut (H x)) (he:e=x∨H e=some (.own x)) (k:∀ b u,b≠e→s.heap.get? b=some u→h'.get? b=some u) (heo:∃ u,h'.get? e=some u)
  (new:zj6 X.prog X.w (upd H x o) h' x o):Inv X pins σ (upd H x o) { s with heap:=h',toks:=t' }:=I.un (Un.write mu he k heo) (I.hok.write mu he k heo new)
theorem Inv.pins_of {pins':List (Addr×Obj)} (I:Inv X pins σ H s) (h:∀ p∈pins',s.heap.get? p.1=some p.2∧H p.1=none∧p.1≠X.env.locals∧p.1∉X.fs∧∀ v,p.2.data≠.cell v):Inv X pins' σ H s :=
 ⟨I.ok,I.os,I.bare,I.base,I.loc,I.cell,I.free,I.freeC,fun p hp=>(List.mem_append.mp hp).elim (fun z=>I.pin p (List.mem_append_left _ z)) (h p),I.hok,I.len⟩
theorem zW9 {N:List Str} (hN:N.Nodup) {i j:Nat} {x:Str} (a:N[i]?=some x) (b:N[j]?=some x):i=j:=by
 obtain ⟨h1,e1⟩:=List.getElem?_eq_some_iff.mp a
 obtain ⟨h2,e2⟩:=List.getElem?_eq_some_iff.mp b
 exact (List.getElem_inj hN).mp (e1.trans e2.symm)
theorem zQ6 {M:Model} {A:Around} {E:Value→Shared→Prop} {i:Nat} {x:Str} {v:V} {u:Value} {Q:Unit→Shared→Prop} (I:Inv X pins σ H s) (hN:X.N.Nodup) (hi:X.N[i]?=some x) (hx:Loc X.env.scope x) (r:RelV v u)
  (h:∀ s',Inv X pins (σ.set i (some v)) H s'→(∃ a,Heap.SameBut a s.heap s'.heap∧(a=X.env.locals∨X.env.cells.lookup x=some a))→Q () s') (hf:X.fn x=true∨X.env.scope.names.lookup x=some .local):wpAny M A (storeName X.env x u) Q E s:=by
 obtain ⟨m,hn,hl⟩:=id I.loc
 have hcls:(X.env.scope.kind == .class || (X.env.scope.kind == .module&&X.env.locals != X.env.globals))=false:=by rw [I.ok.kind];rfl
 have hiσ:i<σ.length:=by rw [I.len];exact (List.getElem?_eq_some_iff.mp hi).1
 have cne:=I.cne
 have tracked:∀ {a:Addr} {h':Heap},(∃ o,s.heap.get? a=some o∧H a=none)→Heap.SameBut a s.heap h'→HOk X.prog X.w H h':=fun {a h'} ha hs b ob e=>by
  obtain ⟨_,_,hfree⟩:=ha
  refine (I.hok b ob e).stay (fun c w' hc q=>(hs.2 c ?_).trans q) (fun _ q=>q) fun _ _ q=>q
  rintro rfl
  rcases hc with rfl | hc
  ·rw [hfree] at e;cases e
  ·rw [hfree] at hc;cases hc
 rcases hx with hk | hk
 ·refine wpAny_storeName_local hk hn (fun h' hn' hs=>?_) hcls
  obtain ⟨oL,_,_,hoL,_⟩:=id hn
  refine h _ ⟨I.ok,I.os,I.bare,⟨fun b o e n hb hx=>?_,fun b o e n hb hx=>?_,I.base.free,fun b o e hx=>?_,I.base.tups,I.base.frzs,I.base.tbls⟩,⟨_,hn',fun j y v' e1 e2 e3=>?_⟩,fun y c e=>?_,I.free,I.freeC,fun p hp=>?_,tracked ⟨oL,hoL,I.free⟩ hs,by simpa using I.len⟩ ⟨_,hs,.inl rfl⟩
  ·exact (hs.2 b (Nat.ne_of_lt (Nat.lt_of_lt_of_le (Heap.lt_size e) I.ok.above))).trans (I.base.keep b o e n hb hx)
  ·obtain ⟨sl,e1⟩:=I.base.slot b o e n hb hx
   exact ⟨sl,(hs.2 b (Nat.ne_of_lt (Nat.lt_of_lt_of_le (Heap.lt_size e) I.ok.above))).trans e1⟩
  ·obtain ⟨o',e1⟩:=I.base.there b o e hx
   exact ⟨o',(hs.2 b (Nat.ne_of_lt (Nat.lt_of_lt_of_le (Heap.lt_size e) I.ok.above))).trans e1⟩
  ·by_cases hj:j=i
   ·subst hj
    rw [hi] at e1;cases e1
    rw [List.getElem?_set_self hiσ] at e2
    cases e2
    exact ⟨u,r,.inl ⟨hk,by simp⟩⟩
   ·rw [List.getElem?_set_ne (Ne.symm hj)] at e2
    obtain ⟨u',r',q⟩:=hl j y v' e1 e2 e3
    refine ⟨u',r',?_⟩
    rcases q with ⟨k,e⟩ | ⟨k,c,e,z⟩
    ·refine .inl ⟨k,?_⟩
     have:y≠x:=fun e=>hj (zW9 hN e1 (e▸hi))
     simp [this,e]
    ·exact .inr ⟨k,c,e,z.sameBut hs (cne y c e)⟩
  ·obtain ⟨w',z⟩:=I.cell y c e
   exact ⟨w',z.sameBut hs (cne y c e)⟩
  ·obtain ⟨e,n,ne,nf,d⟩:=I.pin p hp
   exact ⟨(hs.2 p.1 ne).trans e,n,ne,nf,d⟩
 ·have hfn:X.fn x=true:=by
   rcases hf with z | z
   ·exact z
   ·rw [z] at hk;cases hk
  obtain ⟨c,hc⟩:=I.ok.has x (.inl hk)
  obtain ⟨w',z⟩:=I.cell x c hc
  refine wpAny_storeName_cell I.ok.kind hk hc z (fun h' hc' hs=>?_)
  obtain ⟨oc,hoc,hocd⟩:=id z
  refine h { s with heap:=h' } ⟨I.ok,I.os,I.bare,⟨fun b o e n hb hx=>?_,fun b o e n hb hx=>?_,I.base.free,fun b o e hx=>?_,I.base.tups,I.base.frzs,I.base.tbls⟩,⟨m,hn.sameBut hs (Ne.symm (cne x c hc)),fun j y v' e1 e2 e3=>?_⟩,fun y c' e=>?_,I.free,I.freeC,fun p hp=>?_,tracked ⟨oc,hoc,I.freeC x c hc⟩ hs,by simpa using I.len⟩ ⟨c,hs,.inr hc⟩
  ·exact (hs.2 b (Nat.ne_of_lt (Nat.lt_of_lt_of_le (Heap.lt_size e) (I.ok.cab x c hfn hc)))).trans (I.base.keep b o e n hb hx)
  ·obtain ⟨sl,e1⟩:=I.base.slot b o e n hb hx
   exact ⟨sl,(hs.2 b (Nat.ne_of_lt (Nat.lt_of_lt_of_le (Heap.lt_size e) (I.ok.cab x c hfn hc)))).trans e1⟩
  ·obtain ⟨o',e1⟩:=I.base.there b o e hx
   exact ⟨o',(hs.2 b (Nat.ne_of_lt (Nat.lt_of_lt_of_le (Heap.lt_size e) (I.ok.cab x c hfn hc)))).trans e1⟩
  ·by_cases hj:j=i
   ·subst hj
    rw [hi] at e1;cases e1
    rw [List.getElem?_set_self hiσ] at e2
    cases e2
    exact ⟨u,r,.inr ⟨.inl hk,c,hc,hc'⟩⟩
   ·rw [List.getElem?_set_ne (Ne.symm hj)] at e2
    obtain ⟨u',r',q⟩:=hl j y v' e1 e2 e3
    refine ⟨u',r',?_⟩
    rcases q with q | ⟨k,c',e,z'⟩
    ·exact .inl q
    ·refine .inr ⟨k,c',e,z'.sameBut hs ?_⟩
     rintro rfl
     exact hj (zW9 hN e1 (I.ok.inj _ _ _ e hc▸hi))
  ·by_cases hcc:c'=c
   ·subst hcc;exact ⟨_,hc'⟩
   ·obtain ⟨w2,z2⟩:=I.cell y c' e
    exact ⟨w2,z2.sameBut hs hcc⟩
  ·obtain ⟨e,n,ne,nf,d⟩:=I.pin p hp
   refine ⟨(hs.2 p.1 ?_).trans e,n,ne,nf,d⟩
   intro q
   rw [q,hoc] at e
   have q':oc=p.2:=Option.some.inj e
   exact d w' (by rw [← q'];exact hocd)
theorem ya5 {M:Model} {A:Around} {E:Value→Shared→Prop} {i:Nat} {x:Str} {v:V} {u:Value} {Q:Unit→Shared→Prop} (I:Inv X pins σ H s) (hN:X.N.Nodup) (hi:X.N[i]?=some x) (hx:Loc X.env.scope x) (r:RelV v u)
  (h:∀ s',Inv X pins (σ.set i (some v)) H s'→Q () s') (hf:X.fn x=true∨X.env.scope.names.lookup x=some .local):wpAny M A (storeName X.env x u) Q E s :=
 zQ6 I hN hi hx r (fun s' I' _=>h s' I') hf
theorem Inv.call' {s':Shared} {ch:List Addr} (I:Inv X pins σ H s) (ho:s'.os=s.os) (u:Un (frs X.stack) ch H H' s.heap s'.heap) (hok:HOk X.prog X.w H' s'.heap) (hg:AllBare s'.gens)
  (hch:∀ b∈ch,(b∈X.ex∨X.s₀.heap.objs.size≤b)∧b≠X.env.locals∧(∀ x c,X.env.cells.lookup x=some c→c≠b)∧∀ p∈X.pn++pins,p.1≠b):Inv X pins σ H' s':=by
 obtain ⟨h',g',d',t',o'⟩:=s'
 have e:o'=s.os:=ho
 subst e
 exact I.call (g':=g') (t':=t') (d':=d') u hok hg hch
end
noncomputable abbrev XK:=Value→Option Addr→Hp→Prop
noncomputable abbrev St:=List (Option V)
noncomputable abbrev VK:=V→Hp→Prop
noncomputable abbrev TE:=St→Hp→VK→Prop
noncomputable abbrev TT:=St→Hp→(Bool→Hp→Prop)→Prop
noncomputable abbrev TA:=St→Hp→(List V→Hp→Prop)→Prop
structure yT0 where
 nx:St→Hp→Prop
 rt:VK
 bk:St→Hp→Prop:=fun _ _=>False
 ct:St→Hp→Prop:=fun _ _=>False
noncomputable abbrev TS:=yT0→St→Hp→Prop
def EP (X:Cx) (pins:List (Addr×Obj)) (σ:St) (Q:VK) (u:Value) (s':Shared):Prop:=∃ v H',Inv X pins σ H' s'∧RelV v u∧Q v H'
def TP (X:Cx) (pins:List (Addr×Obj)) (σ:St) (Q:Bool→Hp→Prop) (b:Bool) (s':Shared):Prop:=∃ H',Inv X pins σ H' s'∧Q b H'
def AP (X:Cx) (pins:List (Addr×Obj)) (σ:St) (Q:List V→Hp→Prop) (us:List Value) (s':Shared):Prop:=∃ vs H',Inv X pins σ H' s'∧zg6 vs us∧Q vs H'
def SP (X:Cx) (pins:List (Addr×Obj)) (D:yT0) (f:Flow) (s':Shared):Prop :=
 match f with
 | .next=>∃ σ' H',Inv X pins σ' H' s'∧D.nx σ' H'
 | .brk=>∃ σ' H',Inv X pins σ' H' s'∧D.bk σ' H'
 | .cont=>∃ σ' H',Inv X pins σ' H' s'∧D.ct σ' H'
 | .ret u=>∃ v σ' H',Inv X pins σ' H' s'∧RelV v u∧D.rt v H'
def PE (X:Cx) (e:Expr) (t:TE):Prop :=
 ∀ (pins:List (Addr×Obj)) (s:Shared) (σ:St) (H:Hp) (Q:VK),Inv X pins σ H s→t σ H Q→wpAny (model X.prog X.w) X.A (eval e X.env) (EP X pins σ Q) X.xe s
def PT (X:Cx) (e:Expr) (t:TT):Prop :=
 ∀ (pins:List (Addr×Obj)) (s:Shared) (σ:St) (H:Hp) (Q:Bool→Hp→Prop),Inv X pins σ H s→t σ H Q→wpAny (model X.prog X.w) X.A (isTrue e X.env (eval e X.env)) (TP X pins σ Q) X.xe s
def PW (X:Cx) (e:Expr) (t:TT):Prop :=
 ∀ (whole:Sem Value) (pins:List (Addr×Obj)) (s:Shared) (σ:St) (H:Hp) (Q:Bool→Hp→Prop),Inv X pins σ H s→t σ H Q→wpAny (model X.prog X.w) X.A (isTrue e X.env whole) (TP X pins σ Q) X.xe s
theorem PW.pt {X:Cx} {e:Expr} {t:TT} (h:PW X e t):PT X e t:=h _
def PA (X:Cx) (es:List Expr) (t:TA):Prop :=
 ∀ (pos:Pos) (pins:List (Addr×Obj)) (s:Shared) (σ:St) (H:Hp) (Q:List V→Hp→Prop),Inv X pins σ H s→t σ H Q→wpAny (model X.prog X.w) X.A (spliced (backTo pos (starEach es X.env))) (AP X pins σ Q) X.xe s
def PS (X:Cx) (st:Stmt) (t:TS):Prop :=
 ∀ (pins:List (Addr×Obj)) (s:Shared) (σ:St) (H:Hp) (D:yT0),Inv X pins σ H s→t D σ H→wpAny (model X.prog X.w) X.A (exec st X.env) (SP X pins D) X.xe s
def PSs (X:Cx) (st:List Stmt) (t:TS):Prop :=
 ∀ (pins:List (Addr×Obj)) (s:Shared) (σ:St) (H:Hp) (D:yT0),Inv X pins σ H s→t D σ H→wpAny (model X.prog X.w) X.A (execs st X.env) (SP X pins D) X.xe s
theorem thn {α:Type} {t:Sem α} {Q Q':α→Shared→Prop} {M:Model} {A:Around} {E:Value→Shared→Prop} {s:Shared} (h:wpAny M A t Q E s) (hQ:∀ a s,Q a s→Q' a s):wpAny M A t Q' E s:=wpAny_mono h hQ fun _ _ x=>x
section
variable {X:Cx}
theorem bin {a b:Expr} {ta tb:TE} (ha:PE X a ta) (hb:PE X b tb) {pins:List (Addr×Obj)} {s:Shared} {σ:St} {H:Hp} {R:V→V→Hp→Prop} (I:Inv X pins σ H s) (h:ta σ H fun x H1=>tb σ H1 fun y H2=>R x y H2)
  {α:Type} {Q:α→Shared→Prop} {f:Value→Value→Sem α}
  (hf:∀ v u s2 x y H2,Inv X pins σ H2 s2→RelV x v→RelV y u→R x y H2→wpAny (model X.prog X.w) X.A (f v u) Q X.xe s2) :
  wpAny (model X.prog X.w) X.A (eval a X.env) (fun v s₁=>wpAny (model X.prog X.w) X.A (eval b X.env) (fun u s₂=>wpAny (model X.prog X.w) X.A (f v u) Q X.xe s₂) X.xe s₁) X.xe s:=by
 refine thn (ha pins s σ H _ I h) fun v s1 h_=>?_
 obtain ⟨x,H1,I1,r1,q1⟩:=h_
 refine thn (hb pins s1 σ H1 _ I1 q1) fun u s2 h_=>?_
 obtain ⟨y,H2,I2,r2,q2⟩:=h_
 exact hf v u s2 x y H2 I2 r1 r2 q2
noncomputable def tVar (i:Nat):TE:=fun σ H Q=>∃ v,σ[i]?=some (some v)∧Q v H
noncomputable def tC (v:V):TE:=fun _ H Q=>Q v H
theorem yV6 {i:Nat} {x:Str} {pos:Pos} (hN:X.N[i]?=some x) (hv:Vis X.env.scope x) (hd:(x==("__debug__" : Str))=false) (hcd:(x==("__classdict__" : Str))=false):PE X (.Name x pos) (tVar i):=by
 intro pins s σ H Q I h
 obtain ⟨v,e,h⟩:=h
 obtain ⟨m,hn,hl⟩:=I.loc
 obtain ⟨u,r,l⟩:=hl i x v hN e hv
 have fin:EP X pins σ Q u s:=⟨v,H,I,r,h⟩
 rcases l with ⟨hk,hm⟩ | ⟨hk,c,hc,hcell⟩
 ·exact wpAny_Name (wpAny_loadName_local I.ok.kind hk hn hm fin) hd
 ·rcases hk with hk | hk
  ·exact wpAny_Name (wpAny_loadName_cell I.ok.kind hk hc hcell fin) hd
  ·exact wpAny_Name (wpAny_loadName_free I.ok.kind hk hc hcell fin hcd) hd
theorem yA2 {i j pos}:PE X (.Constant (.int i) j pos) (tC (.int i)):=fun _ _ _ H _ I h=>wpAny_Constant_int ⟨.int i,H,I.tok _,⟨_,rfl⟩,h⟩
theorem xj5 {b j pos}:PE X (.Constant (.bool b) j pos) (tC (.bl b)):=fun _ _ _ H _ I h=>Constant_bool ⟨.bl b,H,I,rfl,h⟩
theorem yS3 {j pos}:PE X (.Constant .none j pos) (tC .non):=fun _ _ _ H _ I h=>Constant_none ⟨.non,H,I,rfl,h⟩
theorem yA3 {x j pos}:PE X (.Constant (.str x) j pos) (tC (.str x)):=fun _ _ _ H _ I h=>Calls.Constant_str ⟨.str x,H,I.tok _,⟨_,rfl⟩,h⟩
def Gl (X:Cx) (x:Str):Prop:=X.env.kindOf x=some .globalImplicit
theorem yh5 {E:Value→Shared→Prop} {pins:List (Addr×Obj)} {s:Shared} {σ:St} {H:Hp} {x:Str} {u:Value} {pos:Pos} {Q:Value→Shared→Prop} (I:Inv X pins σ H s) (hg:Gl X x) (hm:X.mg x=some u) (h:Q u s)
  (hd:(x==("__debug__" : Str))=false):wpAny (model X.prog X.w) X.A (eval (.Name x pos) X.env) Q E s :=
 Calls.Name_function_global I.ok.kind hg (Calls.loadGlobal_global (by rw [I.ok.glob];exact I.mod.glob.keeps I.bk) hm h) hd
theorem zW4 {E:Value→Shared→Prop} {pins:List (Addr×Obj)} {s:Shared} {σ:St} {H:Hp} {x:Str} {u:Value} {pos:Pos} {Q:Value→Shared→Prop} (I:Inv X pins σ H s) (hg:Gl X x) (hm:X.mg x=none) (hv:bootBuiltins x=some u) (h:Q u s)
  (hn:x ≠ "__name__" := by decide) (hd:(x==("__debug__" : Str))=false:=by decide):wpAny (model X.prog X.w) X.A (eval (.Name x pos) X.env) Q E s:=by
 obtain ⟨mb,h1,h2⟩:=I.mod.blt
 exact Calls.Name_function_global I.ok.kind hg (Calls.loadGlobal_builtin (by rw [I.ok.glob];exact I.mod.glob.keeps I.bk) hm (by rw [I.ok.blt];exact h1.keeps I.bk) ((h2 x hn).trans hv) h) hd
theorem yF6 {x:Str} {v:V} {u:Value} {pos:Pos} (hg:Gl X x) (hm:X.mg x=some u) (r:RelV v u) (hd:(x==("__debug__" : Str))=false):PE X (.Name x pos) (tC v) :=
 fun _ _ _ H _ I h=>yh5 I hg hm ⟨v,H,I,r,h⟩ hd
theorem yF0 {x:Str} {v:V} {u:Value} {pos:Pos} (hg:Gl X x) (hm:X.mg x=none) (hv:bootBuiltins x=some u) (r:RelV v u) (hn:x ≠ "__name__") (hd:(x==("__debug__" : Str))=false):PE X (.Name x pos) (tC v) :=
 fun _ _ _ H _ I h=>zW4 I hg hm hv ⟨v,H,I,r,h⟩ hn hd
variable {a b:Expr} {ta tb:TE} {pos:Pos}
def PC (X:Cx) (op:CmpOp) (a b:Expr) (t:TE):Prop :=
 ∀ (pins:List (Addr×Obj)) (s:Shared) (σ:St) (H:Hp) (Q:VK),Inv X pins σ H s→t σ H Q →
  wpAny (model X.prog X.w) X.A (eval a X.env) (fun v s₁=>wpAny (model X.prog X.w) X.A (eval b X.env) (fun u s₂=>wpAny (model X.prog X.w) X.A (compareOp op v u) (EP X pins σ Q) X.xe s₂) X.xe s₁) X.xe s
theorem xc0 (b:Expr) {op:CmpOp} (h:op≠.In) (h2:op≠.NotIn):behindInMarks op b=false:=by
 have e1:(op==CmpOp.In)=false:=by cases op <;> first | rfl | exact absurd rfl h
 have e2:(op==CmpOp.NotIn)=false:=by cases op <;> first | rfl | exact absurd rfl h2
 cases b <;> simp [behindInMarks,e1,e2]
noncomputable def tB (t:TE):TT:=fun σ H Q=>t σ H fun x H1=>∃ c,x=.bl c∧Q c H1
theorem pt_cmp {op:CmpOp} {t:TE} (h:PC X op a b t) (h1:behindInMarks op b=false):PT X (.Compare a [op] [b] pos) (tB t):=by
 intro pins s σ H Q I hw
 refine wpAny_isTrue_Compare1 (thn (h pins s σ H _ I hw) fun v s1 h1=>thn h1 fun u s2 h2=>thn h2 fun c s3 ⟨x,H1,I1,r1,q1⟩=>?_) h1
 obtain ⟨d,rfl,q⟩:=q1
 cases r1
 exact wpAny_truthy_bool ⟨H1,I1,q⟩
theorem yP3 {e:Expr} {t:TE} (h:PE X e t) (he:∀ whole,isTrue e X.env whole=(do let v ← whole;standAt e.pos;holding [v] (truthy v))):PT X e (tB t):=by
 intro pins s σ H Q I hw
 refine isTrue_plain (thn (h pins s σ H _ I hw) fun v s1 ⟨x,H1,I1,r1,q1⟩=>?_) (he _)
 obtain ⟨d,rfl,q⟩:=q1
 cases r1
 exact wpAny_truthy_bool ⟨H1,I1,q⟩
variable {tA tB':TT} {zp6:List Expr}
noncomputable def tAnd (t u:TT):TT:=fun σ H Q=>t σ H fun c H1=>if c=true then u σ H1 Q else Q false H1
noncomputable def tOr (t u:TT):TT:=fun σ H Q=>t σ H fun c H1=>if c=true then Q true H1 else u σ H1 Q
noncomputable def tNot (t:TT):TT:=fun σ H Q=>t σ H fun c H1=>Q (!c) H1
theorem yI6 (ha:PT X a tA):PW X (.BoolOp .And [a] pos) tA:=by
 intro wh pins s σ H Q I h
 refine isTrue_and (thn (ha pins s σ H Q I h) fun c s1 e=>?_)
 cases c with
 | true=>exact isTrue_and_nil e
 | false=>exact e
theorem yZ2 (ha:PT X a tA):PW X (.BoolOp .Or [a] pos) tA:=by
 intro wh pins s σ H Q I h
 refine isTrue_or (thn (ha pins s σ H Q I h) fun c s1 e=>?_)
 cases c with
 | false=>exact isTrue_or_nil e
 | true=>exact e
theorem yT6 (ha:PT X a tA) (hb:PW X (.BoolOp .And (b::zp6) pos) tB'):PW X (.BoolOp .And (a::b::zp6) pos) (tAnd tA tB'):=by
 intro wh pins s σ H Q I h
 refine isTrue_and (thn (ha pins s σ H _ I h) fun c s1 h_=>?_)
 obtain ⟨H1,I1,q1⟩:=h_
 cases c with
 | true=>exact hb wh pins s1 σ H1 Q I1 q1
 | false=>exact ⟨H1,I1,q1⟩
theorem xj4 (ha:PT X a tA) (hb:PW X (.BoolOp .Or (b::zp6) pos) tB'):PW X (.BoolOp .Or (a::b::zp6) pos) (tOr tA tB'):=by
 intro wh pins s σ H Q I h
 refine isTrue_or (thn (ha pins s σ H _ I h) fun c s1 h_=>?_)
 obtain ⟨H1,I1,q1⟩:=h_
 cases c with
 | true=>exact ⟨H1,I1,q1⟩
 | false=>exact hb wh pins s1 σ H1 Q I1 q1
theorem yL7 (ha:PT X a tA):PT X (.UnaryOp .Not a pos) (tNot tA):=by
 intro pins s σ H Q I h
 exact isTrue_not (ha pins s σ H (fun c H1=>Q (!c) H1) I h)
noncomputable def xg0 (ta tb:TE):TE:=fun σ H Q=>ta σ H fun x H1=>∃ c,x=.bl c∧if c=true then tb σ H1 Q else Q (.bl false) H1
noncomputable def tOrV (ta tb:TE):TE:=fun σ H Q=>ta σ H fun x H1=>∃ c,x=.bl c∧if c=true then Q (.bl true) H1 else tb σ H1 Q
theorem yO8 {op} {t:TE} (h:PE X a t):PE X (.BoolOp op [a] pos) t:=fun pins s σ H Q I hw=>BoolOp_one (h pins s σ H Q I hw)
theorem yL9 (ha:PE X a ta) (hb:PE X (.BoolOp .And (b::zp6) pos) tb):PE X (.BoolOp .And (a::b::zp6) pos) (xg0 ta tb):=by
 intro pins s σ H Q I h
 refine BoolOp_and (thn (ha pins s σ H _ I h) fun v s1 h_=>?_)
 obtain ⟨x,H1,I1,r1,q1⟩:=h_
 obtain ⟨c,rfl,q1⟩:=q1
 cases r1
 refine wpAny_truthy_bool ?_
 cases c with
 | true=>exact hb pins s1 σ H1 Q I1 q1
 | false=>exact ⟨.bl false,H1,I1,rfl,q1⟩
theorem xd8 (ha:PE X a ta) (hb:PE X (.BoolOp .Or (b::zp6) pos) tb):PE X (.BoolOp .Or (a::b::zp6) pos) (tOrV ta tb):=by
 intro pins s σ H Q I h
 refine BoolOp_or (thn (ha pins s σ H _ I h) fun v s1 h_=>?_)
 obtain ⟨x,H1,I1,r1,q1⟩:=h_
 obtain ⟨c,rfl,q1⟩:=q1
 cases r1
 refine wpAny_truthy_bool ?_
 cases c with
 | false=>exact hb pins s1 σ H1 Q I1 q1
 | true=>exact ⟨.bl true,H1,I1,rfl,q1⟩
noncomputable def tIf (t:TT) (ta tb:TE):TE:=fun σ H Q=>t σ H fun c H1=>if c=true then ta σ H1 Q else tb σ H1 Q
theorem yr0 {c:Expr} (hc:PT X c tA) (ha:PE X a ta) (hb:PE X b tb):PE X (.IfExp c a b pos) (tIf tA ta tb):=by
 intro pins s σ H Q I h
 refine wpAny_IfExp (thn (hc pins s σ H _ I h) fun d s1 h_=>?_)
 obtain ⟨H1,I1,q1⟩:=h_
 cases d with
 | true=>exact ha pins s1 σ H1 Q I1 q1
 | false=>exact hb pins s1 σ H1 Q I1 q1
end
def SqL (K:Frag) (H:Hp) (a:Addr) (xs:List V):Prop :=
 Rd H a (.lst xs) ∨
  ∃ (o:Obj) (its:Array Value) (n:Nat),K.lookup a=some o∧o.cls=.type "list" ∧ o.dict=none∧o.data=.seq its n∧its.size≤sizeLine∧zg6 xs its.toList
def SqT (K:Frag) (H:Hp) (a:Addr) (xs:List V):Prop :=
 Rd H a (.tup xs) ∨
  ∃ (o:Obj) (its:Array Value) (n:Nat),K.lookup a=some o∧o.cls=.type "tuple" ∧ o.dict=none∧o.data=.seq its n∧its.size≤sizeLine∧zg6 xs its.toList
noncomputable def absV:Value→Option V
 | .none=>some .non
 | .bool b=>some (.bl b)
 | .int i _=>some (.int i)
 | .str x _=>some (.str x)
 | .bytes b _=>some (.byt b)
 | .float b _=>some (.flt b)
 | .ref a=>some (.ref a)
 | .type n=>some (.ty n)
 | _=>none
theorem RelV.abs {x:V} {u:Value} (r:RelV x u):absV u=some x:=by
 cases x with
 | non=>cases r;rfl
 | bl _=>cases r;rfl
 | int _=>obtain ⟨t,rfl⟩:=r;rfl
 | str _=>obtain ⟨t,rfl⟩:=r;rfl
 | byt _=>obtain ⟨t,rfl⟩:=r;rfl
 | flt _=>obtain ⟨t,rfl⟩:=r;rfl
 | ref _=>cases r;rfl
 | ty _=>cases r;rfl
theorem RelV.inj {x y:V} {u:Value} (r:RelV x u) (q:RelV y u):x=y:=Option.some.inj (r.abs.symm.trans q.abs)
theorem zg6.inj:∀ {xs ys:List V} {us:List Value},zg6 xs us→zg6 ys us→xs=ys
 | _,_,_,.nil,.nil=>rfl
 | _,_,_,.cons r t,.cons r' t'=>by rw [r.inj r',zg6.inj t t']
section
variable {X:Cx} {pins:List (Addr×Obj)} {σ:St} {H:Hp} {s:Shared} {a:Addr} {xs ys:List V}
theorem SqL.of {K:Frag} (h:H a=some (.lst xs)):SqL K H a xs:=.inl (.inl h)
theorem SqT.of {K:Frag} (h:H a=some (.tup xs)):SqT K H a xs:=.inl (.inl h)
theorem Inv.list (I:Inv X pins σ H s) (h:SqL X.K H a xs):∃ its:List Value,zg6 xs its∧PlainL s.heap a its.toArray∧xs.length≤sizeLine:=by
 rcases h with h | ⟨o,its,n,hk,hc,hd,hs,hz,r⟩
 ·obtain ⟨z,its,n,r,e⟩:=h.ok I.hok
  exact ⟨its,r,⟨_,n,e,rfl,rfl,rfl⟩,z⟩
 ·refine ⟨its.toList,r,⟨o,n,I.kIn a o hk,hc,hd,by simpa using hs⟩,?_⟩
  have e:=r.length
  simp only [Array.length_toList] at e
  lia
theorem Inv.tuple (I:Inv X pins σ H s) (h:SqT X.K H a xs):∃ its:List Value,zg6 xs its∧IsTup s.heap a its.toArray∧xs.length≤sizeLine:=by
 rcases h with h | ⟨o,its,n,hk,hc,_,hs,hz,r⟩
 ·obtain ⟨z,its,r,ob,p1,p2,_,p3⟩:=h.ok I.hok
  exact ⟨its,r,⟨ob,p1,p2,p3⟩,z⟩
 ·refine ⟨its.toList,r,⟨o,I.kIn a o hk,hc,n,by simpa using hs⟩,?_⟩
  have e:=r.length
  simp only [Array.length_toList] at e
  lia
theorem Inv.list_inj (I:Inv X pins σ H s) (h:SqL X.K H a xs) (h':SqL X.K H a ys):xs=ys:=by
 obtain ⟨its,r,⟨o,n,e,_,_,d⟩,_⟩:=I.list h
 obtain ⟨its',r',⟨o',n',e',_,_,d'⟩,_⟩:=I.list h'
 rw [e] at e';cases e'
 rw [d] at d'
 injection d' with d1 _
 have:its=its':=by simpa using congrArg Array.toList d1
 subst this
 exact r.inj r'
theorem Inv.tuple_inj (I:Inv X pins σ H s) (h:SqT X.K H a xs) (h':SqT X.K H a ys):xs=ys:=by
 obtain ⟨its,r,⟨o,e,_,n,d⟩,_⟩:=I.tuple h
 obtain ⟨its',r',⟨o',e',_,n',d'⟩,_⟩:=I.tuple h'
 rw [e] at e';cases e'
 rw [d] at d'
 injection d' with d1 _
 have:its=its':=by simpa using congrArg Array.toList d1
 subst this
 exact r.inj r'
end
noncomputable abbrev Cx.wish (X:Cx) (E:Value→Shared→Prop):Cx:={ X with xe:=E }
noncomputable abbrev Cx.nox (X:Cx):Cx:=X.wish fun _ _=>False
theorem Cx.Ok.wish {X:Cx} (ok:X.Ok) (E:Value→Shared→Prop):(X.wish E).Ok :=
 ⟨ok.mod,ok.kind,ok.glob,ok.blt,ok.above,ok.inj,ok.has,ok.cab,ok.hd,ok.frames,ok.stk,ok.exf,ok.bs,ok.bsz,ok.noex,ok.exfs,ok.funs,ok.frf⟩
theorem Cx.Ok.unwish {X:Cx} {E:Value→Shared→Prop} (ok:(X.wish E).Ok):X.Ok :=
 ⟨ok.mod,ok.kind,ok.glob,ok.blt,ok.above,ok.inj,ok.has,ok.cab,ok.hd,ok.frames,ok.stk,ok.exf,ok.bs,ok.bsz,ok.noex,ok.exfs,ok.funs,ok.frf⟩
section
variable {X:Cx} {pins:List (Addr×Obj)} {σ:St} {H:Hp} {s:Shared} {E:Value→Shared→Prop}
theorem Inv.wish (I:Inv X pins σ H s) (E:Value→Shared→Prop):Inv (X.wish E) pins σ H s:=⟨I.ok.wish E,I.os,I.bare,I.base,I.loc,I.cell,I.free,I.freeC,I.pin,I.hok,I.len⟩
theorem Inv.unwish (I:Inv (X.wish E) pins σ H s):Inv X pins σ H s:=⟨I.ok.unwish,I.os,I.bare,I.base,I.loc,I.cell,I.free,I.freeC,I.pin,I.hok,I.len⟩
theorem SP.unwish {D:yT0} {f:Flow} {s':Shared} (h:SP (X.wish E) pins D f s'):SP X pins D f s':=by
 cases f with
 | next=>obtain ⟨σ',H',I,q⟩:=h;exact ⟨σ',H',I.unwish,q⟩
 | brk=>obtain ⟨σ',H',I,q⟩:=h;exact ⟨σ',H',I.unwish,q⟩
 | cont=>obtain ⟨σ',H',I,q⟩:=h;exact ⟨σ',H',I.unwish,q⟩
 | ret u=>obtain ⟨v,σ',H',I,r,q⟩:=h;exact ⟨v,σ',H',I.unwish,r,q⟩
theorem PSs.nox {st:List Stmt} {t:TS} (h:PSs X.nox st t):PSs X st t:=fun pins s σ H D I hw =>
 wpAny_mono (h pins s σ H D (I.wish _) hw) (fun _ _ q=>q.unwish) fun _ _ z=>False.elim z
end
section
variable {X:Cx} {st:Stmt} {zp6:List Stmt} {t u:TS} {e:Expr} {te:TE} {pos:Pos}
noncomputable def tNext:TS:=fun D σ H=>D.nx σ H
noncomputable def tSeq (t u:TS):TS:=fun D σ H=>t { D with nx:=u D } σ H
theorem yD2:PSs X [] tNext:=fun _ _ σ H _ I h=>wpAny_execs_nil ⟨σ,H,I,h⟩
theorem yv6 (h1:PS X st t) (h2:PSs X zp6 u):PSs X (st::zp6) (tSeq t u):=by
 intro pins s σ H D I h
 refine wpAny_execs_cons (thn (h1 pins s σ H { D with nx:=u D } I h) fun f s1 q=>?_)
 cases f with
 | next =>
  obtain ⟨σ',H',I',q⟩:=q
  exact h2 pins s1 σ' H' D I' q
 | ret v=>exact q
 | brk=>exact q
 | cont=>exact q
theorem Inv.quiet {pins:List (Addr×Obj)} {σ:St} {H:Hp} {s:Shared} (I:Inv X pins σ H s):interactive X.env=false:=by simp [interactive,I.ok.kind]
noncomputable def xl0 (te:TE):TS:=fun D σ H=>te σ H fun _ H1=>D.nx σ H1
theorem yC0 (he:PE X e te) (hs:swapsWith e none pos.line X.env=pure false):PS X (.Expr e pos) (xl0 te):=by
 intro pins s σ H D I h
 exact wpAny_Expr_any (thn (he pins s σ H _ I h) fun v s1 ⟨x,H1,I1,r1,q1⟩=>⟨σ,H1,I1,q1⟩) I.quiet hs
noncomputable def tRet (te:TE):TS:=fun D σ H=>te σ H D.rt
theorem yV9 (he:PE X e te):PS X (.Return (some e) pos) (tRet te):=by
 intro pins s σ H D I h
 exact wpAny_Return_some (thn (he pins s σ H _ I h) fun v s1 ⟨x,H1,I1,r1,q1⟩=>⟨x,σ,H1,I1,r1,q1⟩)
noncomputable def tIfS (c:TT) (t u:TS):TS:=fun D σ H=>c σ H fun b H1=>if b=true then t D σ H1 else u D σ H1
theorem xf2 {c:Expr} {a b:List Stmt} {tc:TT} (hc:PT X c tc) (ha:PSs X a t) (hb:PSs X b u):PS X (.If c a b pos) (tIfS tc t u):=by
 intro pins s σ H D I h
 refine wpAny_If (thn (hc pins s σ H _ I h) fun d s1 h_=>?_)
 obtain ⟨H1,I1,q1⟩:=h_
 cases d with
 | true=>exact ha pins s1 σ H1 D I1 q1
 | false=>exact hb pins s1 σ H1 D I1 q1
end
noncomputable abbrev TG:=V→St→Hp→(St→Hp→Prop)→Prop
noncomputable abbrev TGs:=List V→St→Hp→(St→Hp→Prop)→Prop
def PG (X:Cx) (target:Expr) (t:TG):Prop :=
 ∀ (pins:List (Addr×Obj)) (s:Shared) (σ:St) (H:Hp) (v:V) (u:Value) (Q:St→Hp→Prop),Inv X pins σ H s→RelV v u→t v σ H Q →
  wpAny (model X.prog X.w) X.A (assign target X.env u) (fun _ s'=>∃ σ' H',Inv X pins σ' H' s'∧Q σ' H') X.xe s
def PGs (X:Cx) (ts:List Expr) (t:TGs):Prop :=
 ∀ (pins:List (Addr×Obj)) (s:Shared) (σ:St) (H:Hp) (vs:List V) (us:List Value) (Q:St→Hp→Prop),Inv X pins σ H s→zg6 vs us→t vs σ H Q →
  wpAny (model X.prog X.w) X.A (assignInOrder ((assignEach ts X.env).map (·.2)) us) (fun _ s'=>∃ σ' H',Inv X pins σ' H' s'∧Q σ' H') X.xe s
noncomputable abbrev xh0:=V→V→V→Hp→(Hp→Prop)→Prop
def yz5 (X:Cx) (t:xh0):Prop :=
 ∀ (pins:List (Addr×Obj)) (s:Shared) (σ:St) (H:Hp) (o i v:V) (ov iv u:Value) (Q:Hp→Prop),Inv X pins σ H s→RelV o ov→RelV i iv→RelV v u→t o i v H Q →
  wpAny (model X.prog X.w) X.A (setItem ov iv u) (fun _ s'=>∃ H',Inv X pins σ H' s'∧Q H') X.xe s
section
variable {X:Cx} {pos:Pos}
noncomputable def yC7 (i:Nat):TG:=fun v σ H Q=>Q (σ.set i (some v)) H
theorem ym9 {i:Nat} {x:Str} (hN:X.N.Nodup) (hi:X.N[i]?=some x) (hx:Loc X.env.scope x) (hf:X.fn x=true∨X.env.scope.names.lookup x=some .local):PG X (.Name x pos) (yC7 i):=by
 intro pins s σ H v u Q I r h
 exact wpAny_assign_Name (ya5 I hN hi hx r (fun s' I'=>⟨_,H,I',h⟩) hf)
noncomputable def gNil:TGs:=fun vs σ H Q=>vs=[]∧Q σ H
noncomputable def xh5 (t:TG) (u:TGs):TGs:=fun vs σ H Q=>∃ v r,vs=v::r∧t v σ H fun σ' H'=>u r σ' H' Q
theorem yF5:PGs X [] gNil:=by
 intro pins s σ H vs us Q I r h
 obtain ⟨e,h⟩:=h
 subst e
 cases r
 exact assignInOrder_nil ⟨σ,H,I,h⟩
theorem yu9 {e:Expr} {es:List Expr} {t:TG} {u:TGs} (h1:PG X e t) (h2:PGs X es u)
  (hs:(assignEach (e::es) X.env).map (·.2)=assign e X.env::(assignEach es X.env).map (·.2)):PGs X (e::es) (xh5 t u):=by
 intro pins s σ H vs us Q I r h
 obtain ⟨v,vr,e1,h⟩:=h
 subst e1
 cases r with
 | cons r rr =>
  rw [hs]
  refine assignInOrder_cons (thn (h1 pins s σ H _ _ _ I r h) fun _ s1 h_=>?_)
  obtain ⟨σ1,H1,I1,q1⟩:=h_
  exact h2 pins s1 σ1 H1 _ _ Q I1 rr q1
noncomputable def gTup (K:Frag) (n:Nat) (t:TGs):TG:=fun v σ H Q=>∃ a xs,v=.ref a∧SqT K H a xs∧xs.length=n∧t xs σ H Q
theorem yP1 {es:List Expr} {k:Nat} {t:TGs} {n:Nat} (hc:X.calm=true) (h:PGs X es t)
  (hn:(assignEach es X.env).length=n) (hst:(assignEach es X.env).findIdx? (·.1)=none):PG X (.Tuple es k pos) (gTup X.K n t):=by
 intro pins s σ H v u Q I r hw
 obtain ⟨a,xs,e1,hq,hl,hw⟩:=hw
 subst e1
 cases r
 obtain ⟨its,rv,ht,hz⟩:=I.tuple hq
 refine assign_Tuple_tuple (I.ok.hd hc) ht (by simp [hn,← hl,rv.length]) hst fun h' hx=>?_
 have I1:Inv X pins σ H { s with heap:=h' }:=I.kept (t':=s.toks) fun b o e=>hx b o (Nat.ne_of_lt (Heap.lt_size e)) e
 exact h pins _ σ H xs _ Q I1 (by simpa using rv) hw
noncomputable def gSub (to ti:TE) (t:xh0):TG:=fun v σ H Q=>to σ H fun o H1=>ti σ H1 fun i H2=>t o i v H2 fun H3=>Q σ H3
theorem yR6 {o i:Expr} {to ti:TE} {t:xh0} (ho:PE X o to) (hi:PE X i ti) (hs:yz5 X t)
  (ha:∀ v,assign (.Subscript o i pos) X.env v=(do
   let ov ← holding [v] (eval o X.env)
   let iv ← holding [v,ov] (eval i X.env)
   standAt pos
   holding [v,ov,iv] (setItem ov iv v)
   release [v,ov,iv] [])):PG X (.Subscript o i pos) (gSub to ti t):=by
 intro pins s σ H v u Q I r h
 rw [ha]
 refine wpAny_bind (wpAny_holding (thn (ho pins s σ H _ I h) fun ov s1 h_=>?_))
 obtain ⟨x,H1,I1,r1,q1⟩:=h_
 refine wpAny_bind (wpAny_holding (thn (hi pins s1 σ H1 _ I1 q1) fun iv s2 h_=>?_))
 obtain ⟨y,H2,I2,r2,q2⟩:=h_
 refine wpAny_bind (wpAny_standAt (wpAny_bind (wpAny_holding (thn (hs pins s2 σ H2 x y v ov iv u _ I2 r1 r2 r q2) fun _ s3 h_=>?_))))
 obtain ⟨H3,I3,q3⟩:=h_
 exact wpAny_release ⟨σ,H3,I3,q3⟩
noncomputable def xj0 (te:TE) (g:TG):TS:=fun D σ H=>te σ H fun x H1=>g x σ H1 D.nx
theorem yX9 {tg e:Expr} {te:TE} {g:TG} (he:PE X e te) (hg:PG X tg g) (hs:swapsWithSole [tg] e pos.line X.env=pure false) (hw:swappedStores [tg] e X.env=pure none)
  (h1:(assignEach [tg] X.env).map (·.2)=[assign tg X.env]):PS X (.Assign [tg] e pos) (xj0 te g):=by
 intro pins s σ H D I h
 refine wpAny_Assign_stores (thn (he pins s σ H _ I h) fun v s1 ⟨x,H1,I1,r1,q1⟩=>?_) hs hw
 rw [h1]
 exact thn (hg pins s1 σ H1 x v _ I1 r1 q1) fun _ s2 q=>q
theorem yW7 {i:Nat} {x:Str} {e:Expr} {te:TE} {pos':Pos} (hN:X.N.Nodup) (hi:X.N[i]?=some x) (hx:Loc X.env.scope x) (he:PE X e te) (hs:swapsWith e (some (.Name x pos')) pos.line X.env=pure false) (hf:X.fn x=true∨X.env.scope.names.lookup x=some .local) :
  PS X (.Assign [.Name x pos'] e pos) (xj0 te (yC7 i)):=by
 intro pins s σ H D I h
 refine wpAny_Assign_Name (thn (he pins s σ H _ I h) fun v s1 ⟨y,H1,I1,r1,q1⟩=>?_) hs
 exact ya5 I1 hN hi hx r1 (fun s2 I2=>⟨_,H1,I2,q1⟩) hf
end
section
variable {X:Cx} {pos:Pos}
end
structure It where
 go:Nat→Hp→Prop
 yld:Nat→Hp→V→Hp→Prop
 stop:Nat→Hp→Prop
def ye6 (X:Cx) (pins:List (Addr×Obj)) (H:Hp) (b:Addr):Prop :=
 H b=none∧b≠X.env.locals∧b∉X.fs∧(b∈X.ex∨X.s₀.heap.objs.size≤b)∧(∀ x c,X.env.cells.lookup x=some c→c≠b)∧∀ p∈X.pn++pins,p.1≠b
theorem Inv.fpOk {X:Cx} {pins:List (Addr×Obj)} {σ:St} {H H':Hp} {s:Shared} {b:Addr} (I:Inv X pins σ H s) (hb:s.heap.objs.size≤b) (hn:H' b=none):ye6 X pins H' b:=by
 refine ⟨hn,Nat.ne_of_gt (Nat.lt_of_lt_of_le I.lt hb),I.nofs hb,.inr (Nat.le_trans I.sz hb),fun x c e z=>?_,fun p hp z=>?_⟩
 ·obtain ⟨v,q⟩:=I.cell x c e
  exact absurd (Nat.lt_of_lt_of_le q.lt (by rw [z];exact hb)) (Nat.lt_irrefl _)
 ·exact absurd (Nat.lt_of_lt_of_le (Heap.lt_size (I.pin p hp).1) (by rw [z];exact hb)) (Nat.lt_irrefl _)
structure xa1 (P:Program) (w:World) (K:Frag) (tg:Expr) (J:It) (fp:List Addr) (it:Addr) (tn:Nat→Heap→Prop):Prop where
 mem:it∈fp
 obj:∀ i h,tn i h→∀ b∈fp,∃ o,h.get? b=some o∧∀ v,o.data≠.cell v
 keep:∀ i h h',tn i h→(∀ b∈fp,∀ o,h.get? b=some o→h'.get? b=some o)→tn i h'
 item:∀ (X:Cx),X.prog=P→X.w=w→X.K=K→X.calm=true→∀ (i:Nat) (pins:List (Addr×Obj)) (s:Shared) (σ:St) (H:Hp) (E:Value→Shared→Prop),Inv X pins σ H s→(∀ b∈fp,ye6 X pins H b)→tn i s.heap→J.go i H →
  wpAny (model P w) X.A (pyNext (.ref it)) (fun r s1=>∃ u,r=some u ∧
   wpAny (model P w) X.A (letOwnedTupleGo tg (.ref it) u) (fun _ s2=>∃ x H',Inv X pins σ H' s2∧RelV x u∧J.yld i H x H'∧tn (i+1) s2.heap∧∀ b∈fp,H' b=none) E s1) E s
 done:∀ (X:Cx),X.prog=P→X.w=w→X.K=K→X.calm=true→∀ (i:Nat) (pins:List (Addr×Obj)) (s:Shared) (σ:St) (H:Hp) (E:Value→Shared→Prop),Inv X pins σ H s→(∀ b∈fp,ye6 X pins H b)→tn i s.heap→J.stop i H →
  wpAny (model P w) X.A (pyNext (.ref it)) (fun r s1=>r=none∧Inv X pins σ H s1) E s
 self:∀ (A:Around) (i:Nat) (s:Shared) (Q:Value→Shared→Prop) (E:Value→Shared→Prop),tn i s.heap→Q (.ref it) s→wpAny (model P w) A (pyIter (.ref it)) Q E s
noncomputable abbrev TI:=St→Hp→(It→Hp→Prop)→Prop
def PIE (X:Cx) (pins:List (Addr×Obj)) (σ:St) (tg:Expr) (R:It→Hp→Prop) (itv:Value) (s2:Shared):Prop :=
 ∃ (it:Addr) (fp:List Addr) (tn:Nat→Heap→Prop) (J:It) (H':Hp),itv=.ref it∧Inv X pins σ H' s2∧xa1 X.prog X.w X.K tg J fp it tn∧tn 0 s2.heap∧(∀ b∈fp,ye6 X pins H' b)∧R J H'
def PI (X:Cx) (tg iter:Expr) (wi:TI):Prop :=
 ∀ (pins:List (Addr×Obj)) (s:Shared) (σ:St) (H:Hp) (R:It→Hp→Prop),Inv X pins σ H s→wi σ H R →
  wpAny (model X.prog X.w) X.A (eval iter X.env) (fun v s1=>wpAny (model X.prog X.w) X.A (pyIter v) (PIE X pins σ tg R) X.xe s1) X.xe s
theorem ys1 {M:Model} {A:Around} {E:Value→Shared→Prop} {s:Shared} {tg:Expr} {it:Addr} {u:Value} {o:Obj} {n:String} {vs:Array Value} {Q:Unit→Shared→Prop} (ho:s.heap.get? it=some o) (hc:o.cls=.type n) (hd:o.data=.fields vs)
    (hn:["enumerate", "zip", "dict_itemiterator", "dict_reverseitemiterator", "odict_iterator", "itertools.zip_longest", "itertools.pairwise"].contains n=false) (hQ:Q () s):wpAny M A (letOwnedTupleGo tg (.ref it) u) Q E s:=by
  unfold letOwnedTupleGo
  cases tg <;> first
    | exact wpAny_pure hQ
    | (cases u <;> first
        | exact wpAny_pure hQ
        | (refine wpAny_bind (wpAny_load ho ?_)
           rw [hc,hd]
           show wpAny M A (if (["enumerate", "zip", "dict_itemiterator", "dict_reverseitemiterator", "odict_iterator", "itertools.zip_longest", "itertools.pairwise"].contains n&&vs[0]?==some (rawInt _))=true then _ else _) Q E s
           rw [if_neg (by intro h;rw [hn,Bool.false_and] at h;cases h)]
           exact wpAny_pure hQ))
noncomputable def Itl (K:Frag) (a:Addr):It :=
 ⟨fun i H=>∃ xs x,SqL K H a xs∧xs[i]?=some x,fun i H x H'=>H'=H∧∀ xs,SqL K H a xs→xs[i]?=some x,fun i H=>∃ xs,SqL K H a xs∧xs.length≤i⟩
noncomputable def Itt (K:Frag) (a:Addr):It :=
 ⟨fun i H=>∃ xs x,SqT K H a xs∧xs[i]?=some x,fun i H x H'=>H'=H∧∀ xs,SqT K H a xs→xs[i]?=some x,fun i H=>∃ xs,SqT K H a xs∧xs.length≤i⟩
noncomputable def Itr (lo:Int) (n:Nat):It:=⟨fun i _=>i<n,fun i H x H'=>H'=H∧x=.int (lo+i),fun i _=>n≤i⟩
theorem yj2 {P:Program} {w:World} {K:Frag} {tg:Expr} (a it:Addr):xa1 P w K tg (Itl K a) [it] it (fun i h=>h.IsListIter it a i) where
 mem:=by simp
 obj:=fun i h st b hb=>by
  have e:b=it:=by simpa using hb
  subst e
  obtain ⟨o,e,c,d⟩:=st
  exact ⟨o,e,fun v z=>by rw [d] at z;cases z⟩
 keep:=fun i h h' st k=>st.at fun o e=>k it (by simp) o e
 item:=by
  intro X hP hw hK hc i pins s σ H E I hf st hg
  subst hP hw hK
  obtain ⟨xs,x,hq,hx⟩:=hg
  obtain ⟨its,rv,p,hz⟩:=I.list hq
  obtain ⟨u,hu,ru⟩:=rv.get hx
  obtain ⟨f0,f1,f2,f3,f4,f5⟩:=hf it (by simp)
  refine wpAny_pyNext_list_item st p.isList (x:=u) (by simpa using hu) fun h' st' sb=>?_
  have I1:Inv X pins σ H { s with heap:=h' }:=I.turned (t':=s.toks) (fun b o hb e=>(sb.2 b hb).trans e) f0 f1 f3 f4 f5
  obtain ⟨o,e,c,d⟩:=id st'
  exact ⟨u,rfl,ys1 (s:={ s with heap:=h' }) e c d (by decide) ⟨x,H,I1,ru,⟨rfl,fun ys hy=>by rw [I.list_inj hy hq];exact hx⟩,st',fun b hb=>(hf b hb).1⟩⟩
 done:=by
  intro X hP hw hK hc i pins s σ H E I hf st hg
  subst hP hw hK
  obtain ⟨xs,hq,hx⟩:=hg
  obtain ⟨its,rv,p,hz⟩:=I.list hq
  obtain ⟨f0,f1,f2,f3,f4,f5⟩:=hf it (by simp)
  have hl:=rv.length
  exact wpAny_pyNext_list_end (I.ok.hd hc) st p.isList (by simp;lia) fun h' eb=>⟨rfl,I.turned (t':=s.toks) (fun b o hb e=>eb b o hb e) f0 f1 f3 f4 f5⟩
 self:=fun _ _ _ _ _ st h=>wpAny_pyIter_listiter st h
theorem yb8 {P:Program} {w:World} {K:Frag} {tg:Expr} (a it:Addr):xa1 P w K tg (Itt K a) [it] it (fun i h=>h.IsTupleIter it a i) where
 mem:=by simp
 obj:=fun i h st b hb=>by
  have e:b=it:=by simpa using hb
  subst e
  obtain ⟨o,e,c,d⟩:=st
  exact ⟨o,e,fun v z=>by rw [d] at z;cases z⟩
 keep:=fun i h h' st k=>st.at fun o e=>k it (by simp) o e
 item:=by
  intro X hP hw hK hc i pins s σ H E I hf st hg
  subst hP hw hK
  obtain ⟨xs,x,hq,hx⟩:=hg
  obtain ⟨its,rv,p,hz⟩:=I.tuple hq
  obtain ⟨u,hu,ru⟩:=rv.get hx
  obtain ⟨f0,f1,f2,f3,f4,f5⟩:=hf it (by simp)
  refine wpAny_pyNext_tuple_item st (show s.heap.IsTuple a its.toArray from p) (x:=u) (by simpa using hu) fun h' st' sb=>?_
  have I1:Inv X pins σ H { s with heap:=h' }:=I.turned (t':=s.toks) (fun b o hb e=>(sb.2 b hb).trans e) f0 f1 f3 f4 f5
  obtain ⟨o,e,c,d⟩:=id st'
  exact ⟨u,rfl,ys1 (s:={ s with heap:=h' }) e c d (by decide) ⟨x,H,I1,ru,⟨rfl,fun ys hy=>by rw [I.tuple_inj hy hq];exact hx⟩,st',fun b hb=>(hf b hb).1⟩⟩
 done:=by
  intro X hP hw hK hc i pins s σ H E I hf st hg
  subst hP hw hK
  obtain ⟨xs,hq,hx⟩:=hg
  obtain ⟨its,rv,p,hz⟩:=I.tuple hq
  obtain ⟨f0,f1,f2,f3,f4,f5⟩:=hf it (by simp)
  have hl:=rv.length
  exact wpAny_pyNext_tuple_end (I.ok.hd hc) st (show s.heap.IsTuple a its.toArray from p) (by simp;lia) fun h' eb=>⟨rfl,I.turned (t':=s.toks) (fun b o hb e=>eb b o hb e) f0 f1 f3 f4 f5⟩
 self:=fun _ _ _ _ _ st h=>wpAny_pyIter_tupleiter st h
theorem yd1 {P:Program} {w:World} {K:Frag} {tg:Expr} (it:Addr) (lo:Int) (n:Nat):xa1 P w K tg (Itr lo n) [it] it (fun i h=>IsRangeIter h it (lo+(i:Nat) * 1) ((n:Int) - (i:Nat)) 1) where
 mem:=by simp
 obj:=fun i h st b hb=>by
  have e:b=it:=by simpa using hb
  subst e
  exact ⟨_,st,fun v z=>by
   have z':Data.fields _=Data.cell v:=z
   cases z'⟩
 keep:=fun i h h' st k=>k it (by simp) _ st
 item:=by
  intro X hP hw hK hc i pins s σ H E I hf st hg
  subst hP hw hK
  obtain ⟨f0,f1,f2,f3,f4,f5⟩:=hf it (by simp)
  have W:=Walks.range (prog:=X.prog) (w:=X.w) (I.ok.hd hc) it lo 1 n
  refine W.item i s _ _ hg st fun v h' tk hv st' kk=>?_
  obtain ⟨t,rfl⟩:=hv
  have I1:Inv X pins σ H { s with heap:=h',toks:=tk }:=I.turned (fun b o hb e=>kk b o (by simpa using hb) e) f0 f1 f3 f4 f5
  refine ⟨_,rfl,ys1 (s:={ s with heap:=h',toks:=tk }) (n := "range_iterator") st' rfl rfl (by decide) ⟨.int (lo+i),H,I1,⟨t,?_⟩,⟨rfl,rfl⟩,st',fun b hb=>(hf b hb).1⟩⟩
  rw [Int.mul_one]
 done:=by
  intro X hP hw hK hc i pins s σ H E I hf st hg
  subst hP hw hK
  obtain ⟨f0,f1,f2,f3,f4,f5⟩:=hf it (by simp)
  exact wpAny_pyNext_range_end (I.ok.hd hc) st (by have:n≤i:=hg;lia) fun h' eb=>⟨rfl,I.turned (t':=s.toks) (fun b o hb e=>eb b o hb e) f0 f1 f3 f4 f5⟩
 self:=fun _ _ _ _ _ st h=>wpAny_pyIter_rangeiter st h
section
variable {X:Cx} {tg:Expr}
theorem yw8 {pins:List (Addr×Obj)} {σ:St} {H:Hp} {s:Shared} {R:It→Hp→Prop} {E:Value→Shared→Prop} {lo hi:Int} {t u v:Tok} {tk:Nat} (I:Inv X pins σ H s) (h1:-(2 ^ 62)≤lo) (h2:lo<2 ^ 62) (h3:-(2 ^ 62)≤hi) (h4:hi<2 ^ 62)
  (q:R (Itr lo (hi - lo).toNat) H):wpAny (model X.prog X.w) X.A (pyIter (.ref s.heap.objs.size)) (PIE X pins σ tg R) E { s with heap:=s.heap.push { cls:=.type "range", data:=.fields #[.int lo t,.int hi u,.int 1 v] },toks:=tk }:=by
 refine wpAny_pyIter_range (IsRange.new ..) (small_one h1 h2 h3 h4) ?_
 have I1:Inv X pins σ H { s with heap:=s.heap.push { cls:=.type "range", data:=.fields #[.int lo t,.int hi u,.int 1 v] },toks:=tk }:=I.kept fun b o e=>Heap.get?_push_of_some _ e
 refine ⟨(s.heap.push { cls:=.type "range", data:=.fields #[.int lo t,.int hi u,.int 1 v] }).objs.size,[(s.heap.push { cls:=.type "range", data:=.fields #[.int lo t,.int hi u,.int 1 v] }).objs.size],_,_,H,rfl,
  I1.kept (t':=tk) fun b o e=>Heap.get?_push_of_some _ e,yd1 _ lo (hi - lo).toNat,?_,fun b hb=>?_,q⟩
 ·have e1:lo+((0:Nat):Int) * 1=lo:=by simp
  have e2:(((hi - lo).toNat:Nat):Int) - ((0:Nat):Int)=Builtin.Range.rangeSize lo hi 1:=by rw [rangeSize_one];split <;> lia
  show IsRangeIter _ _ (lo+((0:Nat):Int) * 1) ((((hi - lo).toNat:Nat):Int) - ((0:Nat):Int)) 1
  rw [e1,e2]
  exact Heap.get?_push_size _ rfl
 ·have e:b=(s.heap.push { cls:=.type "range", data:=.fields #[.int lo t,.int hi u,.int 1 v] }).objs.size:=by simpa using hb
  subst e
  exact I1.fpOk (Nat.le_refl _) (I1.hok.fresh (Nat.le_refl _))
noncomputable def xk7 (ta:TA):TI:=fun σ H R=>ta σ H fun vs H1=>∃ j:Int,vs=[.int j]∧-(2 ^ 62)≤j∧j<2 ^ 62∧R (Itr 0 j.toNat) H1
theorem yi2 {a:Expr} {ta:TA} {p pos:Pos} (hg:Gl X "range") (hm:X.mg "range" = none) (ha:PA X [a] ta) (hs:starEach [a] X.env=[(false,eval a X.env)]):PI X tg (.Call (.Name "range" p) [a] [] pos) (xk7 ta):=by
 intro pins s σ H R I h
 refine Call_ (zW4 I hg hm boot_range (PyProof.Rows.callWith_type1 (thn (ha pos pins s σ H _ I h) fun us s1 ⟨vs,H1,I1,r1,q1⟩=>?_) hs rfl))
 obtain ⟨j,e,q1,q2,q⟩:=q1
 subst e
 cases r1 with
 | cons r rr =>
  cases rr
  obtain ⟨t,rfl⟩:=r
  exact call_range_1 (yw8 I1 (by lia) (by lia) q1 q2 (by simpa using q))
noncomputable def tFor (wi:TI) (g:TG) (tb:TS):TS:=fun D σ H=>wi σ H fun J H1=>∃ W:Nat→Nat→St→Hp→Prop,(∃ m,W 0 m σ H1)∧∀ i m σ H,W i m σ H →
 (J.stop i H∧D.nx σ H)∨(J.go i H∧∃ N:St→Hp→Prop,(∀ σ' H',N σ' H'→∃ m',m'<m∧W (i+1) m' σ' H')∧∀ x H',J.yld i H x H'→g x σ H' fun σ2 H2=>tb { D with nx:=N,ct:=N,bk:=D.nx } σ2 H2)
noncomputable def zI7 (fp:List Addr) (h:Heap):List (Addr×Obj):=fp.filterMap fun b=>(h.get? b).map fun o=>(b,o)
theorem zl0 {fp:List Addr} {h:Heap} {b:Addr} {o:Obj} (hb:b∈fp) (e:h.get? b=some o):(b,o)∈zI7 fp h:=List.mem_filterMap.mpr ⟨b,hb,by rw [e];rfl⟩
theorem yp9 {fp:List Addr} {h:Heap} {p:Addr×Obj} (hp:p∈zI7 fp h):p.1∈fp∧h.get? p.1=some p.2:=by
 obtain ⟨b,hb,e⟩:=List.mem_filterMap.mp hp
 cases q:h.get? b with
 | none=>rw [q] at e;cases e
 | some o =>
  rw [q] at e
  have e':(b,o)=p:=Option.some.inj e
  subst e'
  exact ⟨hb,q⟩
theorem Inv.pinned {pins:List (Addr×Obj)} {σ:St} {H:Hp} {s:Shared} {fp:List Addr} (I:Inv X pins σ H s) (hf:∀ b∈fp,ye6 X pins H b) (ho:∀ b∈fp,∃ o,s.heap.get? b=some o∧∀ v,o.data≠.cell v):Inv X (pins++zI7 fp s.heap) σ H s :=
 I.pins_of fun p hp=>(List.mem_append.mp hp).elim (fun z=>I.pin p (List.mem_append_right _ z)) fun z=>by
  obtain ⟨hb,e⟩:=yp9 z
  obtain ⟨f0,f1,f2,_⟩:=hf p.1 hb
  obtain ⟨o,e',d⟩:=ho p.1 hb
  rw [e] at e';cases e'
  exact ⟨e,f0,f1,f2,d⟩
theorem Inv.unpinned {pins pl:List (Addr×Obj)} {σ:St} {H:Hp} {s:Shared} (I:Inv X (pins++pl) σ H s):Inv X pins σ H s:=I.pins_of fun p hp=>I.pin p (List.mem_append_right _ (List.mem_append_left _ hp))
theorem yN3 {iter:Expr} {body:List Stmt} {wi:TI} {g:TG} {tb:TS} {pos:Pos} (hp:PassesOwn (model X.prog X.w) X.A X.env X.xe) (hc:X.calm=true) (hi:PI X tg iter wi) (hg:PG X tg g) (hb:PSs X body tb)
  (hs:∀ x,foldedSetIterable iter X.env x=pure x):PS X (.For tg iter body [] pos) (tFor wi g tb):=by
 intro pins s σ H D I h
 refine wpAny_For (thn (hi pins s σ H _ I h) fun v s1 h1=>thn h1 fun itv s2 h2=>?_) hs
 obtain ⟨it,fp,tn,J,H2,e,I2,T,st2,f2,W,⟨m0,w0⟩,turn⟩:=h2
 subst e
 -- what stays true of the iterator's objects through the loop
 have stat:∀ {H':Hp},(∀ b∈fp,H' b=none)→∀ b∈fp,ye6 X pins H' b:=fun hn b hb=>⟨hn b hb,(f2 b hb).2⟩
 refine codeAny_forLoop_any (fun n s'=>∃ i σ' H',Inv X pins σ' H' s'∧tn i s'.heap∧(∀ b∈fp,H' b=none)∧W i n σ' H') ?_ m0 ⟨0,σ,H2,I2,st2,fun b hb=>(f2 b hb).1,w0⟩
 rintro n s3 ⟨i,σ3,H3,I3,st3,fr3,w3⟩
 rcases turn i n σ3 H3 w3 with ⟨stop,qn⟩ | ⟨go,N,hN,step⟩
 ·refine wpAny_passesOwn hp (thn (T.done X rfl rfl rfl hc i pins s3 σ3 H3 X.xe I3 (stat fr3) st3 stop) fun r s4 h_=>?_)
  obtain ⟨hr,I4⟩:=h_
  subst hr
  exact wpAny_execs_nil ⟨σ3,H3,I4,qn⟩
 ·refine wpAny_passesOwn hp (thn (T.item X rfl rfl rfl hc i pins s3 σ3 H3 X.xe I3 (stat fr3) st3 go) fun r s4 h_=>?_)
  obtain ⟨u,hr,h4⟩:=h_
  subst hr
  refine wpAny_passesOwn hp (thn h4 fun _ s5 h_=>?_)
  obtain ⟨x,H5,I5,r5,y5,st5,fr5⟩:=h_
  have I5':=I5.pinned (stat fr5) (T.obj _ _ st5)
  refine wpAny_passesOwn hp (thn (hg _ s5 σ3 H5 x u _ I5' r5 (step x H5 y5)) fun _ s6 h_=>?_)
  obtain ⟨σ6,H6,I6,q6⟩:=h_
  refine wpAny_passesOwn hp (thn (hb _ s6 σ6 H6 _ I6 q6) fun f s7 q7=>?_)
  have again:∀ {σ7:St} {H7:Hp},Inv X (pins++zI7 fp s5.heap) σ7 H7 s7→N σ7 H7→∃ m,m<n∧∃ i σ' H',Inv X pins σ' H' s7∧tn i s7.heap∧(∀ b∈fp,H' b=none)∧W i m σ' H':=fun {σ7 H7} I7 n7=>by
   obtain ⟨m',hm,w7⟩:=hN σ7 H7 n7
   refine ⟨m',hm,i+1,σ7,H7,I7.unpinned,T.keep _ _ _ st5 fun b hb o e=>(I7.pin (b,o) (List.mem_append_right _ (List.mem_append_right _ (zl0 hb e)))).1,fun b hb=>?_,w7⟩
   obtain ⟨o,e,d⟩:=T.obj _ _ st5 b hb
   exact (I7.pin (b,o) (List.mem_append_right _ (List.mem_append_right _ (zl0 hb e)))).2.1
  cases f with
  | next=>obtain ⟨σ7,H7,I7,n7⟩:=q7;exact again I7 n7
  | cont=>obtain ⟨σ7,H7,I7,n7⟩:=q7;exact again I7 n7
  | brk=>obtain ⟨σ7,H7,I7,q7⟩:=q7;exact ⟨σ7,H7,I7.unpinned,q7⟩
  | ret v=>obtain ⟨x7,σ7,H7,I7,r7,q7⟩:=q7;exact ⟨x7,σ7,H7,I7.unpinned,r7,q7⟩
end
noncomputable abbrev R2:=V→V→Hp→VK→Prop
def OpR (X:Cx) (f:Value→Value→Sem Value) (r:R2):Prop :=
 ∀ (pins:List (Addr×Obj)) (s:Shared) (σ:St) (H:Hp) (x y:V) (v u:Value) (Q:VK),Inv X pins σ H s→RelV x v→RelV y u→r x y H Q →
  wpAny (model X.prog X.w) X.A (f v u) (EP X pins σ Q) X.xe s
def UnR (X:Cx) (f:Value→Sem Value) (r:V→Hp→VK→Prop):Prop :=
 ∀ (pins:List (Addr×Obj)) (s:Shared) (σ:St) (H:Hp) (x:V) (v:Value) (Q:VK),Inv X pins σ H s→RelV x v→r x H Q →
  wpAny (model X.prog X.w) X.A (f v) (EP X pins σ Q) X.xe s
def zH2 (X:Cx) (f:Value) (r:List V→Hp→VK→Prop):Prop :=
 ∀ (pins:List (Addr×Obj)) (s:Shared) (σ:St) (H:Hp) (xs:List V) (us:List Value) (Q:VK),Inv X pins σ H s→zg6 xs us→r xs H Q →
  wpAny (model X.prog X.w) X.A (call f us) (EP X pins σ Q) X.xe s
noncomputable def tOp (r:R2) (ta tb:TE):TE:=fun σ H Q=>ta σ H fun x H1=>tb σ H1 fun y H2=>r x y H2 Q
noncomputable def tUn (r:V→Hp→VK→Prop) (ta:TE):TE:=fun σ H Q=>ta σ H fun x H1=>r x H1 Q
noncomputable def rI (C:Int→Int→Prop) (g:Int→Int→V):R2:=fun x y H Q=>∃ i j,x=.int i∧y=.int j∧C i j∧Q (g i j) H
noncomputable def rI0 (g:Int→Int→V):R2:=fun x y H Q=>∃ i j,x=.int i∧y=.int j∧Q (g i j) H
def rU (g:Int→V):V→Hp→VK→Prop:=fun x H Q=>∃ i,x=.int i∧Q (g i) H
section
variable {X:Cx} {a b c:Expr} {ta tb tc:TE} {pos:Pos}
theorem xf0 (ha:PE X a ta) (hb:PE X b tb) {pins:List (Addr×Obj)} {s:Shared} {σ:St} {H:Hp} {R:V→V→Hp→Prop} (I:Inv X pins σ H s)
  (h:ta σ H fun x H1=>tb σ H1 fun y H2=>R x y H2) {Q:Value→Shared→Prop} {f:Value→Value→Sem Value}
  (hf:∀ v u s2 x y H2,Inv X pins σ H2 s2→RelV x v→RelV y u→R x y H2→wpAny (model X.prog X.w) X.A (f v u) Q X.xe s2) :
  wpAny (model X.prog X.w) X.A (eval a X.env) (fun v s₁=>wpAny (model X.prog X.w) X.A (eval b X.env) (fun u s₂=>wpAny (model X.prog X.w) X.A (f v u) Q X.xe s₂) X.xe s₁) X.xe s:=by
 refine thn (ha pins s σ H _ I h) fun v s1 h_=>?_
 obtain ⟨x,H1,I1,r1,q1⟩:=h_
 refine thn (hb pins s1 σ H1 _ I1 q1) fun u s2 h_=>?_
 obtain ⟨y,H2,I2,r2,q2⟩:=h_
 exact hf v u s2 x y H2 I2 r1 r2 q2
theorem yU0 {op:Operator} {r:R2} (ho:OpR X (binaryOp op) r) (ha:PE X a ta) (hb:PE X b tb):PE X (.BinOp a op b pos) (tOp r ta tb):=by
 intro pins s σ H Q I h
 exact wpAny_BinOp (xf0 ha hb I h fun v u s2 x y H2 I2 rx ry q=>ho pins s2 σ H2 x y v u Q I2 rx ry q)
theorem yZ3 {op:UnaryOp} {r:V→Hp→VK→Prop} (ho:UnR X (unaryOp op) r) (ha:PE X a ta):PE X (.UnaryOp op a pos) (tUn r ta):=by
 intro pins s σ H Q I h
 exact UnaryOp_ (thn (ha pins s σ H _ I h) fun v s1 ⟨x,H1,I1,r1,q1⟩=>ho pins s1 σ H1 x v Q I1 r1 q1)
theorem opI {f:Value→Value→Sem Value} {C:Int→Int→Prop} {g:Int→Int→Int}
  (rule:∀ (i j:Int) (t u:Tok) (s:Shared) (Q:Value→Shared→Prop) (E:Value→Shared→Prop),C i j→Q (.int (g i j) s.toks) { s with toks:=s.toks+1 }→wpAny (model X.prog X.w) X.A (f (.int i t) (.int j u)) Q E s) :
  OpR X f (rI C fun i j=>.int (g i j)):=by
 intro pins s σ H x y v u Q I rx ry h
 obtain ⟨i,j,rfl,rfl,hc,q⟩:=h
 obtain ⟨t,rfl⟩:=rx
 obtain ⟨t',rfl⟩:=ry
 exact rule i j t t' s _ _ hc ⟨.int (g i j),H,I.tok _,⟨_,rfl⟩,q⟩
theorem opI0 {f:Value→Value→Sem Value} {g:Int→Int→Int}
  (rule:∀ (i j:Int) (t u:Tok) (s:Shared) (Q:Value→Shared→Prop) (E:Value→Shared→Prop),Q (.int (g i j) s.toks) { s with toks:=s.toks+1 }→wpAny (model X.prog X.w) X.A (f (.int i t) (.int j u)) Q E s) :
  OpR X f (rI0 fun i j=>.int (g i j)):=by
 intro pins s σ H x y v u Q I rx ry h
 obtain ⟨i,j,rfl,rfl,q⟩:=h
 obtain ⟨t,rfl⟩:=rx
 obtain ⟨t',rfl⟩:=ry
 exact rule i j t t' s _ _ ⟨.int (g i j),H,I.tok _,⟨_,rfl⟩,q⟩
theorem xe4 {f:Value→Value→Sem Value} {g:Int→Int→Bool}
  (rule:∀ (i j:Int) (t u:Tok) (s:Shared) (Q:Value→Shared→Prop) (E:Value→Shared→Prop),Q (.bool (g i j)) s→wpAny (model X.prog X.w) X.A (f (.int i t) (.int j u)) Q E s) :
  OpR X f (rI0 fun i j=>.bl (g i j)):=by
 intro pins s σ H x y v u Q I rx ry h
 obtain ⟨i,j,rfl,rfl,q⟩:=h
 obtain ⟨t,rfl⟩:=rx
 obtain ⟨t',rfl⟩:=ry
 exact rule i j t t' s _ _ ⟨.bl (g i j),H,I,rfl,q⟩
def CDiv (i j:Int):Prop:=0<j∧j<1073741824
def CPow (i j:Int):Prop:=0≤j∧j≤1000000∧i.natAbs<2 ^ 64
def xf8 (i j:Int):Prop:=(-(2 ^ 64)<i∧i<2 ^ 64)∨(-(2 ^ 64)<j∧j<2 ^ 64)
theorem xf8.ok {i j:Int} (h:xf8 i j):IntMulOk i j:=by
 rcases h with ⟨h1,h2⟩ | ⟨h1,h2⟩
 ·exact .of_left (intBits_le_64 h1 h2)
 ·exact .of_right (intBits_le_64 h1 h2)
theorem yP6:OpR X (binaryOp .Add) (rI0 fun i j=>.int (i+j)):=opI0 fun _ _ _ _ _ _ _ q=>add_int q
theorem yV1:OpR X (binaryOp .Sub) (rI0 fun i j=>.int (i - j)):=opI0 fun _ _ _ _ _ _ _ q=>sub_int q
theorem yW2:OpR X (binaryOp .Mult) (rI xf8 fun i j=>.int (i * j)):=opI fun _ _ _ _ _ _ _ hc q=>mul_int q hc.ok
theorem xg2:OpR X (binaryOp .FloorDiv) (rI CDiv fun i j=>.int (i / j)):=opI fun i j _ _ _ _ _ hc q=>by
 have h1:(0:Int)<j:=hc.1
 have h2:j<1073741824:=hc.2
 exact floordiv_int (by lia) (by rw [Int.fdiv_eq_ediv_of_nonneg i (by lia)];exact q) (.inl (PyProof.noPylong_small (by lia)))
theorem yT4:OpR X (binaryOp .Mod) (rI (fun _ j=>0<j) fun i j=>.int (i % j)):=opI fun i j _ _ _ _ _ hc q=>by
 have h1:(0:Int)<j:=hc
 exact mod_int' (by lia) (by rw [Int.fmod_eq_emod_of_nonneg i (by lia)];exact q)
theorem yU5:OpR X (binaryOp .Pow) (rI CPow fun i j=>.int (i ^ j.toNat)):=opI fun _ _ _ _ _ _ _ hc q=>pow_int_small hc.1 hc.2.1 hc.2.2 q
theorem unI {f:Value→Sem Value} {g:Int→Int}
  (rule:∀ (i:Int) (t:Tok) (s:Shared) (Q:Value→Shared→Prop) (E:Value→Shared→Prop),Q (.int (g i) s.toks) { s with toks:=s.toks+1 }→wpAny (model X.prog X.w) X.A (f (.int i t)) Q E s) :
  UnR X f (rU fun i=>.int (g i)):=by
 intro pins s σ H x v Q I rx h
 obtain ⟨i,rfl,q⟩:=h
 obtain ⟨t,rfl⟩:=rx
 exact rule i t s _ _ ⟨.int (g i),H,I.tok _,⟨_,rfl⟩,q⟩
theorem yy8:UnR X (unaryOp .USub) (rU fun i=>.int (-i)):=unI fun _ _ _ _ _ q=>neg_int q
end
section
variable {X:Cx} {a b c:Expr} {ta tb tc:TE} {pos:Pos}
theorem yy7 {pins:List (Addr×Obj)} {σ:St} {H:Hp} {s:Shared} {Q:VK} {k k':Bool} (I:Inv X pins σ H s) (q:Q (.bl k) H) (e:k=k'):EP X pins σ Q (.bool k') s:=by
 subst e
 exact ⟨.bl k,H,I,rfl,q⟩
theorem xd3:OpR X (compareOp .Lt) (rI0 fun i j=>.bl (decide (i<j))):=xe4 fun _ _ _ _ _ _ _ q=>lt_int q
theorem xe8:OpR X (compareOp .Gt) (rI0 fun i j=>.bl (decide (j<i))):=xe4 fun _ _ _ _ _ _ _ q=>gt_int q
theorem xh1:OpR X (compareOp .GtE) (rI0 fun i j=>.bl (decide (j≤i))):=xe4 fun _ _ _ _ _ _ _ q=>ge_int q
theorem yj4:OpR X (compareOp .In) (fun x y H Q=>∃ i j,x=.str i∧y=.str j∧Q (.bl (!(Builtin.Str.occurrences j i 0 j.length 1).isEmpty)) H):=by
 intro pins s σ H x y v u Q I rx ry h
 obtain ⟨i,j,rfl,rfl,q⟩:=h
 obtain ⟨t,rfl⟩:=rx
 obtain ⟨t',rfl⟩:=ry
 exact in_str (yy7 I q rfl)
theorem yQ9:OpR X (compareOp .Is) (fun x y H Q=>y=.non∧Q (.bl (decide (x=.non))) H):=by
 intro pins s σ H x y v u Q I rx ry h
 obtain ⟨rfl,q⟩:=h
 cases ry
 refine is_none_gen (yy7 I q ?_)
 cases x <;> first
  | (cases rx;rfl)
  | (obtain ⟨t,rfl⟩:=rx;rfl)
theorem ze4 (b:Expr) {op:CmpOp} (h:op≠.In:=by decide) (h2:op≠.NotIn:=by decide):behindInMarks op b=false:=by
 have e1:(op==CmpOp.In)=false:=by cases op <;> first | rfl | exact absurd rfl h
 have e2:(op==CmpOp.NotIn)=false:=by cases op <;> first | rfl | exact absurd rfl h2
 cases b <;> simp [behindInMarks,e1,e2]
theorem yI8 {op:CmpOp} {r:R2} (ho:OpR X (compareOp op) r) (ha:PE X a ta) (hb:PE X b tb) (hm:behindInMarks op b=false):PE X (.Compare a [op] [b] pos) (tOp r ta tb):=by
 intro pins s σ H Q I h
 exact wpAny_Compare1 (xf0 ha hb I h fun v u s2 x y H2 I2 rx ry q=>ho pins s2 σ H2 x y v u Q I2 rx ry q) hm
noncomputable def xi3 (t:TE):TT:=fun σ H Q=>t σ H fun x H'=>∃ k,x=.bl k∧Q k H'
theorem yK5 {op:CmpOp} {r:R2} (ho:OpR X (compareOp op) r) (ha:PE X a ta) (hb:PE X b tb) (hm:behindInMarks op b=false):PT X (.Compare a [op] [b] pos) (xi3 (tOp r ta tb)):=by
 intro pins s σ H Q I h
 refine wpAny_isTrue_Compare1 (thn (ha pins s σ H _ I h) fun v s1 ⟨x,H1,I1,r1,q1⟩=>thn (hb pins s1 σ H1 _ I1 q1) fun u s2 ⟨y,H2,I2,r2,q2⟩ =>
  thn (ho pins s2 σ H2 x y v u _ I2 r1 r2 q2) fun c s3 ⟨z,H3,I3,r3,k,e,q3⟩=>?_) hm
 subst e
 cases r3
 exact wpAny_truthy_bool ⟨H3,I3,q3⟩
theorem zI6:(sizeLine:Nat)<2 ^ 63:=by rw [sizeLine_eq];decide
theorem ye3:OpR X (binaryOp .Add) (fun x y H Q=>∃ i j,x=.str i∧y=.str j∧i.length+j.length≤sizeLine∧Q (.str (i++j)) H):=by
 intro pins s σ H x y v u Q I rx ry h
 obtain ⟨i,j,rfl,rfl,hz,q⟩:=h
 obtain ⟨t,rfl⟩:=rx
 obtain ⟨t',rfl⟩:=ry
 exact add_str (fun t' tk=>⟨.str (i++j),H,I.tok _,⟨_,rfl⟩,q⟩) hz
theorem yd4 {x:V} {us:List Value} (r:zg6 [x] us):∃ u,us=[u]∧RelV x u:=by
 cases r with
 | cons r1 r2=>cases r2;exact ⟨_,rfl,r1⟩
theorem xj1 {x y:V} {us:List Value} (r:zg6 [x,y] us):∃ u w',us=[u,w']∧RelV x u∧RelV y w':=by
 cases r with
 | cons r1 r2 =>
  cases r2 with
  | cons r3 r4=>cases r4;exact ⟨_,_,rfl,r1,r3⟩
theorem yf6 (hc:X.calm=true):zH2 X (.builtin "max") (fun xs H Q=>∃ i j,xs=[.int i,.int j]∧Q (.int (if j > i then j else i)) H):=by
 intro pins s σ H xs us Q I r h
 obtain ⟨i,j,rfl,q⟩:=h
 obtain ⟨u,w',rfl,⟨t,rfl⟩,⟨t',rfl⟩⟩:=xj1 r
 refine max_two_ints (I.ok.hd hc) fun h' tk k=>⟨_,H,I.kept k,?_,q⟩
 by_cases hj:j > i
 ·rw [if_pos hj,if_pos hj];exact ⟨_,rfl⟩
 ·rw [if_neg hj,if_neg hj];exact ⟨_,rfl⟩
theorem zR4:zH2 X (.type "int") (fun xs H Q=>(∃ i,xs=[.int i]∧Q (.int i) H)∨∃ k,xs=[.bl k]∧Q (.int (if k then 1 else 0)) H):=by
 intro pins s σ H xs us Q I r h
 rcases h with ⟨i,rfl,q⟩ | ⟨k,rfl,q⟩
 ·obtain ⟨u,rfl,t,rfl⟩:=yd4 r
  exact call_int_int ⟨.int i,H,I,⟨_,rfl⟩,q⟩
 ·obtain ⟨u,rfl,r1⟩:=yd4 r
  cases r1
  exact call_int_bool ⟨.int (if k then 1 else 0),H,I.tok _,⟨_,rfl⟩,q⟩
end
structure xe2 (h:Heap) (x dx C:Addr) (mA:Str→Option Value):Prop where
 obj:h.get? x=some (PySem.W.instObj C dx)
 ns:h.Ns1 dx mA
 ne:dx≠x
theorem yn5 {h:Heap} {dx:Addr} {mA:Str→Option Value} (n:h.Ns1 dx mA):∃ od,h.get? dx=some od∧∀ name,PySem.W.lookIn name od=some (mA name):=by
 obtain ⟨o,es,ep,ho,hd,hk,_,hm⟩:=n
 refine ⟨o,ho,fun name=>?_⟩
 have e:=hm name
 unfold nsFind findBy at e
 rw [← Array.find?_toList] at e
 unfold PySem.W.lookIn
 rw [hd]
 dsimp only
 split
 ·rename_i y q
  rw [q] at e
  exact congrArg some e
 ·rename_i q
  rw [q] at e
  have a:es.toList.any (·.refKey)=false:=by
   rw [List.any_eq_false]
   intro y hy
   obtain ⟨z,t,hkey⟩:=hk y (Array.mem_toList_iff.mp hy)
   simp [DictEntry.refKey,hkey]
  have a':¬ es.toList.any (·.refKey)=true:=by rw [a];exact Bool.false_ne_true
  rw [if_neg a']
  exact congrArg some e
theorem xe2.look {h:Heap} {x dx C:Addr} {mA:Str→Option Value} (I:xe2 h x dx C mA):∃ od,PySem.W.InstAt h x (PySem.W.instObj C dx) C (some od)∧∀ name,PySem.W.lookIn name od=some (mA name) :=
 let ⟨od,ho,hl⟩:=yn5 I.ns
 ⟨od,⟨I.obj,rfl,rfl,ho⟩,hl⟩
section
variable {prog:Program} {w:World} {A:Around} {E:Value→Shared→Prop} {s:Shared} {K:Frag} {x dx C f:Addr} {mA:Str→Option Value} {name:Str} {v:Value}
end
theorem yj6.some_of {v:V} {o:Option Value} (r:yj6 (some v) o):∃ u,o=some u∧RelV v u:=by
 cases o with
 | none=>exact (show False from r).elim
 | some u=>exact ⟨u,rfl,r⟩
section
variable {P:Program} {w:World} {H H':Hp} {h h':Heap} {a C dx:Addr} {fs fs':List (Str×V)}
theorem yJ0 (hok:HOk P w H h) (e:H a=some (.ins C dx fs)):∃ mA,xe2 h a dx C mA∧(∀ f,yj6 (fs.lookup f) (mA f))∧PySem.Within mA (fs.map (·.1))∧fs.length≤1000∧H dx=some (.own a):=by
 obtain ⟨d,z,ne,ob,mA,n,r,q⟩:=(show zj6 P w H h a (.ins C dx fs) from hok a _ e)
 exact ⟨mA,⟨ob,n,ne⟩,r,q,z,d⟩
end
structure Cls (K:Frag) (C:Addr):Prop where
 pg:PySem.W.plainGet K C Str.empty=true
 hd:PySem.W.hasDictIn K C=true
 po:PySem.W.plainOver K C=true
 sa:PySem.W.findIn K (.ref C) "__setattr__" = some (some (.builtin "object.__setattr__"))
theorem Cls.get {K:Frag} {C:Addr} (c:Cls K C) (f:Str):PySem.W.plainGet K C f=true:=c.pg
section
variable {X:Cx} {pins:List (Addr×Obj)} {σ:St} {H:Hp} {s:Shared} {a C dx:Addr} {fs:List (Str×V)} {f:Str} {v:V} {A:Around} {E:Value→Shared→Prop}
end
section
variable {X:Cx} {o e value:Expr} {f:Str} {pos pos' tpos:Pos} {ta tv:TE}
end
section
variable {X:Cx} {pins:List (Addr×Obj)} {σ:St} {H:Hp} {s:Shared} {A:Around} {E:Value→Shared→Prop} {Q:Value→Shared→Prop} {c:Value} {b:Bool}
inductive yf1 (K:Frag) (H:Hp):V→Value→Prop where
 | non:yf1 K H .non (.type "NoneType")
 | bl (x:Bool):yf1 K H (.bl x) (.type "bool")
 | int (i:Int):yf1 K H (.int i) (.type "int")
 | str (x:Str):yf1 K H (.str x) (.type "str")
 | flt (x:UInt64):yf1 K H (.flt x) (.type "float")
 | lst {a:Addr} {xs:List V} (e:H a=some (.lst xs)):yf1 K H (.ref a) (.type "list")
 | frz {a:Addr} {o:Obj} {xs:List V} (e:H a=some (.frz o (.lst xs))):yf1 K H (.ref a) (.type "list")
 | tup {a:Addr} {xs:List V} (e:H a=some (.tup xs)):yf1 K H (.ref a) (.type "tuple")
 | dK {a:Addr} {kvs:List (Key×V)} (e:H a=some (.dK kvs)):yf1 K H (.ref a) (.type "dict")
 | dT {a:Addr} {kvs:List (List Key×V)} (e:H a=some (.dT kvs)):yf1 K H (.ref a) (.type "dict")
 | ins {a C dx:Addr} {fs:List (Str×V)} (e:H a=some (.ins C dx fs)) (cl:Cls K C) (ha:PySem.W.findIn K (.ref C) "__class__" = some (some (.builtin "object.__class__")))
   (hn:PySem.W.specialIn K (.builtin "object.__class__") "__get__" = some (some (.builtin "getset_descriptor.__get__"))) (htk:PySem.W.takesIn K (.builtin "object.__class__")=some true)
   (hm:PySem.W.mroIn K C (.type "object")=some true):yf1 K H (.ref a) (.ref C)
theorem zv7 {x:V} {u t:Value} (I:Inv X pins σ H s) (rx:RelV x u) (ty:yf1 X.K H x t) (e:PySem.W.kitOne X.K t c=some b) (h:∀ tk,Q (.bool b) { s with toks:=tk }) :
  wpAny (model X.prog X.w) A (call (.builtin "isinstance") [u,c]) Q E s:=by
 cases ty with
 | non=>cases (show u=Value.none from rx);exact PySem.W.kia_one PySem.W.kitx_none I.kIn True.intro e (fun z=>nomatch z) h
 | bl y=>cases (show u=Value.bool y from rx);exact PySem.W.kia_one PySem.W.kitx_bool I.kIn True.intro e (fun z=>nomatch z) h
 | int i=>obtain ⟨t,q⟩:=(show ∃ t,u=Value.int i t from rx);cases q;exact PySem.W.kia_one PySem.W.kitx_int I.kIn True.intro e (fun z=>nomatch z) h
 | str y=>obtain ⟨t,q⟩:=(show ∃ t,u=Value.str y t from rx);cases q;exact PySem.W.kia_one PySem.W.kitx_str I.kIn True.intro e (fun z=>nomatch z) h
 | flt y=>obtain ⟨t,q⟩:=(show ∃ t,u=Value.float y t from rx);cases q;exact PySem.W.kia_one PySem.W.kitx_float I.kIn True.intro e (fun z=>nomatch z) h
 | @lst a xs ea =>
  cases (show u=Value.ref a from rx)
  obtain ⟨_,_,n,_,h1⟩:=(show zj6 X.prog X.w H s.heap a (.lst xs) from I.hok a _ ea)
  exact PySem.W.kia_one PySem.W.kitx_list I.kIn ⟨_,h1,rfl⟩ e (fun z=>nomatch z) h
 | @frz a ob xs ea =>
  cases (show u=Value.ref a from rx)
  obtain ⟨_,_,_,n,_,h1⟩:=(show zj6 X.prog X.w H s.heap a (.frz ob (.lst xs)) from I.hok a _ ea)
  exact PySem.W.kia_one PySem.W.kitx_list I.kIn ⟨_,h1,rfl⟩ e (fun z=>nomatch z) h
 | @tup a xs ea =>
  cases (show u=Value.ref a from rx)
  obtain ⟨_,_,_,p⟩:=(show zj6 X.prog X.w H s.heap a (.tup xs) from I.hok a _ ea)
  obtain ⟨o,h1,h2,_⟩:=p
  exact PySem.W.kia_one PySem.W.kitx_tuple I.kIn ⟨o,h1,h2⟩ e (fun z=>nomatch z) h
 | @dK a kvs ea =>
  cases (show u=Value.ref a from rx)
  obtain ⟨_,_,vs,_,p⟩:=(show zj6 X.prog X.w H s.heap a (.dK kvs) from I.hok a _ ea)
  obtain ⟨o,es,ep,h1,h2,_⟩:=p
  exact PySem.W.kia_one PySem.W.kitx_dict I.kIn ⟨o,h1,h2.1⟩ e (fun z=>nomatch z) h
 | @dT a kvs ea =>
  cases (show u=Value.ref a from rx)
  obtain ⟨_,_,xs,_,o,es,ep,h1,h2,_⟩:=(show zj6 X.prog X.w H s.heap a (.dT kvs) from I.hok a _ ea)
  exact PySem.W.kia_one PySem.W.kitx_dict I.kIn ⟨o,h1,h2.1⟩ e (fun z=>nomatch z) h
 | @ins a C dx fs ea cl ha hn htk hm =>
  cases (show u=Value.ref a from rx)
  obtain ⟨mA,O,_⟩:=yJ0 I.hok ea
  obtain ⟨od,J,_⟩:=O.look
  exact PySem.W.kia_one (PySem.W.kitx_own (cl.get _) cl.hd ha hn htk hm) I.kIn J e (fun z=>nomatch z) h
end
structure zp3 (k:Nat) (A:Around):Prop where
 hd:A.handled=none
 dp:A.depth+3 * k+5<recursionLimit
 un:A.units+16 * k+200<cLine
 gd:A.guards=some []
theorem zp3.deeper {k:Nat} {A:Around} (r:zp3 (k+1) A) (env:Env):zp3 k (A.deeper env) :=
 ⟨r.hd,by have:=r.dp;show A.depth+1+3 * k+5<_;lia,by have:=r.un;show A.units+3+16 * k+200<_;lia,r.gd⟩
theorem zp3.depth {k:Nat} {A:Around} (r:zp3 k A):A.depth<recursionLimit:=by have:=r.dp;lia
noncomputable def tNil:TA:=fun _ H Q=>Q [] H
noncomputable def xf9 (ta:TE) (tr:TA):TA:=fun σ H Q=>ta σ H fun x H1=>tr σ H1 fun xs H2=>Q (x::xs) H2
section
variable {X:Cx} {e:Expr} {es:List Expr} {te:TE} {t:TA} {pos:Pos}
theorem yA7:PA X [] tNil:=fun _ _ _ _ H Q I h=>Calls.spliced_nil ⟨[],H,I,.nil,h⟩
theorem zV0 (ha:PE X e te) (hr:PA X es t) (hs:starEach (e::es) X.env=(false,eval e X.env)::starEach es X.env):PA X (e::es) (xf9 te t):=by
 intro pos pins s σ H Q I h
 rw [hs]
 show wpAny _ _ (spliced ((false,eval e X.env)::backTo pos (starEach es X.env))) _ _ s
 refine Calls.spliced_cons (thn (ha pins s σ H _ I h) fun u s1 h_=>?_)
 obtain ⟨x,H1,I1,r1,q1⟩:=h_
 exact thn (hr pos pins s1 σ H1 _ I1 q1) fun us s2 ⟨xs,H2,I2,r2,q2⟩=>⟨x::xs,H2,I2,.cons r1 r2,q2⟩
noncomputable def tTup (t:TA):TE:=fun σ H Q=>t σ H fun xs H1=>xs.length≤sizeLine∧∀ p,H1 p=none→Q (.ref p) (upd H1 p (.tup xs))
noncomputable def tLst (t:TA):TE:=fun σ H Q=>t σ H fun xs H1=>xs.length≤sizeLine∧∀ p,H1 p=none→Q (.ref p) (upd H1 p (.lst xs))
theorem yP7 {x1} (h:PA X es t):PE X (.Tuple es x1 pos) (tTup t):=by
 intro pins s σ H Q I hq
 refine wpAny_Tuple_spliced (thn (h pos pins s σ H _ I hq) fun us s1 ⟨xs,H1,I1,r,z,q⟩=>⟨by rw [← r.length];exact z,?_⟩)
 have hf:H1 s1.heap.objs.size=none:=I1.hok.fresh (Nat.le_refl _)
 refine ⟨.ref s1.heap.objs.size,upd H1 s1.heap.objs.size (.tup xs),I1.laid (t':=s1.toks) (fun b u e=>Heap.get?_push_of_some _ e) (Nat.le_refl _) ?_,rfl,q _ hf⟩
 exact ⟨z,us,r,⟨_,Heap.get?_push_size _ rfl,rfl,rfl,_,rfl⟩⟩
theorem yV2 (h:PA X es t):PE X (.List es pos) (tLst t):=by
 intro pins s σ H Q I hq
 refine wpAny_List_spliced (thn (h pos pins s σ H _ I hq) fun us s1 ⟨xs,H1,I1,r,z,q⟩=>⟨by rw [← r.length];exact z,?_⟩)
 have hf:H1 s1.heap.objs.size=none:=I1.hok.fresh (Nat.le_refl _)
 refine ⟨.ref s1.heap.objs.size,upd H1 s1.heap.objs.size (.lst xs),I1.laid (t':=s1.toks) (fun b u e=>Heap.get?_push_of_some _ e) (Nat.le_refl _) ?_,rfl,q _ hf⟩
 exact ⟨z,us,0,r,Heap.get?_push_size _ rfl⟩
end
noncomputable abbrev Sp:=List V→Hp→VK→XK→Prop
noncomputable abbrev CXT:=List Env→Hp→Shared→XK→Value→Shared→Prop
structure xb2 (P:Program) (w:World) (K:Frag) (mg:Str→Option Value) (base:Heap) (A:Around) (outer:List Env) (s:Shared) (H:Hp):Prop where
 frames:A.frames=some outer
 mod:Mod K mg base
 bs:∀ b o,base.get? b=some o→s.heap.get? b=some o∧H b=none
 bsz:base.objs.size≤s.heap.objs.size
 funs:s.heap.FunFrames base outer
 frf:∀ b∈frs outer,H b=none
 hok:HOk P w H s.heap
 bare:AllBare s.gens
def CE (outer:List Env) (P:Program) (w:World) (H:Hp) (s:Shared) (Q:VK) (u:Value) (s':Shared):Prop :=
 ∃ v H',s'.os=s.os∧AllBare s'.gens∧Un (frs outer) [] H H' s.heap s'.heap∧HOk P w H' s'.heap∧RelV v u∧Q v H'
def CR (CX:CXT) (outer:List Env) (P:Program) (w:World) (H:Hp) (s:Shared) (Q:VK) (E:XK) (r:Result) (s':Shared):Prop :=
 match r with
 | .ok (.ret u)=>CE outer P w H s Q u s'
 | .ok _=>False
 | .error e=>CX outer H s E e s'
structure zs8 (P:Program) (w:World) (K:Frag) (mg:Str→Option Value) (base:Heap) (CX:CXT) (k:Nat) (f:Addr) (fd:FuncData) (ps:List Str) (sp:Sp):Prop where
 len:∀ vs H Q E,sp vs H Q E→vs.length=ps.length
 run:∀ (A:Around) (outer:List Env) (s:Shared) (H:Hp) (args:Args) (us:List Value) (vs:List V) (Q:VK) (E:XK),zp3 k A→xb2 P w K mg base A outer s H→BindsTo s fd args (ps.zip us)→zg6 vs us→sp vs H Q E →
  codeAny (model P w) A (.call (.ref f) args) (CR CX outer P w H s Q E) s
section
variable {X:Cx} {pins:List (Addr×Obj)} {σ:St} {H:Hp} {s s':Shared}
theorem Inv.env0 (I:Inv X pins σ H s):xb2 X.prog X.w X.K X.mg X.base X.A X.stack s H :=
 ⟨I.ok.frames,I.ok.mod,I.bs,Nat.le_trans I.ok.bsz I.sz,I.stack,I.stkFree,I.hok,I.bare⟩
theorem Inv.after {Q:VK} {u:Value} (I:Inv X pins σ H s) (h:CE X.stack X.prog X.w H s Q u s'):EP X pins σ Q u s':=by
 obtain ⟨v,H',os,bare,un,hok,r,q⟩:=h
 obtain ⟨hh,g,d,t,os'⟩:=s'
 obtain rfl:os'=s.os:=os
 exact ⟨v,H',I.call (h':=hh) (g':=g) (d':=d) (t':=t) (ch:=[]) un hok bare (fun b z=>absurd z (by simp)),r,q⟩
end
noncomputable def xd9 (sp:Sp) (dvs:List V) (E:XK) (t:TA):TE:=fun σ H Q=>t σ H fun vs H1=>sp (vs++dvs) H1 Q E
def Binds (K:Frag) (fd:FuncData) (ps:List Str) (ds:List Value):Prop :=
 ∀ (s:Shared) (us:List Value),K.In s.heap→(us++ds).length=ps.length→BindsTo s fd ⟨us,[]⟩ (ps.zip (us++ds))
theorem Binds.all {K:Frag} {fd:FuncData} {ps:List Str} (h:∀ us:List Value,us.length=ps.length→bindArgs fd ⟨us,[]⟩=pure (ps.zip us)):Binds K fd ps []:=fun s us _ hl=>by
 rw [List.append_nil] at hl ⊢
 exact .of_eq (h us hl)
def yl3 (CX:CXT) (X:Cx) (E:XK):Prop:=∀ (pins:List (Addr×Obj)) (σ:St) (H:Hp) (s:Shared) (e:Value) (s':Shared),Inv X pins σ H s→CX X.stack H s E e s'→X.xe e s'
section
variable {X:Cx} {CX:CXT} {k:Nat} {f C:Addr} {fd:FuncData} {ps:List Str} {sp:Sp} {dvs:List V} {ds:List Value} {E:XK} {x m:Str} {p pos apos:Pos} {e o:Expr} {es:List Expr} {ta:TE} {t:TA}
theorem yN1 {pins:List (Addr×Obj)} {σ:St} {H:Hp} {s:Shared} {Q:VK} {us:List Value} {vs:List V} (F:zs8 X.prog X.w X.K X.mg X.base CX k f fd ps sp) (hr:zp3 k X.A) (hb:Binds X.K fd ps ds) (hd:zg6 dvs ds) (hx:yl3 CX X E)
  (I:Inv X pins σ H s) (r:zg6 vs us) (h:sp (vs++dvs) H Q E):wpAny (model X.prog X.w) X.A (call (.ref f) us) (EP X pins σ Q) X.xe s:=by
 have r2:zg6 (vs++dvs) (us++ds):=r.append hd
 have hl:(us++ds).length=ps.length:=by rw [← r2.length];exact F.len _ _ _ _ h
 refine wpAny_call (codeAny_mono (F.run X.A X.stack s H ⟨us,[]⟩ (us++ds) (vs++dvs) Q E hr I.env0 (hb s us I.kIn hl) r2 h) fun r s' hq=>?_)
 cases r with
 | error e=>exact hx pins σ H s e s' I hq
 | ok fl =>
  cases fl with
  | ret u=>exact I.after hq
  | next=>exact False.elim hq
  | brk=>exact False.elim hq
  | cont=>exact False.elim hq
theorem yJ6 (F:zs8 X.prog X.w X.K X.mg X.base CX k f fd ps sp) (hr:zp3 k X.A) (hg:Gl X x) (hm:X.mg x=some (.ref f)) (hk:keepIn X.K (.ref f)=true) (hb:Binds X.K fd ps ds) (hd:zg6 dvs ds) (hx:yl3 CX X E)
  (ha:PA X (e::es) t) (hdb:(x==("__debug__" : Str))=false) (he:starEach (e::es) X.env=(false,eval e X.env)::starEach es X.env) (hpl:(backTo pos (starEach es X.env)).any (·.1)=false) :
  PE X (.Call (.Name x p) (e::es) [] pos) (xd9 sp dvs E t):=by
 intro pins s σ H Q I h
 refine wpAny_Call_Name_kw (yh5 I hg hm ?_ hdb)
 refine PySem.W.callWith_K (h₀:=X.base) I.ok.mod.kin hk (thn (ha pos pins s σ H _ I h) fun us s1 ⟨vs,H1,I1,r,q⟩=>⟨I1.kIn,?_⟩) he hpl
 exact yN1 F hr hb hd hx I1 r q
end
section
variable {X:Cx} {CX:CXT} {k:Nat} {f C:Addr} {fd:FuncData} {ps ks:List Str} {sp:Sp} {E:XK} {x m:Str} {p pos apos kpos:Pos} {e o:Expr} {es:List Expr} {kws:List Keyword} {te ta:TE} {t tk:TA} {nm:Option Str}
variable {g:List Value→List Value→List Value} {gV:List V→List V→List V}
end
structure ze6 (N P:List Str) (sc:Scope):Prop where
 kind:sc.kind=.function
 co:sc.isCoroutine=false
 gen:sc.isGenerator=false
 nd:N.Nodup
 pre:N.take P.length=P
 par:∀ x∈P,sc.names.lookup x=some .local∨sc.names.lookup x=some .cell
 nofree:∀ y∈sc.names,y.2≠.free
theorem zN4 {kindOf:Str→Option NameKind} {x:Str}:∀ {binds:List (Str×Value)} {m:Str→Option Value},(∀ v,(x,v)∉binds)→bindL kindOf binds m x=m x
 | [],_,_=>rfl
 | (n,v)::r,m,h=>by
  unfold bindL
  rw [zN4 fun w hw=>h w (List.mem_cons_of_mem _ hw)]
  split
  ·have:x≠n:=by rintro rfl;exact h v List.mem_cons_self
   simp [this]
  ·rfl
theorem zQ3 {kindOf:Str→Option NameKind} {x:Str}:∀ {binds:List (Str×Value)} {m:Str→Option Value},(∀ v,(x,v)∉binds)→bindC kindOf binds m x=m x
 | [],_,_=>rfl
 | (n,v)::r,m,h=>by
  unfold bindC
  rw [zQ3 fun w hw=>h w (List.mem_cons_of_mem _ hw)]
  split
  ·rfl
  ·have:x≠n:=by rintro rfl;exact h v List.mem_cons_self
   simp [this]
theorem zQ9 {kindOf:Str→Option NameKind} {x:Str} {v:Value}:∀ {P:List Str} {vs:List Value} {i:Nat} {m:Str→Option Value},P.Nodup→P[i]?=some x→vs[i]?=some v→kindOf x=some .local →
  bindL kindOf (P.zip vs) m x=some v
 | [],_,_,_,_,h,_,_=>by simp at h
 | _::_,[],_,_,_,_,h,_=>by simp at h
 | p::P,w::vs,0,m,nd,h1,h2,hk=>by
  simp at h1 h2;subst h1;subst h2
  show bindL kindOf ((p,w)::P.zip vs) m p=_
  unfold bindL
  rw [zN4 fun v hv=>(List.nodup_cons.mp nd).1 (List.of_mem_zip hv).1,if_pos hk]
  simp
 | p::P,w::vs,i+1,m,nd,h1,h2,hk=>by
  show bindL kindOf ((p,w)::P.zip vs) m x=_
  unfold bindL
  exact zQ9 (i:=i) (List.nodup_cons.mp nd).2 (by simpa using h1) (by simpa using h2) hk
theorem zS0 {kindOf:Str→Option NameKind} {x:Str} {v:Value}:∀ {P:List Str} {vs:List Value} {i:Nat} {m:Str→Option Value},P.Nodup→P[i]?=some x→vs[i]?=some v→kindOf x≠some .local →
  bindC kindOf (P.zip vs) m x=some v
 | [],_,_,_,_,h,_,_=>by simp at h
 | _::_,[],_,_,_,_,h,_=>by simp at h
 | p::P,w::vs,0,m,nd,h1,h2,hk=>by
  simp at h1 h2;subst h1;subst h2
  show bindC kindOf ((p,w)::P.zip vs) m p=_
  unfold bindC
  rw [zQ3 fun v hv=>(List.nodup_cons.mp nd).1 (List.of_mem_zip hv).1,if_neg hk]
  simp
 | p::P,w::vs,i+1,m,nd,h1,h2,hk=>by
  show bindC kindOf ((p,w)::P.zip vs) m x=_
  unfold bindC
  exact zS0 (i:=i) (List.nodup_cons.mp nd).2 (by simpa using h1) (by simpa using h2) hk
noncomputable def start (N:List Str) (vs:List V):St:=vs.map some++List.replicate (N.length - vs.length) none
noncomputable def zx8 (CX:CXT) (P:Program) (w:World) (K:Frag) (mg:Str→Option Value) (base:Heap) (N:List Str) (qual:Str) (scope:Scope) (f:Addr) (cd:Value) (A:Around) (outer:List Env) (s:Shared) (H:Hp) (E:XK):Cx where
 prog:=P
 w:=w
 K:=K
 mg:=mg
 base:=base
 A:=A.deeper (envOfC qual scope s.heap.objs.size f cd)
 N:=N
 s₀:=s
 H₀:=H
 env:=envOfC qual scope s.heap.objs.size f cd
 outer:=outer
 stack:=envOfC qual scope s.heap.objs.size f cd::outer
 ex:=[]
 calm:=true
 fn:=fun _=>true
 pn:=[]
 xe:=fun e s'=>wpAny (model P w) (A.deeper (envOfC qual scope s.heap.objs.size f cd)) (leaving (envOfC qual scope s.heap.objs.size f cd) e) (fun _ s''=>CX outer H s E e s'') (fun e' s''=>CX outer H s E e' s'') s'
theorem zY2 {sc:Scope} {n:Nat} {x:Str} (h:sc.names.lookup x=some .cell):∃ c,(cellsFrom n sc.names []).lookup x=some c:=by
 have q:=PySem.W.cellsFrom_some sc.names n [] (.inl h)
 exact Option.isSome_iff_exists.mp q
theorem ym8 {CX:CXT} {P:Program} {w:World} {K:Frag} {mg:Str→Option Value} {base:Heap} {N ps:List Str} {qual:Str} {scope:Scope} {f:Addr} {cd:Value} {A:Around} {outer:List Env} {s s1:Shared} {H:Hp} {E:XK} {us:List Value} {vs:List V}
  (S:ze6 N ps scope) (hd:A.handled=none) (e0:xb2 P w K mg base A outer s H) (hl:vs.length=ps.length) (r:zg6 vs us)
  (x:InCallC s s.heap.objs.size (bindL (envOfC qual scope s.heap.objs.size f cd).kindOf (ps.zip us) fun _=>none) (cellsFrom (s.heap.objs.size+1) scope.names []) (bindC (envOfC qual scope s.heap.objs.size f cd).kindOf (ps.zip us) fun _=>none) s1) :
  Inv (zx8 CX P w K mg base N qual scope f cd A outer s H E) [] (start N vs) H s1:=by
 have hpl:ps.length≤N.length:=by have:=congrArg List.length S.pre;rw [List.length_take] at this;lia
 obtain ⟨h1,tk,rfl,hk⟩:=x.done
 have noA:∀ b:Addr,b∉(zx8 CX P w K mg base N qual scope f cd A outer s H E).ex:=fun b z=>absurd (show b∈([]:List Addr) from z) (by simp)
 refine ⟨⟨e0.mod,S.kind,rfl,rfl,Nat.le_refl _,fun y z c h1 h2=>?_,fun y hy=>?_,fun y c _ h=>?_,fun _=>hd,Around.frames_deeper e0.frames,.inr ⟨rfl,rfl⟩,fun b z=>absurd z (noA b),e0.bs,e0.bsz,fun b _ _=>noA b,fun b z=>absurd z (noA b),e0.funs,e0.frf⟩,
  rfl,e0.bare,Un.kept hk,⟨_,x.toInCall.ns,fun i y v h1 h2 h3=>?_⟩,fun y c h=>⟨_,x.cell y c h⟩,e0.hok.fresh (Nat.le_refl _),fun y c h=>?_,fun p hp=>absurd (show p∈([]:List (Addr×Obj)) from hp) (by simp),e0.hok.kept hk,?_⟩
 ·exact name_of_addr x.apart (PySem.mem_of_lookup h1) (PySem.mem_of_lookup h2)
 ·have hy:scope.names.lookup y=some .cell∨scope.names.lookup y=some .free:=hy
  rcases hy with hy | hy
  ·exact zY2 hy
  ·exact absurd rfl (S.nofree _ (PySem.mem_of_lookup hy))
 ·exact Nat.le_of_lt (x.above y c (PySem.mem_of_lookup h))
 ·have hi:i<vs.length:=by
   unfold start at h2
   by_cases hi:i<vs.length
   ·exact hi
   ·rw [List.getElem?_append_right (by simpa using hi)] at h2
    rw [List.getElem?_replicate] at h2
    split at h2 <;> cases h2
  have ha:vs[i]?=some v:=by
   unfold start at h2
   rw [List.getElem?_append_left (by simpa using hi),List.getElem?_map] at h2
   cases e:vs[i]? with
   | none=>rw [e] at h2;cases h2
   | some a=>rw [e] at h2;cases h2;rfl
  obtain ⟨u,hu,rv⟩:=r.get ha
  have hp:ps[i]?=some y:=by
   rw [← S.pre,List.getElem?_take_of_lt (by lia)];exact h1
  have ndP:ps.Nodup:=by rw [← S.pre];exact S.nd.sublist (List.take_sublist _ _)
  refine ⟨u,rv,?_⟩
  rcases S.par y (List.mem_of_getElem? hp) with k | k
  ·exact .inl ⟨k,zQ9 ndP hp hu k⟩
  ·obtain ⟨c,e⟩:=zY2 (n:=s.heap.objs.size+1) k
   refine .inr ⟨.inl k,c,e,?_⟩
   have q:=x.cell y c e
   rw [zS0 ndP hp hu (by show scope.names.lookup y≠_;rw [k];decide)] at q
   exact q
 ·exact e0.hok.fresh (Nat.le_of_lt (x.above y c (PySem.mem_of_lookup h)))
 ·unfold start
  show _=N.length
  rw [List.length_append,List.length_map,List.length_replicate]
  lia
theorem xi2 {CX:CXT} {P:Program} {w:World} {K:Frag} {mg:Str→Option Value} {base:Heap} {k:Nat} {f:Addr} {name qual:Str} {params:Arguments} {body:List Stmt} {scope:Scope} {dV kV doc pm cdv ct oc:Value} {an od:Option Addr}
  {osl:Array (Option Value)} {N ps:List Str} {sp:Sp} (lk:K.lookup f=some ⟨oc,od,.func (fnOf name qual params body scope dV kV doc pm an cdv ct),osl⟩) (hcd:codeIn K cdv qual=true) (S:ze6 N ps scope)
  (len:∀ vs H Q E,sp vs H Q E→vs.length=ps.length)
  (hbody:∀ (A:Around) (outer:List Env) (s:Shared) (H:Hp) (vs:List V) (Q:VK) (E:XK),zp3 k (A.deeper (envOfC qual scope s.heap.objs.size f cdv))→sp vs H Q E →
   ∃ t,PSs (zx8 CX P w K mg base N qual scope f cdv A outer s H E) body t∧t { nx:=fun _ H'=>Q .non H',rt:=Q } (start N vs) H) :
  zs8 P w K mg base CX (k+1) f (fnOf name qual params body scope dV kV doc pm an cdv ct) ps sp:=by
 refine ⟨len,fun A outer s H args us vs Q E hr e0 hb r hsp=>?_⟩
 have hl:=len _ _ _ _ hsp
 have KX:K.In s.heap:=e0.mod.kin.keeps fun b o e=>(e0.bs b o e).1
 have lim:s.heap.NoLimit:=e0.mod.nolimit.keeps fun b o e=>(e0.bs b o e).1
 have hkind:∀ y∈ps.zip us,scope.names.lookup y.1=some .local∨(scope.names.lookup y.1=some .cell∧((cellsFrom (s.heap.objs.size+1) scope.names []).lookup y.1).isSome=true):=fun ⟨n,v⟩ hy=>by
  rcases S.par n (List.of_mem_zip hy).1 with q | q
  ·exact .inl q
  ·exact .inr ⟨q,PySem.W.cellsFrom_some _ _ _ (.inl q)⟩
 refine codeAny_call_function hr.depth (KX _ _ lk) rfl S.co S.gen rfl (PySem.W.codeRec_of KX hcd) (hb _ _ _ _ ?_)
 refine wpAny_newFunctionEnv_cells S.kind hkind fun env he s1 x=>?_
 subst he
 refine ⟨lim.keeps x.toInCall.keep,codeAny_func ?_⟩
 obtain ⟨t,ht,hq⟩:=hbody A outer s H vs Q E (hr.deeper _) hsp
 have I:Inv (zx8 CX P w K mg base N qual scope f cdv A outer s H E) [] (start N vs) H s1:=ym8 S hr.hd e0 hl r x
 refine wpAny_mono (ht [] s1 (start N vs) H _ I hq) (fun fl s' hs=>?_) fun e s' hs=>hs
 have fin:∀ {σ':St} {H':Hp} {v:V} {u:Value},Inv (zx8 CX P w K mg base N qual scope f cdv A outer s H E) [] σ' H' s'→RelV v u→Q v H'→CE outer P w H s Q u s' :=
  fun {σ' H' v u} J rv q=>⟨v,H',J.os,J.bare,J.base,J.hok,rv,q⟩
 cases fl with
 | ret u =>
  obtain ⟨v,σ',H',J,rv,q⟩:=hs
  exact fin J rv q
 | next =>
  obtain ⟨σ',H',J,q⟩:=hs
  exact fin (v:=V.non) (u:=Value.none) J rfl q
 | brk =>
  obtain ⟨_,_,_,q⟩:=hs
  exact False.elim q
 | cont =>
  obtain ⟨_,_,_,q⟩:=hs
  exact False.elim q
section
variable {X:Cx} {x:Str} {p pos:Pos} {e:Expr} {es:List Expr} {t:TA} {id T:String} {r:List V→Hp→VK→Prop}
noncomputable def tCB (r:List V→Hp→VK→Prop) (t:TA):TE:=fun σ H Q=>t σ H fun vs H1=>r vs H1 Q
theorem ya0 (hc:zH2 X (.builtin id) r) (hg:Gl X x) (hm:X.mg x=none) (hv:bootBuiltins x=some (.builtin id)) (ha:PA X (e::es) t) (hn:x ≠ "__name__") (hdb:(x==("__debug__" : Str))=false)
  (he:starEach (e::es) X.env=(false,eval e X.env)::starEach es X.env) (hpl:(backTo pos (starEach es X.env)).any (·.1)=false):PE X (.Call (.Name x p) (e::es) [] pos) (tCB r t):=by
 intro pins s σ H Q I h
 refine wpAny_Call_Name_kw (zW4 I hg hm hv ?_ hn hdb)
 exact PyProof.Rows.callWith_builtin1 (thn (ha pos pins s σ H _ I h) fun us s1 ⟨vs,H1,I1,r1,q1⟩=>hc pins s1 σ H1 vs us Q I1 r1 q1) he hpl
theorem yp5 (hc:zH2 X (.type T) r) (hg:Gl X x) (hm:X.mg x=none) (hv:bootBuiltins x=some (.type T)) (ha:PA X (e::es) t) (hn:x ≠ "__name__") (hdb:(x==("__debug__" : Str))=false)
  (he:starEach (e::es) X.env=(false,eval e X.env)::starEach es X.env) (hpl:(backTo pos (starEach es X.env)).any (·.1)=false):PE X (.Call (.Name x p) (e::es) [] pos) (tCB r t):=by
 intro pins s σ H Q I h
 refine wpAny_Call_Name_kw (zW4 I hg hm hv ?_ hn hdb)
 exact PyProof.Rows.callWith_type1 (thn (ha pos pins s σ H _ I h) fun us s1 ⟨vs,H1,I1,r1,q1⟩=>hc pins s1 σ H1 vs us Q I1 r1 q1) he hpl
end
section
variable {κ:Type} [DecidableEq κ]
noncomputable def yf0 (kvs:List (κ×V)) (k:κ):Option V:=(kvs.find? fun kv=>decide (kv.1=k)).map (·.2)
noncomputable def zI3 (kvs:List (κ×V)) (k:κ) (v:V):List (κ×V) :=
 if (kvs.any fun kv=>decide (kv.1=k))=true then kvs.map (fun kv=>if kv.1=k then (kv.1,v) else kv) else kvs++[(k,v)]
theorem zA8 {p:κ×V} {r:List (κ×V)} {k:κ} (e:p.1=k):yf0 (p::r) k=some p.2:=by simp [yf0,List.find?_cons,e]
theorem zC2 {p:κ×V} {r:List (κ×V)} {k:κ} (e:¬ p.1=k):yf0 (p::r) k=yf0 r k:=by simp [yf0,List.find?_cons,e]
theorem zZ0 (k:κ):∀ kvs:List (κ×V),(kvs.any fun kv=>decide (kv.1=k))=(yf0 kvs k).isSome
 | []=>rfl
 | p::r=>by
  rw [List.any_cons]
  by_cases e:p.1=k
  ·simp only [zA8 e,decide_eq_true e,Bool.true_or,Option.isSome_some]
  ·rw [zC2 e,decide_eq_false e,Bool.false_or];exact zZ0 k r
theorem zu0 (kvs:List (κ×V)) (k:κ) (v:V):(zI3 kvs k v).length≤kvs.length+1:=by
 unfold zI3
 split
 ·rw [List.length_map];lia
 ·rw [List.length_append,List.length_cons,List.length_nil];lia
theorem yj6.isSome_eq {o:Option V} {u:Option Value} (r:yj6 o u):o.isSome=u.isSome:=by
 cases o with
 | none=>cases u with
  | none=>rfl
  | some _=>exact (show False from r).elim
 | some _=>cases u with
  | none=>exact (show False from r).elim
  | some _=>rfl
theorem KV.val {kvs:List (κ×V)} {vs:List (κ×Value)} (r:KV kvs vs) (k:κ):yj6 (yf0 kvs k) (valueAt vs k):=by
 unfold KV at r
 induction r with
 | nil=>exact True.intro
 | @cons p q ps qs h t ih =>
  obtain ⟨h1,h2⟩:=h
  by_cases e:p.1=k
  ·have e':q.1=k:=h1.symm.trans e
   have b:valueAt (q::qs) k=some q.2:=by simp [valueAt,List.find?_cons,e']
   rw [zA8 e,b];exact h2
  ·have e':¬ q.1=k:=fun z=>e (h1.trans z)
   have b:valueAt (q::qs) k=valueAt qs k:=by simp [valueAt,List.find?_cons,e']
   rw [zC2 e,b];exact ih
theorem KV.any {kvs:List (κ×V)} {vs:List (κ×Value)} (r:KV kvs vs) (k:κ):(kvs.any fun kv=>decide (kv.1=k))=vs.any fun kv=>decide (kv.1=k):=by
 unfold KV at r
 induction r with
 | nil=>rfl
 | cons h t ih=>rw [List.any_cons,List.any_cons,ih,h.1]
theorem KV.repl {kvs:List (κ×V)} {vs:List (κ×Value)} (r:KV kvs vs) (k:κ) {y:V} {u:Value} (ry:RelV y u) :
  KV (kvs.map fun kv=>if kv.1=k then (kv.1,y) else kv) (vs.map fun kv=>if kv.1=k then (kv.1,u) else kv):=by
 unfold KV at r ⊢
 induction r with
 | nil=>exact .nil
 | @cons p q ps qs h t ih =>
  rw [List.map_cons,List.map_cons]
  refine .cons ?_ ih
  obtain ⟨h1,h2⟩:=h
  by_cases e:p.1=k
  ·rw [if_pos e,if_pos (h1.symm.trans e)];exact ⟨h1,ry⟩
  ·rw [if_neg e,if_neg (fun z=>e (h1.trans z))];exact ⟨h1,h2⟩
theorem KV.put {kvs:List (κ×V)} {vs:List (κ×Value)} (r:KV kvs vs) (k:κ) {y:V} {u:Value} (ry:RelV y u):KV (zI3 kvs k y) (stored vs k u):=by
 unfold zI3 stored
 rw [r.any k]
 by_cases e:(vs.any fun kv=>decide (kv.1=k))=true
 ·rw [if_pos e,if_pos e];exact r.repl k ry
 ·rw [if_neg e,if_neg e];exact Paired.snoc r ⟨rfl,ry⟩
theorem KV.length {kvs:List (κ×V)} {vs:List (κ×Value)} (r:KV kvs vs):kvs.length=vs.length:=Paired.length r
end
theorem yv4 {P:Program} {w:World} {k:Key} {u:Value} (r:RelV (kV k) u):(zi6 P w).is k u=true:=by
 cases k with
 | inl i=>obtain ⟨t,e⟩:=(show ∃ t,u=Value.int i t from r);subst e;exact zT2 P w i t
 | inr x=>obtain ⟨t,e⟩:=(show ∃ t,u=Value.str x t from r);subst e;exact zU4 P w x t
theorem zR3 {P:Program} {w:World}:∀ {ks:List Key} {us:List Value},zg6 (ks.map kV) us→ItemsAre (zi6 P w) ks us
 | [],_,r=>by rw [List.map_nil] at r;cases r;exact .nil
 | k::ks,_,r=>by
  rw [List.map_cons] at r
  cases r with
  | cons h t=>exact .cons (yv4 h) (zR3 t)
noncomputable abbrev KT (H:Hp):List (List Key×V)→List (List Key×Addr×Value)→Prop:=Paired fun p q=>p.1=q.1∧H q.2.1=some (.tup (p.1.map kV))∧RelV p.2 q.2.2
theorem KT.val {H:Hp} {kvs:List (List Key×V)} {xs:List (List Key×Addr×Value)} (r:KT H kvs xs) (k:List Key):yj6 (yf0 kvs k) ((atKey xs k).map (·.2)):=by
 induction r with
 | nil=>exact True.intro
 | @cons p q ps qs h t ih =>
  obtain ⟨h1,_,h2⟩:=h
  by_cases e:p.1=k
  ·have e':q.1=k:=h1.symm.trans e
   have b:atKey (q::qs) k=some q.2:=by simp [atKey,List.find?_cons,e']
   rw [zA8 e,b];exact h2
  ·have e':¬ q.1=k:=fun z=>e (h1.trans z)
   have b:atKey (q::qs) k=atKey qs k:=by simp [atKey,List.find?_cons,e']
   rw [zC2 e,b];exact ih
theorem KT.repl {H:Hp} {kvs:List (List Key×V)} {xs:List (List Key×Addr×Value)} (r:KT H kvs xs) (k:List Key) {y:V} {u:Value} (ry:RelV y u) :
  KT H (kvs.map fun kv=>if kv.1=k then (kv.1,y) else kv) (xs.map (putAt k u)):=by
 induction r with
 | nil=>exact .nil
 | @cons p q ps qs h t ih =>
  rw [List.map_cons,List.map_cons]
  refine .cons ?_ ih
  obtain ⟨h1,h2,h3⟩:=h
  unfold putAt
  by_cases e:p.1=k
  ·rw [if_pos e,if_pos (h1.symm.trans e)];exact ⟨h1,h2,ry⟩
  ·rw [if_neg e,if_neg (fun z=>e (h1.trans z))];exact ⟨h1,h2,h3⟩
theorem KT.put {H:Hp} {kvs:List (List Key×V)} {xs:List (List Key×Addr×Value)} (r:KT H kvs xs) (k:List Key) {b:Addr} {y:V} {u:Value} (hb:H b=some (.tup (k.map kV))) (ry:RelV y u) :
  KT H (zI3 kvs k y) (storedH xs k b u):=by
 have e:(kvs.any fun kv=>decide (kv.1=k))=(atKey xs k).isSome:=by
  rw [zZ0,(r.val k).isSome_eq,Option.isSome_map]
 unfold zI3 storedH
 rw [e]
 by_cases q:(atKey xs k).isSome=true
 ·rw [if_pos q,if_pos q];exact r.repl k ry
 ·rw [if_neg q,if_neg q];exact Paired.snoc r ⟨rfl,hb,ry⟩
theorem KT.keeps {H H':Hp} {kvs:List (List Key×V)} {xs:List (List Key×Addr×Value)} (r:KT H kvs xs) (ht:∀ b ys,H b=some (.tup ys)→H' b=some (.tup ys)):KT H' kvs xs :=
 Paired.mapP r fun _ _ z=>⟨z.1,ht _ _ z.2.1,z.2.2⟩
section
variable {P:Program} {w:World} {H:Hp} {h:Heap} {a:Addr}
theorem yT5 {u:HO} (ok:HOk P w H h) (e:Rd H a u):zj6 P w H h a u:=e.ok ok
theorem yH4 {kvs:List (Key×V)} (ok:HOk P w H h) (e:Rd H a (.dK kvs)):kvs.length≤sizeLine∧(a==sysModules)=false∧∃ vs,KV kvs vs∧h.DictOf (zi6 P w) a vs :=
 show zj6 P w H h a (.dK kvs) from yT5 ok e
theorem yS6 {kvs:List (Key×V)} (ok:HOk P w H h) (e:H a=some (.dK kvs)):kvs.length≤sizeLine∧(a==sysModules)=false∧∃ vs,KV kvs vs∧h.DictOf (zi6 P w) a vs:=yH4 ok (.inl e)
theorem yh4 {ks:List Key} (ok:HOk P w H h) (e:H a=some (.tup (ks.map kV))):(tupleKind (zi6 P w)).is h ks a:=by
 obtain ⟨_,its,r,o,h1,h2,_,n,h3⟩:=(show zj6 P w H h a (.tup (ks.map kV)) from ok a _ e)
 exact ⟨o,its.toArray,n,h1,h2,h3,by simpa using zR3 r⟩
theorem yJ8 {kvs:List (List Key×V)} (ok:HOk P w H h) (e:Rd H a (.dT kvs)):kvs.length≤sizeLine∧(a==sysModules)=false ∧
  ∃ xs,KT H kvs xs∧h.DictOfH (tupleKind (zi6 P w)) a xs:=by
 obtain ⟨z,y,xs,r,o,es,ep,h1,h2,h3,h4,h5⟩:=(show zj6 P w H h a (.dT kvs) from yT5 ok e)
 refine ⟨z,y,xs,r,o,es,ep,h1,h2,h3,h4,fun x hx=>?_,h5⟩
 have all:∀ {l:List (List Key×V)} {m:List (List Key×Addr×Value)},KT H l m→∀ x∈m,(tupleKind (zi6 P w)).is h x.1 x.2.1:=by
  intro l m q
  induction q with
  | nil=>intro x hx;exact nomatch hx
  | @cons p q ps qs hq t ih =>
   intro x hx
   rcases List.mem_cons.mp hx with e | hx
   ·subst e
    exact yh4 ok (by rw [← hq.1];exact hq.2.1)
   ·exact ih x hx
 exact all r x hx
theorem xk0 {kvs:List (List Key×V)} (ok:HOk P w H h) (e:H a=some (.dT kvs)):kvs.length≤sizeLine∧(a==sysModules)=false ∧
  ∃ xs,KT H kvs xs∧h.DictOfH (tupleKind (zi6 P w)) a xs:=yJ8 ok (.inl e)
end
def yL3 (H:Hp) (a:Addr) (y:V) (r:Option V):Prop :=
 (∃ kvs k,Rd H a (.dK kvs)∧y=kV k∧r=yf0 kvs k)∨∃ kvs k b,Rd H a (.dT kvs)∧y=.ref b∧H b=some (.tup (k.map kV))∧r=yf0 kvs k
def yW0 (H:Hp) (a:Addr) (y v:V) (H':Hp):Prop :=
 (∃ kvs k,H a=some (.dK kvs)∧y=kV k∧kvs.length<sizeLine∧H'=upd H a (.dK (zI3 kvs k v))) ∨
 ∃ kvs k b,H a=some (.dT kvs)∧y=.ref b∧H b=some (.tup (k.map kV))∧kvs.length<sizeLine∧H'=upd H a (.dT (zI3 kvs k v))
theorem yL3.k {H:Hp} {a:Addr} {kvs:List (Key×V)} {k:Key} (e:H a=some (.dK kvs)):yL3 H a (kV k) (yf0 kvs k):=.inl ⟨kvs,k,.inl e,rfl,rfl⟩
theorem yW0.k {H:Hp} {a:Addr} {kvs:List (Key×V)} {k:Key} {v:V} (e:H a=some (.dK kvs)) (hl:kvs.length<sizeLine):yW0 H a (kV k) v (upd H a (.dK (zI3 kvs k v))):=.inl ⟨kvs,k,e,rfl,hl,rfl⟩
section
variable {X:Cx} {pins:List (Addr×Obj)} {σ:St} {H:Hp} {s:Shared} {a:Addr} {y v:V} {u r:Value} {o:Option V} {A:Around} {E:Value→Shared→Prop}
theorem Inv.big (I:Inv X pins σ H s):sysModules<s.heap.objs.size:=by
 have h:mainGlobals<s.heap.objs.size:=(I.mod.glob.keeps I.bk).lt
 exact Nat.lt_trans (by decide) h
theorem yj8 {Q:Value→Shared→Prop} (hu:A.units+1<cLine) (I:Inv X pins σ H s) (g:yL3 H a y (some v)) (ry:RelV y u) (h:∀ w' s',Inv X pins σ H s'→RelV v w'→Q w' s') :
  wpAny (model X.prog X.w) A (getItem (.ref a) u) Q E s:=by
 rcases g with ⟨kvs,k,e,ey,l⟩ | ⟨kvs,k,b,e,ey,eb,l⟩
 ·subst ey
  obtain ⟨z,hd,vs,rel,dd⟩:=yH4 I.hok e
  obtain ⟨w',hw,rw'⟩:=yj6.some_of (v:=v) (o:=valueAt vs k) (by rw [l];exact rel.val k)
  exact wpAny_getItem_of (yv4 ry) dd.mapOf hw (h w' _ (I.tok _) rw')
 ·subst ey
  cases (show u=Value.ref b from ry)
  obtain ⟨z,hd,xs,rel,dd⟩:=yJ8 I.hok e
  obtain ⟨w',hw,rw'⟩:=yj6.some_of (v:=v) (o:=(atKey xs k).map (·.2)) (by rw [l];exact rel.val k)
  obtain ⟨p,hp,hp2⟩:=Option.map_eq_some_iff.mp hw
  refine wpAny_getItem_heap (tupleKind_room_in1 hu) (yh4 I.hok eb) dd hp ?_
  rw [hp2]
  exact h w' _ (I.tok _) rw'
theorem zV9 {h':Heap} {t':Nat} {ob:HO} (I:Inv X pins σ H s) (mu:Mut (H a)) (hs:Heap.SameBut a s.heap h') (he:∃ q,h'.get? a=some q) (new:zj6 X.prog X.w (upd H a ob) h' a ob) :
  Inv X pins σ (upd H a ob) { s with heap:=h',toks:=t' } :=
 I.write (x:=a) (e:=a) mu (.inl rfl) (fun b q hb z=>(hs.2 b hb).trans z) he new
theorem yA5 {P:Program} {w:World} {H':Hp} {h':Heap} {kvs:List (Key×V)} {vs:List (Key×Value)} (z:kvs.length≤sizeLine) (hd:(a==sysModules)=false) (rel:KV kvs vs) (dd:h'.DictOf (zi6 P w) a vs) :
  zj6 P w H' h' a (.dK kvs):=⟨z,hd,vs,rel,dd⟩
theorem yh1 {H':Hp} {Q:Unit→Shared→Prop} (hu:A.units+1<cLine) (I:Inv X pins σ H s) (g:yW0 H a y v H') (ry:RelV y u) (rv:RelV v r) (h:∀ s',Inv X pins σ H' s'→Q () s') :
  wpAny (model X.prog X.w) A (setItem (.ref a) u r) Q E s:=by
 rcases g with ⟨kvs,k,e,ey,l,eH⟩ | ⟨kvs,k,b,e,ey,eb,l,eH⟩
 ·subst ey eH
  obtain ⟨z,hd,vs,rel,dd⟩:=yS6 I.hok e
  have hz:vs.length≤sizeLine:=by rw [← rel.length];exact z
  have hl:(zI3 kvs k v).length≤sizeLine:=by have:=zu0 kvs k v;lia
  refine wpAny_setItem_pairs (hsz:=hz) (yv4 ry) dd fun h' dd' hs=>h _ ?_
  have he:∃ q,h'.get? a=some q:=let ⟨q,_,_,hq,_⟩:=dd';⟨q,hq⟩
  exact zV9 I (by rw [e];exact True.intro) hs he (yA5 hl hd (rel.put k rv) dd')
 ·subst ey eH
  cases (show u=Value.ref b from ry)
  obtain ⟨z,hd,xs,rel,dd⟩:=xk0 I.hok e
  have hz:xs.length≤sizeLine:=by rw [← Paired.length rel];exact z
  have hl:(zI3 kvs k v).length≤sizeLine:=by have:=zu0 kvs k v;lia
  refine wpAny_setItem_heap (hsz:=hz) (tupleKind_room_in1 hu) (yh4 I.hok eb) dd fun h' dd' hs=>h _ ?_
  obtain ⟨q,es,ep,hq,h2,h3,h4,_,h5⟩:=dd'
  refine zV9 I (by rw [e];exact True.intro) hs ⟨q,hq⟩ ⟨hl,hd,_,(rel.put k eb rv).keeps fun c ys ec=>?_,q,es,ep,hq,h2,h3,h4,h5⟩
  rw [ze3 (xc9 ec e (fun z=>nomatch z))]
  exact ec
end
section
variable {X:Cx} {pins:List (Addr×Obj)} {σ:St} {H:Hp} {s:Shared} {a:Addr} {kvs:List (Key×V)} {k:Key} {u:Value} {A:Around} {E:Value→Shared→Prop}
end
theorem zS7 {X:Cx} {pins:List (Addr×Obj)} {σ:St} {H:Hp} {s:Shared} {a:Addr} {y:V} {o:Option V} (I:Inv X pins σ H s) (g:yL3 H a y o):s.TypeIs (.ref a) "dict" := by
 rcases g with ⟨kvs,k,e,_,_⟩ | ⟨kvs,k,b,e,_,_,_⟩
 ·obtain ⟨_,_,vs,_,dd⟩:=yH4 I.hok e
  exact dd.typeIs
 ·obtain ⟨_,_,xs,_,dd⟩:=yJ8 I.hok e
  exact dd.typeIs
section
variable {X:Cx} {o i e value:Expr} {pos pos' tpos:Pos} {td ty tv:TE}
end
theorem yv0 {P:Program} {w:World} {H:Hp} (h:Heap) (hb:sysModules<h.objs.size):zj6 P w H (h.push { cls:=.type "dict", data:=.dict #[] }) h.objs.size (.dK []) :=
 ⟨Nat.zero_le _,beq_eq_false_iff_ne.mpr (Ne.symm (Nat.ne_of_lt hb)),[],.nil,Heap.DictOf.new h⟩
section
variable {X:Cx} {pos:Pos}
end
def ya6:List (TE×TE)→St→Hp→(List (V×V)→Hp→Prop)→Prop
 | [],_,H,Q=>Q [] H
 | (tk,tv)::r,σ,H,Q=>tk σ H fun x H1=>tv σ H1 fun y H2=>ya6 r σ H2 fun ps H3=>Q ((x,y)::ps) H3
noncomputable abbrev VV:List (V×V)→List (Value×Value)→Prop:=Paired fun p q=>RelV p.1 q.1∧RelV p.2 q.2
def PPs (X:Cx) (pos:Pos) (keys:List (Option Expr)) (values:List Expr) (trs:List (TE×TE)):Prop :=
 ∀ (pins:List (Addr×Obj)) (s:Shared) (σ:St) (H:Hp) (Q:List (V×V)→Hp→Prop),Inv X pins σ H s→ya6 trs σ H Q →
  wpAny (model X.prog X.w) X.A (evalPairs (pairTrees keys values X.env pos)) (fun vs s'=>∃ ps H',Inv X pins σ H' s'∧VV ps vs∧Q ps H') X.xe s
theorem yH3 {X:Cx} {pos:Pos}:PPs X pos [] [] []:=fun pins s σ H Q I h=>pairTrees_nil_walk ⟨[],H,I,.nil,h⟩
theorem yq8 {X:Cx} {pos:Pos} {k v:Expr} {ks:List (Option Expr)} {vs:List Expr} {tk tv:TE} {trs:List (TE×TE)} (hk:PE X k tk) (hv:PE X v tv) (hr:PPs X pos ks vs trs) :
  PPs X pos (some k::ks) (v::vs) ((tk,tv)::trs):=fun pins s σ H Q I h =>
 pairTrees_cons_walk (thn (hk pins s σ H _ I h) fun u s1 ⟨x,H1,I1,rx,q1⟩=>thn (hv pins s1 σ H1 _ I1 q1) fun w2 s2 ⟨y,H2,I2,ry,q2⟩ =>
  thn (hr pins s2 σ H2 _ I2 q2) fun ws s3 ⟨ps,H3,I3,rel,q3⟩=>⟨(x,y)::ps,H3,I3,.cons ⟨rx,ry⟩ rel,q3⟩)
noncomputable def zA1 (kvs more:List (Key×V)):List (Key×V):=more.foldl (fun acc kv=>zI3 acc kv.1 kv.2) kvs
theorem KV.merge:∀ {more:List (Key×V)} {rs:List (Key×Value)} {kvs:List (Key×V)} {vs:List (Key×Value)},KV more rs→KV kvs vs→KV (zA1 kvs more) (merged vs rs):=by
 intro more rs kvs vs r
 unfold KV at r
 induction r generalizing kvs vs with
 | nil=>intro q;exact q
 | @cons p q ps qs h t ih =>
  intro r0
  have e:KV (zI3 kvs p.1 p.2) (stored vs q.1 q.2):=by
   have:=r0.put p.1 h.2
   rw [← h.1];exact this
  exact ih e
theorem zw3:∀ (more kvs:List (Key×V)),(zA1 kvs more).length≤kvs.length+more.length
 | [],kvs=>by show kvs.length≤kvs.length+0;lia
 | p::r,kvs=>by
  have h1:=zw3 r (zI3 kvs p.1 p.2)
  have h2:=zu0 kvs p.1 p.2
  show (zA1 (zI3 kvs p.1 p.2) r).length≤_
  rw [List.length_cons];lia
theorem zJ1 {P:Program} {w:World}:∀ {kvs:List (Key×V)} {ws:List (Value×Value)},VV (kvs.map fun kv=>(kV kv.1,kv.2)) ws→∃ rs,Carries (zi6 P w) ws rs∧KV kvs rs
 | [],_,r=>by rw [List.map_nil] at r;cases r;exact ⟨[],True.intro,.nil⟩
 | p::kvs,_,r=>by
  rw [List.map_cons] at r
  cases r with
  | @cons a b as bs h t =>
   obtain ⟨rs,c,q⟩:=zJ1 (P:=P) (w:=w) t
   obtain ⟨b1,b2⟩:=b
   exact ⟨(p.1,b2)::rs,⟨yv4 h.1,rfl,c⟩,.cons ⟨rfl,h.2⟩ q⟩
structure M2 (X:Cx) (o:Expr) (m:Str) (apos:Pos) (e f:Expr) (cpos:Pos):Prop where
 base:attributeBase o m X.env (eval o X.env)=eval o X.env
 few:((backTo cpos (starEach [e,f] X.env)).all (fun x=>!x.1)&&(backToKw cpos (keywordEach [] X.env)).all (fun x=>x.1.isSome)
  && decide (([e,f]:List Expr).length+([]:List Keyword).length+(if ([]:List Keyword).isEmpty then 0 else 1)<30))=true
 line:(apos.endLine==cpos.line)=true
 trees:backTo cpos (starEach [e,f] X.env)=[(false,eval e X.env),(false,eval f X.env)]
section
variable {X:Cx} {pins:List (Addr×Obj)} {σ:St} {H:Hp} {s:Shared} {a:Addr} {y d:V} {u r:Value} {o:Option V} {A:Around} {E:Value→Shared→Prop}
end
section
variable {X:Cx} {o e f:Expr} {apos cpos:Pos} {td ty tx:TE}
end
section
variable {X:Cx} {pins:List (Addr×Obj)} {σ:St} {H:Hp} {s:Shared} {a:Addr} {kvs:List (Key×V)} {A:Around} {E:Value→Shared→Prop}
end
section
variable {X:Cx} {pins:List (Addr×Obj)} {σ:St} {H:Hp} {s:Shared} {a:Addr} {y:V} {u:Value} {A:Around} {E:Value→Shared→Prop}
end
end L2
namespace HT
open PySem PyProof.Rows
section
open PySem.SeqAt
open PySem.AutoSeq1 (wpAny_loadPart')
open PySem.MeetsSeq PySem.MeetsSeq2 PySem.MeetsSeq3
end
section
variable {prog:Program} {w:World} {A:Around} {E:Value→Shared→Prop} {s:Shared}
theorem cat_tup {t b:Addr} {vs ws:List Value} {Q:Value→Shared→Prop} (ht:IsTup s.heap t vs.toArray) (hb:IsTup s.heap b ws.toArray) (hv:vs≠[])
  (h1:ws=[]→Q (.ref t) s) (h2:ws≠[]→Q (.ref s.heap.objs.size) { s with heap:=s.heap.push { cls:=.type "tuple", data:=.seq (vs++ws).toArray } })
  (hsz:vs.length+ws.length≤sizeLine):wpAny (model prog w) A (binaryOp .Add (.ref t) (.ref b)) Q E s:=by
 obtain ⟨⟨cls,dd,data,sl⟩,ho,hc,n,hd⟩:=id ht
 obtain ⟨⟨cls2,dd2,data2,sl2⟩,ho2,hc2,n2,hd2⟩:=id hb
 simp only at hc hd hc2 hd2
 subst hc hd hc2 hd2
 have e:vs.toArray++ws.toArray=(vs++ws).toArray:=by simp
 by_cases hw:ws=[]
 ·exact concat_meets ⟨_,ho,rfl⟩ ⟨_,ho2,rfl⟩ noFill_tuple_add seq_tuple_add PySem.F.slot_tuple_add PySem.F.entry_tuple_add (PySem.F.args_tuple_add_2 _ _)
   (tuple_addW1 t b vs.toArray ws.toArray n n2 dd dd2 sl sl2 (by simpa using hv) (by simp [hw])) ⟨ho,ho2,h1 hw⟩
 ·refine concat_meets ⟨_,ho,rfl⟩ ⟨_,ho2,rfl⟩ noFill_tuple_add seq_tuple_add PySem.F.slot_tuple_add PySem.F.entry_tuple_add (PySem.F.args_tuple_add_2 _ _)
   (tuple_addW2 t b vs.toArray ws.toArray n n2 dd dd2 sl sl2 (by simpa using hv) (by simpa using hw) (by rw [List.size_toArray,List.size_toArray];exact hsz)) ⟨ho,ho2,?_⟩
  rw [e]
  exact h2 hw
noncomputable def sIx (n d:Nat):Option Int→Nat
 | none=>d
 | some v=>if v<0 then (v+(n:Int)).toNat else min v.toNat n
theorem sIx_le (n d:Nat) (hd:d≤n) (o:Option Int):sIx n d o≤n:=by
 cases o with
 | none=>exact hd
 | some v =>
  show (if v<0 then (v+(n:Int)).toNat else min v.toNat n)≤n
  by_cases hv:v<0
  ·rw [if_pos hv];lia
  ·rw [if_neg hv];exact Nat.min_le_right _ _
theorem clip_eq (v:Int) (n d:Nat):(if v<0 then max (v+(n:Int)) 0 else min v (n:Int))=((sIx n d (some v):Nat):Int):=by
 show (if v<0 then max (v+(n:Int)) 0 else min v (n:Int))=(((if v<0 then (v+(n:Int)).toNat else min v.toNat n):Nat):Int)
 by_cases hv:v<0
 ·simp only [if_pos hv];lia
 ·simp only [if_neg hv];lia
theorem adjust_gen (lo hi:Option Int) (n:Nat):Builtin.Slice.sliceAdjust lo hi 1 (n:Int)=(((sIx n 0 lo:Nat):Int),((sIx n n hi:Nat):Int)):=by
 have h1:¬ ((1:Int)<0):=by lia
 unfold Builtin.Slice.sliceAdjust
 simp only [h1,if_false]
 refine Prod.ext ?_ ?_
 ·cases lo with
  | none=>rfl
  | some v=>exact clip_eq v n 0
 ·cases hi with
  | none=>rfl
  | some v=>exact clip_eq v n n
theorem places_gen (i j:Nat):Builtin.Slice.slicePlaces (i:Int) (j:Int) 1=j - i:=by
 unfold Builtin.Slice.slicePlaces
 have h1:(1:Int) > 0:=by lia
 simp only [h1,if_true,Int.ediv_one]
 split <;> lia
theorem slicePart_ {v:Value} {o:Option Int} {Q:Option Int→Shared→Prop} (p:IsPart v o) (h:Q o s):wpAny (model prog w) A (Builtin.Slice.slicePartIndex v) Q E s:=by
 cases p with
 | none=>exact slicePart_none h
 | int i t=>exact slicePart_int h
theorem sliceApplied_gen {sl:Addr} {vl vu:Value} {lo hi:Option Int} {n:Nat} {Q:Int×Int×Nat→Shared→Prop} (hs:s.heap.IsSliceOf sl vl vu .none) (pl:IsPart vl lo) (pu:IsPart vu hi)
  (h:Q (((sIx n 0 lo:Nat):Int),1,sIx n n hi - sIx n 0 lo) s):wpAny (model prog w) A (Builtin.Slice.sliceApplied (.ref sl) (pure (n:Int))) Q E s:=by
 obtain ⟨os,hos,hcs,hds⟩:=id hs
 unfold Builtin.Slice.sliceApplied Builtin.Slice.sliceFields
 refine wpAny_bind (wpAny_bind (wpAny_field hos hds (x:=vl) rfl (wpAny_bind (wpAny_field hos hds (x:=vu) rfl (wpAny_bind (wpAny_field hos hds (x:=.none) rfl (wpAny_pure ?_)))))))
 refine wpAny_bind (slicePart_none ?_)
 show wpAny _ _ (if ((1:Int)==0)=true then _ else _) _ _ s
 rw [if_neg (by decide)]
 refine wpAny_bind (slicePart_ pl (wpAny_bind (slicePart_ pu (wpAny_bind (wpAny_pure ?_)))))
 show wpAny _ _ (match Builtin.Slice.sliceAdjust lo hi 1 (n:Int) with | (lo,hi)=>pure (lo,(1:Int),Builtin.Slice.slicePlaces lo hi 1)) _ _ s
 rw [adjust_gen lo hi n]
 show wpAny _ _ (pure (((sIx n 0 lo:Nat):Int),(1:Int),Builtin.Slice.slicePlaces ((sIx n 0 lo:Nat):Int) ((sIx n n hi:Nat):Int) 1)) _ _ s
 rw [places_gen]
 exact wpAny_pure h
theorem pick_gen (xs:Array Value) (i k:Nat):((List.range k).filterMap fun (m:Nat)=>xs[((i:Int)+(m:Int) * 1).toNat]?).toArray=((xs.toList.drop i).take k).toArray:=by
 have e:(fun (m:Nat)=>xs[((i:Int)+(m:Int) * 1).toNat]?)=fun m=>xs[i+m]?:=by
  funext m
  have:((i:Int)+(m:Int) * 1).toNat=i+m:=by lia
  rw [this]
 rw [e]
 have:=pick_run xs i k
 rw [List.filterMap_map] at this
 have e2:((fun x=>xs[x]?)∘fun x=>i+x)=fun m=>xs[i+m]?:=rfl
 rw [e2] at this
 rw [this]
theorem getItem_tuple_cut {t sl:Addr} {zc3:Array Value} {vl vu:Value} {lo hi:Option Int} {Q:Value→Shared→Prop} (ht:IsTup s.heap t zc3) (hs:s.heap.IsSliceOf sl vl vu .none) (pl:IsPart vl lo) (pu:IsPart vu hi)
  (hw:¬ (sIx zc3.size 0 lo=0∧sIx zc3.size zc3.size hi=zc3.size))
  (h:Q (.ref s.heap.objs.size) { s with heap:=s.heap.push { cls:=.type "tuple", data:=.seq ((zc3.toList.drop (sIx zc3.size 0 lo)).take (sIx zc3.size zc3.size hi - sIx zc3.size 0 lo)).toArray } })
  (hsz:zc3.size≤sizeLine):wpAny (model prog w) A (getItem (.ref t) (.ref sl)) Q E s:=by
 have htake:sizeOk (.seq ((zc3.toList.drop (sIx zc3.size 0 lo)).take (sIx zc3.size zc3.size hi - sIx zc3.size 0 lo)).toArray):=by
  show ((zc3.toList.drop (sIx zc3.size 0 lo)).take (sIx zc3.size zc3.size hi - sIx zc3.size 0 lo)).toArray.size≤sizeLine
  rw [List.size_toArray,List.length_take,List.length_drop,Array.length_toList]
  lia
 have hj:sIx zc3.size zc3.size hi≤zc3.size:=sIx_le _ _ (Nat.le_refl _) hi
 obtain ⟨os,hos,hcs,hds⟩:=id hs
 have hTs:s.TypeIs (.ref sl) "slice" := ⟨os,hos,hcs⟩
 unfold getItem
 try with_reducible refine wpAny_holding ?_
 first | refine wpAny_bind (wpAny_pure ?_) | skip
 refine wpAny_bind (wpAny_sequenceKey ht.typeIs (by decide) ?_)
 refine wpAny_bind (wpAny_callSpecial?_slot (name:=Str.ofString "__getitem__") ht.typeIs PyProof.Rows.slot_tuple_getitem
  (wpAny_call_entry PyProof.Rows.slot_tuple_getitem ht.typeIs entry_tuple_getitem ?_ (args_tuple_getitem _ _)))
 show wpAny _ _ (Builtin.Tuple.tupleItemsOf (.ref t) >>= _) _ _ s
 refine wpAny_bind (tupleItemsOf_ ht ?_)
 refine wpAny_bind (wpAny_typeOf hTs ?_)
 rw [if_pos (by decide)]
 refine wpAny_bind (sliceApplied_gen hs pl pu ?_)
 have hno:¬ ((((sIx zc3.size 0 lo:Nat):Int)==0&&(1:Int)==1&&(sIx zc3.size zc3.size hi - sIx zc3.size 0 lo)==zc3.size)=true):=by
  intro q
  rw [Bool.and_eq_true,Bool.and_eq_true] at q
  have q1:((sIx zc3.size 0 lo:Nat):Int)=0:=eq_of_beq q.1.1
  have q2:sIx zc3.size zc3.size hi - sIx zc3.size 0 lo=zc3.size:=eq_of_beq q.2
  exact hw ⟨by lia,by lia⟩
 show wpAny _ _ (if (((sIx zc3.size 0 lo:Nat):Int)==0&&(1:Int)==1&&(sIx zc3.size zc3.size hi - sIx zc3.size 0 lo)==zc3.size)=true then _ else _) _ _ s
 rw [if_neg hno,pick_gen]
 first
  | exact wpAny_bind (m:=Builtin.Tuple.tupleExact _) (wpAny_newObj_type (wpAny_pure ⟨_,rfl,wpAny_pure h⟩) htake)
  | exact wpAny_bind (m:=Builtin.Tuple.tupleExact _) (wpAny_newObj_type (wpAny_bind (wpAny_pure (wpAny_pure ⟨_,rfl,wpAny_pure h⟩))) htake)
  | exact wpAny_bind (wpAny_bind (m:=Builtin.Tuple.tupleExact _) (wpAny_newObj_type (wpAny_pure (wpAny_pure ⟨_,rfl,wpAny_pure h⟩)) htake))
  | exact wpAny_bind (wpAny_bind (m:=Builtin.Tuple.tupleExact _) (wpAny_newObj_type (wpAny_pure ⟨_,rfl,wpAny_pure h⟩) htake))
end
end HT
namespace L2
open PySem PySem.Spec PyProof.Rows
noncomputable abbrev TO:=St→Hp→(Option Int→Hp→Prop)→Prop
def PO (X:Cx) (e:Option Expr) (t:TO):Prop :=
 ∀ (pins:List (Addr×Obj)) (s:Shared) (σ:St) (H:Hp) (Q:Option Int→Hp→Prop),Inv X pins σ H s→t σ H Q →
  wpAny (model X.prog X.w) X.A (evalPart e X.env) (fun u s'=>∃ o H',Inv X pins σ H' s'∧IsPart u o∧Q o H') X.xe s
noncomputable def xd6:TO:=fun _ H Q=>Q none H
noncomputable def xf5 (t:TE):TO:=fun σ H Q=>t σ H fun x H1=>∃ i,x=.int i∧Q (some i) H1
section
variable {X:Cx} {e:Expr} {te:TE} {lo hi:Option Expr} {tl th:TO} {pos p2:Pos}
theorem yH7:PO X none xd6:=by
 intro pins s σ H Q I h
 rw [evalPart_none]
 exact wpAny_pure ⟨none,H,I,.none,h⟩
theorem yI5 (h:PE X e te):PO X (some e) (xf5 te):=by
 intro pins s σ H Q I hw
 rw [evalPart_some]
 refine thn (h pins s σ H _ I hw) fun u s1 h_=>?_
 obtain ⟨x,H1,I1,r1,q1⟩:=h_
 obtain ⟨i,rfl,q⟩:=q1
 obtain ⟨t,rfl⟩:=r1
 exact ⟨some i,H1,I1,.int i t,q⟩
def SlR (X:Cx) (r:V→Option Int→Option Int→Hp→VK→Prop):Prop :=
 ∀ (pins:List (Addr×Obj)) (s:Shared) (σ:St) (H:Hp) (x:V) (v vl vu:Value) (lo hi:Option Int) (sl:Addr) (Q:VK),Inv X pins σ H s→RelV x v→s.heap.IsSliceOf sl vl vu .none→IsPart vl lo→IsPart vu hi→r x lo hi H Q →
  ∃ T id,typeLookup (.type T) "__getitem__" = pure (some (.builtin id))∧s.TypeIs v T∧wpAny (model X.prog X.w) X.A (getItem v (.ref sl)) (EP X pins σ Q) X.xe s
noncomputable def tSl (r:V→Option Int→Option Int→Hp→VK→Prop) (te:TE) (tl th:TO):TE:=fun σ H Q=>te σ H fun x H1=>tl σ H1 fun l H2=>th σ H2 fun u H3=>r x l u H3 Q
theorem yv1 {r:V→Option Int→Option Int→Hp→VK→Prop} (hr:SlR X r) (he:PE X e te) (hl:PO X lo tl) (hu:PO X hi th):PE X (.Subscript e (.Slice lo hi none p2) pos) (tSl r te tl th):=by
 intro pins s σ H Q I h
 refine Subscript_ (thn (he pins s σ H _ I h) fun v s1 h_=>?_)
 obtain ⟨x,H1,I1,r1,q1⟩:=h_
 refine wpAny_Slice (thn (hl pins s1 σ H1 _ I1 q1) fun vl s2 ⟨l,H2,I2,pl,q2⟩=>thn (hu pins s2 σ H2 _ I2 q2) fun vu s3 h_=>?_)
 obtain ⟨u,H3,I3,pu,q3⟩:=h_
 rw [evalPart_none]
 refine wpAny_pure ?_
 have I4:Inv X pins σ H3 { s3 with heap:=s3.heap.push { cls:=.type "slice", data:=.fields #[vl,vu,.none] } }:=I3.kept (t':=s3.toks) fun b ob q=>Heap.get?_push_of_some _ q
 obtain ⟨T,id,hT,ht,hg⟩:=hr pins { s3 with heap:=s3.heap.push { cls:=.type "slice", data:=.fields #[vl,vu,.none] } } σ H3 x v vl vu l u s3.heap.objs.size Q I4 r1 (Heap.IsSliceOf.new ..) pl pu q3
 show wpAny (model X.prog X.w) X.A (subscriptTail e (.Slice lo hi none p2) v (.ref s3.heap.objs.size)) (EP X pins σ Q) X.xe { s3 with heap:=s3.heap.push { cls:=.type "slice", data:=.fields #[vl,vu,.none] } }
 exact tail_any (ops:=[.ref s3.heap.objs.size,v]) ht hT hg (by with_unfolding_all rfl)
noncomputable def yy3 (xs:List V) (lo hi:Option Int):List V:=(xs.drop (HT.sIx xs.length 0 lo)).take (HT.sIx xs.length xs.length hi - HT.sIx xs.length 0 lo)
theorem zG5 (xs:List V) (lo hi:Option Int):(yy3 xs lo hi).length≤xs.length:=by
 unfold yy3
 rw [List.length_take,List.length_drop]
 lia
def rSlT (K:Frag):V→Option Int→Option Int→Hp→VK→Prop:=fun x lo hi H Q=>∃ a xs,x=.ref a∧SqT K H a xs ∧
 ¬ (HT.sIx xs.length 0 lo=0∧HT.sIx xs.length xs.length hi=xs.length)∧∀ p,H p=none→Q (.ref p) (upd H p (.tup (yy3 xs lo hi)))
theorem yM5:SlR X (rSlT X.K):=by
 intro pins s σ H x v vl vu lo hi sl Q I rx hs pl pu h
 obtain ⟨a,xs,rfl,hx,hw,q⟩:=h
 cases rx
 obtain ⟨its,r,ht,hz⟩:=I.tuple hx
 have hlen:its.toArray.size=xs.length:=by rw [List.size_toArray];exact r.length.symm
 refine ⟨"tuple", _,PyProof.Rows.slot_tuple_getitem.lookup,ht.typeIs,?_⟩
 refine HT.getItem_tuple_cut ht hs pl pu (by rw [hlen];exact hw) ?_ (by rw [hlen];exact hz)
 rw [hlen]
 refine ⟨.ref s.heap.objs.size,_,I.laid (t':=s.toks) (o:=.tup (yy3 xs lo hi)) (fun b ob q=>Heap.get?_push_of_some _ q) (Nat.le_refl _) ?_,rfl,q _ (I.hok.fresh (Nat.le_refl _))⟩
 exact ⟨Nat.le_trans (zG5 xs lo hi) hz,_,(r.drop (HT.sIx xs.length 0 lo)).take (HT.sIx xs.length xs.length hi - HT.sIx xs.length 0 lo),zC9.new _ _⟩
noncomputable def xd7 (K:Frag):R2:=fun x y H Q=>∃ a b xs ys,x=.ref a∧y=.ref b∧SqT K H a xs∧SqT K H b ys∧xs≠[]∧xs.length+ys.length≤sizeLine ∧
 (ys=[]→Q (.ref a) H)∧(ys≠[]→∀ p,H p=none→Q (.ref p) (upd H p (.tup (xs++ys))))
theorem zg6.nil_iff {xs:List V} {us:List Value} (r:zg6 xs us):us=[]↔xs=[]:=by
 cases r with
 | nil=>simp
 | cons _ _=>simp
theorem yD0:OpR X (binaryOp .Add) (xd7 X.K):=by
 intro pins s σ H x y v u Q I rx ry h
 obtain ⟨a,b,xs,ys,rfl,rfl,ha,hb,hx,hz,q1,q2⟩:=h
 cases rx
 cases ry
 obtain ⟨its,r1,p1,_⟩:=I.tuple ha
 obtain ⟨its2,r2,p2,_⟩:=I.tuple hb
 refine HT.cat_tup p1 p2 (fun z=>hx (r1.nil_iff.mp z)) (fun z=>⟨.ref a,H,I,rfl,q1 (r2.nil_iff.mp z)⟩) (fun z=>?_) (by rw [← r1.length,← r2.length];exact hz)
 refine ⟨.ref s.heap.objs.size,_,I.laid (t':=s.toks) (o:=.tup (xs++ys)) (fun b ob q=>Heap.get?_push_of_some _ q) (Nat.le_refl _) ?_,rfl,q2 (fun w=>z (r2.nil_iff.mpr w)) _ (I.hok.fresh (Nat.le_refl _))⟩
 exact ⟨by rw [List.length_append];exact hz,_,r1.append r2,zC9.new _ _⟩
end
noncomputable def ixN (n:Nat) (i:Int):Option Nat:=if 0≤i then (if i<n then some i.toNat else none) else if -(n:Int)≤i then some (i+n).toNat else none
noncomputable def atI {α:Type} (xs:List α) (i:Int):Option α:=(ixN xs.length i).bind fun j=>xs[j]?
theorem yi5 {n:Nat} {i:Int} {j:Nat} (h:ixN n i=some j):seqIndex? i n=some j∧j<n∧-(n:Int)≤i∧i<n:=by
 unfold ixN at h
 by_cases h0:0≤i
 ·rw [if_pos h0] at h
  by_cases h1:i<n
  ·rw [if_pos h1] at h
   have e:i.toNat=j:=Option.some.inj h
   exact ⟨by rw [seqIndex_of h0 h1,e],by lia,by lia,h1⟩
  ·rw [if_neg h1] at h;cases h
 ·rw [if_neg h0] at h
  by_cases h1:-(n:Int)≤i
  ·rw [if_pos h1] at h
   have e:(i+n).toNat=j:=Option.some.inj h
   exact ⟨by rw [seqIndex_neg (by lia) h1,e],by lia,h1,by lia⟩
  ·rw [if_neg h1] at h;cases h
theorem zV8 {α:Type} {xs:List α} {i:Int} {v:α} (h:atI xs i=some v):∃ j,seqIndex? i xs.length=some j∧xs[j]?=some v∧j<xs.length∧-(xs.length:Int)≤i∧i<xs.length:=by
 unfold atI at h
 cases e:ixN xs.length i with
 | none=>rw [e] at h;cases h
 | some j =>
  rw [e] at h
  obtain ⟨h1,h2,h3,h4⟩:=yi5 e
  exact ⟨j,h1,h,h2,h3,h4⟩
def zS9 (b:Expr):Prop:=∀ o i,subscripted b false o i=operate [o,i] (getItem o i)
def IxR (X:Cx) (r:R2):Prop :=
 ∀ (value slice:Expr) (pins:List (Addr×Obj)) (s:Shared) (σ:St) (H:Hp) (x y:V) (v u:Value) (Q:VK),Inv X pins σ H s→RelV x v→RelV y u→r x y H Q →
  subscripted slice false v u=operate [v,u] (getItem v u)→wpAny (model X.prog X.w) X.A (subscriptTail value slice v u) (EP X pins σ Q) X.xe s
def MtR (X:Cx) (id:String) (r:V→List V→Hp→VK→Prop):Prop :=
 ∀ (pins:List (Addr×Obj)) (s:Shared) (σ:St) (H:Hp) (x:V) (xs:List V) (v:Value) (us:List Value) (Q:VK),Inv X pins σ H s→RelV x v→zg6 xs us→r x xs H Q →
  wpAny (model X.prog X.w) X.A (call (.builtin id) (v::us)) (EP X pins σ Q) X.xe s
section
variable {X:Cx} {a b:Expr} {ta tb:TE} {pos:Pos}
theorem IxR.or {r r':R2} (h:IxR X r) (h':IxR X r'):IxR X (fun x y H Q=>r x y H Q∨r' x y H Q):=by
 intro value slice pins s σ H x y v u Q I rx ry q hs
 rcases q with q | q
 ·exact h value slice pins s σ H x y v u Q I rx ry q hs
 ·exact h' value slice pins s σ H x y v u Q I rx ry q hs
theorem xh6 {r:R2} (hr:IxR X r) (ha:PE X a ta) (hb:PE X b tb) (hs:zS9 b):PE X (.Subscript a b pos) (tOp r ta tb):=by
 intro pins s σ H Q I h
 exact Subscript_ (xf0 ha hb I h fun v u s2 x y H2 I2 rx ry q=>hr a b pins s2 σ H2 x y v u Q I2 rx ry q (hs _ _))
noncomputable def rIxL (K:Frag):R2:=fun x y H Q=>∃ p xs i v,x=.ref p∧y=.int i∧SqL K H p xs∧atI xs i=some v∧Q v H
noncomputable def rIxT (K:Frag):R2:=fun x y H Q=>∃ p xs i v,x=.ref p∧y=.int i∧SqT K H p xs∧atI xs i=some v∧Q v H
noncomputable def rIxS:R2:=fun x y H Q=>∃ z i c,x=.str z∧y=.int i∧z.length≤sizeLine∧atI z.cps.toList i=some c∧Q (.str ⟨#[c]⟩) H
theorem yI9:IxR X (rIxL X.K):=by
 intro value slice pins s σ H x y v u Q I rx ry h hs
 obtain ⟨p,xs,i,z,rfl,rfl,hq,he,q⟩:=h
 cases rx
 obtain ⟨t,rfl⟩:=ry
 obtain ⟨its,r,pl,hz⟩:=I.list hq
 obtain ⟨j,h1,h2,h3,h4,h5⟩:=zV8 he
 obtain ⟨w,ew,rw'⟩:=r.get h2
 have hl:=r.length
 have hn:=zI6
 have fin:EP X pins σ Q w s:=⟨z,H,I,rw',q⟩
 by_cases h0:0≤i
 ·have hj:i.toNat=j:=by
   rw [seqIndex_of h0 h5] at h1
   exact Option.some.inj h1
  exact item_listR pl.isList h0 (by lia) (by rw [hj];simpa using ew) fin hs
 ·have hj:(i+(its.toArray.size:Int)).toNat=j:=by
   rw [seqIndex_neg (by lia) h4] at h1
   rw [List.size_toArray,← hl]
   exact Option.some.inj h1
  exact subscriptTail_builtinR (x:=w) pl.isList.typeIs slot_list_getitem.lookup
   (wpAny_getItem_list_neg (Q:=fun r s'=>r=w∧EP X pins σ Q r s') pl.isList (by lia) (by rw [List.size_toArray] <;> lia) (by lia) (by rw [hj];simpa using ew) ⟨rfl,fin⟩) hs
theorem yN5:IxR X (rIxT X.K):=by
 intro value slice pins s σ H x y v u Q I rx ry h hs
 obtain ⟨p,xs,i,z,rfl,rfl,hq,he,q⟩:=h
 cases rx
 obtain ⟨t,rfl⟩:=ry
 obtain ⟨its,r,pl,hz⟩:=I.tuple hq
 obtain ⟨j,h1,h2,h3,h4,h5⟩:=zV8 he
 obtain ⟨w,ew,rw'⟩:=r.get h2
 have hl:=r.length
 have hn:=zI6
 have fin:EP X pins σ Q w s:=⟨z,H,I,rw',q⟩
 exact subscriptTail_builtinR (x:=w) pl.typeIs slot_tuple_getitem.lookup
  (getItem_tuple (j:=j) (Q:=fun r s'=>r=w∧EP X pins σ Q r s') pl (by lia) (by lia) (by rw [List.size_toArray,← hl];exact h1) (by simpa using ew) ⟨rfl,fin⟩) hs
theorem yW1:IxR X rIxS:=by
 intro value slice pins s σ H x y v u Q I rx ry h hs
 obtain ⟨z,i,c,rfl,rfl,hz,he,q⟩:=h
 obtain ⟨t,rfl⟩:=rx
 obtain ⟨t',rfl⟩:=ry
 obtain ⟨j,h1,h2,h3,h4,h5⟩:=zV8 he
 have hl:z.cps.toList.length=z.length:=by simp [Str.length]
 rw [hl] at h1 h4 h5
 have hn:=zI6
 exact tail_any (typeIs_str s z t) slot_str_getitem.lookup (getItem_str (c:=c) (by
  have e1:decide (i < -(2 ^ 63:Int))=false:=decide_eq_false (by lia)
  have e2:decide (i ≥ 2 ^ 63)=false:=decide_eq_false (by lia)
  rw [e1,e2,Bool.or_false]) (by rw [h1];simpa using h2) ⟨.str ⟨#[c]⟩,H,I.tok _,⟨_,rfl⟩,q⟩) hs
noncomputable def rIx (K:Frag):R2:=fun x y H Q=>rIxL K x y H Q∨rIxT K x y H Q∨rIxS x y H Q
theorem yX8:IxR X (rIx X.K):=yI9.or (yN5.or yW1)
theorem yd7 (its:List Value) (n j:Nat) (u:Value):Obj.mapSeq (·.setIfInBounds j u) { cls:=.type "list", data:=.seq its.toArray n }={ cls:=.type "list", data:=.seq (its.set j u).toArray n }:=by
 simp [Obj.mapSeq]
theorem Inv.lst {pins:List (Addr×Obj)} {σ:St} {H:Hp} {s:Shared} {p:Addr} {xs:List V} (I:Inv X pins σ H s) (h:H p=some (.lst xs)) :
  ∃ (its:List Value) (n:Nat),zg6 xs its∧s.heap.get? p=some { cls:=.type "list", data:=.seq its.toArray n }∧xs.length≤sizeLine:=by
 obtain ⟨z,its,n,r,e⟩:=I.hok p _ h
 exact ⟨its,n,r,e,z⟩
theorem Inv.lstUpd {pins:List (Addr×Obj)} {σ:St} {H:Hp} {s:Shared} {p:Addr} {xs ys:List V} {its its':List Value} {n n':Nat} {f:Obj→Obj} (I:Inv X pins σ H s) (h:H p=some (.lst xs))
  (ho:s.heap.get? p=some { cls:=.type "list", data:=.seq its.toArray n }) (hf:f { cls:=.type "list", data:=.seq its.toArray n }={ cls:=.type "list", data:=.seq its'.toArray n' }) (r:zg6 ys its') (hz:ys.length≤sizeLine) (t:Nat) :
  Inv X pins σ (upd H p (.lst ys)) { s with heap:=s.heap.update p f,toks:=t }:=by
 have e:(s.heap.update p f).get? p=some { cls:=.type "list", data:=.seq its'.toArray n' }:=by
  rw [Heap.get?_update_self f ho (by rw [hf] <;> rfl),hf]
 refine I.write (x:=p) (e:=p) (by rw [h];trivial) (.inl rfl) (fun b u hb q=>(Heap.get?_update_other _ _ (Ne.symm hb)).trans q) ⟨_,e⟩ ?_
 exact ⟨hz,its',n',r,e⟩
def rSetL:V→V→V→Hp→(Hp→Prop)→Prop:=fun o i v H Q=>∃ p xs k j,o=.ref p∧i=.int k∧H p=some (.lst xs)∧ixN xs.length k=some j∧Q (upd H p (.lst (xs.set j v)))
theorem ys4:yz5 X rSetL:=by
 intro pins s σ H o i v ov iv u Q I ro ri rv h
 obtain ⟨p,xs,k,j,rfl,rfl,hp,hj,q⟩:=h
 cases ro
 obtain ⟨t,rfl⟩:=ri
 obtain ⟨its,n,r,ho,hz⟩:=I.lst hp
 obtain ⟨h1,h2,h3,h4⟩:=yi5 hj
 have hl:=r.length
 have hn:=zI6
 have I':Inv X pins σ (upd H p (.lst (xs.set j v))) { s with heap:=s.heap.update p (Obj.mapSeq (·.setIfInBounds j u)) } :=
  I.lstUpd hp ho (yd7 its n j u) (r.set rv j) (by rw [List.length_set];exact hz) s.toks
 by_cases h0:0≤k
 ·have hk:k.toNat=j:=by
   rw [seqIndex_of h0 h4] at h1
   exact Option.some.inj h1
  exact PySem.W.ki_setAt ho h0 (by lia) (by rw [List.size_toArray,← hl];exact h4) (by rw [hk];exact ⟨_,I',q⟩)
 ·have hk:(k+(its.toArray.size:Int)).toNat=j:=by
   rw [seqIndex_neg (by lia) h3] at h1
   rw [List.size_toArray,← hl]
   exact Option.some.inj h1
  exact PySem.W.ki_setBack ho (by lia) (by rw [List.size_toArray,← hl];exact h3) (by lia) (by rw [hk];exact ⟨_,I',q⟩)
theorem zO3 (lo hi:Option Int) (n:Nat):(sliceBounds lo hi none n).1=((HT.sIx n 0 lo:Nat):Int)∧(sliceBounds lo hi none n).2.1=((HT.sIx n n hi:Nat):Int)∧(sliceBounds lo hi none n).2.2=1:=by
 refine ⟨?_,?_,rfl⟩
 ·cases lo with
  | none=>simp [sliceBounds,HT.sIx]
  | some i =>
   simp only [sliceBounds,HT.sIx,Option.getD_none,show (1:Int) > 0 by decide,if_true]
   by_cases h:i<0
   ·simp only [h,if_true] <;> lia
   ·simp only [h,if_false] <;> lia
 ·cases hi with
  | none=>simp [sliceBounds,HT.sIx]
  | some i =>
   simp only [sliceBounds,HT.sIx,Option.getD_none,show (1:Int) > 0 by decide,if_true]
   by_cases h:i<0
   ·simp only [h,if_true] <;> lia
   ·simp only [h,if_false] <;> lia
theorem zJ6 (its:List Value) (lo hi:Option Int):slicePick its.toArray lo hi none=((its.drop (HT.sIx its.length 0 lo)).take (HT.sIx its.length its.length hi - HT.sIx its.length 0 lo)).toArray:=by
 obtain ⟨h1,h2,h3⟩:=zO3 lo hi its.toArray.size
 unfold slicePick
 rw [h1,h2,h3]
 simp only [sliceRange_one,pick_run,List.size_toArray] <;> rfl
def rSlL (K:Frag):V→Option Int→Option Int→Hp→VK→Prop:=fun x lo hi H Q=>∃ a xs,x=.ref a∧SqL K H a xs∧∀ p,H p=none→Q (.ref p) (upd H p (.lst (yy3 xs lo hi)))
theorem yG5:SlR X (rSlL X.K):=by
 intro pins s σ H x v vl vu lo hi sl Q I rx hs pl pu h
 obtain ⟨a,xs,rfl,hx,q⟩:=h
 cases rx
 obtain ⟨its,r,ht,hz⟩:=I.list hx
 have hlen:=r.length
 refine ⟨"list", _,slot_list_getitem.lookup,ht.isList.typeIs,?_⟩
 refine wpAny_getItem_list_slice ht.isList hs pl pu .none (by simp) ?_ (by rw [List.size_toArray] <;> lia)
 rw [zJ6,← hlen]
 refine ⟨.ref s.heap.objs.size,_,I.laid (t':=s.toks) (o:=.lst (yy3 xs lo hi)) (fun b ob q=>Heap.get?_push_of_some _ q) (Nat.le_refl _) ?_,rfl,q _ (I.hok.fresh (Nat.le_refl _))⟩
 exact ⟨Nat.le_trans (zG5 xs lo hi) hz,_,0,(r.drop (HT.sIx xs.length 0 lo)).take (HT.sIx xs.length xs.length hi - HT.sIx xs.length 0 lo),Heap.get?_push_size _ rfl⟩
theorem zA5:zH2 X (.builtin "len") (fun xs H Q=>∃ p ys,xs=[.ref p]∧(SqL X.K H p ys∨SqT X.K H p ys)∧Q (.int ys.length) H):=by
 intro pins s σ H xs us Q I r h
 obtain ⟨p,ys,rfl,hq,q⟩:=h
 obtain ⟨u,rfl,rx⟩:=yd4 r
 cases rx
 have hn:=zI6
 rcases hq with hq | hq
 ·obtain ⟨its,r',pl,hz⟩:=I.list hq
  have hlen:=r'.length
  exact Calls.call_len_list pl.isList (by simp only [List.size_toArray] <;> lia) ⟨.int ys.length,H,I.tok _,⟨s.toks+1,by rw [List.size_toArray,hlen]⟩,q⟩
 ·obtain ⟨its,r',pl,hz⟩:=I.tuple hq
  have hlen:=r'.length
  exact len_tuple pl (by simp only [List.size_toArray] <;> lia) ⟨.int ys.length,H,I.tok _,⟨s.toks+1,by rw [List.size_toArray,hlen]⟩,q⟩
theorem zN8:zH2 X (.builtin "len") (fun xs H Q=>∃ z,xs=[.str z]∧z.length≤sizeLine∧Q (.int z.length) H):=by
 intro pins s σ H xs us Q I r h
 obtain ⟨z,rfl,hz,q⟩:=h
 obtain ⟨u,rfl,t,rfl⟩:=yd4 r
 have hn:=zI6
 exact len_str (by lia) ⟨.int z.length,H,I.tok _,⟨_,rfl⟩,q⟩
theorem zO4:zH2 X (.type "list") (fun xs H Q=>∃ p ys,xs=[.ref p]∧(SqL X.K H p ys∨SqT X.K H p ys)∧∀ l,H l=none→Q (.ref l) (upd H l (.lst ys))):=by
 intro pins s σ H xs us Q I r h
 obtain ⟨p,ys,rfl,hq,q⟩:=h
 obtain ⟨u,rfl,rx⟩:=yd4 r
 cases rx
 have fin:∀ (its:List Value),zg6 ys its→ys.length≤sizeLine→∀ (h':Heap) (c':Nat),(∀ b o',s.heap.get? b=some o'→h'.get? b=some o') →
   h'.get? s.heap.objs.size=some { cls:=.type "list", dict:=none,data:=.seq its.toArray c',slots:=#[] }→EP X pins σ Q (.ref s.heap.objs.size) { s with heap:=h' }:=fun its r' hz h' c' kp e =>
  ⟨.ref s.heap.objs.size,_,I.laid (t':=s.toks) kp (Nat.le_refl _) (show zj6 X.prog X.w _ h' _ (.lst ys) from ⟨hz,its,c',r',e⟩),rfl,q _ (I.hok.fresh (Nat.le_refl _))⟩
 rcases hq with hq | hq
 ·obtain ⟨its,r',pl,hz⟩:=I.list hq
  have hlen:=r'.length
  obtain ⟨o,ho,hc,n,hd⟩:=pl.isList
  exact call_list_seq p (.inl rfl) ho hc hd (fun h' c' kp e=>fin its r' hz h' c' kp e) (by simp only [List.size_toArray] <;> lia)
 ·obtain ⟨its,r',pl,hz⟩:=I.tuple hq
  have hlen:=r'.length
  obtain ⟨o,ho,hc,n,hd⟩:=pl
  exact call_list_seq p (.inr rfl) ho hc hd (fun h' c' kp e=>fin its r' hz h' c' kp e) (by simp only [List.size_toArray] <;> lia)
theorem zw6:zH2 X (.type "tuple") (fun xs H Q=>∃ p ys,xs=[.ref p]∧((SqL X.K H p ys∧∀ l,H l=none→Q (.ref l) (upd H l (.tup ys)))∨(SqT X.K H p ys∧Q (.ref p) H))):=by
 intro pins s σ H xs us Q I r h
 obtain ⟨p,ys,rfl,h⟩:=h
 obtain ⟨u,rfl,rx⟩:=yd4 r
 cases rx
 rcases h with ⟨hq,q⟩ | ⟨hq,q⟩
 ·obtain ⟨its,r',pl,hz⟩:=I.list hq
  have hlen:=r'.length
  refine call_tuple_list pl.isList (fun h' kp=>?_) (by simp only [List.size_toArray] <;> lia)
  have I1:Inv X pins σ H { s with heap:=h' }:=I.kept (t':=s.toks) kp
  have I2:Inv X pins σ (upd H h'.objs.size (.tup ys)) { s with heap:=h'.push { cls:=.type "tuple", data:=.seq its.toArray } } :=
   I1.laid (t':=s.toks) (fun b o e=>Heap.get?_push_of_some _ e) (Nat.le_refl _) (show zj6 X.prog X.w _ _ _ (.tup ys) from ⟨hz,its,r',zC9.new _ _⟩)
  exact ⟨.ref h'.objs.size,_,I2,rfl,q _ (I1.hok.fresh (Nat.le_refl _))⟩
 ·obtain ⟨its,r',pl,hz⟩:=I.tuple hq
  exact call_tuple_same pl ⟨.ref p,H,I,rfl,q⟩
def tyV (K:Frag) (T:String) (x:V) (H:Hp):Prop:=match x with
 | .str _=>T = "str"
 | .int _=>T = "int"
 | .ref p=>(T = "list" ∧ ∃ xs,SqL K H p xs)∨(T = "tuple" ∧ ∃ o,K.lookup p=some o∧o.cls=.type "tuple" ∧ o.dict=none) ∨
   (T = "dict" ∧ ((∃ kvs,H p=some (.dK kvs))∨∃ kvs,H p=some (.dT kvs)))∨(T = "set" ∧ ∃ S n,H p=some (.set S n))
 | _=>False
theorem yy9 {pins:List (Addr×Obj)} {σ:St} {H:Hp} {s:Shared} {T:String} {x:V} {v:Value} (I:Inv X pins σ H s) (r:RelV x v) (ty:tyV X.K T x H) :
  s.TypeIs v T∧∀ a,v=.ref a→∃ ob,s.heap.get? a=some ob∧ob.dict=none:=by
 cases x with
 | str z =>
  obtain ⟨t,rfl⟩:=r
  cases (show T = "str" from ty)
  exact ⟨typeIs_str s z t,fun _ e=>nomatch e⟩
 | int i =>
  obtain ⟨t,rfl⟩:=r
  cases (show T = "int" from ty)
  exact ⟨typeIs_int s i t,fun _ e=>nomatch e⟩
 | ref p =>
  cases r
  rcases ty with ⟨rfl,xs,hq⟩ | ⟨rfl,o,hk,hc,hd⟩ | ⟨rfl,hk⟩ | ⟨rfl,S,n,hk⟩
  ·obtain ⟨its,_,pl,_⟩:=I.list hq
   refine ⟨pl.isList.typeIs,fun a e=>?_⟩
   cases e
   obtain ⟨o,n,e,c,hd,_⟩:=pl
   exact ⟨o,e,hd⟩
  ·refine ⟨⟨o,I.kIn p o hk,hc⟩,fun a e=>?_⟩
   cases e
   exact ⟨o,I.kIn _ o hk,hd⟩
  ·have z:∃ o,s.heap.get? p=some o∧o.ExactDict:=by
    rcases hk with ⟨kvs,hk⟩ | ⟨kvs,hk⟩
    ·obtain ⟨_,_,_,_,o,_,_,e,ex,_⟩:=I.hok p _ hk
     exact ⟨o,e,ex⟩
    ·obtain ⟨_,_,_,_,o,_,_,e,ex,_⟩:=I.hok p _ hk
     exact ⟨o,e,ex⟩
   obtain ⟨o,e,ex⟩:=z
   refine ⟨⟨o,e,ex.1⟩,fun a e2=>?_⟩
   cases e2
   exact ⟨o,e,ex.2.1⟩
  ·obtain ⟨o,_,_,_,e,ex,_⟩:=I.hok p _ hk
   refine ⟨⟨o,e,ex.1⟩,fun a e2=>?_⟩
   cases e2
   exact ⟨o,e,ex.2.1⟩
 | _=>exact False.elim ty
noncomputable def tBM0 (K:Frag) (T:String) (r:V→List V→Hp→VK→Prop) (to:TE):TE:=fun σ H Q=>to σ H fun x H1=>tyV K T x H1∧r x [] H1 Q
noncomputable def tBM (K:Frag) (T:String) (r:V→List V→Hp→VK→Prop) (to:TE) (t:TA):TE:=fun σ H Q=>to σ H fun x H1=>tyV K T x H1∧t σ H1 fun xs H2=>r x xs H2 Q
variable {o e:Expr} {es:List Expr} {to:TE} {t:TA} {name:Str} {apos cpos:Pos} {T id:String} {r:V→List V→Hp→VK→Prop}
theorem yx8 (pa:PlainAttrs T) (slot:Slot T name id) (hty:typeOf (.builtin id)=pure (.type "method_descriptor")) (hm:MtR X id r) (ho:PE X o to)
  (hbase:attributeBase o name X.env (eval o X.env)=eval o X.env) (hline:(apos.endLine==cpos.line)=true):PE X (.Call (.Attribute o name apos) [] [] cpos) (tBM0 X.K T r to):=by
 intro pins s σ H Q I h
 refine wpAny_Call_method0_late hbase hline (thn (ho pins s σ H _ I h) fun v s1 h_=>?_)
 obtain ⟨x,H1,I1,r1,ty,q1⟩:=h_
 obtain ⟨h1,h2⟩:=yy9 I1 r1 ty
 exact ⟨T,id,pa,slot,hty,h1,h2,Calls.callWith_builtin rfl (PySem.evalArgs_none (hm pins s1 σ H1 x [] v [] Q I1 r1 .nil q1))⟩
theorem yG3 (pa:PlainAttrs T) (slot:Slot T name id) (hty:typeOf (.builtin id)=pure (.type "method_descriptor")) (hm:MtR X id r) (ho:PE X o to) (ha:PA X (e::es) t)
  (hbase:attributeBase o name X.env (eval o X.env)=eval o X.env)
  (hfew:((backTo cpos (starEach (e::es) X.env)).all (fun x=>!x.1)&&(backToKw cpos (keywordEach [] X.env)).all (fun x=>x.1.isSome)
   && decide ((e::es).length+([]:List Keyword).length+(if ([]:List Keyword).isEmpty then 0 else 1)<30))=true)
  (hline:(apos.endLine==cpos.line)=true) (hs:starEach (e::es) X.env=(false,eval e X.env)::starEach es X.env) (hplain:(backTo cpos (starEach es X.env)).any (·.1)=false) :
  PE X (.Call (.Attribute o name apos) (e::es) [] cpos) (tBM X.K T r to t):=by
 intro pins s σ H Q I h
 refine wpAny_Call_method_late hbase hfew hline rfl (thn (ho pins s σ H _ I h) fun v s1 h_=>?_)
 obtain ⟨x,H1,I1,r1,ty,q1⟩:=h_
 obtain ⟨h1,h2⟩:=yy9 I1 r1 ty
 refine ⟨T,id,pa,slot,hty,h1,h2,?_⟩
 have hA:=ha cpos pins s1 σ H1 _ I1 q1
 rw [hs] at hA ⊢
 refine Calls.callWith_builtin (by show (false || (backTo cpos (starEach es X.env)).any (·.1))=false;rw [hplain] <;> rfl) (Calls.evalArgs_plain ?_)
 exact thn hA fun us s2 ⟨vs,H2,I2,r2,q2⟩=>hm pins s2 σ H2 x vs v us Q I2 r1 r2 q2
end
def MtM (X:Cx) (id:String) (r:V→List V→Hp→VK→Prop):Prop :=
 ∀ (pins:List (Addr×Obj)) (s:Shared) (σ:St) (H:Hp) (x:V) (xs:List V) (v:Value) (us:List Value) (Q:VK),Inv X pins σ H s→RelV x v→zg6 xs us→r x xs H Q →
  wpAny (model X.prog X.w) X.A (call (.builtin id) (v::us)) (EP X pins σ Q) X.xe s
theorem zg6.one:∀ {x:V} {us:List Value},zg6 [x] us→∃ u,us=[u]∧RelV x u
 | _,_,.cons r .nil=>⟨_,rfl,r⟩
theorem zg6.zero:∀ {us:List Value},zg6 [] us→us=[]
 | _,.nil=>rfl
theorem zg6.dropLast {xs:List V} {us:List Value} (h:zg6 xs us):zg6 xs.dropLast us.dropLast:=by
 induction h with
 | nil=>exact .nil
 | cons r t ih =>
  cases t with
  | nil=>exact .nil
  | cons q t'=>exact .cons r ih
theorem zg6.reverse {xs:List V} {us:List Value} (h:zg6 xs us):zg6 xs.reverse us.reverse:=by
 induction h with
 | nil=>exact .nil
 | cons r t ih=>rw [List.reverse_cons,List.reverse_cons];exact zg6.append ih (.cons r .nil)
theorem ye2 {α:Type} (l:List α):l.eraseIdx (l.length - 1)=l.dropLast:=by
 induction l with
 | nil=>rfl
 | cons a r ih =>
  cases r with
  | nil=>rfl
  | cons b r =>
   have e:(a::b::r).length - 1=((b::r).length - 1)+1:=by
    have h1:(a::b::r).length=r.length+2:=rfl
    have h2:(b::r).length=r.length+1:=rfl
    lia
   rw [e,List.eraseIdx_cons_succ,ih]
   all_goals rfl
section
variable {X:Cx} {pins:List (Addr×Obj)} {σ:St} {H:Hp} {s:Shared} {l b:Addr} {xs ys zs:List V}
theorem Inv.lset {its its':List Value} {n:Nat} {f:Array Value→Array Value} {t':Nat} (I:Inv X pins σ H s) (hH:H l=some (.lst xs))
  (e:s.heap.get? l=some { cls:=.type "list", data:=.seq its.toArray n }) (hf:f its.toArray=its'.toArray) (hv:zg6 ys its') (hz:ys.length≤sizeLine) :
  Inv X pins σ (upd H l (.lst ys)) { s with heap:=s.heap.update l (Obj.mapSeq f),toks:=t' }:=by
 have q:=PySem.IsL.update e f
 rw [hf] at q
 refine I.write (x:=l) (e:=l) (by rw [hH];exact trivial) (.inl rfl) (fun b' u hb hu=>(Heap.get?_update_other s.heap (Obj.mapSeq f) (Ne.symm hb)).trans hu) ⟨_,q⟩ ?_
 exact ⟨hz,its',_,hv,q⟩
theorem Inv.lnew {its:List Value} {t':Nat} (I:Inv X pins σ H s) (hv:zg6 ys its) (hz:ys.length≤sizeLine) :
  Inv X pins σ (upd H s.heap.objs.size (.lst ys)) { s with heap:=s.heap.push { cls:=.type "list", data:=.seq its.toArray },toks:=t' } :=
 I.laid (fun _ _ q=>Heap.get?_push_of_some _ q) (Nat.le_refl _) ⟨hz,its,0,hv,Heap.get?_push_size _ rfl⟩
theorem Inv.fresh (I:Inv X pins σ H s):H s.heap.objs.size=none:=I.hok.fresh (Nat.le_refl _)
theorem Inv.lstM (I:Inv X pins σ H s) (hH:H l=some (.lst xs)):xs.length≤sizeLine∧∃ (its:List Value) (n:Nat),zg6 xs its∧xs.length=its.length∧s.heap.get? l=some { cls:=.type "list", data:=.seq its.toArray n }:=by
 obtain ⟨z,its,n,r,e⟩:=I.hok l _ hH
 exact ⟨z,its,n,r,r.length,e⟩
theorem yu1 {n:Nat} (h:n≤sizeLine):Builtin.List.listTooLong n=false:=by
 unfold Builtin.List.listTooLong
 exact decide_eq_false (by lia)
end
section
variable {X:Cx}
def xk3:V→List V→Hp→VK→Prop:=fun x vs H Q=>∃ l xs y,x=.ref l∧vs=[y]∧H l=some (.lst xs)∧xs.length<sizeLine∧Q .non (upd H l (.lst (xs++[y])))
theorem zE0:MtM X "list.append" xk3:=by
 intro pins s σ H x vs v us Q I rx rv h
 obtain ⟨l,xs,y,rfl,rfl,hH,hz,q⟩:=h
 cases rx
 obtain ⟨u,rfl,ru⟩:=rv.one
 obtain ⟨z,its,n,r,hl,e⟩:=I.lstM hH
 refine call_meets F.slot_list_append ⟨_,e,rfl⟩ F.entry_list_append (F.args_list_append_2 _ _) (PySem.list_append l its.toArray n u (by rw [List.size_toArray];lia)) ⟨e,?_⟩
 refine ⟨.non,_,I.lset (its':=its++[u]) hH e (by simp) (r.append (.cons ru .nil)) ?_,rfl,q⟩
 rw [List.length_append,List.length_singleton]
 lia
def rPop:V→List V→Hp→VK→Prop:=fun x vs H Q=>∃ l xs y,x=.ref l∧vs=[]∧H l=some (.lst xs)∧xs[xs.length - 1]?=some y∧Q y (upd H l (.lst xs.dropLast))
theorem mt_pop:MtM X "list.pop" rPop:=by
 intro pins s σ H x vs v us Q I rx rv h
 obtain ⟨l,xs,y,rfl,rfl,hH,hy,q⟩:=h
 cases rx
 have hus:=rv.zero
 subst hus
 obtain ⟨z,its,n,r,hl,e⟩:=I.lstM hH
 obtain ⟨u,hu,ru⟩:=r.get hy
 have hy':its.toArray[its.toArray.size - 1]?=some u:=by
  show its.toArray[its.length - 1]?=some u
  rw [← Array.getElem?_toList,← hl]
  exact hu
 refine call_meets F.slot_list_pop ⟨_,e,rfl⟩ F.entry_list_pop (F.args_list_pop_1 _) (MeetsSeq.list_pop_last l its.toArray n u hy' (by rw [List.size_toArray];lia)) ⟨e,?_⟩
 refine ⟨y,_,I.lset (its':=its.dropLast) hH e ?_ r.dropLast ?_,ru,q⟩
 ·show its.toArray.eraseIdxIfInBounds (its.toArray.size - 1)=its.dropLast.toArray
  rw [List.size_toArray,List.eraseIdxIfInBounds_toArray,ye2]
 ·rw [List.length_dropLast]
  lia
def xa5:V→List V→Hp→VK→Prop:=fun x vs H Q=>∃ l xs,x=.ref l∧vs=[]∧H l=some (.lst xs)∧Q .non (upd H l (.lst xs.reverse))
theorem yd8:MtM X "list.reverse" xa5:=by
 intro pins s σ H x vs v us Q I rx rv h
 obtain ⟨l,xs,rfl,rfl,hH,q⟩:=h
 cases rx
 have hus:=rv.zero
 subst hus
 obtain ⟨z,its,n,r,hl,e⟩:=I.lstM hH
 refine call_meets F.slot_list_reverse ⟨_,e,rfl⟩ F.entry_list_reverse (F.args_list_reverse_1 _) (AutoSeq1.list_reverse_list_0 l its.toArray n (by rw [List.size_toArray];lia)) ⟨e,?_⟩
 refine ⟨.non,_,I.lset (its':=its.reverse) hH e (by simp) r.reverse ?_,rfl,q⟩
 rw [List.length_reverse]
 lia
end
section
variable {prog:Program} {w:World} {A:Around} {E:Value→Shared→Prop} {s:Shared}
set_option maxRecDepth 100000 in
end
section
variable {X:Cx}
end
end L2
namespace Att
open PySem PySem.W PySem.Calls PyProof.Rows
theorem ints_of_wellAll {P:Params} {h:Heap}:∀ (ns:List Int) (vs:List Value),WellAll P h vs (ns.map WData.int)→IntsAre vs ns:=by
 intro ns
 induction ns with
 | nil =>
  intro vs w
  rw [List.map_nil] at w
  cases w
  exact .nil
 | cons n ns ih =>
  intro vs w
  rw [List.map_cons] at w
  cases w with
  | cons a b =>
   cases a
   exact .cons _ _ (ih _ b)
theorem script_of {l:OpenLaw} {n:Nat} (hn:l.most=some n) {P:Params} {h:Heap} {args:List WData} {vals:List Value}
  (hpre:l.row.toRowW.claim.pre args=true) (hwl:WellAll P h vals args) :
  ∃ a vs ns,vals=[Value.ref a]∧args=[WData.list (ns.map WData.int)]∧h.get? a=some { cls:=.type "list", data:=.seq vs.toArray }∧IntsAre vs ns∧ns.length≤n:=by
 have hsh:WShape.hasAll [] args [.list .int]=true:=(pre_splitW hpre).1
 have hc:l.pre.holds [] { args:=args }=true:=(pre_splitW hpre).2
 obtain ⟨d,r,rfl,h1,h2⟩:=hasAllW_cons hsh
 obtain rfl:=hasAllW_nil h2
 obtain ⟨xs,rfl,h3⟩:=hasW_list h1
 obtain ⟨ns,rfl⟩:=items_int h3
 have hlen:ns.length≤n:=by
  unfold OpenLaw.pre at hc
  have h4:(WTm.not (.lt (.lit (.int (n:Int))) (.len (.arg 0)))).holds [] { args:=[.list (ns.map .int)] }=true:=by
   have h4:=(holds_andW hc).1
   rw [hn] at h4
   exact h4
  have h5:=condW_of h4 (w_not (w_lt w_lit (w_len_list (w_arg rfl))))
  rw [List.length_map] at h5
  refine Nat.le_of_not_lt fun q=>?_
  have q':(n:Int)<((ns.length:Nat):Int):=by lia
  first
   | (rw [decide_eq_true q'] at h5;exact absurd h5 (by decide))
   | (simp at h5;lia)
 cases hwl with
 | cons w1 w2 =>
  cases w2
  cases w1 with
  | list ho hall=>exact ⟨_,_,ns,rfl,rfl,ho,ints_of_wellAll ns _ hall,hlen⟩
theorem post_true (l:OpenLaw) (args:List WData):l.row.toRowW.claim.post args (.bool true) args=true :=
 postW_of (r:=l.row.toRowW) (X:=(true==true))
  (show WShape.has [] (.bool true) .bool=true by first | rfl | decide | simp [WShape.has,WShape.arms,WShape.armsAll])
  (show (WTm.eq .res (.lit (.bool true))).value [] { args:=args,res:=some (.bool true),after:=args }=some (.bool (true==true)) from w_eq_bool (w_res rfl) w_lit) rfl
theorem attach_call {l:OpenLaw} {n:Nat} {q:Program} {loose:List Str} {XP:(Str→Option Value)→Heap→Prop} {YP:World→Heap→Prop} {d:DefRec}
  (hn:l.most=some n) (hdf:d.params.defaults=[])
  (call:∀ (w:World) (s₀ s₁:Shared) (mg mb:Str→Option Value) (fa:Addr) (o:Obj) (pm cd doc:Value) (a:Addr) (vs:List Value) (ns:List Int),
   Ground q loose [] XP w s₀ mg mb s₁.heap→YP w s₁.heap →
   s₁.heap.get? fa=some o→o.data=.func (docDef d.name d.params d.body d.scope pm cd doc)→s₁.heap.CodeRec cd d.name→mg d.name=some (.ref fa) →
   s₁.heap.get? a=some { cls:=.type "list", data:=.seq vs.toArray }→IntsAre vs ns→ns.length≤n→s₁.gens=#[] →
   codeAny (model l.prog w) callerA (.call (.ref fa) ⟨[.ref a],[]⟩) (fun r s'=>r=.ok (.ret (.bool true))∧OldK s₁.heap s'.heap∧s'.os=s₁.os∧AllBare s'.gens) s₁) :
  WalkO q loose XP YP l.row.toRowW d [] (fun f vs=>PySem.call f vs):=by
 intro w s₀ s₁ mg mb G Y fa o pm cd doc dV kV ho hd hcd hD hmg hg args vals as hpre hlay hrd hwl hlo
 obtain rfl:dV=.none:=Dflts.none hD hdf
 obtain rfl:kV=.none:=Dflts.noKw hD
 obtain ⟨a,vs,ns,rfl,rfl,hobj,hints,hlen⟩:=script_of hn hpre hwl
 refine enter_call (codeAny_mono (call w s₀ s₁ mg mb fa o pm cd doc a vs ns G Y ho (fd_plain hd) hcd hmg hobj hints hlen hg) fun r s' hq=>?_)
 obtain ⟨rfl,h2,h3,h4⟩:=hq
 exact ⟨.inl ⟨.bool true,.bool true,[],rfl,fun _=>rfl,.bool true,post_true l _,fun _=>⟨List.Pairwise.nil,fun _ hm=>(nomatch hm)⟩⟩,h2,h3,h4⟩
section
variable {prog:Program} {w:World} {A:Around} {E:Value→Shared→Prop} {s:Shared} {K:Frag}
end
end Att
namespace L2
open PySem PySem.Spec PyProof.Rows
theorem zN9:∀ {vs:List Value} {ns:List Int},IntsAre vs ns→zg6 (ns.map V.int) vs
 | _,_,.nil=>.nil
 | _,_,.cons n t h=>.cons ⟨t,rfl⟩ (zN9 h)
def xh2 (H:Hp):Prop:=∀ b,H b=none∨∃ o xs,H b=some (.frz o (.lst xs))
theorem yq9 {P:Program} {w:World} {K:Frag} {mg mb:Str→Option Value} {CX:CXT} {k:Nat} {fa a:Addr} {fd:FuncData} {x:Str} {sp:Sp} {s₁:Shared} {vs:List Value} {ns:List Int}
  (KX:K.In s₁.heap) (hns:s₁.heap.Ns mainGlobals mg) (hb:s₁.heap.Ns builtinsNs mb) (hbb:∀ x:Str,x ≠ "__name__" → mb x=bootBuiltins x) (hlim:s₁.heap.NoLimit) (hg:s₁.gens=#[])
  (ha:s₁.heap.get? a=some { cls:=.type "list", data:=.seq vs.toArray }) (hi:IntsAre vs ns) (hl:ns.length≤sizeLine) (hr:zp3 k callerA)
  (F:∀ base:Heap,K.In base→base.Ns mainGlobals mg→zs8 P w K mg base CX k fa fd [x] sp) (hbind:∀ (s:Shared) (u:Value),BindsTo s fd ⟨[u],[]⟩ [(x,u)])
  (hsp:∀ H:Hp,xh2 H→SqL K H a (ns.map V.int)→sp [.ref a] H (fun v _=>v=.bl true) fun _ _ _=>False)
  (hCX:∀ H e s',CX [] H s₁ (fun _ _ _=>False) e s'→False) :
  codeAny (model P w) callerA (.call (.ref fa) ⟨[.ref a],[]⟩) (fun r s'=>r=.ok (.ret (.bool true))∧OldK s₁.heap s'.heap∧s'.os=s₁.os∧AllBare s'.gens) s₁:=by
 have rv:=zN9 hi
 have lenV:=hi.length
 -- from an abstract heap in which nothing but the script may be tracked
 have core:∀ H:Hp,xh2 H→SqL K H a (ns.map V.int)→HOk P w H s₁.heap→(∀ b,H b≠none→b=a)→(H a≠none→K.lookup a=none) →
   codeAny (model P w) callerA (.call (.ref fa) ⟨[.ref a],[]⟩) (fun r s'=>r=.ok (.ret (.bool true))∧OldK s₁.heap s'.heap∧s'.os=s₁.os∧AllBare s'.gens) s₁:=by
  intro H hO hS hok hA hK
  have base_of:∀ {b:Addr} {o:Obj},s₁.heap.get? b=some o→H b=none→(yx5 s₁.heap H).get? b=some o:=fun e n=>yt7 e n
  have noA:∀ {b:Addr} {o:Obj} {es:Array DictEntry} {ep:Nat},s₁.heap.get? b=some o→o.data=.dict es ep→H b=none:=fun {b o es ep} e d=>by
   cases q:H b with
   | none=>rfl
   | some u =>
    have e':b=a:=hA b (by rw [q];simp)
    subst e'
    rw [ha] at e;cases e
    have d':Data.seq vs.toArray _=Data.dict es ep:=d
    cases d'
  have nsK:∀ {b:Addr} {m:Str→Option Value},s₁.heap.Ns b m→(yx5 s₁.heap H).Ns b m:=fun {b m} ⟨o,es,ep,e,d,r⟩=>⟨o,es,ep,base_of e (noA e d),d,r⟩
  have hKb:K.In (yx5 s₁.heap H):=fun b o e=>base_of (KX b o e) (by
   cases q:H b with
   | none=>rfl
   | some u =>
    have e':b=a:=hA b (by rw [q];simp)
    subst e'
    rw [hK (by rw [q];simp)] at e;cases e)
  have hM:Mod K mg (yx5 s₁.heap H):=⟨hKb,nsK hns,⟨mb,nsK hb,hbb⟩,let ⟨mc,h1,h2⟩:=hlim;⟨mc,nsK h1,h2⟩⟩
  have e0:xb2 P w K mg (yx5 s₁.heap H) callerA [] s₁ H:=⟨rfl,hM,fun b o e=>yF3 e,Nat.le_of_eq (yp3 _ _),trivial,fun b hb=>absurd (show b∈([]:List Addr) from hb) (by simp),hok,.of_eq hg⟩
  refine codeAny_mono ((F _ hKb (nsK hns)).run callerA [] s₁ H ⟨[.ref a],[]⟩ [.ref a] [.ref a] _ _ hr e0 (hbind s₁ (.ref a)) (.cons rfl .nil) (hsp H hO hS)) fun r s' h=>?_
  cases r with
  | error e=>exact (hCX H e s' h).elim
  | ok fl =>
   cases fl with
   | next=>exact False.elim h
   | brk=>exact False.elim h
   | cont=>exact False.elim h
   | ret u =>
    obtain ⟨v,H',os,bare,un,hok',r',q⟩:=h
    have q':v=.bl true:=q
    subst q'
    obtain rfl:u=Value.bool true:=r'
    refine ⟨rfl,OldK.of_keep fun b o e=>?_,os,bare⟩
    cases q:H b with
    | none=>exact un.keep b o e q (by intro z;exact absurd (show b∈([]:List Addr) from z) (by simp)) (by simp)
    | some u =>
     rcases hO b with z | ⟨ob,xs,z⟩
     ·rw [q] at z;cases z
     ·have z2:=un.frzs b ob _ z
      obtain ⟨e1,_⟩:=hok b _ z
      obtain ⟨e2,_⟩:=hok' b _ z2
      rw [e] at e1;cases e1
      exact e2
 cases hk:K.lookup a with
 | some o =>
  -- the script is one of the module's own objects
  have e:=KX a o hk
  rw [ha] at e
  cases e
  refine core (fun _=>none) (fun _=>.inl rfl) (.inr ⟨_,vs.toArray,_,hk,rfl,rfl,rfl,by rw [List.size_toArray,lenV];exact hl,by simpa using rv⟩) (fun b u z=>by have z':(none:Option HO)=some u:=z;cases z') (fun b z=>absurd rfl z) fun z=>absurd rfl z
 | none =>
  refine core (fun b=>if b=a then some (.frz { cls:=.type "list", data:=.seq vs.toArray } (.lst (ns.map V.int))) else none) (fun b=>?_) (.inl (.inr ⟨{ cls:=.type "list", data:=.seq vs.toArray },if_pos rfl⟩)) (fun b u z=>?_) (fun b z=>?_) fun _=>hk
  ·by_cases hb:b=a
   ·exact .inr ⟨_,_,if_pos hb⟩
   ·exact .inl (if_neg hb)
  ·by_cases hb:b=a
   ·have z':=(if_pos hb).symm.trans z
    cases z'
    subst hb
    exact ⟨ha,by rw [List.length_map];exact hl,vs,_,rv,ha⟩
   ·have z':=(if_neg hb).symm.trans z
    cases z'
  ·by_cases hb:b=a
   ·exact hb
   ·exact absurd (if_neg hb) z
theorem xc6 {l:PySem.W.OpenLaw} {n k:Nat} {q:Program} {loose:List Str} {XP:(Str→Option Value)→Heap→Prop} {YP:World→Heap→Prop} {d:DefRec} {K:Params→Frag} {CX:World→CXT} {sp:World→Sp} {x:Str}
  (hn:l.most=some n) (hn2:n≤sizeLine) (hdf:d.params.defaults=[]) (hr:zp3 k callerA)
  (hY:∀ (w:World) (h:Heap),YP w h→(K w.params).In h)
  (F:∀ (w:World) (mg:Str→Option Value) (fa:Addr) (h:Heap),(K w.params).In h→h.Ns mainGlobals mg→mg d.name=some (.ref fa) →
   ∃ fd:FuncData,(∀ (s:Shared) (u:Value),BindsTo s fd ⟨[u],[]⟩ [(x,u)]) ∧
    ∀ base:Heap,(K w.params).In base→base.Ns mainGlobals mg→zs8 l.prog w (K w.params) mg base (CX w) k fa fd [x] (sp w))
  (hsp:∀ (w:World) (H:Hp) (a:Addr) (ns:List Int),ns.length≤n→xh2 H→SqL (K w.params) H a (ns.map V.int)→sp w [.ref a] H (fun v _=>v=.bl true) fun _ _ _=>False)
  (hCX:∀ (w:World) (H:Hp) (s:Shared) (e:Value) (s':Shared),CX w [] H s (fun _ _ _=>False) e s'→False) :
  PySem.W.WalkO q loose XP YP l.row.toRowW d [] (fun f vs=>PySem.call f vs):=by
 refine Att.attach_call hn hdf fun w s₀ s₁ mg mb fa o pm cd doc a vs ns G Y ho hd hcd hmg hobj hints hlen hg=>?_
 have KX:=hY w _ Y
 obtain ⟨fd,hb,hF⟩:=F w mg fa _ KX G.T.g hmg
 exact yq9 KX G.T.g G.T.b G.T.builtins G.T.nolimit hg hobj hints (Nat.le_trans hlen hn2) hr hF hb (fun H hO hS=>hsp w H a ns hlen hO hS) fun H e s'=>hCX w H s₁ e s'
noncomputable def zb5 (s:Stmt):Arguments:=match s with
 | .FunctionDef _ a _ _ _ _ _ _ _ _=>a
 | _=>{ posonlyargs:=[],args:=[],vararg:=none,kwonlyargs:=[],kw_defaults:=[],kwarg:=none,defaults:=[] }
noncomputable def zb0 (s:Stmt):List Stmt:=match s with
 | .FunctionDef _ _ b _ _ _ _ _ _ _=>b
 | _=>[]
noncomputable def za5 (s:Stmt):Scope:=match s with
 | .FunctionDef _ _ _ _ _ _ sc _ _ _=>sc
 | _=>{ kind:=.function,names:=[],isGenerator:=false,isCoroutine:=false }
noncomputable abbrev CX0:CXT:=fun _ _ _ _ _ _=>False
noncomputable abbrev E0:XK:=fun _ _ _=>False
theorem xc5 {X:Cx}:yl3 CX0 X E0:=fun _ _ _ _ _ _ _ h=>h.elim
structure Fun (K:Frag) (x qual:Str) (st:Stmt) (f:Addr) (fd:FuncData):Prop where
 ex:∃ (oc:Value) (od:Option Addr) (kV doc pm:Value) (an:Option Addr) (cdv ct:Value) (osl:Array (Option Value)),
  fd=fnOf x qual (zb5 st) (zb0 st) (za5 st) .none kV doc pm an cdv ct∧K.lookup f=some ⟨oc,od,.func fd,osl⟩∧codeIn K cdv qual=true
 kp:keepIn K (.ref f)=true
section
variable {P:Program} {w:World} {K:Frag} {mg:Str→Option Value} {base:Heap}
theorem Fun.ok {x qual:Str} {st:Stmt} {f:Addr} {fd:FuncData} {N ps:List Str} {k:Nat} {sp:Sp} (F:Fun K x qual st f fd) (S:ze6 N ps (za5 st)) (len:∀ vs H Q E,sp vs H Q E→vs.length=ps.length)
  (hbody:∀ (cdv:Value) (A:Around) (outer:List Env) (s:Shared) (H:Hp) (vs:List V) (Q:VK) (E:XK),zp3 k (A.deeper (envOfC qual (za5 st) s.heap.objs.size f cdv))→sp vs H Q E →
   ∃ t,PSs (zx8 CX0 P w K mg base N qual (za5 st) f cdv A outer s H E).nox (zb0 st) t∧t { nx:=fun _ H'=>Q .non H',rt:=Q } (start N vs) H):zs8 P w K mg base CX0 (k+1) f fd ps sp:=by
 obtain ⟨oc,od,kV,doc,pm,an,cdv,ct,osl,rfl,lk,hcd⟩:=F.ex
 refine xi2 lk hcd S len fun A outer s H vs Q E hr hsp=>?_
 obtain ⟨t,h,q⟩:=hbody cdv A outer s H vs Q E hr hsp
 exact ⟨t,h.nox,q⟩
theorem Fun.binds {x qual:Str} {st:Stmt} {f:Addr} {fd:FuncData} {ps:List Str} (F:Fun K x qual st f fd)
  (h:∀ (kV doc pm:Value) (an:Option Addr) (cdv ct:Value) (us:List Value),us.length=ps.length→bindArgs (fnOf x qual (zb5 st) (zb0 st) (za5 st) .none kV doc pm an cdv ct) ⟨us,[]⟩=pure (ps.zip us)):Binds K fd ps []:=by
 obtain ⟨oc,od,kV,doc,pm,an,cdv,ct,osl,rfl,lk,hcd⟩:=F.ex
 exact .all (h kV doc pm an cdv ct)
theorem zi9 {x qual:Str} {st:Stmt} {f:Addr} {oc:Value} {od an:Option Addr} {osl:Array (Option Value)} {kV doc pm cdv ct:Value} (l:K.lookup f=some ⟨oc,od,.func (fnOf x qual (zb5 st) (zb0 st) (za5 st) .none kV doc pm an cdv ct),osl⟩)
  (c:codeIn K cdv qual=true) (k:keepIn K (.ref f)=true):Fun K x qual st f (fnOf x qual (zb5 st) (zb0 st) (za5 st) .none kV doc pm an cdv ct):=⟨⟨oc,od,kV,doc,pm,an,cdv,ct,osl,rfl,l,c⟩,k⟩
end
section
variable {X:Cx}
end
def zj0 (H H':Hp):Prop:=∀ b o,H b=some o→H' b=some o
theorem zj0.refl (H:Hp):zj0 H H:=fun _ _ h=>h
theorem zj0.seq {K:Frag} {H H':Hp} {a:Addr} {xs:List V} (e:zj0 H H') (h:SqL K H a xs):SqL K H' a xs:=by
 rcases h with (h | ⟨o,h⟩) | h
 ·exact .inl (.inl (e _ _ h))
 ·exact .inl (.inr ⟨o,e _ _ h⟩)
 ·exact .inr h
end L2
namespace HT
open PySem
structure Low (xs:Array Nat) (j r:Nat):Prop where
 le:r≤xs.size
 lo:∀ i (h:i<xs.size),i<r→xs[i]<j
 hi:∀ i (h:i<xs.size),r≤i→j≤xs[i]
end HT
namespace HT
open PySem
end HT
namespace HT
open PySem
section
variable {prog:Program} {w:World} {K:Type} [DecidableEq K] {knd:KeyKind prog w K} {A:Around} {E:Value→Shared→Prop} {s:Shared}
end
end HT
namespace HT
open PySem PyProof.Rows
section
variable {K:Type} [DecidableEq K]
end
section
variable {prog:Program} {w:World} {K:Type} [DecidableEq K] {knd:KeyKind prog w K}
variable {A:Around} {R:Result→Shared→Prop} {I:Addr} {fp wr:List Addr} {G:Array GenState→Array GenState→Prop} {n:Nat} {P:Nat→Value→Prop} {St:Nat→Shared→Prop}
end
section
variable {prog:Program} {w:World} {A:Around} {E:Value→Shared→Prop} {s:Shared}
end
end HT
namespace HT
open PySem PyProof.Rows
section
variable {prog:Program} {w:World} {K:Type} [DecidableEq K] {knd:KeyKind prog w K} {A:Around} {E:Value→Shared→Prop} {s:Shared}
end
end HT
namespace HT
open PySem PyProof.Rows
section
variable {prog:Program} {w:World} {A:Around} {E:Value→Shared→Prop} {s:Shared}
end
end HT
namespace HT
open PySem PyProof.Rows
section
variable {prog:Program} {w:World} {A:Around} {E:Value→Shared→Prop} {s:Shared}
end
end HT
namespace HT
open PySem PyProof.Rows
section
variable {prog:Program} {w:World} {A:Around} {E:Value→Shared→Prop} {s:Shared}
end
end HT
namespace HT
open PySem PyProof.Rows
noncomputable abbrev sameG (a b:Array GenState):Prop:=b=a
section
variable {prog:Program} {w:World} {A:Around} {E:Value→Shared→Prop} {s:Shared}
end
end HT
namespace HT
open PySem PyProof.Rows
structure SW (prog:Program) (w:World) (I:Addr) (fp:List Addr) (vs:List Value) (St:Nat→Shared→Prop):Prop where
 walk:∀ B:Around,B.handled=none→WalksS prog w B I fp [I] sameG vs.length (fun i v=>vs[i]?=some v) St
 typ:∀ i z,St i z→z.TypeIs (.ref I) "set_iterator"
section
variable {prog:Program} {w:World} {K:Type} [DecidableEq K] {knd:KeyKind prog w K} {A:Around} {E:Value→Shared→Prop} {s:Shared}
end
end HT
namespace HT
open PySem PyProof.Rows
section
variable {prog:Program} {w:World} {K:Type} [DecidableEq K] {knd:KeyKind prog w K} {A:Around} {E:Value→Shared→Prop} {s:Shared}
end
end HT
namespace HT
open PySem PyProof.Rows
section
variable {prog:Program} {w:World} {A:Around} {E:Value→Shared→Prop} {s:Shared}
theorem strs_len:∀ {vs:List Value} {ss:List Str},StrsAre vs ss→ss.length=vs.length
 | _,_,.nil=>rfl
 | _,_,.cons x t r=>by simp [strs_len r]
end
end HT
namespace OR
open PySem L2
mutual
/-- a pure value stands at v;lv: the mutable objects' addresses -/
noncomputable def RP (K:Frag) (H:Hp) (lv:Addr→Prop):PV→V→Prop
 | .non,v=>v=.non
 | .bl b,v=>v=.bl b
 | .int i,v=>v=.int i
 | .str cs,v=>v=.str ⟨cs.toArray⟩∧cs.length≤sizeLine
 | .tup xs,v=>∃ a vs,v=.ref a∧SqT K H a vs∧RPs K H lv xs vs
 | .lst xs,v=>∃ a vs,v=.ref a∧SqL K H a vs∧¬ lv a∧RPs K H lv xs vs
noncomputable def RPs (K:Frag) (H:Hp) (lv:Addr→Prop):List PV→List V→Prop
 | [],vs=>vs=[]
 | x::r,vs=>∃ v vr,vs=v::vr∧RP K H lv x v∧RPs K H lv r vr
end
structure Al where
 adr:List Addr
 rsv:Addr→Prop
def zf1 (α:Al) (st:za6) (a:Addr):Prop:=α.rsv a∨∃ n o,α.adr[n]?=some a∧zb6 st n=some o∧o≠.dead
noncomputable def keyOf:PV→Option Key
 | .int i=>some (.inl i)
 | .str cs=>some (.inr ⟨cs.toArray⟩)
 | _=>none
def RKV (K:Frag) (H:Hp) (lv:Addr→Prop):List (PV×PV)→List (Key×V)→Prop
 | [],l=>l=[]
 | (k,x)::r,l=>∃ k' v l',l=(k',v)::l'∧keyOf k=some k'∧RP K H lv x v∧RKV K H lv r l'
structure RSt (K:Frag) (α:Al) (st:za6) (H:Hp):Prop where
 len:α.adr.length=st.length
 lst:∀ n xs,zb6 st n=some (.lst xs)→∃ a vs,α.adr[n]?=some a∧H a=some (.lst vs)∧RPs K H (zf1 α st) xs vs
 dct:∀ n kvs,zb6 st n=some (.dct kvs)→∃ a l,α.adr[n]?=some a∧H a=some (.dK l)∧RKV K H (zf1 α st) kvs l
 inj:∀ (n m:Nat) a o o',n≠m→α.adr[n]?=some a→α.adr[m]?=some a→zb6 st n=some o→zb6 st m=some o'→o=.dead∨o'=.dead
 nk:∀ a,zf1 α st a→K.lookup a=none
 dis:∀ (n:Nat) a o,α.adr[n]?=some a→zb6 st n=some o→o≠.dead→¬ α.rsv a
 rsv:∀ a,α.rsv a→∃ vs,H a=some (.lst vs)
def RV (K:Frag) (α:Al) (st:za6) (H:Hp):Val→V→Prop
 | .p x,v=>RP K H (zf1 α st) x v
 | .ref n,v=>∃ a,v=.ref a∧α.adr[n]?=some a
structure Ext (K:Frag) (α:Al) (st:za6) (H:Hp) (α':Al) (st':za6) (H':Hp):Prop where
 pre:∀ (n:Nat) a,α.adr[n]?=some a→α'.adr[n]?=some a
 tup:∀ a vs,SqT K H a vs→SqT K H' a vs
 lst:∀ a vs,SqL K H a vs→¬ zf1 α st a→SqL K H' a vs∧¬ zf1 α' st' a
 rsv:α'.rsv=α.rsv
 raw:∀ a,α.rsv a→H' a=H a
section
variable {K:Frag} {α α' α2:Al} {st st' st2:za6} {H H' H2:Hp} {lv lv':Addr→Prop}
theorem Ext.refl:Ext K α st H α st H:=⟨fun _ _ h=>h,fun _ _ h=>h,fun _ _ h n=>⟨h,n⟩,rfl,fun _ _=>rfl⟩
theorem Ext.trans (a:Ext K α st H α' st' H') (b:Ext K α' st' H' α2 st2 H2):Ext K α st H α2 st2 H2 :=
 ⟨fun n x h=>b.pre n x (a.pre n x h),fun x vs h=>b.tup x vs (a.tup x vs h),fun x vs h n=>let ⟨h1,n1⟩:=a.lst x vs h n;b.lst x vs h1 n1,b.rsv.trans a.rsv,fun x h=>(b.raw x (by rw [a.rsv];exact h)).trans (a.raw x h)⟩
mutual
theorem RP.mono (ht:∀ a vs,SqT K H a vs→SqT K H' a vs) (hl:∀ a vs,SqL K H a vs→¬ lv a→SqL K H' a vs∧¬ lv' a):∀ (x:PV) (v:V),RP K H lv x v→RP K H' lv' x v
 | .non,v,h=>by rw [RP] at h ⊢;exact h
 | .bl b,v,h=>by rw [RP] at h ⊢;exact h
 | .int i,v,h=>by rw [RP] at h ⊢;exact h
 | .str cs,v,h=>by rw [RP] at h ⊢;exact h
 | .tup xs,v,h=>by
  rw [RP] at h ⊢
  obtain ⟨a,vs,e,q,r⟩:=h
  exact ⟨a,vs,e,ht a vs q,RPs.mono ht hl xs vs r⟩
 | .lst xs,v,h=>by
  rw [RP] at h ⊢
  obtain ⟨a,vs,e,q,n,r⟩:=h
  obtain ⟨q',n'⟩:=hl a vs q n
  exact ⟨a,vs,e,q',n',RPs.mono ht hl xs vs r⟩
theorem RPs.mono (ht:∀ a vs,SqT K H a vs→SqT K H' a vs) (hl:∀ a vs,SqL K H a vs→¬ lv a→SqL K H' a vs∧¬ lv' a):∀ (xs:List PV) (vs:List V),RPs K H lv xs vs→RPs K H' lv' xs vs
 | [],vs,h=>by rw [RPs] at h ⊢;exact h
 | x::r,vs,h=>by
  rw [RPs] at h ⊢
  obtain ⟨v,vr,e,q,t⟩:=h
  exact ⟨v,vr,e,RP.mono ht hl x v q,RPs.mono ht hl r vr t⟩
end
theorem RKV.mono (ht:∀ a vs,SqT K H a vs→SqT K H' a vs) (hl:∀ a vs,SqL K H a vs→¬ lv a→SqL K H' a vs∧¬ lv' a):∀ (kvs:List (PV×PV)) (l:List (Key×V)),RKV K H lv kvs l→RKV K H' lv' kvs l
 | [],l,h=>by rw [RKV] at h ⊢;exact h
 | (k,x)::r,l,h=>by
  rw [RKV] at h ⊢
  obtain ⟨k',v,l',e,ek,q,t⟩:=h
  exact ⟨k',v,l',e,ek,RP.mono ht hl x v q,RKV.mono ht hl r l' t⟩
theorem Ext.rp (e:Ext K α st H α' st' H') {x:PV} {v:V} (h:RP K H (zf1 α st) x v):RP K H' (zf1 α' st') x v:=RP.mono e.tup e.lst x v h
theorem Ext.rps (e:Ext K α st H α' st' H') {x:List PV} {v:List V} (h:RPs K H (zf1 α st) x v):RPs K H' (zf1 α' st') x v:=RPs.mono e.tup e.lst x v h
theorem Ext.rv (e:Ext K α st H α' st' H') {x:Val} {v:V} (h:RV K α st H x v):RV K α' st' H' x v:=by
 cases x with
 | p x=>exact e.rp h
 | ref n=>obtain ⟨a,h1,h2⟩:=h;exact ⟨a,h1,e.pre n a h2⟩
theorem SqT.same {a:Addr} {vs:List V} (s:zj0 H H') (h:SqT K H a vs):SqT K H' a vs:=by
 rcases h with (h | ⟨o,h⟩) | h
 ·exact .inl (.inl (s _ _ h))
 ·exact .inl (.inr ⟨o,s _ _ h⟩)
 ·exact .inr h
theorem Ext.of_same (r:RSt K α st H) (s:zj0 H H'):Ext K α st H α st H':=⟨fun _ _ h=>h,fun _ _ h=>SqT.same s h,fun _ _ h n=>⟨zj0.seq s h,n⟩,rfl,fun a ha=>by
 obtain ⟨vs,e⟩:=r.rsv a ha
 rw [e,s _ _ e]⟩
theorem RSt.same (s:zj0 H H') (r:RSt K α st H):RSt K α st H':=by
 refine ⟨r.len,fun n xs h=>?_,fun n kvs h=>?_,r.inj,r.nk,r.dis,fun a ha=>let ⟨vs,e⟩:=r.rsv a ha;⟨vs,s _ _ e⟩⟩
 ·obtain ⟨a,vs,h1,h2,h3⟩:=r.lst n xs h
  exact ⟨a,vs,h1,s _ _ h2,(Ext.of_same r s).rps h3⟩
 ·obtain ⟨a,vs,h1,h2,h3⟩:=r.dct n kvs h
  exact ⟨a,vs,h1,s _ _ h2,RKV.mono (fun _ _ h=>SqT.same s h) (fun _ _ h n=>⟨zj0.seq s h,n⟩) _ _ h3⟩
theorem zf8 {p:Addr} (h:H p=none) (o:HO):zj0 H (upd H p o):=fun b u q=>by rw [ze3 (zk8 q h)];exact q
theorem RSt.live (r:RSt K α st H) {a:Addr} (h:zf1 α st a):(∃ vs,H a=some (.lst vs))∨∃ l,H a=some (.dK l):=by
 rcases h with h | ⟨n,o,h1,h2,h3⟩
 ·exact .inl (r.rsv a h)
 cases o with
 | lst xs=>obtain ⟨a',vs,e1,e2,_⟩:=r.lst n xs h2;rw [h1] at e1;cases e1;exact .inl ⟨vs,e2⟩
 | dct kvs=>obtain ⟨a',vs,e1,e2,_⟩:=r.dct n kvs h2;rw [h1] at e1;cases e1;exact .inr ⟨vs,e2⟩
 | dead=>exact absurd rfl h3
theorem RSt.notlive (r:RSt K α st H) {a:Addr} (h:H a=none):¬ zf1 α st a:=fun l=>by
 rcases r.live l with ⟨_,e⟩ | ⟨_,e⟩ <;> rw [h] at e <;> cases e
theorem RPs.length:∀ {xs:List PV} {vs:List V},RPs K H lv xs vs→xs.length=vs.length
 | [],vs,h=>by rw [RPs] at h;subst h;rfl
 | x::r,vs,h=>by
  rw [RPs] at h
  obtain ⟨v,vr,e,_,t⟩:=h
  subst e
  simp [RPs.length t]
theorem RPs.get:∀ {xs:List PV} {vs:List V} {i:Nat} {x:PV},RPs K H lv xs vs→xs[i]?=some x→∃ v,vs[i]?=some v∧RP K H lv x v
 | [],_,_,_,_,e=>by simp at e
 | y::r,vs,0,x,h,e=>by
  rw [RPs] at h
  obtain ⟨v,vr,e',q,t⟩:=h
  subst e'
  simp at e;subst e
  exact ⟨v,rfl,q⟩
 | y::r,vs,i+1,x,h,e=>by
  rw [RPs] at h
  obtain ⟨v,vr,e',q,t⟩:=h
  subst e'
  obtain ⟨w,h1,h2⟩:=RPs.get (i:=i) (x:=x) t (by simpa using e)
  exact ⟨w,by simpa using h1,h2⟩
theorem RPs.append:∀ {xs ys:List PV} {vs ws:List V},RPs K H lv xs vs→RPs K H lv ys ws→RPs K H lv (xs++ys) (vs++ws)
 | [],_,vs,_,h,t=>by rw [RPs] at h;subst h;exact t
 | x::r,ys,vs,ws,h,t=>by
  rw [RPs] at h
  obtain ⟨v,vr,e,q,t'⟩:=h
  subst e
  rw [List.cons_append,List.cons_append,RPs]
  exact ⟨v,_,rfl,q,RPs.append t' t⟩
theorem RPs.snoc {xs:List PV} {vs:List V} {x:PV} {v:V} (h:RPs K H lv xs vs) (q:RP K H lv x v):RPs K H lv (xs++[x]) (vs++[v]) :=
 h.append (by rw [RPs];exact ⟨v,[],rfl,q,by rw [RPs]⟩)
theorem RPs.take:∀ (n:Nat) {xs:List PV} {vs:List V},RPs K H lv xs vs→RPs K H lv (xs.take n) (vs.take n)
 | 0,_,_,_=>by rw [List.take_zero,List.take_zero,RPs]
 | n+1,[],vs,h=>by rw [RPs] at h;subst h;rw [List.take_nil,List.take_nil,RPs]
 | n+1,x::r,vs,h=>by
  rw [RPs] at h
  obtain ⟨v,vr,e,q,t⟩:=h
  subst e
  rw [List.take_succ_cons,List.take_succ_cons,RPs]
  exact ⟨v,_,rfl,q,RPs.take n t⟩
theorem RPs.drop:∀ (n:Nat) {xs:List PV} {vs:List V},RPs K H lv xs vs→RPs K H lv (xs.drop n) (vs.drop n)
 | 0,_,_,h=>h
 | n+1,[],vs,h=>by rw [RPs] at h;subst h;rw [List.drop_nil,List.drop_nil,RPs]
 | n+1,x::r,vs,h=>by
  rw [RPs] at h
  obtain ⟨v,vr,e,q,t⟩:=h
  subst e
  exact RPs.drop n t
def RW (K:Frag) (α:Al) (st:za6) (H:Hp) (x:PV) (v:V):Prop :=
 RP K H (zf1 α st) x v∨∃ xs a vs,x=.lst xs∧v=.ref a∧SqL K H a vs∧RPs K H (zf1 α st) xs vs
theorem RV.view {x:Val} {v:V} {y:PV} (r:RSt K α st H) (h:RV K α st H x v) (e:view st x=some y):RW K α st H y v:=by
 cases x with
 | p z=>cases e;exact .inl h
 | ref n =>
  obtain ⟨a,rfl,ha⟩:=h
  have e:(match zb6 st n with | some (.lst xs)=>some (PV.lst xs) | _=>none)=some y:=e
  cases q:zb6 st n with
  | none=>rw [q] at e;cases e
  | some o =>
   cases o with
   | lst xs =>
    rw [q] at e
    cases e
    obtain ⟨a',vs,h1,h2,h3⟩:=r.lst n xs q
    rw [ha] at h1;cases h1
    exact .inr ⟨xs,a,vs,rfl,rfl,SqL.of h2,h3⟩
   | dct _=>rw [q] at e;cases e
   | dead=>rw [q] at e;cases e
end
structure Lk (K:Frag) (α:Al) (st:za6) (H:Hp) (α':Al) (st':za6) (H':Hp):Prop where
 pre:∀ (n:Nat) a,α.adr[n]?=some a→α'.adr[n]?=some a
 tup:∀ a vs,SqT K H a vs→SqT K H' a vs
 lst:∀ a vs,SqL K H a vs→¬ zf1 α st a→SqL K H' a vs∧¬ zf1 α' st' a
 sub:∀ a,α.rsv a→α'.rsv a
 raw:∀ a,α.rsv a→H' a=H a
theorem Lk.step {K:Frag} {α α' α2:Al} {st st' st2:za6} {H H' H2:Hp} (l:Lk K α st H α' st' H') (e:Ext K α' st' H' α2 st2 H2):Lk K α st H α2 st2 H2 :=
 ⟨fun n a h=>e.pre n a (l.pre n a h),fun a vs h=>e.tup a vs (l.tup a vs h),fun a vs h n=>let ⟨h1,n1⟩:=l.lst a vs h n;e.lst a vs h1 n1,fun a h=>by rw [e.rsv];exact l.sub a h,fun a h=>(e.raw a (l.sub a h)).trans (l.raw a h)⟩
theorem Ext.lk {K:Frag} {α α':Al} {st st':za6} {H H':Hp} (e:Ext K α st H α' st' H'):Lk K α st H α' st' H':=⟨e.pre,e.tup,e.lst,fun a h=>by rw [e.rsv];exact h,e.raw⟩
theorem Lk.rps {K:Frag} {α α':Al} {st st':za6} {H H':Hp} (e:Lk K α st H α' st' H') {x:List PV} {v:List V} (h:RPs K H (zf1 α st) x v):RPs K H' (zf1 α' st') x v:=RPs.mono e.tup e.lst x v h
open PySem L2
theorem Res.bind_inv {α β:Type} {r:Res α} {f:α→za6→Res β} {b:β} {st':za6} (h:r.bind f=.ok b st'):∃ a st1,r=.ok a st1∧f a st1=.ok b st':=by
 cases r with
 | ok a st1=>exact ⟨a,st1,rfl,h⟩
 | exn c as st=>cases h
 | stuck=>cases h
theorem Res.bindB_inv {β:Type} {r:Res Val} {f:Bool→za6→Res β} {b:β} {st':za6} (h:r.bindB f=.ok b st'):∃ k st1,r=.ok (.p (.bl k)) st1∧f k st1=.ok b st':=by
 obtain ⟨v,st1,h1,h2⟩:=Res.bind_inv h
 cases v with
 | ref n=>cases h2
 | p x =>
  cases x with
  | bl k=>exact ⟨k,st1,h1,h2⟩
  | _=>cases h2
theorem Res.bindP_inv {β:Type} {r:Res Val} {f:PV→za6→Res β} {b:β} {st':za6} (h:r.bindP f=.ok b st'):∃ x st1,r=.ok (.p x) st1∧f x st1=.ok b st':=by
 obtain ⟨v,st1,h1,h2⟩:=Res.bind_inv h
 cases v with
 | ref n=>cases h2
 | p x=>exact ⟨x,st1,h1,h2⟩
theorem Res.bindV_inv {β:Type} {r:Res Val} {f:PV→za6→Res β} {b:β} {st':za6} (h:r.bindV f=.ok b st'):∃ v x st1,r=.ok v st1∧view st1 v=some x∧f x st1=.ok b st':=by
 obtain ⟨v,st1,h1,h2⟩:=Res.bind_inv h
 cases e:view st1 v with
 | none=>rw [e] at h2;cases h2
 | some x=>rw [e] at h2;exact ⟨v,x,st1,h1,e,h2⟩
theorem zq4 {o:Option PV} {st st':za6} {v:Val} (h:okO o st=.ok v st'):∃ x,o=some x∧v=.p x∧st'=st:=by
 cases o with
 | none=>cases h
 | some x=>cases h;exact ⟨x,rfl,rfl,rfl⟩
theorem ym1 {f:PV→Option PV} {v:Val} {st st':za6} {z:Val} (h:op1 f v st=.ok z st'):∃ x y,view st v=some x∧f x=some y∧z=.p y∧st'=st:=by
 unfold op1 at h
 cases e:view st v with
 | none=>rw [e] at h;cases h
 | some x =>
  rw [e] at h
  obtain ⟨y,h1,h2,h3⟩:=zq4 h
  exact ⟨x,y,rfl,h1,h2,h3⟩
theorem zL3 {f:PV→PV→Option PV} {v w:Val} {st st':za6} {z:Val} (h:op2 f v w st=.ok z st'):∃ x y u,view st v=some x∧view st w=some y∧f x y=some u∧z=.p u∧st'=st:=by
 unfold op2 at h
 cases e:view st v with
 | none=>rw [e] at h;cases h
 | some x =>
  rw [e] at h
  cases e2:view st w with
  | none=>rw [e2] at h;cases h
  | some y =>
   rw [e2] at h
   obtain ⟨u,h1,h2,h3⟩:=zq4 h
   exact ⟨x,y,u,rfl,rfl,h1,h2,h3⟩
structure At (K:Frag) (α:Al) (st:za6) (H:Hp) (env:Env) (σ:L2.St):Prop where
 len:env.length=σ.length
 rs:RSt K α st H
 env:∀ (i:Nat) v,env[i]?=some (some v)→∃ w,σ[i]?=some (some w)∧RV K α st H v w
theorem At.next {K:Frag} {α α':Al} {st st':za6} {H H':Hp} {env:Env} {σ:L2.St} (a:At K α st H env σ) (e:Ext K α st H α' st' H') (r:RSt K α' st' H'):At K α' st' H' env σ :=
 ⟨a.len,r,fun i v h=>let ⟨w,h1,h2⟩:=a.env i v h;⟨w,h1,e.rv h2⟩⟩
noncomputable def tP (K:Frag) (C:zb7) (ir:E):TE:=fun σ H Q=>∃ env α st v st',At K α st H env σ∧evalE C ir env st=.ok v st' ∧
 ∀ w H' α',Ext K α st H α' st' H'→RSt K α' st' H'→RV K α' st' H' v w→Q w H'
noncomputable def tT (K:Frag) (C:zb7) (ir:E):TT:=fun σ H Q=>∃ env α st b st',At K α st H env σ∧evalE C ir env st=.ok (.p (.bl b)) st' ∧
 ∀ H' α',Ext K α st H α' st' H'→RSt K α' st' H'→Q b H'
noncomputable abbrev SE (X:Cx) (C:zb7) (e:Expr) (ir:E):Prop:=PE X e (tP X.K C ir)
noncomputable abbrev ST (X:Cx) (C:zb7) (e:Expr) (ir:E):Prop:=PT X e (tT X.K C ir)
theorem PE.mono {X:Cx} {e:Expr} {t t':TE} (h:PE X e t) (m:∀ σ H Q,t' σ H Q→t σ H Q):PE X e t':=fun pins s σ H Q I q=>h pins s σ H Q I (m _ _ _ q)
theorem PT.mono {X:Cx} {e:Expr} {t t':TT} (h:PT X e t) (m:∀ σ H Q,t' σ H Q→t σ H Q):PT X e t':=fun pins s σ H Q I q=>h pins s σ H Q I (m _ _ _ q)
theorem PW.mono {X:Cx} {e:Expr} {t t':TT} (h:PW X e t) (m:∀ σ H Q,t' σ H Q→t σ H Q):PW X e t':=fun wh pins s σ H Q I q=>h wh pins s σ H Q I (m _ _ _ q)
section
variable {X:Cx} {C:zb7} {a b c:Expr} {ia ib ic:E} {pos:Pos}
theorem xd0 {K:Frag} {ir:E} {σ:L2.St} {H:Hp} {Q:Bool→Hp→Prop} (h:tT K C ir σ H Q):tB (tP K C ir) σ H Q:=by
 obtain ⟨env,α,st,b,st',a,e,q⟩:=h
 exact ⟨env,α,st,_,st',a,e,fun w H' α' x r v=>by
  have v':w=.bl b:=by simpa [RV,RP] using v
  exact ⟨b,v',q H' α' x r⟩⟩
theorem yW4 {e:Expr} {ir:E} (h:SE X C e ir) (he:∀ whole,isTrue e X.env whole=(do let v ← whole;standAt e.pos;holding [v] (truthy v))):ST X C e ir :=
 PT.mono (yP3 h he) fun _ _ _ q=>xd0 q
theorem yQ4 {i:Nat} {x:Str} (hN:X.N[i]?=some x) (hv:Vis X.env.scope x) (hd:(x==("__debug__" : Str))=false) (hcd:(x==("__classdict__" : Str))=false):SE X C (.Name x pos) (.var i) :=
 PE.mono (yV6 hN hv hd hcd) fun σ H Q h_=>by
  obtain ⟨env,α,st,v,st',a,e,q⟩:=h_
  rw [yY2] at e
  unfold zH3 at e
  cases h:env[i]? with
  | none=>rw [h] at e;cases e
  | some o =>
   cases o with
   | none=>rw [h] at e;cases e
   | some u =>
    rw [h] at e
    cases e
    obtain ⟨w,h1,h2⟩:=a.env i _ h
    exact ⟨w,h1,q w H α .refl a.rs h2⟩
theorem yQ7 {e:Expr} {v:V} {x:PV} (h:PE X e (tC v)) (r:∀ H lv,RP X.K H lv x v):SE X C e (.const x) :=
 PE.mono h fun σ H Q h_=>by
  obtain ⟨env,α,st,u,st',a,e,q⟩:=h_
  rw [yw2] at e
  cases e
  exact q v H α .refl a.rs (r _ _)
theorem yS0 {i j}:SE X C (.Constant (.int i) j pos) (.const (.int i)):=yQ7 yA2 fun _ _=>by rw [RP]
theorem xe5 {i j}:SE X C (.Constant (.bool i) j pos) (.const (.bl i)):=yQ7 xj5 fun _ _=>by rw [RP]
theorem yY0 {j}:SE X C (.Constant .none j pos) (.const .non):=yQ7 yS3 fun _ _=>by rw [RP]
theorem yW5 {x j} {cs:List Nat} (h:x=⟨cs.toArray⟩) (hl:cs.length≤1000):SE X C (.Constant (.str x) j pos) (.const (.str cs)):=yQ7 yA3 fun _ _=>by
 rw [RP];exact ⟨by rw [h],Nat.le_trans hl (by decide)⟩
def Op2 (X:Cx) (f:Value→Value→Sem Value) (g:PV→PV→Option PV):Prop :=
 OpR X f fun x y H Q=>∃ α st px py z,RSt X.K α st H∧RW X.K α st H px x∧RW X.K α st H py y∧g px py=some z ∧
  ∀ w H',zj0 H H'→RP X.K H' (zf1 α st) z w→Q w H'
theorem xh4 {op:Operator} {g:PV→PV→Option PV} {ir:E} (ho:Op2 X (binaryOp op) g) (ha:SE X C a ia) (hb:SE X C b ib)
  (hi:∀ env st,evalE C ir env st=(evalE C ia env st).bind fun x st=>(evalE C ib env st).bind fun y st=>op2 g x y st):SE X C (.BinOp a op b pos) ir :=
 PE.mono (yU0 ho ha hb) fun σ H Q h_=>by
  obtain ⟨env,α,st,v,st',at',e,q⟩:=h_
  rw [hi] at e
  obtain ⟨va,st1,e1,e⟩:=Res.bind_inv e
  obtain ⟨vb,st2,e2,e⟩:=Res.bind_inv e
  obtain ⟨x,y,u,h1,h2,h3,h4,h5⟩:=zL3 e
  subst h4 h5
  refine ⟨env,α,st,va,st1,at',e1,fun w H1 α1 x1 r1 v1=>?_⟩
  refine ⟨env,α1,st1,vb,st',at'.next x1 r1,e2,fun w2 H2 α2 x2 r2 v2=>?_⟩
  refine ⟨α2,st',x,y,u,r2,(x2.rv v1).view r2 h1,v2.view r2 h2,h3,fun w3 H3 s3 rp=>?_⟩
  exact q w3 H3 α2 (x1.trans (x2.trans (.of_same r2 s3))) (r2.same s3) rp
theorem yZ9 {op:CmpOp} {g:PV→PV→Option PV} {ir:E} (ho:Op2 X (compareOp op) g) (ha:SE X C a ia) (hb:SE X C b ib) (hm:behindInMarks op b=false)
  (hi:∀ env st,evalE C ir env st=(evalE C ia env st).bind fun x st=>(evalE C ib env st).bind fun y st=>op2 g x y st):SE X C (.Compare a [op] [b] pos) ir :=
 PE.mono (yI8 ho ha hb hm) fun σ H Q h_=>by
  obtain ⟨env,α,st,v,st',at',e,q⟩:=h_
  rw [hi] at e
  obtain ⟨va,st1,e1,e⟩:=Res.bind_inv e
  obtain ⟨vb,st2,e2,e⟩:=Res.bind_inv e
  obtain ⟨x,y,u,h1,h2,h3,h4,h5⟩:=zL3 e
  subst h4 h5
  refine ⟨env,α,st,va,st1,at',e1,fun w H1 α1 x1 r1 v1=>?_⟩
  refine ⟨env,α1,st1,vb,st',at'.next x1 r1,e2,fun w2 H2 α2 x2 r2 v2=>?_⟩
  refine ⟨α2,st',x,y,u,r2,(x2.rv v1).view r2 h1,v2.view r2 h2,h3,fun w3 H3 s3 rp=>?_⟩
  exact q w3 H3 α2 (x1.trans (x2.trans (.of_same r2 s3))) (r2.same s3) rp
end
open PySem L2 PySem.SeqAt PyProof.Rows
theorem xe6 (a:Int) (t:Tok) (l:Addr) (is:Array Value) (n:Nat) (dd:Option Addr) (sl:Array (Option Value)) :
  Meets (Builtin.«int.__rmul__» ⟨[.int a t,.ref l],[]⟩) (fun _ R s=>s.heap.get? l=some { cls:=.type "list", dict:=dd,data:=.seq is n,slots:=sl } ∧
   R (.ok (.ret Value.notImplemented)) s) :=
 .of_wp fun prog w A R s0 hh=>by
  obtain ⟨hp,gg,dw,tk,oo⟩:=s0
  obtain ⟨k1,k2⟩:=hh
  wp_walk
  exact ⟨_,rfl,k2⟩
theorem mulW (l:Addr) (is:Array Value) (n:Nat) (x:Int) (u:Tok) (dd:Option Addr) (sl:Array (Option Value)) (h0:¬(!Builtin.List.listFitsIndex x)=true) (h1:¬is.size * x.toNat > (2 ^ 63 - 1) / 8) (h2:¬Builtin.List.listTooLong (is.size * x.toNat)=true) :
  Meets (Builtin.«list.__mul__» ⟨[.ref l,.int x u],[]⟩) (fun _ R s=>s.heap.get? l=some { cls:=.type "list", dict:=dd,data:=.seq is n,slots:=sl } ∧
   R (.ok (.ret (Value.ref s.heap.objs.size))) { s with heap:=s.heap.push { cls:=.type "list", data:=.seq (List.foldl (fun x1 x2=>x1++x2) #[] (List.replicate (if is.isEmpty=true then 0 else x.toNat) is)) },toks:=s.toks }) :=
 .of_wp fun prog w A R s0 hh=>by
  obtain ⟨hp,gg,dw,tk,oo⟩:=s0
  obtain ⟨k1,k2⟩:=hh
  have g1:=AutoSeq1.idx_int
  have g2:=AutoListH.joined_fits h2
  wp_walk using AutoSeq1.wpAny_loadPart' k1
  refine wpAny_ite_false (decide_eq_false (Nat.not_lt.mpr g2)) ?_
  wp_walk using AutoSeq1.wpAny_loadPart' k1
  exact ⟨_,rfl,k2⟩
open PySem L2 PySem.SeqAt
section
variable {K:Frag} {α:Al} {st:za6} {H:Hp} {x:V}
theorem RW.int {i:Int} (h:RW K α st H (.int i) x):x=.int i:=by
 rcases h with h | ⟨_,_,_,e,_⟩
 ·rw [RP] at h;exact h
 ·cases e
theorem RW.bl {b:Bool} (h:RW K α st H (.bl b) x):x=.bl b:=by
 rcases h with h | ⟨_,_,_,e,_⟩
 ·rw [RP] at h;exact h
 ·cases e
theorem RW.non (h:RW K α st H .non x):x=.non:=by
 rcases h with h | ⟨_,_,_,e,_⟩
 ·rw [RP] at h;exact h
 ·cases e
theorem RW.str {cs:List Nat} (h:RW K α st H (.str cs) x):x=.str ⟨cs.toArray⟩∧cs.length≤sizeLine:=by
 rcases h with h | ⟨_,_,_,e,_⟩
 ·rw [RP] at h;exact h
 ·cases e
theorem RW.tup {xs:List PV} (h:RW K α st H (.tup xs) x):∃ a vs,x=.ref a∧SqT K H a vs∧RPs K H (zf1 α st) xs vs:=by
 rcases h with h | ⟨_,_,_,e,_⟩
 ·rw [RP] at h;exact h
 ·cases e
theorem RW.lst {xs:List PV} (h:RW K α st H (.lst xs) x):∃ a vs,x=.ref a∧SqL K H a vs∧RPs K H (zf1 α st) xs vs:=by
 rcases h with h | ⟨xs',a,vs,e,e2,q,r⟩
 ·rw [RP] at h
  obtain ⟨a,vs,e,q,_,r⟩:=h
  exact ⟨a,vs,e,q,r⟩
 ·cases e;exact ⟨a,vs,e2,q,r⟩
theorem zG8:SZ=sizeLine:=by unfold SZ;decide
end
section
variable {X:Cx}
theorem Op2.ints {f:Value→Value→Sem Value} {Cn:Int→Int→Prop} {k:Int→Int→V} {g:PV→PV→Option PV} (ho:OpR X f (rI Cn k))
  (hg:∀ x y z,g x y=some z→∃ i j,x=.int i∧y=.int j∧Cn i j∧∀ H lv,RP X.K H lv z (k i j)):Op2 X f g:=by
 rintro pins s σ H x y v u Q I rx ry ⟨α,st,px,py,z,r,hx,hy,hz,q⟩
 obtain ⟨i,j,rfl,rfl,hc,hk⟩:=hg _ _ _ hz
 exact ho pins s σ H x y v u Q I rx ry ⟨i,j,hx.int,hy.int,hc,q _ _ (zj0.refl H) (hk _ _)⟩
theorem Op2.ints0 {f:Value→Value→Sem Value} {k:Int→Int→V} {g:PV→PV→Option PV} (ho:OpR X f (rI0 k))
  (hg:∀ x y z,g x y=some z→∃ i j,x=.int i∧y=.int j∧∀ H lv,RP X.K H lv z (k i j)):Op2 X f g:=by
 rintro pins s σ H x y v u Q I rx ry ⟨α,st,px,py,z,r,hx,hy,hz,q⟩
 obtain ⟨i,j,rfl,rfl,hk⟩:=hg _ _ _ hz
 exact ho pins s σ H x y v u Q I rx ry ⟨i,j,hx.int,hy.int,q _ _ (zj0.refl H) (hk _ _)⟩
theorem yC6:Op2 X (binaryOp .Sub) bSub:=Op2.ints0 yV1 fun x y z h=>by
 cases x <;> cases y <;> simp [bSub] at h
 exact ⟨_,_,rfl,rfl,fun _ _=>by rw [← h,RP]⟩
theorem yT2:OpR X (binaryOp .Mult) (fun x y H Q=>∃ i j,x=.int i∧y=.int j∧(zh4 i || zh4 j)=true∧Q (.int (i * j)) H):=by
 rintro pins s σ H x y v u Q I rx ry ⟨i,j,h1,h2,hc,q⟩
 refine yW2 pins s σ H x y v u Q I rx ry ⟨i,j,h1,h2,?_,q⟩
 rcases (Bool.or_eq_true _ _).mp hc with c | c
 ·exact .inl (of_decide_eq_true c)
 ·exact .inr (of_decide_eq_true c)
theorem yc3 (n:Nat) (a:List Nat):(List.replicate n a.toArray).foldl (· ++ ·) #[]=((List.replicate n a).flatten).toArray:=by
 have gen:∀ (n:Nat) (b:List Nat),(List.replicate n a.toArray).foldl (· ++ ·) b.toArray=(b++(List.replicate n a).flatten).toArray:=by
  intro n
  induction n with
  | zero=>intro b;simp
  | succ n ih =>
   intro b
   rw [List.replicate_succ,List.foldl_cons,List.append_toArray,ih,List.replicate_succ,List.flatten_cons,List.append_assoc]
 exact gen n []
theorem zY8 (n:Nat) (a:List Nat):(List.replicate n a).flatten.length=a.length * n:=by
 rw [List.length_flatten,List.map_replicate,List.sum_replicate_nat,Nat.mul_comm]
theorem zB9 (cs:List Nat):(Str.length ⟨cs.toArray⟩)=cs.length:=by simp [Str.length]
theorem zU2 (n:Nat) (a:List Value):(List.replicate n a.toArray).foldl (fun x1 x2=>x1++x2) #[]=((List.replicate n a).flatten).toArray:=by
 have gen:∀ (n:Nat) (b:List Value),(List.replicate n a.toArray).foldl (fun x1 x2=>x1++x2) b.toArray=(b++(List.replicate n a).flatten).toArray:=by
  intro n
  induction n with
  | zero=>intro b;simp
  | succ n ih =>
   intro b
   rw [List.replicate_succ,List.foldl_cons,List.append_toArray,ih,List.replicate_succ,List.flatten_cons,List.append_assoc]
 exact gen n []
theorem yo1 {α:Type} (n:Nat) (a:List α):(List.replicate n a).flatten.length=a.length * n:=by
 rw [List.length_flatten,List.map_replicate,List.sum_replicate_nat,Nat.mul_comm]
theorem zR0 {vs:List V} {its:List Value} (h:zg6 vs its):∀ n:Nat,zg6 (List.replicate n vs).flatten (List.replicate n its).flatten
 | 0=>.nil
 | n+1=>by rw [List.replicate_succ,List.replicate_succ,List.flatten_cons,List.flatten_cons];exact h.append (zR0 h n)
theorem zZ9 {K:Frag} {H:Hp} {lv:Addr→Prop} {xs:List PV} {vs:List V} (h:RPs K H lv xs vs):∀ n:Nat,RPs K H lv (List.replicate n xs).flatten (List.replicate n vs).flatten
 | 0=>by simp [RPs]
 | n+1=>by rw [List.replicate_succ,List.replicate_succ,List.flatten_cons,List.flatten_cons];exact h.append (zZ9 h n)
theorem zy1:Op2 X (binaryOp .Mult) xb3:=by
 rintro pins s σ H x y v u Q I rx ry ⟨α,st,px,py,z,r,hx,hy,hz,q⟩
 cases px <;> cases py <;> simp only [xb3,Option.ite_none_right_eq_some,reduceCtorEq,Option.some.injEq] at hz
 ·obtain ⟨hc,hz⟩:=hz
  exact yT2 pins s σ H x y v u Q I rx ry ⟨_,_,hx.int,hy.int,hc,q _ _ (zj0.refl H) (by rw [← hz,RP])⟩
 ·rename_i a n
  obtain ⟨⟨h0,h1,h2⟩,hz⟩:=hz
  rw [zG8] at h2
  obtain ⟨e1,hl⟩:=hx.str
  have e2:=hy.int
  subst e1 e2
  obtain ⟨t1,rfl⟩:=rx
  obtain ⟨t2,rfl⟩:=ry
  have hsz:sizeLine=16777216:=by decide
  refine PySem.P.mul_str (by simp;lia) (fun g1 g2=>?_) (fun g1 g2=>?_) ?_
  ·rw [zB9]
   have:(16777216:Int)≤(2 ^ 63 - 1) / n:=by
    rw [Int.le_ediv_iff_mul_le (by lia)]
    lia
   lia
  ·rw [zB9]
   unfold Builtin.Str.tooLong
   exact decide_eq_false (by lia)
  ·split
   ·have e0:n=0:=by lia
    subst e0
    exact ⟨by decide,.str _,H,I.tok _,⟨_,rfl⟩,q _ _ (zj0.refl H) (by rw [← hz,RP];exact ⟨by rfl,by simp⟩)⟩
   ·split
    ·rename_i g1 g2
     refine ⟨.str _,H,I,⟨_,rfl⟩,q _ _ (zj0.refl H) ?_⟩
     rw [← hz,RP]
     rcases (Bool.or_eq_true _ _).mp g2 with c | c
     ·have c':n=1:=eq_of_beq c
      subst c'
      have:(List.replicate (1:Int).toNat a).flatten=a:=by simp
      rw [this]
      exact ⟨rfl,hl⟩
     ·have c':a.length=0:=by rw [zB9] at c;exact eq_of_beq c
      have c2:a=[]:=List.eq_nil_of_length_eq_zero c'
      subst c2
      have:(List.replicate n.toNat ([]:List Nat)).flatten=[]:=by simp
      rw [this]
      exact ⟨rfl,by simp⟩
    ·have e3:(List.replicate n.toNat (⟨a.toArray⟩:Str).cps).foldl (· ++ ·) #[]=((List.replicate n.toNat a).flatten).toArray:=yc3 n.toNat a
     rw [e3]
     exact ⟨by rw [zB9,zY8];exact h2,.str _,H,I.tok _,⟨_,rfl⟩,q _ _ (zj0.refl H) (by rw [← hz,RP];exact ⟨rfl,by rw [zY8];exact h2⟩)⟩
 ·rename_i a n
  obtain ⟨⟨h0,h1,h2⟩,hz⟩:=hz
  rw [zG8] at h2
  have hsz:sizeLine=16777216:=by decide
  obtain ⟨l1,vs,rfl,hl1,hl2⟩:=hx.lst
  have e2:=hy.int
  subst e2
  cases rx
  obtain ⟨t2,rfl⟩:=ry
  obtain ⟨its,r1,p1,_⟩:=I.list hl1
  obtain ⟨⟨cls,dd,data,sl⟩,nn,ho,hc,_,hd⟩:=id p1
  simp only at hc hd
  subst hc hd
  have q1:=r1.length
  have q2:=hl2.length
  have hsize:its.toArray.size * n.toNat≤16777216:=by rw [List.size_toArray,← q1,← q2];lia
  have ty:∀ s':Shared,s'.TypeIs (Value.int n t2) "int" := fun s'=>typeIs_int s' n t2
  have inner:wpAny (model X.prog X.w) X.A (call (.builtin "list.__mul__") [.ref l1,.int n t2]) (EP X pins σ Q) X.xe s:=by
   refine call_meets F.slot_list_mul ⟨_,ho,rfl⟩ F.entry_list_mul (F.args_list_mul_2 _ _)
    (mulW l1 its.toArray nn n t2 dd sl (by simp [Builtin.List.listFitsIndex];lia) (by lia) (by simp only [Builtin.List.listTooLong,hsz];simpa using hsize)) ⟨ho,?_⟩
   have ea:List.foldl (fun x1 x2=>x1++x2) #[] (List.replicate (if its.toArray.isEmpty=true then 0 else n.toNat) its.toArray)=((List.replicate n.toNat its).flatten).toArray:=by
    by_cases hb:its=[]
    ·subst hb
     simp
    ·rw [if_neg (by simpa using hb)]
     exact zU2 _ _
   rw [ea]
   have s1:zj0 H (upd H s.heap.objs.size (.lst (List.replicate n.toNat vs).flatten)):=zf8 I.fresh _
   refine ⟨.ref _,_,I.lnew (t':=s.toks) (zR0 r1 n.toNat) (by rw [yo1,← q2];lia),rfl,q _ _ s1 ?_⟩
   rw [← hz,RP]
   exact ⟨_,_,rfl,SqL.of zd7,r.notlive I.fresh,zZ9 ((Ext.of_same r s1).rps hl2) n.toNat⟩
  exact wpAny_binaryOp_repeat_ref (T := "list") (U := "int") (by decide) ⟨_,ho,rfl⟩ ty noFill_list_mul F.fills_int_mul F.slot_int_rmul repeat_list
   F.slot_int_index.lookup (call_meets F.slot_int_rmul (ty s) F.entry_int_rmul (F.args_int_rmul_2 _ _) (xe6 n t2 l1 its.toArray nn dd sl) ⟨ho,rfl,⟨_,ho,rfl⟩,inner⟩)
theorem yt8:OpR X (binaryOp .FloorDiv) (rI (fun _ j=>0<j∧j<1000000000000000000000000000000) fun i j=>.int (i / j)):=opI fun i j _ _ _ _ _ hc q=>by
 have h1:(0:Int)<j:=hc.1
 have h2:j<1000000000000000000000000000000:=hc.2
 refine PyProof.Rows.floordiv_int (by lia) (by rw [Int.fdiv_eq_ediv_of_nonneg i (by lia)];exact q) (.inl (PyProof.noPylong_of_log2 ?_))
 have h3:j.natAbs.log2<100:=(Nat.log2_lt (by lia)).mpr (by lia)
 lia
theorem zY7:Op2 X (binaryOp .FloorDiv) yS7:=Op2.ints yt8 fun x y z h=>by
 cases x <;> cases y <;> simp only [yS7,Option.ite_none_right_eq_some,reduceCtorEq,Option.some.injEq] at h
 exact ⟨_,_,rfl,rfl,h.1,fun _ _=>by rw [← h.2,RP]⟩
theorem zU9:Op2 X (binaryOp .Mod) bMod:=Op2.ints yT4 fun x y z h=>by
 cases x <;> cases y <;> simp only [bMod,Option.ite_none_right_eq_some,reduceCtorEq,Option.some.injEq] at h
 exact ⟨_,_,rfl,rfl,h.1,fun _ _=>by rw [← h.2,RP]⟩
theorem yV0:Op2 X (binaryOp .Pow) bPow:=Op2.ints yU5 fun x y z h=>by
 cases x <;> cases y <;> simp only [bPow,Option.ite_none_right_eq_some,reduceCtorEq,Option.some.injEq] at h
 obtain ⟨⟨h1,h2,h3⟩,h⟩:=h
 refine ⟨_,_,rfl,rfl,⟨h1,h2,?_⟩,fun _ _=>by rw [← h,RP]⟩
 have:=of_decide_eq_true h3
 lia
theorem o_lt:Op2 X (compareOp .Lt) (yq6 fun i j=>decide (i<j)):=Op2.ints0 xd3 fun x y z h=>by
 cases x <;> cases y <;> simp only [yq6,reduceCtorEq,Option.some.injEq] at h
 exact ⟨_,_,rfl,rfl,fun _ _=>by rw [← h,RP]⟩
theorem xc1:Op2 X (compareOp .Gt) (yq6 fun i j=>decide (j<i)):=Op2.ints0 xe8 fun x y z h=>by
 cases x <;> cases y <;> simp only [yq6,reduceCtorEq,Option.some.injEq] at h
 exact ⟨_,_,rfl,rfl,fun _ _=>by rw [← h,RP]⟩
theorem o_ge:Op2 X (compareOp .GtE) (yq6 fun i j=>decide (j≤i)):=Op2.ints0 xh1 fun x y z h=>by
 cases x <;> cases y <;> simp only [yq6,reduceCtorEq,Option.some.injEq] at h
 exact ⟨_,_,rfl,rfl,fun _ _=>by rw [← h,RP]⟩
theorem zj8 (cs:List Nat):(Str.length ⟨cs.toArray⟩)=cs.length:=by simp [Str.length]
theorem yD4 (a b:List Nat):((⟨a.toArray⟩:Str)++(⟨b.toArray⟩:Str))=⟨(a++b).toArray⟩:=by
 show (Str.mk (a.toArray++b.toArray))=_
 simp
theorem zg0:Op2 X (binaryOp .Add) xc4:=by
 rintro pins s σ H x y v u Q I rx ry ⟨α,st,px,py,z,r,hx,hy,hz,q⟩
 cases px <;> cases py <;> simp only [xc4,Option.ite_none_right_eq_some,reduceCtorEq,Option.some.injEq] at hz
 ·exact yP6 pins s σ H x y v u Q I rx ry ⟨_,_,hx.int,hy.int,q _ _ (zj0.refl H) (by rw [← hz,RP])⟩
 ·rename_i a b
  obtain ⟨hl,hz⟩:=hz
  rw [zG8] at hl
  refine ye3 pins s σ H x y v u Q I rx ry ⟨_,_,hx.str.1,hy.str.1,by rw [zj8,zj8];exact hl,?_⟩
  rw [yD4]
  exact q _ _ (zj0.refl H) (by rw [← hz,RP];exact ⟨rfl,by rw [List.length_append];exact hl⟩)
 ·rename_i a b
  obtain ⟨hl,hz⟩:=hz
  rw [zG8] at hl
  obtain ⟨l1,vs,rfl,h1,h2⟩:=hx.tup
  obtain ⟨l2,ws,rfl,h3,h4⟩:=hy.tup
  have e1:=h2.length
  have e2:=h4.length
  by_cases hn:a=[]
  ·subst hn
   have ev:vs=[]:=List.eq_nil_of_length_eq_zero (by simpa using e1.symm)
   subst ev
   cases rx
   cases ry
   obtain ⟨its,r1,p1,_⟩:=I.tuple h1
   obtain ⟨its2,r2,p2,_⟩:=I.tuple h3
   have ei:its=[]:=List.eq_nil_of_length_eq_zero (by simpa using r1.length.symm)
   subst ei
   obtain ⟨⟨cls,dd,data,sl⟩,ho,hc,n,hd⟩:=id p1
   obtain ⟨⟨cls2,dd2,data2,sl2⟩,ho2,hc2,n2,hd2⟩:=id p2
   simp only at hc hd hc2 hd2
   subst hc hd hc2 hd2
   refine PySem.concat_meets ⟨_,ho,rfl⟩ ⟨_,ho2,rfl⟩ PySem.noFill_tuple_add PySem.seq_tuple_add PySem.F.slot_tuple_add PySem.F.entry_tuple_add (PySem.F.args_tuple_add_2 _ _) (PyProof.Rows.tuple_addW0 l1 l2 _ its2.toArray n n2 dd dd2 sl sl2 (by simp)) ⟨ho,ho2,?_⟩
   exact ⟨.ref l2,H,I,rfl,q _ _ (zj0.refl H) (by rw [← hz,RP,List.nil_append];exact ⟨l2,ws,rfl,h3,h4⟩)⟩
  refine yD0 pins s σ H _ _ v u Q I rx ry ⟨l1,l2,vs,ws,rfl,rfl,h1,h3,fun e=>hn (by subst e;simpa using e1),by lia,fun e=>?_,fun e p hp=>?_⟩
  ·subst e
   have:b=[]:=by simpa using e2
   subst this
   exact q _ _ (zj0.refl H) (by rw [← hz,RP,List.append_nil];exact ⟨l1,vs,rfl,h1,h2⟩)
  ·have s1:zj0 H (upd H p (.tup (vs++ws))):=zf8 hp _
   refine q _ _ s1 ?_
   rw [← hz,RP]
   exact ⟨p,_,rfl,SqT.of zd7,((Ext.of_same r s1).rps h2).append ((Ext.of_same r s1).rps h4)⟩
 ·rename_i a b
  obtain ⟨hl,hz⟩:=hz
  rw [zG8] at hl
  obtain ⟨l1,vs,rfl,h1,h2⟩:=hx.lst
  obtain ⟨l2,ws,rfl,h3,h4⟩:=hy.lst
  have e1:=h2.length
  have e2:=h4.length
  cases rx
  cases ry
  obtain ⟨its,r1,p1,_⟩:=I.list h1
  obtain ⟨its2,r2,p2,_⟩:=I.list h3
  obtain ⟨⟨cls,dd,data,sl⟩,n,ho,hc,_,hd⟩:=id p1
  obtain ⟨⟨cls2,dd2,data2,sl2⟩,n2,ho2,hc2,_,hd2⟩:=id p2
  simp only at hc hd hc2 hd2
  subst hc hd hc2 hd2
  have q1:=r1.length
  have q2:=r2.length
  refine PySem.concat_meets ⟨_,ho,rfl⟩ ⟨_,ho2,rfl⟩ PySem.noFill_list_add PySem.seq_list_add PySem.F.slot_list_add PySem.F.entry_list_add (PySem.F.args_list_add_2 _ _) (PyProof.Rows.list_addW l1 l2 its.toArray its2.toArray n n2 dd dd2 sl sl2 (by simp;lia)) ⟨ho,ho2,?_⟩
  have ea:its.toArray++its2.toArray=(its++its2).toArray:=by simp
  rw [ea]
  have s1:zj0 H (upd H s.heap.objs.size (.lst (vs++ws))):=zf8 I.fresh _
  refine ⟨.ref _,_,I.lnew (t':=s.toks) (r1.append r2) (by rw [List.length_append];lia),rfl,q _ _ s1 ?_⟩
  rw [← hz,RP]
  exact ⟨_,_,rfl,SqL.of zd7,r.notlive I.fresh,((Ext.of_same r s1).rps h2).append ((Ext.of_same r s1).rps h4)⟩
end
open PySem L2 PySem.SeqAt
mutual
theorem pyEq_refl:∀ x:PV,pyEq x x=true
 | .non=>by simp [pyEq]
 | .bl _=>by simp [pyEq]
 | .int _=>by simp [pyEq]
 | .str _=>by simp [pyEq]
 | .tup xs=>by rw [pyEq];exact pyEqs_refl xs
 | .lst xs=>by rw [pyEq];exact pyEqs_refl xs
theorem pyEqs_refl:∀ xs:List PV,pyEqs xs xs=true
 | []=>by simp [pyEqs]
 | x::r=>by rw [pyEqs,pyEq_refl x,pyEqs_refl r];rfl
end
theorem zl5:∀ xs ys:List PV,pyEqs xs ys=((List.range (min xs.length ys.length)).all (fun j=>pyEq (xs.getD j .non) (ys.getD j .non))&&(xs.length==ys.length))
 | [],[]=>by simp [pyEqs]
 | [],_::_=>by simp [pyEqs]
 | _::_,[]=>by simp [pyEqs]
 | x::r,y::s=>by
  rw [pyEqs,zl5 r s]
  have e:min (x::r).length (y::s).length=min r.length s.length+1:=by simp
  rw [e,List.range_succ_eq_map,List.all_cons,List.all_map]
  have e2:((x::r).length==(y::s).length)=(r.length==s.length):=by simp
  rw [e2,Bool.and_assoc]
  rfl
theorem zJ4:∀ {xs:List PV} {j:Nat} {x:PV},xs[j]?=some x→dep x≤deps xs
 | [],_,_,h=>by simp at h
 | y::r,0,x,h=>by simp at h;subst h;simp;lia
 | y::r,j+1,x,h=>by
  have:=zJ4 (xs:=r) (j:=j) (x:=x) (by simpa using h)
  simp;lia
theorem yA0 (a b:List Nat):((⟨a.toArray⟩:Str)==⟨b.toArray⟩)=decide (a=b):=by
 by_cases h:a=b
 ·subst h;simp
 ·rw [decide_eq_false h,beq_eq_false_iff_ne]
  intro e
  injection e with e
  exact h (by simpa using congrArg Array.toList e)
section
variable {X:Cx} {pins:List (Addr×Obj)} {σ:L2.St} {H:Hp} {s:Shared} {lv:Addr→Prop}
theorem zL4 {a:Addr} {vs ws:List V} (I:Inv X pins σ H s) (h1:SqT X.K H a vs) (h2:SqL X.K H a ws):False:=by
 obtain ⟨_,_,p1,_⟩:=I.tuple h1
 obtain ⟨_,_,p2,_⟩:=I.list h2
 exact ne_of_list_tuple p2.isList p1 rfl
mutual
theorem RP.inj (I:Inv X pins σ H s):∀ (x y:PV) (v:V),RP X.K H lv x v→RP X.K H lv y v→x=y
 | .non,y,v,h,g=>by
  rw [RP] at h;subst h
  cases y with
  | non=>rfl
  | bl c=>rw [RP] at g;cases g
  | int c=>rw [RP] at g;cases g
  | str c=>rw [RP] at g;cases g.1
  | tup c=>rw [RP] at g;obtain ⟨_,_,e,_⟩:=g;cases e
  | lst c=>rw [RP] at g;obtain ⟨_,_,e,_⟩:=g;cases e
 | .bl b,y,v,h,g=>by
  rw [RP] at h;subst h
  cases y with
  | non=>rw [RP] at g;cases g
  | bl c=>rw [RP] at g;cases g;rfl
  | int c=>rw [RP] at g;cases g
  | str c=>rw [RP] at g;cases g.1
  | tup c=>rw [RP] at g;obtain ⟨_,_,e,_⟩:=g;cases e
  | lst c=>rw [RP] at g;obtain ⟨_,_,e,_⟩:=g;cases e
 | .int b,y,v,h,g=>by
  rw [RP] at h;subst h
  cases y with
  | non=>rw [RP] at g;cases g
  | bl c=>rw [RP] at g;cases g
  | int c=>rw [RP] at g;cases g;rfl
  | str c=>rw [RP] at g;cases g.1
  | tup c=>rw [RP] at g;obtain ⟨_,_,e,_⟩:=g;cases e
  | lst c=>rw [RP] at g;obtain ⟨_,_,e,_⟩:=g;cases e
 | .str cs,y,v,h,g=>by
  rw [RP] at h
  obtain ⟨h,_⟩:=h
  subst h
  cases y with
  | str c =>
   rw [RP] at g
   obtain ⟨e,_⟩:=g
   injection e with e
   injection e with e
   exact congrArg PV.str (by simpa using congrArg Array.toList e)
  | tup c=>rw [RP] at g;obtain ⟨_,_,e,_⟩:=g;cases e
  | lst c=>rw [RP] at g;obtain ⟨_,_,e,_⟩:=g;cases e
  | non=>rw [RP] at g;cases g
  | bl c=>rw [RP] at g;cases g
  | int c=>rw [RP] at g;cases g
 | .tup xs,y,v,h,g=>by
  rw [RP] at h
  obtain ⟨a,vs,rfl,h1,h2⟩:=h
  cases y with
  | tup ys =>
   rw [RP] at g
   obtain ⟨b,ws,e,g1,g2⟩:=g
   cases e
   have:=I.tuple_inj h1 g1
   subst this
   rw [RPs.inj I xs ys vs h2 g2]
  | lst ys =>
   rw [RP] at g
   obtain ⟨b,ws,e,g1,_⟩:=g
   cases e
   exact (zL4 I h1 g1).elim
  | str _=>rw [RP] at g;cases g.1
  | _=>rw [RP] at g;cases g
 | .lst xs,y,v,h,g=>by
  rw [RP] at h
  obtain ⟨a,vs,rfl,h1,_,h2⟩:=h
  cases y with
  | lst ys =>
   rw [RP] at g
   obtain ⟨b,ws,e,g1,_,g2⟩:=g
   cases e
   have:=I.list_inj h1 g1
   subst this
   rw [RPs.inj I xs ys vs h2 g2]
  | tup ys =>
   rw [RP] at g
   obtain ⟨b,ws,e,g1,_⟩:=g
   cases e
   exact (zL4 I g1 h1).elim
  | str _=>rw [RP] at g;cases g.1
  | _=>rw [RP] at g;cases g
theorem RPs.inj (I:Inv X pins σ H s):∀ (xs ys:List PV) (vs:List V),RPs X.K H lv xs vs→RPs X.K H lv ys vs→xs=ys
 | [],ys,vs,h,g=>by
  rw [RPs] at h;subst h
  cases ys with
  | nil=>rfl
  | cons y r=>rw [RPs] at g;obtain ⟨_,_,e,_⟩:=g;cases e
 | x::r,ys,vs,h,g=>by
  rw [RPs] at h
  obtain ⟨v,vr,rfl,h1,h2⟩:=h
  cases ys with
  | nil=>rw [RPs] at g;cases g
  | cons y q =>
   rw [RPs] at g
   obtain ⟨w,wr,e,g1,g2⟩:=g
   cases e
   rw [RP.inj I x y _ h1 g1,RPs.inj I r q _ h2 g2]
end
theorem RPs.at {xs:List PV} {vs:List V} {its:List Value} (h:RPs X.K H lv xs vs) (r:zg6 vs its) {j:Nat} (hj:j<its.length) :
  ∃ x v,xs[j]?=some x∧xs.getD j .non=x∧RP X.K H lv x v∧RelV v its[j]:=by
 have e1:=h.length
 have e2:=r.length
 have hx:xs[j]?=some xs[j]:=List.getElem?_eq_getElem (by lia)
 obtain ⟨v,h1,h2⟩:=h.get hx
 obtain ⟨u,h3,h4⟩:=r.get h1
 refine ⟨xs[j],v,hx,by rw [List.getD_eq_getElem?_getD,hx];rfl,h2,?_⟩
 rw [List.getElem?_eq_getElem hj] at h3
 cases h3
 exact h4
theorem RW.inj {α:Al} {st:za6} (I:Inv X pins σ H s) {x y:PV} {v:V} (h:RW X.K α st H x v) (g:RW X.K α st H y v):x=y:=by
 rcases h with h | ⟨xs,a,vs,rfl,rfl,h1,h2⟩
 ·rcases g with g | ⟨ys,b,ws,rfl,rfl,g1,g2⟩
  ·exact RP.inj I x y v h g
  ·cases x with
   | lst xs =>
    rw [RP] at h
    obtain ⟨a,vs,e,h1,_,h2⟩:=h
    cases e
    have:=I.list_inj h1 g1
    subst this
    rw [RPs.inj I _ _ _ h2 g2]
   | tup xs =>
    rw [RP] at h
    obtain ⟨a,vs,e,h1,h2⟩:=h
    cases e
    exact (zL4 I h1 g1).elim
   | str _=>rw [RP] at h;cases h.1
   | _=>rw [RP] at h;cases h
 ·cases y with
  | lst ys =>
   obtain ⟨b,ws,e,g1,g2⟩:=g.lst
   cases e
   have:=I.list_inj h1 g1
   subst this
   rw [RPs.inj I _ _ _ h2 g2]
  | tup ys =>
   obtain ⟨b,ws,e,g1,g2⟩:=g.tup
   cases e
   exact (zL4 I g1 h1).elim
  | str _=>cases g.str.1
  | int _=>cases g.int
  | bl _=>cases g.bl
  | non=>cases g.non
theorem zp2 {α:Al} {st:za6} {n:Nat} {A:Around} {xs ys:List PV} {vs ws:List V} {its its2:List Value}
  (ih:∀ (px py:PV) (x y:V) (v u:Value) (A:Around),RW X.K α st H px x→RW X.K α st H py y→RelV x v→RelV y u→(dep px≤n∨dep py≤n)→A.units+n+1<cLine→RcAt A s v u (pyEq px py)∧EqAt A s v u (pyEq px py))
  (hx:RPs X.K H (zf1 α st) xs vs) (hy:RPs X.K H (zf1 α st) ys ws) (r1:zg6 vs its) (r2:zg6 ws its2) (hd:deps xs≤n∨deps ys≤n) (hu:A.units+(n+1)+1<cLine) :
  ∀ j (h1:j<its.toArray.size) (h2:j<its2.toArray.size),EqAt A.in1 s its.toArray[j] its2.toArray[j] (pyEq (xs.getD j .non) (ys.getD j .non)):=by
 intro j h1 h2
 simp only [List.size_toArray] at h1 h2
 obtain ⟨x,v,a1,a2,a3,a4⟩:=hx.at r1 h1
 obtain ⟨y,u,b1,b2,b3,b4⟩:=hy.at r2 h2
 rw [a2,b2]
 have da:=zJ4 a1
 have db:=zJ4 b1
 have hu':A.in1.units+n+1<cLine:=by show A.units+1+n+1<cLine;lia
 simpa using (ih x y v u _ _ A.in1 (.inl a3) (.inl b3) a4 b4 (by lia) hu').2
theorem zH9 {α:Al} {st:za6} (I:Inv X pins σ H s) {n:Nat}
  (ih:0<n→∀ (px py:PV) (x y:V) (v u:Value) (A:Around),RW X.K α st H px x→RW X.K α st H py y→RelV x v→RelV y u→(dep px≤n - 1∨dep py≤n - 1)→A.units+(n - 1)+1<cLine→RcAt A s v u (pyEq px py)∧EqAt A s v u (pyEq px py))
  (px py:PV) (x y:V) (v u:Value) (A:Around) (hx:RW X.K α st H px x) (hy:RW X.K α st H py y) (rx:RelV x v) (ry:RelV y u) (hd:dep px≤n∨dep py≤n) (hu:A.units+n+1<cLine) :
  RcAt A s v u (pyEq px py)∧EqAt A s v u (pyEq px py):=by
 have hu0:A.units<cLine:=by lia
 have seqT:∀ {xs:List PV} {w:V} {uu:Value},RW X.K α st H (.tup xs) w→RelV w uu→∃ a vs its,w=.ref a∧uu=.ref a∧RPs X.K H (zf1 α st) xs vs∧zg6 vs its∧s.heap.IsTuple a its.toArray:=fun h r=>by
  obtain ⟨a,vs,rfl,h1,h2⟩:=h.tup
  cases r
  obtain ⟨its,r1,p,_⟩:=I.tuple h1
  exact ⟨a,vs,its,rfl,rfl,h2,r1,p⟩
 have seqL:∀ {xs:List PV} {w:V} {uu:Value},RW X.K α st H (.lst xs) w→RelV w uu→∃ a vs its,w=.ref a∧uu=.ref a∧RPs X.K H (zf1 α st) xs vs∧zg6 vs its∧s.heap.IsList a its.toArray:=fun h r=>by
  obtain ⟨a,vs,rfl,h1,h2⟩:=h.lst
  cases r
  obtain ⟨its,r1,p,_⟩:=I.list h1
  exact ⟨a,vs,its,rfl,rfl,h2,r1,p.isList⟩
 cases px with
 | non =>
  cases py with
  | non =>
   obtain rfl:x=V.non:=hx.non
   obtain rfl:v=Value.none:=rx
   obtain rfl:y=V.non:=hy.non
   obtain rfl:u=Value.none:=ry
   have e:pyEq .non .non=true:=by simp [pyEq]
   rw [e]
   exact ⟨.none_none,.same _⟩
  | bl e2 =>
   obtain rfl:x=V.non:=hx.non
   obtain rfl:v=Value.none:=rx
   obtain rfl:=hy.bl
   obtain rfl:u=Value.bool _:=ry
   have e:pyEq .non (.bl e2)=false:=by simp [pyEq]
   rw [e]
   exact ⟨.none_bool _,.none_bool _⟩
  | int e2 =>
   obtain rfl:x=V.non:=hx.non
   obtain rfl:v=Value.none:=rx
   obtain rfl:=hy.int
   obtain ⟨t',rfl⟩:=ry
   have e:pyEq .non (.int e2)=false:=by simp [pyEq]
   rw [e]
   exact ⟨.none_int _ _,.none_int _ _⟩
  | str e2 =>
   obtain rfl:x=V.non:=hx.non
   obtain rfl:v=Value.none:=rx
   obtain rfl:=hy.str.1
   obtain ⟨t',rfl⟩:=ry
   have e:pyEq .non (.str e2)=false:=by simp [pyEq]
   rw [e]
   exact ⟨.none_str _ _,.none_str _ _⟩
  | tup e2 =>
   obtain rfl:x=V.non:=hx.non
   obtain rfl:v=Value.none:=rx
   obtain ⟨b,ws,its2,rfl,rfl,q2,r2,p2⟩:=seqT hy ry
   have e:pyEq .non (.tup e2)=false:=by simp [pyEq]
   rw [e]
   exact ⟨.none_tuple p2 hu0,.none_tuple p2 hu0⟩
  | lst e2 =>
   obtain rfl:x=V.non:=hx.non
   obtain rfl:v=Value.none:=rx
   obtain ⟨b,ws,its2,rfl,rfl,q2,r2,p2⟩:=seqL hy ry
   have e:pyEq .non (.lst e2)=false:=by simp [pyEq]
   rw [e]
   exact ⟨.none_list p2 hu0,.none_list p2 hu0⟩
 | bl e1 =>
  cases py with
  | non =>
   obtain rfl:=hx.bl
   obtain rfl:v=Value.bool _:=rx
   obtain rfl:y=V.non:=hy.non
   obtain rfl:u=Value.none:=ry
   have e:pyEq (.bl e1) .non=false:=by simp [pyEq]
   rw [e]
   exact ⟨.bool_none _,.bool_none _⟩
  | bl e2 =>
   obtain rfl:=hx.bl
   obtain rfl:v=Value.bool _:=rx
   obtain rfl:=hy.bl
   obtain rfl:u=Value.bool _:=ry
   rw [pyEq]
   exact ⟨.bool_bool _ _,.bool_bool _ _⟩
  | int e2 =>
   obtain rfl:=hx.bl
   obtain rfl:v=Value.bool _:=rx
   obtain rfl:=hy.int
   obtain ⟨t',rfl⟩:=ry
   rw [pyEq]
   exact ⟨.bool_int _ _ _,.bool_int _ _ _⟩
  | str e2 =>
   obtain rfl:=hx.bl
   obtain rfl:v=Value.bool _:=rx
   obtain rfl:=hy.str.1
   obtain ⟨t',rfl⟩:=ry
   have e:pyEq (.bl e1) (.str e2)=false:=by simp [pyEq]
   rw [e]
   exact ⟨.bool_str _ _ _,.bool_str _ _ _⟩
  | tup e2 =>
   obtain rfl:=hx.bl
   obtain rfl:v=Value.bool _:=rx
   obtain ⟨b,ws,its2,rfl,rfl,q2,r2,p2⟩:=seqT hy ry
   have e:pyEq (.bl e1) (.tup e2)=false:=by simp [pyEq]
   rw [e]
   exact ⟨.bool_tuple _ p2 hu0,.bool_tuple _ p2 hu0⟩
  | lst e2 =>
   obtain rfl:=hx.bl
   obtain rfl:v=Value.bool _:=rx
   obtain ⟨b,ws,its2,rfl,rfl,q2,r2,p2⟩:=seqL hy ry
   have e:pyEq (.bl e1) (.lst e2)=false:=by simp [pyEq]
   rw [e]
   exact ⟨.bool_list _ p2 hu0,.bool_list _ p2 hu0⟩
 | int e1 =>
  cases py with
  | non =>
   obtain rfl:=hx.int
   obtain ⟨t,rfl⟩:=rx
   obtain rfl:y=V.non:=hy.non
   obtain rfl:u=Value.none:=ry
   have e:pyEq (.int e1) .non=false:=by simp [pyEq]
   rw [e]
   exact ⟨.int_none _ _,.int_none _ _⟩
  | bl e2 =>
   obtain rfl:=hx.int
   obtain ⟨t,rfl⟩:=rx
   obtain rfl:=hy.bl
   obtain rfl:u=Value.bool _:=ry
   rw [pyEq]
   exact ⟨.int_bool _ _ _,.int_bool _ _ _⟩
  | int e2 =>
   obtain rfl:=hx.int
   obtain ⟨t,rfl⟩:=rx
   obtain rfl:=hy.int
   obtain ⟨t',rfl⟩:=ry
   rw [pyEq]
   exact ⟨.int_int _ _ _ _,.int_int _ _ _ _⟩
  | str e2 =>
   obtain rfl:=hx.int
   obtain ⟨t,rfl⟩:=rx
   obtain rfl:=hy.str.1
   obtain ⟨t',rfl⟩:=ry
   have e:pyEq (.int e1) (.str e2)=false:=by simp [pyEq]
   rw [e]
   exact ⟨.int_str _ _ _ _,.int_str _ _ _ _⟩
  | tup e2 =>
   obtain rfl:=hx.int
   obtain ⟨t,rfl⟩:=rx
   obtain ⟨b,ws,its2,rfl,rfl,q2,r2,p2⟩:=seqT hy ry
   have e:pyEq (.int e1) (.tup e2)=false:=by simp [pyEq]
   rw [e]
   exact ⟨.int_tuple _ _ p2 hu0,.int_tuple _ _ p2 hu0⟩
  | lst e2 =>
   obtain rfl:=hx.int
   obtain ⟨t,rfl⟩:=rx
   obtain ⟨b,ws,its2,rfl,rfl,q2,r2,p2⟩:=seqL hy ry
   have e:pyEq (.int e1) (.lst e2)=false:=by simp [pyEq]
   rw [e]
   exact ⟨.int_list _ _ p2 hu0,.int_list _ _ p2 hu0⟩
 | str e1 =>
  cases py with
  | non =>
   obtain rfl:=hx.str.1
   obtain ⟨t,rfl⟩:=rx
   obtain rfl:y=V.non:=hy.non
   obtain rfl:u=Value.none:=ry
   have e:pyEq (.str e1) .non=false:=by simp [pyEq]
   rw [e]
   exact ⟨.str_none _ _,.str_none _ _⟩
  | bl e2 =>
   obtain rfl:=hx.str.1
   obtain ⟨t,rfl⟩:=rx
   obtain rfl:=hy.bl
   obtain rfl:u=Value.bool _:=ry
   have e:pyEq (.str e1) (.bl e2)=false:=by simp [pyEq]
   rw [e]
   exact ⟨.str_bool _ _ _,.str_bool _ _ _⟩
  | int e2 =>
   obtain rfl:=hx.str.1
   obtain ⟨t,rfl⟩:=rx
   obtain rfl:=hy.int
   obtain ⟨t',rfl⟩:=ry
   have e:pyEq (.str e1) (.int e2)=false:=by simp [pyEq]
   rw [e]
   exact ⟨.str_int _ _ _ _,.str_int _ _ _ _⟩
  | str e2 =>
   obtain rfl:=hx.str.1
   obtain ⟨t,rfl⟩:=rx
   obtain rfl:=hy.str.1
   obtain ⟨t',rfl⟩:=ry
   have e:pyEq (.str e1) (.str e2)=((⟨e1.toArray⟩:Str)==⟨e2.toArray⟩):=by rw [yA0,pyEq]
   rw [e]
   exact ⟨.str_str _ _ _ _,.str_str _ _ _ _⟩
  | tup e2 =>
   obtain rfl:=hx.str.1
   obtain ⟨t,rfl⟩:=rx
   obtain ⟨b,ws,its2,rfl,rfl,q2,r2,p2⟩:=seqT hy ry
   have e:pyEq (.str e1) (.tup e2)=false:=by simp [pyEq]
   rw [e]
   exact ⟨.str_tuple _ _ p2 hu0,.str_tuple _ _ p2 hu0⟩
  | lst e2 =>
   obtain rfl:=hx.str.1
   obtain ⟨t,rfl⟩:=rx
   obtain ⟨b,ws,its2,rfl,rfl,q2,r2,p2⟩:=seqL hy ry
   have e:pyEq (.str e1) (.lst e2)=false:=by simp [pyEq]
   rw [e]
   exact ⟨.str_list _ _ p2 hu0,.str_list _ _ p2 hu0⟩
 | tup e1 =>
  cases py with
  | non =>
   obtain ⟨a,vs,its,rfl,rfl,q1,r1,p1⟩:=seqT hx rx
   obtain rfl:y=V.non:=hy.non
   obtain rfl:u=Value.none:=ry
   have e:pyEq (.tup e1) .non=false:=by simp [pyEq]
   rw [e]
   exact ⟨.tuple_none p1 hu0,.tuple_none p1 hu0⟩
  | bl e2 =>
   obtain ⟨a,vs,its,rfl,rfl,q1,r1,p1⟩:=seqT hx rx
   obtain rfl:=hy.bl
   obtain rfl:u=Value.bool _:=ry
   have e:pyEq (.tup e1) (.bl e2)=false:=by simp [pyEq]
   rw [e]
   exact ⟨.tuple_bool _ p1 hu0,.tuple_bool _ p1 hu0⟩
  | int e2 =>
   obtain ⟨a,vs,its,rfl,rfl,q1,r1,p1⟩:=seqT hx rx
   obtain rfl:=hy.int
   obtain ⟨t',rfl⟩:=ry
   have e:pyEq (.tup e1) (.int e2)=false:=by simp [pyEq]
   rw [e]
   exact ⟨.tuple_int _ _ p1 hu0,.tuple_int _ _ p1 hu0⟩
  | str e2 =>
   obtain ⟨a,vs,its,rfl,rfl,q1,r1,p1⟩:=seqT hx rx
   obtain rfl:=hy.str.1
   obtain ⟨t',rfl⟩:=ry
   have e:pyEq (.tup e1) (.str e2)=false:=by simp [pyEq]
   rw [e]
   exact ⟨.tuple_str _ _ p1 hu0,.tuple_str _ _ p1 hu0⟩
  | tup e2 =>
   obtain ⟨a,vs,its,rfl,rfl,q1,r1,p1⟩:=seqT hx rx
   obtain ⟨b,ws,its2,rfl,rfl,q2,r2,p2⟩:=seqT hy ry
   have hn:0<n:=by simp at hd;lia
   have hd':deps e1≤n - 1∨deps e2≤n - 1:=by simp at hd;lia
   have it:=zp2 (n:=n - 1) (A:=A) (ih hn) q1 q2 r1 r2 hd' (by lia)
   have l1:=q1.length
   have l2:=q2.length
   have m1:=r1.length
   have m2:=r2.length
   have rc:RcAt A s (.ref a) (.ref b) (pyEq (.tup e1) (.tup e2)):=by
    have z:=RcAt.tuples p1 p2 hu0 it
    rw [pyEq,zl5]
    simp only [List.size_toArray] at z
    rw [l1,l2,m1,m2]
    exact z
   refine ⟨rc,?_⟩
   by_cases hab:a=b
   ·subst hab
    have e:=RW.inj I hx hy
    injection e with e
    subst e
    rw [pyEq_refl]
    exact EqAt.same _
   ·exact .of_refs hab rc
  | lst e2 =>
   obtain ⟨a,vs,its,rfl,rfl,q1,r1,p1⟩:=seqT hx rx
   obtain ⟨b,ws,its2,rfl,rfl,q2,r2,p2⟩:=seqL hy ry
   have e:pyEq (.tup e1) (.lst e2)=false:=by simp [pyEq]
   rw [e]
   exact ⟨.tuple_list p1 p2 hu0,.tuple_list p1 p2 hu0⟩
 | lst e1 =>
  cases py with
  | non =>
   obtain ⟨a,vs,its,rfl,rfl,q1,r1,p1⟩:=seqL hx rx
   obtain rfl:y=V.non:=hy.non
   obtain rfl:u=Value.none:=ry
   have e:pyEq (.lst e1) .non=false:=by simp [pyEq]
   rw [e]
   exact ⟨.list_none p1 hu0,.list_none p1 hu0⟩
  | bl e2 =>
   obtain ⟨a,vs,its,rfl,rfl,q1,r1,p1⟩:=seqL hx rx
   obtain rfl:=hy.bl
   obtain rfl:u=Value.bool _:=ry
   have e:pyEq (.lst e1) (.bl e2)=false:=by simp [pyEq]
   rw [e]
   exact ⟨.list_bool _ p1 hu0,.list_bool _ p1 hu0⟩
  | int e2 =>
   obtain ⟨a,vs,its,rfl,rfl,q1,r1,p1⟩:=seqL hx rx
   obtain rfl:=hy.int
   obtain ⟨t',rfl⟩:=ry
   have e:pyEq (.lst e1) (.int e2)=false:=by simp [pyEq]
   rw [e]
   exact ⟨.list_int _ _ p1 hu0,.list_int _ _ p1 hu0⟩
  | str e2 =>
   obtain ⟨a,vs,its,rfl,rfl,q1,r1,p1⟩:=seqL hx rx
   obtain rfl:=hy.str.1
   obtain ⟨t',rfl⟩:=ry
   have e:pyEq (.lst e1) (.str e2)=false:=by simp [pyEq]
   rw [e]
   exact ⟨.list_str _ _ p1 hu0,.list_str _ _ p1 hu0⟩
  | tup e2 =>
   obtain ⟨a,vs,its,rfl,rfl,q1,r1,p1⟩:=seqL hx rx
   obtain ⟨b,ws,its2,rfl,rfl,q2,r2,p2⟩:=seqT hy ry
   have e:pyEq (.lst e1) (.tup e2)=false:=by simp [pyEq]
   rw [e]
   exact ⟨.list_tuple p1 p2 hu0,.list_tuple p1 p2 hu0⟩
  | lst e2 =>
   obtain ⟨a,vs,its,rfl,rfl,q1,r1,p1⟩:=seqL hx rx
   obtain ⟨b,ws,its2,rfl,rfl,q2,r2,p2⟩:=seqL hy ry
   have hn:0<n:=by simp at hd;lia
   have hd':deps e1≤n - 1∨deps e2≤n - 1:=by simp at hd;lia
   have it:=zp2 (n:=n - 1) (A:=A) (ih hn) q1 q2 r1 r2 hd' (by lia)
   have l1:=q1.length
   have l2:=q2.length
   have m1:=r1.length
   have m2:=r2.length
   have rc:RcAt A s (.ref a) (.ref b) (pyEq (.lst e1) (.lst e2)):=by
    by_cases hz:its.length=its2.length
    ·have z:=RcAt.lists p1 p2 (by simpa using hz) hu0 it
     rw [pyEq,zl5]
     simp only [List.size_toArray] at z
     rw [l1,l2,m1,m2,← hz,Nat.min_self,beq_self_eq_true,Bool.and_true]
     exact z
    ·have z:=RcAt.lists_lengths p1 p2 (by simpa using hz) hu0
     have e:pyEq (.lst e1) (.lst e2)=false:=by
      rw [pyEq,zl5,Bool.and_eq_false_iff]
      exact .inr (by rw [beq_eq_false_iff_ne];lia)
     rw [e]
     exact z
   refine ⟨rc,?_⟩
   by_cases hab:a=b
   ·subst hab
    have e:=RW.inj I hx hy
    injection e with e
    subst e
    rw [pyEq_refl]
    exact EqAt.same _
   ·exact .of_refs hab rc
theorem yF1 {α:Al} {st:za6} (I:Inv X pins σ H s):∀ (n:Nat) (px py:PV) (x y:V) (v u:Value) (A:Around),RW X.K α st H px x→RW X.K α st H py y→RelV x v→RelV y u →
  (dep px≤n∨dep py≤n)→A.units+n+1<cLine→RcAt A s v u (pyEq px py)∧EqAt A s v u (pyEq px py):=by
 intro n
 induction n with
 | zero =>
  intro px py x y v u A hx hy rx ry hd hu
  exact zH9 I (fun h=>absurd h (by lia)) px py x y v u A hx hy rx ry hd hu
 | succ n ih=>exact fun px py x y v u A hx hy rx ry hd hu=>zH9 I (fun _=>ih) px py x y v u A hx hy rx ry hd hu
theorem zG7 (hu:X.A.units+200<cLine):Op2 X (compareOp .Eq) (fun x y=>if zi3 (dep x) (dep y) then some (.bl (pyEq x y)) else none):=by
 rintro pins s σ H x y v u Q I rx ry ⟨α,st,px,py,z,r,hx,hy,hz,q⟩
 simp only [Option.ite_none_right_eq_some,Option.some.injEq] at hz
 obtain ⟨hd,hz⟩:=hz
 have hd':dep px≤100∨dep py≤100:=by simpa [zi3] using hd
 exact (yF1 I 100 px py x y v u X.A hx hy rx ry hd' (by lia)).1 _ _ _ _ ⟨.bl _,H,I,rfl,q _ _ (zj0.refl H) (by rw [← hz,RP])⟩
end
open PySem L2 PySem.SeqAt PySem.StrLaws
open PySem.Builtin PySem.Builtin.Str
theorem zZ3 (x y:Str) (hi k f:Nat):∀ l:List Nat,(forIn l ((#[k]:Array Nat),f) (occBody x y hi 1)).run.fst=#[k]
 | []=>rfl
 | a::l=>by
  rw [List.forIn_cons]
  unfold occBody
  split
  ·rename_i hc
   simp at hc
  ·exact zZ3 x y hi k f l
theorem yq1 (cs bs:List Nat) (i:Nat) (hi:i≤cs.length):(i+bs.length≤cs.length∧subAt ⟨cs.toArray⟩ ⟨bs.toArray⟩ i=true)↔bs.isPrefixOf (cs.drop i)=true:=by
 rw [List.isPrefixOf_iff_prefix,List.prefix_iff_eq_take]
 unfold subAt
 have e:(⟨bs.toArray⟩:Str).length=bs.length:=zj8 bs
 rw [e]
 have e2:(cs.toArray.extract i (i+bs.length))=((cs.drop i).take bs.length).toArray:=by
  apply Array.ext'
  simp [List.extract_eq_take_drop]
 constructor
 ·rintro ⟨_,h⟩
  have h':cs.toArray.extract i (i+bs.length)=bs.toArray:=by simpa using h
  rw [e2] at h'
  have:=congrArg Array.toList h'
  simpa using this.symm
 ·intro h
  have hl:=congrArg List.length h
  rw [List.length_take,List.length_drop] at hl
  refine ⟨by lia,?_⟩
  show (cs.toArray.extract i (i+bs.length)==bs.toArray)=true
  rw [e2,← h]
  simp
theorem yb3 (cs bs:List Nat):∀ (n i:Nat),i+n=cs.length →
  (forIn (List.range' i (n+1)) ((#[]:Array Nat),0) (occBody ⟨cs.toArray⟩ ⟨bs.toArray⟩ cs.length 1)).run.fst.toList=match findIn bs (cs.drop i) i with | some k=>[k] | none=>[]
 | 0,i,h=>by
  have hd:cs.drop i=[]:=List.drop_eq_nil_of_le (by lia)
  rw [List.range'_succ,List.forIn_cons]
  have q:=yq1 cs bs i (by lia)
  rw [hd] at q ⊢
  unfold occBody
  have e:(⟨bs.toArray⟩:Str).length=bs.length:=zj8 bs
  by_cases hb:bs=[]
  ·subst hb
   have hs:=q.mpr (by simp)
   rw [if_pos (by rw [e];simp;exact ⟨by lia,hs.2⟩)]
   simp [findIn,List.range']
  ·have hs:¬ bs.isPrefixOf ([]:List Nat)=true:=by cases bs <;> simp at hb ⊢
   rw [if_neg (by
    intro hc
    rw [e] at hc
    simp at hc
    exact hs (q.mp ⟨by lia,by have:=hc.2;simpa using this⟩))]
   simp [findIn,List.range',hb]
 | n+1,i,h=>by
  rw [List.range'_succ,List.forIn_cons]
  have q:=yq1 cs bs i (by lia)
  obtain ⟨c,hc⟩:∃ c,cs.drop i=c::cs.drop (i+1):=⟨cs[i],by rw [List.drop_eq_getElem_cons (by lia)]⟩
  have e:(⟨bs.toArray⟩:Str).length=bs.length:=zj8 bs
  rw [hc] at q ⊢
  rw [findIn]
  unfold occBody
  by_cases hp:bs.isPrefixOf (c::cs.drop (i+1))=true
  ·have hs:=q.mpr hp
   rw [if_pos (by rw [e];simp;exact ⟨by lia,hs.2⟩),if_pos hp]
   have:=zZ3 ⟨cs.toArray⟩ ⟨bs.toArray⟩ cs.length i (i+(⟨bs.toArray⟩:Str).length) (List.range' (i+1) (n+1))
   unfold occBody at this
   simpa using congrArg Array.toList this
  ·rw [if_neg (by
    intro hc
    rw [e] at hc
    simp at hc
    exact hp (q.mp ⟨by lia,by have:=hc.2;simpa using this⟩)),if_neg hp]
   have ih:=yb3 cs bs n (i+1) (by lia)
   unfold occBody at ih
   simpa using ih
theorem yt2 (cs bs:List Nat):occurrences ⟨cs.toArray⟩ ⟨bs.toArray⟩ 0 (Str.length ⟨cs.toArray⟩) 1=match findIn bs cs 0 with | some k=>[k] | none=>[]:=by
 rw [occ_eq,zj8]
 have:=yb3 cs bs cs.length 0 (by lia)
 rw [List.drop_zero] at this
 exact this
theorem zJ2 (bs:List Nat):∀ (cs:List Nat) (k:Nat),zz6 bs cs=(findIn bs cs k).isSome
 | [],k=>by rw [zz6,findIn];split <;> simp_all
 | c::r,k=>by
  rw [zz6,findIn]
  split
  ·rename_i h;rw [h];rfl
  ·rename_i h;rw [zJ2 bs r (k+1)];simp at h;simp [h]
section
variable {X:Cx}
theorem yO2 (hu:X.A.units+200<cLine):Op2 X (compareOp .In) (fun x y=>(isIn x y).map .bl):=by
 rintro pins s σ H x y v u Q I rx ry ⟨α,st,px,py,z,r,hx,hy,hz,q⟩
 obtain ⟨b,hb,hz2⟩:=Option.map_eq_some_iff.mp hz
 have fin:EP X pins σ Q (.bool b) s:=⟨.bl b,H,I,rfl,q _ _ (zj0.refl H) (by rw [← hz2,RP])⟩
 have seq:∀ {xs:List PV} {vs:List V} {its:List Value},RPs X.K H (zf1 α st) xs vs→zg6 vs its→zi3 (dep px) (deps xs)=true →
   ∃ e:Value→Bool,(∀ w,w∈its.toArray→EqAt X.A.in1 s w v (e w))∧its.toArray.any e=zp8 px xs:=by
  intro xs vs its h r1 hd
  have hd':dep px≤100∨deps xs≤100:=by simpa [zi3] using hd
  classical
  have l1:=h.length
  have l2:=r1.length
  have val:∀ (j:Nat) (hj:j<its.length),∃ y,xs[j]?=some y∧EqAt X.A.in1 s its[j] v (pyEq y px)∧∃ w,RP X.K H (zf1 α st) y w∧RelV w its[j]:=fun j hj=>by
   obtain ⟨y,w,a1,a2,a3,a4⟩:=h.at r1 hj
   have da:=zJ4 a1
   exact ⟨y,a1,(yF1 I 100 y px w x its[j] v X.A.in1 (.inl a3) hx a4 rx (by lia) (by show X.A.units+1+100+1<cLine;lia)).2,w,a3,a4⟩
  refine ⟨fun w=>decide (∃ (j:Nat) (y:PV),its[j]?=some w∧xs[j]?=some y∧pyEq y px=true),fun w hw=>?_,?_⟩
  ·have hw':w∈its:=by simpa using hw
   obtain ⟨j,hj,rfl⟩:=List.getElem_of_mem hw'
   obtain ⟨y,a1,a2,w1,a3,a4⟩:=val j hj
   have e:decide (∃ (k:Nat) (y:PV),its[k]?=some its[j]∧xs[k]?=some y∧pyEq y px=true)=pyEq y px:=by
    rw [Bool.eq_iff_iff,decide_eq_true_eq]
    constructor
    ·rintro ⟨k,y',b1,b2,b3⟩
     obtain ⟨hk,b1⟩:=List.getElem?_eq_some_iff.mp b1
     obtain ⟨y2,c1,_,w2,c3,c4⟩:=val k hk
     rw [b2] at c1;cases c1
     rw [b1] at c4
     have:=a4.inj c4
     subst this
     rw [RP.inj I y y' _ a3 c3]
     exact b3
    ·intro hp
     exact ⟨j,y,List.getElem?_eq_getElem hj,a1,hp⟩
   dsimp only
   rw [e]
   exact a2
  ·rw [Bool.eq_iff_iff]
   unfold zp8
   simp only [List.any_toArray,List.any_eq_true,decide_eq_true_eq]
   constructor
   ·rintro ⟨w,_,j,y,b1,b2,b3⟩
    exact ⟨y,List.mem_of_getElem? b2,b3⟩
   ·rintro ⟨y,hy',b3⟩
    obtain ⟨j,hj,rfl⟩:=List.getElem_of_mem hy'
    have hj':j<its.length:=by lia
    exact ⟨its[j],List.getElem_mem hj',j,xs[j],List.getElem?_eq_getElem hj',List.getElem?_eq_getElem hj,b3⟩
 cases py with
 | str cs =>
  cases px with
  | str bs =>
   have hb':zz6 bs cs=b:=by simpa [isIn] using hb
   refine yj4 pins s σ H x y v u Q I rx ry ⟨_,_,hx.str.1,hy.str.1,?_⟩
   rw [yt2]
   have e:(!(match findIn bs cs 0 with | some k=>[k] | none=>([]:List Nat)).isEmpty)=b:=by
    rw [← hb',zJ2 bs cs 0]
    cases findIn bs cs 0 <;> rfl
   rw [e]
   exact q _ _ (zj0.refl H) (by rw [← hz2,RP])
  | _=>simp [isIn] at hb
 | tup xs =>
  obtain ⟨a,vs,rfl,h1,h2⟩:=hy.tup
  cases ry
  obtain ⟨its,r1,p,_⟩:=I.tuple h1
  have hc:zi3 (dep px) (deps xs)=true∧zp8 px xs=b:=by cases px <;> simpa [isIn] using hb
  obtain ⟨e,he,hany⟩:=seq h2 r1 hc.1
  exact in_tupleAt e p he (by rw [hany,hc.2];exact fin)
 | lst xs =>
  obtain ⟨a,vs,rfl,h1,h2⟩:=hy.lst
  cases ry
  obtain ⟨its,r1,p,_⟩:=I.list h1
  have hc:zi3 (dep px) (deps xs)=true∧zp8 px xs=b:=by cases px <;> simpa [isIn] using hb
  obtain ⟨e,he,hany⟩:=seq h2 r1 hc.1
  exact in_listAt e p.isList he (by rw [hany,hc.2];exact fin)
 | _=>cases px <;> simp [isIn] at hb
end
open PySem L2 PySem.SeqAt
section
variable {X:Cx} {C:zb7} {a b c:Expr} {ia ib ic:E} {pos:Pos} {zp6:List Expr}
theorem yX1 (ha:ST X C a ia):ST X C (.UnaryOp .Not a pos) (.not ia) :=
 PT.mono (yL7 ha) fun σ H Q h_=>by
  obtain ⟨env,α,st,k,st',at',e,q⟩:=h_
  rw [yR4] at e
  obtain ⟨k',st1,e1,e⟩:=Res.bindB_inv e
  cases e
  exact ⟨env,α,st,k',st',at',e1,q⟩
noncomputable abbrev SW (X:Cx) (C:zb7) (e:Expr) (ir:E):Prop:=PW X e (tT X.K C ir)
theorem xj8 {e:Expr} {ir:E} (h:SW X C e ir):ST X C e ir:=h.pt
theorem yF8 (ha:ST X C a ia):SW X C (.BoolOp .And [a] pos) ia:=yI6 ha
theorem yW3 (ha:ST X C a ia):SW X C (.BoolOp .Or [a] pos) ia:=yZ2 ha
theorem yM1 (ha:ST X C a ia) (hb:SW X C (.BoolOp .And (b::zp6) pos) ib):SW X C (.BoolOp .And (a::b::zp6) pos) (.and ia ib) :=
 PW.mono (yT6 ha hb) fun σ H Q h_=>by
  obtain ⟨env,α,st,k,st',at',e,q⟩:=h_
  rw [yA4] at e
  obtain ⟨k',st1,e1,e⟩:=Res.bindB_inv e
  refine ⟨env,α,st,k',st1,at',e1,fun H1 α1 x1 r1=>?_⟩
  cases k' with
  | true=>exact ⟨env,α1,st1,k,st',at'.next x1 r1,e,fun H2 α2 x2 r2=>q H2 α2 (x1.trans x2) r2⟩
  | false=>cases e;exact q H1 α1 x1 r1
theorem xk8 (ha:ST X C a ia) (hb:SW X C (.BoolOp .Or (b::zp6) pos) ib):SW X C (.BoolOp .Or (a::b::zp6) pos) (.or ia ib) :=
 PW.mono (xj4 ha hb) fun σ H Q h_=>by
  obtain ⟨env,α,st,k,st',at',e,q⟩:=h_
  rw [yQ6] at e
  obtain ⟨k',st1,e1,e⟩:=Res.bindB_inv e
  refine ⟨env,α,st,k',st1,at',e1,fun H1 α1 x1 r1=>?_⟩
  cases k' with
  | false=>exact ⟨env,α1,st1,k,st',at'.next x1 r1,e,fun H2 α2 x2 r2=>q H2 α2 (x1.trans x2) r2⟩
  | true=>cases e;exact q H1 α1 x1 r1
theorem yB3 {K:Frag} {α:Al} {st:za6} {H:Hp} {k:Bool} {w:V} (h:RV K α st H (.p (.bl k)) w):w=.bl k:=by simpa [RV,RP] using h
theorem yR3 {op} (h:SE X C a ia):SE X C (.BoolOp op [a] pos) ia:=yO8 h
theorem yY6 (ha:SE X C a ia) (hb:SE X C (.BoolOp .And (b::zp6) pos) ib):SE X C (.BoolOp .And (a::b::zp6) pos) (.and ia ib) :=
 PE.mono (yL9 ha hb) fun σ H Q h_=>by
  obtain ⟨env,α,st,v,st',at',e,q⟩:=h_
  rw [yA4] at e
  obtain ⟨k',st1,e1,e⟩:=Res.bindB_inv e
  refine ⟨env,α,st,_,st1,at',e1,fun w H1 α1 x1 r1 v1=>⟨k',yB3 v1,?_⟩⟩
  cases k' with
  | true=>exact ⟨env,α1,st1,v,st',at'.next x1 r1,e,fun w H2 α2 x2 r2=>q w H2 α2 (x1.trans x2) r2⟩
  | false=>cases e;exact q _ H1 α1 x1 r1 (by rw [RV,RP])
theorem xh3 (ha:SE X C a ia) (hb:SE X C (.BoolOp .Or (b::zp6) pos) ib):SE X C (.BoolOp .Or (a::b::zp6) pos) (.or ia ib) :=
 PE.mono (xd8 ha hb) fun σ H Q h_=>by
  obtain ⟨env,α,st,v,st',at',e,q⟩:=h_
  rw [yQ6] at e
  obtain ⟨k',st1,e1,e⟩:=Res.bindB_inv e
  refine ⟨env,α,st,_,st1,at',e1,fun w H1 α1 x1 r1 v1=>⟨k',yB3 v1,?_⟩⟩
  cases k' with
  | false=>exact ⟨env,α1,st1,v,st',at'.next x1 r1,e,fun w H2 α2 x2 r2=>q w H2 α2 (x1.trans x2) r2⟩
  | true=>cases e;exact q _ H1 α1 x1 r1 (by rw [RV,RP])
theorem yX0 (hc:ST X C c ic) (ha:SE X C a ia) (hb:SE X C b ib):SE X C (.IfExp c a b pos) (.ite ic ia ib) :=
 PE.mono (yr0 hc ha hb) fun σ H Q h_=>by
  obtain ⟨env,α,st,v,st',at',e,q⟩:=h_
  rw [yZ6] at e
  obtain ⟨k',st1,e1,e⟩:=Res.bindB_inv e
  refine ⟨env,α,st,k',st1,at',e1,fun H1 α1 x1 r1=>?_⟩
  cases k' with
  | true=>exact ⟨env,α1,st1,v,st',at'.next x1 r1,e,fun w H2 α2 x2 r2=>q w H2 α2 (x1.trans x2) r2⟩
  | false=>exact ⟨env,α1,st1,v,st',at'.next x1 r1,e,fun w H2 α2 x2 r2=>q w H2 α2 (x1.trans x2) r2⟩
theorem yV8 {op:CmpOp} {g:PV→PV→Option PV} {ir:E} (ho:Op2 X (compareOp op) g) (ha:SE X C a ia) (hb:SE X C b ib) (hm:behindInMarks op b=false)
  (hi:∀ env st,evalE C ir env st=(evalE C ia env st).bind fun x st=>(evalE C ib env st).bind fun y st=>op2 g x y st):ST X C (.Compare a [op] [b] pos) ir :=
 PT.mono (yK5 ho ha hb hm) fun σ H Q h_=>by
  obtain ⟨env,α,st,k,st',at',e,q⟩:=h_
  rw [hi] at e
  obtain ⟨va,st1,e1,e⟩:=Res.bind_inv e
  obtain ⟨vb,st2,e2,e⟩:=Res.bind_inv e
  obtain ⟨x,y,u,h1,h2,h3,h4,h5⟩:=zL3 e
  cases h4
  subst h5
  refine ⟨env,α,st,va,st1,at',e1,fun w H1 α1 x1 r1 v1=>?_⟩
  refine ⟨env,α1,st1,vb,st',at'.next x1 r1,e2,fun w2 H2 α2 x2 r2 v2=>?_⟩
  refine ⟨α2,st',x,y,_,r2,(x2.rv v1).view r2 h1,v2.view r2 h2,h3,fun w3 H3 s3 rp=>?_⟩
  exact ⟨k,by rw [RP] at rp;exact rp,q H3 α2 (x1.trans (x2.trans (.of_same r2 s3))) (r2.same s3)⟩
noncomputable def tPs (K:Frag) (C:zb7) (irs:List E):TA:=fun σ H Q=>∃ env α st vs st',At K α st H env σ∧evalEs C irs env st=.ok vs st' ∧
 ∀ ws H' α',Ext K α st H α' st' H'→RSt K α' st' H'→Paired (RV K α' st' H') vs ws→Q ws H'
noncomputable abbrev SA (X:Cx) (C:zb7) (es:List Expr) (irs:List E):Prop:=PA X es (tPs X.K C irs)
theorem PA.mono {es:List Expr} {t t':TA} (h:PA X es t) (m:∀ σ H Q,t' σ H Q→t σ H Q):PA X es t':=fun pos pins s σ H Q I q=>h pos pins s σ H Q I (m _ _ _ q)
theorem yA8:SA X C [] []:=PA.mono yA7 fun σ H Q h_=>by
 obtain ⟨env,α,st,vs,st',at',e,q⟩:=h_
 rw [zs5] at e
 cases e
 exact q [] H α .refl at'.rs .nil
theorem yk4 {es:List Expr} {irs:List E} (ha:SE X C a ia) (hr:SA X C es irs) (hs:starEach (a::es) X.env=(false,eval a X.env)::starEach es X.env):SA X C (a::es) (ia::irs) :=
 PA.mono (zV0 ha hr hs) fun σ H Q h_=>by
  obtain ⟨env,α,st,vs,st',at',e,q⟩:=h_
  rw [zp9] at e
  obtain ⟨v,st1,e1,e⟩:=Res.bind_inv e
  obtain ⟨vr,st2,e2,e⟩:=Res.bind_inv e
  cases e
  exact ⟨env,α,st,v,st1,at',e1,fun w H1 α1 x1 r1 v1=>⟨env,α1,st1,vr,st',at'.next x1 r1,e2,fun ws H2 α2 x2 r2 p=>q _ H2 α2 (x1.trans x2) r2 (.cons (x2.rv v1) p)⟩⟩
theorem zJ8:∀ {irs:List E} {env:Env} {st st':za6} {xs:List PV},evalPs C irs env st=.ok xs st'→evalEs C irs env st=.ok (xs.map .p) st'
 | [],env,st,st',xs,h=>by rw [zM0] at h;cases h;rw [zs5];rfl
 | i::r,env,st,st',xs,h=>by
  rw [zE2] at h
  obtain ⟨x,st1,e1,h⟩:=Res.bindP_inv h
  obtain ⟨ys,st2,e2,h⟩:=Res.bind_inv h
  cases h
  rw [zp9,e1,Res.bind_ok,zJ8 e2]
  rfl
theorem zX0 {K:Frag} {α:Al} {st:za6} {H:Hp}:∀ {xs:List PV} {ws:List V},Paired (RV K α st H) (xs.map .p) ws→RPs K H (zf1 α st) xs ws
 | [],ws,h=>by cases h;rw [RPs]
 | x::r,ws,h=>by
  cases h with
  | cons q t=>rw [RPs];exact ⟨_,_,rfl,q,zX0 t⟩
theorem zB5:∀ {irs:List E} {env:Env} {st st':za6} {xs:List PV},evalPs C irs env st=.ok xs st'→xs.length=irs.length
 | [],env,st,st',xs,h=>by rw [zM0] at h;cases h;rfl
 | i::r,env,st,st',xs,h=>by
  rw [zE2] at h
  obtain ⟨x,st1,e1,h⟩:=Res.bindP_inv h
  obtain ⟨ys,st2,e2,h⟩:=Res.bind_inv h
  cases h
  simp [zB5 e2]
theorem yN2 {es:List Expr} {irs:List E} {x1} (h:SA X C es irs) (hl:es.length≤1000) (hi:irs.length=es.length):SE X C (.Tuple es x1 pos) (.tup irs) :=
 PE.mono (yP7 h) fun σ H Q h_=>by
  obtain ⟨env,α,st,v,st',at',e,q⟩:=h_
  rw [yU8] at e
  obtain ⟨xs,st1,e1,e⟩:=Res.bind_inv e
  cases e
  refine ⟨env,α,st,_,st',at',zJ8 e1,fun ws H1 α1 x1 r1 p=>?_⟩
  have rp:=zX0 p
  refine ⟨?_,fun a ha=>?_⟩
  ·rw [← rp.length,zB5 e1,hi]
   exact Nat.le_trans hl (by decide)
  ·have s1:zj0 H1 (upd H1 a (.tup ws)):=zf8 ha _
   exact q _ _ α1 (x1.trans (.of_same r1 s1)) (r1.same s1) (by rw [RV,RP];exact ⟨a,ws,rfl,SqT.of zd7,(Ext.of_same r1 s1).rps rp⟩)
theorem yS9 {es:List Expr} {irs:List E} (h:SA X C es irs) (hl:es.length≤1000) (hi:irs.length=es.length):SE X C (.List es pos) (.list false irs) :=
 PE.mono (yV2 h) fun σ H Q h_=>by
  obtain ⟨env,α,st,v,st',at',e,q⟩:=h_
  rw [yk3] at e
  obtain ⟨xs,st1,e1,e⟩:=Res.bind_inv e
  simp only [mk,Bool.false_eq_true,if_false] at e
  cases e
  refine ⟨env,α,st,_,st',at',zJ8 e1,fun ws H1 α1 x1 r1 p=>?_⟩
  have rp:=zX0 p
  refine ⟨?_,fun a ha=>?_⟩
  ·rw [← rp.length,zB5 e1,hi]
   exact Nat.le_trans hl (by decide)
  ·have s1:zj0 H1 (upd H1 a (.lst ws)):=zf8 ha _
   exact q _ _ α1 (x1.trans (.of_same r1 s1)) (r1.same s1) (by rw [RV,RP];exact ⟨a,ws,rfl,SqL.of zd7,r1.notlive ha,(Ext.of_same r1 s1).rps rp⟩)
end
open PySem L2 PySem.SeqAt PyProof.Rows
section
variable {X:Cx} {C:zb7} {a b c:Expr} {ia ib ic:E} {pos:Pos}
theorem yE5 (hu:X.A.units+1<cLine):IxR X (fun x y H Q=>∃ a v,x=.ref a∧yL3 H a y (some v)∧Q v H):=by
 intro value slice pins s σ H x y v u Q I rx ry ⟨a,w,ex,g,q⟩ hs
 subst ex
 obtain rfl:v=Value.ref a:=rx
 have hT:=zS7 I g
 have h2:wpAny (model X.prog X.w) X.A (getItem (.ref a) u) (EP X pins σ Q) X.xe s:=yj8 hu I g ry fun w' s3 I3 rw'=>⟨w,H,I3,rw',q⟩
 unfold subscriptTail
 refine wpAny_bind ?_
 rw [getitemInPython_of_ne hT.not_modules]
 refine wpAny_bind (wpAny_specialOf hT PySem.F.slot_dict_getitem.lookup ?_)
 have fin:wpAny (model X.prog X.w) X.A (subscripted slice false (.ref a) u) (fun r s₃=>wpAny (model X.prog X.w) X.A (letTemporaryGo value (.ref a) r >>= fun _=>pure r) (EP X pins σ Q) X.xe s₃) X.xe s:=by
  rw [hs]
  exact wpAny_operating (wpAny_mono h2 (fun r s₃ h₃=>wpAny_bind (wpAny_letTemporaryGo (wpAny_pure h₃))) fun _ _ x=>x)
 first
  | exact wpAny_pure (wpAny_bind fin)
  | exact wpAny_bind (wpAny_pure (wpAny_bind fin))
  | exact wpAny_bind fin
theorem zF3 {a b:PV} {k:Key} (h1:keyOf a=some k) (h2:keyOf b=some k):a=b:=by
 cases a <;> simp only [keyOf,reduceCtorEq,Option.some.injEq] at h1 <;> cases b <;> simp only [keyOf,reduceCtorEq,Option.some.injEq] at h2 <;> subst h1
 ·cases h2;rfl
 ·cases h2
 ·cases h2
 ·injection h2 with h2
  injection h2 with h2
  exact congrArg PV.str (by simpa using (congrArg Array.toList h2).symm)
theorem yp0 {K:Frag} {H:Hp} {lv:Addr→Prop} {k x:PV} {k':Key} (hk:keyOf k=some k'):∀ {kvs:List (PV×PV)} {l:List (Key×V)},RKV K H lv kvs l→yb9 k kvs=some x→∃ v,yf0 l k'=some v∧RP K H lv x v
 | [],l,h,e=>by simp [yb9] at e
 | (k1,x1)::r,l,h,e=>by
  rw [RKV] at h
  obtain ⟨k2,v,l',rfl,h1,h2,h3⟩:=h
  rw [yb9] at e
  by_cases hc:k1=k
  ·subst hc
   rw [if_pos rfl] at e
   cases e
   rw [h1] at hk;cases hk
   exact ⟨v,zA8 rfl,h2⟩
  ·rw [if_neg hc] at e
   obtain ⟨w,g1,g2⟩:=yp0 hk h3 e
   refine ⟨w,?_,g2⟩
   rw [zC2]
   ·exact g1
   ·intro e'
    have:k2=k':=e'
    subst this
    exact hc (zF3 h1 hk)
theorem yn4 {K:Frag} {H:Hp} {lv:Addr→Prop} {k x:PV}:∀ {kvs:List (PV×PV)} {l:List (Key×V)},RKV K H lv kvs l→yb9 k kvs=some x→∃ k',keyOf k=some k'
 | [],l,h,e=>by simp [yb9] at e
 | (k1,x1)::r,l,h,e=>by
  rw [RKV] at h
  obtain ⟨k2,v,l',rfl,h1,h2,h3⟩:=h
  rw [yb9] at e
  by_cases hc:k1=k
  ·subst hc;exact ⟨k2,h1⟩
  ·rw [if_neg hc] at e
   exact yn4 h3 e
theorem yz2 {K:Frag} {α:Al} {st:za6} {H:Hp} {x:PV} {v:V} {k:Key} (h:RW K α st H x v) (e:keyOf x=some k):v=kV k:=by
 cases x with
 | int i=>cases e;exact h.int
 | str cs=>cases e;exact h.str.1
 | _=>cases e
theorem xi4 (hu:X.A.units+1<cLine) (ha:SE X C a ia) (hb:SE X C b ib) (hs:zS9 b):SE X C (.Subscript a b pos) (.ix ia ib) :=
 PE.mono (xh6 (yX8.or (yE5 hu)) ha hb hs) fun σ H Q h_=>by
  obtain ⟨env,α,st,v,st',at',e,q⟩:=h_
  rw [xe1] at e
  obtain ⟨o,st1,e1,e⟩:=Res.bind_inv e
  obtain ⟨iv,i,st2,e2,hi,e⟩:=Res.bindV_inv e
  refine ⟨env,α,st,o,st1,at',e1,fun w H1 α1 x1 r1 v1=>?_⟩
  refine ⟨env,α1,st1,iv,st2,at'.next x1 r1,e2,fun w2 H2 α2 x2 r2 v2=>?_⟩
  have wi:=v2.view r2 hi
  have ro:=x2.rv v1
  have seq:∀ {x:PV},RW X.K α2 st2 H2 x w→okO (yq5 x i) st2=.ok v st'→(rIx X.K w w2 H2 Q):=by
   intro x rx hx
   obtain ⟨z,h1,h2,h3⟩:=zq4 hx
   subst h2 h3
   have fin:∀ {u:V},RP X.K H2 (zf1 α2 st') z u→Q u H2:=fun h=>q _ H2 α2 (x1.trans x2) r2 h
   cases x with
   | tup xs =>
    cases i with
    | int k =>
     obtain ⟨p,vs,rfl,g1,g2⟩:=rx.tup
     obtain ⟨j,hj,hz⟩:=Option.bind_eq_some_iff.mp (show (zk5 xs.length k).bind (fun j=>xs[j]?)=some z from h1)
     obtain ⟨u,hu1,hu2⟩:=g2.get hz
     exact .inr (.inl ⟨p,vs,k,u,rfl,wi.int,g1,by show (zk5 vs.length k).bind (fun j=>vs[j]?)=some u;rw [← g2.length,hj];exact hu1,fin hu2⟩)
    | _=>simp [yq5] at h1
   | lst xs =>
    cases i with
    | int k =>
     obtain ⟨p,vs,rfl,g1,g2⟩:=rx.lst
     obtain ⟨j,hj,hz⟩:=Option.bind_eq_some_iff.mp (show (zk5 xs.length k).bind (fun j=>xs[j]?)=some z from h1)
     obtain ⟨u,hu1,hu2⟩:=g2.get hz
     exact .inl ⟨p,vs,k,u,rfl,wi.int,g1,by show (zk5 vs.length k).bind (fun j=>vs[j]?)=some u;rw [← g2.length,hj];exact hu1,fin hu2⟩
    | _=>simp [yq5] at h1
   | str cs =>
    cases i with
    | int k =>
     obtain ⟨j,hj,hz⟩:=Option.bind_eq_some_iff.mp (show (zk5 cs.length k).bind (fun j=>(cs[j]?).map fun c=>PV.str [c])=some z from h1)
     obtain ⟨ch,hc1,hc2⟩:=Option.map_eq_some_iff.mp hz
     obtain ⟨g1,g2⟩:=rx.str
     refine .inr (.inr ⟨_,k,ch,g1,wi.int,by rw [zj8];exact g2,?_,fin (by rw [← hc2,RP];exact ⟨rfl,by show 1≤sizeLine;decide⟩)⟩)
     show (zk5 cs.toArray.toList.length k).bind (fun j=>cs.toArray.toList[j]?)=some ch
     simp only [List.toList_toArray]
     rw [hj]
     exact hc1
    | _=>simp [yq5] at h1
   | _=>cases i <;> simp [yq5] at h1
  cases o with
  | p x=>exact .inl (seq (.inl ro) e)
  | ref n =>
   have e:(match zb6 st2 n with | some (.lst xs)=>okO (yq5 (.lst xs) i) st2 | some (.dct kvs)=>okO (yb9 i kvs) st2 | _=>.stuck)=Res.ok v st':=e
   obtain ⟨p,hw,hp⟩:=id ro
   cases ho:zb6 st2 n with
   | none=>rw [ho] at e;cases e
   | some ob =>
    rw [ho] at e
    cases ob with
    | dead=>cases e
    | lst xs =>
     refine .inl (seq (x:=.lst xs) ?_ e)
     obtain ⟨p',vs,h1,h2,h3⟩:=r2.lst n xs ho
     rw [hp] at h1;cases h1
     exact .inr ⟨xs,p,vs,rfl,hw,SqL.of h2,h3⟩
    | dct kvs =>
     obtain ⟨z,h1,h2,h3⟩:=zq4 e
     subst h2 h3
     obtain ⟨p',l,g1,g2,g3⟩:=r2.dct n kvs ho
     rw [hp] at g1;cases g1
     cases hk:keyOf i with
     | none =>
      obtain ⟨k',hk'⟩:=yn4 g3 h1
      rw [hk] at hk';cases hk'
     | some k =>
      obtain ⟨u,f1,f2⟩:=yp0 hk g3 h1
      refine .inr ⟨p,u,hw,?_,q _ H2 α2 (x1.trans x2) r2 f2⟩
      rw [yz2 wi hk,← f1]
      exact yL3.k g2
end
open PySem L2 PySem.SeqAt PyProof.Rows
section
variable {X:Cx} {C:zb7} {e:Expr} {es:List Expr} {irs:List E} {pos p:Pos}
def zy0 (X:Cx) (f:Value) (g:List PV→Option PV):Prop :=
 zH2 X f fun ws H Q=>∃ α st xs z,RSt X.K α st H∧Paired (RW X.K α st H) xs ws∧g xs=some z∧∀ w H',zj0 H H'→RP X.K H' (zf1 α st) z w→Q w H'
theorem zC3 {K:Frag} {α:Al} {st:za6} {H:Hp} (r:RSt K α st H):∀ {vs:List Val} {ws:List V} {xs:List PV},Paired (RV K α st H) vs ws→zj4 st vs=some xs→Paired (RW K α st H) xs ws
 | [],ws,xs,h,e=>by cases h;cases e;exact .nil
 | v::vr,ws,xs,h,e=>by
  cases h with
  | cons q t =>
   unfold zj4 at e
   cases e1:view st v with
   | none=>rw [e1] at e;cases e
   | some x =>
    rw [e1] at e
    cases e2:zj4 st vr with
    | none=>rw [e2] at e;cases e
    | some xr =>
     rw [e2] at e
     cases e
     exact .cons (q.view r e1) (zC3 r t e2)
theorem zP6 {g:List PV→Option PV} {σ:L2.St} {H:Hp} {Q:VK} {irs:List E} {ir:E} (hi:∀ env st,evalE C ir env st=(evalEs C irs env st).bind fun vs st=>opN g vs st)
  (h:tP X.K C ir σ H Q):tCB (fun ws H Q=>∃ α st xs z,RSt X.K α st H∧Paired (RW X.K α st H) xs ws∧g xs=some z∧∀ w H',zj0 H H'→RP X.K H' (zf1 α st) z w→Q w H') (tPs X.K C irs) σ H Q:=by
 obtain ⟨env,α,st,v,st',at',e,q⟩:=h
 rw [hi] at e
 obtain ⟨vs,st1,e1,e⟩:=Res.bind_inv e
 refine ⟨env,α,st,vs,st1,at',e1,fun ws H1 α1 x1 r1 pr=>?_⟩
 unfold opN at e
 cases e2:zj4 st1 vs with
 | none=>rw [e2] at e;cases e
 | some xs =>
  rw [e2] at e
  obtain ⟨z,h1,h2,h3⟩:=zq4 e
  subst h2 h3
  exact ⟨α1,st',xs,z,r1,zC3 r1 pr e2,h1,fun w H2 s2 rp=>q w H2 α1 (x1.trans (.of_same r1 s2)) (r1.same s2) rp⟩
theorem ys5 {x:Str} {id:String} {g:List PV→Option PV} {ir:E} (hc:zy0 X (.builtin id) g) (hi:∀ env st,evalE C ir env st=(evalEs C irs env st).bind fun vs st=>opN g vs st) (hg:Gl X x) (hm:X.mg x=none) (hv:bootBuiltins x=some (.builtin id))
  (ha:SA X C (e::es) irs) (hn:x ≠ "__name__") (hdb:(x==("__debug__" : Str))=false) (he:starEach (e::es) X.env=(false,eval e X.env)::starEach es X.env) (hpl:(backTo pos (starEach es X.env)).any (·.1)=false) :
  SE X C (.Call (.Name x p) (e::es) [] pos) ir:=PE.mono (ya0 hc hg hm hv ha hn hdb he hpl) fun _ _ _ h=>zP6 hi h
theorem yj3 {x:Str} {T:String} {g:List PV→Option PV} {ir:E} (hc:zy0 X (.type T) g) (hi:∀ env st,evalE C ir env st=(evalEs C irs env st).bind fun vs st=>opN g vs st) (hg:Gl X x) (hm:X.mg x=none) (hv:bootBuiltins x=some (.type T))
  (ha:SA X C (e::es) irs) (hn:x ≠ "__name__") (hdb:(x==("__debug__" : Str))=false) (he:starEach (e::es) X.env=(false,eval e X.env)::starEach es X.env) (hpl:(backTo pos (starEach es X.env)).any (·.1)=false) :
  SE X C (.Call (.Name x p) (e::es) [] pos) ir:=PE.mono (yp5 hc hg hm hv ha hn hdb he hpl) fun _ _ _ h=>zP6 hi h
theorem zs9:zy0 X (.builtin "len") (f1 xj9):=by
 rintro pins s σ H ws us Q I rs ⟨α,st,xs,z,r,pr,hz,q⟩
 cases pr with
 | nil=>cases hz
 | cons h t =>
  cases t with
  | cons _ _=>cases hz
  | nil =>
   rename_i x w
   have hz:xj9 x=some z:=hz
   have fin:∀ {n:Int},z=.int n→Q (.int n) H:=fun e=>q _ _ (zj0.refl H) (by rw [e,RP])
   cases x with
   | tup l =>
    obtain ⟨a,vs,rfl,h1,h2⟩:=h.tup
    exact zA5 pins s σ H _ us Q I rs ⟨a,vs,rfl,.inr h1,fin (by rw [← h2.length];cases hz;rfl)⟩
   | lst l =>
    obtain ⟨a,vs,rfl,h1,h2⟩:=h.lst
    exact zA5 pins s σ H _ us Q I rs ⟨a,vs,rfl,.inl h1,fin (by rw [← h2.length];cases hz;rfl)⟩
   | str cs =>
    obtain ⟨h1,h2⟩:=h.str
    subst h1
    refine zN8 pins s σ H _ us Q I rs ⟨_,rfl,by rw [zj8];exact h2,fin ?_⟩
    rw [zj8];cases hz;rfl
   | _=>cases hz
theorem yG1 {k:Int→Int→Int} {xs:List PV} {z:PV} (h:f2 (fI2 k) xs=some z):∃ i j,xs=[.int i,.int j]∧z=.int (k i j):=by
 match xs,h with
 | [x,y],h =>
  have h:fI2 k x y=some z:=h
  cases x <;> cases y <;> simp only [fI2,reduceCtorEq,Option.some.injEq] at h
  exact ⟨_,_,rfl,h.symm⟩
theorem yW9 (hc:X.calm=true):zy0 X (.builtin "max") (f2 (fI2 fun i j=>if i<j then j else i)):=by
 rintro pins s σ H ws us Q I rs ⟨α,st,xs,z,r,pr,hz,q⟩
 obtain ⟨i,j,rfl,rfl⟩:=yG1 hz
 cases pr with
 | cons h1 t =>
  cases t with
  | cons h2 t =>
   cases t
   have e1:=h1.int
   have e2:=h2.int
   subst e1 e2
   exact yf6 hc pins s σ H _ us Q I rs ⟨i,j,rfl,q _ _ (zj0.refl H) (by rw [RP])⟩
theorem yU9 {xs:List PV} {z:PV} (h:f1 xe9 xs=some z):(∃ i,xs=[.int i])∨∃ b,xs=[.bl b]:=by
 match xs with
 | [.int i]=>exact .inl ⟨i,rfl⟩
 | [.bl b]=>exact .inr ⟨b,rfl⟩
 | [.non]=>cases h
 | [.str _]=>cases h
 | [.tup _]=>cases h
 | [.lst _]=>cases h
 | []=>cases h
 | _::_::_=>cases h
theorem xj3:zy0 X (.type "int") (f1 xe9):=by
 rintro pins s σ H ws us Q I rs ⟨α,st,xs,z,r,pr,hz,q⟩
 rcases yU9 hz with ⟨i,rfl⟩ | ⟨b,rfl⟩
 ·cases pr with
  | cons h1 t =>
   cases t
   have e1:=h1.int
   subst e1
   exact zR4 pins s σ H _ us Q I rs (.inl ⟨i,rfl,q _ _ (zj0.refl H) (by cases hz;rw [RP])⟩)
 ·cases pr with
  | cons h1 t =>
   cases t
   have e1:=h1.bl
   subst e1
   exact zR4 pins s σ H _ us Q I rs (.inr ⟨b,rfl,q _ _ (zj0.refl H) (by cases hz;rw [RP])⟩)
noncomputable def tS (K:Frag) (C:zb7) (W:Nat) (ss:List S):TS:=fun D σ H=>∃ env α st fl st',At K α st H env σ∧execSs C W ss env st=.ok fl st' ∧
 match fl with
 | .next env'=>∀ σ' H' α',Ext K α st H α' st' H'→At K α' st' H' env' σ'→D.nx σ' H'
 | .ret v=>∀ w H' α',Ext K α st H α' st' H'→RSt K α' st' H'→RV K α' st' H' v w→D.rt w H'
noncomputable def tS1 (K:Frag) (C:zb7) (W:Nat) (ss:S):TS:=fun D σ H=>∃ env α st fl st',At K α st H env σ∧execS C W ss env st=.ok fl st' ∧
 match fl with
 | .next env'=>∀ σ' H' α',Ext K α st H α' st' H'→At K α' st' H' env' σ'→D.nx σ' H'
 | .ret v=>∀ w H' α',Ext K α st H α' st' H'→RSt K α' st' H'→RV K α' st' H' v w→D.rt w H'
noncomputable abbrev SSs (X:Cx) (C:zb7) (W:Nat) (b:List Stmt) (ss:List S):Prop:=PSs X b (tS X.K C W ss)
noncomputable abbrev SS (X:Cx) (C:zb7) (W:Nat) (b:Stmt) (ss:S):Prop:=PS X b (tS1 X.K C W ss)
variable {W:Nat}
theorem PS.mono {st:Stmt} {t t':TS} (h:PS X st t) (m:∀ D σ H,t' D σ H→t D σ H):PS X st t':=fun pins s σ H D I q=>h pins s σ H D I (m _ _ _ q)
theorem PSs.mono {st:List Stmt} {t t':TS} (h:PSs X st t) (m:∀ D σ H,t' D σ H→t D σ H):PSs X st t':=fun pins s σ H D I q=>h pins s σ H D I (m _ _ _ q)
theorem At.set {K:Frag} {α:Al} {st:za6} {H:Hp} {env:Env} {σ:L2.St} {i:Nat} {v:Val} {w:V} (a:At K α st H env σ) (h:RV K α st H v w):At K α st H (env.set i (some v)) (σ.set i (some w)):=by
 refine ⟨by simp [a.len],a.rs,fun j u hj=>?_⟩
 by_cases hij:i=j
 ·subst hij
  by_cases hl:i<env.length
  ·rw [List.getElem?_set_self hl] at hj
   cases hj
   exact ⟨w,by rw [List.getElem?_set_self (by rw [← a.len];exact hl)],h⟩
  ·rw [List.getElem?_eq_none (by simp;lia)] at hj
   cases hj
 ·rw [List.getElem?_set_ne hij] at hj
  obtain ⟨w',h1,h2⟩:=a.env j u hj
  exact ⟨w',by rw [List.getElem?_set_ne hij];exact h1,h2⟩
theorem yO6:SSs X C W [] []:=PSs.mono yD2 fun D σ H h_=>by
 obtain ⟨env,α,st,fl,st',at',e,q⟩:=h_
 rw [exs_nil] at e
 cases e
 exact q σ H α .refl at'
theorem yK4 {st:Stmt} {zp6:List Stmt} {i:S} {ir:List S} (h1:SS X C W st i) (h2:SSs X C W zp6 ir):SSs X C W (st::zp6) (i::ir) :=
 PSs.mono (yv6 h1 h2) fun D σ H h_=>by
  obtain ⟨env,α,st,fl,st',at',e,q⟩:=h_
  rw [exs_cons] at e
  obtain ⟨f1,st1,e1,e⟩:=Res.bind_inv e
  refine ⟨env,α,st,f1,st1,at',e1,?_⟩
  cases f1 with
  | ret v =>
   cases e
   exact q
  | next env1 =>
   intro σ1 H1 α1 x1 at1
   refine ⟨env1,α1,st1,fl,st',at1,e,?_⟩
   cases fl with
   | next env2=>exact fun σ2 H2 α2 x2 at2=>q σ2 H2 α2 (x1.trans x2) at2
   | ret v=>exact fun w H2 α2 x2 r2 rv=>q w H2 α2 (x1.trans x2) r2 rv
theorem yB8 {ie:E} (h:SE X C e ie) (hs:swapsWith e none pos.line X.env=pure false):SS X C W (.Expr e pos) (.expr ie) :=
 PS.mono (yC0 h hs) fun D σ H h_=>by
  obtain ⟨env,α,st,fl,st',at',e,q⟩:=h_
  rw [yI4] at e
  obtain ⟨v,st1,e1,e⟩:=Res.bind_inv e
  cases e
  exact ⟨env,α,st,v,st',at',e1,fun w H1 α1 x1 r1 v1=>q σ H1 α1 x1 (at'.next x1 r1)⟩
theorem yS4 {ie:E} (h:SE X C e ie):SS X C W (.Return (some e) pos) (.ret ie) :=
 PS.mono (yV9 h) fun D σ H h_=>by
  obtain ⟨env,α,st,fl,st',at',e,q⟩:=h_
  rw [yM3] at e
  obtain ⟨v,st1,e1,e⟩:=Res.bind_inv e
  cases e
  exact ⟨env,α,st,v,st',at',e1,q⟩
theorem xd5 {c:Expr} {ic:E} {a b:List Stmt} {sa sb:List S} (hc:ST X C c ic) (ha:SSs X C W a sa) (hb:SSs X C W b sb):SS X C W (.If c a b pos) (.ite ic sa sb) :=
 PS.mono (xf2 hc ha hb) fun D σ H h_=>by
  obtain ⟨env,α,st,fl,st',at',e,q⟩:=h_
  rw [yz0] at e
  obtain ⟨k,st1,e1,e⟩:=Res.bindB_inv e
  refine ⟨env,α,st,k,st1,at',e1,fun H1 α1 x1 r1=>?_⟩
  have go:∀ {ss:List S},execSs C W ss env st1=.ok fl st'→tS X.K C W ss D σ H1:=fun {ss} e2=>by
   refine ⟨env,α1,st1,fl,st',at'.next x1 r1,e2,?_⟩
   cases fl with
   | next env2=>exact fun σ2 H2 α2 x2 at2=>q σ2 H2 α2 (x1.trans x2) at2
   | ret v=>exact fun w H2 α2 x2 r2 rv=>q w H2 α2 (x1.trans x2) r2 rv
  cases k with
  | true=>exact go e
  | false=>exact go e
theorem yM8 {i:Nat} {x:Str} {ie:E} {pos':Pos} (hN:X.N.Nodup) (hi:X.N[i]?=some x) (hx:Loc X.env.scope x) (h:SE X C e ie) (hs:swapsWith e (some (.Name x pos')) pos.line X.env=pure false) (hf:X.fn x=true∨X.env.scope.names.lookup x=some .local) :
  SS X C W (.Assign [.Name x pos'] e pos) (.set i ie) :=
 PS.mono (yW7 hN hi hx h hs hf) fun D σ H h_=>by
  obtain ⟨env,α,st,fl,st',at',e,q⟩:=h_
  rw [yl7] at e
  obtain ⟨v,st1,e1,e⟩:=Res.bind_inv e
  cases e
  exact ⟨env,α,st,v,st',at',e1,fun w H1 α1 x1 r1 v1=>q _ H1 α1 x1 ((at'.next x1 r1).set v1)⟩
end
open PySem L2 PySem.SeqAt PyProof.Rows
noncomputable def Its (cs:List Nat):L2.It:=⟨fun i _=>i<cs.length,fun i H x H'=>H'=H∧∃ c,cs[i]?=some c∧x=.str ⟨#[c]⟩,fun i _=>cs.length≤i⟩
theorem ya9 {P:Program} {w:World} {K:Frag} {tg:Expr} (it:Addr) (cs:List Nat) (t:Tok) (ty:String)
  (hty:["enumerate", "zip", "dict_itemiterator", "dict_reverseitemiterator", "odict_iterator", "itertools.zip_longest", "itertools.pairwise"].contains ty=false)
  (item:∀ {A:Around} {E:Value→Shared→Prop} {s:Shared} {i c:Nat} {Q:Option Value→Shared→Prop},s.heap.IsStrIter it ty ⟨cs.toArray⟩ t i→(⟨cs.toArray⟩:Str).cps[i]?=some c →
   (∀ h',h'.IsStrIter it ty ⟨cs.toArray⟩ t (i+1)→Heap.SameBut it s.heap h'→Q (some (.str ⟨#[c]⟩ s.toks)) { s with heap:=h',toks:=s.toks+1 })→wpAny (model P w) A (pyNext (.ref it)) Q E s)
  (done:∀ {A:Around} {E:Value→Shared→Prop} {s:Shared} {i:Nat} {Q:Option Value→Shared→Prop},A.handled=none→s.heap.IsStrIter it ty ⟨cs.toArray⟩ t i→(⟨cs.toArray⟩:Str).cps[i]?=none →
   (∀ h',Heap.ExtBut it s.heap h'→Q none { s with heap:=h' })→wpAny (model P w) A (pyNext (.ref it)) Q E s)
  (self:∀ {A:Around} {E:Value→Shared→Prop} {s:Shared} {i:Nat} {Q:Value→Shared→Prop},s.heap.IsStrIter it ty ⟨cs.toArray⟩ t i→Q (.ref it) s→wpAny (model P w) A (pyIter (.ref it)) Q E s) :
  xa1 P w K tg (Its cs) [it] it (fun i h=>h.IsStrIter it ty ⟨cs.toArray⟩ t i) where
 mem:=by simp
 obj:=fun i h st b hb=>by
  have e:b=it:=by simpa using hb
  subst e
  obtain ⟨o,e,c,d⟩:=st
  exact ⟨o,e,fun v z=>by rw [d] at z;cases z⟩
 keep:=fun i h h' st k=>by
  obtain ⟨o,e,c,d⟩:=st
  exact ⟨o,k it (by simp) o e,c,d⟩
 item:=by
  intro X hP hw hK hc i pins s σ H E I hf st hg
  subst hP hw hK
  obtain ⟨f0,f1,f2,f3,f4,f5⟩:=hf it (by simp)
  have hg:i<cs.length:=hg
  refine item st (c:=cs[i]) (by simp [hg]) fun h' st' sb=>?_
  have I1:Inv X pins σ H { s with heap:=h',toks:=s.toks+1 }:=I.turned (fun b o hb e=>(sb.2 b hb).trans e) f0 f1 f3 f4 f5
  obtain ⟨o,e,c,d⟩:=id st'
  exact ⟨_,rfl,ys1 (s:={ s with heap:=h',toks:=s.toks+1 }) e c d hty ⟨.str ⟨#[cs[i]]⟩,H,I1,⟨_,rfl⟩,⟨rfl,cs[i],by simp [hg],rfl⟩,st',fun b hb=>(hf b hb).1⟩⟩
 done:=by
  intro X hP hw hK hc i pins s σ H E I hf st hg
  subst hP hw hK
  obtain ⟨f0,f1,f2,f3,f4,f5⟩:=hf it (by simp)
  have hg:cs.length≤i:=hg
  exact done (I.ok.hd hc) st (by simp [hg]) fun h' eb=>⟨rfl,I.turned (t':=s.toks) (fun b o hb e=>eb b o hb e) f0 f1 f3 f4 f5⟩
 self:=fun _ _ _ _ _ st h=>self st h
noncomputable def iSeq (K:Frag) (tl:TE):TI:=fun σ H R=>tl σ H fun x H1 =>
 (∃ a xs,x=.ref a∧SqL K H1 a xs∧(xs.length≤sizeLine→R (Itl K a) H1))∨(∃ a xs,x=.ref a∧SqT K H1 a xs∧(xs.length≤sizeLine→R (Itt K a) H1))∨∃ cs,x=.str ⟨cs.toArray⟩∧R (Its cs) H1
theorem yT8 {X:Cx} {tg l:Expr} {tl:TE} (hl:PE X l tl):PI X tg l (iSeq X.K tl):=by
 intro pins s σ H R I h
 refine thn (hl pins s σ H _ I h) fun v s1 h_=>?_
 obtain ⟨x,H1,I1,r1,q1⟩:=h_
 rcases q1 with ⟨a,xs,e,hq,q⟩ | ⟨a,xs,e,hq,q⟩ | ⟨cs,e,q⟩
 ·subst e
  cases r1
  obtain ⟨its,rv,p,hz⟩:=I1.list hq
  refine wpAny_pyIter_list p.isList ?_
  refine ⟨s1.heap.objs.size,[s1.heap.objs.size],_,_,H1,rfl,I1.kept (t':=s1.toks) fun b o e=>Heap.get?_push_of_some _ e,yj2 a _,⟨_,Heap.get?_push_size _ rfl,rfl,rfl⟩,fun b hb=>?_,q hz⟩
  have e:b=s1.heap.objs.size:=by simpa using hb
  subst e
  exact I1.fpOk (Nat.le_refl _) (I1.hok.fresh (Nat.le_refl _))
 ·subst e
  cases r1
  obtain ⟨its,rv,p,hz⟩:=I1.tuple hq
  refine wpAny_pyIter_tuple (show s1.heap.IsTuple a its.toArray from p) ?_
  refine ⟨s1.heap.objs.size,[s1.heap.objs.size],_,_,H1,rfl,I1.kept (t':=s1.toks) fun b o e=>Heap.get?_push_of_some _ e,yb8 a _,⟨_,Heap.get?_push_size _ rfl,rfl,rfl⟩,fun b hb=>?_,q hz⟩
  have e:b=s1.heap.objs.size:=by simpa using hb
  subst e
  exact I1.fpOk (Nat.le_refl _) (I1.hok.fresh (Nat.le_refl _))
 ·subst e
  obtain ⟨t,rfl⟩:=r1
  have fp:∀ b∈[s1.heap.objs.size],ye6 X pins H1 b:=fun b hb=>by
   have e:b=s1.heap.objs.size:=by simpa using hb
   subst e
   exact I1.fpOk (Nat.le_refl _) (I1.hok.fresh (Nat.le_refl _))
  cases ha:(⟨cs.toArray⟩:Str).cps.all (· < 128)
  ·refine wpAny_pyIter_wide ha ?_
   exact ⟨s1.heap.objs.size,[s1.heap.objs.size],_,_,H1,rfl,I1.kept (t':=s1.toks) fun b o e=>Heap.get?_push_of_some _ e,
    ya9 _ cs t "str_iterator" (by decide) (fun h1 h2 h3=>wpAny_pyNext_wide_item h1 h2 h3) (fun h0 h1 h2 h3=>wpAny_pyNext_wide_end h0 h1 h2 h3) (fun h1 h2=>wpAny_pyIter_striter_wide h1 h2),⟨_,Heap.get?_push_size _ rfl,rfl,rfl⟩,fp,q⟩
  ·refine wpAny_pyIter_ascii ha ?_
   exact ⟨s1.heap.objs.size,[s1.heap.objs.size],_,_,H1,rfl,I1.kept (t':=s1.toks) fun b o e=>Heap.get?_push_of_some _ e,
    ya9 _ cs t "str_ascii_iterator" (by decide) (fun h1 h2 h3=>wpAny_pyNext_ascii_item h1 h2 h3) (fun h0 h1 h2 h3=>wpAny_pyNext_ascii_end h0 h1 h2 h3) (fun h1 h2=>wpAny_pyIter_striter_ascii h1 h2),⟨_,Heap.get?_push_size _ rfl,rfl,rfl⟩,fp,q⟩
structure WalkAt (K:Frag) (α:Al) (st:za6) (H:Hp) (J:L2.It) (xs:List PV):Prop where
 go:∀ (i:Nat),i<xs.length→J.go i H
 yld:∀ (i:Nat) x w H',xs[i]?=some x→J.yld i H w H'→zj0 H H'∧RP K H' (zf1 α st) x w
 stop:∀ (i:Nat),xs.length≤i→J.stop i H
def Walk (K:Frag) (α:Al) (st:za6) (H:Hp) (J:L2.It) (src:Option (Nat×List PV)) (xs:List PV):Prop:=∀ α' st' H',Lk K α st H α' st' H'→RSt K α' st' H'→zG9 st' src=true→WalkAt K α' st' H' J xs
noncomputable def tI (K:Frag) (C:zb7) (it:It):TI:=fun σ H R=>∃ env α st xs src st',At K α st H env σ∧evalIt C it env st=.ok (xs,src) st' ∧
 ∀ J H' α',Ext K α st H α' st' H'→RSt K α' st' H'→Walk K α' st' H' J src xs→xs.length≤sizeLine→R J H'
noncomputable abbrev SI (X:Cx) (C:zb7) (tg iter:Expr) (it:It):Prop:=PI X tg iter (tI X.K C it)
theorem PI.mono {X:Cx} {tg iter:Expr} {t t':TI} (h:PI X tg iter t) (m:∀ σ H R,t' σ H R→t σ H R):PI X tg iter t':=fun pins s σ H R I q=>h pins s σ H R I (m _ _ _ q)
section
variable {X:Cx} {C:zb7} {W:Nat} {tg l:Expr} {il:E} {pos p:Pos}
theorem yO4 (hl:SE X C l il):SI X C tg l (.of il):=PI.mono (yT8 hl) fun σ H R h_=>by
 obtain ⟨env,α,st,xs,src,st',at',e,q⟩:=h_
 rw [zS8] at e
 obtain ⟨v,st1,e1,e⟩:=Res.bind_inv e
 refine ⟨env,α,st,v,st1,at',e1,fun w H1 α1 x1 r1 v1=>?_⟩
 unfold walkOf at e
 cases v with
 | ref n =>
  cases hv:view st1 (.ref n) with
  | none=>rw [hv] at e;cases e
  | some y =>
   rw [hv] at e
   have hy:∃ ys,y=.lst ys∧zb6 st1 n=some (.lst ys):=by
    have hv:(match zb6 st1 n with | some (.lst xs)=>some (PV.lst xs) | _=>none)=some y:=hv
    cases ho:zb6 st1 n with
    | none=>rw [ho] at hv;cases hv
    | some ob =>
     rw [ho] at hv
     cases ob with
     | lst ys=>cases hv;exact ⟨ys,rfl,rfl⟩
     | dct _=>cases hv
     | dead=>cases hv
   obtain ⟨ys,rfl,ho⟩:=hy
   cases e
   obtain ⟨a,hw,ha⟩:=v1
   obtain ⟨a',vs,h1,h2,h3⟩:=r1.lst n xs ho
   rw [ha] at h1;cases h1
   refine .inl ⟨a,vs,hw,SqL.of h2,fun hz=>q _ _ _ x1 r1 (fun α2 st2 H2 x2 r2 so=>?_) (by rw [h3.length];exact hz)⟩
   have so:view st2 (.ref n)=some (.lst xs):=of_decide_eq_true so
   have ho2:zb6 st2 n=some (.lst xs):=by
    have so:(match zb6 st2 n with | some (.lst xs)=>some (PV.lst xs) | _=>none)=some (.lst xs):=so
    cases ho:zb6 st2 n with
    | none=>rw [ho] at so;cases so
    | some ob =>
     rw [ho] at so
     cases ob with
     | lst ys=>cases so;rfl
     | dct _=>cases so
     | dead=>cases so
   obtain ⟨a',vs2,k1,k2,g2⟩:=r2.lst n xs ho2
   rw [x2.pre n a ha] at k1;cases k1
   have g1:SqL X.K H2 a vs2:=SqL.of k2
   have gl:=g2.length
   refine ⟨fun i hi=>⟨vs2,vs2[i],g1,List.getElem?_eq_getElem (by omega)⟩,fun i x w H' hx ⟨hy1,hy2⟩=>?_,fun i hi=>⟨vs2,g1,by omega⟩⟩
   subst hy1
   obtain ⟨u,hu1,hu2⟩:=g2.get hx
   rw [hy2 vs2 g1] at hu1
   cases hu1
   exact ⟨zj0.refl _,hu2⟩
 | p y =>
  have e:(match zc3 y with | some xs=>Res.ok (xs,none) st1 | none=>.stuck)=Res.ok (xs,src) st':=e
  cases y with
  | tup ys =>
   cases e
   have v1:RP X.K H1 (zf1 α1 st') (.tup xs) w:=v1
   rw [RP] at v1
   obtain ⟨a,vs,rfl,h1,h2⟩:=v1
   refine .inr (.inl ⟨a,vs,rfl,h1,fun hz=>q _ _ _ x1 r1 (fun α2 st2 H2 x2 _ _=>?_) (by rw [h2.length];exact hz)⟩)
   have g1:=x2.tup a vs h1
   have g2:=x2.rps h2
   have gl:=g2.length
   refine ⟨fun i hi=>⟨vs,vs[i],g1,List.getElem?_eq_getElem (by omega)⟩,fun i x w H' hx ⟨hy1,hy2⟩=>?_,fun i hi=>⟨vs,g1,by omega⟩⟩
   subst hy1
   obtain ⟨u,hu1,hu2⟩:=g2.get hx
   rw [hy2 vs g1] at hu1
   cases hu1
   exact ⟨zj0.refl _,hu2⟩
  | lst ys =>
   cases e
   have v1:RP X.K H1 (zf1 α1 st') (.lst xs) w:=v1
   rw [RP] at v1
   obtain ⟨a,vs,rfl,h1,h0,h2⟩:=v1
   refine .inl ⟨a,vs,rfl,h1,fun hz=>q _ _ _ x1 r1 (fun α2 st2 H2 x2 _ _=>?_) (by rw [h2.length];exact hz)⟩
   have g1:=(x2.lst a vs h1 h0).1
   have g2:=x2.rps h2
   have gl:=g2.length
   refine ⟨fun i hi=>⟨vs,vs[i],g1,List.getElem?_eq_getElem (by omega)⟩,fun i x w H' hx ⟨hy1,hy2⟩=>?_,fun i hi=>⟨vs,g1,by omega⟩⟩
   subst hy1
   obtain ⟨u,hu1,hu2⟩:=g2.get hx
   rw [hy2 vs g1] at hu1
   cases hu1
   exact ⟨zj0.refl _,hu2⟩
  | str cs =>
   cases e
   have v1:RP X.K H1 (zf1 α1 st') (.str cs) w:=v1
   rw [RP] at v1
   refine .inr (.inr ⟨cs,v1.1,q _ _ _ x1 r1 (fun α2 st2 H2 x2 _ _=>?_) (by simpa using v1.2)⟩)
   refine ⟨fun i hi=>by simpa [Its] using hi,fun i x w H' hx ⟨hy1,c,hc,hw⟩=>?_,fun i hi=>by simpa [Its] using hi⟩
   subst hy1
   refine ⟨zj0.refl _,?_⟩
   rw [List.getElem?_map,hc] at hx
   cases hx
   rw [RP]
   exact ⟨hw,by show 1≤sizeLine;decide⟩
  | _=>cases e
theorem yr9 {a:Expr} {ia:E} (hg:Gl X "range") (hm:X.mg "range" = none) (ha:SE X C a ia) (hs:starEach [a] X.env=[(false,eval a X.env)]):SI X C tg (.Call (.Name "range" p) [a] [] pos) (.range ia) :=
 PI.mono (yi2 hg hm (yk4 ha yA8 hs) hs) fun σ H R h_=>by
  obtain ⟨env,α,st,xs,src,st',at',e,q⟩:=h_
  rw [yb7] at e
  obtain ⟨v,y,st1,e1,hv,e⟩:=Res.bindV_inv e
  refine ⟨env,α,st,[v],st1,at',by rw [zp9,e1];rfl,fun ws H1 α1 x1 r1 pr=>?_⟩
  cases pr with
  | cons h t =>
   cases t
   cases y with
   | int i =>
    have e:(if -1000000≤i∧i≤SZ then Res.ok ((List.range i.toNat).map (fun k:Nat=>PV.int (k:Int)),none) st1 else .stuck)=Res.ok (xs,src) st':=e
    by_cases hc:-1000000≤i∧i≤SZ
    ·rw [if_pos hc] at e
     cases e
     have hi:=(h.view r1 hv).int
     subst hi
     obtain ⟨c1,c2⟩:=hc
     unfold SZ at c2
     have hzl:((List.range i.toNat).map (fun k:Nat=>PV.int (k:Int))).length≤sizeLine:=by
      have e:sizeLine=16777216:=by decide
      rw [List.length_map,List.length_range,e]
      omega
     refine ⟨i,rfl,by omega,by omega,q _ _ _ x1 r1 (fun α2 st2 H2 x2 _ _=>?_) hzl⟩
     refine ⟨fun k hk=>by simpa [Itr] using hk,fun k x w H' hx ⟨hy1,hy2⟩=>?_,fun k hk=>by simpa [Itr] using hk⟩
     subst hy1 hy2
     refine ⟨zj0.refl _,?_⟩
     have hk:k<i.toNat:=by
      have:=(List.getElem?_eq_some_iff.mp hx).1
      simpa using this
     rw [List.getElem?_map,List.getElem?_range hk] at hx
     cases hx
     rw [RP]
     simp
    ·rw [if_neg hc] at e;cases e
   | _=>cases e
noncomputable def tG (K:Frag) (t:Tg):TG:=fun v σ H Q=>∃ env α st x env',At K α st H env σ∧RP K H (zf1 α st) x v∧zo2 t (.p x) st env=some env'∧∀ σ',At K α st H env' σ'→Q σ' H
noncomputable abbrev SG (X:Cx) (tg:Expr) (t:Tg):Prop:=PG X tg (tG X.K t)
theorem PG.mono {t t':TG} (h:PG X tg t) (m:∀ v σ H Q,t' v σ H Q→t v σ H Q):PG X tg t':=fun pins s σ H v u Q I r q=>h pins s σ H v u Q I r (m _ _ _ _ q)
theorem yB1 {i:Nat} {x:Str} (hN:X.N.Nodup) (hi:X.N[i]?=some x) (hx:Loc X.env.scope x) (hf:X.fn x=true∨X.env.scope.names.lookup x=some .local):SG X (.Name x pos) (.name i) :=
 PG.mono (ym9 hN hi hx hf) fun v σ H Q h_=>by
  obtain ⟨env,α,st,x,env',at',rp,e,q⟩:=h_
  cases e
  exact q _ (at'.set rp)
theorem yR8 {iter:Expr} {body:List Stmt} {it:It} {t:Tg} {ib:List S} (hp:PassesOwn (model X.prog X.w) X.A X.env X.xe) (hc:X.calm=true) (hi:SI X C tg iter it) (hg:SG X tg t) (hb:SSs X C W body ib)
  (hs:∀ x,foldedSetIterable iter X.env x=pure x):SS X C W (.For tg iter body [] pos) (.for t it ib) :=
 PS.mono (yN3 hp hc hi hg hb hs) fun D σ H h_=>by
  obtain ⟨env,α,st,fl,st',at',e,q⟩:=h_
  rw [yU6] at e
  obtain ⟨⟨xs,src⟩,st1,e1,e⟩:=Res.bind_inv e
  refine ⟨env,α,st,xs,src,st1,at',e1,fun J H1 α1 x1 r1 wk _=>?_⟩
  have e:zn3 (execSs C W ib) t src xs env st1=.ok fl st':=e
  let Pv:Nat→L2.St→Hp→Prop:=fun i σ H2=>∃ env2 α2 st2,At X.K α2 st2 H2 env2 σ∧Ext X.K α1 st1 H1 α2 st2 H2∧zn3 (execSs C W ib) t src (xs.drop i) env2 st2=.ok fl st'
  refine ⟨fun i m σ H2=>m=xs.length - i∧i≤xs.length∧Pv i σ H2,⟨xs.length,by simp,Nat.zero_le _,env,α1,st1,at'.next x1 r1,.refl,e⟩,?_⟩
  rintro i m σ2 H2 ⟨rfl,hil,env2,α2,st2,at2,x2,e2⟩
  by_cases hlt:i<xs.length
  ·rw [List.drop_eq_getElem_cons hlt,zn3] at e2
   by_cases so:zG9 st2 src=true
   ·rw [if_pos so] at e2
    have wa:=wk α2 st2 H2 x2.lk at2.rs so
    refine .inr ⟨wa.go i hlt,Pv (i+1),fun σ3 H3 p3=>⟨xs.length - (i+1),by omega,rfl,hlt,p3⟩,fun w H3 hy=>?_⟩
    obtain ⟨s3,rp⟩:=wa.yld i xs[i] w H3 (List.getElem?_eq_getElem hlt) hy
    have x3:Ext X.K α2 st2 H2 α2 st2 H3:=.of_same at2.rs s3
    have at3:=at2.next x3 (at2.rs.same s3)
    cases hbt:zo2 t (.p xs[i]) st2 env2 with
    | none=>rw [hbt] at e2;cases e2
    | some env3 =>
     rw [hbt] at e2
     obtain ⟨f,st4,e4,e2⟩:=Res.bind_inv e2
     refine ⟨env2,α2,st2,xs[i],env3,at3,rp,hbt,fun σ3 at3'=>?_⟩
     refine ⟨env3,α2,st2,f,st4,at3',e4,?_⟩
     cases f with
     | next env4=>exact fun σ5 H5 α5 x5 at5=>⟨env4,α5,st4,at5,x2.trans (x3.trans x5),e2⟩
     | ret v =>
      cases e2
      exact fun w H5 α5 x5 r5 rv=>q w H5 α5 (x1.trans (x2.trans (x3.trans x5))) r5 rv
   ·rw [if_neg so] at e2;cases e2
  ·have hie:xs.drop i=[]:=List.drop_eq_nil_of_le (by omega)
   rw [hie,zn3] at e2
   by_cases so:zG9 st2 src=true
   ·rw [if_pos so] at e2
    cases e2
    exact .inl ⟨(wk α2 st' H2 x2.lk at2.rs so).stop i (by omega),q σ2 H2 α2 (x1.trans x2) at2⟩
   ·rw [if_neg so] at e2;cases e2
end
open PySem L2 PySem.SeqAt PyProof.Rows
theorem zz5 {env:PySem.Env} (f:(Str×NameKind)→List (Str×Addr)→Sem (ForInStep (List (Str×Addr))))
  (h1:∀ x r c,x.2=.free→env.cells.lookup x.1=some c→f x r=pure (.yield ((x.1,c)::r))) (h2:∀ x r,x.2≠.free→f x r=pure (.yield r)) :
  ∀ (l:List (Str×NameKind)) (acc:List (Str×Addr)),(∀ x∈l,x.2=.free→∃ c,env.cells.lookup x.1=some c)→(∀ x c,acc.lookup x=some c→env.cells.lookup x=some c) →
   ∃ cl,forIn l acc f=pure cl∧(∀ x c,cl.lookup x=some c→env.cells.lookup x=some c)∧(∀ x∈l,x.2=.free→∃ c,cl.lookup x.1=some c)∧∀ x,(∃ c,acc.lookup x=some c)→∃ c,cl.lookup x=some c
 | [],acc,_,ha=>⟨acc,rfl,ha,fun x hx=>absurd hx (by simp),fun x h=>h⟩
 | y::r,acc,hl,ha=>by
  by_cases hy:y.2=.free
  ·obtain ⟨c,hc⟩:=hl y List.mem_cons_self hy
   have ha':∀ x c',((y.1,c)::acc).lookup x=some c'→env.cells.lookup x=some c':=fun x c' e=>by
    rw [List.lookup_cons] at e
    split at e
    ·rename_i hx
     cases e
     have:x=y.1:=by simpa using hx
     rw [this];exact hc
    ·exact ha x c' e
   obtain ⟨cl,g1,g2,g3,g4⟩:=zz5 f h1 h2 r ((y.1,c)::acc) (fun x hx=>hl x (List.mem_cons_of_mem _ hx)) ha'
   have keep:∀ x,(∃ c',acc.lookup x=some c')→∃ c',((y.1,c)::acc).lookup x=some c':=fun x h_=>by
    obtain ⟨c',e⟩:=h_
    rw [List.lookup_cons]
    split
    ·exact ⟨c,rfl⟩
    ·exact ⟨c',e⟩
   refine ⟨cl,?_,g2,fun x hx hf=>?_,fun x hx=>g4 x (keep x hx)⟩
   ·rw [List.forIn_cons,h1 y acc c hy hc]
    exact g1
   ·rcases List.mem_cons.mp hx with e | hx
    ·subst e
     exact g4 _ ⟨c,by rw [List.lookup_cons];simp⟩
    ·exact g3 x hx hf
  ·obtain ⟨cl,g1,g2,g3,g4⟩:=zz5 f h1 h2 r acc (fun x hx=>hl x (List.mem_cons_of_mem _ hx)) ha
   refine ⟨cl,?_,g2,fun x hx hf=>?_,g4⟩
   ·rw [List.forIn_cons,h2 y acc hy]
    exact g1
   ·rcases List.mem_cons.mp hx with e | hx
    ·subst e;exact absurd hf hy
    ·exact g3 x hx hf
theorem zH7 {env:PySem.Env} {scope:Scope} (h:∀ x∈scope.names,x.2=.free→∃ c,env.cells.lookup x.1=some c) :
  ∃ cl,closureFor scope env=pure cl∧(∀ x c,cl.lookup x=some c→env.cells.lookup x=some c)∧∀ x∈scope.names,x.2=.free→∃ c,cl.lookup x.1=some c:=by
 unfold closureFor
 obtain ⟨cl,g1,g2,g3,_⟩:=zz5 (env:=env) (fun (x:Str×NameKind) (r:List (Str×Addr))=>(match x with
  | (name,kind)=>if (kind == .free)=true then (do
    let c ← cellOf env name
    pure (ForInStep.yield ((name,c)::r))) else pure (ForInStep.yield r):Sem (ForInStep (List (Str×Addr)))))
  (fun x r c hx hc=>by
   obtain ⟨n,k⟩:=x
   simp only at hx hc ⊢
   subst hx
   unfold cellOf
   rw [hc]
   rfl)
  (fun x r hx=>by
   obtain ⟨n,k⟩:=x
   simp only at hx ⊢
   rw [if_neg (by simpa using hx)])
  scope.names [] h (fun x c e=>by simp at e)
 refine ⟨cl,?_,g2,g3⟩
 show (forIn scope.names [] _ >>= fun cs=>pure cs)=pure cl
 rw [show (forIn scope.names ([]:List (Str×Addr)) _)=pure cl from g1]
 rfl
noncomputable def zd5 (X:Cx) (scope:Scope) (N:List Str) (cl:List (Str×Addr)) (s₀:Shared) (H₀:Hp) (ex:List Addr) (pn:List (Addr×Obj)):Cx where
 prog:=X.prog
 w:=X.w
 K:=X.K
 mg:=X.mg
 base:=X.base
 A:=X.A
 N:=N
 s₀:=s₀
 H₀:=H₀
 env:=compEnvC scope cl s₀.heap.objs.size X.env
 outer:=X.stack
 stack:=X.stack
 ex:=ex
 fn:=fun _=>false
 calm:=X.calm
 pn:=pn
 xe:=fun _ _=>False
section
variable {X:Cx} {pins:List (Addr×Obj)} {σ:L2.St} {H:Hp} {s:Shared} {scope:Scope} {N:List Str} {cl:List (Str×Addr)} {fp:List Addr} {caps:List Nat}
theorem zZ8 {h1:Heap} {σ':L2.St} (I:Inv X pins σ H s) (hk:scope.kind=.function) (hcl:∀ x c,cl.lookup x=some c→X.env.cells.lookup x=some c) (hclf:∀ x,(compEnvC scope cl s.heap.objs.size X.env).kindOf x=some .cell∨(compEnvC scope cl s.heap.objs.size X.env).kindOf x=some .free→∃ c,cl.lookup x=some c)
  (hfp:∀ b∈fp,ye6 X pins H b) (hfs:∀ b∈fp,b<s.heap.objs.size) (hn:h1.Ns s.heap.objs.size fun _=>none) (hkept:∀ b o,s.heap.get? b=some o→h1.get? b=some o) (hl:σ'.length=N.length)
  (hσ:∀ (j:Nat) x v,N[j]?=some x→σ'[j]?=some (some v)→∃ (i:Nat),X.N[i]?=some x∧σ[i]?=some (some v)∧(X.env.kindOf x=some .cell∨X.env.kindOf x=some .free)∧((compEnvC scope cl s.heap.objs.size X.env).kindOf x=some .cell∨(compEnvC scope cl s.heap.objs.size X.env).kindOf x=some .free)∧Vis X.env.scope x) :
  Inv (zd5 X scope N cl s H fp (X.pn++pins)) [] σ' H { s with heap:=h1 }:=by
 have nofr:∀ {b:Addr},b≠X.env.locals→b∉X.fs→b∉frs X.stack:=fun h1 h2 z=>by
  rcases List.mem_cons.mp (I.stkSub _ z) with e | e
  ·exact h1 e
  ·exact h2 e
 refine ⟨⟨I.ok.mod,hk,I.ok.glob,I.ok.blt,Nat.le_refl _,fun x y c e1 e2=>I.ok.inj x y c (hcl x c e1) (hcl y c e2),hclf,fun x c e _=>(by cases e),I.ok.hd,I.ok.frames,.inl rfl,fun b hb=>?_,I.bs,Nat.le_trans I.ok.bsz I.sz,fun b o e hb=>?_,fun b hb=>?_,I.stack,I.stkFree⟩,
  rfl,I.bare,Un.kept hkept,⟨_,hn,fun j x v e1 e2 e3=>?_⟩,fun x c e=>?_,I.hok.fresh (Nat.le_refl _),fun x c e=>I.freeC x c (hcl x c e),fun p hp=>?_,I.hok.kept hkept,hl⟩
 ·exact ⟨Nat.ne_of_lt (hfs b hb),fun x c e=>(hfp b hb).2.2.2.2.1 x c (hcl x c e)⟩
 ·have hb:b∈fp:=hb
  obtain ⟨_,_,_,f3,_⟩:=hfp b hb
  rcases f3 with z | z
  ·exact I.ok.noex b o e z
  ·exact absurd (Nat.lt_of_lt_of_le (Heap.lt_size e) (Nat.le_trans I.ok.bsz z)) (Nat.lt_irrefl _)
 ·have hb:b∈fp:=hb
  obtain ⟨_,f1,f2,_⟩:=hfp b hb
  exact nofr f1 f2
 ·obtain ⟨i,a1,a2,a3,a4,a5⟩:=hσ j x v e1 e2
  obtain ⟨m,hm,hlk⟩:=I.loc
  obtain ⟨u,r,l⟩:=hlk i x v a1 a2 a5
  refine ⟨u,r,.inr ⟨a4,?_⟩⟩
  rcases l with ⟨k,_⟩ | ⟨_,c,e,z⟩
  ·rcases a3 with a3 | a3 <;> rw [k] at a3 <;> cases a3
  ·obtain ⟨c',hc'⟩:=hclf x a4
   have:=hcl x c' hc'
   rw [e] at this
   cases this
   obtain ⟨o,ho,hd⟩:=z
   exact ⟨c,hc',o,hkept c o ho,hd⟩
 ·obtain ⟨v,o,ho,hd⟩:=I.cell x c (hcl x c e)
  exact ⟨v,o,hkept c o ho,hd⟩
 ·have hp:p∈(X.pn++pins)++[]:=hp
  rw [List.append_nil] at hp
  obtain ⟨e,n,ne,nf,d⟩:=I.pin p hp
  exact ⟨hkept _ _ e,n,Nat.ne_of_lt (Heap.lt_size e),nofr ne nf,d⟩
end
open PySem L2 PySem.SeqAt PyProof.Rows
section
variable {prog:Program} {w:World} {A:Around} {R:Result→Shared→Prop} {s:Shared}
theorem zN3 {elt target iter:Expr} {ifs:List Expr} {scope:Scope} {pos:Pos} {it acc:Value} {env:PySem.Env} (I:Nat→Shared→Prop)
  (turn:∀ n s,I n s→wpAny (model prog w) A (pyNext it) (fun r s₁=>match r with
   | none=>R (.ok .next) s₁
   | some v=>wpAny (model prog w) A (letOwnedTupleGo target it v) (fun _ s₁'=>wpAny (model prog w) A (assign target env v) (fun _ s₂ =>
     wpAny (model prog w) A (forIn ifs true fun c r=>if r=true then do let ok ← isTrue c env (eval c env);pure (ForInStep.yield ok) else pure (ForInStep.yield r)) (fun ok s₃ =>
      if ok=true then wpAny (model prog w) A (eval elt env) (fun x s₄ =>
       wpAny (model prog w) A (call (.builtin "list.append") [acc,x]) (fun _ s₅=>∃ m,m<n∧I m s₅) (fun _ _=>False) s₄) (fun _ _=>False) s₃
      else ∃ m,m<n∧I m s₃) (fun _ _=>False) s₂) (fun _ _=>False) s₁') (fun _ _=>False) s₁) (fun _ _=>False) s)
  (n:Nat) (h:I n s):codeAny (model prog w) A (.compLoop (.ListComp elt [⟨target,iter,ifs,0⟩] scope pos) 0 it acc env) R s:=by
 refine codeAny_loop rfl I (fun n s hI=>?_) n h
 show wpAny _ A ((compTurn (.ListComp elt [⟨target,iter,ifs,0⟩] scope pos) 0 it acc env).onRaise (fun x=>do noteFrame x env;theTreesLotGoes x)) _ _ s
 refine wpAny_noted ?_
 rw [compTurn_list]
 refine wpAny_bind (wpAny_standAt (wpAny_bind (wpAny_mono (turn n s hI) (fun r s₁ h₁=>?_) fun _ _ h'=>h'.elim)))
 cases r with
 | none=>exact wpAny_pure h₁
 | some v =>
  refine wpAny_bind (wpAny_mono h₁ (fun _ s₁' h₁'=>?_) fun _ _ h'=>h'.elim)
  refine wpAny_bind (wpAny_mono h₁' (fun _ s₂ h₂=>wpAny_bind (wpAny_mono h₂ (fun ok s₃ h₃=>?_) fun _ _ h'=>h'.elim)) fun _ _ h'=>h'.elim)
  cases ok with
  | false=>exact wpAny_pure ⟨rfl,h₃⟩
  | true =>
   exact wpAny_bind (wpAny_bind (wpAny_mono h₃ (fun x s₄ h₄=>wpAny_bind (wpAny_mono h₄ (fun _ s₅ h₅=>wpAny_pure (wpAny_pure ⟨rfl,h₅⟩)) fun _ _ h'=>h'.elim)) fun _ _ h'=>h'.elim))
end
noncomputable def capsσ (caps:List Nat) (n:Nat) (σ:L2.St):L2.St:=caps.map (fun i=>(σ[i]?).join)++List.replicate n none
noncomputable def yi3 (K:Frag) (caps:List Nat) (n:Nat) (wi:TI) (g:TG) (tc:TT) (te:TE):TE:=fun σ H Q=>wi σ H fun J H1=>∀ D,H1 D=none→K.lookup D=none→∃ W:Nat→Nat→L2.St→Hp→List V→Prop,
 (∃ m,W 0 m (capsσ caps n σ) (upd H1 D (.lst [])) []) ∧
 ∀ i m σ' H' ys,W i m σ' H' ys→H' D=some (.lst ys)∧((J.stop i H'∧Q (.ref D) H')∨(J.go i H'∧ys.length<sizeLine∧∀ x H2,J.yld i H' x H2→g x σ' H2 fun σ2 H3=>tc σ2 H3 fun b H4 =>
  if b=true then te σ2 H4 fun y H5=>H5 D=some (.lst ys)∧∃ m',m'<m∧W (i+1) m' σ2 (upd H5 D (.lst (ys++[y]))) (ys++[y]) else ∃ m',m'<m∧W (i+1) m' σ2 H4 ys))
def PTs (X:Cx) (ifs:List Expr) (t:TT):Prop :=
 ∀ (pins:List (Addr×Obj)) (s:Shared) (σ:L2.St) (H:Hp) (Q:Bool→Hp→Prop),Inv X pins σ H s→t σ H Q →
  wpAny (model X.prog X.w) X.A (forIn ifs true fun c r=>if r=true then do let ok ← isTrue c X.env (eval c X.env);pure (ForInStep.yield ok) else pure (ForInStep.yield r)) (TP X pins σ Q) X.xe s
theorem yJ7 {X:Cx}:PTs X [] (fun _ H Q=>Q true H):=fun pins s σ H Q I h=>wpAny_tests_nil ⟨H,I,h⟩
theorem yK2 {X:Cx} {c:Expr} {t:TT} (h:PT X c t):PTs X [c] t:=fun pins s σ H Q I q=>wpAny_tests_one (h pins s σ H Q I q)
open PySem L2 PySem.SeqAt PyProof.Rows
structure zv4 (X:Cx) (scope:Scope) (N:List Str) (caps:List Nat) (n:Nat):Prop where
 kind:scope.kind=.function
 names:∀ x∈scope.names,x.2=.local→scope.names.lookup x.1=some .local
 cell:∀ x∈scope.names,x.2≠.cell
 free:∀ x∈scope.names,x.2=.free→X.env.kindOf x.1=some .cell∨X.env.kindOf x.1=some .free
 look:∀ x,scope.names.lookup x=some .free→∃ k,(relabel scope X.env).names.lookup x=some k∧(k=.cell∨k=.free)
 back:∀ x,(relabel scope X.env).names.lookup x=some .cell∨(relabel scope X.env).names.lookup x=some .free→(x,NameKind.free)∈scope.names
 cap:∀ (j i:Nat),caps[j]?=some i→∃ x,N[j]?=some x∧X.N[i]?=some x∧scope.names.lookup x=some .free
 len:N.length=caps.length+n
theorem zI4 {X:Cx} {pins:List (Addr×Obj)} {σ σ':L2.St} {H3 H':Hp} {s3 s1:Shared} {h':Heap} {scope:Scope} {N:List Str} {cl:List (Str×Addr)} {fp:List Addr} (I3:Inv X pins σ H3 s3)
  (I':Inv (zd5 X scope N cl s3 H3 fp (X.pn++pins)) [] σ' H' s1) (hsb:Heap.SameBut s3.heap.objs.size s1.heap h') (hfp:∀ b∈fp,ye6 X pins H3 b):Inv X pins σ H' { s1 with heap:=h' }:=by
 have old:∀ b o,s3.heap.get? b=some o→∀ o',s1.heap.get? b=some o'→h'.get? b=some o':=fun b o e o' e'=>(hsb.2 b (Nat.ne_of_lt (Heap.lt_size e))).trans e'
 have B:=I'.base
 have free:H' s3.heap.objs.size=none:=I'.free
 refine I3.call' (s':={ s1 with heap:=h' }) (ch:=fp) I'.os ⟨fun b o e n hb hx=>?_,fun b o e n hb hx=>?_,fun b o e n hx=>B.free b o e n hx,fun b o e hx=>?_,B.tups,B.frzs,B.tbls⟩ (fun b u e=>?_) I'.bare (fun b hb=>?_)
 ·exact old b o e _ (B.keep b o e n hb hx)
 ·obtain ⟨sl,e1⟩:=B.slot b o e n hb hx
  exact ⟨sl,old b o e _ e1⟩
 ·obtain ⟨o',e1⟩:=B.there b o e hx
  exact ⟨o',old b o e _ e1⟩
 ·refine (I'.hok b u e).stay (fun c v hc q=>(hsb.2 c ?_).trans q) (fun _ q=>q) fun _ _ q=>q
  rintro rfl
  rcases hc with z | z
  ·rw [← z,free] at e;cases e
  ·rw [free] at z;cases z
 ·obtain ⟨f0,f1,f2,f3,f4,f5⟩:=hfp b hb
  exact ⟨f3,f1,f4,f5⟩
section
variable {X:Cx} {elt iter tg:Expr} {ifs:List Expr} {scope:Scope} {pos:Pos} {N:List Str} {caps:List Nat} {n:Nat} {wi:TI} {g:TG} {tc:TT} {te:TE}
theorem zl3 {l:List (Str×NameKind)} {x:Str} {k:NameKind} (h:l.lookup x=some k):(x,k)∈l:=PySem.mem_of_lookup h
theorem yE7 (hcalm:X.calm=true) (ok:zv4 X scope N caps n) (hi:PI X tg iter wi)
  (hg:∀ cl s₀ H₀ ex pn,PG (zd5 X scope N cl s₀ H₀ ex pn) tg g) (ht:∀ cl s₀ H₀ ex pn,PTs (zd5 X scope N cl s₀ H₀ ex pn) ifs tc) (he:∀ cl s₀ H₀ ex pn,PE (zd5 X scope N cl s₀ H₀ ex pn) elt te)
  (hs:∀ x,foldedSetIterable iter X.env x=pure x):PE X (.ListComp elt [⟨tg,iter,ifs,0⟩] scope pos) (yi3 X.K caps n wi g tc te):=by
 intro pins s σ H Q I h
 have hcells:∀ x∈scope.names,x.2=.free→∃ c,X.env.cells.lookup x.1=some c:=fun x hx hf=>I.ok.has x.1 (ok.free x hx hf)
 obtain ⟨cl,hclo,hcl,hclf⟩:=zH7 hcells
 rw [eval_ListComp]
 refine wpAny_comprehension_free (use:=none) rfl hs hclo ok.kind ok.names (thn (hi pins s σ H _ I h) fun xv s1 h1=>thn h1 fun itv s2 h2=>?_)
 obtain ⟨it,fp,tn,J,H2,rfl,I2,T,st2,f2,q2⟩:=h2
 have hKD:X.K.lookup s2.heap.objs.size=none:=by
  cases e:X.K.lookup s2.heap.objs.size with
  | none=>rfl
  | some o=>exact absurd (Heap.lt_size (I2.kIn _ _ e)) (Nat.lt_irrefl _)
 obtain ⟨W,⟨m0,w0⟩,turn⟩:=q2 s2.heap.objs.size I2.fresh hKD
 refine wpAny_newObj_type ?_
 have I3:Inv X pins σ (upd H2 s2.heap.objs.size (.lst [])) { s2 with heap:=s2.heap.push { cls:=.type "list", data:=.seq ([]:List Value).toArray },toks:=s2.toks }:=I2.lnew .nil (by decide)
 generalize hD:s2.heap.objs.size=D at *
 generalize hs3:({ s2 with heap:=s2.heap.push { cls:=.type "list", data:=.seq ([]:List Value).toArray },toks:=s2.toks }:Shared)=s3 at I3
 refine wpAny_newFunctionEnv ok.cell (by intro y hy;simp at hy) (fun h1 hns hsb=>?_) ok.kind
 have e3:s3.heap.objs.size=D+1:=by rw [← hs3,← hD];exact Heap.size_push _ _
 have hkept:∀ b o,s3.heap.get? b=some o→h1.get? b=some o:=fun b o e=>(hsb.2 b (Nat.ne_of_lt (Heap.lt_size e))).trans (Heap.get?_push_of_some _ e)
 have h23:∀ b o,s2.heap.get? b=some o→s3.heap.get? b=some o:=fun b o e=>by rw [← hs3];exact Heap.get?_push_of_some _ e
 have hfD:∀ b∈fp,b<D:=fun b hb=>by
  obtain ⟨o,e,_⟩:=T.obj 0 _ st2 b hb
  rw [← hD];exact Heap.lt_size e
 have f3:∀ b∈fp,ye6 X pins (upd H2 D (.lst [])) b:=fun b hb=>⟨by rw [ze3 (Nat.ne_of_lt (hfD b hb))];exact (f2 b hb).1,(f2 b hb).2⟩
 have kX:∀ x,X.env.kindOf x=X.env.scope.names.lookup x:=fun x=>rfl
 have I4:Inv (zd5 X scope N cl s3 (upd H2 D (.lst [])) fp (X.pn++pins)) [] (capsσ caps n σ) (upd H2 D (.lst [])) { s3 with heap:=h1 }:=by
  refine zZ8 I3 ok.kind hcl (fun x hx=>hclf (x,.free) (ok.back x hx) rfl) f3 (fun b hb=>by rw [e3];exact Nat.lt_succ_of_lt (hfD b hb)) (by simpa using hns) hkept ?_ (fun j x v e1 e2=>?_)
  ·unfold capsσ
   rw [List.length_append,List.length_map,List.length_replicate,ok.len]
  ·have hj:j<caps.length:=by
    by_cases hj:j<caps.length
    ·exact hj
    ·unfold capsσ at e2
     rw [List.getElem?_append_right (by simpa using hj),List.getElem?_replicate] at e2
     split at e2 <;> cases e2
   unfold capsσ at e2
   rw [List.getElem?_append_left (by simpa using hj),List.getElem?_map,List.getElem?_eq_getElem hj] at e2
   obtain ⟨x',a1,a2,a3⟩:=ok.cap j caps[j] (List.getElem?_eq_getElem hj)
   rw [e1] at a1;cases a1
   have fr:=ok.free (x,.free) (zl3 a3) rfl
   obtain ⟨k,b1,b2⟩:=ok.look x a3
   refine ⟨caps[j],a2,?_,fr,?_,?_⟩
   ·have e2:(σ[caps[j]]?).join=some v:=Option.some.inj e2
    cases hσ:σ[caps[j]]? with
    | none=>rw [hσ] at e2;cases e2
    | some o=>rw [hσ] at e2;exact congrArg some e2
   ·rcases b2 with rfl | rfl
    ·exact .inl b1
    ·exact .inr b1
   ·rcases fr with z | z
    ·exact .inr (.inl z)
    ·exact .inr (.inr z)
 have fpc:∀ {H':Hp},(∀ b∈fp,H' b=none)→∀ b∈fp,ye6 (zd5 X scope N cl s3 (upd H2 D (.lst [])) fp (X.pn++pins)) [] H' b:=fun {H'} hn b hb=>by
  obtain ⟨f0,f1,f2',f3',f4,f5⟩:=f3 b hb
  refine ⟨hn b hb,Nat.ne_of_lt (show b<s3.heap.objs.size by rw [e3];exact Nat.lt_succ_of_lt (hfD b hb)),fun z=>?_,.inl hb,fun x c e=>f4 x c (hcl x c e),fun p hp=>f5 p (by have hp:p∈(X.pn++pins)++[]:=hp;rwa [List.append_nil] at hp)⟩
  rcases List.mem_cons.mp (I3.stkSub _ z) with e | e
  ·exact f1 e
  ·exact f2' e
 have st4:tn 0 h1:=T.keep 0 _ _ st2 fun b _ o e=>hkept b o (h23 b o e)
 have loop:∀ s4:Shared,s4={ s3 with heap:=h1 }→codeAny (model X.prog X.w) X.A (.compLoop (.ListComp elt [⟨tg,iter,ifs,0⟩] scope pos) 0 (.ref it) (.ref D) (compEnvC scope cl s3.heap.objs.size X.env))
   (compPost (model X.prog X.w) X.A X.xe none (EP X pins σ Q) (.ref D) s3.heap.objs.size) s4:=by
  rintro s4 rfl
  refine zN3 (fun m s'=>∃ i σ' H' ys,Inv (zd5 X scope N cl s3 (upd H2 D (.lst [])) fp (X.pn++pins)) [] σ' H' s'∧tn i s'.heap∧(∀ b∈fp,H' b=none)∧W i m σ' H' ys) ?_ m0 ⟨0,_,_,[],I4,st4,fun b hb=>(f3 b hb).1,w0⟩
  rintro m s5 ⟨i,σ5,H5,ys,I5,st5,fr5,w5⟩
  obtain ⟨hDl,tu⟩:=turn i m σ5 H5 ys w5
  rcases tu with ⟨stop,qn⟩ | ⟨go,hz,step⟩
  ·refine thn (T.done (zd5 X scope N cl s3 (upd H2 D (.lst [])) fp (X.pn++pins)) rfl rfl rfl hcalm i [] s5 σ5 H5 (fun _ _=>False) I5 (fpc fr5) st5 stop) fun r s6 h_=>?_
   obtain ⟨hr,I6⟩:=h_
   subst hr
   obtain ⟨mm,hmm,_⟩:=I6.loc
   exact ⟨mm,hmm,fun h' hb'=>⟨.ref D,H5,zI4 I3 I6 hb' f3,rfl,qn⟩⟩
  ·refine thn (T.item (zd5 X scope N cl s3 (upd H2 D (.lst [])) fp (X.pn++pins)) rfl rfl rfl hcalm i [] s5 σ5 H5 (fun _ _=>False) I5 (fpc fr5) st5 go) fun r s6 h_=>?_
   obtain ⟨u,hr,h6⟩:=h_
   subst hr
   refine thn h6 fun _ s7 h_=>?_
   obtain ⟨x,H7,I7,r7,y7,st7,fr7⟩:=h_
   have I7':=I7.pinned (fpc fr7) (T.obj _ _ st7)
   refine thn (hg _ _ _ _ _ _ s7 σ5 H7 x u _ I7' r7 (step x H7 y7)) fun _ s8 h_=>?_
   obtain ⟨σ8,H8,I8,q8⟩:=h_
   refine thn (ht _ _ _ _ _ _ s8 σ8 H8 _ I8 q8) fun b s9 h_=>?_
   obtain ⟨H9,I9,q9⟩:=h_
   have pinsK:∀ {σ7:L2.St} {Hx:Hp} {sx:Shared},Inv (zd5 X scope N cl s3 (upd H2 D (.lst [])) fp (X.pn++pins)) ([]++zI7 fp s7.heap) σ7 Hx sx→tn (i+1) sx.heap∧∀ b∈fp,Hx b=none:=fun Ix=>by
    refine ⟨T.keep _ _ _ st7 fun b hb o e=>(Ix.pin (b,o) (List.mem_append_right _ (List.mem_append_right _ (zl0 hb e)))).1,fun b hb=>?_⟩
    obtain ⟨o,e,d⟩:=T.obj _ _ st7 b hb
    exact (Ix.pin (b,o) (List.mem_append_right _ (List.mem_append_right _ (zl0 hb e)))).2.1
   cases b with
   | false =>
    obtain ⟨m',hm,w9⟩:=q9
    exact ⟨m',hm,i+1,σ8,H9,ys,I9.unpinned,(pinsK I9).1,(pinsK I9).2,w9⟩
   | true =>
    refine thn (he _ _ _ _ _ _ s9 σ8 H9 _ I9 q9) fun yv s10 h_=>?_
    obtain ⟨y,H10,I10,r10,hD10,m',hm,w10⟩:=h_
    refine thn (zE0 _ s10 σ8 H10 (.ref D) [y] (.ref D) [yv] (fun v Hx=>v=.non∧Hx=upd H10 D (.lst (ys++[y]))) I10 rfl (.cons r10 .nil) ⟨D,ys,y,rfl,rfl,hD10,hz,rfl,rfl⟩) fun _ s11 h_=>?_
    obtain ⟨_,H11,I11,_,_,e11⟩:=h_
    subst e11
    exact ⟨m',hm,i+1,σ8,_,ys++[y],I11.unpinned,(pinsK I11).1,(pinsK I11).2,w10⟩
 exact codeAny_compStart_list (loop _ rfl) (T.self _ 0 _ _ _ st4 (loop _ rfl))
end
open PySem L2 PySem.SeqAt PyProof.Rows
section
variable {X:Cx} {C:zb7} {elt iter tg:Expr} {ielt:E} {it:It} {t:Tg} {scope:Scope} {pos:Pos} {N:List Str} {caps:List Nat} {n:Nat}
noncomputable def Al.hold (α:Al) (D:Addr):Al:=⟨α.adr,fun a=>a=D∨α.rsv a⟩
theorem zO2 {α:Al} {st:za6} {D a:Addr}:zf1 (α.hold D) st a↔a=D∨zf1 α st a:=by
 unfold zf1 Al.hold
 simp only
 constructor
 ·rintro ((h | h) | h)
  ·exact .inl h
  ·exact .inr (.inl h)
  ·exact .inr (.inr h)
 ·rintro (h | h | h)
  ·exact .inl (.inl h)
  ·exact .inl (.inr h)
  ·exact .inr h
theorem zF6 {K:Frag} {α:Al} {st:za6} {H:Hp} {D:Addr} {o:HO} (hD:H D=none) (hK:K.lookup D=none) :
  (∀ a vs,SqT K H a vs→SqT K (upd H D o) a vs)∧∀ a vs,SqL K H a vs→¬ zf1 α st a→SqL K (upd H D o) a vs∧¬ zf1 (α.hold D) st a:=by
 have s:=zf8 hD o
 refine ⟨fun a vs h=>SqT.same s h,fun a vs h n=>⟨zj0.seq s h,fun l=>?_⟩⟩
 rcases zO2.mp l with e | e
 ·subst e
  rcases h with (h | ⟨_,h⟩) | ⟨_,_,_,h,_⟩
  ·rw [hD] at h;cases h
  ·rw [hD] at h;cases h
  ·rw [hK] at h;cases h
 ·exact n e
theorem ys8 {K:Frag} {α:Al} {st:za6} {H:Hp} {D:Addr} {vs:List V} (r:RSt K α st H) (hD:H D=none) (hK:K.lookup D=none):RSt K (α.hold D) st (upd H D (.lst vs)):=by
 obtain ⟨mt,ml⟩:=zF6 (α:=α) (st:=st) (o:=.lst vs) hD hK
 have s:=zf8 hD (.lst vs)
 refine ⟨r.len,fun m xs h=>?_,fun m kvs h=>?_,r.inj,fun a h=>?_,fun m a o h1 h2 h3 hr=>?_,fun a h=>?_⟩
 ·obtain ⟨a,ws,h1,h2,h3⟩:=r.lst m xs h
  exact ⟨a,ws,h1,s _ _ h2,RPs.mono mt ml _ _ h3⟩
 ·obtain ⟨a,ws,h1,h2,h3⟩:=r.dct m kvs h
  exact ⟨a,ws,h1,s _ _ h2,RKV.mono mt ml _ _ h3⟩
 ·rcases zO2.mp h with e | e
  ·subst e;exact hK
  ·exact r.nk a e
 ·rcases hr with e | e
  ·subst e
   rcases r.live (.inr ⟨m,o,h1,h2,h3⟩) with ⟨_,z⟩ | ⟨_,z⟩ <;> rw [hD] at z <;> cases z
  ·exact r.dis m a o h1 h2 h3 e
 ·rcases h with e | e
  ·subst e;exact ⟨vs,zd7⟩
  ·obtain ⟨ws,h1⟩:=r.rsv a e
   exact ⟨ws,s _ _ h1⟩
theorem zQ4 {K:Frag} {α:Al} {st:za6} {H:Hp} {D:Addr} {ys zs:List V} (hr:α.rsv D) (hH:H D=some (.lst ys)) (hK:K.lookup D=none) :
  (∀ a vs,SqT K H a vs→SqT K (upd H D (.lst zs)) a vs)∧∀ a vs,SqL K H a vs→¬ zf1 α st a→SqL K (upd H D (.lst zs)) a vs∧¬ zf1 α st a:=by
 refine ⟨fun a vs h=>?_,fun a vs h n=>⟨?_,n⟩⟩
 ·rcases h with (h | ⟨o,h⟩) | h
  ·exact .inl (.inl (by rw [ze3 (by rintro rfl;rw [hH] at h;cases h)];exact h))
  ·exact .inl (.inr ⟨o,by rw [ze3 (by rintro rfl;rw [hH] at h;cases h)];exact h⟩)
  ·exact .inr h
 ·have ne:a≠D:=by rintro rfl;exact n (.inl hr)
  rcases h with (h | ⟨o,h⟩) | h
  ·exact .inl (.inl (by rw [ze3 ne];exact h))
  ·exact .inl (.inr ⟨o,by rw [ze3 ne];exact h⟩)
  ·exact .inr h
theorem yu0 {K:Frag} {α:Al} {st:za6} {H:Hp} {D:Addr} {ys zs:List V} (r:RSt K α st H) (hr:α.rsv D) (hH:H D=some (.lst ys)):RSt K α st (upd H D (.lst zs)):=by
 have hK:=r.nk D (.inl hr)
 obtain ⟨mt,ml⟩:=zQ4 (K:=K) (α:=α) (st:=st) (zs:=zs) hr hH hK
 have ne:∀ {m:Nat} {a:Addr} {o:zl8},α.adr[m]?=some a→zb6 st m=some o→o≠.dead→a≠D:=fun h1 h2 h3 e=>r.dis _ _ _ h1 h2 h3 (e▸hr)
 refine ⟨r.len,fun m xs h=>?_,fun m kvs h=>?_,r.inj,r.nk,r.dis,fun a h=>?_⟩
 ·obtain ⟨a,ws,h1,h2,h3⟩:=r.lst m xs h
  exact ⟨a,ws,h1,by rw [ze3 (ne h1 h (by intro z;cases z))];exact h2,RPs.mono mt ml _ _ h3⟩
 ·obtain ⟨a,ws,h1,h2,h3⟩:=r.dct m kvs h
  exact ⟨a,ws,h1,by rw [ze3 (ne h1 h (by intro z;cases z))];exact h2,RKV.mono mt ml _ _ h3⟩
 ·by_cases e:a=D
  ·subst e;exact ⟨zs,zd7⟩
  ·obtain ⟨ws,h1⟩:=r.rsv a h
   exact ⟨ws,by rw [ze3 e];exact h1⟩
end
open PySem L2 PySem.SeqAt PyProof.Rows
noncomputable def Al.as (α:Al) (ρ:Addr→Prop):Al:=⟨α.adr,ρ⟩
theorem zx9 {α:Al} {ρ:Addr→Prop} {st:za6} {a:Addr} (hs:∀ a,ρ a→α.rsv a) (h:zf1 (α.as ρ) st a):zf1 α st a:=by
 rcases h with h | h
 ·exact .inl (hs a h)
 ·exact .inr h
theorem RSt.as {K:Frag} {α:Al} {ρ:Addr→Prop} {st:za6} {H:Hp} (r:RSt K α st H) (hs:∀ a,ρ a→α.rsv a):RSt K (α.as ρ) st H:=by
 have ml:∀ a vs,SqL K H a vs→¬ zf1 α st a→SqL K H a vs∧¬ zf1 (α.as ρ) st a:=fun a vs h n=>⟨h,fun l=>n (zx9 hs l)⟩
 refine ⟨r.len,fun m xs h=>?_,fun m kvs h=>?_,r.inj,fun a h=>r.nk a (zx9 hs h),fun m a o h1 h2 h3 h4=>r.dis m a o h1 h2 h3 (hs a h4),fun a h=>r.rsv a (hs a h)⟩
 ·obtain ⟨a,ws,h1,h2,h3⟩:=r.lst m xs h
  exact ⟨a,ws,h1,h2,RPs.mono (fun _ _ h=>h) ml _ _ h3⟩
 ·obtain ⟨a,ws,h1,h2,h3⟩:=r.dct m kvs h
  exact ⟨a,ws,h1,h2,RKV.mono (fun _ _ h=>h) ml _ _ h3⟩
section
variable {X:Cx} {C:zb7} {elt iter tg:Expr} {ifs:List Expr} {ielt:E} {it:It} {t:Tg} {scope:Scope} {pos:Pos} {N:List Str} {caps:List Nat} {n:Nat}
theorem yV3 {K:Frag} {α:Al} {st:za6} {H:Hp} {env:Env} {σ:L2.St} (a:At K α st H env σ):At K α st H (zw9 caps n env) (capsσ caps n σ):=by
 refine ⟨by simp [zw9,capsσ],a.rs,fun j v h=>?_⟩
 unfold zw9 at h
 unfold capsσ
 by_cases hj:j<caps.length
 ·rw [List.getElem?_append_left (by simpa using hj),List.getElem?_map,List.getElem?_eq_getElem hj] at h ⊢
  have h:(env[caps[j]]?).join=some v:=Option.some.inj h
  cases he:env[caps[j]]? with
  | none=>rw [he] at h;cases h
  | some o =>
   rw [he] at h
   have h:o=some v:=h
   subst h
   obtain ⟨w,h1,h2⟩:=a.env _ v he
   exact ⟨w,by show some ((σ[caps[j]]?).join)=some (some w);rw [h1];rfl,h2⟩
 ·rw [List.getElem?_append_right (by simpa using hj),List.getElem?_replicate] at h
  split at h <;> cases h
noncomputable def tTs (K:Frag) (C:zb7):Option E→TT
 | none=>fun _ H Q=>Q true H
 | some c=>tT K C c
noncomputable def yc1 (C:zb7):Option E→Option (Env→za6→Res Val)
 | none=>none
 | some c=>some (evalE C c)
theorem yt3 {cond:Option E} {src:Option (Nat×List PV)} {xs:List PV} {env:Env} {st:za6} {acc:List PV}:zr2 C ielt cond t src xs env st acc=compLoop (evalE C ielt) (yc1 C cond) t src xs env st acc:=by cases cond <;> rfl
theorem ya8 {cond:Option E} {σ:L2.St} {H:Hp} {Q:VK} {env:Env} {α:Al} {st st1 st':za6} {xs zs:List PV} {src:Option (Nat×List PV)} (at':At X.K α st H env σ) (e1:evalIt C it env st=.ok (xs,src) st1) (e2:zr2 C ielt cond t src xs (zw9 caps n env) st1 []=.ok zs st')
  (fin:∀ D ys α1 st1 H1 α2 H2,Ext X.K α st H α1 st1 H1→Lk X.K α1 st1 H1 α2 st' H2→RSt X.K α2 st' H2→α2.rsv=(α1.hold D).rsv→¬ α1.rsv D→H2 D=some (.lst ys)→RPs X.K H2 (zf1 α2 st') zs ys→Q (.ref D) H2) :
  yi3 X.K caps n (tI X.K C it) (tG X.K t) (tTs X.K C cond) (tP X.K C ielt) σ H Q:=by
 refine ⟨env,α,st,xs,src,st1,at',e1,fun J H1 α1 x1 r1 wk hz D hD hK=>?_⟩
 rw [yt3] at e2
 have at1:=at'.next x1 r1
 have nD:¬ α1.rsv D:=fun h=>by obtain ⟨vs,z⟩:=r1.rsv D h;rw [hD] at z;cases z
 refine ⟨fun i m σ' H' ys=>m=xs.length - i∧i≤xs.length∧H' D=some (.lst ys)∧∃ env2 α2 st2 acc,At X.K α2 st2 H' env2 σ'∧(α2.rsv=(α1.hold D).rsv)∧Lk X.K α1 st1 H1 α2 st2 H'∧RPs X.K H' (zf1 α2 st2) acc ys∧acc.length≤i ∧
  compLoop (evalE C ielt) (yc1 C cond) t src (xs.drop i) env2 st2 acc=.ok zs st',⟨xs.length,by simp,Nat.zero_le _,zd7,zw9 caps n env,α1.hold D,st1,[],?_,rfl,?_,by rw [RPs],Nat.le_refl _,e2⟩,?_⟩
 ·have rh:=ys8 (vs:=[]) at1.rs hD hK
  obtain ⟨mt,ml⟩:=zF6 (α:=α1) (st:=st1) (o:=.lst []) hD hK
  have a2:At X.K (α1.hold D) st1 (upd H1 D (.lst [])) env σ:=⟨at1.len,rh,fun i v h=>by
   obtain ⟨w,h1,h2⟩:=at1.env i v h
   refine ⟨w,h1,?_⟩
   cases v with
   | p x=>exact RP.mono mt ml _ _ h2
   | ref k=>exact h2⟩
  exact yV3 a2
 ·obtain ⟨mt,ml⟩:=zF6 (K:=X.K) (α:=α1) (st:=st1) (o:=.lst []) hD hK
  exact ⟨fun _ _ h=>h,mt,ml,fun a h=>.inr h,fun a h=>by rw [ze3 (by rintro rfl;exact nD h)]⟩
 rintro i m σ2 H2 ys ⟨rfl,hil,hDl,env2,α2,st2,acc,at2,hrs,lk,rps,hacc,e3⟩
 have hrD:α2.rsv D:=by rw [hrs];exact .inl rfl
 refine ⟨hDl,?_⟩
 -- the walk as it stands here: seen without the list under way
 have sub1:∀ a,α1.rsv a→α2.rsv a:=lk.sub
 have exB:Ext X.K α1 st1 H1 (α2.as α1.rsv) st2 H2:=⟨lk.pre,lk.tup,fun a vs h nn=>let ⟨h1,n1⟩:=lk.lst a vs h nn;⟨h1,fun l=>n1 (zx9 sub1 l)⟩,rfl,lk.raw⟩
 have rsB:RSt X.K (α2.as α1.rsv) st2 H2:=at2.rs.as sub1
 by_cases hlt:i<xs.length
 ·rw [List.drop_eq_getElem_cons hlt,compLoop] at e3
  by_cases so:zG9 st2 src=true
  ·rw [if_pos so] at e3
   have wa:=wk α2 st2 H2 lk at2.rs so
   have lyl:acc.length=ys.length:=rps.length
   refine .inr ⟨wa.go i hlt,by omega,fun w H3 hy=>?_⟩
   obtain ⟨s3,rp⟩:=wa.yld i xs[i] w H3 (List.getElem?_eq_getElem hlt) hy
   have x3:Ext X.K α2 st2 H2 α2 st2 H3:=.of_same at2.rs s3
   have at3:=at2.next x3 (at2.rs.same s3)
   have lk3:=lk.step x3
   have rps3:=x3.rps rps
   have hD3:H3 D=some (.lst ys):=s3 _ _ hDl
   cases hbt:zo2 t (.p xs[i]) st2 env2 with
   | none=>rw [hbt] at e3;cases e3
   | some env3 =>
    rw [hbt] at e3
    refine ⟨env2,α2,st2,xs[i],env3,at3,rp,hbt,fun σ3 at3'=>?_⟩
    -- behind the test
    have go:∀ {b:Bool} {st4:za6} {H4:Hp} {α4:Al},Ext X.K α2 st2 H3 α4 st4 H4→RSt X.K α4 st4 H4 →
      (if b then (evalE C ielt env3 st4).bindP fun y st5=>compLoop (evalE C ielt) (yc1 C cond) t src (xs.drop (i+1)) env3 st5 (acc++[y]) else compLoop (evalE C ielt) (yc1 C cond) t src (xs.drop (i+1)) env3 st4 acc)=.ok zs st' →
      if b=true then tP X.K C ielt σ3 H4 (fun y H5=>H5 D=some (.lst ys)∧∃ m',m'<xs.length - i∧(m'=xs.length - (i+1)∧i+1≤xs.length∧(upd H5 D (.lst (ys++[y]))) D=some (.lst (ys++[y]))∧∃ env2 α2 st2 acc,At X.K α2 st2 (upd H5 D (.lst (ys++[y]))) env2 σ3∧(α2.rsv=(α1.hold D).rsv)∧Lk X.K α1 st1 H1 α2 st2 (upd H5 D (.lst (ys++[y])))∧RPs X.K (upd H5 D (.lst (ys++[y]))) (zf1 α2 st2) acc (ys++[y])∧acc.length≤i+1 ∧
        compLoop (evalE C ielt) (yc1 C cond) t src (xs.drop (i+1)) env2 st2 acc=.ok zs st'))
      else ∃ m',m'<xs.length - i∧(m'=xs.length - (i+1)∧i+1≤xs.length∧H4 D=some (.lst ys)∧∃ env2 α2 st2 acc,At X.K α2 st2 H4 env2 σ3∧(α2.rsv=(α1.hold D).rsv)∧Lk X.K α1 st1 H1 α2 st2 H4∧RPs X.K H4 (zf1 α2 st2) acc ys∧acc.length≤i+1 ∧
        compLoop (evalE C ielt) (yc1 C cond) t src (xs.drop (i+1)) env2 st2 acc=.ok zs st'):=by
     intro b st4 H4 α4 x4 r4 e4
     have at4:=at3'.next x4 r4
     have hD4:H4 D=some (.lst ys):=(x4.raw D hrD).trans hD3
     cases b with
     | false=>exact ⟨_,by omega,rfl,hlt,hD4,env3,α4,st4,acc,at4,x4.rsv.trans hrs,lk3.step x4,x4.rps rps3,by omega,e4⟩
     | true =>
      obtain ⟨y0,st5,e5,e6⟩:=Res.bindP_inv e4
      refine ⟨env3,α4,st4,_,st5,at4,e5,fun y H5 α5 x5 r5 rv=>?_⟩
      have hr5:α5.rsv D:=by rw [x5.rsv,x4.rsv];exact hrD
      have hD5:H5 D=some (.lst ys):=(x5.raw D (by rw [x4.rsv];exact hrD)).trans hD4
      have at5:=at4.next x5 r5
      have lk5:=(lk3.step x4).step x5
      obtain ⟨mt,ml⟩:=zQ4 (K:=X.K) (α:=α5) (st:=st5) (zs:=ys++[y]) hr5 hD5 (r5.nk D (.inl hr5))
      refine ⟨hD5,_,by omega,rfl,hlt,zd7,env3,α5,st5,acc++[y0],⟨at5.len,yu0 r5 hr5 hD5,fun k v h=>?_⟩,x5.rsv.trans (x4.rsv.trans hrs),⟨lk5.pre,fun a vs h=>mt a vs (lk5.tup a vs h),fun a vs h nn=>let ⟨h1,n1⟩:=lk5.lst a vs h nn;ml a vs h1 n1,lk5.sub,fun a h=>?_⟩,?_,by simp;omega,e6⟩
      ·obtain ⟨w',h1,h2⟩:=at5.env k v h
       refine ⟨w',h1,?_⟩
       cases v with
       | p z=>exact RP.mono mt ml _ _ h2
       | ref _=>exact h2
      ·rw [ze3 (by rintro rfl;exact nD h)]
       exact lk5.raw a h
      ·exact RPs.mono mt ml _ _ ((x5.rps (x4.rps rps3)).snoc rv)
    cases cond with
    | none=>exact go (b:=true) .refl at3.rs e3
    | some c =>
     obtain ⟨b,st4,e4,e5⟩:=Res.bindB_inv e3
     exact ⟨env3,α2,st2,b,st4,at3',e4,fun H4 α4 x4 r4=>go x4 r4 e5⟩
  ·rw [if_neg so] at e3;cases e3
 ·have hie:xs.drop i=[]:=List.drop_eq_nil_of_le (by omega)
  rw [hie,compLoop] at e3
  by_cases so:zG9 st2 src=true
  ·rw [if_pos so] at e3
   cases e3
   exact .inl ⟨(wk α2 st' H2 lk at2.rs so).stop i (by omega),fin D ys α1 st1 H1 α2 H2 x1 lk at2.rs hrs nD hDl rps⟩
  ·rw [if_neg so] at e3;cases e3
theorem ys6 {K:Frag} {α α1 α2:Al} {st st1 st':za6} {H H1 H2:Hp} {D:Addr} {ys:List V} {zs:List PV} (x1:Ext K α st H α1 st1 H1) (lk:Lk K α1 st1 H1 α2 st' H2) (r2:RSt K α2 st' H2) (hrs:α2.rsv=(α1.hold D).rsv) (nD:¬ α1.rsv D) (hDl:H2 D=some (.lst ys)) (rps:RPs K H2 (zf1 α2 st') zs ys) :
  Ext K α st H (α2.as α1.rsv) st' H2∧RSt K (α2.as α1.rsv) st' H2∧RV K (α2.as α1.rsv) st' H2 (.p (.lst zs)) (.ref D):=by
 have hrD:α2.rsv D:=by rw [hrs];exact .inl rfl
 have sub1:∀ a,α1.rsv a→α2.rsv a:=lk.sub
 refine ⟨x1.trans ⟨lk.pre,lk.tup,fun a vs h nn=>let ⟨h1,n1⟩:=lk.lst a vs h nn;⟨h1,fun l=>n1 (zx9 sub1 l)⟩,rfl,lk.raw⟩,r2.as sub1,?_⟩
 rw [RV,RP]
 refine ⟨D,ys,rfl,SqL.of hDl,fun l=>?_,RPs.mono (fun _ _ h=>h) (fun a vs h nn=>⟨h,fun l=>nn (zx9 sub1 l)⟩) _ _ rps⟩
 rcases l with l | ⟨k,o,l1,l2,l3⟩
 ·exact nD l
 ·exact r2.dis k D o l1 l2 l3 hrD
theorem zP2 {cond:Option E} {σ:L2.St} {H:Hp} {Q:VK} (h:tP X.K C (.comp false ielt t it cond caps n) σ H Q):yi3 X.K caps n (tI X.K C it) (tG X.K t) (tTs X.K C cond) (tP X.K C ielt) σ H Q:=by
 obtain ⟨env,α,st,v,st',at',e,q⟩:=h
 rw [yl2] at e
 obtain ⟨⟨xs,src⟩,st1,e1,e⟩:=Res.bind_inv e
 obtain ⟨zs,st2,e2,e⟩:=Res.bind_inv e
 simp only [mk,Bool.false_eq_true,if_false] at e
 cases e
 refine ya8 at' e1 e2 fun D ys α1 st1 H1 α2 H2 x1 lk r2 hrs nD hDl rps=>?_
 obtain ⟨a,b,c⟩:=ys6 x1 lk r2 hrs nD hDl rps
 exact q _ H2 _ a b c
theorem yK6 {cond:Option E} (hcalm:X.calm=true) (ok:zv4 X scope N caps n) (hi:SI X C tg iter it)
  (hg:∀ cl s₀ H₀ ex pn,SG (zd5 X scope N cl s₀ H₀ ex pn) tg t) (ht:∀ cl s₀ H₀ ex pn,PTs (zd5 X scope N cl s₀ H₀ ex pn) ifs (tTs X.K C cond)) (he:∀ cl s₀ H₀ ex pn,SE (zd5 X scope N cl s₀ H₀ ex pn) C elt ielt)
  (hs:∀ x,foldedSetIterable iter X.env x=pure x):SE X C (.ListComp elt [⟨tg,iter,ifs,0⟩] scope pos) (.comp false ielt t it cond caps n) :=
 PE.mono (yE7 (g:=tG X.K t) (te:=tP X.K C ielt) hcalm ok hi hg ht he hs) fun _ _ _ h=>zP2 h
end
open PySem L2 PySem.SeqAt PyProof.Rows
noncomputable def spF (K:Frag) (P:List FD) (W d k:Nat) (np:Nat):Sp:=fun vs H Q _=>vs.length=np∧∃ α st us v st',RSt K α st H∧Paired (RV K α st H) us vs∧zi1 P W d k us st=.ok v st' ∧
 ∀ w H' α',Ext K α st H α' st' H'→RSt K α' st' H'→RV K α' st' H' v w→Q w H'
noncomputable def Al.cut (α:Al) (k:Nat):Al:=⟨α.adr.take k,α.rsv⟩
theorem zl1 {st:za6} {k n:Nat} {o:zl8} (h:zb6 (st.take k) n=some o):n<k∧zb6 st n=some o:=by
 unfold zb6 at h ⊢
 rw [List.getElem?_take] at h
 split at h
 ·exact ⟨by assumption,h⟩
 ·cases h
theorem zA9 {l:List Addr} {k n:Nat} {a:Addr} (h:(l.take k)[n]?=some a):l[n]?=some a:=by
 rw [List.getElem?_take] at h
 split at h
 ·exact h
 ·cases h
theorem zC0 {α:Al} {st:za6} {k:Nat} {a:Addr} (h:zf1 (α.cut k) (st.take k) a):zf1 α st a:=by
 rcases h with h | ⟨n,o,h1,h2,h3⟩
 ·exact .inl h
 ·exact .inr ⟨n,o,zA9 h1,(zl1 h2).2,h3⟩
theorem RSt.cut {K:Frag} {α:Al} {st:za6} {H:Hp} (r:RSt K α st H) (k:Nat):RSt K (α.cut k) (st.take k) H:=by
 have ml:∀ a vs,SqL K H a vs→¬ zf1 α st a→SqL K H a vs∧¬ zf1 (α.cut k) (st.take k) a:=fun a vs h n=>⟨h,fun l=>n (zC0 l)⟩
 have up:∀ {n:Nat} {a:Addr},n<k→α.adr[n]?=some a→(α.adr.take k)[n]?=some a:=fun hn h=>by rw [List.getElem?_take,if_pos hn];exact h
 refine ⟨?_,fun m xs h=>?_,fun m kvs h=>?_,fun n m a o o' hne h1 h2 h3 h4=>r.inj n m a o o' hne (zA9 h1) (zA9 h2) (zl1 h3).2 (zl1 h4).2,fun a h=>r.nk a (zC0 h),fun m a o h1 h2 h3=>r.dis m a o (zA9 h1) (zl1 h2).2 h3,r.rsv⟩
 ·show (α.adr.take k).length=(st.take k).length
  rw [List.length_take,List.length_take,r.len]
 ·obtain ⟨hm,h⟩:=zl1 h
  obtain ⟨a,ws,h1,h2,h3⟩:=r.lst m xs h
  exact ⟨a,ws,up hm h1,h2,RPs.mono (fun _ _ h=>h) ml _ _ h3⟩
 ·obtain ⟨hm,h⟩:=zl1 h
  obtain ⟨a,ws,h1,h2,h3⟩:=r.dct m kvs h
  exact ⟨a,ws,up hm h1,h2,RKV.mono (fun _ _ h=>h) ml _ _ h3⟩
theorem Ext.cut {K:Frag} {α α':Al} {st st':za6} {H H':Hp} (e:Ext K α st H α' st' H') (hl:α.adr.length=st.length):Ext K α st H (α'.cut st.length) (st'.take st.length) H':=by
 refine ⟨fun n a h=>?_,e.tup,fun a vs h n=>let ⟨h1,n1⟩:=e.lst a vs h n;⟨h1,fun l=>n1 (zC0 l)⟩,e.rsv,e.raw⟩
 have hn:n<st.length:=by rw [← hl];exact (List.getElem?_eq_some_iff.mp h).1
 show (α'.adr.take st.length)[n]?=some a
 rw [List.getElem?_take,if_pos hn]
 exact e.pre n a h
theorem zy8 {α β:Type} {F:α→β→Prop} {a:List α} {b:List β} (h:Paired F a b):a.length=b.length:=Paired.length h
theorem yw1 {K:Frag} {α:Al} {st:za6} {H:Hp} {N:List Str}:∀ {us:List Val} {vs:List V},RSt K α st H→Paired (RV K α st H) us vs→At K α st H (us.map some++List.replicate (N.length - us.length) none) (L2.start N vs):=by
 intro us vs r p
 have hl:=zy8 p
 refine ⟨by unfold L2.start;simp [hl],r,fun i v h=>?_⟩
 have get:∀ {us:List Val} {vs:List V} {i:Nat} {v:Val},Paired (RV K α st H) us vs→us[i]?=some v→∃ w,vs[i]?=some w∧RV K α st H v w:=by
  intro us vs i v p
  induction p generalizing i with
  | nil=>intro h;simp at h
  | cons q t ih =>
   intro h
   cases i with
   | zero=>simp at h;subst h;exact ⟨_,rfl,q⟩
   | succ i=>simpa using ih (by simpa using h)
 by_cases hi:i<us.length
 ·rw [List.getElem?_append_left (by simpa using hi),List.getElem?_map,List.getElem?_eq_getElem hi] at h
  cases h
  obtain ⟨w,h1,h2⟩:=get p (List.getElem?_eq_getElem hi)
  refine ⟨w,?_,h2⟩
  unfold L2.start
  rw [List.getElem?_append_left (by rw [List.length_map];lia),List.getElem?_map,h1]
  rfl
 ·rw [List.getElem?_append_right (by simpa using hi),List.getElem?_replicate] at h
  split at h <;> cases h
section
variable {P:Program} {w:World} {K:Frag} {mg:Str→Option Value} {base:Heap} {PR:List FD} {W d k:Nat}
theorem zg9 {f:Addr} {fd:FuncData} {ps:List Str}:zs8 P w K mg base CX0 0 f fd ps (spF K PR W 0 k ps.length):=by
 refine ⟨fun vs H Q E h=>h.1,fun A outer s H args us vs Q E _ _ _ _ h=>?_⟩
 obtain ⟨_,α,st,us',v,st',_,_,e,_⟩:=h
 cases e
theorem yH2 {x qual:Str} {st:Stmt} {f:Addr} {fd:FuncData} {N ps:List Str} {ib:List S} (F:Fun K x qual st f fd) (S:ze6 N ps (za5 st)) (hP:PR[k]?=some ⟨ps.length,N.length,ib⟩)
  (hb:∀ (cdv:Value) (A:Around) (outer:List PySem.Env) (s:Shared) (H:Hp) (E:XK),zp3 d (A.deeper (envOfC qual (za5 st) s.heap.objs.size f cdv)) →
   SSs (zx8 CX0 P w K mg base N qual (za5 st) f cdv A outer s H E).nox (zi1 PR W d) W (zb0 st) ib):zs8 P w K mg base CX0 (d+1) f fd ps (spF K PR W (d+1) k ps.length):=by
 refine F.ok S (fun vs H Q E h=>h.1) fun cdv A outer s H vs Q E hr h=>⟨_,hb cdv A outer s H E hr,?_⟩
 obtain ⟨hl,α,st0,us,v,st',r,pr,e,q⟩:=h
 have hus:us.length=ps.length:=by rw [zy8 pr,hl]
 rw [zf0 hP (by exact hus)] at e
 obtain ⟨fl,st1,e1,e2⟩:=Res.bind_inv e
 have at0:=yw1 (N:=N) r pr
 rw [hus] at at0
 refine ⟨_,α,st0,fl,st1,at0,e1,?_⟩
 cases fl with
 | next env' =>
  intro σ' H' α' x1 at1
  cases e2
  exact q _ H' (α'.cut st0.length) (x1.cut r.len) (at1.rs.cut _) (by rw [RV,RP])
 | ret u =>
  intro w1 H' α' x1 r1 rv
  rw [zN1] at e2
  cases e2
  cases v with
  | p y=>exact q _ H' (α'.cut st0.length) (x1.cut r.len) (r1.cut _) (RP.mono (fun _ _ h=>h) (fun a vs h n=>⟨h,fun l=>n (zC0 l)⟩) _ _ rv)
  | ref m =>
   unfold yB4 at q
   by_cases hm:m<st0.length
   ·simp only [hm,if_true] at q
    obtain ⟨a,h1,h2⟩:=rv
    exact q _ H' (α'.cut st0.length) (x1.cut r.len) (r1.cut _) ⟨a,h1,by show (α'.adr.take st0.length)[m]?=some a;rw [List.getElem?_take,if_pos hm];exact h2⟩
   ·simp only [hm,if_false] at q
    exact q _ H' α' x1 r1 rv
end
section
variable {X:Cx} {PR:List FD} {W d k:Nat} {e:Expr} {es:List Expr} {irs:List E} {pos p:Pos}
theorem yI1 {x:Str} {f:Addr} {fd:FuncData} {ps:List Str} (F:zs8 X.prog X.w X.K X.mg X.base CX0 d f fd ps (spF X.K PR W d k ps.length)) (hr:zp3 d X.A) (hg:Gl X x) (hm:X.mg x=some (.ref f)) (hk:keepIn X.K (.ref f)=true) (hb:Binds X.K fd ps [])
  (ha:SA X (zi1 PR W d) (e::es) irs) (hn:irs.length=ps.length) (hdb:(x==("__debug__" : Str))=false) (he:starEach (e::es) X.env=(false,eval e X.env)::starEach es X.env) (hpl:(backTo pos (starEach es X.env)).any (·.1)=false) :
  SE X (zi1 PR W d) (.Call (.Name x p) (e::es) [] pos) (.call k irs) :=
 PE.mono (yJ6 F hr hg hm hk hb .nil xc5 ha hdb he hpl) fun σ H Q h_=>by
  obtain ⟨env,α,st,v,st',at',e,q⟩:=h_
  rw [yE3] at e
  obtain ⟨vs,st1,e1,e⟩:=Res.bind_inv e
  refine ⟨env,α,st,vs,st1,at',e1,fun ws H1 α1 x1 r1 pr=>?_⟩
  show spF X.K PR W d k ps.length (ws++[]) H1 Q E0
  rw [List.append_nil]
  have lv:∀ {irs:List E} {env:Env} {st st':za6} {vs:List Val},evalEs (zi1 PR W d) irs env st=.ok vs st'→vs.length=irs.length:=by
   intro irs
   induction irs with
   | nil=>intro env st st' vs h;rw [zs5] at h;cases h;rfl
   | cons i r ih =>
    intro env st st' vs h
    rw [zp9] at h
    obtain ⟨x,st1,e1,h⟩:=Res.bind_inv h
    obtain ⟨ys,st2,e2,h⟩:=Res.bind_inv h
    cases h
    simp [ih e2]
  exact ⟨by rw [← zy8 pr,lv e1,hn],α1,st1,vs,v,st',r1,pr,e,fun w H2 α2 x2 r2 rv=>q w H2 α2 (x1.trans x2) r2 rv⟩
end
open PySem L2 PySem.SeqAt PyProof.Rows
section
variable {K:Frag} {α:Al} {st:za6} {H:Hp} {n:Nat} {a:Addr} {o o':zl8}
theorem zh9 {m:Nat} {x:zl8} (h:zb6 (st.set n o') m=some x):(m=n∧x=o')∨(m≠n∧zb6 st m=some x):=by
 by_cases hm:m=n
 ·subst hm
  have hl:m<st.length:=by have:=zm2 h;simpa using this
  rw [zo1 hl] at h
  cases h
  exact .inl ⟨rfl,rfl⟩
 ·rw [zr4 hm] at h
  exact .inr ⟨hm,h⟩
theorem zW8 (ho:zb6 st n=some o) (h1:o≠.dead) (h2:o'≠.dead) {b:Addr}:zf1 α (st.set n o') b↔zf1 α st b:=by
 constructor
 ·rintro (h | ⟨m,x,e1,e2,e3⟩)
  ·exact .inl h
  ·rcases zh9 e2 with ⟨rfl,rfl⟩ | ⟨_,e2⟩
   ·exact .inr ⟨m,o,e1,ho,h1⟩
   ·exact .inr ⟨m,x,e1,e2,e3⟩
 ·rintro (h | ⟨m,x,e1,e2,e3⟩)
  ·exact .inl h
  ·by_cases hm:m=n
   ·subst hm
    exact .inr ⟨m,o',e1,zo1 (zm2 ho),h2⟩
   ·exact .inr ⟨m,x,e1,by rw [zr4 hm];exact e2,e3⟩
theorem zG0 {h':HO} (r:RSt K α st H) (ha:α.adr[n]?=some a) (ho:zb6 st n=some o) (h1:o≠.dead) (h2:o'≠.dead):Ext K α st H α (st.set n o') (upd H a h'):=by
 have la:zf1 α st a:=.inr ⟨n,o,ha,ho,h1⟩
 have nt:∀ b vs,SqT K H b vs→SqT K (upd H a h') b vs:=fun b vs h=>by
  rcases h with (h | ⟨x,h⟩) | h
  ·refine .inl (.inl ?_)
   rw [ze3]
   ·exact h
   ·rintro rfl
    rcases r.live la with ⟨_,z⟩ | ⟨_,z⟩ <;> rw [z] at h <;> cases h
  ·refine .inl (.inr ⟨x,?_⟩)
   rw [ze3]
   ·exact h
   ·rintro rfl
    rcases r.live la with ⟨_,z⟩ | ⟨_,z⟩ <;> rw [z] at h <;> cases h
  ·exact .inr h
 refine ⟨fun _ _ h=>h,nt,fun b vs h nl=>⟨?_,fun l=>nl ((zW8 ho h1 h2).mp l)⟩,rfl,fun b hb=>?_⟩
 ·have ne:b≠a:=by rintro rfl;exact nl la
  rcases h with (h | ⟨x,h⟩) | h
  ·exact .inl (.inl (by rw [ze3 ne];exact h))
  ·exact .inl (.inr ⟨x,by rw [ze3 ne];exact h⟩)
  ·exact .inr h
 ·rw [ze3]
  rintro rfl
  exact r.dis n _ o ha ho h1 hb
theorem zL8 {h':HO} (r:RSt K α st H) (ha:α.adr[n]?=some a) (ho:zb6 st n=some o) (h1:o≠.dead) (h2:o'≠.dead)
  (hl:∀ xs,o'=.lst xs→∃ vs,h'=.lst vs∧RPs K H (zf1 α st) xs vs) (hd:∀ kvs,o'=.dct kvs→∃ l,h'=.dK l∧RKV K H (zf1 α st) kvs l):RSt K α (st.set n o') (upd H a h'):=by
 have ex:=zG0 (h':=h') r ha ho h1 h2
 have ne:∀ {m:Nat} {b:Addr} {x:zl8},m≠n→α.adr[m]?=some b→zb6 st m=some x→x≠.dead→b≠a:=fun hm e1 e2 e3 z=>by
  subst z
  rcases r.inj _ _ _ _ _ hm e1 ha e2 ho with z | z
  ·exact e3 z
  ·exact h1 z
 refine ⟨by rw [List.length_set];exact r.len,fun m xs h=>?_,fun m kvs h=>?_,fun m m' b x x' hne e1 e2 e3 e4=>?_,fun b h=>r.nk b ((zW8 ho h1 h2).mp h),fun m b x e1 e2 e3=>?_,fun b hb=>?_⟩
 ·rcases zh9 h with ⟨rfl,e⟩ | ⟨hm,h⟩
  ·obtain ⟨vs,rfl,rp⟩:=hl xs e.symm
   exact ⟨a,vs,ha,zd7,ex.rps rp⟩
  ·obtain ⟨b,vs,e1,e2,e3⟩:=r.lst m xs h
   exact ⟨b,vs,e1,by rw [ze3 (ne hm e1 h (by intro z;cases z))];exact e2,ex.rps e3⟩
 ·rcases zh9 h with ⟨rfl,e⟩ | ⟨hm,h⟩
  ·obtain ⟨l,rfl,rp⟩:=hd kvs e.symm
   exact ⟨a,l,ha,zd7,RKV.mono ex.tup ex.lst _ _ rp⟩
  ·obtain ⟨b,vs,e1,e2,e3⟩:=r.dct m kvs h
   exact ⟨b,vs,e1,by rw [ze3 (ne hm e1 h (by intro z;cases z))];exact e2,RKV.mono ex.tup ex.lst _ _ e3⟩
 ·rcases zh9 e3 with ⟨rfl,rfl⟩ | ⟨hm,e3'⟩
  ·rcases zh9 e4 with ⟨rfl,rfl⟩ | ⟨hm',e4⟩
   ·exact absurd rfl hne
   ·rcases r.inj m m' b o x' hne e1 e2 ho e4 with z | z
    ·exact absurd z h1
    ·exact .inr z
  ·rcases zh9 e4 with ⟨rfl,rfl⟩ | ⟨hm',e4⟩
   ·rcases r.inj m m' b x o hne e1 e2 e3' ho with z | z
    ·exact .inl z
    ·exact absurd z h1
   ·exact r.inj m m' b x x' hne e1 e2 e3' e4
 ·rcases zh9 e2 with ⟨rfl,rfl⟩ | ⟨hm,e2⟩
  ·exact r.dis m b o e1 ho h1
  ·exact r.dis m b x e1 e2 e3
 ·obtain ⟨vs,e⟩:=r.rsv b hb
  refine ⟨vs,?_⟩
  rw [ze3]
  ·exact e
  ·rintro rfl
   exact r.dis n _ o ha ho h1 hb
theorem yh9 {lv:Addr→Prop} {k:PV} {k':Key} (hk:keyOf k=some k'):∀ {kvs:List (PV×PV)} {l:List (Key×V)},RKV K H lv kvs l→(kvs.any fun p=>decide (p.1=k))=l.any fun kv=>decide (kv.1=k')
 | [],l,h=>by rw [RKV] at h;subst h;rfl
 | (k1,x1)::r,l,h=>by
  rw [RKV] at h
  obtain ⟨k2,v,l',rfl,h1,h2,h3⟩:=h
  rw [List.any_cons,List.any_cons,yh9 hk h3]
  congr 1
  by_cases e:k1=k
  ·subst e
   rw [hk] at h1;cases h1
   simp
  ·have:k2≠k':=fun z=>e (zF3 h1 (z▸hk))
   simp [e,this]
theorem yg9 {lv:Addr→Prop} {k x:PV} {k':Key} {v:V} (hk:keyOf k=some k') (hx:RP K H lv x v):∀ {kvs:List (PV×PV)} {l:List (Key×V)},RKV K H lv kvs l→RKV K H lv (kvs.map fun p=>if p.1=k then (p.1,x) else p) (l.map fun kv=>if kv.1=k' then (kv.1,v) else kv)
 | [],l,h=>by rw [RKV] at h;subst h;rw [List.map_nil,List.map_nil,RKV]
 | (k1,x1)::r,l,h=>by
  rw [RKV] at h
  obtain ⟨k2,v2,l',rfl,h1,h2,h3⟩:=h
  rw [List.map_cons,List.map_cons]
  have ih:=yg9 hk hx h3
  by_cases e:k1=k
  ·subst e
   rw [hk] at h1;cases h1
   rw [if_pos rfl,if_pos rfl,RKV]
   exact ⟨_,v,_,rfl,hk,hx,ih⟩
  ·have:k2≠k':=fun z=>e (zF3 h1 (z▸hk))
   rw [if_neg e,if_neg this,RKV]
   exact ⟨k2,v2,_,rfl,h1,h2,ih⟩
theorem zY3 {lv:Addr→Prop} {k x:PV} {k':Key} {v:V} (hk:keyOf k=some k') (hx:RP K H lv x v):∀ {kvs:List (PV×PV)} {l:List (Key×V)},RKV K H lv kvs l→RKV K H lv (kvs++[(k,x)]) (l++[(k',v)])
 | [],l,h=>by rw [RKV] at h;subst h;rw [List.nil_append,List.nil_append,RKV];exact ⟨k',v,[],rfl,hk,hx,by rw [RKV]⟩
 | (k1,x1)::r,l,h=>by
  rw [RKV] at h
  obtain ⟨k2,v2,l',rfl,h1,h2,h3⟩:=h
  rw [List.cons_append,List.cons_append,RKV]
  exact ⟨k2,v2,_,rfl,h1,h2,zY3 hk hx h3⟩
theorem yk6 {lv:Addr→Prop} {k x:PV} {k':Key} {v:V} (hk:keyOf k=some k') (hx:RP K H lv x v) {kvs:List (PV×PV)} {l:List (Key×V)} (h:RKV K H lv kvs l):RKV K H lv (zL1 k x kvs) (zI3 l k' v):=by
 unfold zL1 zI3
 rw [yh9 hk h]
 split
 ·exact yg9 hk hx h
 ·exact zY3 hk hx h
theorem RKV.length {lv:Addr→Prop}:∀ {kvs:List (PV×PV)} {l:List (Key×V)},RKV K H lv kvs l→kvs.length=l.length
 | [],l,h=>by rw [RKV] at h;subst h;rfl
 | (k1,x1)::r,l,h=>by
  rw [RKV] at h
  obtain ⟨k2,v2,l',rfl,h1,h2,h3⟩:=h
  simp [RKV.length h3]
end
section
variable {X:Cx} {C:zb7} {W:Nat} {o i value:Expr} {io ii iv:E} {pos pos':Pos}
theorem yf4 (hu:X.A.units+1<cLine):yz5 X (fun o i v H Q=>∃ a H',o=.ref a∧yW0 H a i v H'∧Q H'):=by
 rintro pins s σ H o i v ov iv u Q I ro ri rv ⟨a,H',e,g,q⟩
 subst e
 obtain rfl:ov=Value.ref a:=ro
 exact yh1 hu I g ri rv fun s' I'=>⟨H',I',q⟩
theorem yz5.or {t t':xh0} (h:yz5 X t) (h':yz5 X t'):yz5 X (fun o i v H Q=>t o i v H Q∨t' o i v H Q):=by
 intro pins s σ H o i v ov iv u Q I ro ri rv q
 rcases q with q | q
 ·exact h pins s σ H o i v ov iv u Q I ro ri rv q
 ·exact h' pins s σ H o i v ov iv u Q I ro ri rv q
theorem yv8 (hu:X.A.units+1<cLine) (ho:SE X C o io) (hi:SE X C i ii) (hv:SE X C value iv)
  (ha:∀ v,assign (.Subscript o i pos') X.env v=(do
   let ov ← holding [v] (eval o X.env)
   let iv ← holding [v,ov] (eval i X.env)
   standAt pos'
   holding [v,ov,iv] (setItem ov iv v)
   release [v,ov,iv] []))
  (hs:swapsWithSole [.Subscript o i pos'] value pos.line X.env=pure false) (hw:swappedStores [.Subscript o i pos'] value X.env=pure none)
  (h1:(assignEach [.Subscript o i pos'] X.env).map (·.2)=[assign (.Subscript o i pos') X.env]):SS X C W (.Assign [.Subscript o i pos'] value pos) (.setIx io ii iv) :=
 PS.mono (yX9 hv (yR6 ho hi (yz5.or ys4 (yf4 hu)) ha) hs hw h1) fun D σ H h_=>by
  obtain ⟨env,α,st,fl,st',at',e,q⟩:=h_
  rw [ys3] at e
  obtain ⟨x,st1,e1,e⟩:=Res.bindP_inv e
  obtain ⟨ov,st2,e2,e⟩:=Res.bind_inv e
  obtain ⟨iv',y,st3,e3,hy,e⟩:=Res.bindV_inv e
  obtain ⟨_,st4,e4,e⟩:=Res.bind_inv e
  cases e
  refine ⟨env,α,st,_,st1,at',e1,fun w H1 α1 x1 r1 v1=>?_⟩
  refine ⟨env,α1,st1,ov,st2,at'.next x1 r1,e2,fun w2 H2 α2 x2 r2 v2=>?_⟩
  refine ⟨env,α2,st2,iv',st3,(at'.next x1 r1).next x2 r2,e3,fun w3 H3 α3 x3 r3 v3=>?_⟩
  have rx:=(x2.trans x3).rv v1
  have ro:=x3.rv v2
  have wy:=v3.view r3 hy
  have at3:=((at'.next x1 r1).next x2 r2).next x3 r3
  cases ov with
  | p z=>cases e4
  | ref n =>
   obtain ⟨a,rfl,ha⟩:=ro
   have e4:(match zb6 st3 n with | some (.lst xs)=>(match xb5 xs y x with | some ys=>Res.ok () (st3.set n (.lst ys)) | none=>.stuck) | some (.dct kvs)=>(if kvs.length<1000000∧zH0 y=true then Res.ok () (st3.set n (.dct (zL1 y x kvs))) else .stuck) | _=>.stuck)=Res.ok () st':=e4
   cases hob:zb6 st3 n with
   | none=>rw [hob] at e4;cases e4
   | some ob =>
    rw [hob] at e4
    cases ob with
    | dead=>cases e4
    | lst xs =>
     cases hsl:xb5 xs y x with
     | none=>simp only [hsl] at e4;cases e4
     | some ys =>
      simp only [hsl] at e4
      cases e4
      obtain ⟨a',vs,g1,g2,g3⟩:=r3.lst n xs hob
      rw [ha] at g1;cases g1
      cases y with
      | int k =>
       obtain ⟨j,hj,hys⟩:=Option.map_eq_some_iff.mp (show (zk5 xs.length k).map (fun j=>xs.set j x)=some ys from hsl)
       subst hys
       have nd1:zl8.lst xs≠.dead:=by intro z;cases z
       have nd2:zl8.lst (xs.set j x)≠.dead:=by intro z;cases z
       refine .inl ⟨a,vs,k,j,rfl,wy.int,g2,by rw [← g3.length];exact hj,?_⟩
       have setR:∀ {xs:List PV} {vs:List V} (j:Nat),RPs X.K H3 (zf1 α3 st3) xs vs→RPs X.K H3 (zf1 α3 st3) (xs.set j x) (vs.set j w):=by
        intro xs
        induction xs with
        | nil=>intro vs j h;rw [RPs] at h;subst h;rw [List.set_nil,List.set_nil,RPs]
        | cons z zs ih =>
         intro vs j h
         rw [RPs] at h
         obtain ⟨u,ur,rfl,h1,h2⟩:=h
         cases j with
         | zero=>rw [List.set_cons_zero,List.set_cons_zero,RPs];exact ⟨w,ur,rfl,rx,h2⟩
         | succ j=>rw [List.set_cons_succ,List.set_cons_succ,RPs];exact ⟨u,_,rfl,h1,ih j h2⟩
       have ex:=zG0 (o':=.lst (xs.set j x)) (h':=.lst (vs.set j w)) r3 ha hob nd1 nd2
       have rs:=zL8 (o':=.lst (xs.set j x)) (h':=.lst (vs.set j w)) r3 ha hob nd1 nd2 (fun ys e=>by cases e;exact ⟨_,rfl,setR j g3⟩) (fun kvs e=>by cases e)
       exact q σ _ α3 (x1.trans (x2.trans (x3.trans ex))) (at3.next ex rs)
      | _=>simp [xb5] at hsl
    | dct kvs =>
     by_cases hlen:kvs.length<1000000∧zH0 y=true
     ·simp only [hlen,and_self,if_true] at e4
      cases e4
      obtain ⟨a',l,g1,g2,g3⟩:=r3.dct n kvs hob
      rw [ha] at g1;cases g1
      obtain ⟨k,hk⟩:∃ k,keyOf y=some k:=by
       cases y with
       | int z=>exact ⟨_,rfl⟩
       | str z=>exact ⟨_,rfl⟩
       | _=>cases hlen.2
      have nd1:zl8.dct kvs≠.dead:=by intro z;cases z
      have nd2:zl8.dct (zL1 y x kvs)≠.dead:=by intro z;cases z
      have hz:sizeLine=16777216:=by decide
      have ll:=g3.length
      refine .inr ⟨a,_,rfl,by rw [yz2 wy hk];exact yW0.k g2 (by rw [hz];lia),?_⟩
      have ex:=zG0 (o':=.dct (zL1 y x kvs)) (h':=.dK (zI3 l k w)) r3 ha hob nd1 nd2
      have rs:=zL8 (o':=.dct (zL1 y x kvs)) (h':=.dK (zI3 l k w)) r3 ha hob nd1 nd2 (fun ys e=>by cases e) (fun kvs' e=>by cases e;exact ⟨_,rfl,yk6 hk rx g3⟩)
      exact q σ _ α3 (x1.trans (x2.trans (x3.trans ex))) (at3.next ex rs)
     ·have e4:(if kvs.length<1000000∧zH0 y=true then Res.ok () (st3.set n (.dct (zL1 y x kvs))) else .stuck)=Res.ok () st':=e4
      rw [if_neg hlen] at e4
      cases e4
end
open PySem L2 PySem.SeqAt PyProof.Rows
section
variable {X:Cx}
theorem zF5:∀ {xs:List PV} {b:Bool},zm1 xs=some b→∃ bs:List Bool,xs=bs.map .bl∧b=bs.all id
 | [],b,h=>by cases h;exact ⟨[],rfl,rfl⟩
 | x::r,b,h=>by
  cases x with
  | bl k =>
   obtain ⟨c,h1,h2⟩:=Option.map_eq_some_iff.mp (show (zm1 r).map (k && ·)=some b from h)
   obtain ⟨bs,rfl,rfl⟩:=zF5 h1
   exact ⟨k::bs,rfl,by rw [← h2];rfl⟩
  | _=>cases h
theorem zO9 {K:Frag} {H:Hp} {lv:Addr→Prop}:∀ {bs:List Bool} {vs:List V},RPs K H lv (bs.map .bl) vs→vs=bs.map .bl
 | [],vs,h=>by rw [List.map_nil,RPs] at h;exact h
 | b::r,vs,h=>by
  rw [List.map_cons,RPs] at h
  obtain ⟨v,vr,rfl,h1,h2⟩:=h
  rw [RP] at h1
  rw [h1,zO9 h2]
  rfl
theorem zI8:∀ {bs:List Bool} {its:List Value},zg6 (bs.map .bl) its→its=bs.map .bool
 | [],its,h=>by cases h;rfl
 | b::r,its,h=>by
  cases h with
  | cons q t =>
   obtain rfl:=(show _=Value.bool b from q)
   rw [zI8 t]
   rfl
theorem yl8 (bs:List Bool):(List.range bs.length).all (fun i=>bs.getD i false)=bs.all id:=by
 induction bs with
 | nil=>rfl
 | cons b r ih =>
  rw [List.length_cons,List.range_succ_eq_map,List.all_cons,List.all_map,List.all_cons,← ih]
  rfl
theorem yS8 (hc:X.calm=true):zy0 X (.builtin "all") (f1 (zV6 fun l=>(zm1 l).map .bl)):=by
 rintro pins s σ H ws us Q I rs ⟨α,st,xs,z,r,pr,hz,q⟩
 cases pr with
 | nil=>cases hz
 | cons h t =>
  cases t with
  | cons _ _=>cases hz
  | nil =>
   rename_i x w
   cases x with
   | lst l =>
    obtain ⟨b,hb,hz2⟩:=Option.map_eq_some_iff.mp (show (zm1 l).map PV.bl=some z from hz)
    obtain ⟨bs,rfl,rfl⟩:=zF5 hb
    obtain ⟨a,vs,rfl,h1,h2⟩:=h.lst
    cases rs with
    | cons ra rt =>
     cases rt
     obtain rfl:=(show _=Value.ref a from ra)
     obtain ⟨its,r1,p,_⟩:=I.list h1
     have ev:=zO9 h2
     subst ev
     have ei:=zI8 r1
     subst ei
     refine call_all_walk (wpAny_pyIter_list p.isList ?_)
     have hne:a≠s.heap.objs.size:=by
      obtain ⟨o,_,e,_⟩:=p
      exact Nat.ne_of_lt (Heap.lt_size e)
     refine ⟨_,_,_,_,_,_,fun i=>bs.getD i false,rfl,Walks.list (A:=X.A.in1) (show X.A.in1.handled=none from I.ok.hd hc) s.heap.objs.size a hne (bs.map Value.bool).toArray,⟨⟨_,Heap.get?_push_size _ rfl,rfl,rfl⟩,?_⟩,?_,fun h' tk hk=>?_⟩
     ·obtain ⟨o,n,e,c,_,d⟩:=p
      exact ⟨o,Heap.get?_push_of_some _ e,c,n,d⟩
     ·intro i v s' Q' E' hv hQ
      have hv:(bs.map Value.bool).toArray[i]?=some v:=hv
      rw [List.getElem?_toArray,List.getElem?_map] at hv
      obtain ⟨b,hb',rfl⟩:=Option.map_eq_some_iff.mp hv
      have e:bs.getD i false=b:=by rw [List.getD_eq_getElem?_getD,hb'];rfl
      have hQ:Q' (bs.getD i false) s':=hQ
      rw [e] at hQ
      exact wpAny_truthy_bool hQ
     ·refine ⟨.bl _,H,I.kept (fun b o e=>hk b o ?_ (Heap.get?_push_of_some _ e)),rfl,?_⟩
      ·simp only [List.mem_singleton]
       exact Nat.ne_of_lt (Heap.lt_size e)
      ·have:(List.range (bs.map Value.bool).toArray.size).all (fun i=>bs.getD i false)=bs.all id:=by
        rw [List.size_toArray,List.length_map];exact yl8 bs
       rw [this]
       exact q _ _ (zj0.refl H) (by rw [← hz2,RP])
   | _=>cases hz
theorem yn1:∀ {xs:List PV} {ns:List Int},zA4 xs=some ns→xs=ns.map .int
 | [],ns,h=>by cases h;rfl
 | x::r,ns,h=>by
  cases x with
  | int i =>
   obtain ⟨ms,h1,h2⟩:=Option.map_eq_some_iff.mp (show (zA4 r).map (i :: ·)=some ns from h)
   rw [← h2,yn1 h1]
   rfl
  | _=>cases h
theorem zZ6 {K:Frag} {H:Hp} {lv:Addr→Prop}:∀ {ns:List Int} {vs:List V},RPs K H lv (ns.map .int) vs→vs=ns.map .int
 | [],vs,h=>by rw [List.map_nil,RPs] at h;exact h
 | b::r,vs,h=>by
  rw [List.map_cons,RPs] at h
  obtain ⟨v,vr,rfl,h1,h2⟩:=h
  rw [RP] at h1
  rw [h1,zZ6 h2]
  rfl
theorem zJ0:∀ {ns:List Int} {its:List Value},zg6 (ns.map .int) its→∃ ps:List (Int×Tok),its=ps.map (fun p=>Value.int p.1 p.2)∧ps.map (·.1)=ns
 | [],its,h=>by cases h;exact ⟨[],rfl,rfl⟩
 | b::r,its,h=>by
  cases h with
  | cons q t =>
   obtain ⟨tk,rfl⟩:=q
   obtain ⟨ps,rfl,h2⟩:=zJ0 t
   exact ⟨(b,tk)::ps,rfl,by rw [List.map_cons,h2]⟩
end
open PySem L2 PySem.SeqAt PyProof.Rows
noncomputable def zP9:Ty→String
 | .int => "int"
 | .str => "str"
 | .bool => "bool"
 | .list => "list"
 | .tuple => "tuple"
section
variable {X:Cx} {C:zb7} {a:Expr} {ia:E} {pos p p2:Pos}
theorem zS4 (t:Ty):zH2 X (.builtin "isinstance") (fun ws H Q=>∃ α st px x,ws=[x,.ty (zP9 t)]∧RSt X.K α st H∧RW X.K α st H px x∧Q (.bl (yL0 t px)) H):=by
 rintro pins s σ H ws us Q I rs ⟨α,st,px,x,e,r,h,q⟩
 subst e
 cases rs with
 | cons rx rt =>
  cases rt with
  | cons r2 rt =>
   cases rt
   obtain rfl:=(show _=Value.type (zP9 t) from r2)
   have fin:∀ tk,EP X pins σ Q (.bool (yL0 t px)) { s with toks:=tk }:=fun tk=>⟨.bl _,H,I.tok tk,rfl,q⟩
   cases px with
   | non=>have e:=h.non;subst e;exact zv7 I rx .non (by cases t <;> rfl) fin
   | bl b=>have e:=h.bl;subst e;exact zv7 I rx (.bl b) (by cases t <;> rfl) fin
   | int i=>have e:=h.int;subst e;exact zv7 I rx (.int i) (by cases t <;> rfl) fin
   | str cs=>have e:=h.str.1;subst e;exact zv7 I rx (.str _) (by cases t <;> rfl) fin
   | tup xs =>
    obtain ⟨b,vs,rfl,h1,_⟩:=h.tup
    obtain rfl:=(show _=Value.ref b from rx)
    obtain ⟨its,_,⟨o,e1,e2,_⟩,_⟩:=I.tuple h1
    exact PySem.W.kia_one PySem.W.kitx_tuple I.kIn ⟨o,e1,e2⟩ (by cases t <;> rfl) (fun z=>nomatch z) fin
   | lst xs =>
    obtain ⟨b,vs,rfl,h1,_⟩:=h.lst
    obtain rfl:=(show _=Value.ref b from rx)
    obtain ⟨its,_,⟨o,n,e1,e2,_⟩,_⟩:=I.list h1
    exact PySem.W.kia_one PySem.W.kitx_list I.kIn ⟨o,e1,e2⟩ (by cases t <;> rfl) (fun z=>nomatch z) fin
theorem ym7 {x:Str} (t:Ty) (hg:Gl X "isinstance") (hm:X.mg "isinstance" = none) (hv:bootBuiltins "isinstance" = some (.builtin "isinstance")) (hg2:Gl X x) (hm2:X.mg x=none) (hv2:bootBuiltins x=some (.type (zP9 t)))
  (ha:SE X C a ia) (hn2:x ≠ "__name__") (hd2:(x==("__debug__" : Str))=false)
  (hs:starEach [a,.Name x p2] X.env=(false,eval a X.env)::starEach [.Name x p2] X.env) (hs2:starEach [.Name x p2] X.env=(false,eval (.Name x p2) X.env)::starEach [] X.env)
  (hpl:(backTo pos (starEach [.Name x p2] X.env)).any (·.1)=false):SE X C (.Call (.Name "isinstance" p) [a,.Name x p2] [] pos) (.blt (.isinst t) [ia]) :=
 PE.mono (ya0 (zS4 t) hg hm hv (zV0 ha (zV0 (yF0 hg2 hm2 hv2 (v:=.ty (zP9 t)) rfl hn2 hd2) yA7 hs2) hs) (by decide) (by decide) hs hpl) fun σ H Q h_=>by
  obtain ⟨env,α,st,v,st',at',e,q⟩:=h_
  rw [zc6,zp9] at e
  obtain ⟨vs,st1,e1,e⟩:=Res.bind_inv e
  obtain ⟨va,st2,e2,e1⟩:=Res.bind_inv e1
  rw [zs5] at e1
  cases e1
  refine ⟨env,α,st,va,st1,at',e2,fun w H1 α1 x1 r1 v1=>?_⟩
  unfold opN at e
  cases hv':view st1 va with
  | none=>simp only [zj4,hv'] at e;cases e
  | some y =>
   simp only [zj4,hv'] at e
   cases e
   exact ⟨α1,st',y,w,rfl,r1,v1.view r1 hv',q _ H1 α1 x1 r1 (by rw [RV,RP])⟩
variable {o e:Expr} {es:List Expr} {io:E} {irs:List E} {apos cpos:Pos} {name:Str} {id:String} {m:Mt}
def MtS (X:Cx) (id:String) (g:PV→List PV→Option PV):Prop :=
 MtR X id fun x ws H Q=>∃ α st px xs z,RSt X.K α st H∧RW X.K α st H px x∧Paired (RW X.K α st H) xs ws∧g px xs=some z∧∀ w H',zj0 H H'→RP X.K H' (zf1 α st) z w→Q w H'
theorem yN4 {g:PV→List PV→Option PV} (slot:Slot "str" name id) (hty:typeOf (.builtin id)=pure (.type "method_descriptor")) (hm:MtS X id g) (ho:SE X C o io) (ha:SA X C (e::es) irs)
  (hg:∀ v vs st,zk3 m v vs st=(match zj4 st vs with | some xs=>(match view st v with | some x=>okO (g x xs) st | none=>.stuck) | none=>.stuck)) (hstr:∀ x xs z,g x xs=some z→∃ cs,x=.str cs)
  (hbase:attributeBase o name X.env (eval o X.env)=eval o X.env)
  (hfew:((backTo cpos (starEach (e::es) X.env)).all (fun x=>!x.1)&&(backToKw cpos (keywordEach [] X.env)).all (fun x=>x.1.isSome)
   && decide ((e::es).length+([]:List Keyword).length+(if ([]:List Keyword).isEmpty then 0 else 1)<30))=true)
  (hline:(apos.endLine==cpos.line)=true) (hs:starEach (e::es) X.env=(false,eval e X.env)::starEach es X.env) (hplain:(backTo cpos (starEach es X.env)).any (·.1)=false) :
  SE X C (.Call (.Attribute o name apos) (e::es) [] cpos) (.meth m io irs) :=
 PE.mono (yG3 PySem.F.plainAttrs_str slot hty hm ho ha hbase hfew hline hs hplain) fun σ H Q h_=>by
  obtain ⟨env,α,st,v,st',at',e,q⟩:=h_
  rw [zG3] at e
  obtain ⟨ov,st1,e1,e⟩:=Res.bind_inv e
  obtain ⟨_,st0,e0,e⟩:=Res.bind_inv e
  obtain ⟨⟨x0,hv0⟩,hst⟩:=zv6 e0
  rw [hst] at e
  obtain ⟨vs,st2,e2,e⟩:=Res.bind_inv e
  rw [hg] at e
  cases hv:zj4 st2 vs with
  | none=>rw [hv] at e;cases e
  | some xs =>
   rw [hv] at e
   cases hx:view st2 ov with
   | none=>simp only [hx] at e;cases e
   | some x =>
    simp only [hx] at e
    obtain ⟨z,h1,h2,h3⟩:=zq4 e
    subst h2 h3
    obtain ⟨cs,rfl⟩:=hstr _ _ _ h1
    have hov:ov=.p (.str cs):=by
     cases ov with
     | p y=>cases hx;rfl
     | ref n =>
      have hx:(match zb6 st' n with | some (.lst xs)=>some (PV.lst xs) | _=>none)=some (PV.str cs):=hx
      cases ho:zb6 st' n with
      | none=>rw [ho] at hx;cases hx
      | some ob=>rw [ho] at hx;cases ob <;> cases hx
    subst hov
    refine ⟨env,α,st,_,st1,at',e1,fun w H1 α1 x1 r1 v1=>?_⟩
    have v1':RP X.K H1 (zf1 α1 st1) (.str cs) w:=v1
    rw [RP] at v1'
    obtain ⟨hw,hl⟩:=v1'
    subst hw
    refine ⟨rfl,env,α1,st1,vs,st',at'.next x1 r1,e2,fun ws H2 α2 x2 r2 pr=>?_⟩
    exact ⟨α2,st',.str cs,xs,z,r2,.inl (by rw [RP];exact ⟨rfl,hl⟩),zC3 r2 pr hv,h1,fun w H3 s3 rp=>q w H3 α2 (x1.trans (x2.trans (.of_same r2 s3))) (r2.same s3) rp⟩
end
open PySem L2 PySem.SeqAt PyProof.Rows
open PySem.Builtin PySem.Builtin.Str
section
variable {X:Cx}
theorem yF2:MtS X "str.upper" yi6:=by
 rintro pins s σ H x ws v us Q I rx rs ⟨α,st,px,xs,z,r,hx,pr,hz,q⟩
 cases px with
 | str a =>
  cases pr with
  | cons h t=>cases hz
  | nil =>
   cases rs
   obtain ⟨e1,hl⟩:=hx.str
   subst e1
   obtain ⟨t1,rfl⟩:=rx
   have hz:(if a.all (· < 128) then some (PV.str (a.map upC)) else none)=some z:=hz
   by_cases ha:(a.all (· < 128))=true
   ·rw [if_pos ha] at hz
    have ez:PV.str (a.map upC)=z:=Option.some.inj hz
    have hA:∀ c∈(⟨a.toArray⟩:Str).cps.toList,c<128:=fun c hc=>by
     have:=List.all_eq_true.mp ha c (by simpa using hc)
     exact of_decide_eq_true this
    have pl:placed (⟨a.toArray⟩:Str) (fun _ c=>PySem.Unicode.upperOf c)=(a.map upC).toArray:=by
     rw [placed_single (⟨a.toArray⟩:Str) _ up1 fun i c hc=>upperOf_ascii c (hA c (List.mem_of_getElem? hc))]
     show a.toArray.map up1=_
     rw [List.map_toArray]
     rfl
    refine call_gives PySem.F.slot_str_upper (typeIs_str _ _ _) PySem.F.entry_str_upper (PySem.F.args_str_upper_1 _) (gives_str_upper _ _ ?_) ?_
    ·rw [pl]
     show decide ((a.map upC).toArray.size > sizeLine)=false
     rw [List.size_toArray,List.length_map]
     exact decide_eq_false (by lia)
    ·rw [pl]
     exact ⟨by rw [zj8,List.length_map];exact hl,.str _,H,I.tok _,⟨_,rfl⟩,q _ _ (zj0.refl H) (by rw [← ez,RP];exact ⟨rfl,by rw [List.length_map];exact hl⟩)⟩
   ·rw [if_neg ha] at hz;cases hz
 | _=>cases hz
end
open PySem L2 PySem.SeqAt PyProof.Rows
open PySem.Builtin PySem.Builtin.Str
theorem zD1 (n d:Nat) (o:Option Int):HT.sIx n d o=sIx n d o:=by
 cases o with
 | none=>rfl
 | some i =>
  show (if i<0 then (i+(n:Int)).toNat else min i.toNat n)=(if 0≤i then min i.toNat n else ((n:Int)+i).toNat)
  by_cases h:0≤i
  ·rw [if_neg (by lia),if_pos h]
  ·rw [if_pos (by lia),if_neg h]
   congr 1
   lia
theorem ym3 (i:Int) (n d:Nat):max 0 (min (if i<0 then i+(n:Int) else i) (n:Int))=((sIx n d (some i):Nat):Int):=by
 show max 0 (min (if i<0 then i+(n:Int) else i) (n:Int))=(((if 0≤i then min i.toNat n else ((n:Int)+i).toNat):Nat):Int)
 by_cases h:0≤i
 ·rw [if_neg (by lia),if_pos h];lia
 ·rw [if_pos (by lia),if_neg h];lia
theorem yT3 (lo hi:Option Int) (n:Nat):strSliceIndices lo hi 1 n=(List.range (sIx n n hi - sIx n 0 lo)).map (sIx n 0 lo + ·):=by
 rw [← sliceRange_one]
 have h1:(1:Int) > 0:=by decide
 unfold strSliceIndices
 simp only [h1,if_true]
 congr 1
 ·cases lo with
  | none=>rfl
  | some i=>exact ym3 i n 0
 ·cases hi with
  | none=>rfl
  | some i=>exact ym3 i n n
section
variable {prog:Program} {w:World} {A:Around} {E:Value→Shared→Prop} {s:Shared}
theorem zt8 {t sl:Addr} {zc3:Array Value} {vl vu:Value} {lo hi:Option Int} {Q:Value→Shared→Prop} (ht:IsTup s.heap t zc3) (hs:s.heap.IsSliceOf sl vl vu .none) (pl:IsPart vl lo) (pu:IsPart vu hi)
  (hw:HT.sIx zc3.size 0 lo=0∧HT.sIx zc3.size zc3.size hi=zc3.size) (h:Q (.ref t) s):wpAny (model prog w) A (getItem (.ref t) (.ref sl)) Q E s:=by
 obtain ⟨os,hos,hcs,hds⟩:=id hs
 have hTs:s.TypeIs (.ref sl) "slice" := ⟨os,hos,hcs⟩
 unfold getItem
 try with_reducible refine wpAny_holding ?_
 first | refine wpAny_bind (wpAny_pure ?_) | skip
 refine wpAny_bind (wpAny_sequenceKey ht.typeIs (by decide) ?_)
 refine wpAny_bind (wpAny_callSpecial?_slot (name:=Str.ofString "__getitem__") ht.typeIs PyProof.Rows.slot_tuple_getitem
  (wpAny_call_entry PyProof.Rows.slot_tuple_getitem ht.typeIs entry_tuple_getitem ?_ (args_tuple_getitem _ _)))
 show wpAny _ _ (Builtin.Tuple.tupleItemsOf (.ref t) >>= _) _ _ s
 refine wpAny_bind (tupleItemsOf_ ht ?_)
 refine wpAny_bind (wpAny_typeOf hTs ?_)
 rw [if_pos (by decide)]
 refine wpAny_bind (HT.sliceApplied_gen hs pl pu ?_)
 have hyes:(((HT.sIx zc3.size 0 lo:Nat):Int)==0&&(1:Int)==1&&(HT.sIx zc3.size zc3.size hi - HT.sIx zc3.size 0 lo)==zc3.size)=true:=by
  rw [hw.1,hw.2];simp
 show wpAny _ _ (if (((HT.sIx zc3.size 0 lo:Nat):Int)==0&&(1:Int)==1&&(HT.sIx zc3.size zc3.size hi - HT.sIx zc3.size 0 lo)==zc3.size)=true then _ else _) _ _ s
 rw [if_pos hyes]
 refine wpAny_bind (m:=Builtin.Tuple.tupleIsExact (.ref t)) ?_
 unfold Builtin.Tuple.tupleIsExact
 refine wpAny_bind (wpAny_typeOf ht.typeIs (wpAny_pure ?_))
 rw [if_pos (by decide)]
 exact wpAny_bind (wpAny_rule (wpAny_pure ⟨_,rfl,wpAny_pure h⟩))
end
section
variable {X:Cx} {C:zb7} {e:Expr} {ie:E} {pos p2:Pos}
theorem zW7 {α:Type} (xs:List α) (lo hi:Option Int):(cut xs lo hi).length≤xs.length:=by
 unfold cut
 rw [List.length_take,List.length_drop]
 lia
theorem yh2 {α:Type} (xs:List α) (lo hi:Option Int) (h:(cut xs lo hi).length=xs.length):cut xs lo hi=xs :=
 (((List.take_sublist _ _).trans (List.drop_sublist _ _)):(cut xs lo hi).Sublist xs).eq_of_length h
def rSlS:V→Option Int→Option Int→Hp→VK→Prop:=fun x lo hi H Q=>∃ cs:List Nat,x=.str ⟨cs.toArray⟩∧cs.length≤sizeLine∧Q (.str ⟨(cut cs lo hi).toArray⟩) H
theorem yo4 {v:Value} {o:Option Int} (p:IsPart v o):∃ l:Option (Int×Tok),v=partValue l∧l.map (·.1)=o:=by
 cases p with
 | none=>exact ⟨none,rfl,rfl⟩
 | int i t=>exact ⟨some (i,t),rfl,rfl⟩
theorem yY7:SlR X rSlS:=by
 rintro pins s σ H x v vl vu lo hi sl Q I rx hs pl pu ⟨cs,e,hl,q⟩
 subst e
 obtain ⟨t,rfl⟩:=rx
 obtain ⟨l,rfl,rfl⟩:=yo4 pl
 obtain ⟨u,rfl,rfl⟩:=yo4 pu
 have pk:slicePicked ⟨cs.toArray⟩ l u none=(List.range (sIx cs.length cs.length (u.map (·.1)) - sIx cs.length 0 (l.map (·.1)))).map (sIx cs.length 0 (l.map (·.1)) + ·):=by
  unfold slicePicked
  rw [zj8]
  exact yT3 _ _ _
 have pf:(slicePicked ⟨cs.toArray⟩ l u none).filterMap (fun i=>(⟨cs.toArray⟩:Str).cps[i]?)=cut cs (l.map (·.1)) (u.map (·.1)):=by
  rw [pk]
  exact pick_run cs.toArray _ _
 refine ⟨"str", _,PySem.F.slot_str_getitem.lookup,typeIs_str _ _ _,wpAny_getItem_str_slice (l:=l) (u:=u) (st:=none) hs rfl ?_⟩
 unfold sliceMade
 split
 ·rename_i h
  have h2:(slicePicked ⟨cs.toArray⟩ l u none).length=cs.length:=by
   have:=(Bool.and_eq_true _ _▸h:_∧_).2
   rw [zj8] at this
   exact eq_of_beq this
  have h3:cut cs (l.map (·.1)) (u.map (·.1))=cs:=by
   refine yh2 _ _ _ ?_
   rw [pk,List.length_map,List.length_range] at h2
   unfold cut
   rw [List.length_take,List.length_drop]
   have h4:sIx cs.length cs.length (u.map (·.1))≤cs.length:=by rw [← zD1];exact HT.sIx_le _ _ (Nat.le_refl _) _
   lia
  rw [h3] at q
  exact ⟨.str _,H,I,⟨t,rfl⟩,q⟩
 ·rw [pf]
  exact ⟨by rw [zj8];exact Nat.le_trans (zW7 _ _ _) hl,.str _,H,I.tok _,⟨_,rfl⟩,q⟩
theorem RPs.cut {K:Frag} {H:Hp} {lv:Addr→Prop} {xs:List PV} {vs:List V} (lo hi:Option Int) (h:RPs K H lv xs vs):RPs K H lv (cut xs lo hi) (yy3 vs lo hi):=by
 unfold OR.cut yy3
 rw [zD1,zD1,← h.length]
 exact RPs.take _ (RPs.drop _ h)
theorem yR5:SlR X (fun x lo hi H Q=>∃ α st px z,RSt X.K α st H∧RW X.K α st H px x∧sliceOp px lo hi=some z∧∀ w H',zj0 H H'→RP X.K H' (zf1 α st) z w→Q w H'):=by
 rintro pins s σ H x v vl vu lo hi sl Q I rx hs pl pu ⟨α,st,px,z,r,h,hz,q⟩
 cases px with
 | str cs =>
  obtain ⟨h1,h2⟩:=h.str
  subst h1
  refine yY7 pins s σ H _ v vl vu lo hi sl Q I rx hs pl pu ⟨cs,rfl,h2,q _ _ (zj0.refl H) ?_⟩
  cases hz
  rw [RP]
  exact ⟨rfl,Nat.le_trans (zW7 _ _ _) h2⟩
 | lst xs =>
  obtain ⟨a,vs,rfl,h1,h2⟩:=h.lst
  refine yG5 pins s σ H _ v vl vu lo hi sl Q I rx hs pl pu ⟨a,vs,rfl,h1,fun p hp=>q _ _ (zf8 hp _) ?_⟩
  cases hz
  rw [RP]
  exact ⟨p,_,rfl,SqL.of zd7,r.notlive hp,(Ext.of_same r (zf8 hp _)).rps (h2.cut lo hi)⟩
 | tup xs =>
  obtain ⟨a,vs,rfl,h1,h2⟩:=h.tup
  cases hz
  by_cases hw:sIx xs.length 0 lo=0∧sIx xs.length xs.length hi=xs.length
  ·have ec:OR.cut xs lo hi=xs:=by
    unfold OR.cut
    rw [hw.1,hw.2,List.drop_zero,Nat.sub_zero,List.take_length]
   rw [ec] at q
   cases rx
   obtain ⟨its,r1,ht,hz'⟩:=I.tuple h1
   have hlen:its.toArray.size=xs.length:=by rw [List.size_toArray,h2.length];exact r1.length.symm
   refine ⟨"tuple", _,PyProof.Rows.slot_tuple_getitem.lookup,ht.typeIs,?_⟩
   refine zt8 ht hs pl pu (by rw [hlen,zD1,zD1];exact hw) ?_
   exact ⟨.ref a,H,I,rfl,q _ _ (zj0.refl H) (by rw [RP];exact ⟨a,vs,rfl,h1,h2⟩)⟩
  ·refine yM5 pins s σ H _ v vl vu lo hi sl Q I rx hs pl pu ⟨a,vs,rfl,h1,by rw [zD1,zD1,← h2.length];exact hw,fun p hp=>q _ _ (zf8 hp _) ?_⟩
   rw [RP]
   exact ⟨p,_,rfl,SqT.of zd7,(Ext.of_same r (zf8 hp _)).rps (h2.cut lo hi)⟩
 | _=>cases hz
noncomputable def tO (K:Frag) (C:zb7) (ir:Option E):TO:=fun σ H Q=>∃ env α st o st',At K α st H env σ∧evalO C ir env st=.ok o st' ∧
 ∀ H' α',Ext K α st H α' st' H'→RSt K α' st' H'→Q o H'
noncomputable abbrev SO (X:Cx) (C:zb7) (e:Option Expr) (ir:Option E):Prop:=PO X e (tO X.K C ir)
theorem PO.mono {e:Option Expr} {t t':TO} (h:PO X e t) (m:∀ σ H Q,t' σ H Q→t σ H Q):PO X e t':=fun pins s σ H Q I q=>h pins s σ H Q I (m _ _ _ q)
theorem yG8:SO X C none none:=PO.mono yH7 fun σ H Q h_=>by
 obtain ⟨env,α,st,o,st',at',e,q⟩:=h_
 rw [yu8] at e
 cases e
 exact q H α .refl at'.rs
theorem yD7 (h:SE X C e ie):SO X C (some e) (some ie):=PO.mono (yI5 h) fun σ H Q h_=>by
 obtain ⟨env,α,st,o,st',at',e,q⟩:=h_
 rw [ys0] at e
 obtain ⟨v,x,st1,e1,hv,e⟩:=Res.bindV_inv e
 refine ⟨env,α,st,v,st1,at',e1,fun w H1 α1 x1 r1 v1=>?_⟩
 cases x with
 | int i =>
  cases e
  exact ⟨i,(v1.view r1 hv).int,q H1 α1 x1 r1⟩
 | _=>cases e
theorem yr2 {lo hi:Option Expr} {ilo ihi:Option E} (he:SE X C e ie) (hl:SO X C lo ilo) (hh:SO X C hi ihi):SE X C (.Subscript e (.Slice lo hi none p2) pos) (.slice ie ilo ihi) :=
 PE.mono (yv1 yR5 he hl hh) fun σ H Q h_=>by
  obtain ⟨env,α,st,v,st',at',e,q⟩:=h_
  rw [yx4] at e
  obtain ⟨va,st1,e1,e⟩:=Res.bind_inv e
  obtain ⟨l,st2,e2,e⟩:=Res.bind_inv e
  obtain ⟨h,st3,e3,e⟩:=Res.bind_inv e
  obtain ⟨x,y,g1,g2,g3,g4⟩:=ym1 e
  subst g3 g4
  refine ⟨env,α,st,va,st1,at',e1,fun w H1 α1 x1 r1 v1=>?_⟩
  have at1:=at'.next x1 r1
  refine ⟨env,α1,st1,l,st2,at1,e2,fun H2 α2 x2 r2=>?_⟩
  refine ⟨env,α2,st2,h,st',at1.next x2 r2,e3,fun H3 α3 x3 r3=>?_⟩
  refine ⟨α3,st',x,y,r3,((x2.trans x3).rv v1).view r3 g1,g2,fun w3 H4 s4 rp=>?_⟩
  exact q w3 H4 α3 (x1.trans (x2.trans (x3.trans (.of_same r3 s4)))) (r3.same s4) rp
end
open PySem L2 PySem.SeqAt PyProof.Rows
noncomputable def Al.add (α:Al) (p:Addr):Al:=⟨α.adr++[p],α.rsv⟩
section
variable {K:Frag} {α:Al} {st:za6} {H:Hp} {p:Addr} {o:zl8}
theorem zf4 {n:Nat} {x:zl8} (h:zb6 (st++[o]) n=some x):(n<st.length∧zb6 st n=some x)∨(n=st.length∧x=o):=by
 by_cases hn:n<st.length
 ·rw [zq1 hn] at h
  exact .inl ⟨hn,h⟩
 ·have hl:=zm2 h
  rw [List.length_append,List.length_singleton] at hl
  have e:n=st.length:=by lia
  subst e
  rw [zn7] at h
  cases h
  exact .inr ⟨rfl,rfl⟩
theorem zk7 {l:List Addr} {n:Nat} {a:Addr} (h:(l++[p])[n]?=some a):(n<l.length∧l[n]?=some a)∨(n=l.length∧a=p):=by
 by_cases hn:n<l.length
 ·rw [List.getElem?_append_left hn] at h
  exact .inl ⟨hn,h⟩
 ·have hl:=(List.getElem?_eq_some_iff.mp h).1
  rw [List.length_append,List.length_singleton] at hl
  have e:n=l.length:=by lia
  subst e
  rw [List.getElem?_concat_length] at h
  cases h
  exact .inr ⟨rfl,rfl⟩
theorem zM9 (hl:α.adr.length=st.length) {a:Addr} (h:zf1 (α.add p) (st++[o]) a):a=p∨zf1 α st a:=by
 rcases h with h | ⟨n,x,h1,h2,h3⟩
 ·exact .inr (.inl h)
 ·rcases zk7 h1 with ⟨g1,g2⟩ | ⟨g1,g2⟩
  ·rcases zf4 h2 with ⟨_,k2⟩ | ⟨k1,_⟩
   ·exact .inr (.inr ⟨n,x,g2,k2,h3⟩)
   ·lia
  ·exact .inl g2
theorem yQ1 {a:Addr} {vs:List V} (hp:H p=none) (hK:K.lookup p=none) (h:SqL K H a vs):a≠p:=by
 rintro rfl
 rcases h with (h | ⟨_,h⟩) | ⟨_,_,_,h,_⟩
 ·rw [hp] at h;cases h
 ·rw [hp] at h;cases h
 ·rw [hK] at h;cases h
theorem zV4 {h':HO} (r:RSt K α st H) (hp:H p=none) (hK:K.lookup p=none):Ext K α st H (α.add p) (st++[o]) (upd H p h'):=by
 have s:=zf8 hp h'
 refine ⟨fun n a h=>?_,fun a vs h=>SqT.same s h,fun a vs h n=>⟨zj0.seq s h,fun l=>?_⟩,rfl,fun a ha=>?_⟩
 ·show (α.adr++[p])[n]?=some a
  rw [List.getElem?_append_left (List.getElem?_eq_some_iff.mp h).1]
  exact h
 ·rcases zM9 r.len l with e | e
  ·exact yQ1 hp hK h e
  ·exact n e
 ·obtain ⟨vs,e⟩:=r.rsv a ha
  rw [e,s _ _ e]
theorem yq4 {h':HO} (r:RSt K α st H) (hp:H p=none) (hK:K.lookup p=none)
  (hl:∀ xs,o=.lst xs→∃ vs,h'=.lst vs∧RPs K H (zf1 α st) xs vs) (hd:∀ kvs,o=.dct kvs→∃ l,h'=.dK l∧RKV K H (zf1 α st) kvs l):RSt K (α.add p) (st++[o]) (upd H p h'):=by
 have s:=zf8 hp h'
 have ex:=zV4 (o:=o) (h':=h') r hp hK
 have old:∀ {n:Nat} {a:Addr},α.adr[n]?=some a→(α.add p).adr[n]?=some a:=fun h=>ex.pre _ _ h
 have new:(α.add p).adr[st.length]?=some p:=by
  show (α.adr++[p])[st.length]?=some p
  rw [← r.len,List.getElem?_concat_length]
 have dead:∀ {n:Nat} {x:zl8},α.adr[n]?=some p→zb6 st n=some x→x=.dead:=fun {n x} h1 h2=>by
  by_cases hx:x=.dead
  ·exact hx
  ·exact absurd (.inr ⟨n,x,h1,h2,hx⟩) (r.notlive hp)
 refine ⟨?_,fun n xs h=>?_,fun n kvs h=>?_,fun n m a x x' hne h1 h2 h3 h4=>?_,fun a h=>?_,fun n a x h1 h2 h3 h4=>?_,fun a ha=>?_⟩
 ·show (α.adr++[p]).length=(st++[o]).length
  rw [List.length_append,List.length_append,r.len]
  rfl
 ·rcases zf4 h with ⟨_,h⟩ | ⟨rfl,e⟩
  ·obtain ⟨a,vs,e1,e2,e3⟩:=r.lst n xs h
   exact ⟨a,vs,old e1,s _ _ e2,ex.rps e3⟩
  ·obtain ⟨vs,rfl,e3⟩:=hl xs e.symm
   exact ⟨p,vs,new,zd7,ex.rps e3⟩
 ·rcases zf4 h with ⟨_,h⟩ | ⟨rfl,e⟩
  ·obtain ⟨a,vs,e1,e2,e3⟩:=r.dct n kvs h
   exact ⟨a,vs,old e1,s _ _ e2,RKV.mono ex.tup ex.lst _ _ e3⟩
  ·obtain ⟨l,rfl,e3⟩:=hd kvs e.symm
   exact ⟨p,l,new,zd7,RKV.mono ex.tup ex.lst _ _ e3⟩
 ·have ll:=r.len
  rcases zk7 h1 with ⟨a1,b1⟩ | ⟨a1,rfl⟩
  ·rcases zf4 h3 with ⟨_,h3⟩ | ⟨z,_⟩
   ·rcases zk7 h2 with ⟨a2,b2⟩ | ⟨a2,rfl⟩
    ·rcases zf4 h4 with ⟨_,h4⟩ | ⟨z,_⟩
     ·exact r.inj n m a x x' hne b1 b2 h3 h4
     ·lia
    ·exact .inl (dead b1 h3)
   ·lia
  ·rcases zk7 h2 with ⟨a2,b2⟩ | ⟨a2,_⟩
   ·rcases zf4 h4 with ⟨_,h4⟩ | ⟨z,_⟩
    ·exact .inr (dead b2 h4)
    ·lia
   ·lia
 ·rcases zM9 r.len h with rfl | e
  ·exact hK
  ·exact r.nk a e
 ·have ll:=r.len
  rcases zk7 h1 with ⟨a1,b1⟩ | ⟨a1,rfl⟩
  ·rcases zf4 h2 with ⟨_,h2⟩ | ⟨z,_⟩
   ·exact r.dis n a x b1 h2 h3 h4
   ·lia
  ·obtain ⟨vs,e⟩:=r.rsv a h4
   rw [hp] at e;cases e
 ·obtain ⟨vs,e⟩:=r.rsv a ha
  exact ⟨vs,s _ _ e⟩
theorem zX6 (r:RSt K α st H):(α.add p).adr[st.length]?=some p:=by
 show (α.adr++[p])[st.length]?=some p
 rw [← r.len,List.getElem?_concat_length]
end
section
variable {X:Cx} {C:zb7} {pos:Pos} {es:List Expr} {irs:List E} {t:TA}
theorem zz7 {pins:List (Addr×Obj)} {σ:L2.St} {H:Hp} {s:Shared} (I:Inv X pins σ H s):X.K.lookup s.heap.objs.size=none:=by
 cases e:X.K.lookup s.heap.objs.size with
 | none=>rfl
 | some o=>exact absurd (Heap.lt_size (I.kIn _ _ e)) (Nat.lt_irrefl _)
noncomputable def yM7 (K:Frag) (trs:List (TE×TE)):TE:=fun σ H Q=>∀ p,H p=none→K.lookup p=none→ya6 trs σ (upd H p (.dK [])) fun ps H2=>H2 p=some (.dK [])∧∃ kvs:List (Key×V),ps=kvs.map (fun kv=>(kV kv.1,kv.2))∧kvs.length≤15∧Q (.ref p) (upd H2 p (.dK (zA1 [] kvs)))
theorem yr8 {keys:List (Option Expr)} {values:List Expr} {trs:List (TE×TE)} (h:PPs X pos keys values trs) (hall:keys.all (·.isSome)=true) (hl:keys.length=values.length) (h0:keys≠[])
  (h15:keys.length≤15):PE X (.Dict keys values pos) (yM7 X.K trs):=by
 intro pins s σ H Q I q
 have hn:=I.hok.fresh (Nat.le_refl s.heap.objs.size)
 have I1:=I.laid (a:=s.heap.objs.size) (o:=.dK []) (h':=s.heap.push { cls:=.type "dict", data:=.dict #[] }) (t':=s.toks) (fun _ _ q=>Heap.get?_push_of_some _ q) (Nat.le_refl _) (yv0 s.heap I.big)
 refine wpAny_Dict_walk (knd:=zi6 X.prog X.w) hall hl h0 h15 (thn (h pins _ σ _ _ I1 (q _ hn (zz7 I))) fun ws s2 h_=>?_)
 obtain ⟨ps,H2,I2,rel,e,kvs,ep,lk,q2⟩:=h_
 subst ep
 obtain ⟨rs,c,rk⟩:=zJ1 (P:=X.prog) (w:=X.w) rel
 obtain ⟨z,hd,vs0,r0,dd⟩:=yS6 I2.hok e
 cases r0
 refine ⟨rs,c,dd,fun h' dd' hs=>⟨.ref s.heap.objs.size,_,?_,rfl,q2⟩⟩
 have hz:(zA1 [] kvs).length≤sizeLine:=by
  have h1:=zw3 kvs []
  rw [List.length_nil] at h1
  rw [sizeLine_eq];lia
 have he:∃ q,h'.get? s.heap.objs.size=some q:=let ⟨q,_,_,hq,_⟩:=dd';⟨q,hq⟩
 exact zV9 I2 (by rw [e];exact True.intro) hs he (yA5 hz hd (rk.merge .nil) dd')
noncomputable def yi9:PV→Key
 | .int i=>.inl i
 | .str cs=>.inr ⟨cs.toArray⟩
 | _=>.inl 0
noncomputable def prs (K:Frag) (C:zb7):List PV→List E→List (TE×TE)
 | k::ks,i::is=>(tC (kV (yi9 k)),tP K C i)::prs K C ks is
 | _,_=>[]
theorem yZ0:PPs X pos [] [] (prs X.K C [] []):=yH3
theorem yC2 {k v:Expr} {ks:List (Option Expr)} {vs:List Expr} {pk:PV} {iv:E} {pks:List PV} (hk:PE X k (tC (kV (yi9 pk)))) (hv:SE X C v iv) (hr:PPs X pos ks vs (prs X.K C pks irs)) :
  PPs X pos (some k::ks) (v::vs) (prs X.K C (pk::pks) (iv::irs)):=yq8 hk hv hr
theorem yo6 {x:Str} {j} {cs:List Nat} (h:x=⟨cs.toArray⟩):PE X (.Constant (.str x) j pos) (tC (kV (yi9 (.str cs)))):=by subst h;exact yA3
theorem zI5 {K:Frag}:∀ {ks:List PV} {irs:List E} {env:Env} {α:Al} {st st':za6} {xs:List PV} {σ:L2.St} {H:Hp} {Q:List (V×V)→Hp→Prop},At K α st H env σ→ks.length=irs.length→evalPs C irs env st=.ok xs st' →
  (∀ ps H' α',Ext K α st H α' st' H'→RSt K α' st' H'→(∃ ws,ps=(ks.zip ws).map (fun kv=>(kV (yi9 kv.1),kv.2))∧RPs K H' (zf1 α' st') xs ws)→Q ps H')→ya6 (prs K C ks irs) σ H Q
 | [],[],env,α,st,st',xs,σ,H,Q,at',_,e,q=>by
  rw [zM0] at e
  cases e
  exact q [] H α .refl at'.rs ⟨[],rfl,by rw [RPs]⟩
 | k::ks,i::is,env,α,st,st',xs,σ,H,Q,at',hl,e,q=>by
  rw [zE2] at e
  obtain ⟨x,st1,e1,e⟩:=Res.bindP_inv e
  obtain ⟨ys,st2,e2,e⟩:=Res.bind_inv e
  cases e
  refine ⟨env,α,st,_,st1,at',e1,fun w H1 α1 x1 r1 v1=>?_⟩
  refine zI5 (at'.next x1 r1) (by simpa using hl) e2 fun ps H2 α2 x2 r2 h_=>?_
  obtain ⟨ws,hps,rp⟩:=h_
  refine q _ H2 α2 (x1.trans x2) r2 ⟨w::ws,by rw [hps];rfl,?_⟩
  rw [RPs]
  exact ⟨w,ws,rfl,x2.rp v1,rp⟩
 | [],_::_,_,_,_,_,_,_,_,_,_,hl,_,_=>by cases hl
 | _::_,[],_,_,_,_,_,_,_,_,_,hl,_,_=>by cases hl
theorem zO7 {K:Frag} {H:Hp} {lv:Addr→Prop}:∀ {ks xs:List PV} {ws:List V} {d:List (PV×PV)} {l:List (Key×V)},(∀ k∈ks,zH0 k=true)→RPs K H lv xs ws→RKV K H lv d l →
  RKV K H lv ((ks.zip xs).foldl (fun d p=>zL1 p.1 p.2 d) d) (zA1 l ((ks.zip ws).map fun kv=>(yi9 kv.1,kv.2)))
 | [],xs,ws,d,l,_,_,h=>by
  rw [List.zip_nil_left,List.zip_nil_left]
  exact h
 | k::ks,[],ws,d,l,hk,hx,h=>by
  rw [RPs] at hx
  subst hx
  exact h
 | k::ks,x::xs,ws,d,l,hk,hx,h=>by
  rw [RPs] at hx
  obtain ⟨w,wr,rfl,h1,h2⟩:=hx
  have hkk:keyOf k=some (yi9 k):=by
   have:=hk k (List.mem_cons_self ..)
   cases k <;> first | rfl | cases this
  exact zO7 (ks:=ks) (xs:=xs) (ws:=wr) (d:=zL1 k x d) (l:=zI3 l (yi9 k) w) (fun k' hk'=>hk k' (List.mem_cons_of_mem _ hk')) h2 (yk6 hkk h1 h)
theorem yK1 {keys:List (Option Expr)} {values:List Expr} {ks:List PV} (h:PPs X pos keys values (prs X.K C ks irs)) (hk:ks.all zH0=true) (hl1:ks.length=irs.length) (hall:keys.all (·.isSome)=true) (hl:keys.length=values.length) (h0:keys≠[])
  (h15:keys.length≤15) (hks:ks.length≤15):SE X C (.Dict keys values pos) (.dict ks irs) :=
 PE.mono (yr8 h hall hl h0 h15) fun σ H Q h_=>by
  obtain ⟨env,α,st,v,st',at',e,q⟩:=h_
  rw [yE0] at e
  obtain ⟨xs,st1,e1,e⟩:=Res.bind_inv e
  intro p hp hK
  have ex0:=zV4 (o:=.dct []) (h':=.dK []) at'.rs hp hK
  have rs0:=yq4 (o:=.dct []) (h':=.dK []) at'.rs hp hK (fun xs z=>by cases z) (fun kvs z=>by cases z;exact ⟨[],rfl,by rw [RKV]⟩)
  refine zI5 (at'.next ex0 rs0) hl1 e1 fun ps H2 α2 x2 r2 h_=>?_
  obtain ⟨ws,e2,rp⟩:=h_
  have ha:α2.adr[st.length]?=some p:=x2.pre _ _ (zX6 at'.rs)
  have e:(match zb6 st1 st.length with | some (.dct [])=>Res.ok (Val.ref st.length) (st1.set st.length (.dct ((ks.zip xs).foldl (fun (d:List (PV×PV)) (p:PV×PV)=>zL1 p.1 p.2 d) []))) | _=>.stuck)=.ok v st':=e
  cases hob:zb6 st1 st.length with
  | none=>rw [hob] at e;cases e
  | some ob =>
   rw [hob] at e
   cases ob with
   | lst _=>cases e
   | dead=>cases e
   | dct kv0 =>
    cases kv0 with
    | cons _ _=>cases e
    | nil =>
     cases e
     obtain ⟨a',l,g1,g2,g3⟩:=r2.dct st.length [] hob
     rw [ha] at g1;cases g1
     rw [RKV] at g3
     subst g3
     have hk':∀ k∈ks,zH0 k=true:=List.all_eq_true.mp hk
     have nd:∀ d,zl8.dct d≠.dead:=fun d z=>by cases z
     have ex2:=zG0 (o':=.dct ((ks.zip xs).foldl (fun d p=>zL1 p.1 p.2 d) [])) (h':=.dK (zA1 [] ((ks.zip ws).map fun kv=>(yi9 kv.1,kv.2)))) r2 ha hob (nd _) (nd _)
     have rs2:=zL8 (o':=.dct ((ks.zip xs).foldl (fun d p=>zL1 p.1 p.2 d) [])) (h':=.dK (zA1 [] ((ks.zip ws).map fun kv=>(yi9 kv.1,kv.2)))) r2 ha hob (nd _) (nd _) (fun xs z=>by cases z) (fun kvs z=>by cases z;exact ⟨_,rfl,zO7 hk' rp (by rw [RKV])⟩)
     refine ⟨g2,(ks.zip ws).map (fun kv=>(yi9 kv.1,kv.2)),by rw [e2,List.map_map];rfl,?_,?_⟩
     ·rw [List.length_map,List.length_zip]
      lia
     ·exact q _ _ α2 (ex0.trans (x2.trans ex2)) rs2 ⟨p,rfl,ha⟩
noncomputable def xf4 (K:Frag) (t:TA):TE:=fun σ H Q=>t σ H fun xs H1=>xs.length≤sizeLine∧∀ p,H1 p=none→K.lookup p=none→Q (.ref p) (upd H1 p (.lst xs))
theorem yC9 (h:PA X es t):PE X (.List es pos) (xf4 X.K t):=by
 intro pins s σ H Q I hq
 refine wpAny_List_spliced (thn (h pos pins s σ H _ I hq) fun us s1 ⟨xs,H1,I1,r,z,q⟩=>⟨by rw [← r.length];exact z,?_⟩)
 have hf:H1 s1.heap.objs.size=none:=I1.hok.fresh (Nat.le_refl _)
 refine ⟨.ref s1.heap.objs.size,upd H1 s1.heap.objs.size (.lst xs),I1.laid (t':=s1.toks) (fun b u e=>Heap.get?_push_of_some _ e) (Nat.le_refl _) ?_,rfl,q _ hf (zz7 I1)⟩
 exact ⟨z,us,0,r,Heap.get?_push_size _ rfl⟩
end
open PySem L2 PySem.SeqAt PyProof.Rows
open PySem.Builtin PySem.Builtin.Str
section
variable {X:Cx} {C:zb7} {o:Expr} {io:E} {apos cpos:Pos} {name:Str} {id:String} {m:Mt}
theorem yG6 {g:PV→List PV→Option PV} (slot:Slot "str" name id) (hty:typeOf (.builtin id)=pure (.type "method_descriptor")) (hm:MtS X id g) (ho:SE X C o io)
  (hg:∀ v st,zk3 m v [] st=(match view st v with | some x=>okO (g x []) st | none=>.stuck)) (hstr:∀ x xs z,g x xs=some z→∃ cs,x=.str cs)
  (hbase:attributeBase o name X.env (eval o X.env)=eval o X.env) (hline:(apos.endLine==cpos.line)=true) :
  SE X C (.Call (.Attribute o name apos) [] [] cpos) (.meth m io []) :=
 PE.mono (yx8 PySem.F.plainAttrs_str slot hty hm ho hbase hline) fun σ H Q h_=>by
  obtain ⟨env,α,st,v,st',at',e,q⟩:=h_
  rw [zG3] at e
  obtain ⟨ov,st1,e1,e⟩:=Res.bind_inv e
  obtain ⟨_,st0,e0,e⟩:=Res.bind_inv e
  obtain ⟨⟨x0,hv0⟩,hst⟩:=zv6 e0
  rw [hst] at e
  obtain ⟨vs,st2,e2,e⟩:=Res.bind_inv e
  rw [zs5] at e2
  cases e2
  rw [hg] at e
  cases hx:view st1 ov with
  | none=>rw [hx] at e;cases e
  | some x =>
   rw [hx] at e
   obtain ⟨z,h1,h2,h3⟩:=zq4 e
   subst h2 h3
   obtain ⟨cs,rfl⟩:=hstr _ _ _ h1
   refine ⟨env,α,st,_,st',at',e1,fun w H1 α1 x1 r1 v1=>?_⟩
   have hw:=v1.view r1 hx
   obtain ⟨ew,hl⟩:=hw.str
   subst ew
   exact ⟨rfl,α1,st',.str cs,[],z,r1,hw,.nil,h1,fun w H3 s3 rp=>q w H3 α1 (x1.trans (.of_same r1 s3)) (r1.same s3) rp⟩
theorem zT0:∀ {xs:List PV} {ls:List (List Nat)},zp4 xs=some ls→xs=ls.map .str
 | [],ls,h=>by cases h;rfl
 | .str c::r,ls,h=>by
  have h:(zp4 r).map (c :: ·)=some ls:=h
  obtain ⟨l,h1,rfl⟩:=Option.map_eq_some_iff.mp h
  rw [zT0 h1];rfl
 | .non::_,_,h=>by cases h
 | .bl _::_,_,h=>by cases h
 | .int _::_,_,h=>by cases h
 | .tup _::_,_,h=>by cases h
 | .lst _::_,_,h=>by cases h
noncomputable def txt (cs:List Nat):Str:=⟨cs.toArray⟩
theorem zK3 {K:Frag} {H:Hp} {lv:Addr→Prop}:∀ {ls:List (List Nat)} {vs:List V},RPs K H lv (ls.map .str) vs→vs=ls.map fun c=>V.str (txt c)
 | [],vs,h=>by rw [List.map_nil,RPs] at h;exact h
 | c::r,vs,h=>by
  rw [List.map_cons,RPs] at h
  obtain ⟨v,vr,rfl,h1,h2⟩:=h
  rw [RP] at h1
  rw [h1.1,zK3 h2]
  rfl
theorem zP0:∀ {ls:List (List Nat)} {its:List Value},zg6 (ls.map fun c=>V.str (txt c)) its→StrsAre its (ls.map txt)
 | [],its,h=>by rw [List.map_nil] at h;cases h;exact .nil
 | c::r,its,h=>by
  rw [List.map_cons] at h
  cases h with
  | cons h1 h2 =>
   obtain ⟨t,rfl⟩:=h1
   exact .cons _ t (zP0 h2)
end
open PySem L2 PySem.SeqAt PyProof.Rows
noncomputable def zB4 (scope up:Scope):List (Str×NameKind):=scope.names.map fun (n,k)=>if (k == .free&&up.kind == .function&&up.names.lookup n==some .cell) then (n,.cell) else (n,k)
noncomputable def yw9 (XN:List Str) (sc:Scope):List Nat→List Str→Bool
 | [],_=>true
 | i::caps,x::N=>decide (XN[i]?=some x)&&decide (sc.names.lookup x=some .free)&&yw9 XN sc caps N
 | _::_,[]=>false
noncomputable def yk5 (XN:List Str) (up scope:Scope) (N:List Str) (caps:List Nat) (n:Nat):Bool :=
 decide (scope.kind=.function)&&scope.names.all (fun x=>decide (x.2≠.local) || decide (scope.names.lookup x.1=some .local))&&scope.names.all (fun x=>decide (x.2≠.cell))
 && scope.names.all (fun x=>decide (x.2≠.free) || decide (up.names.lookup x.1=some .cell) || decide (up.names.lookup x.1=some .free))
 && scope.names.all (fun x=>decide (x.2≠.free) || decide ((zB4 scope up).lookup x.1=some .cell) || decide ((zB4 scope up).lookup x.1=some .free))
 && (zB4 scope up).all (fun x=>(decide (x.2≠.cell)&&decide (x.2≠.free)) || decide ((x.1,NameKind.free)∈scope.names))
 && yw9 XN scope caps N&&decide (N.length=caps.length+n)
theorem yy5 {XN:List Str} {sc:Scope}:∀ {caps:List Nat} {N:List Str},yw9 XN sc caps N=true→∀ (j i:Nat),caps[j]?=some i→∃ x,N[j]?=some x∧XN[i]?=some x∧sc.names.lookup x=some .free
 | [],_,_,j,i,e=>by simp at e
 | k::caps,[],h,_,_,_=>by cases h
 | k::caps,x::N,h,j,i,e=>by
  unfold yw9 at h
  rw [Bool.and_eq_true,Bool.and_eq_true] at h
  obtain ⟨⟨h1,h2⟩,h3⟩:=h
  cases j with
  | zero=>simp at e;subst e;exact ⟨x,rfl,of_decide_eq_true h1,of_decide_eq_true h2⟩
  | succ j=>simpa using yy5 h3 j i (by simpa using e)
theorem zf6 {X:Cx} {up scope:Scope} {XN N:List Str} {caps:List Nat} {n:Nat} (hu:X.env.scope=up) (hN:X.N=XN) (h:yk5 XN up scope N caps n=true):zv4 X scope N caps n:=by
 subst hu hN
 unfold yk5 at h
 rw [Bool.and_eq_true,Bool.and_eq_true,Bool.and_eq_true,Bool.and_eq_true,Bool.and_eq_true,Bool.and_eq_true,Bool.and_eq_true] at h
 obtain ⟨⟨⟨⟨⟨⟨⟨h1,h2⟩,h3⟩,h4⟩,h5⟩,h6⟩,h7⟩,h8⟩:=h
 rw [List.all_eq_true] at h2 h3 h4 h5 h6
 have rl:(relabel scope X.env).names=zB4 scope X.env.scope:=rfl
 refine ⟨of_decide_eq_true h1,fun x hx e=>?_,fun x hx=>of_decide_eq_true (h3 x hx),fun x hx e=>?_,fun x e=>?_,fun x e=>?_,yy5 h7,of_decide_eq_true h8⟩
 ·have:=h2 x hx
  rw [Bool.or_eq_true] at this
  rcases this with z | z
  ·exact absurd e (of_decide_eq_true z)
  ·exact of_decide_eq_true z
 ·have:=h4 x hx
  rw [Bool.or_eq_true,Bool.or_eq_true] at this
  rcases this with (z | z) | z
  ·exact absurd e (of_decide_eq_true z)
  ·exact .inl (of_decide_eq_true z)
  ·exact .inr (of_decide_eq_true z)
 ·have:=h5 (x,.free) (zl3 e)
  rw [Bool.or_eq_true,Bool.or_eq_true] at this
  rcases this with (z | z) | z
  ·exact absurd rfl (of_decide_eq_true z)
  ·exact ⟨_,by rw [rl];exact of_decide_eq_true z,.inl rfl⟩
  ·exact ⟨_,by rw [rl];exact of_decide_eq_true z,.inr rfl⟩
 ·rw [rl] at e
  rcases e with e | e
  ·have:=h6 (x,.cell) (zl3 e)
   rw [Bool.or_eq_true,Bool.and_eq_true] at this
   rcases this with z | z
   ·exact absurd rfl (of_decide_eq_true z.1)
   ·exact of_decide_eq_true z
  ·have:=h6 (x,.free) (zl3 e)
   rw [Bool.or_eq_true,Bool.and_eq_true] at this
   rcases this with z | z
   ·exact absurd rfl (of_decide_eq_true z.2)
   ·exact of_decide_eq_true z
section
variable {X:Cx} {C:zb7}
theorem sv (i:Nat) {x:Str} {pos:Pos} (hN:X.N[i]?=some x) (hv:Vis X.env.scope x) (hd:(x==("__debug__" : Str))=false)
  (hcd:(x==("__classdict__" : Str))=false):SE X C (.Name x pos) (.var i):=yQ4 hN hv hd hcd
theorem pts0:PTs X [] (tTs X.K C none):=yJ7
theorem pts1 {c:Expr} {ic:E} (h:ST X C c ic):PTs X [c] (tTs X.K C (some ic)):=yK2 h
noncomputable def zr9:List (List Nat)→List Tok→List Value
 | c::cs,t::ts=>.str ⟨c.toArray⟩ t::zr9 cs ts
 | _,_=>[]
theorem xc7 {x:Str} {a:Addr} {pos:Pos} {its:Array Value} {n:Nat} {sl:Array (Option Value)} {oc:Value} {cs:List (List Nat)} {ts:List Tok} (hg:Gl X x) (hm:X.mg x=some (.ref a)) (hk:X.K.lookup a=some ⟨oc,none,.seq its n,sl⟩) (hoc:oc=.type "tuple")
  (hi:its.toList=zr9 cs ts) (hts:ts.length=cs.length) (hl:cs.length≤1000) (hcs:cs.all (fun c=>decide (c.length≤1000))=true) (hd:(x==("__debug__" : Str))=false:=by decide):SE X C (.Name x pos) (.const (.tup (cs.map .str))) :=
 yQ7 (v:=.ref a) (yF6 hg hm rfl hd) fun H lv=>by
  subst hoc
  have vs:∀ {cs:List (List Nat)} {ts:List Tok},ts.length=cs.length→zg6 (cs.map fun c=>V.str ⟨c.toArray⟩) (zr9 cs ts):=by
   intro cs
   induction cs with
   | nil=>intro ts h;cases ts;exact .nil;cases h
   | cons c cs ih =>
    intro ts h
    cases ts with
    | nil=>cases h
    | cons t ts=>exact .cons ⟨t,rfl⟩ (ih (by simpa using h))
  have rp:∀ {cs:List (List Nat)},cs.all (fun c=>decide (c.length≤1000))=true→RPs X.K H lv (cs.map .str) (cs.map fun c=>V.str ⟨c.toArray⟩):=by
   intro cs
   induction cs with
   | nil=>intro _;rw [List.map_nil,List.map_nil,RPs]
   | cons c cs ih =>
    intro h
    rw [List.all_cons,Bool.and_eq_true] at h
    rw [List.map_cons,List.map_cons,RPs]
    exact ⟨_,_,rfl,by rw [RP];exact ⟨rfl,Nat.le_trans (of_decide_eq_true h.1) (by decide)⟩,ih h.2⟩
  have sl':∀ {cs:List (List Nat)} {ts:List Tok},ts.length=cs.length→(zr9 cs ts).length=cs.length:=by
   intro cs
   induction cs with
   | nil=>intro ts h;cases ts;rfl;cases h
   | cons c cs ih =>
    intro ts h
    cases ts with
    | nil=>cases h
    | cons t ts=>show (zr9 cs ts).length+1=cs.length+1;rw [ih (by simpa using h)]
  rw [RP]
  refine ⟨a,_,rfl,.inr ⟨_,its,n,hk,rfl,rfl,rfl,?_,by rw [hi];exact vs hts⟩,rp hcs⟩
  rw [← Array.length_toList,hi,sl' hts]
  exact Nat.le_trans hl (by decide)
end
theorem g_find (v:Val) (vs:List Val) (st:za6):zk3 .find v vs st=(match zj4 st vs with | some xs=>(match view st v with | some x=>okO (yT7 x xs) st | none=>.stuck) | none=>.stuck):=by
 show (match zj4 st vs with | some xs=>zx2 .find v xs st | none=>.stuck)=_
 cases zj4 st vs with
 | none=>rfl
 | some xs=>rfl
theorem yH0 (v:Val) (st:za6):zk3 .upper v [] st=(match view st v with | some x=>okO (yi6 x []) st | none=>.stuck):=rfl
theorem yB5:∀ x xs z,yi6 x xs=some z→∃ cs,x=.str cs:=by
 intro x xs z h
 cases x <;> first | exact ⟨_,rfl⟩ | cases h
open PySem L2 PySem.SeqAt PyProof.Rows
noncomputable def al0:Al:=⟨[],fun _=>False⟩
theorem yg8 {K:Frag} {H:Hp}:RSt K al0 [] H:=by
 have no:∀ {n:Nat} {o:zl8},zb6 [] n=some o→False:=fun {n o} h=>by unfold zb6 at h;simp at h
 refine ⟨rfl,fun n xs h=>(no h).elim,fun n kvs h=>(no h).elim,fun n m a o o' _ _ _ h _=>(no h).elim,fun a h=>?_,fun n a o _ h _=>(no h).elim,fun a h=>h.elim⟩
 rcases h with h | ⟨n,o,_,h,_⟩
 ·exact h.elim
 ·exact (no h).elim
theorem zC8 {K:Frag} {H:Hp} {lv:Addr→Prop}:∀ ns:List Int,RPs K H lv (ns.map .int) (ns.map .int)
 | []=>by rw [List.map_nil,List.map_nil,RPs]
 | i::r=>by rw [List.map_cons,List.map_cons,RPs];exact ⟨_,_,rfl,by rw [RP],zC8 r⟩
theorem yi8 {K:Frag} {H:Hp} {a:Addr} {ns:List Int} (h:SqL K H a (ns.map V.int)):Paired (RV K al0 [] H) [.p (.lst (ns.map .int))] [.ref a]:=by
 refine .cons ?_ .nil
 show RP K H (zf1 al0 []) (.lst (ns.map .int)) (.ref a)
 rw [RP]
 refine ⟨a,_,rfl,h,fun l=>?_,zC8 ns⟩
 rcases l with l | ⟨n,o,_,l,_⟩
 ·exact l
 ·unfold zb6 at l;simp at l
section
variable {K:Frag} {α:Al} {st:za6} {H:Hp} {n:Nat} {a:Addr} {o:zl8}
end
section
variable {X:Cx} {C:zb7} {W:Nat} {e a b:Expr} {ie ia ib:E} {pos:Pos}
noncomputable def tF (K:Frag) (C:zb7) (ir:E):TE:=fun σ H Q=>∃ env α st xs st',At K α st H env σ∧evalE C ir env st=.ok (.p (.lst xs)) st' ∧
 ∀ p H' α' ws,Ext K α st H α' st' H'→RSt K α' st' H'→H' p=none→K.lookup p=none→RPs K H' (zf1 α' st') xs ws→Q (.ref p) (upd H' p (.lst ws))
noncomputable abbrev SF (X:Cx) (C:zb7) (e:Expr) (ir:E):Prop:=PE X e (tF X.K C ir)
theorem yG4 (h:SF X C e ie):SE X C e (.thaw ie) :=
 PE.mono h fun σ H Q h_=>by
  obtain ⟨env,α,st,v,st',at',e,q⟩:=h_
  rw [yn9] at e
  obtain ⟨x,st1,e1,e⟩:=Res.bindP_inv e
  cases x with
  | lst xs =>
   cases e
   refine ⟨env,α,st,xs,st1,at',e1,fun p H1 α1 ws x1 r1 hp hK rp=>?_⟩
   have ex:=zV4 (o:=.lst xs) (h':=.lst ws) r1 hp hK
   have rs:=yq4 (o:=.lst xs) (h':=.lst ws) r1 hp hK (fun ys z=>by cases z;exact ⟨ws,rfl,rp⟩) (fun kvs z=>by cases z)
   exact q _ _ _ (x1.trans ex) rs ⟨p,rfl,zX6 r1⟩
  | _=>cases e
theorem yM0 {es:List Expr} {irs:List E} (h:SA X C es irs) (hl:es.length≤1000) (hi:irs.length=es.length):SF X C (.List es pos) (.list false irs) :=
 PE.mono (yC9 h) fun σ H Q h_=>by
  obtain ⟨env,α,st,xs,st',at',e,q⟩:=h_
  rw [yk3] at e
  obtain ⟨ys,st1,e1,e⟩:=Res.bind_inv e
  simp only [mk,Bool.false_eq_true,if_false] at e
  cases e
  refine ⟨env,α,st,_,st',at',zJ8 e1,fun ws H1 α1 x1 r1 p=>?_⟩
  have rp:=zX0 p
  refine ⟨?_,fun a ha hK=>q a H1 α1 ws x1 r1 ha hK rp⟩
  rw [← rp.length,zB5 e1,hi]
  exact Nat.le_trans hl (by decide)
theorem yD5:OpR X (binaryOp .Add) (fun x y H Q=>∃ l1 l2 vs ws,x=.ref l1∧y=.ref l2∧SqL X.K H l1 vs∧SqL X.K H l2 ws∧vs.length+ws.length≤sizeLine∧∀ p,H p=none→X.K.lookup p=none→Q (.ref p) (upd H p (.lst (vs++ws)))):=by
 rintro pins s σ H x y v u Q I rx ry ⟨l1,l2,vs,ws,e1,e2,h1,h3,hl,q⟩
 subst e1 e2
 cases rx
 cases ry
 obtain ⟨its,r1,p1,_⟩:=I.list h1
 obtain ⟨its2,r2,p2,_⟩:=I.list h3
 obtain ⟨⟨cls,dd,data,sl⟩,n,ho,hc,_,hd⟩:=id p1
 obtain ⟨⟨cls2,dd2,data2,sl2⟩,n2,ho2,hc2,_,hd2⟩:=id p2
 simp only at hc hd hc2 hd2
 subst hc hd hc2 hd2
 have q1:=r1.length
 have q2:=r2.length
 refine PySem.concat_meets ⟨_,ho,rfl⟩ ⟨_,ho2,rfl⟩ PySem.noFill_list_add PySem.seq_list_add PySem.F.slot_list_add PySem.F.entry_list_add (PySem.F.args_list_add_2 _ _) (PyProof.Rows.list_addW l1 l2 its.toArray its2.toArray n n2 dd dd2 sl sl2 (by simp;lia)) ⟨ho,ho2,?_⟩
 have ea:its.toArray++its2.toArray=(its++its2).toArray:=by simp
 rw [ea]
 exact ⟨.ref _,_,I.lnew (t':=s.toks) (r1.append r2) (by rw [List.length_append];lia),rfl,q _ I.fresh (zz7 I)⟩
theorem yO1 (ha:SE X C a ia) (hb:SE X C b ib):SF X C (.BinOp a .Add b pos) (.bin .add ia ib) :=
 PE.mono (yU0 yD5 ha hb) fun σ H Q h_=>by
  obtain ⟨env,α,st,xs,st',at',e,q⟩:=h_
  rw [zb1] at e
  obtain ⟨va,st1,e1,e⟩:=Res.bind_inv e
  obtain ⟨vb,st2,e2,e⟩:=Res.bind_inv e
  obtain ⟨x,y,u,h1,h2,h3,h4,h5⟩:=zL3 e
  cases h4
  subst h5
  refine ⟨env,α,st,va,st1,at',e1,fun w H1 α1 x1 r1 v1=>?_⟩
  refine ⟨env,α1,st1,vb,st',at'.next x1 r1,e2,fun w2 H2 α2 x2 r2 v2=>?_⟩
  have wx:=(x2.rv v1).view r2 h1
  have wy:=v2.view r2 h2
  have h3:xc4 x y=some (.lst xs):=h3
  cases x <;> cases y <;> simp only [xc4,Option.ite_none_right_eq_some,reduceCtorEq,Option.some.injEq,PV.lst.injEq,false_and,and_false] at h3
  obtain ⟨hl,rfl⟩:=h3
  rw [zG8] at hl
  obtain ⟨l1,vs,rfl,g1,g2⟩:=wx.lst
  obtain ⟨l2,ws,rfl,g3,g4⟩:=wy.lst
  have k1:=g2.length
  have k2:=g4.length
  exact ⟨l1,l2,vs,ws,rfl,rfl,g1,g3,by lia,fun p hp hK=>q p H2 α2 _ (x1.trans x2) r2 hp hK (g2.append g4)⟩
end
open PySem L2 PySem.SeqAt PyProof.Rows
section
variable {X:Cx} {C:zb7} {o e:Expr} {es:List Expr} {io:E} {irs:List E} {apos cpos:Pos} {name:Str} {id:String} {m:Mt}
def MtL (X:Cx) (id:String) (g:List PV→List PV→Option (PV×List PV)):Prop :=
 MtR X id fun x ws H Q=>∃ α st a l vs xs z l',RSt X.K α st H∧x=.ref a∧H a=some (.lst vs)∧RPs X.K H (zf1 α st) l vs∧Paired (RW X.K α st H) xs ws∧g xs l=some (z,l') ∧
  ∀ w vs',RP X.K H (zf1 α st) z w→RPs X.K H (zf1 α st) l' vs'→Q w (upd H a (.lst vs'))
def MtK (X:Cx) (id:String) (g:List PV→List PV→Option (PV×List PV)):Prop :=
 MtR X id fun x ws H Q=>∃ α st a l vs xs z l',RSt X.K α st H∧x=.ref a∧H a=some (.lst vs)∧RPs X.K H (zf1 α st) l vs∧RPs X.K H (zf1 α st) xs ws∧g xs l=some (z,l') ∧
  ∀ w vs',RP X.K H (zf1 α st) z w→RPs X.K H (zf1 α st) l' vs'→Q w (upd H a (.lst vs'))
theorem zX4 {K:Frag} {α:Al} {st:za6} {H:Hp}:∀ {vs:List Val} {ws:List V} {xs:List PV},Paired (RV K α st H) vs ws→yb2 vs=some xs→RPs K H (zf1 α st) xs ws
 | [],ws,xs,h,e=>by cases h;cases e;rw [RPs]
 | .ref _::_,ws,xs,h,e=>by cases e
 | .p x::r,ws,xs,h,e=>by
  cases h with
  | cons q t =>
   unfold yb2 at e
   cases e2:yb2 r with
   | none=>rw [e2] at e;cases e
   | some ys =>
    rw [e2] at e
    cases e
    rw [RPs]
    exact ⟨_,_,rfl,q,zX4 t e2⟩
theorem zC7 {ov:Val} {st st':za6} {g:List PV→Option (PV×List PV)} {v:Val} (h:zp7 ov st g=.ok v st'):∃ n l z l',ov=.ref n∧zb6 st n=some (.lst l)∧g l=some (z,l')∧v=.p z∧st'=st.set n (.lst l'):=by
 cases ov with
 | p _=>cases h
 | ref n =>
  have h:(match zM5 st n with | some l=>(match g l with | some (x,l')=>Res.ok (Val.p x) (st.set n (.lst l')) | none=>.stuck) | none=>.stuck)=.ok v st':=h
  unfold zM5 at h
  cases ho:zb6 st n with
  | none=>rw [ho] at h;cases h
  | some ob =>
   rw [ho] at h
   cases ob with
   | dct _=>cases h
   | dead=>cases h
   | lst l =>
    simp only at h
    cases hg:g l with
    | none=>rw [hg] at h;cases h
    | some p =>
     obtain ⟨z,l'⟩:=p
     rw [hg] at h
     cases h
     exact ⟨n,l,z,l',rfl,ho,hg,rfl,rfl⟩
theorem zU1 {K:Frag} {α:Al} {st:za6} {H:Hp} {n:Nat} {a:Addr} {l l':List PV} {vs':List V} (r:RSt K α st H) (ha:α.adr[n]?=some a) (ho:zb6 st n=some (.lst l)) (h:RPs K H (zf1 α st) l' vs') :
  Ext K α st H α (st.set n (.lst l')) (upd H a (.lst vs'))∧RSt K α (st.set n (.lst l')) (upd H a (.lst vs')):=by
 have nd:∀ l,zl8.lst l≠.dead:=fun l z=>by cases z
 exact ⟨zG0 r ha ho (nd _) (nd _),zL8 r ha ho (nd _) (nd _) (fun xs z=>by cases z;exact ⟨_,rfl,h⟩) fun kvs z=>by cases z⟩
theorem yg1 {K:Frag} {α:Al} {st:za6} {H:Hp} {n:Nat} {a:Addr} {x:PV} (r:RSt K α st H) (ha:α.adr[n]?=some a) (hv:view st (.ref n)=some x):tyV K "list" (.ref a) H:=by
 have w0:=(show RV K α st H (.ref n) (.ref a) from ⟨a,rfl,ha⟩).view r hv
 have hx:∃ xs,x=.lst xs:=by
  have h:(match zb6 st n with | some (.lst xs)=>some (PV.lst xs) | _=>none)=some x:=hv
  split at h
  ·exact ⟨_,(Option.some.inj h).symm⟩
  ·cases h
 obtain ⟨ys,rfl⟩:=hx
 obtain ⟨b,us,eb,h1,_⟩:=w0.lst
 cases eb
 exact .inl ⟨rfl,us,h1⟩
theorem yU3 {g:List PV→List PV→Option (PV×List PV)} (slot:Slot "list" name id) (hty:typeOf (.builtin id)=pure (.type "method_descriptor")) (hm:MtL X id g) (ho:SE X C o io) (ha:SA X C (e::es) irs)
  (hg:∀ v vs st,zk3 m v vs st=(match zj4 st vs with | some xs=>zp7 v st (g xs) | none=>.stuck))
  (hbase:attributeBase o name X.env (eval o X.env)=eval o X.env)
  (hfew:((backTo cpos (starEach (e::es) X.env)).all (fun x=>!x.1)&&(backToKw cpos (keywordEach [] X.env)).all (fun x=>x.1.isSome)
   && decide ((e::es).length+([]:List Keyword).length+(if ([]:List Keyword).isEmpty then 0 else 1)<30))=true)
  (hline:(apos.endLine==cpos.line)=true) (hs:starEach (e::es) X.env=(false,eval e X.env)::starEach es X.env) (hplain:(backTo cpos (starEach es X.env)).any (·.1)=false) :
  SE X C (.Call (.Attribute o name apos) (e::es) [] cpos) (.meth m io irs) :=
 PE.mono (yG3 PySem.F.plainAttrs_list slot hty hm ho ha hbase hfew hline hs hplain) fun σ H Q h_=>by
  obtain ⟨env,α,st,v,st',at',e,q⟩:=h_
  rw [zG3] at e
  obtain ⟨ov,st1,e1,e⟩:=Res.bind_inv e
  obtain ⟨_,st0,e0,e⟩:=Res.bind_inv e
  obtain ⟨⟨x0,hv0⟩,hst⟩:=zv6 e0
  rw [hst] at e
  obtain ⟨vs,st2,e2,e⟩:=Res.bind_inv e
  rw [hg] at e
  cases hv:zj4 st2 vs with
  | none=>rw [hv] at e;cases e
  | some xs =>
   rw [hv] at e
   obtain ⟨n,l,z,l',rfl,hob,hgz,rfl,rfl⟩:=zC7 e
   refine ⟨env,α,st,_,st1,at',e1,fun w H1 α1 x1 r1 v1=>?_⟩
   obtain ⟨a,rfl,ha⟩:=v1
   refine ⟨yg1 r1 ha hv0,env,α1,st1,vs,st2,at'.next x1 r1,e2,fun ws H2 α2 x2 r2 pr=>?_⟩
   ·have ha2:=x2.pre n a ha
    obtain ⟨a',us,g1,g2,g3⟩:=r2.lst n l hob
    rw [ha2] at g1;cases g1
    refine ⟨α2,st2,a,l,us,xs,z,l',r2,rfl,g2,g3,zC3 r2 pr hv,hgz,fun w us' rw' rps'=>?_⟩
    obtain ⟨c1,c2⟩:=zU1 r2 ha2 hob rps'
    exact q w _ α2 (x1.trans (x2.trans c1)) c2 (c1.rp rw')
theorem yR2 {g:List PV→List PV→Option (PV×List PV)} (slot:Slot "list" name id) (hty:typeOf (.builtin id)=pure (.type "method_descriptor")) (hm:MtK X id g) (ho:SE X C o io) (ha:SA X C (e::es) irs)
  (hg:∀ v vs st,zk3 m v vs st=(match yb2 vs with | some xs=>zp7 v st (g xs) | none=>.stuck))
  (hbase:attributeBase o name X.env (eval o X.env)=eval o X.env)
  (hfew:((backTo cpos (starEach (e::es) X.env)).all (fun x=>!x.1)&&(backToKw cpos (keywordEach [] X.env)).all (fun x=>x.1.isSome)
   && decide ((e::es).length+([]:List Keyword).length+(if ([]:List Keyword).isEmpty then 0 else 1)<30))=true)
  (hline:(apos.endLine==cpos.line)=true) (hs:starEach (e::es) X.env=(false,eval e X.env)::starEach es X.env) (hplain:(backTo cpos (starEach es X.env)).any (·.1)=false) :
  SE X C (.Call (.Attribute o name apos) (e::es) [] cpos) (.meth m io irs) :=
 PE.mono (yG3 PySem.F.plainAttrs_list slot hty hm ho ha hbase hfew hline hs hplain) fun σ H Q h_=>by
  obtain ⟨env,α,st,v,st',at',e,q⟩:=h_
  rw [zG3] at e
  obtain ⟨ov,st1,e1,e⟩:=Res.bind_inv e
  obtain ⟨_,st0,e0,e⟩:=Res.bind_inv e
  obtain ⟨⟨x0,hv0⟩,hst⟩:=zv6 e0
  rw [hst] at e
  obtain ⟨vs,st2,e2,e⟩:=Res.bind_inv e
  rw [hg] at e
  cases hv:yb2 vs with
  | none=>rw [hv] at e;cases e
  | some xs =>
   rw [hv] at e
   obtain ⟨n,l,z,l',rfl,hob,hgz,rfl,rfl⟩:=zC7 e
   refine ⟨env,α,st,_,st1,at',e1,fun w H1 α1 x1 r1 v1=>?_⟩
   obtain ⟨a,rfl,ha⟩:=v1
   refine ⟨yg1 r1 ha hv0,env,α1,st1,vs,st2,at'.next x1 r1,e2,fun ws H2 α2 x2 r2 pr=>?_⟩
   have ha2:=x2.pre n a ha
   obtain ⟨a',us,g1,g2,g3⟩:=r2.lst n l hob
   rw [ha2] at g1;cases g1
   refine ⟨α2,st2,a,l,us,xs,z,l',r2,rfl,g2,g3,zX4 pr hv,hgz,fun w us' rw' rps'=>?_⟩
   obtain ⟨c1,c2⟩:=zU1 r2 ha2 hob rps'
   exact q w _ α2 (x1.trans (x2.trans c1)) c2 (c1.rp rw')
theorem yI0 {g:List PV→List PV→Option (PV×List PV)} (slot:Slot "list" name id) (hty:typeOf (.builtin id)=pure (.type "method_descriptor")) (hm:MtL X id g) (ho:SE X C o io)
  (hg:∀ v st,zk3 m v [] st=zp7 v st (g []))
  (hbase:attributeBase o name X.env (eval o X.env)=eval o X.env) (hline:(apos.endLine==cpos.line)=true) :
  SE X C (.Call (.Attribute o name apos) [] [] cpos) (.meth m io []) :=
 PE.mono (yx8 PySem.F.plainAttrs_list slot hty hm ho hbase hline) fun σ H Q h_=>by
  obtain ⟨env,α,st,v,st',at',e,q⟩:=h_
  rw [zG3] at e
  obtain ⟨ov,st1,e1,e⟩:=Res.bind_inv e
  obtain ⟨_,st0,e0,e⟩:=Res.bind_inv e
  obtain ⟨⟨x0,hv0⟩,hst⟩:=zv6 e0
  rw [hst] at e
  obtain ⟨vs,st2,e2,e⟩:=Res.bind_inv e
  rw [zs5] at e2
  cases e2
  rw [hg] at e
  obtain ⟨n,l,z,l',rfl,hob,hgz,rfl,rfl⟩:=zC7 e
  refine ⟨env,α,st,_,st1,at',e1,fun w H1 α1 x1 r1 v1=>?_⟩
  obtain ⟨a,rfl,ha⟩:=v1
  obtain ⟨a',us,g1,g2,g3⟩:=r1.lst n l hob
  rw [ha] at g1;cases g1
  refine ⟨yg1 r1 ha hv0,α1,st1,a,l,us,[],z,l',r1,rfl,g2,g3,.nil,hgz,fun w us' rw' rps'=>?_⟩
  obtain ⟨c1,c2⟩:=zU1 r1 ha hob rps'
  exact q w _ α1 (x1.trans c1) c2 (c1.rp rw')
theorem zB3:MtK X "list.append" zt9:=by
 rintro pins s σ H x ws v us Q I rx rs ⟨α,st,a,l,vs,xs,z,l',r,e,hH,hl,hx,hg,q⟩
 subst e
 unfold zt9 at hg
 match xs,hx,hg with
 | [],_,hg=>cases hg
 | _::_::_,_,hg=>cases hg
 | [y],hx,hg =>
  have hg:(if l.length<SZ then some (PV.non,l++[y]) else none)=some (z,l'):=hg
  by_cases hc:l.length<SZ
  ·rw [if_pos hc] at hg
   cases hg
   rw [RPs] at hx
   obtain ⟨w,wr,rfl,h1,h2⟩:=hx
   rw [RPs] at h2
   subst h2
   rw [zG8] at hc
   exact zE0 pins s σ H _ _ v us Q I rx rs ⟨a,vs,w,rfl,rfl,hH,by rw [← hl.length];exact hc,q _ _ (by rw [RP]) (hl.snoc h1)⟩
  ·rw [if_neg hc] at hg;cases hg
theorem RPs.reverse {K:Frag} {H:Hp} {lv:Addr→Prop}:∀ {xs:List PV} {vs:List V},RPs K H lv xs vs→RPs K H lv xs.reverse vs.reverse
 | [],vs,h=>by rw [RPs] at h;subst h;rw [List.reverse_nil,List.reverse_nil,RPs]
 | x::r,vs,h=>by
  rw [RPs] at h
  obtain ⟨v,vr,rfl,h1,h2⟩:=h
  rw [List.reverse_cons,List.reverse_cons]
  exact (RPs.reverse h2).snoc h1
theorem yl1:MtL X "list.reverse" zB7:=by
 rintro pins s σ H x ws v us Q I rx rs ⟨α,st,a,l,vs,xs,z,l',r,e,hH,hl,hx,hg,q⟩
 subst e
 unfold zB7 at hg
 cases hx with
 | cons _ _=>cases hg
 | nil =>
  cases hg
  exact yd8 pins s σ H _ _ v us Q I rx rs ⟨a,vs,rfl,rfl,hH,q _ _ (by rw [RP]) hl.reverse⟩
theorem zB1 (v:Val) (vs:List Val) (st:za6):zk3 .append v vs st=(match yb2 vs with | some xs=>zp7 v st (zt9 xs) | none=>.stuck):=by
 show (match yb2 vs with | some xs=>zx2 .append v xs st | none=>.stuck)=_
 cases yb2 vs <;> rfl
theorem yq3 (v:Val) (st:za6):zk3 .reverse v [] st=zp7 v st (zB7 []):=by rw [yE8];rfl
end
open PySem L2 PySem.SeqAt PyProof.Rows
section
variable {X:Cx} {C:zb7} {W:Nat} {es:List Expr} {is:List Nat} {pos:Pos}
theorem PGs.mono {t t':TGs} (h:PGs X es t) (m:∀ vs σ H Q,t' vs σ H Q→t vs σ H Q):PGs X es t':=fun pins s σ H vs us Q I r q=>h pins s σ H vs us Q I r (m _ _ _ _ q)
noncomputable def yz1 (is:List Nat) (xs:List PV) (env:Env):Env:=(is.zip xs).foldl (fun e p=>e.set p.1 (some (.p p.2))) env
noncomputable def tGs (K:Frag) (is:List Nat):TGs:=fun vs σ H Q=>∃ env α st xs,At K α st H env σ∧RPs K H (zf1 α st) xs vs∧xs.length=is.length∧∀ σ',At K α st H (yz1 is xs env) σ'→Q σ' H
theorem yB7:PGs X [] (tGs X.K []):=PGs.mono yF5 fun vs σ H Q h_=>by
 obtain ⟨env,α,st,xs,at',rp,hl,q⟩:=h_
 have e:xs=[]:=List.eq_nil_of_length_eq_zero (by simpa using hl)
 subst e
 rw [RPs] at rp
 exact ⟨rp,q σ at'⟩
theorem yt9 {i:Nat} {x:Str} (hN:X.N.Nodup) (hi:X.N[i]?=some x) (hx:Loc X.env.scope x) (h:PGs X es (tGs X.K is)) (hf:X.fn x=true∨X.env.scope.names.lookup x=some .local)
  (hs:(assignEach (.Name x pos::es) X.env).map (·.2)=assign (.Name x pos) X.env::(assignEach es X.env).map (·.2)):PGs X (.Name x pos::es) (tGs X.K (i::is)) :=
 PGs.mono (yu9 (ym9 hN hi hx hf) h hs) fun vs σ H Q h_=>by
  obtain ⟨env,α,st,xs,at',rp,hl,q⟩:=h_
  cases xs with
  | nil=>cases hl
  | cons y ys =>
   rw [RPs] at rp
   obtain ⟨v,vr,rfl,h1,h2⟩:=rp
   exact ⟨v,vr,rfl,env.set i (some (.p y)),α,st,ys,at'.set h1,h2,by simpa using hl,q⟩
theorem yZ1 {k:Nat} (hc:X.calm=true) (h:PGs X es (tGs X.K is)) (hn:(assignEach es X.env).length=is.length) (hst:(assignEach es X.env).findIdx? (·.1)=none):SG X (.Tuple es k pos) (.tup is) :=
 PG.mono (yP1 hc h hn hst) fun v σ H Q h_=>by
  obtain ⟨env,α,st,x,env',at',rp,e,q⟩:=h_
  cases x with
  | tup xs =>
   have e:(if is.length=xs.length then some (yz1 is xs env) else none)=some env':=e
   by_cases hl:is.length=xs.length
   ·rw [if_pos hl] at e
    cases e
    rw [RP] at rp
    obtain ⟨a,vs,rfl,h1,h2⟩:=rp
    exact ⟨a,vs,rfl,h1,by rw [← h2.length,hl],env,α,st,xs,at',h2,hl.symm,q⟩
   ·rw [if_neg hl] at e;cases e
  | _=>cases e
end
open PySem L2 PySem.SeqAt PyProof.Rows
section
variable {X:Cx} {pins:List (Addr×Obj)} {σ:L2.St} {H:Hp} {s:Shared} {lv:Addr→Prop}
theorem yd2 {α:Al} {st:za6} (I:Inv X pins σ H s) {n:Nat}
  (ih:0<n→∀ (px py:PV) (x y:V) (v u:Value) (A:Around),RW X.K α st H px x→RW X.K α st H py y→RelV x v→RelV y u→(dep px≤n - 1∨dep py≤n - 1)→A.units+(n - 1)+1<cLine→RcAt A s v u (pyEq px py)∧EqAt A s v u (pyEq px py))
  (px py:PV) (x y:V) (v u:Value) (A:Around) (hx:RW X.K α st H px x) (hy:RW X.K α st H py y) (rx:RelV x v) (ry:RelV y u) (hd:dep px≤n∨dep py≤n) (hu:A.units+n+1<cLine) :
  RcNeAt A s v u (!pyEq px py):=by
 have hu0:A.units<cLine:=by lia
 have seqT:∀ {xs:List PV} {w:V} {uu:Value},RW X.K α st H (.tup xs) w→RelV w uu→∃ a vs its,w=.ref a∧uu=.ref a∧RPs X.K H (zf1 α st) xs vs∧zg6 vs its∧s.heap.IsTuple a its.toArray:=fun h r=>by
  obtain ⟨a,vs,rfl,h1,h2⟩:=h.tup
  cases r
  obtain ⟨its,r1,p,_⟩:=I.tuple h1
  exact ⟨a,vs,its,rfl,rfl,h2,r1,p⟩
 have seqL:∀ {xs:List PV} {w:V} {uu:Value},RW X.K α st H (.lst xs) w→RelV w uu→∃ a vs its,w=.ref a∧uu=.ref a∧RPs X.K H (zf1 α st) xs vs∧zg6 vs its∧s.heap.IsList a its.toArray:=fun h r=>by
  obtain ⟨a,vs,rfl,h1,h2⟩:=h.lst
  cases r
  obtain ⟨its,r1,p,_⟩:=I.list h1
  exact ⟨a,vs,its,rfl,rfl,h2,r1,p.isList⟩
 cases px with
 | non =>
  cases py with
  | non =>
   obtain rfl:x=V.non:=hx.non
   obtain rfl:v=Value.none:=rx
   obtain rfl:y=V.non:=hy.non
   obtain rfl:u=Value.none:=ry
   have e:pyEq .non .non=true:=by simp [pyEq]
   rw [e]
   exact .none_none
  | bl e2 =>
   obtain rfl:x=V.non:=hx.non
   obtain rfl:v=Value.none:=rx
   obtain rfl:=hy.bl
   obtain rfl:u=Value.bool _:=ry
   have e:pyEq .non (.bl e2)=false:=by simp [pyEq]
   rw [e]
   exact .none_bool _
  | int e2 =>
   obtain rfl:x=V.non:=hx.non
   obtain rfl:v=Value.none:=rx
   obtain rfl:=hy.int
   obtain ⟨t',rfl⟩:=ry
   have e:pyEq .non (.int e2)=false:=by simp [pyEq]
   rw [e]
   exact .none_int _ _
  | str e2 =>
   obtain rfl:x=V.non:=hx.non
   obtain rfl:v=Value.none:=rx
   obtain rfl:=hy.str.1
   obtain ⟨t',rfl⟩:=ry
   have e:pyEq .non (.str e2)=false:=by simp [pyEq]
   rw [e]
   exact .none_str _ _
  | tup e2 =>
   obtain rfl:x=V.non:=hx.non
   obtain rfl:v=Value.none:=rx
   obtain ⟨b,ws,its2,rfl,rfl,q2,r2,p2⟩:=seqT hy ry
   have e:pyEq .non (.tup e2)=false:=by simp [pyEq]
   rw [e]
   exact .none_tuple p2 hu0
  | lst e2 =>
   obtain rfl:x=V.non:=hx.non
   obtain rfl:v=Value.none:=rx
   obtain ⟨b,ws,its2,rfl,rfl,q2,r2,p2⟩:=seqL hy ry
   have e:pyEq .non (.lst e2)=false:=by simp [pyEq]
   rw [e]
   exact .none_list p2 hu0
 | bl e1 =>
  cases py with
  | non =>
   obtain rfl:=hx.bl
   obtain rfl:v=Value.bool _:=rx
   obtain rfl:y=V.non:=hy.non
   obtain rfl:u=Value.none:=ry
   have e:pyEq (.bl e1) .non=false:=by simp [pyEq]
   rw [e]
   exact .bool_none _
  | bl e2 =>
   obtain rfl:=hx.bl
   obtain rfl:v=Value.bool _:=rx
   obtain rfl:=hy.bl
   obtain rfl:u=Value.bool _:=ry
   rw [pyEq]
   exact .bool_bool _ _
  | int e2 =>
   obtain rfl:=hx.bl
   obtain rfl:v=Value.bool _:=rx
   obtain rfl:=hy.int
   obtain ⟨t',rfl⟩:=ry
   rw [pyEq]
   exact .bool_int _ _ _
  | str e2 =>
   obtain rfl:=hx.bl
   obtain rfl:v=Value.bool _:=rx
   obtain rfl:=hy.str.1
   obtain ⟨t',rfl⟩:=ry
   have e:pyEq (.bl e1) (.str e2)=false:=by simp [pyEq]
   rw [e]
   exact .bool_str _ _ _
  | tup e2 =>
   obtain rfl:=hx.bl
   obtain rfl:v=Value.bool _:=rx
   obtain ⟨b,ws,its2,rfl,rfl,q2,r2,p2⟩:=seqT hy ry
   have e:pyEq (.bl e1) (.tup e2)=false:=by simp [pyEq]
   rw [e]
   exact .bool_tuple _ p2 hu0
  | lst e2 =>
   obtain rfl:=hx.bl
   obtain rfl:v=Value.bool _:=rx
   obtain ⟨b,ws,its2,rfl,rfl,q2,r2,p2⟩:=seqL hy ry
   have e:pyEq (.bl e1) (.lst e2)=false:=by simp [pyEq]
   rw [e]
   exact .bool_list _ p2 hu0
 | int e1 =>
  cases py with
  | non =>
   obtain rfl:=hx.int
   obtain ⟨t,rfl⟩:=rx
   obtain rfl:y=V.non:=hy.non
   obtain rfl:u=Value.none:=ry
   have e:pyEq (.int e1) .non=false:=by simp [pyEq]
   rw [e]
   exact .int_none _ _
  | bl e2 =>
   obtain rfl:=hx.int
   obtain ⟨t,rfl⟩:=rx
   obtain rfl:=hy.bl
   obtain rfl:u=Value.bool _:=ry
   rw [pyEq]
   exact .int_bool _ _ _
  | int e2 =>
   obtain rfl:=hx.int
   obtain ⟨t,rfl⟩:=rx
   obtain rfl:=hy.int
   obtain ⟨t',rfl⟩:=ry
   rw [pyEq]
   exact .int_int _ _ _ _
  | str e2 =>
   obtain rfl:=hx.int
   obtain ⟨t,rfl⟩:=rx
   obtain rfl:=hy.str.1
   obtain ⟨t',rfl⟩:=ry
   have e:pyEq (.int e1) (.str e2)=false:=by simp [pyEq]
   rw [e]
   exact .int_str _ _ _ _
  | tup e2 =>
   obtain rfl:=hx.int
   obtain ⟨t,rfl⟩:=rx
   obtain ⟨b,ws,its2,rfl,rfl,q2,r2,p2⟩:=seqT hy ry
   have e:pyEq (.int e1) (.tup e2)=false:=by simp [pyEq]
   rw [e]
   exact .int_tuple _ _ p2 hu0
  | lst e2 =>
   obtain rfl:=hx.int
   obtain ⟨t,rfl⟩:=rx
   obtain ⟨b,ws,its2,rfl,rfl,q2,r2,p2⟩:=seqL hy ry
   have e:pyEq (.int e1) (.lst e2)=false:=by simp [pyEq]
   rw [e]
   exact .int_list _ _ p2 hu0
 | str e1 =>
  cases py with
  | non =>
   obtain rfl:=hx.str.1
   obtain ⟨t,rfl⟩:=rx
   obtain rfl:y=V.non:=hy.non
   obtain rfl:u=Value.none:=ry
   have e:pyEq (.str e1) .non=false:=by simp [pyEq]
   rw [e]
   exact .str_none _ _
  | bl e2 =>
   obtain rfl:=hx.str.1
   obtain ⟨t,rfl⟩:=rx
   obtain rfl:=hy.bl
   obtain rfl:u=Value.bool _:=ry
   have e:pyEq (.str e1) (.bl e2)=false:=by simp [pyEq]
   rw [e]
   exact .str_bool _ _ _
  | int e2 =>
   obtain rfl:=hx.str.1
   obtain ⟨t,rfl⟩:=rx
   obtain rfl:=hy.int
   obtain ⟨t',rfl⟩:=ry
   have e:pyEq (.str e1) (.int e2)=false:=by simp [pyEq]
   rw [e]
   exact .str_int _ _ _ _
  | str e2 =>
   obtain rfl:=hx.str.1
   obtain ⟨t,rfl⟩:=rx
   obtain rfl:=hy.str.1
   obtain ⟨t',rfl⟩:=ry
   have e:pyEq (.str e1) (.str e2)=((⟨e1.toArray⟩:Str)==⟨e2.toArray⟩):=by rw [yA0,pyEq]
   rw [e]
   exact .str_str _ _ _ _
  | tup e2 =>
   obtain rfl:=hx.str.1
   obtain ⟨t,rfl⟩:=rx
   obtain ⟨b,ws,its2,rfl,rfl,q2,r2,p2⟩:=seqT hy ry
   have e:pyEq (.str e1) (.tup e2)=false:=by simp [pyEq]
   rw [e]
   exact .str_tuple _ _ p2 hu0
  | lst e2 =>
   obtain rfl:=hx.str.1
   obtain ⟨t,rfl⟩:=rx
   obtain ⟨b,ws,its2,rfl,rfl,q2,r2,p2⟩:=seqL hy ry
   have e:pyEq (.str e1) (.lst e2)=false:=by simp [pyEq]
   rw [e]
   exact .str_list _ _ p2 hu0
 | tup e1 =>
  cases py with
  | non =>
   obtain ⟨a,vs,its,rfl,rfl,q1,r1,p1⟩:=seqT hx rx
   obtain rfl:y=V.non:=hy.non
   obtain rfl:u=Value.none:=ry
   have e:pyEq (.tup e1) .non=false:=by simp [pyEq]
   rw [e]
   exact .tuple_none p1 hu0
  | bl e2 =>
   obtain ⟨a,vs,its,rfl,rfl,q1,r1,p1⟩:=seqT hx rx
   obtain rfl:=hy.bl
   obtain rfl:u=Value.bool _:=ry
   have e:pyEq (.tup e1) (.bl e2)=false:=by simp [pyEq]
   rw [e]
   exact .tuple_bool _ p1 hu0
  | int e2 =>
   obtain ⟨a,vs,its,rfl,rfl,q1,r1,p1⟩:=seqT hx rx
   obtain rfl:=hy.int
   obtain ⟨t',rfl⟩:=ry
   have e:pyEq (.tup e1) (.int e2)=false:=by simp [pyEq]
   rw [e]
   exact .tuple_int _ _ p1 hu0
  | str e2 =>
   obtain ⟨a,vs,its,rfl,rfl,q1,r1,p1⟩:=seqT hx rx
   obtain rfl:=hy.str.1
   obtain ⟨t',rfl⟩:=ry
   have e:pyEq (.tup e1) (.str e2)=false:=by simp [pyEq]
   rw [e]
   exact .tuple_str _ _ p1 hu0
  | tup e2 =>
   obtain ⟨a,vs,its,rfl,rfl,q1,r1,p1⟩:=seqT hx rx
   obtain ⟨b,ws,its2,rfl,rfl,q2,r2,p2⟩:=seqT hy ry
   have hn:0<n:=by simp at hd;lia
   have hd':deps e1≤n - 1∨deps e2≤n - 1:=by simp at hd;lia
   have it:=zp2 (n:=n - 1) (A:=A) (ih hn) q1 q2 r1 r2 hd' (by lia)
   have l1:=q1.length
   have l2:=q2.length
   have m1:=r1.length
   have m2:=r2.length
   have rc:RcNeAt A s (.ref a) (.ref b) (!pyEq (.tup e1) (.tup e2)):=by
    have z:=RcNeAt.tuples p1 p2 hu0 it
    rw [pyEq,zl5]
    simp only [List.size_toArray] at z
    rw [l1,l2,m1,m2]
    exact z
   exact rc
  | lst e2 =>
   obtain ⟨a,vs,its,rfl,rfl,q1,r1,p1⟩:=seqT hx rx
   obtain ⟨b,ws,its2,rfl,rfl,q2,r2,p2⟩:=seqL hy ry
   have e:pyEq (.tup e1) (.lst e2)=false:=by simp [pyEq]
   rw [e]
   exact .tuple_list p1 p2 hu0
 | lst e1 =>
  cases py with
  | non =>
   obtain ⟨a,vs,its,rfl,rfl,q1,r1,p1⟩:=seqL hx rx
   obtain rfl:y=V.non:=hy.non
   obtain rfl:u=Value.none:=ry
   have e:pyEq (.lst e1) .non=false:=by simp [pyEq]
   rw [e]
   exact .list_none p1 hu0
  | bl e2 =>
   obtain ⟨a,vs,its,rfl,rfl,q1,r1,p1⟩:=seqL hx rx
   obtain rfl:=hy.bl
   obtain rfl:u=Value.bool _:=ry
   have e:pyEq (.lst e1) (.bl e2)=false:=by simp [pyEq]
   rw [e]
   exact .list_bool _ p1 hu0
  | int e2 =>
   obtain ⟨a,vs,its,rfl,rfl,q1,r1,p1⟩:=seqL hx rx
   obtain rfl:=hy.int
   obtain ⟨t',rfl⟩:=ry
   have e:pyEq (.lst e1) (.int e2)=false:=by simp [pyEq]
   rw [e]
   exact .list_int _ _ p1 hu0
  | str e2 =>
   obtain ⟨a,vs,its,rfl,rfl,q1,r1,p1⟩:=seqL hx rx
   obtain rfl:=hy.str.1
   obtain ⟨t',rfl⟩:=ry
   have e:pyEq (.lst e1) (.str e2)=false:=by simp [pyEq]
   rw [e]
   exact .list_str _ _ p1 hu0
  | tup e2 =>
   obtain ⟨a,vs,its,rfl,rfl,q1,r1,p1⟩:=seqL hx rx
   obtain ⟨b,ws,its2,rfl,rfl,q2,r2,p2⟩:=seqT hy ry
   have e:pyEq (.lst e1) (.tup e2)=false:=by simp [pyEq]
   rw [e]
   exact .list_tuple p1 p2 hu0
  | lst e2 =>
   obtain ⟨a,vs,its,rfl,rfl,q1,r1,p1⟩:=seqL hx rx
   obtain ⟨b,ws,its2,rfl,rfl,q2,r2,p2⟩:=seqL hy ry
   have hn:0<n:=by simp at hd;lia
   have hd':deps e1≤n - 1∨deps e2≤n - 1:=by simp at hd;lia
   have it:=zp2 (n:=n - 1) (A:=A) (ih hn) q1 q2 r1 r2 hd' (by lia)
   have l1:=q1.length
   have l2:=q2.length
   have m1:=r1.length
   have m2:=r2.length
   have rc:RcNeAt A s (.ref a) (.ref b) (!pyEq (.lst e1) (.lst e2)):=by
    by_cases hz:its.length=its2.length
    ·have z:=RcNeAt.lists p1 p2 (by simpa using hz) hu0 it
     rw [pyEq,zl5]
     simp only [List.size_toArray] at z
     rw [l1,l2,m1,m2,← hz,Nat.min_self,beq_self_eq_true,Bool.and_true]
     exact z
    ·have z:=RcNeAt.lists_lengths p1 p2 (by simpa using hz) hu0
     have e:pyEq (.lst e1) (.lst e2)=false:=by
      rw [pyEq,zl5,Bool.and_eq_false_iff]
      exact .inr (by rw [beq_eq_false_iff_ne];lia)
     rw [e]
     exact z
   exact rc
theorem o_ne (hu:X.A.units+200<cLine):Op2 X (compareOp .NotEq) (fun x y=>if zi3 (dep x) (dep y) then some (.bl (!pyEq x y)) else none):=by
 rintro pins s σ H x y v u Q I rx ry ⟨α,st,px,py,z,r,hx,hy,hz,q⟩
 simp only [Option.ite_none_right_eq_some,Option.some.injEq] at hz
 obtain ⟨hd,hz⟩:=hz
 have hd':dep px≤100∨dep py≤100:=by simpa [zi3] using hd
 exact (yd2 I (n:=100) (fun _=>yF1 I 99) px py x y v u X.A hx hy rx ry hd' (by lia)) _ _ _ _ ⟨.bl _,H,I,rfl,q _ _ (zj0.refl H) (by rw [← hz,RP])⟩
end
open PySem L2 PySem.SeqAt PyProof.Rows
noncomputable def yj5 (v:Value):Sem Value:=match v with
 | .bool k=>pure (.bool (!k))
 | v=>pure v
theorem yx1 (a b:Value):compareOp .NotIn a b=compareOp .In a b >>= yj5:=by
 show (do return Value.bool (!(← contains b a)):Sem Value)=((do return Value.bool (← contains b a):Sem Value) >>= yj5)
 simp only [bind_assoc,pure_bind,yj5]
theorem yw3 (a b:Value):compareOp .IsNot a b=compareOp .Is a b >>= yj5:=by
 show (do return Value.bool (!(← isSame a b)):Sem Value)=((do return Value.bool (← isSame a b):Sem Value) >>= yj5)
 simp only [bind_assoc,pure_bind,yj5]
section
variable {X:Cx}
theorem Op2.flip {op op':CmpOp} {g g':PV→PV→Option PV} (h:Op2 X (compareOp op) g) (e:∀ a b,compareOp op' a b=compareOp op a b >>= yj5) (hg:∀ x y z,g' x y=some z→∃ b,g x y=some (.bl b)∧z=.bl (!b)):Op2 X (compareOp op') g':=by
 rintro pins s σ H x y v u Q I rx ry ⟨α,st,px,py,z,r,hx,hy,hz,q⟩
 obtain ⟨b,hb,rfl⟩:=hg _ _ _ hz
 rw [e v u]
 refine wpAny_bind (thn (h pins s σ H x y v u (fun w H'=>w=.bl b∧zj0 H H') I rx ry ⟨α,st,px,py,.bl b,r,hx,hy,hb,fun w H' s' rp=>⟨by rw [RP] at rp;exact rp,s'⟩⟩) fun w s1 h_=>?_)
 obtain ⟨x1,H1,I1,r1,e1,s1'⟩:=h_
 subst e1
 obtain rfl:w=Value.bool b:=r1
 exact wpAny_pure ⟨.bl _,H1,I1,rfl,q _ _ s1' (by rw [RP])⟩
theorem yK3 (hu:X.A.units+200<cLine):Op2 X (compareOp .NotIn) (fun x y=>(isIn x y).map fun b=>.bl (!b)) :=
 (yO2 hu).flip yx1 fun x y z h=>by
  obtain ⟨b,hb,rfl⟩:=Option.map_eq_some_iff.mp h
  exact ⟨b,by rw [hb];rfl,rfl⟩
theorem zY6 {n:Bool} {x y z:PV} (h:zS5 n x y=some z):(y=.non∧z=.bl (decide (x=.non) != n))∨∃ b,y=.bl b∧z=.bl (decide (x=.bl b) != n):=by
 cases y with
 | non =>
  refine .inl ⟨rfl,?_⟩
  cases x <;> (have h:=Option.some.inj h;subst h;cases n <;> simp)
 | bl b =>
  refine .inr ⟨b,rfl,?_⟩
  cases x with
  | bl a=>have h:=Option.some.inj h;subst h;cases n <;> cases a <;> cases b <;> decide
  | _=>have h:=Option.some.inj h;subst h;cases n <;> simp
 | _=>cases x <;> cases h
theorem o_is:Op2 X (compareOp .Is) (zS5 false):=by
 rintro pins s σ H x y v u Q I rx ry ⟨α,st,px,py,z,r,hx,hy,hz,q⟩
 rcases zY6 hz with ⟨rfl,rfl⟩ | ⟨b,rfl,rfl⟩
 ·have ey:=hy.non
  subst ey
  refine yQ9 pins s σ H x _ v u Q I rx ry ⟨rfl,q _ _ (zj0.refl H) ?_⟩
  rw [RP]
  congr 1
  rw [Bool.bne_false]
  have:(px=.non)↔(x=V.non):=by
   cases px with
   | non=>simp [hx.non]
   | bl _=>simp [hx.bl]
   | int _=>simp [hx.int]
   | str _=>simp [hx.str.1]
   | tup _=>obtain ⟨a,vs,rfl,_⟩:=hx.tup;simp
   | lst _=>obtain ⟨a,vs,rfl,_⟩:=hx.lst;simp
  simp only [this]
 ·have ey:=hy.bl
  subst ey
  obtain rfl:u=Value.bool b:=ry
  have fin:∀ k,decide (px=PV.bl b)=k→EP X pins σ Q (.bool k) s:=fun k e=>⟨.bl k,H,I,rfl,q _ _ (zj0.refl H) (by rw [RP,e,Bool.bne_false])⟩
  show wpAny _ _ (do return Value.bool (← isSame v (.bool b)):Sem Value) _ _ _
  cases px with
  | non =>
   have ex:=hx.non;subst ex;obtain rfl:v=Value.none:=rx
   exact wpAny_bind (wpAny_pure (wpAny_pure (fin _ (by cases b <;> rfl))))
  | bl a =>
   have ex:=hx.bl;subst ex;obtain rfl:v=Value.bool a:=rx
   exact wpAny_bind (wpAny_pure (wpAny_pure (fin _ (by cases a <;> cases b <;> rfl))))
  | int i =>
   have ex:=hx.int;subst ex;obtain ⟨t,rfl⟩:=rx
   exact wpAny_bind (wpAny_pure (wpAny_pure (fin _ (by cases b <;> rfl))))
  | str i =>
   have ex:=hx.str.1;subst ex;obtain ⟨t,rfl⟩:=rx
   exact wpAny_bind (wpAny_pure (wpAny_pure (fin _ (by cases b <;> rfl))))
  | tup i =>
   obtain ⟨a,vs,rfl,_⟩:=hx.tup;obtain rfl:v=Value.ref a:=rx
   exact wpAny_bind (wpAny_pure (wpAny_pure (fin _ (by cases b <;> rfl))))
  | lst i =>
   obtain ⟨a,vs,rfl,_⟩:=hx.lst;obtain rfl:v=Value.ref a:=rx
   exact wpAny_bind (wpAny_pure (wpAny_pure (fin _ (by cases b <;> rfl))))
theorem zU6:Op2 X (compareOp .IsNot) (zS5 true) :=
 o_is.flip yw3 fun x y z h=>by
  rcases zY6 h with ⟨rfl,rfl⟩ | ⟨b,rfl,rfl⟩
  ·refine ⟨decide (x=.non),?_,by simp⟩
   cases x <;> simp [zS5]
  ·refine ⟨decide (x=.bl b),?_,by simp⟩
   cases x with
   | bl a=>cases a <;> cases b <;> rfl
   | _=>simp [zS5]
end
open PySem L2 PySem.SeqAt PyProof.Rows
section
variable {X:Cx} {C:zb7} {e:Expr} {ie:E} {pos p:Pos}
theorem zn6:zy0 X (.type "tuple") (f1 yy6):=by
 rintro pins s σ H ws us Q I rs ⟨α,st,xs,z,r,pr,hz,q⟩
 cases pr with
 | nil=>cases hz
 | cons h t =>
  cases t with
  | cons _ _=>cases hz
  | nil =>
   rename_i x w
   cases x with
   | tup l =>
    obtain ⟨a,vs,rfl,h1,h2⟩:=h.tup
    cases hz
    exact zw6 pins s σ H _ us Q I rs ⟨a,vs,rfl,.inr ⟨h1,q _ _ (zj0.refl H) (by rw [RP];exact ⟨a,vs,rfl,h1,h2⟩)⟩⟩
   | lst l =>
    obtain ⟨a,vs,rfl,h1,h2⟩:=h.lst
    cases hz
    refine zw6 pins s σ H _ us Q I rs ⟨a,vs,rfl,.inl ⟨h1,fun b hb=>?_⟩⟩
    have s1:zj0 H (upd H b (.tup vs)):=zf8 hb _
    exact q _ _ s1 (by rw [RP];exact ⟨b,vs,rfl,SqT.of zd7,(Ext.of_same r s1).rps h2⟩)
   | _=>cases hz
theorem ya3:zy0 X (.type "list") (f1 yL8):=by
 rintro pins s σ H ws us Q I rs ⟨α,st,xs,z,r,pr,hz,q⟩
 cases pr with
 | nil=>cases hz
 | cons h t =>
  cases t with
  | cons _ _=>cases hz
  | nil =>
   rename_i x w
   have go:∀ {l:List PV} {a:Addr} {vs:List V},z=.lst l→w=.ref a→(SqL X.K H a vs∨SqT X.K H a vs)→RPs X.K H (zf1 α st) l vs→wpAny (model X.prog X.w) X.A (call (.type "list") us) (EP X pins σ Q) X.xe s:=fun {l a vs} ez ew h1 h2=>by
    subst ew ez
    refine zO4 pins s σ H _ us Q I rs ⟨a,vs,rfl,h1,fun b hb=>?_⟩
    have s1:zj0 H (upd H b (.lst vs)):=zf8 hb _
    exact q _ _ s1 (by rw [RP];exact ⟨b,vs,rfl,SqL.of zd7,r.notlive hb,(Ext.of_same r s1).rps h2⟩)
   cases x with
   | tup l =>
    obtain ⟨a,vs,ew,h1,h2⟩:=h.tup
    exact go (Option.some.inj hz).symm ew (.inr h1) h2
   | lst l =>
    obtain ⟨a,vs,ew,h1,h2⟩:=h.lst
    exact go (Option.some.inj hz).symm ew (.inl h1) h2
   | _=>cases hz
theorem zY1 (f:Nat→Int):∀ k:Nat,f (argBest (fun i j=>decide (f i > f j)) k)=yu6 (f 0) ((List.range k).map fun i=>f (i+1))
 | 0=>rfl
 | k+1=>by
  have snoc:∀ (r:List Int) (m x:Int),yu6 m (r++[x])=(if yu6 m r<x then x else yu6 m r):=by
   intro r
   induction r with
   | nil=>intro m x;rfl
   | cons y r ih=>intro m x;rw [List.cons_append,yu6,ih,yu6]
  rw [List.range_succ,List.map_append,List.map_singleton,snoc,← zY1 f k,argBest]
  by_cases h:f (k+1) > f (argBest (fun i j=>decide (f i > f j)) k)
  ·rw [if_pos (by simpa using h),if_pos h]
  ·rw [if_neg (by simpa using h),if_neg h]
theorem xk5 (hc:X.calm=true):zy0 X (.builtin "max") (f1 (zV6 yR1)):=by
 rintro pins s σ H ws us Q I rs ⟨α,st,xs,z,r,pr,hz,q⟩
 cases pr with
 | nil=>cases hz
 | cons h t =>
  cases t with
  | cons _ _=>cases hz
  | nil =>
   rename_i x w
   cases x with
   | lst l =>
    have hz:yR1 l=some z:=hz
    unfold yR1 at hz
    cases hi:zA4 l with
    | none=>rw [hi] at hz;cases hz
    | some ns =>
     rw [hi] at hz
     cases ns with
     | nil=>cases hz
     | cons n0 nr =>
      have hz2:PV.int (yu6 n0 nr)=z:=Option.some.inj hz
      have el:=yn1 hi
      subst el
      obtain ⟨a,vs,rfl,h1,h2⟩:=h.lst
      cases rs with
      | cons ra rt =>
       cases rt
       obtain rfl:=(show _=Value.ref a from ra)
       obtain ⟨its,r1,p,_⟩:=I.list h1
       have ev:=zZ6 h2
       subst ev
       obtain ⟨ps,rfl,hps⟩:=zJ0 r1
       have hit:(ps.map (fun p=>Value.int p.1 p.2)).toArray=intItems ps.toArray:=by simp [intItems]
       have hpl:ps.length=nr.length+1:=by have:=congrArg List.length hps;simpa using this
       refine max_intList (xs:=ps.toArray) (I.ok.hd hc) (by rw [← hit];exact p.isList) (by simp;lia) fun v h' tk hv hk=>?_
       obtain ⟨tv,rfl⟩:=intItems_at hv
       refine ⟨.int _,H,I.kept hk,⟨_,rfl⟩,q _ _ (zj0.refl H) ?_⟩
       rw [← hz2,RP,zY1 (numAt ps.toArray)]
       congr 1
       have at':∀ i,numAt ps.toArray i=((n0::nr)[i]?).getD 0:=fun i=>by
        rw [← hps]
        simp [numAt]
       have e0:numAt ps.toArray 0=n0:=by rw [at'];rfl
       have er:(List.range (ps.toArray.size - 1)).map (fun i=>numAt ps.toArray (i+1))=nr:=by
        have:ps.toArray.size - 1=nr.length:=by simp;lia
        rw [this]
        apply List.ext_getElem
        ·simp
        ·intro i h1 h2
         simp [at',h2]
       rw [e0,er]
   | _=>cases hz
end
open PySem L2 PySem.SeqAt PyProof.Rows
section
variable {X:Cx} {C:zb7} {W:Nat} {pos:Pos}
end
open PySem L2 PySem.SeqAt PyProof.Rows
open PySem.Builtin PySem.Builtin.Str
mutual
noncomputable def toD:PV→PyData
 | .non=>.none
 | .bl b=>.bool b
 | .int i=>.int i
 | .str cs=>.str ⟨cs.toArray⟩
 | .tup xs=>.tuple (toDs xs)
 | .lst xs=>.list (toDs xs)
noncomputable def toDs:List PV→List PyData
 | []=>[]
 | x::r=>toD x::toDs r
end
mutual
theorem toD_depth:∀ x:PV,(toD x).depth=dep x
 | .non=>by rw [toD,PyData.depth,yK7]
 | .bl b=>by rw [toD,PyData.depth,yU4]
 | .int i=>by rw [toD,PyData.depth,yK8]
 | .str cs=>by rw [toD,PyData.depth,yB6]
 | .tup xs=>by rw [toD,PyData.depth,yK0,toDs_depth xs]
 | .lst xs=>by rw [toD,PyData.depth,yJ2,toDs_depth xs]
theorem toDs_depth:∀ xs:List PV,PyData.depthAll (toDs xs)=deps xs
 | []=>by rw [toDs,PyData.depthAll,ys9]
 | x::r=>by rw [toDs,PyData.depthAll,yh8,toD_depth x,toDs_depth r]
end
mutual
theorem toD_noDict:∀ x:PV,(toD x).hasDict=false
 | .non=>by rw [toD,PyData.hasDict]
 | .bl b=>by rw [toD,PyData.hasDict]
 | .int i=>by rw [toD,PyData.hasDict]
 | .str cs=>by rw [toD,PyData.hasDict]
 | .tup xs=>by rw [toD,PyData.hasDict,toDs_noDict xs]
 | .lst xs=>by rw [toD,PyData.hasDict,toDs_noDict xs]
theorem toDs_noDict:∀ xs:List PV,PyData.hasDictAll (toDs xs)=false
 | []=>by rw [toDs,PyData.hasDictAll]
 | x::r=>by rw [toDs,PyData.hasDictAll,toD_noDict x,toDs_noDict r];rfl
end
section
variable {X:Cx} {pins:List (Addr×Obj)} {σ:L2.St} {H:Hp} {s:Shared} {lv:Addr→Prop}
mutual
theorem reads_of (I:Inv X pins σ H s):∀ (x:PV) (v:V) (u:Value),RP X.K H lv x v→RelV v u→∃ as,Reads s.heap u (toD x) as
 | .non,v,u,h,r=>by
  rw [RP] at h;subst h;obtain rfl:u=Value.none:=r;rw [toD];exact ⟨[],.none⟩
 | .bl b,v,u,h,r=>by
  rw [RP] at h;subst h;obtain rfl:u=Value.bool b:=r;rw [toD];exact ⟨[],.bool b⟩
 | .int i,v,u,h,r=>by
  rw [RP] at h;subst h;obtain ⟨t,rfl⟩:=r;rw [toD];exact ⟨[],.int i t⟩
 | .str cs,v,u,h,r=>by
  rw [RP] at h;obtain ⟨h,_⟩:=h;subst h;obtain ⟨t,rfl⟩:=r;rw [toD];exact ⟨[],.str _ t⟩
 | .tup xs,v,u,h,r=>by
  rw [RP] at h
  obtain ⟨a,vs,rfl,h1,h2⟩:=h
  obtain rfl:u=Value.ref a:=r
  obtain ⟨its,r1,⟨o,e1,e2,n,e3⟩,_⟩:=I.tuple h1
  obtain ⟨as,ra⟩:=readsAll_of I xs vs its h2 r1
  rw [toD]
  exact ⟨as,.tuple e1 e2 e3 (by simpa using ra)⟩
 | .lst xs,v,u,h,r=>by
  rw [RP] at h
  obtain ⟨a,vs,rfl,h1,_,h2⟩:=h
  obtain rfl:u=Value.ref a:=r
  obtain ⟨its,r1,⟨o,n,e1,e2,_,e3⟩,_⟩:=I.list h1
  obtain ⟨as,ra⟩:=readsAll_of I xs vs its h2 r1
  rw [toD]
  exact ⟨a::as,.list e1 e2 e3 (by simpa using ra)⟩
theorem readsAll_of (I:Inv X pins σ H s):∀ (xs:List PV) (vs:List V) (us:List Value),RPs X.K H lv xs vs→zg6 vs us→∃ as,ReadsAll s.heap us (toDs xs) as
 | [],vs,us,h,r=>by
  rw [RPs] at h;subst h;cases r;rw [toDs];exact ⟨[],.nil⟩
 | x::xr,vs,us,h,r=>by
  rw [RPs] at h
  obtain ⟨v,vr,rfl,h1,h2⟩:=h
  cases r with
  | cons r1 r2 =>
   obtain ⟨as,a1⟩:=reads_of I x _ _ h1 r1
   obtain ⟨bs,b1⟩:=readsAll_of I xr _ _ h2 r2
   rw [toDs]
   exact ⟨as++bs,.cons a1 b1⟩
end
end
theorem yY9:∀ c:Nat,c<127→okC c=true→reprChar 39 c=[c]:=by decide +kernel
theorem yv3 {cs:List Nat} (h:cs.all okC=true):reprQuote (⟨cs.toArray⟩:Str)=39:=by
 unfold reprQuote
 have h39:¬ 39∈cs:=fun z=>by
  have:=List.all_eq_true.mp h 39 z
  revert this;decide
 have e:(⟨cs.toArray⟩:Str).cps.contains 39=false:=by simpa using h39
 simp [h39]
theorem zW5:∀ {cs:List Nat} {acc:List Nat},cs.all okC=true→cs.foldl (fun out c=>out++(reprChar 39 c).toArray) acc.toArray=(acc++cs).toArray
 | [],acc,_=>by simp
 | c::r,acc,h=>by
  rw [List.all_cons,Bool.and_eq_true] at h
  have hc:c<127:=by have:=h.1;unfold okC at this;have:=of_decide_eq_true this;lia
  rw [List.foldl_cons,yY9 c hc h.1,List.append_toArray,zW5 h.2]
  simp
theorem yr6 {cs:List Nat} (h:cs.all okC=true):reprText (⟨cs.toArray⟩:Str)=txt ([39]++cs++[39]):=by
 unfold reprText
 rw [yv3 h]
 show (⟨Array.push (cs.toArray.foldl (fun (out:Array Nat) (c:Nat)=>out++(reprChar 39 c).toArray) #[39]) 39⟩:Str)=_
 rw [← Array.foldl_toList]
 have e:=zW5 (acc:=[39]) h
 have e2:(cs.toArray.toList.foldl (fun out c=>out++(reprChar 39 c).toArray) #[39])=([39]++cs).toArray:=e
 rw [e2]
 simp [txt]
theorem yC1 (i:Int):(Str.ofString (toString i))=txt (zP4 i):=by
 rw [Str.ofString_eq_toList]
 rfl
noncomputable def cm:List Nat:=[44,32]
theorem zR7:∀ ts:List (List Nat),Str.join (Str.ofString ", ") (ts.map txt)=txt (zt0 ts)
 | []=>rfl
 | [x]=>rfl
 | x::y::r=>by
  have ih:=zR7 (y::r)
  have ec:Str.ofString ", " = txt cm:=by decide +kernel
  show txt x++Str.ofString ", " ++ Str.join (Str.ofString ", ") ((y::r).map txt)=txt (x++[44,32]++zt0 (y::r))
  rw [ih,ec]
  show (⟨(x.toArray++cm.toArray)++(zt0 (y::r)).toArray⟩:Str)=⟨(x++[44,32]++zt0 (y::r)).toArray⟩
  simp [cm]
theorem zn1 (a b:List Nat):txt a++txt b=txt (a++b):=by
 show (⟨a.toArray++b.toArray⟩:Str)=⟨(a++b).toArray⟩
 simp
theorem yG0 (ts:List (List Nat)):tupleText (ts.map txt)=txt (zR1 ts):=by
 unfold tupleText zR1
 have e1:(Str.ofString "(")=txt [40]:=by decide +kernel
 have e2:(Str.ofString ",)")=txt [44,41]:=by decide +kernel
 have e3:(Str.ofString ")")=txt [41]:=by decide +kernel
 rw [zR7,e1,List.length_map]
 by_cases h:ts.length=1
 ·rw [if_pos (by simp [h]),if_pos h]
  show txt [40]++txt (zt0 ts)++Str.ofString ",)" = _
  rw [e2,zn1,zn1]
 ·rw [if_neg (by simp [h]),if_neg h]
  show txt [40]++txt (zt0 ts)++Str.ofString ")" = _
  rw [e3,zn1,zn1]
theorem zY0:∀ (ts:List (List Nat)) (k:Nat) (acc:List Nat),0<k→textFrom k (txt acc) (ts.map txt)=txt (acc++(ts.map fun t=>cm++t).flatten)
 | [],k,acc,_=>by simp [textFrom]
 | t::r,k,acc,hk=>by
  have ec:Str.ofString ", " = txt cm:=by decide +kernel
  rw [List.map_cons,textFrom,if_pos hk]
  show textFrom (k+1) (txt acc++Str.ofString ", " ++ txt t) (r.map txt)=_
  rw [ec,zn1,zn1,zY0 r (k+1) _ (by lia)]
  simp
theorem zI1:∀ (t:List Nat) (r:List (List Nat)),zt0 (t::r)=t++(r.map fun t=>cm++t).flatten
 | t,[]=>by simp [zt0]
 | t,u::r=>by
  show t++[44,32]++zt0 (u::r)=_
  rw [zI1 u r]
  simp [cm]
theorem yF7 (ts:List (List Nat)):listText (ts.map txt)=txt (zP7 ts):=by
 unfold listText zP7
 have e1:(Str.ofString "[")=txt [91]:=by decide +kernel
 have e2:(Str.ofString "]")=txt [93]:=by decide +kernel
 have e3:(Str.ofString "")=txt []:=by decide +kernel
 cases ts with
 | nil =>
  show Str.ofString "[" ++ Str.ofString "]" = _
  rw [e1,e2,zn1]
  rfl
 | cons t r =>
  show textFrom 1 (Str.ofString "[" ++ Str.ofString "" ++ txt t) (r.map txt)++Str.ofString "]" = _
  rw [e1,e2,e3,zn1,zn1,zY0 r 1 _ (by lia),zn1,zI1]
  simp
mutual
theorem shown_txt:∀ (x:PV) (t:List Nat),shownP x=some t→(toD x).showable=true∧(toD x).shown=txt t
 | .non,t,h=>by rw [shownP] at h;cases h;rw [toD,PyData.showable,PyData.shown];exact ⟨rfl,by decide +kernel⟩
 | .bl true,t,h=>by rw [shownP] at h;cases h;rw [toD,PyData.showable,PyData.shown];exact ⟨rfl,by decide +kernel⟩
 | .bl false,t,h=>by rw [shownP] at h;cases h;rw [toD,PyData.showable,PyData.shown];exact ⟨rfl,by decide +kernel⟩
 | .int i,t,h=>by
  rw [shownP] at h
  split at h
  ·rename_i hc
   cases h
   rw [toD,PyData.showable,PyData.shown]
   exact ⟨decide_eq_true hc,yC1 i⟩
  ·cases h
 | .str cs,t,h=>by
  rw [shownP] at h
  split at h
  ·rename_i hc
   cases h
   rw [toD,PyData.showable,PyData.shown]
   exact ⟨rfl,yr6 hc⟩
  ·cases h
 | .tup xs,t,h=>by
  rw [shownP] at h
  split at h
  ·rename_i ts hts
   cases h
   obtain ⟨h1,h2⟩:=showns_txt xs ts hts
   rw [toD,PyData.showable,PyData.shown,h2]
   exact ⟨h1,yG0 ts⟩
  ·cases h
 | .lst xs,t,h=>by
  rw [shownP] at h
  split at h
  ·rename_i ts hts
   cases h
   obtain ⟨h1,h2⟩:=showns_txt xs ts hts
   rw [toD,PyData.showable,PyData.shown,h2]
   exact ⟨h1,yF7 ts⟩
  ·cases h
theorem showns_txt:∀ (xs:List PV) (ts:List (List Nat)),shownPs xs=some ts→PyData.showableAll (toDs xs)=true∧PyData.shownAll (toDs xs)=ts.map txt
 | [],ts,h=>by rw [shownPs] at h;cases h;rw [toDs,PyData.showableAll,PyData.shownAll];exact ⟨rfl,rfl⟩
 | x::r,ts,h=>by
  rw [shownPs] at h
  split at h
  ·rename_i t ht
   split at h
   ·rename_i tr htr
    cases h
    obtain ⟨h1,h2⟩:=shown_txt x t ht
    obtain ⟨h3,h4⟩:=showns_txt r tr htr
    rw [toDs,PyData.showableAll,PyData.shownAll,h1,h2,h3,h4]
    exact ⟨rfl,rfl⟩
   ·cases h
  ·cases h
end
section
variable {X:Cx}
theorem zI0 (hu:X.A.units+200<cLine) (hg:X.A.guards=some []):zy0 X (.builtin "repr") (f1 fun v=>(zz8 v).map .str):=by
 rintro pins s σ H ws us Q I rs ⟨α,st,xs,z,r,pr,hz,q⟩
 cases pr with
 | nil=>cases hz
 | cons h t =>
  cases t with
  | cons _ _=>cases hz
  | nil =>
   rename_i x w
   have hz:(zz8 x).map PV.str=some z:=hz
   obtain ⟨tx,hr,rfl⟩:=Option.map_eq_some_iff.mp hz
   have hs:shownP x=some tx∧dep x≤100∧tx.length≤sizeLine:=by
    have dr:∀ {y},zw4 y=some tx→shownP y=some tx∧dep y≤100∧tx.length≤sizeLine:=fun {y} h=>by
     unfold zw4 at h
     split at h
     ·rename_i t ht
      split at h
      ·rename_i hc
       cases h
       rw [zG8] at hc
       exact ⟨ht,hc⟩
      ·cases h
     ·cases h
    cases x with
    | bl b =>
     cases b
     ·have h:some zZ4=some tx:=hr
      cases h
      exact ⟨by rw [shownP],by simp,by decide⟩
     ·have h:some yx0=some tx:=hr
      cases h
      exact ⟨by rw [shownP],by simp,by decide⟩
    | non=>exact dr hr
    | int i=>exact dr hr
    | str i=>exact dr hr
    | tup i=>exact dr hr
    | lst i=>exact dr hr
   obtain ⟨h1,h2,h3⟩:=hs
   obtain ⟨k1,k2⟩:=shown_txt x tx h1
   cases rs with
   | cons ra rt =>
    cases rt
    have fin:∀ {s':Shared} {t':Tok},Inv X pins σ H s'→EP X pins σ Q (.str (txt tx) t') s':=fun I'=>⟨.str _,H,I',⟨_,rfl⟩,q _ _ (zj0.refl H) (by rw [RP];exact ⟨rfl,h3⟩)⟩
    have hsz:((toD x).shown).length≤sizeLine:=by rw [k2];show (Str.length ⟨tx.toArray⟩)≤sizeLine;rw [zj8];exact h3
    have deep:∀ {a:Addr} {as:List Addr},Reads s.heap (.ref a) (toD x) as→wpAny (model X.prog X.w) X.A (call (.builtin "repr") [.ref a]) (EP X pins σ Q) X.xe s:=fun {a as} rd =>
     repr_of_reads' rd k1 (PyData.noDict_hsm (toD_noDict x)) hg (by rw [toD_depth];lia) (fun _ _ e=>e) (fun h' u tk hk=>by rw [k2];exact fin (I.kept hk)) hsz
    cases x with
    | non =>
     have e:=h.non;subst e
     obtain rfl:=(show _=Value.none from ra)
     have e:(Str.ofString "None")=txt tx:=by rw [shownP] at h1;cases h1;decide +kernel
     refine PySem.P.repr_of_none ?_
     show EP X pins σ Q (.str (Str.ofString "None") _) _
     rw [e];exact fin (I.tok _)
    | bl b =>
     have e:=h.bl;subst e
     obtain rfl:=(show _=Value.bool b from ra)
     refine PySem.P.repr_of_bool ?_
     have e:(if b=true then Str.ofString "True" else Str.ofString "False")=txt tx:=by cases b <;> (rw [shownP] at h1;cases h1;decide +kernel)
     show EP X pins σ Q (.str (if b=true then Str.ofString "True" else Str.ofString "False") _) _
     rw [e];exact fin (I.tok _)
    | int i =>
     have e:=h.int;subst e
     obtain ⟨t1,rfl⟩:=(show ∃ t,_=Value.int i t from ra)
     have hi:i.natAbs.log2<1920:=by rw [toD,PyData.showable] at k1;exact of_decide_eq_true k1
     refine PySem.P.repr_of_int hi ?_
     rw [toD,PyData.shown] at k2
     show EP X pins σ Q (.str (Str.ofString (toString i)) _) _
     rw [show Str.ofString (toString i)=txt tx from k2]
     exact fin (I.tok _)
    | str cs =>
     have e:=h.str.1;subst e
     obtain ⟨t1,rfl⟩:=(show ∃ t,_=Value.str _ t from ra)
     rw [toD,PyData.shown] at k2 hsz
     refine PySem.P.repr_of_str ?_ hsz
     rw [k2];exact fin (I.tok _)
    | tup l =>
     obtain ⟨a,vs,rfl,g1,g2⟩:=h.tup
     obtain rfl:=(show _=Value.ref a from ra)
     obtain ⟨as,rd⟩:=reads_of (lv:=zf1 α st) I (.tup l) (.ref a) (.ref a) (by rw [RP];exact ⟨a,vs,rfl,g1,g2⟩) rfl
     exact deep rd
    | lst l =>
     obtain ⟨a,vs,rfl,g1,g2⟩:=h.lst
     obtain rfl:=(show _=Value.ref a from ra)
     obtain ⟨its,r1,⟨o,n,e1,e2,_,e3⟩,_⟩:=I.list g1
     obtain ⟨as,rd⟩:=readsAll_of (lv:=zf1 α st) I l vs its g2 r1
     have:Reads s.heap (.ref a) (toD (.lst l)) (a::as):=by rw [toD];exact .list e1 e2 e3 (by simpa using rd)
     exact deep this
end
open PySem L2 PySem.SeqAt PyProof.Rows
section
variable {X:Cx} {elt iter tg:Expr} {ifs:List Expr} {scope:Scope} {pos:Pos} {N:List Str} {caps:List Nat} {n:Nat} {wi:TI} {g:TG} {tc:TT} {te:TE}
theorem yl6 {i:Nat} {y:Str} {py spos:Pos} (hN:X.N.Nodup) (hyi:X.N[i]?=some y) (hyl:X.env.scope.names.lookup y=some .local) (hcalm:X.calm=true) (ok:zv4 X scope N caps n) (hi:PI X tg iter wi)
  (hg:∀ cl s₀ H₀ ex pn,PG (zd5 X scope N cl s₀ H₀ ex pn) tg g) (ht:∀ cl s₀ H₀ ex pn,PTs (zd5 X scope N cl s₀ H₀ ex pn) ifs tc) (he:∀ cl s₀ H₀ ex pn,PE (zd5 X scope N cl s₀ H₀ ex pn) elt te)
  (hs:∀ x,foldedSetIterable iter X.env x=pure x) (hsw:swapsWith (.ListComp elt [⟨tg,iter,ifs,0⟩] scope pos) (some (.Name y py)) spos.line X.env=pure true):PS X (.Assign [.Name y py] (.ListComp elt [⟨tg,iter,ifs,0⟩] scope pos) spos) (xj0 (yi3 X.K caps n wi g tc te) (yC7 i)):=by
 intro pins s σ H Dn I h
 have hcells:∀ x∈scope.names,x.2=.free→∃ c,X.env.cells.lookup x.1=some c:=fun x hx hf=>I.ok.has x.1 (ok.free x hx hf)
 obtain ⟨cl,hclo,hcl,hclf⟩:=zH7 hcells
 rw [exec_Assign_Name_used _ _ _ _ hsw]
 refine wpAny_bind (wpAny_standAt (wpAny_bind ?_))
 show wpAny _ X.A (do let _ ← comprehension (.ListComp elt [⟨tg,iter,ifs,0⟩] scope pos) scope X.env _ (newList []) false (eval iter X.env) (some (assign (.Name y py) X.env))) _ _ s
 refine wpAny_bind (thn (wpAny_comprehension_free (use:=some (assign (.Name y py) X.env)) (Q:=fun _ s'=>∃ σ' H',Inv X pins σ' H' s'∧Dn.nx σ' H') rfl hs hclo ok.kind ok.names (thn (hi pins s σ H _ I h) fun xv s1 h1=>thn h1 fun itv s2 h2=>?_)) fun _ s' hq=>wpAny_pure (wpAny_pure hq))
 obtain ⟨it,fp,tn,J,H2,rfl,I2,T,st2,f2,q2⟩:=h2
 have hKD:X.K.lookup s2.heap.objs.size=none:=by
  cases e:X.K.lookup s2.heap.objs.size with
  | none=>rfl
  | some o=>exact absurd (Heap.lt_size (I2.kIn _ _ e)) (Nat.lt_irrefl _)
 obtain ⟨W,⟨m0,w0⟩,turn⟩:=q2 s2.heap.objs.size I2.fresh hKD
 refine wpAny_newObj_type ?_
 have I3:Inv X pins σ (upd H2 s2.heap.objs.size (.lst [])) { s2 with heap:=s2.heap.push { cls:=.type "list", data:=.seq ([]:List Value).toArray },toks:=s2.toks }:=I2.lnew .nil (by decide)
 generalize hD:s2.heap.objs.size=D at *
 generalize hs3:({ s2 with heap:=s2.heap.push { cls:=.type "list", data:=.seq ([]:List Value).toArray },toks:=s2.toks }:Shared)=s3 at I3
 refine wpAny_newFunctionEnv ok.cell (by intro y hy;simp at hy) (fun h1 hns hsb=>?_) ok.kind
 have e3:s3.heap.objs.size=D+1:=by rw [← hs3,← hD];exact Heap.size_push _ _
 have hkept:∀ b o,s3.heap.get? b=some o→h1.get? b=some o:=fun b o e=>(hsb.2 b (Nat.ne_of_lt (Heap.lt_size e))).trans (Heap.get?_push_of_some _ e)
 have h23:∀ b o,s2.heap.get? b=some o→s3.heap.get? b=some o:=fun b o e=>by rw [← hs3];exact Heap.get?_push_of_some _ e
 have hfD:∀ b∈fp,b<D:=fun b hb=>by
  obtain ⟨o,e,_⟩:=T.obj 0 _ st2 b hb
  rw [← hD];exact Heap.lt_size e
 have f3:∀ b∈fp,ye6 X pins (upd H2 D (.lst [])) b:=fun b hb=>⟨by rw [ze3 (Nat.ne_of_lt (hfD b hb))];exact (f2 b hb).1,(f2 b hb).2⟩
 have kX:∀ x,X.env.kindOf x=X.env.scope.names.lookup x:=fun x=>rfl
 have I4:Inv (zd5 X scope N cl s3 (upd H2 D (.lst [])) fp (X.pn++pins)) [] (capsσ caps n σ) (upd H2 D (.lst [])) { s3 with heap:=h1 }:=by
  refine zZ8 I3 ok.kind hcl (fun x hx=>hclf (x,.free) (ok.back x hx) rfl) f3 (fun b hb=>by rw [e3];exact Nat.lt_succ_of_lt (hfD b hb)) (by simpa using hns) hkept ?_ (fun j x v e1 e2=>?_)
  ·unfold capsσ
   rw [List.length_append,List.length_map,List.length_replicate,ok.len]
  ·have hj:j<caps.length:=by
    by_cases hj:j<caps.length
    ·exact hj
    ·unfold capsσ at e2
     rw [List.getElem?_append_right (by simpa using hj),List.getElem?_replicate] at e2
     split at e2 <;> cases e2
   unfold capsσ at e2
   rw [List.getElem?_append_left (by simpa using hj),List.getElem?_map,List.getElem?_eq_getElem hj] at e2
   obtain ⟨x',a1,a2,a3⟩:=ok.cap j caps[j] (List.getElem?_eq_getElem hj)
   rw [e1] at a1;cases a1
   have fr:=ok.free (x,.free) (zl3 a3) rfl
   obtain ⟨k,b1,b2⟩:=ok.look x a3
   refine ⟨caps[j],a2,?_,fr,?_,?_⟩
   ·have e2:(σ[caps[j]]?).join=some v:=Option.some.inj e2
    cases hσ:σ[caps[j]]? with
    | none=>rw [hσ] at e2;cases e2
    | some o=>rw [hσ] at e2;exact congrArg some e2
   ·rcases b2 with rfl | rfl
    ·exact .inl b1
    ·exact .inr b1
   ·rcases fr with z | z
    ·exact .inr (.inl z)
    ·exact .inr (.inr z)
 have fpc:∀ {H':Hp},(∀ b∈fp,H' b=none)→∀ b∈fp,ye6 (zd5 X scope N cl s3 (upd H2 D (.lst [])) fp (X.pn++pins)) [] H' b:=fun {H'} hn b hb=>by
  obtain ⟨f0,f1,f2',f3',f4,f5⟩:=f3 b hb
  refine ⟨hn b hb,Nat.ne_of_lt (show b<s3.heap.objs.size by rw [e3];exact Nat.lt_succ_of_lt (hfD b hb)),fun z=>?_,.inl hb,fun x c e=>f4 x c (hcl x c e),fun p hp=>f5 p (by have hp:p∈(X.pn++pins)++[]:=hp;rwa [List.append_nil] at hp)⟩
  rcases List.mem_cons.mp (I3.stkSub _ z) with e | e
  ·exact f1 e
  ·exact f2' e
 have st4:tn 0 h1:=T.keep 0 _ _ st2 fun b _ o e=>hkept b o (h23 b o e)
 have loop:∀ s4:Shared,s4={ s3 with heap:=h1 }→codeAny (model X.prog X.w) X.A (.compLoop (.ListComp elt [⟨tg,iter,ifs,0⟩] scope pos) 0 (.ref it) (.ref D) (compEnvC scope cl s3.heap.objs.size X.env))
   (compPost (model X.prog X.w) X.A X.xe (some (assign (.Name y py) X.env)) (fun _ s'=>∃ σ' H',Inv X pins σ' H' s'∧Dn.nx σ' H') (.ref D) s3.heap.objs.size) s4:=by
  rintro s4 rfl
  refine zN3 (fun m s'=>∃ i σ' H' ys,Inv (zd5 X scope N cl s3 (upd H2 D (.lst [])) fp (X.pn++pins)) [] σ' H' s'∧tn i s'.heap∧(∀ b∈fp,H' b=none)∧W i m σ' H' ys) ?_ m0 ⟨0,_,_,[],I4,st4,fun b hb=>(f3 b hb).1,w0⟩
  rintro m s5 ⟨i,σ5,H5,ys,I5,st5,fr5,w5⟩
  obtain ⟨hDl,tu⟩:=turn i m σ5 H5 ys w5
  rcases tu with ⟨stop,qn⟩ | ⟨go,hz,step⟩
  ·refine thn (T.done (zd5 X scope N cl s3 (upd H2 D (.lst [])) fp (X.pn++pins)) rfl rfl rfl hcalm i [] s5 σ5 H5 (fun _ _=>False) I5 (fpc fr5) st5 stop) fun r s6 h_=>?_
   obtain ⟨hr,I6⟩:=h_
   subst hr
   obtain ⟨mm,hmm,_⟩:=I6.loc
   have IX:Inv X pins σ H5 s6:=zI4 I3 I6 (Heap.SameBut.refl _ _) f3
   refine wpAny_assign_Name (zQ6 IX hN hyi (.inl hyl) (v:=.ref D) (u:=.ref D) rfl (fun s7 I7 ⟨a7,hsb7,ha7⟩=>?_) (.inr hyl))
   have hC3:∀ {o:Obj},s3.heap.get? s3.heap.objs.size=some o→False:=fun e=>absurd (Heap.lt_size e) (Nat.lt_irrefl _)
   have locL:X.env.locals<s3.heap.objs.size:=by
    obtain ⟨m3,⟨o3,_,_,e3',_⟩,_⟩:=I3.loc
    exact Heap.lt_size e3'
   have cellL:∀ {x:Str} {c:Addr},X.env.cells.lookup x=some c→c<s3.heap.objs.size:=fun {x c} e=>by
    obtain ⟨v3,o3,e3',_⟩:=I3.cell x c e
    exact Heap.lt_size e3'
   have hne:s3.heap.objs.size≠a7:=by
    rcases ha7 with z | z
    ·rw [z];exact Nat.ne_of_gt locL
    ·exact Nat.ne_of_gt (cellL z)
   have fr7:H5 s3.heap.objs.size=none:=I6.free
   refine ⟨mm,hmm.sameBut hsb7 hne,fun h' hb'=>⟨_,H5,?_,qn⟩⟩
   have st7:∀ b o,b≠s3.heap.objs.size→s7.heap.get? b=some o→h'.get? b=some o:=fun b o hb e=>(hb'.2 b hb).trans e
   refine I7.call' (s':={ s7 with heap:=h' }) (ch:=[s3.heap.objs.size]) rfl ⟨fun b o e n hb hx=>st7 b o (by simpa using hx) e,fun b o e n hb hx=>⟨o.slots,st7 b o (by simpa using hx) e⟩,fun b o e n hx=>n,fun b o e hx=>⟨o,st7 b o (by simpa using hx) e⟩,fun _ _ e=>e,fun _ _ _ e=>e,fun _ ps e=>⟨#[],by rw [Array.append_empty];exact e⟩⟩ (fun b u e=>?_) I7.bare (fun b hb=>?_)
   ·refine (I7.hok b u e).stay (fun c v hc q=>st7 c v ?_ q) (fun _ q=>q) fun _ _ q=>q
    rintro rfl
    rcases hc with z | z
    ·rw [← z,fr7] at e;cases e
    ·rw [fr7] at z;cases z
   ·have eb:b=s3.heap.objs.size:=by simpa using hb
    subst eb
    refine ⟨.inr (Nat.le_trans I3.ok.above (Nat.le_of_lt locL)),Nat.ne_of_gt locL,fun x c e=>Nat.ne_of_lt (cellL e),fun p hp e=>?_⟩
    have hpin:=(I3.pin p hp).1
    rw [e] at hpin
    exact hC3 hpin
  ·refine thn (T.item (zd5 X scope N cl s3 (upd H2 D (.lst [])) fp (X.pn++pins)) rfl rfl rfl hcalm i [] s5 σ5 H5 (fun _ _=>False) I5 (fpc fr5) st5 go) fun r s6 h_=>?_
   obtain ⟨u,hr,h6⟩:=h_
   subst hr
   refine thn h6 fun _ s7 h_=>?_
   obtain ⟨x,H7,I7,r7,y7,st7,fr7⟩:=h_
   have I7':=I7.pinned (fpc fr7) (T.obj _ _ st7)
   refine thn (hg _ _ _ _ _ _ s7 σ5 H7 x u _ I7' r7 (step x H7 y7)) fun _ s8 h_=>?_
   obtain ⟨σ8,H8,I8,q8⟩:=h_
   refine thn (ht _ _ _ _ _ _ s8 σ8 H8 _ I8 q8) fun b s9 h_=>?_
   obtain ⟨H9,I9,q9⟩:=h_
   have pinsK:∀ {σ7:L2.St} {Hx:Hp} {sx:Shared},Inv (zd5 X scope N cl s3 (upd H2 D (.lst [])) fp (X.pn++pins)) ([]++zI7 fp s7.heap) σ7 Hx sx→tn (i+1) sx.heap∧∀ b∈fp,Hx b=none:=fun Ix=>by
    refine ⟨T.keep _ _ _ st7 fun b hb o e=>(Ix.pin (b,o) (List.mem_append_right _ (List.mem_append_right _ (zl0 hb e)))).1,fun b hb=>?_⟩
    obtain ⟨o,e,d⟩:=T.obj _ _ st7 b hb
    exact (Ix.pin (b,o) (List.mem_append_right _ (List.mem_append_right _ (zl0 hb e)))).2.1
   cases b with
   | false =>
    obtain ⟨m',hm,w9⟩:=q9
    exact ⟨m',hm,i+1,σ8,H9,ys,I9.unpinned,(pinsK I9).1,(pinsK I9).2,w9⟩
   | true =>
    refine thn (he _ _ _ _ _ _ s9 σ8 H9 _ I9 q9) fun yv s10 h_=>?_
    obtain ⟨y,H10,I10,r10,hD10,m',hm,w10⟩:=h_
    refine thn (zE0 _ s10 σ8 H10 (.ref D) [y] (.ref D) [yv] (fun v Hx=>v=.non∧Hx=upd H10 D (.lst (ys++[y]))) I10 rfl (.cons r10 .nil) ⟨D,ys,y,rfl,rfl,hD10,hz,rfl,rfl⟩) fun _ s11 h_=>?_
    obtain ⟨_,H11,I11,_,_,e11⟩:=h_
    subst e11
    exact ⟨m',hm,i+1,σ8,_,ys++[y],I11.unpinned,(pinsK I11).1,(pinsK I11).2,w10⟩
 exact codeAny_compStart_list (loop _ rfl) (T.self _ 0 _ _ _ st4 (loop _ rfl))
end
section
variable {X:Cx} {C:zb7} {W:Nat} {elt iter tg:Expr} {ifs:List Expr} {ielt:E} {it:It} {t:Tg} {scope:Scope} {pos:Pos} {N:List Str} {caps:List Nat} {n:Nat}
theorem yJ5 {i:Nat} {y:Str} {py spos:Pos} {cond:Option E} (hN:X.N.Nodup) (hyi:X.N[i]?=some y) (hyl:X.env.scope.names.lookup y=some .local) (hcalm:X.calm=true) (ok:zv4 X scope N caps n) (hi:SI X C tg iter it)
  (hg:∀ cl s₀ H₀ ex pn,SG (zd5 X scope N cl s₀ H₀ ex pn) tg t) (ht:∀ cl s₀ H₀ ex pn,PTs (zd5 X scope N cl s₀ H₀ ex pn) ifs (tTs X.K C cond)) (he:∀ cl s₀ H₀ ex pn,SE (zd5 X scope N cl s₀ H₀ ex pn) C elt ielt)
  (hs:∀ x,foldedSetIterable iter X.env x=pure x) (hsw:swapsWith (.ListComp elt [⟨tg,iter,ifs,0⟩] scope pos) (some (.Name y py)) spos.line X.env=pure true) :
  SS X C W (.Assign [.Name y py] (.ListComp elt [⟨tg,iter,ifs,0⟩] scope pos) spos) (.set i (.comp false ielt t it cond caps n)) :=
 PS.mono (yl6 (g:=tG X.K t) (te:=tP X.K C ielt) hN hyi hyl hcalm ok hi hg ht he hs hsw) fun D σ H h_=>by
  obtain ⟨env,α,st,fl,st',at',e,q⟩:=h_
  rw [yl7] at e
  obtain ⟨v,st1,e1,e⟩:=Res.bind_inv e
  cases e
  exact zP2 ⟨env,α,st,v,st',at',e1,fun w H1 α1 x1 r1 v1=>q _ H1 α1 x1 ((at'.next x1 r1).set v1)⟩
end
open PySem L2 PySem.SeqAt PyProof.Rows
theorem yu2 {K:Frag} {α1 α2:Al} {st1 st':za6} {H1 H2:Hp} {D:Addr} {ys:List V} {zs:List PV} (lk:Lk K α1 st1 H1 α2 st' H2) (r2:RSt K α2 st' H2) (hrs:α2.rsv=(α1.hold D).rsv) (nD:¬ α1.rsv D) (hDl:H2 D=some (.lst ys)) (rps:RPs K H2 (zf1 α2 st') zs ys) :
  Ext K α1 st1 H1 ((α2.as α1.rsv).add D) (st'++[.lst zs]) H2∧RSt K ((α2.as α1.rsv).add D) (st'++[.lst zs]) H2:=by
 have hrD:α2.rsv D:=by rw [hrs];exact .inl rfl
 have sub1:∀ a,α1.rsv a→α2.rsv a:=lk.sub
 have rB:=r2.as sub1
 have lv:∀ {a:Addr},zf1 ((α2.as α1.rsv).add D) (st'++[.lst zs]) a→zf1 α2 st' a:=fun {a} h=>by
  rcases zM9 rB.len h with e | e
  ·subst e;exact .inl hrD
  ·exact zx9 sub1 e
 have ml:∀ a vs,SqL K H2 a vs→¬ zf1 α2 st' a→SqL K H2 a vs∧¬ zf1 ((α2.as α1.rsv).add D) (st'++[.lst zs]) a:=fun a vs h nn=>⟨h,fun l=>nn (lv l)⟩
 have old:∀ {n:Nat} {a:Addr},α2.adr[n]?=some a→((α2.as α1.rsv).add D).adr[n]?=some a:=fun {n a} h=>by
  show (α2.adr++[D])[n]?=some a
  rw [List.getElem?_append_left (List.getElem?_eq_some_iff.mp h).1]
  exact h
 have new:((α2.as α1.rsv).add D).adr[st'.length]?=some D:=zX6 rB
 have dead:∀ {n:Nat} {x:zl8},α2.adr[n]?=some D→zb6 st' n=some x→x=.dead:=fun {n x} h1 h2=>by
  by_cases hx:x=.dead
  ·exact hx
  ·exact absurd hrD (r2.dis n D x h1 h2 hx)
 refine ⟨⟨fun n a h=>old (lk.pre n a h),lk.tup,fun a vs h nn=>let ⟨h1,n1⟩:=lk.lst a vs h nn;ml a vs h1 n1,rfl,lk.raw⟩,?_,fun n xs h=>?_,fun n kvs h=>?_,fun n m a x x' hne h1 h2 h3 h4=>?_,fun a h=>r2.nk a (lv h),fun n a x h1 h2 h3 h4=>?_,fun a ha=>r2.rsv a (sub1 a ha)⟩
 ·show (α2.adr++[D]).length=(st'++[zl8.lst zs]).length
  rw [List.length_append,List.length_append,r2.len]
  rfl
 ·rcases zf4 h with ⟨_,h⟩ | ⟨rfl,e⟩
  ·obtain ⟨a,vs,e1,e2,e3⟩:=r2.lst n xs h
   exact ⟨a,vs,old e1,e2,RPs.mono (fun _ _ h=>h) ml _ _ e3⟩
  ·cases e
   exact ⟨D,ys,new,hDl,RPs.mono (fun _ _ h=>h) ml _ _ rps⟩
 ·rcases zf4 h with ⟨_,h⟩ | ⟨_,e⟩
  ·obtain ⟨a,vs,e1,e2,e3⟩:=r2.dct n kvs h
   exact ⟨a,vs,old e1,e2,RKV.mono (fun _ _ h=>h) ml _ _ e3⟩
  ·cases e
 ·have ll:=r2.len
  have h1:(α2.adr++[D])[n]?=some a:=h1
  have h2:(α2.adr++[D])[m]?=some a:=h2
  rcases zk7 h1 with ⟨a1,b1⟩ | ⟨a1,c1⟩
  ·rcases zf4 h3 with ⟨_,h3⟩ | ⟨z,_⟩
   ·rcases zk7 h2 with ⟨a2,b2⟩ | ⟨a2,c2⟩
    ·rcases zf4 h4 with ⟨_,h4⟩ | ⟨z,_⟩
     ·exact r2.inj n m a x x' hne b1 b2 h3 h4
     ·lia
    ·subst c2;exact .inl (dead b1 h3)
   ·lia
  ·rcases zk7 h2 with ⟨a2,b2⟩ | ⟨a2,_⟩
   ·rcases zf4 h4 with ⟨_,h4⟩ | ⟨z,_⟩
    ·subst c1;exact .inr (dead b2 h4)
    ·lia
   ·lia
 ·have ll:=r2.len
  have h1:(α2.adr++[D])[n]?=some a:=h1
  rcases zk7 h1 with ⟨a1,b1⟩ | ⟨a1,c1⟩
  ·rcases zf4 h2 with ⟨_,h2⟩ | ⟨z,_⟩
   ·exact r2.dis n a x b1 h2 h3 (sub1 a h4)
   ·lia
  ·subst c1;exact nD h4
section
variable {X:Cx} {C:zb7} {W:Nat} {elt iter tg:Expr} {ifs:List Expr} {ielt:E} {it:It} {t:Tg} {scope:Scope} {pos:Pos} {N:List Str} {caps:List Nat} {n:Nat}
theorem yc5 {cond:Option E} {σ:L2.St} {H:Hp} {Q:VK} (h:tP X.K C (.thaw (.comp false ielt t it cond caps n)) σ H Q):yi3 X.K caps n (tI X.K C it) (tG X.K t) (tTs X.K C cond) (tP X.K C ielt) σ H Q:=by
 obtain ⟨env,α,st,v,st',at',e,q⟩:=h
 rw [yn9,yl2] at e
 obtain ⟨x,st0,e0,e⟩:=Res.bindP_inv e
 obtain ⟨⟨xs,src⟩,st1,e1,e0⟩:=Res.bind_inv e0
 obtain ⟨zs,st2,e2,e0⟩:=Res.bind_inv e0
 simp only [mk,Bool.false_eq_true,if_false] at e0
 cases e0
 cases e
 refine ya8 at' e1 e2 fun D ys α1 st1 H1 α2 H2 x1 lk r2 hrs nD hDl rps=>?_
 obtain ⟨a,b⟩:=yu2 lk r2 hrs nD hDl rps
 exact q _ H2 _ (x1.trans a) b ⟨D,rfl,zX6 (r2.as lk.sub)⟩
theorem yv2 {i:Nat} {y:Str} {py spos:Pos} {cond:Option E} (hN:X.N.Nodup) (hyi:X.N[i]?=some y) (hyl:X.env.scope.names.lookup y=some .local) (hcalm:X.calm=true) (ok:zv4 X scope N caps n) (hi:SI X C tg iter it)
  (hg:∀ cl s₀ H₀ ex pn,SG (zd5 X scope N cl s₀ H₀ ex pn) tg t) (ht:∀ cl s₀ H₀ ex pn,PTs (zd5 X scope N cl s₀ H₀ ex pn) ifs (tTs X.K C cond)) (he:∀ cl s₀ H₀ ex pn,SE (zd5 X scope N cl s₀ H₀ ex pn) C elt ielt)
  (hs:∀ x,foldedSetIterable iter X.env x=pure x) (hsw:swapsWith (.ListComp elt [⟨tg,iter,ifs,0⟩] scope pos) (some (.Name y py)) spos.line X.env=pure true) :
  SS X C W (.Assign [.Name y py] (.ListComp elt [⟨tg,iter,ifs,0⟩] scope pos) spos) (.set i (.thaw (.comp false ielt t it cond caps n))) :=
 PS.mono (yl6 (g:=tG X.K t) (te:=tP X.K C ielt) hN hyi hyl hcalm ok hi hg ht he hs hsw) fun D σ H h_=>by
  obtain ⟨env,α,st,fl,st',at',e,q⟩:=h_
  rw [yl7] at e
  obtain ⟨v,st1,e1,e⟩:=Res.bind_inv e
  cases e
  exact yc5 ⟨env,α,st,v,st',at',e1,fun w H1 α1 x1 r1 v1=>q _ H1 α1 x1 ((at'.next x1 r1).set v1)⟩
end
open PySem L2 PySem.SeqAt PyProof.Rows
theorem extW (T:String) (hT:T = "list" ∨ T = "tuple") (l:Addr) (is:Array Value) (n:Nat) (b:Addr) (js:Array Value) (m:Nat) (dd:Option Addr) (sl:Array (Option Value))
  (h0:¬(!is.isEmpty&&Builtin.List.listTooLong (is.size+js.size))=true) (h1:is.size≤sizeLine) (h2:is.size+js.size≤sizeLine+1) :
  Meets (Builtin.«list.extend» ⟨[.ref l,.ref b],[]⟩) (fun _ R s=>s.heap.get? l=some { cls:=.type "list", dict:=none,data:=.seq is n,slots:=#[] } ∧
   s.heap.get? b=some { cls:=.type T,dict:=dd,data:=.seq js m,slots:=sl } ∧
   R (.ok (.ret Value.none)) { s with heap:=s.heap.update l (Obj.mapSeq fun x=>x++js),toks:=s.toks }):=by
 have hz':(is++js).size≤sizeLine+1:=by rw [Array.size_append];exact h2
 rcases hT with rfl | rfl
 ·exact .of_wp fun prog w A R s0 hh=>by
   obtain ⟨hp,gg,dw,tk,oo⟩:=s0
   obtain ⟨k1,k2,k3⟩:=hh
   have g1:=AutoSeq1.idx_int
   have g2:=AutoSeq1.sub_tuple_tuple
   have g3:=AutoSeq1.sub_list_list
   have g4:=AutoSeq1.sub_tuple_list
   have g5:=AutoSeq1.sub_list_tuple
   wp_walk using (wpAny_updateSeq k1 rfl (hz:=h1) (_hz':=hz')),AutoSeq1.wpAny_loadPart' k1,AutoSeq1.wpAny_loadPart' k2
   exact ⟨_,rfl,k3⟩
 ·exact .of_wp fun prog w A R s0 hh=>by
   obtain ⟨hp,gg,dw,tk,oo⟩:=s0
   obtain ⟨k1,k2,k3⟩:=hh
   have g1:=AutoSeq1.idx_int
   have g2:=AutoSeq1.sub_tuple_tuple
   have g3:=AutoSeq1.sub_list_list
   have g4:=AutoSeq1.sub_tuple_list
   have g5:=AutoSeq1.sub_list_tuple
   wp_walk using (wpAny_updateSeq k1 rfl (hz:=h1) (_hz':=hz')),AutoSeq1.wpAny_loadPart' k1,AutoSeq1.wpAny_loadPart' k2
   exact ⟨_,rfl,k3⟩
section
variable {X:Cx}
theorem zW6:MtL X "list.extend" zJ5:=by
 rintro pins s σ H x ws v us Q I rx rs ⟨α,st,a,l,vs,xs,z,l',r,e,hH,hl,hx,hg,q⟩
 subst e
 obtain rfl:=(show v=Value.ref a from rx)
 obtain ⟨z1,its,n,r1,hl1,e1⟩:=I.lstM hH
 have ll:=hl.length
 have go:∀ {T:String} {b:Addr} {ys:List PV} {us2:List V} {js:List Value} {m:Nat} {dd:Option Addr} {sl:Array (Option Value)},(T = "list" ∨ T = "tuple")→us=[.ref b]→l.length+ys.length≤SZ→z=.non→l'=l++ys→RPs X.K H (zf1 α st) ys us2→zg6 us2 js →
   s.heap.get? b=some { cls:=.type T,dict:=dd,data:=.seq js.toArray m,slots:=sl }→wpAny (model X.prog X.w) X.A (call (.builtin "list.extend") (.ref a::us)) (EP X pins σ Q) X.xe s:=by
  intro T b ys us2 js m dd sl hT eu hc ez el hy ry e2
  subst eu ez el
  rw [zG8] at hc
  have ly:=hy.length
  have lj:=ry.length
  have hsz:its.toArray.size+js.toArray.size≤sizeLine:=by rw [List.size_toArray,List.size_toArray];lia
  have hlong:¬ (!its.toArray.isEmpty&&Builtin.List.listTooLong (its.toArray.size+js.toArray.size))=true:=by
   rw [yu1 hsz,Bool.and_false]
   exact Bool.false_ne_true
  refine PySem.call_meets PySem.F.slot_list_extend ⟨_,e1,rfl⟩ PySem.F.entry_list_extend (PySem.F.args_list_extend_2 _ _) (extW T hT a its.toArray n b js.toArray m dd sl hlong (by rw [List.size_toArray];lia) (by lia)) ⟨e1,e2,?_⟩
  refine ⟨.non,_,I.lset (its':=its++js) (ys:=vs++us2) hH e1 (by simp) (r1.append ry) (by rw [List.length_append];lia),rfl,q _ _ (by rw [RP]) (hl.append hy)⟩
 cases hx with
 | nil=>cases hg
 | cons h t =>
  cases t with
  | cons _ _=>rename_i y _ _ _ _ _ _ _;cases y <;> cases hg
  | nil =>
   rename_i y w
   cases rs with
   | cons ra rt =>
    cases rt
    cases y with
    | lst ys =>
     have hg:(if l.length+ys.length≤SZ then some (PV.non,l++ys) else none)=some (z,l'):=hg
     by_cases hc:l.length+ys.length≤SZ
     ·rw [if_pos hc] at hg
      obtain ⟨b,us2,rfl,h1,h2⟩:=h.lst
      obtain rfl:=(show _=Value.ref b from ra)
      obtain ⟨js,ry,⟨⟨cls,dd,data,sl⟩,m,e2,c1,c2,c3⟩,_⟩:=I.list h1
      simp only at c1 c3
      subst c1 c3
      have hg:=Option.some.inj hg
      exact go (.inl rfl) rfl hc (congrArg Prod.fst hg).symm (congrArg Prod.snd hg).symm h2 ry e2
     ·rw [if_neg hc] at hg;cases hg
    | tup ys =>
     have hg:(if l.length+ys.length≤SZ then some (PV.non,l++ys) else none)=some (z,l'):=hg
     by_cases hc:l.length+ys.length≤SZ
     ·rw [if_pos hc] at hg
      obtain ⟨b,us2,rfl,h1,h2⟩:=h.tup
      obtain rfl:=(show _=Value.ref b from ra)
      obtain ⟨js,ry,⟨⟨cls,dd,data,sl⟩,e2,c1,m,c3⟩,_⟩:=I.tuple h1
      simp only at c1 c3
      subst c1 c3
      have hg:=Option.some.inj hg
      exact go (.inr rfl) rfl hc (congrArg Prod.fst hg).symm (congrArg Prod.snd hg).symm h2 ry e2
     ·rw [if_neg hc] at hg;cases hg
    | _=>cases hg
theorem zZ1 (v:Val) (vs:List Val) (st:za6):zk3 .extend v vs st=(match zj4 st vs with | some xs=>zp7 v st (zJ5 xs) | none=>.stuck):=by
 show (match zj4 st vs with | some xs=>zx2 .extend v xs st | none=>.stuck)=_
 cases zj4 st vs <;> rfl
theorem yC5 {xs l:List PV} {p:PV×List PV} (h:zJ9 xs l=some p):∃ i y,xs=[.int i,y]:=by
 match xs with
 | [.int i,y]=>exact ⟨i,y,rfl⟩
 | []=>cases h
 | [.non]=>cases h
 | [.bl _]=>cases h
 | [.int _]=>cases h
 | [.str _]=>cases h
 | [.tup _]=>cases h
 | [.lst _]=>cases h
 | .non::_::_=>cases h
 | .bl _::_::_=>cases h
 | .str _::_::_=>cases h
 | .tup _::_::_=>cases h
 | .lst _::_::_=>cases h
 | .int _::_::_::_=>cases h
theorem yt5:MtK X "list.insert" zJ9:=by
 rintro pins s σ H x ws v us Q I rx rs ⟨α,st,a,l,vs,xs,z,l',r,e,hH,hl,hx,hg,q⟩
 subst e
 obtain rfl:=(show v=Value.ref a from rx)
 obtain ⟨z1,its,n,r1,hl1,e1⟩:=I.lstM hH
 have ll:=hl.length
 obtain ⟨i,y,rfl⟩:=yC5 hg
 have hg:(if 0≤i∧i≤(l.length:Int)∧l.length<SZ then some (PV.non,l.take i.toNat++y::l.drop i.toNat) else none)=some (z,l'):=hg
 by_cases hc:0≤i∧i≤(l.length:Int)∧l.length<SZ
 ·rw [if_pos hc] at hg
  have hg:=Option.some.inj hg
  have ez:PV.non=z:=congrArg Prod.fst hg
  have el:l.take i.toNat++y::l.drop i.toNat=l':=congrArg Prod.snd hg
  rw [zG8] at hc
  have hsl:sizeLine=16777216:=by decide
  rw [RPs] at hx
  obtain ⟨w1,wr,rfl,h1,hx⟩:=hx
  rw [RPs] at hx
  obtain ⟨w2,wr2,rfl,h2,hx⟩:=hx
  rw [RPs] at hx
  subst hx
  rw [RP] at h1
  subst h1
  cases rs with
  | cons ra rt =>
   cases rt with
   | cons rb rt =>
    cases rt
    obtain ⟨t1,rfl⟩:=ra
    rename_i u2
    refine PySem.call_meets PySem.F.slot_list_insert ⟨_,e1,rfl⟩ PySem.F.entry_list_insert (PySem.F.args_list_insert_3 _ _ _) (AutoListH.list_insert_list_int_val_1 a its.toArray n i t1 u2 (by simp [Builtin.List.listFitsIndex];lia) (by rw [List.size_toArray];lia)) ⟨e1,?_⟩
    refine ⟨.non,_,I.lset (its':=its.take i.toNat++u2::its.drop i.toNat) (ys:=vs.take i.toNat++w2::vs.drop i.toNat) hH e1 ?_ ?_ ?_,rfl,q _ _ (by rw [← ez,RP]) ?_⟩
    ·dsimp only
     have hk:(if i<0 then (i+((its.toArray.size:Nat):Int)).toNat else min i.toNat its.toArray.size)=i.toNat:=by
      rw [if_neg (by lia),List.size_toArray];lia
     rw [hk]
     apply Array.ext'
     simp
     exact List.take_of_length_le (by simp)
    ·exact (r1.take i.toNat).append (.cons rb (r1.drop i.toNat))
    ·rw [List.length_append,List.length_cons,List.length_take,List.length_drop];lia
    ·rw [← el]
     refine (hl.take i.toNat).append ?_
     rw [RPs]
     exact ⟨w2,_,rfl,h2,hl.drop i.toNat⟩
 ·rw [if_neg hc] at hg;cases hg
theorem yu3 (v:Val) (vs:List Val) (st:za6):zk3 .insert v vs st=(match yb2 vs with | some xs=>zp7 v st (zJ9 xs) | none=>.stuck):=by
 show (match yb2 vs with | some xs=>zx2 .insert v xs st | none=>.stuck)=_
 cases yb2 vs <;> rfl
end
open PySem L2 PySem.SeqAt PyProof.Rows
section
variable {X:Cx} {C:zb7} {a b c:Expr} {ia ib ic:E} {pos:Pos}
theorem yX4 (ha:SE X C a ia):SE X C (.UnaryOp .USub a pos) (.neg ia) :=
 PE.mono (yZ3 yy8 ha) fun σ H Q h_=>by
  obtain ⟨env,α,st,v,st',at',e,q⟩:=h_
  rw [yZ7] at e
  obtain ⟨va,x,st1,e1,hv,e⟩:=Res.bindV_inv e
  obtain ⟨z,h1,h2,h3⟩:=zq4 e
  subst h2 h3
  refine ⟨env,α,st,va,st',at',e1,fun w H1 α1 x1 r1 v1=>?_⟩
  cases x with
  | int i =>
   cases h1
   exact ⟨i,(v1.view r1 hv).int,q _ H1 α1 x1 r1 (by show RP X.K H1 (zf1 α1 st') (.int (-i)) (.int (-i));rw [RP])⟩
  | _=>cases h1
end
open PySem L2 PySem.SeqAt PyProof.Rows
theorem yF4 (n:Nat):Builtin.Slice.sliceAdjust none none (-1) (n:Int)=((n:Int) - 1,-1):=by
 unfold Builtin.Slice.sliceAdjust
 simp
theorem ye1 (n:Nat):Builtin.Slice.slicePlaces ((n:Int) - 1) (-1) (-1)=n:=by
 unfold Builtin.Slice.slicePlaces
 by_cases h:n=0
 ·subst h;decide
 ·simp
  lia
theorem zZ5 {α β:Type} {f g:α→Option β}:∀ {l:List α},(∀ x∈l,f x=g x)→l.filterMap f=l.filterMap g
 | [],_=>rfl
 | x::r,h=>by
  rw [List.filterMap_cons,List.filterMap_cons,h x (List.mem_cons_self ..),zZ5 fun y hy=>h y (List.mem_cons_of_mem _ hy)]
theorem yr1 (xs:List Value):((List.range xs.length).filterMap fun (k:Nat)=>xs.toArray[(((xs.length:Int) - 1)+(k:Int) * (-1)).toNat]?)=xs.reverse:=by
 have e:∀ k∈List.range xs.length,xs.toArray[(((xs.length:Int) - 1)+(k:Int) * (-1)).toNat]?=xs.reverse[k]?:=fun k hk=>by
  have hk:k<xs.length:=List.mem_range.mp hk
  rw [List.getElem?_reverse hk,List.getElem?_toArray]
  congr 1
  lia
 rw [zZ5 e]
 have g:∀ (l:List Value),(List.range l.length).filterMap (fun k=>l[k]?)=l:=by
  intro l
  apply List.ext_getElem?
  intro i
  have:=pick_run l.toArray 0 l.length
  simp only [Nat.zero_add,List.map_id',List.drop_zero,List.getElem?_toArray] at this
  rw [this]
  simp
 have:=g xs.reverse
 rwa [List.length_reverse] at this
section
variable {prog:Program} {w:World} {A:Around} {E:Value→Shared→Prop} {s:Shared}
theorem zT1 {sl:Addr} {tk:Tok} {n:Nat} {Q:Int×Int×Nat→Shared→Prop} (hs:s.heap.IsSliceOf sl .none .none (.int (-1) tk)) (h:Q ((n:Int) - 1,-1,n) s) :
  wpAny (model prog w) A (Builtin.Slice.sliceApplied (.ref sl) (pure (n:Int))) Q E s:=by
 obtain ⟨os,hos,hcs,hds⟩:=id hs
 unfold Builtin.Slice.sliceApplied Builtin.Slice.sliceFields
 refine wpAny_bind (wpAny_bind (wpAny_field hos hds (x:=.none) rfl (wpAny_bind (wpAny_field hos hds (x:=.none) rfl (wpAny_bind (wpAny_field hos hds (x:=.int (-1) tk) rfl (wpAny_pure ?_)))))))
 refine wpAny_bind (HT.slicePart_ (.int (-1) tk) ?_)
 show wpAny _ _ (if ((-1:Int)==0)=true then _ else _) _ _ s
 rw [if_neg (by decide)]
 refine wpAny_bind (HT.slicePart_ .none (wpAny_bind (HT.slicePart_ .none (wpAny_bind (wpAny_pure ?_)))))
 show wpAny _ _ (match Builtin.Slice.sliceAdjust none none (-1) (n:Int) with | (lo,hi)=>pure (lo,(-1:Int),Builtin.Slice.slicePlaces lo hi (-1))) _ _ s
 rw [yF4]
 show wpAny _ _ (pure ((n:Int) - 1,(-1:Int),Builtin.Slice.slicePlaces ((n:Int) - 1) (-1) (-1))) _ _ s
 rw [ye1]
 exact wpAny_pure h
theorem zy3 {t sl:Addr} {zc3:List Value} {tk:Tok} {Q:Value→Shared→Prop} (ht:IsTup s.heap t zc3.toArray) (hs:s.heap.IsSliceOf sl .none .none (.int (-1) tk))
  (h:Q (.ref s.heap.objs.size) { s with heap:=s.heap.push { cls:=.type "tuple", data:=.seq zc3.reverse.toArray } }) (hsz:zc3.length≤sizeLine):wpAny (model prog w) A (getItem (.ref t) (.ref sl)) Q E s:=by
 have htake:sizeOk (.seq zc3.reverse.toArray):=by
  show zc3.reverse.toArray.size≤sizeLine
  rw [List.size_toArray,List.length_reverse];exact hsz
 obtain ⟨os,hos,hcs,hds⟩:=id hs
 have hTs:s.TypeIs (.ref sl) "slice" := ⟨os,hos,hcs⟩
 unfold getItem
 try with_reducible refine wpAny_holding ?_
 first | refine wpAny_bind (wpAny_pure ?_) | skip
 refine wpAny_bind (wpAny_sequenceKey ht.typeIs (by decide) ?_)
 refine wpAny_bind (wpAny_callSpecial?_slot (name:=Str.ofString "__getitem__") ht.typeIs PyProof.Rows.slot_tuple_getitem
  (wpAny_call_entry PyProof.Rows.slot_tuple_getitem ht.typeIs entry_tuple_getitem ?_ (args_tuple_getitem _ _)))
 show wpAny _ _ (Builtin.Tuple.tupleItemsOf (.ref t) >>= _) _ _ s
 refine wpAny_bind (tupleItemsOf_ ht ?_)
 refine wpAny_bind (wpAny_typeOf hTs ?_)
 rw [if_pos (by decide)]
 refine wpAny_bind (zT1 hs ?_)
 have hno:¬ (((((zc3.toArray.size:Nat):Int) - 1)==0&&(-1:Int)==1&&zc3.toArray.size==zc3.toArray.size)=true):=by simp
 show wpAny _ _ (if (((((zc3.toArray.size:Nat):Int) - 1)==0&&(-1:Int)==1&&zc3.toArray.size==zc3.toArray.size)=true) then _ else _) _ _ s
 rw [if_neg hno]
 have ep:=yr1 zc3
 rw [List.size_toArray,ep]
 first
  | exact wpAny_bind (m:=Builtin.Tuple.tupleExact _) (wpAny_newObj_type (wpAny_pure ⟨_,rfl,wpAny_pure h⟩) htake)
  | exact wpAny_bind (m:=Builtin.Tuple.tupleExact _) (wpAny_newObj_type (wpAny_bind (wpAny_pure (wpAny_pure ⟨_,rfl,wpAny_pure h⟩))) htake)
  | exact wpAny_bind (wpAny_bind (m:=Builtin.Tuple.tupleExact _) (wpAny_newObj_type (wpAny_pure (wpAny_pure ⟨_,rfl,wpAny_pure h⟩)) htake))
  | exact wpAny_bind (wpAny_bind (m:=Builtin.Tuple.tupleExact _) (wpAny_newObj_type (wpAny_pure ⟨_,rfl,wpAny_pure h⟩) htake))
end
section
variable {X:Cx} {C:zb7} {e:Expr} {ie:E} {pos p2 p3 p4:Pos}
theorem yX5 {j} (he:SE X C e ie):SE X C (.Subscript e (.Slice none none (some (.UnaryOp .USub (.Constant (.int 1) j p3) p4)) p2) pos) (.rev ie):=by
 intro pins s σ H Q I h
 obtain ⟨env,α,st,v0,st',at',e0,q⟩:=h
 rw [yX3] at e0
 obtain ⟨va,st1,e1,e0⟩:=Res.bind_inv e0
 obtain ⟨x,y,g1,g2,g3,g4⟩:=ym1 e0
 subst g3 g4
 refine Subscript_ (thn (he pins s σ H (fun w H1=>∃ α1,Ext X.K α st H α1 st' H1∧RSt X.K α1 st' H1∧RV X.K α1 st' H1 va w) I ⟨env,α,st,va,st',at',e1,fun w H1 α1 x1 r1 v1=>⟨α1,x1,r1,v1⟩⟩) fun v s1 h_=>?_)
 obtain ⟨w,H1,I1,r1,α1,x1,rs1,v1⟩:=h_
 refine wpAny_Slice ?_
 rw [evalPart_none]
 refine wpAny_pure (wpAny_pure ?_)
 rw [evalPart_some]
 have hm1:PE X (.UnaryOp .USub (.Constant (.int 1) j p3) p4) (tUn (rU fun i=>.int (-i)) (tC (.int 1))):=yZ3 yy8 yA2
 refine thn (hm1 pins s1 σ H1 (fun z H2=>z=.int (-1)∧H2=H1) I1 ⟨1,rfl,rfl,rfl⟩) fun vs s3 h_=>?_
 obtain ⟨z,H2,I3,rz,ez,eH⟩:=h_
 subst ez eH
 obtain ⟨tk,rfl⟩:=rz
 cases x with
 | tup xs =>
  cases g2
  obtain ⟨a,ws,rfl,h1,h2⟩:=(v1.view rs1 g1).tup
  obtain rfl:v=Value.ref a:=r1
  have I4:Inv X pins σ H2 { s3 with heap:=s3.heap.push { cls:=.type "slice", data:=.fields #[.none,.none,.int (-1) tk] } }:=I3.kept (t':=s3.toks) fun b ob q=>Heap.get?_push_of_some _ q
  obtain ⟨its,r,ht,hz⟩:=I4.tuple h1
  have hl:=r.length
  show wpAny (model X.prog X.w) X.A (subscriptTail e _ (.ref a) (.ref s3.heap.objs.size)) (EP X pins σ Q) X.xe { s3 with heap:=s3.heap.push { cls:=.type "slice", data:=.fields #[.none,.none,.int (-1) tk] } }
  refine tail_any (ops:=[.ref a,.ref s3.heap.objs.size]) ht.typeIs PyProof.Rows.slot_tuple_getitem.lookup (zy3 ht (Heap.IsSliceOf.new ..) ?_ (by lia)) (by with_unfolding_all rfl)
  have hf:=I4.hok.fresh (Nat.le_refl _)
  have s5:zj0 H2 (upd H2 _ (.tup ws.reverse)):=zf8 hf _
  refine ⟨.ref _,_,I4.laid (t':=s3.toks) (o:=.tup ws.reverse) (fun b ob q=>Heap.get?_push_of_some _ q) (Nat.le_refl _) ?_,rfl,q _ _ α1 (x1.trans (.of_same rs1 s5)) (rs1.same s5) ?_⟩
  ·exact ⟨by rw [List.length_reverse];exact hz,_,r.reverse,zC9.new _ _⟩
  ·rw [RV,RP]
   exact ⟨_,_,rfl,SqT.of zd7,(Ext.of_same rs1 s5).rps h2.reverse⟩
 | _=>cases g2
end
open PySem L2 PySem.SeqAt PyProof.Rows
section
variable {X:Cx} {C:zb7} {o e:Expr} {io ie:E} {apos cpos:Pos} {pins:List (Addr×Obj)} {s:Shared} {σ:L2.St} {H:Hp}
end
open PySem PyProof.Rows
noncomputable abbrev KK2:=PyProof.Rows.KeyKind
structure SB (kd:SortKind) (z:Array Keyed) (P:Array (Nat×Nat×Nat)) (st:SortSt):Prop where
 perm:(arrOf st).Perm z
 kind:kindOf st=kd
 ok:failedOf st=none
 pd:pendingOf st=P
theorem SB.sz {kd z P st} (h:SB kd z P st):(arrOf st).size=z.size:=h.perm.size_eq
theorem SB.set {kd z P st} {ys:Array Keyed} (h:SB kd z P st) (p:ys.Perm (arrOf st)):SB kd z P (setArr st ys):=⟨p.trans h.perm,h.kind,h.ok,h.pd⟩
theorem zF7 {κ:KK2} {x y:Array Keyed} (p:x.Perm y) (h:KeysOf κ y):KeysOf κ x:=fun q hq=>h q ((Array.perm_iff_toList_perm.mp p).mem_iff.mp hq)
theorem zh7 {κ:KK2} {x:Array Keyed} (h:KeysOf κ x) {i:Nat} (hi:i<x.size):∃ p,x[i]?=some p∧κ.keyOf p.1=some (KK κ x i):=by
 have e:x[i]?=some x[i]:=getElem?_pos x i hi
 obtain ⟨a,ha⟩:=h x[i] (by simp)
 refine ⟨x[i],e,?_⟩
 unfold KK
 rw [e]
 dsimp only
 rw [ha];rfl
def zS1 (prog:Program) (w:World) (A:Around) (s:Shared) (κ:KK2) (kd:SortKind):Prop :=
 ∀ (x y:Value) (a b:κ.α) (E:Value→Shared→Prop) (Q:Bool→Shared→Prop),κ.keyOf x=some a→κ.keyOf y=some b→Q (κ.blt a b) s→wpAny (model prog w) A (keyLt' kd x y) Q E s
def Seg (κ:KK2) (x:Array Keyed) (lo n:Nat):Prop:=∀ i j,i≤j→j<n→κ.kle (KK κ x (lo+i)) (KK κ x (lo+j))
def Fal (κ:KK2) (x:Array Keyed) (lo n:Nat):Prop:=∀ i j,i≤j→j<n→κ.kle (KK κ x (lo+j)) (KK κ x (lo+i))
def Low (lo:Nat) (x y:Array Keyed):Prop:=∀ i,i<lo→y[i]?=x[i]?
theorem Low.refl {lo:Nat} {x:Array Keyed}:Low lo x x:=fun _ _=>rfl
theorem Low.trans {lo:Nat} {x y z:Array Keyed} (a:Low lo x y) (b:Low lo y z):Low lo x z:=fun i h=>(b i h).trans (a i h)
theorem Low.mirror {lo i j:Nat} {x:Array Keyed} (hi:lo≤i) (hj:j≤x.size):Low lo x (mirror x i j ((j - i) / 2)):=fun k h=>by
 rw [getElem?_mirror_all hj,if_neg (by lia)]
theorem Low.bubble {lo k d:Nat} {x:Array Keyed} (hk:k<x.size) (hd:d≤k) (h:lo≤k - d):Low lo x (bubble x k d):=fun i hi=>by
 rw [getElem?_bubble hk d hd,if_neg (by lia),if_neg (by lia)]
theorem Seg.one {κ:KK2} {x:Array Keyed} {lo n:Nat} (h:n≤1):Seg κ x lo n:=fun i j a b=>by
 have:i=j:=by lia
 subst this;exact KeyOrd.kle_refl _
section
variable {prog:Program} {w:World} {A:Around} {E:Value→Shared→Prop} {s:Shared} {κ:KK2} {kd:SortKind} {z:Array Keyed} {P:Array (Nat×Nat×Nat)}
theorem yZ5 {st:SortSt} {p q:Keyed} {a b:κ.α} {Q:Option Bool→SortSt→Prop} (hL:zS1 prog w A s κ kd) (hk:kindOf st=kd) (ha:κ.keyOf p.1=some a) (hb:κ.keyOf q.1=some b) (h:Q (some (κ.blt a b)) st) :
  wpS (model prog w) A E s (lt' p q) Q st:=by
 rw [lt'_eq]
 refine wpS_bind (wpS_get ?_)
 rw [hk]
 refine wpS_bind (wpS_lift (wpAny_attempt (hL _ _ _ _ _ _ ha hb ⟨rfl,?_⟩)))
 exact wpS_pure h
theorem zs7 {st:SortSt} {x:Array Keyed} {i:Nat} {p:Keyed} {Q:Keyed→SortSt→Prop} (e:x[i]?=some p) (h:Q p st):wpS (model prog w) A E s (elem' x i) Q st:=by
 rw [elem'_eq,e];exact wpS_pure h
theorem zR6 {st:SortSt} {i j:Nat} {Q:Option Bool→SortSt→Prop} (hL:zS1 prog w A s κ kd) (hz:KeysOf κ z) (hB:SB kd z P st) (hi:i<z.size) (hj:j<z.size)
  (h:Q (some (κ.blt (KK κ (arrOf st) i) (KK κ (arrOf st) j))) st):wpS (model prog w) A E s (ltAt' i j) Q st:=by
 obtain ⟨p,e1,h1⟩:=zh7 (zF7 hB.perm hz) (show i<(arrOf st).size by rw [hB.sz];exact hi)
 obtain ⟨q,e2,h2⟩:=zh7 (zF7 hB.perm hz) (show j<(arrOf st).size by rw [hB.sz];exact hj)
 rw [ltAt'_eq]
 refine wpS_bind (wpS_get ?_)
 exact wpS_bind (zs7 e1 (wpS_bind (zs7 e2 (yZ5 hL hB.kind h1 h2 h))))
theorem yw4 {st:SortSt} {i j:Nat} {Q:Unit→SortSt→Prop} (h:Q () (setArr st (mirror (arrOf st) i j ((j - i) / 2)))):wpS (model prog w) A E s (reverseSlice' i j) Q st:=by
 rw [reverseSlice'_eq];exact wpS_modify h
end
noncomputable abbrev R1:=Option (Option Nat)×Nat
noncomputable abbrev R2:=Option (Option Nat)×Nat×Nat
noncomputable def asc (lo a nrem:Nat):StateT SortSt Sem R1 :=
 forIn [a:nrem] ((none,a):R1) fun _ c=>do
  let x ← ltAt' (lo+c.2) (lo+c.2 - 1)
  match x with
  | some smaller=>if smaller=true then pure (ForInStep.done (none,c.2)) else pure (ForInStep.yield (none,c.2+1))
  | _=>pure (ForInStep.done (some none,c.2))
noncomputable def yg5 (lo n nrem:Nat):StateT SortSt Sem (Option Nat):=do
 reverseSlice' lo (lo+n)
 let c ← asc lo n nrem
 match c.1 with
 | some r=>pure r
 | none=>pure (some c.2)
noncomputable def xa8 (lo n nrem:Nat):StateT SortSt Sem R2 :=
 forIn [n:nrem] ((none,n,0):R2) fun _ c=>do
  let x ← ltAt' (lo+c.2.1) (lo+c.2.1 - 1)
  match x with
  | some smaller =>
   if smaller=true then
    if c.2.2 > 0 then do
     reverseSlice' (lo+c.2.1 - (c.2.2+1)) (lo+c.2.1)
     pure (ForInStep.yield (none,c.2.1+1,0))
    else pure (ForInStep.yield (none,c.2.1+1,0))
   else do
    let y ← ltAt' (lo+c.2.1 - 1) (lo+c.2.1)
    match y with
    | some larger=>if larger=true then pure (ForInStep.done (none,c.2.1,c.2.2)) else pure (ForInStep.yield (none,c.2.1+1,c.2.2+1))
    | _=>pure (ForInStep.done (some none,c.2.1,c.2.2))
  | _=>pure (ForInStep.done (some none,c.2.1,c.2.2))
noncomputable def ym0 (lo n nrem:Nat):StateT SortSt Sem (Option Nat):=do
 liftM (rule "list.sort.descending-run")
 let c ← xa8 lo (n+1) nrem
 match c.1 with
 | some r=>pure r
 | none =>
  if c.2.2 > 0 then do
   reverseSlice' (lo+c.2.1 - (c.2.2+1)) (lo+c.2.1)
   yg5 lo c.2.1 nrem
  else yg5 lo c.2.1 nrem
theorem zc0 {α β:Type} {m m':StateT SortSt Sem α} {f g:α→StateT SortSt Sem β} (e:m=m') (h:∀ a,f a=g a):(m >>= f)=(m' >>= g):=by
 subst e
 rw [funext h]
theorem yX6 (lo nrem:Nat):countRun' lo nrem=(do
  let c ← asc lo 1 nrem
  match c.1 with
  | some r=>pure r
  | none =>
   if (c.2==nrem)=true then pure (some c.2)
   else if c.2 > 1 then do
    let x ← ltAt' lo (lo+c.2 - 1)
    match x with
    | some rose=>if rose=true then pure (some c.2) else do
      reverseSlice' lo (lo+c.2)
      ym0 lo c.2 nrem
    | _=>pure none
   else ym0 lo c.2 nrem):=by
 rw [countRun'_eq]
 unfold ym0 yg5 xa8 asc
 refine zc0 rfl fun c=>?_
 obtain ⟨r,n⟩:=c
 cases r with
 | some r=>rfl
 | none =>
  dsimp only
  split
  ·rfl
  ·split
   ·refine zc0 rfl fun x=>?_
    cases x with
    | none=>rfl
    | some rose =>
     dsimp only
     split
     ·rfl
     ·refine zc0 rfl fun u=>?_
      refine zc0 rfl fun _=>zc0 rfl fun c=>?_
      obtain ⟨r2,n2,q2⟩:=c
      cases r2 with
      | some r2=>rfl
      | none =>
       dsimp only
       split
       ·exact zc0 rfl fun _=>zc0 rfl fun _=>zc0 rfl fun c=>(by obtain ⟨r3,n3⟩:=c;cases r3 <;> rfl)
       ·exact zc0 rfl fun _=>zc0 rfl fun c=>(by obtain ⟨r3,n3⟩:=c;cases r3 <;> rfl)
   ·refine zc0 rfl fun _=>zc0 rfl fun c=>?_
    obtain ⟨r2,n2,q2⟩:=c
    cases r2 with
    | some r2=>rfl
    | none =>
     dsimp only
     split
     ·exact zc0 rfl fun _=>zc0 rfl fun _=>zc0 rfl fun c=>(by obtain ⟨r3,n3⟩:=c;cases r3 <;> rfl)
     ·exact zc0 rfl fun _=>zc0 rfl fun c=>(by obtain ⟨r3,n3⟩:=c;cases r3 <;> rfl)
open PySem PyProof.Rows
section
variable {prog:Program} {w:World} {A:Around} {E:Value→Shared→Prop} {s:Shared} {κ:KK2} {kd:SortKind} {z:Array Keyed} {P:Array (Nat×Nat×Nat)} {lo nrem:Nat}
theorem yS2 {st:SortSt} {a:Nat} {Q:R1→SortSt→Prop} (hL:zS1 prog w A s κ kd) (hz:KeysOf κ z) (hn:lo+nrem≤z.size) (a1:1≤a) (a2:a≤nrem) (hB:SB kd z P st) (hs:Seg κ (arrOf st) lo a)
  (h:∀ n,a≤n→n≤nrem→Seg κ (arrOf st) lo n→(n=nrem∨κ.klt (KK κ (arrOf st) (lo+n)) (KK κ (arrOf st) (lo+n - 1)))→Q (none,n) st):wpS (model prog w) A E s (asc lo a nrem) Q st:=by
 unfold asc
 refine wpS_forRange (I:=fun x c st'=>st'=st∧c=(none,x)∧Seg κ (arrOf st) lo x) ?_ ?_ ⟨rfl,rfl,hs⟩
 ·rintro x c st' b1 b2 ⟨rfl,rfl,g⟩
  dsimp only
  refine wpS_bind (zR6 hL hz hB (by lia) (by lia) ?_)
  cases e:κ.blt (KK κ (arrOf st') (lo+x)) (KK κ (arrOf st') (lo+x - 1)) with
  | true=>exact wpS_pure (h x b1 (by lia) g (.inr e))
  | false =>
   refine wpS_pure ⟨rfl,rfl,fun i j u v=>?_⟩
   by_cases c:j<x
   ·exact g i j u c
   ·obtain rfl:j=x:=by lia
    by_cases d:i=j
    ·subst d;exact KeyOrd.kle_refl _
    ·refine KeyOrd.kle_trans (g i (j - 1) (by lia) (by lia)) ?_
     rw [show lo+(j - 1)=lo+j - 1 by lia]
     exact e
 ·rintro c st' ⟨rfl,rfl,g⟩
  rw [show max a nrem=nrem by lia] at g ⊢
  exact h nrem a2 (Nat.le_refl _) g (.inl rfl)
def xa7 (κ:KK2) (kd:SortKind) (z:Array Keyed) (P:Array (Nat×Nat×Nat)) (lo nrem:Nat) (x:Array Keyed) (Q:Option Nat→SortSt→Prop):Prop :=
 ∀ m st',SB kd z P st'→1≤m→m≤nrem→Seg κ (arrOf st') lo m→Low lo x (arrOf st')→Q (some m) st'
theorem yA9 {st:SortSt} {n:Nat} {Q:Option Nat→SortSt→Prop} (hL:zS1 prog w A s κ kd) (hz:KeysOf κ z) (hn:lo+nrem≤z.size) (n1:1≤n) (n2:n≤nrem) (hB:SB kd z P st) (hf:Fal κ (arrOf st) lo n) (h:xa7 κ kd z P lo nrem (arrOf st) Q) :
  wpS (model prog w) A E s (yg5 lo n nrem) Q st:=by
 unfold yg5
 have hj:lo+n≤(arrOf st).size:=by rw [hB.sz];lia
 refine wpS_bind (yw4 ?_)
 have hB':SB kd z P (setArr st (mirror (arrOf st) lo (lo+n) ((lo+n - lo) / 2))):=hB.set (mirror_perm _ _ _ _)
 refine wpS_bind (yS2 hL hz hn n1 n2 hB' ?_ fun m m1 m2 g _=>wpS_pure (h m _ hB' (by lia) m2 g (Low.mirror (Nat.le_refl _) hj)))
 intro i j u v
 show κ.kle (KK κ (mirror (arrOf st) lo (lo+n) ((lo+n - lo) / 2)) (lo+i)) (KK κ (mirror (arrOf st) lo (lo+n) ((lo+n - lo) / 2)) (lo+j))
 rw [KK_mirror hj,KK_mirror hj,if_pos (by lia),if_pos (by lia),show lo+(lo+n) - 1 - (lo+i)=lo+(n - 1 - i) by lia,show lo+(lo+n) - 1 - (lo+j)=lo+(n - 1 - j) by lia]
 exact hf _ _ (by lia) (by lia)
theorem zE6 {x:Array Keyed} {n q:Nat} (hj:lo+n≤x.size) (hq:q+1≤n) (he:∀ i,n - (q+1)≤i→i<n→KK κ x (lo+i)=KK κ x (lo+n - 1)) (k:Nat) :
  KK κ (mirror x (lo+n - (q+1)) (lo+n) ((lo+n - (lo+n - (q+1))) / 2)) k=KK κ x k :=
 KK_mirror_equal hj (fun k k1 k2=>by
  have:=he (k - lo) (by lia) (by lia)
  rw [show lo+(k - lo)=k by lia] at this
  exact this) k
theorem yN9 {st:SortSt} {n:Nat} {Q:R2→SortSt→Prop} (hL:zS1 prog w A s κ kd) (hz:KeysOf κ z) (hn:lo+nrem≤z.size) (n1:1≤n) (n2:n≤nrem) (hB:SB kd z P st) (hf:Fal κ (arrOf st) lo n)
  (h:∀ m q st',SB kd z P st'→n≤m→m≤nrem→Fal κ (arrOf st') lo m→q+1≤m→(∀ i,m - (q+1)≤i→i<m→KK κ (arrOf st') (lo+i)=KK κ (arrOf st') (lo+m - 1))→Low lo (arrOf st) (arrOf st')→Q (none,m,q) st') :
  wpS (model prog w) A E s (xa8 lo n nrem) Q st:=by
 unfold xa8
 refine wpS_forRange (I:=fun x c st'=>∃ q,c=(none,x,q)∧SB kd z P st'∧Fal κ (arrOf st') lo x∧q+1≤x∧(∀ i,x - (q+1)≤i→i<x→KK κ (arrOf st') (lo+i)=KK κ (arrOf st') (lo+x - 1))∧Low lo (arrOf st) (arrOf st')) ?_ ?_ ⟨0,rfl,hB,hf,by lia,fun i u v=>by congr 1;lia,Low.refl⟩
 ·rintro x c st' b1 b2 ⟨q,rfl,hB',g,hq,he,hl⟩
  dsimp only
  have hj:lo+x≤(arrOf st').size:=by rw [hB'.sz];lia
  refine wpS_bind (zR6 hL hz hB' (by lia) (by lia) ?_)
  cases e:κ.blt (KK κ (arrOf st') (lo+x)) (KK κ (arrOf st') (lo+x - 1)) with
  | true =>
   have up:∀ y:Array Keyed,(∀ k,KK κ y k=KK κ (arrOf st') k)→Fal κ y lo (x+1):=by
    intro y hy i j u v
    rw [hy,hy]
    by_cases c:j<x
    ·exact g i j u c
    ·obtain rfl:j=x:=by lia
     by_cases d:i=j
     ·subst d;exact KeyOrd.kle_refl _
     ·refine KeyOrd.kle_trans (KeyOrd.kle_of_klt e) ?_
      rw [show lo+j - 1=lo+(j - 1) by lia]
      exact g i (j - 1) (by lia) (by lia)
   dsimp only
   rw [if_pos rfl]
   by_cases c:q > 0
   ·rw [if_pos c]
    refine wpS_bind (yw4 (wpS_pure ⟨0,rfl,hB'.set (mirror_perm _ _ _ _),up _ (zE6 hj hq he),by lia,fun i u v=>by congr 1;lia,hl.trans (Low.mirror (by lia) hj)⟩))
   ·rw [if_neg c]
    exact wpS_pure ⟨0,rfl,hB',up _ (fun _=>rfl),by lia,fun i u v=>by congr 1;lia,hl⟩
  | false =>
   dsimp only
   rw [if_neg (by decide)]
   refine wpS_bind (zR6 hL hz hB' (by lia) (by lia) ?_)
   cases e2:κ.blt (KK κ (arrOf st') (lo+x - 1)) (KK κ (arrOf st') (lo+x)) with
   | true=>exact wpS_pure (h x q st' hB' b1 (by lia) g hq he hl)
   | false =>
    have ee:KK κ (arrOf st') (lo+x)=KK κ (arrOf st') (lo+x - 1):=KeyOrd.kle_antisymm e2 e
    refine wpS_pure ⟨q+1,rfl,hB',fun i j u v=>?_,by lia,fun i u v=>?_,hl⟩
    ·by_cases c:j<x
     ·exact g i j u c
     ·obtain rfl:j=x:=by lia
      by_cases d:i=j
      ·subst d;exact KeyOrd.kle_refl _
      ·rw [ee,show lo+j - 1=lo+(j - 1) by lia]
       exact g i (j - 1) (by lia) (by lia)
    ·rw [show lo+(x+1) - 1=lo+x by lia]
     by_cases d:i=x
     ·subst d;rfl
     ·rw [ee];exact he i (by lia) (by lia)
 ·rintro c st' ⟨q,rfl,hB',g,hq,he,hl⟩
  rw [show max n nrem=nrem by lia] at g hq he ⊢
  exact h nrem q st' hB' n2 (Nat.le_refl _) g hq he hl
theorem yp1 {st:SortSt} {n:Nat} {Q:Option Nat→SortSt→Prop} (hL:zS1 prog w A s κ kd) (hz:KeysOf κ z) (hn:lo+nrem≤z.size) (n2:n+1≤nrem) (hB:SB kd z P st) (hf:Fal κ (arrOf st) lo (n+1)) (h:xa7 κ kd z P lo nrem (arrOf st) Q) :
  wpS (model prog w) A E s (ym0 lo n nrem) Q st:=by
 unfold ym0
 refine wpS_bind (wpS_lift (wpAny_rule ⟨rfl,?_⟩))
 refine wpS_bind (yN9 hL hz hn (by lia) n2 hB hf fun m q st' hB' m1 m2 g hq he hl=>?_)
 dsimp only
 have hj:lo+m≤(arrOf st').size:=by rw [hB'.sz];lia
 have h':xa7 κ kd z P lo nrem (arrOf st') Q:=fun k st2 a b c d f=>h k st2 a b c d (hl.trans f)
 by_cases c:q > 0
 ·rw [if_pos c]
  refine wpS_bind (yw4 (yA9 hL hz hn (by lia) m2 (hB'.set (mirror_perm _ _ _ _)) ?_ fun k st2 a b c d f=>h' k st2 a b c d ((Low.mirror (by lia) hj).trans f)))
  intro i j u v
  show κ.kle (KK κ (mirror (arrOf st') _ _ _) (lo+j)) (KK κ (mirror (arrOf st') _ _ _) (lo+i))
  rw [zE6 hj hq he,zE6 hj hq he]
  exact g i j u v
 ·rw [if_neg c]
  exact yA9 hL hz hn (by lia) m2 hB' g h'
theorem yQ0 {st:SortSt} {Q:Option Nat→SortSt→Prop} (hL:zS1 prog w A s κ kd) (hz:KeysOf κ z) (hn:lo+nrem≤z.size) (n1:1≤nrem) (hB:SB kd z P st) (h:xa7 κ kd z P lo nrem (arrOf st) Q) :
  wpS (model prog w) A E s (countRun' lo nrem) Q st:=by
 rw [yX6]
 refine wpS_bind (yS2 hL hz hn (Nat.le_refl 1) n1 hB (Seg.one (Nat.le_refl _)) fun n m1 m2 g ho=>?_)
 dsimp only
 by_cases c:n=nrem
 ·rw [if_pos (by simpa using c)]
  exact wpS_pure (h n st hB m1 m2 g Low.refl)
 ·rw [if_neg (by simpa using c)]
  have hlt:=ho.resolve_left c
  have hj:lo+n≤(arrOf st).size:=by rw [hB.sz];lia
  by_cases c1:n > 1
  ·rw [if_pos c1]
   refine wpS_bind (zR6 hL hz hB (by lia) (by lia) ?_)
   cases e:κ.blt (KK κ (arrOf st) lo) (KK κ (arrOf st) (lo+n - 1)) with
   | true=>exact wpS_pure (h n st hB m1 m2 g Low.refl)
   | false =>
    dsimp only
    rw [if_neg (by decide)]
    have al:∀ i,i<n→KK κ (arrOf st) (lo+i)=KK κ (arrOf st) (lo+n - 1):=by
     intro i hi
     have u1:=g 0 i (by lia) hi
     have u2:=g i (n - 1) (by lia) (by lia)
     rw [show lo+(n - 1)=lo+n - 1 by lia] at u2
     exact KeyOrd.kle_antisymm u2 (KeyOrd.kle_trans e u1)
    have me:∀ k,KK κ (mirror (arrOf st) lo (lo+n) ((lo+n - lo) / 2)) k=KK κ (arrOf st) k:=KK_mirror_equal hj fun k k1 k2=>by
     have:=al (k - lo) (by lia)
     rw [show lo+(k - lo)=k by lia] at this
     exact this
    refine wpS_bind (yw4 (yp1 hL hz hn (by lia) (hB.set (mirror_perm _ _ _ _)) ?_ fun k st2 a b c d f=>h k st2 a b c d ((Low.mirror (Nat.le_refl _) hj).trans f)))
    intro i j u v
    show κ.kle (KK κ (mirror (arrOf st) _ _ _) (lo+j)) (KK κ (mirror (arrOf st) _ _ _) (lo+i))
    rw [me,me]
    by_cases c2:j<n
    ·rw [al i (by lia),al j c2];exact KeyOrd.kle_refl _
    ·obtain rfl:j=n:=by lia
     by_cases d:i=j
     ·subst d;exact KeyOrd.kle_refl _
     ·rw [al i (by lia)];exact KeyOrd.kle_of_klt hlt
  ·rw [if_neg c1]
   obtain rfl:n=1:=by lia
   refine yp1 hL hz hn (by lia) hB ?_ h
   intro i j u v
   by_cases d:i=j
   ·subst d;exact KeyOrd.kle_refl _
   ·obtain rfl:i=0:=by lia
    obtain rfl:j=1:=by lia
    exact KeyOrd.kle_of_klt hlt
end
open PySem PyProof.Rows
section
variable {prog:Program} {w:World} {A:Around} {E:Value→Shared→Prop} {s:Shared} {κ:KK2} {kd:SortKind} {z:Array Keyed} {P:Array (Nat×Nat×Nat)} {lo:Nat}
theorem yY4 {st:SortSt} {n ok:Nat} {Q:Bool→SortSt→Prop} (hL:zS1 prog w A s κ kd) (hz:KeysOf κ z) (hn:lo+n≤z.size) (hok:ok≤n) (hB:SB kd z P st) (hs:Seg κ (arrOf st) lo ok)
  (h:∀ st',SB kd z P st'→Seg κ (arrOf st') lo n→Low lo (arrOf st) (arrOf st')→Q true st'):wpS (model prog w) A E s (binarySort' lo n ok) Q st:=by
 rw [binarySort'_eq]
 refine wpS_bind (wpS_mono (wpS_forRange (I:=fun k c st'=>c=(none,())∧SB kd z P st'∧Seg κ (arrOf st') lo (min k n)∧Low lo (arrOf st) (arrOf st'))
  (Q:=fun c st'=>c=(none,())∧SB kd z P st'∧Seg κ (arrOf st') lo n∧Low lo (arrOf st) (arrOf st')) ?t ?f ?i) ?p)
 case p =>
  rintro c st' ⟨rfl,a,b,d⟩
  exact wpS_pure (h st' a b d)
 case i =>
  refine ⟨rfl,hB,?_,Low.refl⟩
  by_cases c:ok=0
  ·exact Seg.one (by lia)
  ·rw [show min (max ok 1) n=ok by lia];exact hs
 case f =>
  rintro c st' ⟨e,a,b,d⟩
  rw [show min (max (max ok 1) n) n=n by lia] at b
  exact ⟨e,a,b,d⟩
 case t =>
  rintro k c st' k1 k2 ⟨rfl,hB',g,hl⟩
  rw [show min k n=k by lia] at g
  refine wpS_bind (wpS_mono (wpS_forRange (I:=fun x c st2=>st2=st'∧∃ l r,c=(none,l,r)∧l≤r∧r≤k∧r - l≤k - x∧(∀ i,i<l→κ.kle (KK κ (arrOf st') (lo+i)) (KK κ (arrOf st') (lo+k)))∧(∀ i,r≤i→i<k→κ.klt (KK κ (arrOf st') (lo+k)) (KK κ (arrOf st') (lo+i))))
   (Q:=fun c st2=>st2=st'∧∃ l r,c=(none,l,r)∧l≤k∧(∀ i,i<l→κ.kle (KK κ (arrOf st') (lo+i)) (KK κ (arrOf st') (lo+k)))∧(∀ i,l≤i→i<k→κ.klt (KK κ (arrOf st') (lo+k)) (KK κ (arrOf st') (lo+i)))) ?t2 ?f2 ?i2) ?p2)
  case i2=>exact ⟨rfl,0,k,rfl,by lia,by lia,by lia,fun i u=>by lia,fun i u v=>by lia⟩
  case f2 =>
   rintro c st2 ⟨rfl,l,r,rfl,a,b,d,e,f⟩
   obtain rfl:l=r:=by lia
   exact ⟨rfl,l,l,rfl,b,e,f⟩
  case t2 =>
   rintro x c st2 _ x2 ⟨rfl,l,r,rfl,a,b,d,e,f⟩
   dsimp only
   by_cases c:l ≥ r
   ·rw [if_pos c]
    obtain rfl:l=r:=by lia
    exact wpS_pure ⟨rfl,l,l,rfl,b,e,f⟩
   ·rw [if_neg c]
    refine wpS_bind (zR6 hL hz hB' (by lia) (by lia) ?_)
    cases q:κ.blt (KK κ (arrOf st2) (lo+k)) (KK κ (arrOf st2) (lo+(l+r) / 2)) with
    | true=>exact wpS_pure ⟨rfl,l,(l+r) / 2,rfl,by lia,by lia,by lia,e,fun i u v=>KeyOrd.klt_of_klt_of_kle q (g _ _ u v)⟩
    | false=>exact wpS_pure ⟨rfl,(l+r) / 2+1,r,rfl,by lia,by lia,by lia,fun i u=>KeyOrd.kle_trans (g i ((l+r) / 2) (by lia) (by lia)) q,f⟩
  case p2 =>
   rintro c st2 ⟨rfl,l,r,rfl,a,e,f⟩
   show wpS _ _ _ _ (do moveDown' (lo+k) (lo+l);pure (ForInStep.yield (none,()))) _ _
   rw [moveDown'_eq]
   have hk:lo+k<(arrOf st2).size:=by rw [hB'.sz];lia
   refine wpS_bind (wpS_modify (wpS_pure ⟨rfl,hB'.set (bubble_perm _ _ _),?_,hl.trans (Low.bubble hk (by lia) (by lia))⟩))
   rw [show min (k+1) n=k+1 by lia]
   intro i j u v
   show κ.kle (KK κ (bubble (arrOf st2) (lo+k) (lo+k - (lo+l))) (lo+i)) (KK κ (bubble (arrOf st2) (lo+k) (lo+k - (lo+l))) (lo+j))
   rw [KK_bubble hk (by lia),KK_bubble hk (by lia),show lo+k - (lo+k - (lo+l))=lo+l by lia]
   have e1:∀ i,l<i→lo+i - 1=lo+(i - 1):=fun i _=>by lia
   repeat' split
   all_goals first
    | (exfalso;lia)
    | exact KeyOrd.kle_refl _
    | (rw [e1 i (by lia),e1 j (by lia)];exact g _ _ (by lia) (by lia))
    | (rw [e1 j (by lia)];exact KeyOrd.kle_of_klt (f _ (by lia) (by lia)))
    | (rw [e1 j (by lia)];exact g _ _ (by lia) (by lia))
    | exact e _ (by lia)
    | exact g _ _ (by lia) (by lia)
end
open PySem PyProof.Rows
noncomputable def yg7:Bool→Keyed→Array Keyed→Nat→Nat→Nat→StateT SortSt Sem (Option Nat):=sortPriv% PySem.Builtin.gallop
noncomputable def zX8:Array Keyed→Array Keyed→StateT SortSt Sem (Array Keyed):=sortPriv% PySem.Builtin.mergeLo
noncomputable def zX7:Array Keyed→Array Keyed→StateT SortSt Sem (Array Keyed):=sortPriv% PySem.Builtin.mergeHi
noncomputable def xe3 (left:Bool) (key:Keyed) (x:Array Keyed) (base i:Nat):StateT SortSt Sem (Option Bool):=do
 let y ← elem' x (base+i)
 if left=true then lt' y key
 else do
  let r ← lt' key y
  pure (r.map (!·))
noncomputable def ye4 (left:Bool) (key:Keyed) (x:Array Keyed) (base n lo hi:Nat):StateT SortSt Sem (Option Nat):=do
 let c ← forIn [0:n] ((none,lo,hi):R2) fun _ c =>
  if c.2.1 ≥ c.2.2 then pure (ForInStep.done (none,c.2.1,c.2.2)) else do
   let r ← xe3 left key x base (c.2.1+(c.2.2 - c.2.1) / 2)
   match r with
   | some more=>if more=true then pure (ForInStep.yield (none,c.2.1+(c.2.2 - c.2.1) / 2+1,c.2.2)) else pure (ForInStep.yield (none,c.2.1,c.2.1+(c.2.2 - c.2.1) / 2))
   | _=>pure (ForInStep.done (some none,c.2.1,c.2.2))
 match c.1 with
 | some r=>pure r
 | none=>pure (some c.2.2)
section
variable {prog:Program} {w:World} {A:Around} {E:Value→Shared→Prop} {s:Shared} {κ:KK2} {kd:SortKind}
noncomputable def bey (κ:KK2) (left:Bool) (key:κ.α) (x:Array Keyed) (base i:Nat):Bool:=if left=true then κ.blt (KK κ x (base+i)) key else !κ.blt key (KK κ x (base+i))
theorem yv9 {st:SortSt} {left:Bool} {key:Keyed} {a:κ.α} {x:Array Keyed} {base i:Nat} {Q:Option Bool→SortSt→Prop} (hL:zS1 prog w A s κ kd) (hk:kindOf st=kd) (hx:KeysOf κ x) (ha:κ.keyOf key.1=some a) (hi:base+i<x.size)
  (h:Q (some (bey κ left a x base i)) st):wpS (model prog w) A E s (xe3 left key x base i) Q st:=by
 obtain ⟨p,e,hp⟩:=zh7 hx hi
 unfold xe3
 refine wpS_bind (zs7 e ?_)
 unfold bey at h
 cases left with
 | true=>exact yZ5 hL hk hp ha h
 | false=>exact wpS_bind (yZ5 hL hk ha hp (wpS_pure h))
theorem zB8 {left:Bool} {a:κ.α} {x:Array Keyed} {base n i j:Nat} (hs:Seg κ x base n) (hj:j<n) (hij:i≤j) (h:bey κ left a x base j=true):bey κ left a x base i=true:=by
 have g:=hs i j hij hj
 unfold bey at *
 cases left with
 | true=>exact KeyOrd.klt_of_kle_of_klt g h
 | false =>
  have h:(!κ.blt a (KK κ x (base+j)))=true:=h
  have h:κ.blt a (KK κ x (base+j))=false:=by simpa using h
  have:κ.kle (KK κ x (base+i)) a:=KeyOrd.kle_trans g h
  show (!κ.blt a (KK κ x (base+i)))=true
  rw [show κ.blt a (KK κ x (base+i))=false from this];rfl
theorem zM3 {left:Bool} {a:κ.α} {x:Array Keyed} {base n i j:Nat} (hs:Seg κ x base n) (hj:j<n) (hij:i≤j) (h:bey κ left a x base i=false):bey κ left a x base j=false:=by
 cases e:bey κ left a x base j with
 | false=>rfl
 | true=>rw [zB8 hs hj hij e] at h;exact h
def GalQ (κ:KK2) (left:Bool) (a:κ.α) (x:Array Keyed) (base n:Nat) (st:SortSt) (Q:Option Nat→SortSt→Prop):Prop :=
 ∀ k,k≤n→(∀ i,i<k→bey κ left a x base i=true)→(∀ i,k≤i→i<n→bey κ left a x base i=false)→Q (some k) st
theorem yh0 {st:SortSt} {left:Bool} {key:Keyed} {a:κ.α} {x:Array Keyed} {base n lo hi:Nat} {Q:Option Nat→SortSt→Prop} (hL:zS1 prog w A s κ kd) (hk:kindOf st=kd) (hx:KeysOf κ x) (ha:κ.keyOf key.1=some a) (hn:base+n≤x.size) (hs:Seg κ x base n)
  (h1:lo≤hi) (h2:hi≤n) (h3:∀ i,i<lo→bey κ left a x base i=true) (h4:∀ i,hi≤i→i<n→bey κ left a x base i=false) (h:GalQ κ left a x base n st Q) :
  wpS (model prog w) A E s (ye4 left key x base n lo hi) Q st:=by
 unfold ye4
 refine wpS_bind (wpS_mono (wpS_forRange (I:=fun t c st'=>st'=st∧∃ l r,c=(none,l,r)∧l≤r∧r≤n∧r - l≤n - t∧(∀ i,i<l→bey κ left a x base i=true)∧(∀ i,r≤i→i<n→bey κ left a x base i=false))
  (Q:=fun c st'=>st'=st∧∃ r,c=(none,r,r)∧r≤n∧(∀ i,i<r→bey κ left a x base i=true)∧(∀ i,r≤i→i<n→bey κ left a x base i=false)) ?t ?f ?i) ?p)
 case i=>exact ⟨rfl,lo,hi,rfl,h1,h2,by lia,h3,h4⟩
 case f =>
  rintro c st' ⟨rfl,l,r,rfl,b1,b2,b3,b4,b5⟩
  obtain rfl:l=r:=by lia
  exact ⟨rfl,l,rfl,b2,b4,b5⟩
 case p =>
  rintro c st' ⟨rfl,r,rfl,b1,b2,b3⟩
  exact wpS_pure (h r b1 b2 b3)
 case t =>
  rintro t c st' _ t2 ⟨rfl,l,r,rfl,b1,b2,b3,b4,b5⟩
  dsimp only
  by_cases c:l ≥ r
  ·rw [if_pos c]
   obtain rfl:l=r:=by lia
   exact wpS_pure ⟨rfl,l,rfl,b2,b4,b5⟩
  ·rw [if_neg c]
   refine wpS_bind (yv9 hL hk hx ha (by lia) ?_)
   cases e:bey κ left a x base (l+(r - l) / 2) with
   | true=>exact wpS_pure ⟨rfl,l+(r - l) / 2+1,r,rfl,by lia,b2,by lia,fun i u=>zB8 hs (by lia) (by lia) e,b5⟩
   | false=>exact wpS_pure ⟨rfl,l,l+(r - l) / 2,rfl,by lia,by lia,by lia,b4,fun i u v=>zM3 hs v u e⟩
theorem zm4 {st:SortSt} {left:Bool} {key:Keyed} {a:κ.α} {x:Array Keyed} {base n hint:Nat} {Q:Option Nat→SortSt→Prop} (hL:zS1 prog w A s κ kd) (hk:kindOf st=kd) (hx:KeysOf κ x) (ha:κ.keyOf key.1=some a) (hn:base+n≤x.size) (hh:hint<n) (hs:Seg κ x base n)
  (h:GalQ κ left a x base n st Q):wpS (model prog w) A E s (yg7 left key x base n hint) Q st:=by
 unfold yg7
 refine wpS_bind (yv9 hL hk hx ha (by lia) ?_)
 dsimp only
 cases e:bey κ left a x base hint with
 | true =>
  rw [if_pos rfl]
  refine wpS_bind (wpS_mono (wpS_forRange (a:=0) (b:=n) (I:=fun t c st'=>st'=st∧∃ l o,c=(none,l,o)∧l<o∧t+1≤o∧hint+l<n∧bey κ left a x base (hint+l)=true)
   (Q:=fun c st'=>st'=st∧∃ l o,c=(none,l,o)∧l<o∧hint+l<n∧bey κ left a x base (hint+l)=true∧(n - hint≤o∨(hint+o<n∧bey κ left a x base (hint+o)=false))) ?t ?f ?i) ?p)
  case i=>exact ⟨rfl,0,1,rfl,by lia,by lia,by lia,by rw [Nat.add_zero];exact e⟩
  case f =>
   rintro c st' ⟨rfl,l,o,rfl,b1,b2,b3,b4⟩
   exact ⟨rfl,l,o,rfl,b1,b3,b4,.inl (by lia)⟩
  case t =>
   rintro t c st' _ t2 ⟨rfl,l,o,rfl,b1,b2,b3,b4⟩
   dsimp only
   by_cases c:o ≥ n - hint
   ·rw [if_pos c]
    exact wpS_pure ⟨rfl,l,o,rfl,b1,b3,b4,.inl c⟩
   ·rw [if_neg c]
    refine wpS_bind (yv9 hL hk hx ha (by lia) ?_)
    cases e2:bey κ left a x base (hint+o) with
    | true=>exact wpS_pure ⟨rfl,o,2 * o+1,rfl,by lia,by lia,by lia,e2⟩
    | false=>exact wpS_pure ⟨rfl,l,o,rfl,b1,b3,b4,.inr ⟨by lia,e2⟩⟩
  case p =>
   rintro c st' ⟨rfl,l,o,rfl,b1,b3,b4,b5⟩
   refine (congrArg (fun m=>wpS (model prog w) A E s m Q st') (?_:_=ye4 left key x base n (hint+l+1) (hint+min o (n - hint)))).mpr ?_
   ·dsimp only
    unfold ye4
    exact zc0 rfl fun c=>(by obtain ⟨r,l,h⟩:=c;cases r <;> rfl)
   refine yh0 hL hk hx ha hn hs (by lia) (by lia) (fun i u=>zB8 hs b3 (by lia) b4) (fun i u v=>?_) h
   rcases b5 with b5 | ⟨b5,b6⟩
   ·lia
   ·exact zM3 hs v (by lia) b6
 | false =>
  rw [if_neg (by decide)]
  refine wpS_bind (wpS_mono (wpS_forRange (a:=0) (b:=n) (I:=fun t c st'=>st'=st∧∃ l o,c=(none,l,o)∧l<o∧t+1≤o∧l≤hint∧bey κ left a x base (hint - l)=false)
   (Q:=fun c st'=>st'=st∧∃ l o,c=(none,l,o)∧l<o∧l≤hint∧bey κ left a x base (hint - l)=false∧(hint+1≤o∨(o≤hint∧bey κ left a x base (hint - o)=true))) ?t ?f ?i) ?p)
  case i=>exact ⟨rfl,0,1,rfl,by lia,by lia,by lia,by rw [Nat.sub_zero];exact e⟩
  case f =>
   rintro c st' ⟨rfl,l,o,rfl,b1,b2,b3,b4⟩
   exact ⟨rfl,l,o,rfl,b1,b3,b4,.inl (by lia)⟩
  case t =>
   rintro t c st' _ t2 ⟨rfl,l,o,rfl,b1,b2,b3,b4⟩
   dsimp only
   by_cases c:o ≥ hint+1
   ·rw [if_pos c]
    exact wpS_pure ⟨rfl,l,o,rfl,b1,b3,b4,.inl c⟩
   ·rw [if_neg c]
    refine wpS_bind (yv9 hL hk hx ha (by lia) ?_)
    cases e2:bey κ left a x base (hint - o) with
    | true=>exact wpS_pure ⟨rfl,l,o,rfl,b1,b3,b4,.inr ⟨by lia,e2⟩⟩
    | false=>exact wpS_pure ⟨rfl,o,2 * o+1,rfl,by lia,by lia,by lia,e2⟩
  case p =>
   rintro c st' ⟨rfl,l,o,rfl,b1,b3,b4,b5⟩
   refine (congrArg (fun m=>wpS (model prog w) A E s m Q st') (?_:_=ye4 left key x base n (hint+1 - min o (hint+1)) (hint - l))).mpr ?_
   ·dsimp only
    unfold ye4
    exact zc0 rfl fun c=>(by obtain ⟨r,l,h⟩:=c;cases r <;> rfl)
   refine yh0 hL hk hx ha hn hs (by lia) (by lia) (fun i u=>?_) (fun i u v=>zM3 hs v u b4) h
   rcases b5 with b5 | ⟨b5,b6⟩
   ·lia
   ·exact zB8 hs (by lia) (by lia) b6
end
open PySem PyProof.Rows
section
variable {κ:KK2} {a b:Array Keyed}
noncomputable def kf (κ:KK2) (p:Keyed):κ.α:=(κ.keyOf p.1).getD κ.dflt
def Sd (κ:KK2) (l:List Keyed):Prop:=l.Pairwise fun p q=>κ.kle (kf κ p) (kf κ q)
theorem zE5 {x:Array Keyed} {i:Nat} {p:Keyed} (e:x[i]?=some p):kf κ p=KK κ x i:=by unfold kf KK;rw [e]
theorem zs3 {x:Array Keyed} {i:Nat} {p:Keyed} (h:p∈x.toList.drop i):∃ j,i≤j∧j<x.size∧kf κ p=KK κ x j:=by
 obtain ⟨k,hk,e⟩:=List.getElem_of_mem h
 rw [List.getElem_drop] at e
 have hk':i+k<x.size:=by rw [List.length_drop,Array.length_toList] at hk;lia
 refine ⟨i+k,by lia,hk',zE5 ?_⟩
 rw [getElem?_pos x (i+k) hk',← e];rfl
theorem zx7 {x:Array Keyed} {i:Nat} {p:Keyed} (h:p∈x.toList.take i):∃ j,j<i∧j<x.size∧kf κ p=KK κ x j:=by
 obtain ⟨k,hk,e⟩:=List.getElem_of_mem h
 rw [List.getElem_take] at e
 rw [List.length_take,Array.length_toList] at hk
 have hk':k<x.size:=by lia
 refine ⟨k,by lia,hk',zE5 ?_⟩
 rw [getElem?_pos x k hk',← e];rfl
theorem zV5 {x:Array Keyed} {i k:Nat} {p:Keyed} (h:p∈(x.toList.drop i).take k):∃ j,j<k∧i+j<x.size∧kf κ p=KK κ x (i+j):=by
 obtain ⟨m,hm,e⟩:=List.getElem_of_mem h
 rw [List.getElem_take,List.getElem_drop] at e
 rw [List.length_take,List.length_drop,Array.length_toList] at hm
 have hk':i+m<x.size:=by lia
 refine ⟨m,by lia,hk',zE5 ?_⟩
 rw [getElem?_pos x (i+m) hk',← e];rfl
theorem zM8 {x:Array Keyed} {i k:Nat}:(x.extract i (i+k)).toList=(x.toList.drop i).take k:=by
 rw [Array.toList_extract,List.extract_eq_take_drop,show i+k - i=k by lia]
theorem zL6 {x:Array Keyed} {i:Nat}:(x.extract i x.size).toList=x.toList.drop i:=by
 rw [Array.toList_extract,List.extract_eq_take_drop,List.take_of_length_le (by simp)]
theorem zM2 {x:Array Keyed} {i:Nat}:(x.extract 0 i).toList=x.toList.take i:=by
 rw [Array.toList_extract,List.extract_eq_take_drop,Nat.sub_zero,List.drop_zero]
theorem Seg.sd {x:Array Keyed} (h:Seg κ x 0 x.size):Sd κ x.toList:=by
 refine List.pairwise_iff_getElem.mpr fun i j hi hj hij=>?_
 have:=h i j (Nat.le_of_lt hij) (by simpa using hj)
 rw [Nat.zero_add,Nat.zero_add] at this
 rw [zE5 (i:=i) (x:=x) (by simp at hi;rw [getElem?_pos x i hi];rfl),zE5 (i:=j) (x:=x) (by simp at hj;rw [getElem?_pos x j hj];rfl)]
 exact this
theorem zh5 {l m:List Keyed}:Sd κ (l++m)↔Sd κ l∧Sd κ m∧∀ p∈l,∀ q∈m,κ.kle (kf κ p) (kf κ q):=List.pairwise_append
def zS2 (κ:KK2) (a b m:Array Keyed):Prop:=Sd κ m.toList∧m.toList.Perm (a.toList++b.toList)
structure MI (κ:KK2) (a b out:Array Keyed) (ia ib:Nat):Prop where
 sa:Sd κ (out.toList++a.toList.drop ia)
 sb:Sd κ (out.toList++b.toList.drop ib)
 pm:(out.toList++(a.toList.drop ia++b.toList.drop ib)).Perm (a.toList++b.toList)
theorem MI.takeA {out:Array Keyed} {ia ib k:Nat} (h:MI κ a b out ia ib) (hc:∀ i j,i<k→ia+i<a.size→ib≤j→j<b.size→κ.kle (KK κ a (ia+i)) (KK κ b j)):MI κ a b (out++a.extract ia (ia+k)) (ia+k) ib:=by
 have e:(a.toList.drop ia).take k++a.toList.drop (ia+k)=a.toList.drop ia:=by rw [← List.drop_drop,List.take_append_drop]
 have l:(out++a.extract ia (ia+k)).toList=out.toList++(a.toList.drop ia).take k:=by rw [Array.toList_append,zM8]
 have h1:=h.sa
 rw [← e,← List.append_assoc] at h1
 refine ⟨by rw [l];exact h1,?_,?_⟩
 ·rw [l]
  refine zh5.mpr ⟨(zh5.mp h1).1,(zh5.mp h.sb).2.1,fun p hp q hq=>?_⟩
  rcases List.mem_append.mp hp with hp | hp
  ·exact (zh5.mp h.sb).2.2 p hp q hq
  ·obtain ⟨i,i1,i2,ei⟩:=zV5 (κ:=κ) hp
   obtain ⟨j,j1,j2,ej⟩:=zs3 (κ:=κ) hq
   rw [ei,ej];exact hc i j i1 i2 j1 j2
 ·rw [l,List.append_assoc,← List.append_assoc _ (a.toList.drop (ia+k)),e]
  exact h.pm
theorem MI.takeB {out:Array Keyed} {ia ib k:Nat} (h:MI κ a b out ia ib) (hc:∀ i j,i<k→ib+i<b.size→ia≤j→j<a.size→κ.kle (KK κ b (ib+i)) (KK κ a j)):MI κ a b (out++b.extract ib (ib+k)) ia (ib+k):=by
 have e:(b.toList.drop ib).take k++b.toList.drop (ib+k)=b.toList.drop ib:=by rw [← List.drop_drop,List.take_append_drop]
 have l:(out++b.extract ib (ib+k)).toList=out.toList++(b.toList.drop ib).take k:=by rw [Array.toList_append,zM8]
 have h1:=h.sb
 rw [← e,← List.append_assoc] at h1
 refine ⟨?_,by rw [l];exact h1,?_⟩
 ·rw [l]
  refine zh5.mpr ⟨(zh5.mp h1).1,(zh5.mp h.sa).2.1,fun p hp q hq=>?_⟩
  rcases List.mem_append.mp hp with hp | hp
  ·exact (zh5.mp h.sa).2.2 p hp q hq
  ·obtain ⟨i,i1,i2,ei⟩:=zV5 (κ:=κ) hp
   obtain ⟨j,j1,j2,ej⟩:=zs3 (κ:=κ) hq
   rw [ei,ej];exact hc i j i1 i2 j1 j2
 ·refine List.Perm.trans ?_ h.pm
  rw [l,List.append_assoc]
  refine List.Perm.append_left _ ?_
  refine (List.perm_append_comm_assoc _ _ _).trans ?_
  rw [e]
theorem zJ3 {out x:Array Keyed} {i:Nat} {p:Keyed} (e:x[i]?=some p):out.push p=out++x.extract i (i+1):=by
 obtain ⟨hi,e⟩:=Array.getElem?_eq_some_iff.mp e
 apply Array.toList_inj.mp
 rw [Array.toList_push,Array.toList_append,zM8]
 congr 1
 rw [List.drop_eq_getElem_cons (by simpa using hi),List.take_succ_cons,List.take_zero]
 simp [e]
theorem MI.pushA {out:Array Keyed} {ia ib:Nat} {p:Keyed} (h:MI κ a b out ia ib) (e:a[ia]?=some p) (hc:∀ j,ib≤j→j<b.size→κ.kle (KK κ a ia) (KK κ b j)):MI κ a b (out.push p) (ia+1) ib:=by
 rw [zJ3 e]
 refine h.takeA fun i j i1 _ j1 j2=>?_
 obtain rfl:i=0:=by lia
 exact hc j j1 j2
theorem MI.pushB {out:Array Keyed} {ia ib:Nat} {p:Keyed} (h:MI κ a b out ia ib) (e:b[ib]?=some p) (hc:∀ j,ia≤j→j<a.size→κ.kle (KK κ b ib) (KK κ a j)):MI κ a b (out.push p) ia (ib+1):=by
 rw [zJ3 e]
 refine h.takeB fun i j i1 _ j1 j2=>?_
 obtain rfl:i=0:=by lia
 exact hc j j1 j2
theorem MI.done {out:Array Keyed} {ia ib:Nat} (h:MI κ a b out ia ib) (he:a.size≤ia∨b.size≤ib):zS2 κ a b (out++a.extract ia a.size++b.extract ib b.size):=by
 have l:(out++a.extract ia a.size++b.extract ib b.size).toList=out.toList++(a.toList.drop ia++b.toList.drop ib):=by
  rw [Array.toList_append,Array.toList_append,zL6,zL6,List.append_assoc]
 refine ⟨?_,by rw [l];exact h.pm⟩
 rw [l]
 rcases he with he | he
 ·rw [List.drop_of_length_le (l:=a.toList) (by simpa using he),List.nil_append];exact h.sb
 ·rw [List.drop_of_length_le (l:=b.toList) (by simpa using he),List.append_nil];exact h.sa
theorem MI.last {out:Array Keyed} {ia ib:Nat} (h:MI κ a b out ia ib) (hc:∀ i j,ib≤j→j<b.size→ia≤i→i<a.size→κ.kle (KK κ b j) (KK κ a i)):zS2 κ a b (out++b.extract ib b.size++a.extract ia a.size):=by
 have l:(out++b.extract ib b.size++a.extract ia a.size).toList=(out.toList++b.toList.drop ib)++a.toList.drop ia:=by
  rw [Array.toList_append,Array.toList_append,zL6,zL6]
 refine ⟨?_,?_⟩
 ·rw [l]
  refine zh5.mpr ⟨h.sb,(zh5.mp h.sa).2.1,fun p hp q hq=>?_⟩
  rcases List.mem_append.mp hp with hp | hp
  ·exact (zh5.mp h.sa).2.2 p hp q hq
  ·obtain ⟨j,j1,j2,ej⟩:=zs3 (κ:=κ) hp
   obtain ⟨i,i1,i2,ei⟩:=zs3 (κ:=κ) hq
   rw [ei,ej];exact hc i j j1 j2 i1 i2
 ·rw [l,List.append_assoc]
  exact (List.Perm.append_left _ List.perm_append_comm).trans h.pm
end
open PySem PyProof.Rows
def Sm (st st':SortSt):Prop:=∃ g,st'=SortSt.mk' (kindOf st) (arrOf st) (pendingOf st) g (failedOf st)
theorem Sm.refl {st:SortSt}:Sm st st:=⟨gallopOf st,rfl⟩
theorem Sm.kind {st st':SortSt} (h:Sm st st'):kindOf st'=kindOf st:=by obtain ⟨g,rfl⟩:=h;rfl
theorem Sm.next {st st':SortSt} (h:Sm st st') (g:Nat):Sm st (SortSt.mk' (kindOf st') (arrOf st') (pendingOf st') g (failedOf st')):=by obtain ⟨g',rfl⟩:=h;exact ⟨g,rfl⟩
theorem MI.init {κ:KK2} {a b:Array Keyed} (sa:Seg κ a 0 a.size) (sb:Seg κ b 0 b.size):MI κ a b #[] 0 0:=⟨sa.sd,sb.sd,List.Perm.refl _⟩
theorem yL2 {κ:KK2} {x:Array Keyed} {i n:Nat} (h:Seg κ x 0 x.size) (hn:i+n≤x.size):Seg κ x i n:=fun u v h1 h2=>by
 have:=h (i+u) (i+v) (by lia) (by lia)
 rwa [Nat.zero_add,Nat.zero_add] at this
theorem zt2 {κ:KK2} {x:Array Keyed} {i j:Nat} (h:Seg κ x 0 x.size) (hij:i≤j) (hj:j<x.size):κ.kle (KK κ x i) (KK κ x j):=by
 have:=h i j hij hj
 rwa [Nat.zero_add,Nat.zero_add] at this
theorem yk8 {κ:KK2} {a:κ.α} {x:Array Keyed} {base i:Nat} (h:bey κ false a x base i=true):κ.kle (KK κ x (base+i)) a:=by
 have h:(!κ.blt a (KK κ x (base+i)))=true:=h
 show κ.blt a (KK κ x (base+i))=false
 simpa using h
theorem yo3 {κ:KK2} {a:κ.α} {x:Array Keyed} {base i:Nat} (h:bey κ false a x base i=false):κ.klt a (KK κ x (base+i)):=by
 have h:(!κ.blt a (KK κ x (base+i)))=false:=h
 show κ.blt a (KK κ x (base+i))=true
 simpa using h
section
variable {prog:Program} {w:World} {A:Around} {E:Value→Shared→Prop} {s:Shared} {κ:KK2} {kd:SortKind}
theorem zf9 {M:Model} {α:Type} {p:Prop} [Decidable p] {t e:StateT SortSt Sem α} {Q:α→SortSt→Prop} {st:SortSt} (h1:p→wpS M A E s t Q st) (h2:¬ p→wpS M A E s e Q st):wpS M A E s (if p then t else e) Q st:=by
 by_cases c:p
 ·rw [if_pos c];exact h1 c
 ·rw [if_neg c];exact h2 c
theorem zh0 {M:Model} {α:Type} {x y:Nat} {t e:StateT SortSt Sem α} {Q:α→SortSt→Prop} {st:SortSt} (h1:x=y→wpS M A E s t Q st) (h2:x≠y→wpS M A E s e Q st):wpS M A E s (if (x==y)=true then t else e) Q st :=
 zf9 (fun c=>h1 (by simpa using c)) fun c=>h2 (by simpa using c)
theorem yp2 {st:SortSt} {a b:Array Keyed} {Q:Array Keyed→SortSt→Prop} (hL:zS1 prog w A s κ kd) (hk:kindOf st=kd) (ka:KeysOf κ a) (kb:KeysOf κ b) (sa:Seg κ a 0 a.size) (sb:Seg κ b 0 b.size) (a1:0<a.size) (b1:0<b.size)
  (hf:∀ i,i<a.size→κ.kle (KK κ b 0) (KK κ a i)) (hl:∀ j,j<b.size→κ.kle (KK κ b j) (KK κ a (a.size - 1))) (h:∀ m st',Sm st st'→zS2 κ a b m→Q m st') :
  wpS (model prog w) A E s (zX8 a b) Q st:=by
 unfold zX8
 refine wpS_bind (wpS_lift (wpAny_rule ⟨rfl,?_⟩))
 refine wpS_bind (zs7 (getElem?_pos b 0 b1) ?_)
 have M0:MI κ a b #[b[0]] 0 1:=(MI.init sa sb).pushB (getElem?_pos b 0 b1) fun j _ j2=>hf j j2
 have lastOk:∀ {out ia ib},MI κ a b out ia ib→ia+1=a.size→zS2 κ a b (out++b.extract ib b.size++a.extract ia a.size):=fun M e=>M.last fun i j _ j2 i1 i2=>by
  rw [show i=a.size - 1 by lia];exact hl j j2
 dsimp only
 by_cases c:1=b.size
 ·rw [if_pos (by simpa using c)]
  exact wpS_pure (h _ _ Sm.refl (M0.done (.inr (by lia))))
 rw [if_neg (by simpa using c)]
 by_cases c2:0+1=a.size
 ·rw [if_pos (by simpa using c2)]
  exact wpS_pure (h _ _ Sm.refl (lastOk M0 c2))
 rw [if_neg (by simpa using c2)]
 refine wpS_bind (wpS_get ?_)
 refine wpS_bind (wpS_mono (wpS_forRange (a:=0) (b:=a.size+b.size)
  (I:=fun x c st'=>Sm st st'∧∃ out ia ib mg,c=(none,out,ia,ib,mg)∧MI κ a b out ia ib∧ia+1<a.size∧ib<b.size∧(a.size - ia)+(b.size - ib)+x≤a.size+b.size)
  (Q:=fun c st'=>Sm st st'∧∃ m out ia ib mg,c=(some m,out,ia,ib,mg)∧zS2 κ a b m) ?t ?f ?i) ?p)
 case i=>exact ⟨Sm.refl,#[b[0]],0,1,_,rfl,M0,by lia,by lia,by lia⟩
 case f =>
  rintro c st' ⟨S,out,ia,ib,mg,rfl,M,i1,i2,i3⟩
  lia
 case p =>
  rintro c st' ⟨S,m,out,ia,ib,mg,rfl,F⟩
  exact wpS_pure (h m st' S F)
 case t =>
  rintro x c st' _ x2 ⟨S,out,ia,ib,mg,rfl,M,i1,i2,i3⟩
  refine wpS_bind (wpS_mono (wpS_forRange (a:=0) (b:=a.size+b.size)
   (I:=fun y c st2=>st2=st'∧∃ out ia ib ac bc,c=(none,out,ia,ib,ac,bc)∧MI κ a b out ia ib∧ia+1<a.size∧ib<b.size∧(a.size - ia)+(b.size - ib)+x+y≤a.size+b.size)
   (Q:=fun c st2=>st2=st'∧∃ r out ia ib ac bc,c=(r,out,ia,ib,ac,bc)∧((∃ m,r=some m∧zS2 κ a b m)∨r=none∧MI κ a b out ia ib∧ia+1<a.size∧ib<b.size∧(a.size - ia)+(b.size - ib)+x+1≤a.size+b.size)) ?t1 ?f1 ?i1) ?p1)
  case i1=>exact ⟨rfl,out,ia,ib,0,0,rfl,M,i1,i2,by lia⟩
  case f1 =>
   rintro c st2 ⟨rfl,out,ia,ib,ac,bc,rfl,M,i1,i2,i3⟩
   lia
  case t1 =>
   rintro y c st2 _ y2 ⟨rfl,out,ia,ib,ac,bc,rfl,M,i1,i2,i3⟩
   dsimp only
   have ea:=getElem?_pos a ia (by lia)
   have eb:=getElem?_pos b ib i2
   obtain ⟨pa,ea',qa⟩:=zh7 ka (show ia<a.size by lia)
   obtain ⟨pb,eb',qb⟩:=zh7 kb i2
   refine wpS_bind (zs7 eb' (wpS_bind (zs7 ea' (wpS_bind (yZ5 hL (S.kind.trans hk) qb qa ?_)))))
   cases e:κ.blt (KK κ b ib) (KK κ a ia) with
   | true =>
    dsimp only
    rw [if_pos rfl]
    refine wpS_bind (zs7 eb' ?_)
    have M2:=M.pushB eb' fun j j1 j2=>KeyOrd.kle_trans (KeyOrd.kle_of_klt e) (zt2 sa j1 j2)
    by_cases c:ib+1=b.size
    ·rw [if_pos (by simpa using c)]
     exact wpS_pure ⟨rfl,_,_,_,_,_,_,rfl,.inl ⟨_,rfl,M2.done (.inr (by lia))⟩⟩
    ·rw [if_neg (by simpa using c)]
     split
     ·exact wpS_pure ⟨rfl,_,_,_,_,_,_,rfl,.inr ⟨rfl,M2,i1,by lia,by lia⟩⟩
     ·exact wpS_pure ⟨rfl,_,_,_,_,_,rfl,M2,i1,by lia,by lia⟩
   | false =>
    dsimp only
    rw [if_neg (by decide)]
    refine wpS_bind (zs7 ea' ?_)
    have M2:=M.pushA ea' fun j j1 j2=>KeyOrd.kle_trans e (zt2 sb j1 j2)
    by_cases c:ia+1+1=a.size
    ·rw [if_pos (by simpa using c)]
     exact wpS_pure ⟨rfl,_,_,_,_,_,_,rfl,.inl ⟨_,rfl,lastOk M2 c⟩⟩
    ·rw [if_neg (by simpa using c)]
     split
     ·exact wpS_pure ⟨rfl,_,_,_,_,_,_,rfl,.inr ⟨rfl,M2,by lia,i2,by lia⟩⟩
     ·exact wpS_pure ⟨rfl,_,_,_,_,_,rfl,M2,by lia,i2,by lia⟩
  case p1 =>
   rintro c st2 ⟨rfl,r,out,ia,ib,ac,bc,rfl,⟨m,rfl,F⟩ | ⟨rfl,M,i1,i2,i3⟩⟩
   ·exact wpS_pure ⟨S,m,_,_,_,_,rfl,F⟩
   ·refine wpS_bind (wpS_lift (wpAny_rule ⟨rfl,?_⟩))
    refine wpS_bind (wpS_mono (wpS_forRange (a:=0) (b:=a.size+b.size)
     (I:=fun y c st3=>Sm st st3∧∃ out ia ib mg ac bc,c=(none,out,ia,ib,mg,ac,bc)∧MI κ a b out ia ib∧ia+1<a.size∧ib<b.size∧(a.size - ia)+(b.size - ib)+x+1≤a.size+b.size)
     (Q:=fun c st3=>Sm st st3∧∃ r out ia ib mg ac bc,c=(r,out,ia,ib,mg,ac,bc)∧((∃ m,r=some m∧zS2 κ a b m)∨r=none∧MI κ a b out ia ib∧ia+1<a.size∧ib<b.size∧(a.size - ia)+(b.size - ib)+x+1≤a.size+b.size)) ?t2 ?f2 ?i2) ?p2)
    case i2=>exact ⟨S,out,ia,ib,_,_,_,rfl,M,i1,i2,i3⟩
    case f2 =>
     rintro c st3 ⟨S,out,ia,ib,mg,ac,bc,rfl,M,i1,i2,i3⟩
     exact ⟨S,_,_,_,_,_,_,_,rfl,.inr ⟨rfl,M,i1,i2,i3⟩⟩
    case p2 =>
     rintro c st3 ⟨S,r,out,ia,ib,mg,ac,bc,rfl,⟨m,rfl,F⟩ | ⟨rfl,M,i1,i2,i3⟩⟩
     ·exact wpS_pure ⟨S,m,_,_,_,_,rfl,F⟩
     ·refine wpS_bind (wpS_modify (wpS_pure ⟨S.next _,_,_,_,_,rfl,M,i1,i2,i3⟩))
    case t2 =>
     rintro y c st3 _ y2 ⟨S,out,ia,ib,mg,ac,bc,rfl,M,i1,i2,i3⟩
     obtain ⟨pb,eb',qb⟩:=zh7 kb i2
     refine zf9 (fun _=>?_) (fun _=>?_)
     all_goals
      refine wpS_bind (wpS_modify ?_)
      refine wpS_bind (zs7 eb' ?_)
      refine wpS_bind (zm4 (κ:=κ) (kd:=kd) hL (S.kind.trans hk) ka qb (by lia) (by lia) (yL2 sa (by lia)) fun k k1 k2 k3=>?_)
      have hy:∀ j,ia+k≤j→j<a.size→κ.kle (KK κ b ib) (KK κ a j):=fun j j1 j2=>by
       have:=yo3 (k3 (j - ia) (by lia) (by lia))
       rw [show ia+(j - ia)=j by lia] at this
       exact KeyOrd.kle_of_klt this
      have M2:MI κ a b (out++a.extract ia (ia+k)) (ia+k) ib:=M.takeA fun i j j1 _ j3 j4=>KeyOrd.kle_trans (yk8 (k2 i j1)) (zt2 sb j3 j4)
      refine zf9 (fun c0=>zh0 (fun c1=>wpS_pure ⟨S.next _,_,_,_,_,_,_,_,rfl,.inl ⟨_,rfl,lastOk M2 c1⟩⟩) fun c1=>zh0 (fun c2=>wpS_pure ⟨S.next _,_,_,_,_,_,_,_,rfl,.inl ⟨_,rfl,M2.done (.inl (by lia))⟩⟩) fun c2=>?_) fun c0=>?_
      ·have M3:=M2
       have hy3:=hy
       refine wpS_bind (zs7 eb' ?_)
       have M4:=M3.pushB eb' hy3
       refine zh0 (fun d1=>wpS_pure ⟨S.next _,_,_,_,_,_,_,_,rfl,.inl ⟨_,rfl,M4.done (.inr (by lia))⟩⟩) fun d1=>?_
       obtain ⟨pa,ea',qa⟩:=zh7 ka (show (ia+k)<a.size by lia)
       refine wpS_bind (zs7 ea' (wpS_bind (zm4 (κ:=κ) (kd:=kd) hL (S.kind.trans hk) kb qa (by lia) (by lia) (yL2 sb (by lia)) fun r r1 r2 r3=>?_)))
       have M5:MI κ a b _ (ia+k) (ib+1+r):=M4.takeB (k:=r) fun i j j1 _ j3 j4=>KeyOrd.kle_trans (KeyOrd.kle_of_klt (r2 i j1)) (zt2 sa j3 j4)
       have hx:∀ j,ib+1+r≤j→j<b.size→κ.kle (KK κ a (ia+k)) (KK κ b j):=fun j j1 j2=>by
        have:=r3 (j - (ib+1)) (by lia) (by lia)
        unfold bey at this
        rw [if_pos rfl,show ib+1+(j - (ib+1))=j by lia] at this
        exact this
       refine zf9 (fun e0=>zh0 (fun e1=>wpS_pure ⟨S.next _,_,_,_,_,_,_,_,rfl,.inl ⟨_,rfl,M5.done (.inr (by lia))⟩⟩) fun e1=>?_) fun e0=>?_
       ·refine wpS_bind (zs7 ea' ?_)
        have M6:=M5.pushA ea' hx
        exact zh0 (fun f1=>wpS_pure ⟨S.next _,_,_,_,_,_,_,_,rfl,.inl ⟨_,rfl,lastOk M6 f1⟩⟩) fun f1=>zf9 (fun _=>wpS_pure ⟨S.next _,_,_,_,_,_,_,_,rfl,.inr ⟨rfl,M6,by lia,by lia,by lia⟩⟩) fun _=>wpS_pure ⟨S.next _,_,_,_,_,_,_,rfl,M6,by lia,by lia,by lia⟩
       ·obtain rfl:r=0:=by lia
        refine wpS_bind (zs7 ea' ?_)
        have M6:=M4.pushA ea' hx
        exact zh0 (fun f1=>wpS_pure ⟨S.next _,_,_,_,_,_,_,_,rfl,.inl ⟨_,rfl,lastOk M6 f1⟩⟩) fun f1=>zf9 (fun _=>wpS_pure ⟨S.next _,_,_,_,_,_,_,_,rfl,.inr ⟨rfl,M6,by lia,by lia,by lia⟩⟩) fun _=>wpS_pure ⟨S.next _,_,_,_,_,_,_,rfl,M6,by lia,by lia,by lia⟩
      ·obtain rfl:k=0:=by lia
       have M3:=M
       have hy3:∀ j,ia≤j→j<a.size→κ.kle (KK κ b ib) (KK κ a j):=hy
       refine wpS_bind (zs7 eb' ?_)
       have M4:=M3.pushB eb' hy3
       refine zh0 (fun d1=>wpS_pure ⟨S.next _,_,_,_,_,_,_,_,rfl,.inl ⟨_,rfl,M4.done (.inr (by lia))⟩⟩) fun d1=>?_
       obtain ⟨pa,ea',qa⟩:=zh7 ka (show ia<a.size by lia)
       refine wpS_bind (zs7 ea' (wpS_bind (zm4 (κ:=κ) (kd:=kd) hL (S.kind.trans hk) kb qa (by lia) (by lia) (yL2 sb (by lia)) fun r r1 r2 r3=>?_)))
       have M5:MI κ a b _ ia (ib+1+r):=M4.takeB (k:=r) fun i j j1 _ j3 j4=>KeyOrd.kle_trans (KeyOrd.kle_of_klt (r2 i j1)) (zt2 sa j3 j4)
       have hx:∀ j,ib+1+r≤j→j<b.size→κ.kle (KK κ a ia) (KK κ b j):=fun j j1 j2=>by
        have:=r3 (j - (ib+1)) (by lia) (by lia)
        unfold bey at this
        rw [if_pos rfl,show ib+1+(j - (ib+1))=j by lia] at this
        exact this
       refine zf9 (fun e0=>zh0 (fun e1=>wpS_pure ⟨S.next _,_,_,_,_,_,_,_,rfl,.inl ⟨_,rfl,M5.done (.inr (by lia))⟩⟩) fun e1=>?_) fun e0=>?_
       ·refine wpS_bind (zs7 ea' ?_)
        have M6:=M5.pushA ea' hx
        exact zh0 (fun f1=>wpS_pure ⟨S.next _,_,_,_,_,_,_,_,rfl,.inl ⟨_,rfl,lastOk M6 f1⟩⟩) fun f1=>zf9 (fun _=>wpS_pure ⟨S.next _,_,_,_,_,_,_,_,rfl,.inr ⟨rfl,M6,by lia,by lia,by lia⟩⟩) fun _=>wpS_pure ⟨S.next _,_,_,_,_,_,_,rfl,M6,by lia,by lia,by lia⟩
       ·obtain rfl:r=0:=by lia
        refine wpS_bind (zs7 ea' ?_)
        have M6:=M4.pushA ea' hx
        exact zh0 (fun f1=>wpS_pure ⟨S.next _,_,_,_,_,_,_,_,rfl,.inl ⟨_,rfl,lastOk M6 f1⟩⟩) fun f1=>zf9 (fun _=>wpS_pure ⟨S.next _,_,_,_,_,_,_,_,rfl,.inr ⟨rfl,M6,by lia,by lia,by lia⟩⟩) fun _=>wpS_pure ⟨S.next _,_,_,_,_,_,_,rfl,M6,by lia,by lia,by lia⟩
end
open PySem PyProof.Rows
section
variable {κ:KK2} {a b:Array Keyed}
structure MJ (κ:KK2) (a b out:Array Keyed) (na nb:Nat):Prop where
 sa:Sd κ (a.toList.take na++out.toList.reverse)
 sb:Sd κ (b.toList.take nb++out.toList.reverse)
 pm:((a.toList.take na++b.toList.take nb)++out.toList.reverse).Perm (a.toList++b.toList)
theorem zz0 {x:Array Keyed} {i n:Nat} (h:i≤n):x.toList.take n=x.toList.take i++(x.extract i n).toList:=by
 rw [Array.toList_extract,List.extract_eq_take_drop]
 have:=List.take_append_drop i (x.toList.take n)
 rw [List.take_take,Nat.min_eq_left h] at this
 rw [← this,List.drop_take]
theorem zK8 {x:Array Keyed} {i n:Nat} {p:Keyed} (h:p∈(x.extract i n).toList):∃ j,i≤j∧j<n∧j<x.size∧kf κ p=KK κ x j:=by
 rw [Array.toList_extract,List.extract_eq_take_drop] at h
 obtain ⟨j,j1,j2,e⟩:=zV5 (κ:=κ) h
 exact ⟨i+j,by lia,by lia,j2,e⟩
theorem MJ.takeA {out:Array Keyed} {na nb c:Nat} (h:MJ κ a b out na nb) (hcn:c≤na) (hc:∀ i j,c≤i→i<na→i<a.size→j<nb→j<b.size→κ.kle (KK κ b j) (KK κ a i)):MJ κ a b (out++(a.extract c na).reverse) c nb:=by
 have l:(out++(a.extract c na).reverse).toList.reverse=(a.extract c na).toList++out.toList.reverse:=by simp
 have h1:=h.sa
 rw [zz0 hcn,List.append_assoc] at h1
 refine ⟨by rw [l];exact h1,?_,?_⟩
 ·rw [l]
  refine zh5.mpr ⟨(zh5.mp h.sb).1,(zh5.mp h1).2.1,fun p hp q hq=>?_⟩
  rcases List.mem_append.mp hq with hq | hq
  ·obtain ⟨j,j1,j2,ej⟩:=zx7 (κ:=κ) hp
   obtain ⟨i,i1,i2,i3,ei⟩:=zK8 (κ:=κ) hq
   rw [ei,ej];exact hc i j i1 i2 i3 j1 j2
  ·exact (zh5.mp h.sb).2.2 p hp q hq
 ·refine List.Perm.trans ?_ h.pm
  rw [l,zz0 hcn]
  generalize a.toList.take c=u
  generalize (a.extract c na).toList=v
  generalize b.toList.take nb=w
  generalize out.toList.reverse=t
  rw [List.append_assoc,List.append_assoc,List.append_assoc]
  exact List.Perm.append_left _ (List.perm_append_comm_assoc _ _ _)
theorem MJ.takeB {out:Array Keyed} {na nb c:Nat} (h:MJ κ a b out na nb) (hcn:c≤nb) (hc:∀ i j,c≤i→i<nb→i<b.size→j<na→j<a.size→κ.kle (KK κ a j) (KK κ b i)):MJ κ a b (out++(b.extract c nb).reverse) na c:=by
 have l:(out++(b.extract c nb).reverse).toList.reverse=(b.extract c nb).toList++out.toList.reverse:=by simp
 have h1:=h.sb
 rw [zz0 hcn,List.append_assoc] at h1
 refine ⟨?_,by rw [l];exact h1,?_⟩
 ·rw [l]
  refine zh5.mpr ⟨(zh5.mp h.sa).1,(zh5.mp h1).2.1,fun p hp q hq=>?_⟩
  rcases List.mem_append.mp hq with hq | hq
  ·obtain ⟨j,j1,j2,ej⟩:=zx7 (κ:=κ) hp
   obtain ⟨i,i1,i2,i3,ei⟩:=zK8 (κ:=κ) hq
   rw [ei,ej];exact hc i j i1 i2 i3 j1 j2
  ·exact (zh5.mp h.sa).2.2 p hp q hq
 ·refine List.Perm.trans (List.Perm.of_eq ?_) h.pm
  rw [l,zz0 hcn,List.append_assoc,List.append_assoc,List.append_assoc]
theorem ya1 {out x:Array Keyed} {n:Nat} {p:Keyed} (hn:0<n) (e:x[n - 1]?=some p):out.push p=out++(x.extract (n - 1) n).reverse:=by
 have h:=zJ3 (out:=#[]) e
 rw [show n - 1+1=n by lia] at h
 have:x.extract (n - 1) n=#[p]:=by
  have:=congrArg Array.toList h
  apply Array.toList_inj.mp
  simpa using this.symm
 rw [this];rfl
theorem MJ.pushA {out:Array Keyed} {na nb:Nat} {p:Keyed} (h:MJ κ a b out na nb) (hn:0<na) (e:a[na - 1]?=some p) (hc:∀ j,j<nb→j<b.size→κ.kle (KK κ b j) (KK κ a (na - 1))):MJ κ a b (out.push p) (na - 1) nb:=by
 rw [ya1 hn e]
 refine h.takeA (by lia) fun i j i1 i2 _ j1 j2=>?_
 obtain rfl:i=na - 1:=by lia
 exact hc j j1 j2
theorem MJ.pushB {out:Array Keyed} {na nb:Nat} {p:Keyed} (h:MJ κ a b out na nb) (hn:0<nb) (e:b[nb - 1]?=some p) (hc:∀ j,j<na→j<a.size→κ.kle (KK κ a j) (KK κ b (nb - 1))):MJ κ a b (out.push p) na (nb - 1):=by
 rw [ya1 hn e]
 refine h.takeB (by lia) fun i j i1 i2 _ j1 j2=>?_
 obtain rfl:i=nb - 1:=by lia
 exact hc j j1 j2
theorem MJ.done {out:Array Keyed} {na nb:Nat} (h:MJ κ a b out na nb) (he:na=0∨nb=0):zS2 κ a b (a.extract 0 na++b.extract 0 nb++out.reverse):=by
 have l:(a.extract 0 na++b.extract 0 nb++out.reverse).toList=(a.toList.take na++b.toList.take nb)++out.toList.reverse:=by
  rw [Array.toList_append,Array.toList_append,zM2,zM2,Array.toList_reverse]
 refine ⟨?_,by rw [l];exact h.pm⟩
 rw [l]
 rcases he with rfl | rfl
 ·rw [List.take_zero,List.nil_append];exact h.sb
 ·rw [List.take_zero,List.append_nil];exact h.sa
theorem MJ.first {out:Array Keyed} {na nb:Nat} (h:MJ κ a b out na nb) (hc:∀ i j,j<nb→j<b.size→i<na→i<a.size→κ.kle (KK κ b j) (KK κ a i)):zS2 κ a b (b.extract 0 nb++a.extract 0 na++out.reverse):=by
 have l:(b.extract 0 nb++a.extract 0 na++out.reverse).toList=b.toList.take nb++(a.toList.take na++out.toList.reverse):=by
  rw [Array.toList_append,Array.toList_append,zM2,zM2,Array.toList_reverse,List.append_assoc]
 refine ⟨?_,?_⟩
 ·rw [l]
  refine zh5.mpr ⟨(zh5.mp h.sb).1,h.sa,fun p hp q hq=>?_⟩
  rcases List.mem_append.mp hq with hq | hq
  ·obtain ⟨j,j1,j2,ej⟩:=zx7 (κ:=κ) hp
   obtain ⟨i,i1,i2,ei⟩:=zx7 (κ:=κ) hq
   rw [ei,ej];exact hc i j j1 j2 i1 i2
  ·exact (zh5.mp h.sb).2.2 p hp q hq
 ·refine List.Perm.trans ?_ h.pm
  rw [l,List.append_assoc]
  exact List.perm_append_comm_assoc _ _ _
theorem MJ.init (sa:Seg κ a 0 a.size) (sb:Seg κ b 0 b.size):MJ κ a b #[] a.size b.size:=by
 have e1:a.toList.take a.size=a.toList:=List.take_of_length_le (by simp)
 have e2:b.toList.take b.size=b.toList:=List.take_of_length_le (by simp)
 refine ⟨?_,?_,?_⟩
 ·rw [e1];simpa using sa.sd
 ·rw [e2];simpa using sb.sd
 ·rw [e1,e2];simp
end
section
variable {prog:Program} {w:World} {A:Around} {E:Value→Shared→Prop} {s:Shared} {κ:KK2} {kd:SortKind}
theorem yn6 {st:SortSt} {a b:Array Keyed} {Q:Array Keyed→SortSt→Prop} (hL:zS1 prog w A s κ kd) (hk:kindOf st=kd) (ka:KeysOf κ a) (kb:KeysOf κ b) (sa:Seg κ a 0 a.size) (sb:Seg κ b 0 b.size) (a1:0<a.size) (b1:0<b.size)
  (hf:∀ i,i<a.size→κ.kle (KK κ b 0) (KK κ a i)) (hl:∀ j,j<b.size→κ.kle (KK κ b j) (KK κ a (a.size - 1))) (h:∀ m st',Sm st st'→zS2 κ a b m→Q m st') :
  wpS (model prog w) A E s (zX7 a b) Q st:=by
 unfold zX7
 refine wpS_bind (wpS_lift (wpAny_rule ⟨rfl,?_⟩))
 have e0:=getElem?_pos a (a.size - 1) (by lia)
 refine wpS_bind (zs7 e0 ?_)
 have M0:MJ κ a b #[a[a.size - 1]] (a.size - 1) b.size:=(MJ.init sa sb).pushA a1 e0 fun j _ j2=>hl j j2
 have firstOk:∀ {out na nb},MJ κ a b out na nb→nb=1→zS2 κ a b (b.extract 0 nb++a.extract 0 na++out.reverse):=fun M e=>M.first fun i j j1 _ _ i2=>by
  obtain rfl:j=0:=by lia
  exact hf i i2
 refine zh0 (fun c=>wpS_pure (h _ _ Sm.refl (M0.done (.inl c)))) fun c=>zh0 (fun c2=>wpS_pure (h _ _ Sm.refl (firstOk M0 c2))) fun c2=>?_
 refine wpS_bind (wpS_get ?_)
 refine wpS_bind (wpS_mono (wpS_forRange (a:=0) (b:=a.size+b.size)
  (I:=fun x c st'=>Sm st st'∧∃ na nb out mg,c=(none,na,nb,out,mg)∧MJ κ a b out na nb∧0<na∧na<a.size∧1<nb∧nb≤b.size∧na+nb+x≤a.size+b.size)
  (Q:=fun c st'=>Sm st st'∧∃ m na nb out mg,c=(some m,na,nb,out,mg)∧zS2 κ a b m) ?t ?f ?i) ?post)
 case i=>exact ⟨Sm.refl,_,_,_,_,rfl,M0,by lia,by lia,by lia,by lia,by lia⟩
 case f =>
  rintro c st' ⟨S,na,nb,out,mg,rfl,M,i1,i2,i3,i4,i5⟩
  lia
 case post =>
  rintro c st' ⟨S,m,na,nb,out,mg,rfl,F⟩
  exact wpS_pure (h m st' S F)
 case t =>
  rintro x c st' _ x2 ⟨S,na,nb,out,mg,rfl,M,i1,i2,i3,i4,i5⟩
  refine wpS_bind (wpS_mono (wpS_forRange (a:=0) (b:=a.size+b.size)
   (I:=fun y c st2=>st2=st'∧∃ na nb out ac bc,c=(none,na,nb,out,ac,bc)∧MJ κ a b out na nb∧0<na∧na<a.size∧1<nb∧nb≤b.size∧na+nb+x+y≤a.size+b.size)
   (Q:=fun c st2=>st2=st'∧∃ r na nb out ac bc,c=(r,na,nb,out,ac,bc)∧((∃ m,r=some m∧zS2 κ a b m)∨r=none∧MJ κ a b out na nb∧0<na∧na<a.size∧1<nb∧nb≤b.size∧na+nb+x+1≤a.size+b.size)) ?t1 ?f1 ?j1) ?post1)
  case j1=>exact ⟨rfl,na,nb,out,0,0,rfl,M,i1,i2,i3,i4,by lia⟩
  case f1 =>
   rintro c st2 ⟨rfl,na,nb,out,ac,bc,rfl,M,i1,i2,i3,i4,i5⟩
   lia
  case t1 =>
   rintro y c st2 _ y2 ⟨rfl,na,nb,out,ac,bc,rfl,M,i1,i2,i3,i4,i5⟩
   obtain ⟨pa,ea',qa⟩:=zh7 ka (show na - 1<a.size by lia)
   obtain ⟨pb,eb',qb⟩:=zh7 kb (show nb - 1<b.size by lia)
   refine wpS_bind (zs7 eb' (wpS_bind (zs7 ea' (wpS_bind (yZ5 hL (S.kind.trans hk) qb qa ?_)))))
   cases e:κ.blt (KK κ b (nb - 1)) (KK κ a (na - 1)) with
   | true =>
    refine wpS_bind (zs7 ea' ?_)
    have M2:=M.pushA i1 ea' fun j j1 j2=>KeyOrd.kle_trans (zt2 sb (by lia) (by lia)) (KeyOrd.kle_of_klt e)
    exact zh0 (fun c=>wpS_pure ⟨rfl,_,_,_,_,_,_,rfl,.inl ⟨_,rfl,M2.done (.inl c)⟩⟩) fun c=>zf9 (fun _=>wpS_pure ⟨rfl,_,_,_,_,_,_,rfl,.inr ⟨rfl,M2,by lia,by lia,by lia,by lia,by lia⟩⟩) fun _=>wpS_pure ⟨rfl,_,_,_,_,_,rfl,M2,by lia,by lia,by lia,by lia,by lia⟩
   | false =>
    refine wpS_bind (zs7 eb' ?_)
    have M2:=M.pushB (by lia) eb' fun j j1 j2=>KeyOrd.kle_trans (zt2 sa (by lia) (by lia)) e
    exact zh0 (fun c=>wpS_pure ⟨rfl,_,_,_,_,_,_,rfl,.inl ⟨_,rfl,firstOk M2 c⟩⟩) fun c=>zf9 (fun _=>wpS_pure ⟨rfl,_,_,_,_,_,_,rfl,.inr ⟨rfl,M2,by lia,by lia,by lia,by lia,by lia⟩⟩) fun _=>wpS_pure ⟨rfl,_,_,_,_,_,rfl,M2,by lia,by lia,by lia,by lia,by lia⟩
  case post1 =>
   rintro c st2 ⟨rfl,r,na,nb,out,ac,bc,rfl,⟨m,rfl,F⟩ | ⟨rfl,M,i1,i2,i3,i4,i5⟩⟩
   ·exact wpS_pure ⟨S,m,_,_,_,_,rfl,F⟩
   ·refine wpS_bind (wpS_lift (wpAny_rule ⟨rfl,?_⟩))
    refine wpS_bind (wpS_mono (wpS_forRange (a:=0) (b:=a.size+b.size)
     (I:=fun y c st3=>Sm st st3∧∃ na nb out mg ac bc,c=(none,na,nb,out,mg,ac,bc)∧MJ κ a b out na nb∧0<na∧na<a.size∧1<nb∧nb≤b.size∧na+nb+x+1≤a.size+b.size)
     (Q:=fun c st3=>Sm st st3∧∃ r na nb out mg ac bc,c=(r,na,nb,out,mg,ac,bc)∧((∃ m,r=some m∧zS2 κ a b m)∨r=none∧MJ κ a b out na nb∧0<na∧na<a.size∧1<nb∧nb≤b.size∧na+nb+x+1≤a.size+b.size)) ?t2 ?f2 ?j2) ?post2)
    case j2=>exact ⟨S,na,nb,out,_,_,_,rfl,M,i1,i2,i3,i4,i5⟩
    case f2 =>
     rintro c st3 ⟨S,na,nb,out,mg,ac,bc,rfl,M,i1,i2,i3,i4,i5⟩
     exact ⟨S,_,_,_,_,_,_,_,rfl,.inr ⟨rfl,M,i1,i2,i3,i4,i5⟩⟩
    case post2 =>
     rintro c st3 ⟨S,r,na,nb,out,mg,ac,bc,rfl,⟨m,rfl,F⟩ | ⟨rfl,M,i1,i2,i3,i4,i5⟩⟩
     ·exact wpS_pure ⟨S,m,_,_,_,_,rfl,F⟩
     ·refine wpS_bind (wpS_modify (wpS_pure ⟨S.next _,_,_,_,_,rfl,M,i1,i2,i3,i4,by lia⟩))
    case t2 =>
     rintro y c st3 _ y2 ⟨S,na,nb,out,mg,ac,bc,rfl,M,i1,i2,i3,i4,i5⟩
     obtain ⟨pb,eb',qb⟩:=zh7 kb (show nb - 1<b.size by lia)
     refine zf9 (fun _=>?_) (fun _=>?_)
     all_goals
      refine wpS_bind (wpS_modify ?_)
      refine wpS_bind (zs7 eb' ?_)
      refine wpS_bind (zm4 (κ:=κ) (kd:=kd) hL (S.kind.trans hk) ka qb (by lia) (by lia) (yL2 sa (by lia)) fun k k1 k2 k3=>?_)
      have k2':∀ j,j<k→κ.kle (KK κ a j) (KK κ b (nb - 1)):=fun j j1=>by
       have:=yk8 (k2 j j1)
       rwa [Nat.zero_add] at this
      have k3':∀ i,k≤i→i<na→κ.kle (KK κ b (nb - 1)) (KK κ a i):=fun i j1 j2=>by
       have:=yo3 (k3 i j1 j2)
       rw [Nat.zero_add] at this
       exact KeyOrd.kle_of_klt this
      have M2:=M.takeA (c:=k) k1 fun i j j1 j2 _ j4 j5=>KeyOrd.kle_trans (zt2 sb (by lia) (by lia)) (k3' i j1 j2)
      refine zf9 (fun c0=>zh0 (fun c1=>wpS_pure ⟨S.next _,_,_,_,_,_,_,_,rfl,.inl ⟨_,rfl,M2.done (.inl c1)⟩⟩) fun c1=>?_) fun c0=>?_
      ·have M3:=M2
       have hy3:∀ j,j<k→j<a.size→κ.kle (KK κ a j) (KK κ b (nb - 1)):=fun j j1 _=>k2' j j1
       obtain ⟨pb2,eb2,qb2⟩:=zh7 kb (show nb - 1<b.size by lia)
       refine wpS_bind (zs7 eb2 ?_)
       have M4:=M3.pushB (by lia) eb2 hy3
       refine zh0 (fun d1=>wpS_pure ⟨S.next _,_,_,_,_,_,_,_,rfl,.inl ⟨_,rfl,firstOk M4 d1⟩⟩) fun d1=>?_
       obtain ⟨pa,ea',qa⟩:=zh7 ka (show k - 1<a.size by lia)
       refine wpS_bind (zs7 ea' (wpS_bind (zm4 (κ:=κ) (kd:=kd) hL (S.kind.trans hk) kb qa (by lia) (by lia) (yL2 sb (by lia)) fun r r1 r2 r3=>?_)))
       have r2':∀ j,j<r→κ.kle (KK κ b j) (KK κ a (k - 1)):=fun j j1=>by
        have:=r2 j j1
        unfold bey at this
        rw [if_pos rfl,Nat.zero_add] at this
        exact KeyOrd.kle_of_klt this
       have r3':∀ i,r≤i→i<nb - 1→κ.kle (KK κ a (k - 1)) (KK κ b i):=fun i j1 j2=>by
        have:=r3 i j1 j2
        unfold bey at this
        rw [if_pos rfl,Nat.zero_add] at this
        exact this
       have M5:=M4.takeB (c:=r) r1 fun i j j1 j2 _ j4 j5=>KeyOrd.kle_trans (zt2 sa (by lia) (by lia)) (r3' i j1 j2)
       refine zf9 (fun e0=>zh0 (fun e1=>wpS_pure ⟨S.next _,_,_,_,_,_,_,_,rfl,.inl ⟨_,rfl,firstOk M5 e1⟩⟩) fun e1=>zh0 (fun e2=>wpS_pure ⟨S.next _,_,_,_,_,_,_,_,rfl,.inl ⟨_,rfl,M5.done (.inr e2)⟩⟩) fun e2=>?_) fun e0=>?_
       ·refine wpS_bind (zs7 ea' ?_)
        have M6:=M5.pushA (by lia) ea' fun j j1 _=>r2' j j1
        exact zh0 (fun f1=>wpS_pure ⟨S.next _,_,_,_,_,_,_,_,rfl,.inl ⟨_,rfl,M6.done (.inl f1)⟩⟩) fun f1=>zf9 (fun _=>wpS_pure ⟨S.next _,_,_,_,_,_,_,_,rfl,.inr ⟨rfl,M6,by lia,by lia,by lia,by lia,by lia⟩⟩) fun _=>wpS_pure ⟨S.next _,_,_,_,_,_,_,rfl,M6,by lia,by lia,by lia,by lia,by lia⟩
       ·obtain rfl:r=nb - 1:=by lia
        refine wpS_bind (zs7 ea' ?_)
        have M6:=M4.pushA (by lia) ea' fun j j1 _=>r2' j j1
        exact zh0 (fun f1=>wpS_pure ⟨S.next _,_,_,_,_,_,_,_,rfl,.inl ⟨_,rfl,M6.done (.inl f1)⟩⟩) fun f1=>zf9 (fun _=>wpS_pure ⟨S.next _,_,_,_,_,_,_,_,rfl,.inr ⟨rfl,M6,by lia,by lia,by lia,by lia,by lia⟩⟩) fun _=>wpS_pure ⟨S.next _,_,_,_,_,_,_,rfl,M6,by lia,by lia,by lia,by lia,by lia⟩
      ·obtain rfl:k=na:=by lia
       have M3:=M
       have hy3:∀ j,j<k→j<a.size→κ.kle (KK κ a j) (KK κ b (nb - 1)):=fun j j1 _=>k2' j j1
       obtain ⟨pb2,eb2,qb2⟩:=zh7 kb (show nb - 1<b.size by lia)
       refine wpS_bind (zs7 eb2 ?_)
       have M4:=M3.pushB (by lia) eb2 hy3
       refine zh0 (fun d1=>wpS_pure ⟨S.next _,_,_,_,_,_,_,_,rfl,.inl ⟨_,rfl,firstOk M4 d1⟩⟩) fun d1=>?_
       obtain ⟨pa,ea',qa⟩:=zh7 ka (show k - 1<a.size by lia)
       refine wpS_bind (zs7 ea' (wpS_bind (zm4 (κ:=κ) (kd:=kd) hL (S.kind.trans hk) kb qa (by lia) (by lia) (yL2 sb (by lia)) fun r r1 r2 r3=>?_)))
       have r2':∀ j,j<r→κ.kle (KK κ b j) (KK κ a (k - 1)):=fun j j1=>by
        have:=r2 j j1
        unfold bey at this
        rw [if_pos rfl,Nat.zero_add] at this
        exact KeyOrd.kle_of_klt this
       have r3':∀ i,r≤i→i<nb - 1→κ.kle (KK κ a (k - 1)) (KK κ b i):=fun i j1 j2=>by
        have:=r3 i j1 j2
        unfold bey at this
        rw [if_pos rfl,Nat.zero_add] at this
        exact this
       have M5:=M4.takeB (c:=r) r1 fun i j j1 j2 _ j4 j5=>KeyOrd.kle_trans (zt2 sa (by lia) (by lia)) (r3' i j1 j2)
       refine zf9 (fun e0=>zh0 (fun e1=>wpS_pure ⟨S.next _,_,_,_,_,_,_,_,rfl,.inl ⟨_,rfl,firstOk M5 e1⟩⟩) fun e1=>zh0 (fun e2=>wpS_pure ⟨S.next _,_,_,_,_,_,_,_,rfl,.inl ⟨_,rfl,M5.done (.inr e2)⟩⟩) fun e2=>?_) fun e0=>?_
       ·refine wpS_bind (zs7 ea' ?_)
        have M6:=M5.pushA (by lia) ea' fun j j1 _=>r2' j j1
        exact zh0 (fun f1=>wpS_pure ⟨S.next _,_,_,_,_,_,_,_,rfl,.inl ⟨_,rfl,M6.done (.inl f1)⟩⟩) fun f1=>zf9 (fun _=>wpS_pure ⟨S.next _,_,_,_,_,_,_,_,rfl,.inr ⟨rfl,M6,by lia,by lia,by lia,by lia,by lia⟩⟩) fun _=>wpS_pure ⟨S.next _,_,_,_,_,_,_,rfl,M6,by lia,by lia,by lia,by lia,by lia⟩
       ·obtain rfl:r=nb - 1:=by lia
        refine wpS_bind (zs7 ea' ?_)
        have M6:=M4.pushA (by lia) ea' fun j j1 _=>r2' j j1
        exact zh0 (fun f1=>wpS_pure ⟨S.next _,_,_,_,_,_,_,_,rfl,.inl ⟨_,rfl,M6.done (.inl f1)⟩⟩) fun f1=>zf9 (fun _=>wpS_pure ⟨S.next _,_,_,_,_,_,_,_,rfl,.inr ⟨rfl,M6,by lia,by lia,by lia,by lia,by lia⟩⟩) fun _=>wpS_pure ⟨S.next _,_,_,_,_,_,_,rfl,M6,by lia,by lia,by lia,by lia,by lia⟩
end
open PySem PyProof.Rows
noncomputable def yl4 (x:Array Keyed) (i:Nat) (m:List Keyed) (o:Nat):Array Keyed:=(m.zipIdx o).foldl (fun a p=>a.setIfInBounds (i+p.2) p.1) x
theorem zR2:∀ (m:List Keyed) (x:Array Keyed) (i o:Nat),i+o+m.length≤x.size→(yl4 x i m o).toList=x.toList.take (i+o)++(m++x.toList.drop (i+o+m.length))
 | [],x,i,o,_=>by
  unfold yl4
  simp
 | p::m,x,i,o,h=>by
  rw [List.length_cons] at h
  have ih:=zR2 m (x.setIfInBounds (i+o) p) i (o+1) (by rw [Array.size_setIfInBounds];lia)
  have e:yl4 x i (p::m) o=yl4 (x.setIfInBounds (i+o) p) i m (o+1):=by
   unfold yl4
   rw [List.zipIdx_cons,List.foldl_cons]
  have hlt:i+o<x.toList.length:=by rw [Array.length_toList];lia
  rw [e,ih,Array.toList_setIfInBounds,show i+(o+1)=i+o+1 by lia,List.take_succ,List.getElem?_set_self hlt,List.take_set_of_le (Nat.le_refl _),List.drop_set_of_lt (by lia),List.length_cons,show i+o+1+m.length=i+o+(m.length+1) by lia]
  simp
section
variable {κ:KK2}
theorem yN6 {x:Array Keyed} (h:Sd κ x.toList):Seg κ x 0 x.size:=fun i j hij hj=>by
 rw [Nat.zero_add,Nat.zero_add]
 by_cases e:i=j
 ·subst e;exact KeyOrd.kle_refl _
 ·have:=List.pairwise_iff_getElem.mp h i j (by simp;lia) (by simpa using hj) (by lia)
  rw [zE5 (i:=i) (x:=x) (by rw [getElem?_pos x i (by lia)];rfl),zE5 (i:=j) (x:=x) (by rw [getElem?_pos x j hj];rfl)] at this
  exact this
theorem yz9 {x:Array Keyed} {i n j:Nat} (h:i+j<n) (hn:n≤x.size):KK κ (x.extract i n) j=KK κ x (i+j):=by
 apply KK_congr
 rw [Array.getElem?_extract]
 simp only [Nat.min_eq_left hn]
 rw [if_pos (by lia)]
theorem zB2 {x:Array Keyed} {i n:Nat} (h:KeysOf κ x):KeysOf κ (x.extract i n):=fun p hp=>h p (by
 rw [Array.toList_extract,List.extract_eq_take_drop] at hp
 exact List.mem_of_mem_drop (List.mem_of_mem_take hp))
theorem zB6 {x:Array Keyed} {i n:Nat} (hn:n≤x.size):(x.extract i n).size=n - i:=by
 rw [Array.size_extract,Nat.min_eq_left hn]
theorem yX7 {x m:Array Keyed} {n1 k q:Nat} (hk:k≤n1) (hn:n1+q≤x.size) (s1:Seg κ x 0 n1) (s2:Seg κ x n1 (x.size - n1)) (F:zS2 κ (x.extract k n1) (x.extract n1 (n1+q)) m) (c0:0<q) (cn:k<n1)
  (h1:∀ i,i<k→κ.kle (KK κ x i) (KK κ x n1)) (h2:∀ j,n1+q≤j→j<x.size→κ.kle (KK κ x (n1 - 1)) (KK κ x j)) :
  (yl4 x k m.toList 0).Perm x∧Seg κ (yl4 x k m.toList 0) 0 x.size:=by
 obtain ⟨f1,f2⟩:=F
 have hm:m.toList.length=n1 - k+q:=by
  rw [f2.length_eq,List.length_append,Array.length_toList,Array.length_toList,zB6 (by lia),zB6 hn];lia
 have l:=zR2 m.toList x k 0 (by lia)
 rw [Nat.add_zero,hm,show k+(n1 - k+q)=n1+q by lia] at l
 have e:x.toList=x.toList.take k++((x.extract k n1).toList++(x.extract n1 (n1+q)).toList++x.toList.drop (n1+q)):=by
  rw [← List.append_assoc,← List.append_assoc,← zz0 hk,← zz0 (Nat.le_add_right _ _),List.take_append_drop]
 have hp:(yl4 x k m.toList 0).toList.Perm x.toList:=by
  rw [l]
  refine List.Perm.trans ?_ (List.Perm.of_eq e.symm)
  exact List.Perm.append_left _ (List.Perm.append_right _ f2)
 have le1:∀ i j,i≤j→j<n1→κ.kle (KK κ x i) (KK κ x j):=fun i j u v=>by
  have:=s1 i j u v
  rwa [Nat.zero_add,Nat.zero_add] at this
 have le2:∀ i j,n1≤i→i≤j→j<x.size→κ.kle (KK κ x i) (KK κ x j):=fun i j t u v=>by
  have:=s2 (i - n1) (j - n1) (by lia) (by lia)
  rwa [show n1+(i - n1)=i by lia,show n1+(j - n1)=j by lia] at this
 have inm:∀ p∈m.toList,∃ j,k≤j∧j<n1+q∧kf κ p=KK κ x j:=fun p hp=>by
  rcases List.mem_append.mp (f2.mem_iff.mp hp) with hp | hp
  ·obtain ⟨j,j1,j2,_,e⟩:=zK8 (κ:=κ) hp
   exact ⟨j,j1,by lia,e⟩
  ·obtain ⟨j,j1,j2,_,e⟩:=zK8 (κ:=κ) hp
   exact ⟨j,by lia,j2,e⟩
 have up:∀ i j,i<k→k≤j→j<x.size→κ.kle (KK κ x i) (KK κ x j):=fun i j i1 j1 j2=>by
  by_cases c:j<n1
  ·exact le1 i j (by lia) c
  ·exact KeyOrd.kle_trans (h1 i i1) (le2 n1 j (Nat.le_refl _) (by lia) j2)
 have dn:∀ i j,i<n1+q→n1+q≤j→j<x.size→κ.kle (KK κ x i) (KK κ x j):=fun i j i1 j1 j2=>by
  by_cases c:i<n1
  ·exact KeyOrd.kle_trans (le1 i (n1 - 1) (by lia) (by lia)) (h2 j j1 j2)
  ·exact le2 i j (by lia) (by lia) j2
 have hs:Sd κ (yl4 x k m.toList 0).toList:=by
  rw [l]
  refine zh5.mpr ⟨?_,zh5.mpr ⟨f1,?_,fun p hp r hr=>?_⟩,fun p hp r hr=>?_⟩
  ·refine List.pairwise_iff_getElem.mpr fun i j hi hj hij=>?_
   rw [List.length_take,Array.length_toList] at hi hj
   rw [List.getElem_take,List.getElem_take,zE5 (i:=i) (x:=x) (by rw [getElem?_pos x i (by lia)];rfl),zE5 (i:=j) (x:=x) (by rw [getElem?_pos x j (by lia)];rfl)]
   exact le1 i j (by lia) (by lia)
  ·refine List.pairwise_iff_getElem.mpr fun i j hi hj hij=>?_
   rw [List.length_drop,Array.length_toList] at hi hj
   rw [List.getElem_drop,List.getElem_drop,zE5 (i:=n1+q+i) (x:=x) (by rw [getElem?_pos x _ (by lia)];rfl),zE5 (i:=n1+q+j) (x:=x) (by rw [getElem?_pos x _ (by lia)];rfl)]
   exact le2 _ _ (by lia) (by lia) (by lia)
  ·obtain ⟨i,i1,i2,ei⟩:=inm p hp
   obtain ⟨j,j1,j2,ej⟩:=zs3 (κ:=κ) hr
   rw [ei,ej];exact dn i j i2 j1 j2
  ·obtain ⟨i,i1,i2,ei⟩:=zx7 (κ:=κ) hp
   rcases List.mem_append.mp hr with hr | hr
   ·obtain ⟨j,j1,j2,ej⟩:=inm r hr
    rw [ei,ej];exact up i j i1 j1 (by lia)
   ·obtain ⟨j,j1,j2,ej⟩:=zs3 (κ:=κ) hr
    rw [ei,ej];exact up i j i1 (by lia) j2
 have hsz:(yl4 x k m.toList 0).size=x.size:=by
  have:=hp.length_eq
  simpa using this
 refine ⟨Array.perm_iff_toList_perm.mpr hp,?_⟩
 have:=yN6 hs
 rwa [hsz] at this
end
open PySem PyProof.Rows
section
variable {prog:Program} {w:World} {A:Around} {E:Value→Shared→Prop} {s:Shared} {κ:KK2} {kd:SortKind} {z:Array Keyed}
theorem yH8 {M:Model} {st st':SortSt} {Q:PUnit→SortSt→Prop} (h:Q ⟨⟩ st'):wpS M A E s (set st':StateT SortSt Sem PUnit) Q st:=by
 unfold wpS
 rw [StateT.run_set]
 exact wpAny_pure ⟨rfl,h⟩
theorem yp6 {st:SortSt} {n1 p1 p2:Nat} {Q:Bool→SortSt→Prop} (hL:zS1 prog w A s κ kd) (hz:KeysOf κ z) (hB:SB kd z #[(0,n1,p1),(n1,z.size - n1,p2)] st) (h1:0<n1) (h2:n1<z.size)
  (s1:Seg κ (arrOf st) 0 n1) (s2:Seg κ (arrOf st) n1 (z.size - n1)) (h:∀ P st',SB kd z P st'→P.size=1→Seg κ (arrOf st') 0 z.size→Q true st') :
  wpS (model prog w) A E s (mergeAt' 0) Q st:=by
 obtain ⟨kd',x,pd,g,f⟩:=st
 obtain ⟨pm,e1,e2,hp⟩:=hB
 have e1:kd'=kd:=e1
 have e2:f=none:=e2
 have hp:pd=#[(0,n1,p1),(n1,z.size - n1,p2)]:=hp
 have pm:x.Perm z:=pm
 have s1:Seg κ x 0 n1:=s1
 have s2:Seg κ x n1 (z.size - n1):=s2
 subst e1 e2 hp
 have hsz:x.size=z.size:=pm.size_eq
 have hx:KeysOf κ x:=zF7 pm hz
 rw [← hsz] at s2 h2
 have fin:∀ (x':Array Keyed) (pd:Array (Nat×Nat×Nat)) (g:Nat),x'.Perm x→pd.size=1→Seg κ x' 0 x.size→Q true (SortSt.mk' kd' x' pd g none):=fun x' pd g u v c=>h pd _ ⟨u.trans pm,rfl,rfl,rfl⟩ v (by rw [← hsz];exact c)
 have le1:∀ i j,i≤j→j<n1→κ.kle (KK κ x i) (KK κ x j):=fun i j u v=>by
  have:=s1 i j u v
  rwa [Nat.zero_add,Nat.zero_add] at this
 have le2:∀ i j,n1≤i→i≤j→j<x.size→κ.kle (KK κ x i) (KK κ x j):=fun i j t u v=>by
  have:=s2 (i - n1) (j - n1) (by lia) (by lia)
  rwa [show n1+(i - n1)=i by lia,show n1+(j - n1)=j by lia] at this
 have whole:(∀ i j,i<n1→n1≤j→j<x.size→κ.kle (KK κ x i) (KK κ x j))→Seg κ x 0 x.size:=fun c i j u v=>by
  rw [Nat.zero_add,Nat.zero_add]
  by_cases c1:j<n1
  ·exact le1 i j u c1
  ·by_cases c2:i<n1
   ·exact c i j c2 (by lia) v
   ·exact le2 i j (by lia) u v
 have z1:(((#[(0,n1,p1),(n1,z.size - n1,p2)]:Array (Nat×Nat×Nat)).setIfInBounds 0 (0,n1+(z.size - n1),p1)).eraseIdxIfInBounds (0+1)).size=1:=by
  simp [Array.eraseIdxIfInBounds]
 unfold mergeAt'
 refine wpS_bind (wpS_get ?_)
 show wpS _ _ _ _ (set _ >>= _) _ _
 refine wpS_bind (yH8 ?_)
 obtain ⟨pb,eb,qb⟩:=zh7 hx h2
 refine wpS_bind (zs7 eb ?_)
 refine wpS_bind (zm4 (κ:=κ) (kd:=kd') hL rfl hx qb (by lia) h1 s1 fun k k1 k2 k3=>?_)
 have k2':∀ i,i<k→κ.kle (KK κ x i) (KK κ x n1):=fun i u=>by
  have:=yk8 (k2 i u)
  rwa [Nat.zero_add] at this
 have k3':∀ i,k≤i→i<n1→κ.kle (KK κ x n1) (KK κ x i):=fun i u v=>by
  have:=yo3 (k3 i u v)
  rw [Nat.zero_add] at this
  exact KeyOrd.kle_of_klt this
 refine zh0 (x:=n1 - k) (y:=0) (fun c=>wpS_pure (fin _ _ _ (Array.Perm.refl _) z1 (whole fun i j i1 j1 j2=>KeyOrd.kle_trans (k2' i (by lia)) (le2 n1 j (Nat.le_refl _) j1 j2)))) fun c=>?_
 obtain ⟨pa,ea,qa⟩:=zh7 hx (show 0+k+(n1 - k) - 1<x.size by lia)
 refine wpS_bind (zs7 ea ?_)
 have qa:κ.keyOf pa.1=some (KK κ x (n1 - 1)):=by rw [qa,show 0+k+(n1 - k) - 1=n1 - 1 by lia]
 refine wpS_bind (zm4 (κ:=κ) (kd:=kd') hL rfl hx qa (by lia) (by lia) (by rw [← hsz];exact s2) fun q q1 q2 q3=>?_)
 rw [← hsz] at q1 q3
 have q2':∀ i,i<q→κ.kle (KK κ x (n1+i)) (KK κ x (n1 - 1)):=fun i u=>by
  have:=q2 i u
  unfold bey at this
  rw [if_pos rfl] at this
  exact KeyOrd.kle_of_klt this
 have q3':∀ j,n1+q≤j→j<x.size→κ.kle (KK κ x (n1 - 1)) (KK κ x j):=fun j u v=>by
  have:=q3 (j - n1) (by lia) (by lia)
  unfold bey at this
  rw [if_pos rfl,show n1+(j - n1)=j by lia] at this
  exact this
 refine zh0 (x:=q) (y:=0) (fun c1=>wpS_pure (fin _ _ _ (Array.Perm.refl _) z1 (whole fun i j i1 j1 j2=>KeyOrd.kle_trans (le1 i (n1 - 1) (by lia) (by lia)) (q3' j (by lia) j2)))) fun c1=>?_
 have za:(x.extract (0+k) n1).size=n1 - k:=by rw [Nat.zero_add,zB6 (by lia)]
 have zb:(x.extract n1 (n1+q)).size=q:=by rw [zB6 (by lia)];lia
 have A1:∀ i,i<n1 - k→KK κ (x.extract (0+k) n1) i=KK κ x (k+i):=fun i u=>by rw [Nat.zero_add];exact yz9 (by lia) (by lia)
 have B1:∀ i,i<q→KK κ (x.extract n1 (n1+q)) i=KK κ x (n1+i):=fun i u=>yz9 (by lia) (by lia)
 have sA:Seg κ (x.extract (0+k) n1) 0 (x.extract (0+k) n1).size:=fun i j u v=>by
  rw [za] at v
  rw [show 0+i=i by lia,show 0+j=j by lia,A1 i (by lia),A1 j v]
  exact le1 _ _ (by lia) (by lia)
 have sB:Seg κ (x.extract n1 (n1+q)) 0 (x.extract n1 (n1+q)).size:=fun i j u v=>by
  rw [zb] at v
  rw [show 0+i=i by lia,show 0+j=j by lia,B1 i (by lia),B1 j v]
  exact le2 _ _ (by lia) (by lia) (by lia)
 have hf:∀ i,i<(x.extract (0+k) n1).size→κ.kle (KK κ (x.extract n1 (n1+q)) 0) (KK κ (x.extract (0+k) n1) i):=fun i u=>by
  rw [za] at u
  rw [A1 i u,B1 0 (by lia)]
  exact k3' _ (by lia) (by lia)
 have hl:∀ j,j<(x.extract n1 (n1+q)).size→κ.kle (KK κ (x.extract n1 (n1+q)) j) (KK κ (x.extract (0+k) n1) ((x.extract (0+k) n1).size - 1)):=fun j u=>by
  rw [zb] at u
  rw [za,A1 _ (by lia),B1 j u,show k+(n1 - k - 1)=n1 - 1 by lia]
  exact q2' j u
 have last:∀ (m:Array Keyed) (st':SortSt),Sm (SortSt.mk' kd' x (((#[(0,n1,p1),(n1,z.size - n1,p2)]:Array (Nat×Nat×Nat)).setIfInBounds 0 (0,n1+(z.size - n1),p1)).eraseIdxIfInBounds (0+1)) g none) st'→zS2 κ (x.extract (0+k) n1) (x.extract n1 (n1+q)) m →
   Q true (setArr st' (yl4 (arrOf st') (0+k) m.toList 0)):=fun m st' S F=>by
  obtain ⟨g',rfl⟩:=S
  rw [show 0+k=k by lia] at F ⊢
  obtain ⟨u,v⟩:=yX7 k1 (by lia) s1 s2 F (by lia) (by lia) k2' q3'
  exact fin _ _ _ u z1 v
 refine zf9 (fun _=>?_) (fun _=>?_)
 ·refine wpS_bind (yp2 hL rfl (zB2 hx) (zB2 hx) sA sB (by lia) (by lia) hf hl fun m st' S F=>?_)
  refine wpS_bind (wpS_modify ?_)
  have:=last m st' S F
  obtain ⟨g',rfl⟩:=S
  exact wpS_bind (wpS_get (wpS_pure this))
 ·refine wpS_bind (yn6 hL rfl (zB2 hx) (zB2 hx) sA sB (by lia) (by lia) hf hl fun m st' S F=>?_)
  refine wpS_bind (wpS_modify ?_)
  have:=last m st' S F
  obtain ⟨g',rfl⟩:=S
  exact wpS_bind (wpS_get (wpS_pure this))
end
open PySem PyProof.Rows
theorem yE1 {n:Nat} (h2:2≤n) (h:n<128):∃ m,minRun' n n 0=m∧1≤m∧m≤n∧n≤2 * m:=by
 obtain ⟨f,rfl⟩:∃ f,n=f+2:=⟨n - 2,by lia⟩
 rw [minRun'_succ]
 by_cases c:f+2<64
 ·rw [if_pos c];exact ⟨_,rfl,by lia,by lia,by lia⟩
 ·rw [if_neg c,minRun'_succ,if_pos (by lia)]
  refine ⟨_,rfl,?_,?_,?_⟩
  all_goals
   rw [Nat.max_eq_right (Nat.zero_le _)]
   lia
section
variable {prog:Program} {w:World} {A:Around} {E:Value→Shared→Prop} {s:Shared} {κ:KK2} {kd:SortKind} {z:Array Keyed}
inductive Ph (κ:KK2) (kd:SortKind) (z:Array Keyed) (mr:Nat):Nat→Nat→SortSt→Prop where
 | none {st:SortSt} (b:SB kd z #[] st):Ph κ kd z mr 0 0 st
 | one {st:SortSt} {n:Nat} (b:SB kd z #[(0,n,0)] st) (h:mr≤n) (l:n<z.size) (s1:Seg κ (arrOf st) 0 n):Ph κ kd z mr 1 n st
 | all {st:SortSt} {x:Nat} {P:Array (Nat×Nat×Nat)} (b:SB kd z P st) (p:P.size=1) (s1:Seg κ (arrOf st) 0 z.size) (hx:1≤x):Ph κ kd z mr x z.size st
 | two {st:SortSt} {x n p1:Nat} (b:SB kd z #[(0,n,p1),(n,z.size - n,0)] st) (h:0<n) (l:n<z.size) (s1:Seg κ (arrOf st) 0 n) (s2:Seg κ (arrOf st) n (z.size - n)) (hx:2≤x):Ph κ kd z mr x z.size st
theorem Ph.first {mr n:Nat} {st:SortSt} (b:SB kd z #[] st) (g:Seg κ (arrOf st) 0 n) (h:mr≤n∨n=z.size) (hn:n≤z.size):Ph κ kd z mr 1 n (setPending st ((pendingOf st).push (0,n,0))):=by
 have e:(pendingOf st).push (0,n,0)=#[(0,n,0)]:=by rw [b.pd];rfl
 have B:SB kd z #[(0,n,0)] (setPending st ((pendingOf st).push (0,n,0))):=⟨b.perm,b.kind,b.ok,e⟩
 by_cases c:n=z.size
 ·subst c
  exact .all B rfl g (Nat.le_refl _)
 ·exact .one B (by lia) (by lia) g
theorem Seg.low {x y:Array Keyed} {lo n:Nat} (h:Seg κ x 0 n) (l:Low lo x y) (hn:n≤lo):Seg κ y 0 n:=fun i j u v=>by
 have:=h i j u v
 rw [Nat.zero_add,Nat.zero_add] at this ⊢
 rw [KK_congr (l i (by lia)),KK_congr (l j (by lia))]
 exact this
theorem Ph.fin {mr x lo:Nat} {st:SortSt} (p:Ph κ kd z mr x lo st) (h2:2≤z.size) (hx:z.size≤x):lo=z.size∧1≤x:=by
 cases p with
 | none b=>lia
 | one b h l s1=>lia
 | all b p s1 hx'=>exact ⟨rfl,hx'⟩
 | two b h l s1 s2 hx'=>exact ⟨rfl,by lia⟩
theorem Ph.snd {mr n m pw:Nat} {st:SortSt} (b:SB kd z #[(0,n,0)] st) (h1:0<n) (l:n<z.size) (s1:Seg κ (arrOf st) 0 n) (s2:Seg κ (arrOf st) n m) (hm:m=z.size - n) {st2:SortSt}
  (e:st2=setPending st (((pendingOf st).modify ((pendingOf st).size - 1) fun x=>(x.1,x.2.1,pw)).push (n,m,0))):Ph κ kd z mr (1+1) (n+m) st2:=by
 subst e hm
 have e:(((pendingOf st).modify ((pendingOf st).size - 1) fun x=>(x.1,x.2.1,pw)).push (n,z.size - n,0))=#[(0,n,pw),(n,z.size - n,0)]:=by
  rw [b.pd]
  simp [Array.modify,Array.modifyM]
 rw [show n+(z.size - n)=z.size by lia]
 exact .two ⟨b.perm,b.kind,b.ok,e⟩ h1 l s1 s2 (Nat.le_refl _)
theorem yV7 {st:SortSt} {Q:Unit→SortSt→Prop} (hL:zS1 prog w A s κ kd) (hz:KeysOf κ z) (hB:SB kd z #[] st) (h2:2≤z.size) (h128:z.size<128)
  (h:∀ st',(arrOf st').Perm z→failedOf st'=none→Seg κ (arrOf st') 0 z.size→Q () st'):wpS (model prog w) A E s sortRuns' Q st:=by
 obtain ⟨mr,em,mr1,mr2,mr3⟩:=yE1 h2 h128
 rw [sortRuns'_eq]
 refine wpS_bind (wpS_get ?_)
 dsimp only
 rw [hB.sz,em]
 refine wpS_bind (wpS_mono (wpS_forRange (a:=0) (b:=z.size) (I:=fun x c st'=>∃ lo,c=(none,lo)∧Ph κ kd z mr x lo st')
  (Q:=fun c st'=>c=(none,z.size)∧∃ x,1≤x∧Ph κ kd z mr x z.size st') ?t ?f ⟨0,rfl,.none hB⟩) ?post)
 case f =>
  rintro c st' ⟨lo,rfl,Pp⟩
  obtain ⟨rfl,hx⟩:=Pp.fin h2 (by lia)
  exact ⟨rfl,_,hx,Pp⟩
 case t =>
  rintro x c st' _ x2 ⟨lo,rfl,Pp⟩
  dsimp only
  cases Pp with
  | all b p s1 hx' =>
   refine zf9 (fun _=>wpS_pure ⟨rfl,x,hx',.all b p s1 hx'⟩) fun c=>absurd (Nat.le_refl _) c
  | two b h l s1 s2 hx' =>
   refine zf9 (fun _=>wpS_pure ⟨rfl,x,by lia,.two b h l s1 s2 hx'⟩) fun c=>absurd (Nat.le_refl _) c
  | none b =>
   refine zf9 (fun c=>absurd c (by lia)) fun _=>?_
   refine wpS_bind (yQ0 hL hz (by lia) (by lia) b fun m st1 B1 m1 m2 g l=>?_)
   refine zf9 (fun c=>wpS_bind (wpS_lift (wpAny_rule ⟨rfl,wpS_bind (yY4 hL hz (by lia) (by lia) B1 g fun st2 B2 g2 l2=>zf9 (fun c=>absurd c (by decide)) fun _=>?_)⟩))) fun c=>?_
   ·refine wpS_bind (wpS_get ?_)
    rw [B2.pd]
    refine wpS_bind (wpS_modify (wpS_pure ⟨_,rfl,?_⟩))
    rw [Nat.zero_add,Nat.zero_add]
    exact Ph.first B2 g2 (by lia) (by lia)
   ·refine wpS_bind (wpS_get ?_)
    rw [B1.pd]
    refine wpS_bind (wpS_modify (wpS_pure ⟨_,rfl,?_⟩))
    rw [Nat.zero_add,Nat.zero_add]
    exact Ph.first B1 g (by lia) (by lia)
  | one b hm l s1 =>
   refine zf9 (fun c=>absurd c (by lia)) fun _=>?_
   refine wpS_bind (yQ0 hL hz (by lia) (by lia) b fun m st1 B1 m1 m2 g lw=>?_)
   refine zf9 (fun c=>wpS_bind (wpS_lift (wpAny_rule ⟨rfl,wpS_bind (yY4 hL hz (by lia) (by lia) B1 g fun st2 B2 g2 l2=>zf9 (fun c=>absurd c (by decide)) fun _=>?_)⟩))) fun c=>?_
   ·refine wpS_bind (wpS_get ?_)
    rw [B2.pd]
    refine wpS_bind (wpS_mono (wpS_forRange (a:=0) (b:=z.size) (I:=fun _ c st3=>c=(none,())∧st3=st2) (Q:=fun c st3=>c=(none,())∧st3=st2) ?_ (fun _ _ hh=>hh) ⟨rfl,rfl⟩) ?_)
    ·rintro y c st3 _ _ ⟨rfl,rfl⟩
     refine wpS_bind (wpS_get ?_)
     rw [B2.pd]
     exact wpS_pure ⟨rfl,rfl⟩
    ·rintro c st3 ⟨rfl,rfl⟩
     exact wpS_bind (wpS_modify (wpS_bind (wpS_modify (wpS_pure ⟨_,rfl,Ph.snd B2 (by lia) l (s1.low (lw.trans l2) (Nat.le_refl _)) g2 (by lia) rfl⟩))))
   ·refine wpS_bind (wpS_get ?_)
    rw [B1.pd]
    refine wpS_bind (wpS_mono (wpS_forRange (a:=0) (b:=z.size) (I:=fun _ c st3=>c=(none,())∧st3=st1) (Q:=fun c st3=>c=(none,())∧st3=st1) ?_ (fun _ _ hh=>hh) ⟨rfl,rfl⟩) ?_)
    ·rintro y c st3 _ _ ⟨rfl,rfl⟩
     refine wpS_bind (wpS_get ?_)
     rw [B1.pd]
     exact wpS_pure ⟨rfl,rfl⟩
    ·rintro c st3 ⟨rfl,rfl⟩
     exact wpS_bind (wpS_modify (wpS_bind (wpS_modify (wpS_pure ⟨_,rfl,Ph.snd B1 (by lia) l (s1.low lw (Nat.le_refl _)) g (by lia) rfl⟩))))
 case post =>
  rintro c st' ⟨rfl,x,hx,Pp⟩
  dsimp only
  have D:∀ {st'':SortSt} {P:Array (Nat×Nat×Nat)},SB kd z P st''→Seg κ (arrOf st'') 0 z.size→Q () st'':=fun b s1=>h _ b.perm b.ok s1
  refine wpS_bind (wpS_mono (wpS_forRange (a:=0) (b:=z.size)
   (I:=fun y c st2=>c=(none,())∧((∃ P,SB kd z P st2∧P.size=1∧Seg κ (arrOf st2) 0 z.size)∨(y=0∧∃ n p1,SB kd z #[(0,n,p1),(n,z.size - n,0)] st2∧0<n∧n<z.size∧Seg κ (arrOf st2) 0 n∧Seg κ (arrOf st2) n (z.size - n))))
   (Q:=fun c st2=>c=(none,())∧∃ P,SB kd z P st2∧Seg κ (arrOf st2) 0 z.size) ?t2 ?f2 ?i2) ?p2)
  case i2 =>
   generalize hq:z.size=q at Pp
   cases Pp with
   | none b=>lia
   | one b h l s1=>lia
   | all b p s1 hx'=>exact ⟨rfl,.inl ⟨_,b,p,s1⟩⟩
   | two b h l s1 s2 hx'=>exact ⟨rfl,.inr ⟨rfl,_,_,b,h,l,s1,s2⟩⟩
  case f2 =>
   rintro c st2 ⟨rfl,⟨P,b,p,s1⟩ | ⟨y0,_⟩⟩
   ·exact ⟨rfl,P,b,s1⟩
   ·lia
  case p2 =>
   rintro c st2 ⟨rfl,P,b,s1⟩
   exact wpS_pure (D b s1)
  case t2 =>
   rintro y c st2 _ _ ⟨rfl,⟨P,b,p,s1⟩ | ⟨rfl,n,p1,b,n1,n2,s1,s2⟩⟩
   ·refine wpS_bind (wpS_get ?_)
    rw [b.pd]
    exact zf9 (fun _=>wpS_pure ⟨rfl,P,b,s1⟩) fun c=>absurd (Nat.le_of_eq p) c
   ·refine wpS_bind (wpS_get ?_)
    rw [b.pd]
    refine zf9 (fun c=>absurd c (show ¬ 2≤1 by decide)) fun _=>?_
    refine wpS_bind (yp6 hL hz b n1 n2 s1 s2 fun P st3 b3 p3 s3=>?_)
    exact wpS_pure ⟨rfl,.inl ⟨P,b3,p3,s3⟩⟩
end
open PySem PyProof.Rows
noncomputable abbrev Row:=List (List Nat)
noncomputable def txs:List Value→Option Row
 | []=>some []
 | .str x _::r=>(txs r).map (x.cps.toList :: ·)
 | _=>none
noncomputable def zv3 (h:Heap):Value→Option Row
 | .ref a=>match h.get? a with
  | some o=>if o.cls=.type "tuple" then (match o.data with | .seq its _=>txs its.toList | _=>none) else none
  | none=>none
 | _=>none
theorem zC1 {h:Heap} {v:Value} {X:Row} (e:zv3 h v=some X):∃ a o its n,v=.ref a∧h.get? a=some o∧o.cls=.type "tuple" ∧ o.data=.seq its n∧txs its.toList=some X:=by
 cases v with
 | ref a =>
  unfold zv3 at e
  dsimp only at e
  cases ho:h.get? a with
  | none=>rw [ho] at e;cases e
  | some o =>
   rw [ho] at e
   dsimp only at e
   by_cases c:o.cls=.type "tuple"
   ·rw [if_pos c] at e
    cases hd:o.data with
    | seq its n=>rw [hd] at e;exact ⟨a,o,its,n,rfl,ho,c,hd,e⟩
    | _=>rw [hd] at e;cases e
   ·rw [if_neg c] at e;cases e
 | _=>cases e
@[reducible] noncomputable def rowKind (h:Heap):KK2 where
 α:=Row
 blt a b:=decide (a<b)
 irrefl a:=by simpa using List.lt_irrefl a
 trans a b c h1 h2:=by simp only [decide_eq_true_eq] at *;exact List.lt_trans h1 h2
 negTrans a b c h:=by
  simp only [decide_eq_true_eq] at *
  by_cases hab:a<b
  ·exact .inl hab
  ·exact .inr (List.lt_of_le_of_lt (List.not_lt.mp hab) h)
 total a b h1 h2:=by simp only [decide_eq_false_iff_not] at *;exact List.le_antisymm (List.not_lt.mp h2) (List.not_lt.mp h1)
 keyOf:=zv3 h
 dflt:=[]
theorem zx4 {v:Value} {r:List Value} {X:Row} (e:txs (v::r)=some X):∃ x t Y,v=.str x t∧txs r=some Y∧X=x.cps.toList::Y:=by
 cases v with
 | str x t =>
  unfold txs at e
  cases hr:txs r with
  | none=>rw [hr] at e;cases e
  | some Y=>rw [hr] at e;cases e;exact ⟨x,t,Y,rfl,rfl,rfl⟩
 | _=>cases e
theorem yk0:∀ {l:List Value} {X:Row},txs l=some X→X.length=l.length
 | [],_,e=>by cases e;rfl
 | v::r,_,e=>by
  obtain ⟨x,t,Y,rfl,h,rfl⟩:=zx4 e
  rw [List.length_cons,List.length_cons,yk0 h]
theorem yF9 {x y:Str}:x.cps.toList=y.cps.toList↔x=y:=by
 constructor
 ·intro h
  cases x;cases y
  simp only [Str.mk.injEq]
  exact Array.toList_inj.mp h
 ·rintro rfl;rfl
section
variable {prog:Program} {w:World} {A:Around} {E:Value→Shared→Prop} {s:Shared}
theorem yR7 {fin:Bool} {Q:Bool→Shared→Prop}:∀ (ps qs:List Value) (X Y:Row) (i:Nat),txs ps=some X→txs qs=some Y→fin=decide (ps.length<qs.length)→Q (decide (X<Y)) s→PySem.W.KatLex prog w A true fin Q (ps.zip qs) i s
 | [],qs,X,Y,i,h1,h2,hf,h=>by
  cases h1
  refine PySem.W.kat_nil ?_
  rw [hf]
  have:=yk0 h2
  cases Y with
  | nil=>rw [show decide (([]:List Value).length<qs.length)=decide (([]:Row)<[]) by simp at this;simp [← this]];exact h
  | cons y Y=>rw [show decide (([]:List Value).length<qs.length)=decide (([]:Row)<y::Y) by simp at this;simp [← this]];exact h
 | p::ps,[],X,Y,i,h1,h2,hf,h=>by
  cases h2
  refine PySem.W.kat_nil ?_
  rw [hf]
  obtain ⟨x,t,X',rfl,e1,rfl⟩:=zx4 h1
  have e:decide ((Value.str x t::ps).length<([]:List Value).length)=decide (x.cps.toList::X'<([]:Row)):=by simp
  rw [e];exact h
 | p::ps,q::qs,X,Y,i,h1,h2,hf,h=>by
  obtain ⟨x,t,X',rfl,e1,rfl⟩:=zx4 h1
  obtain ⟨y,u,Y',rfl,e2,rfl⟩:=zx4 h2
  refine PySem.W.kat_cons (wpAny_eqBool_str ?_)
  by_cases c:x=y
  ·subst c
   rw [decide_eq_true rfl]
   refine PySem.W.kat_yes (yR7 ps qs X' Y' (i+1) e1 e2 (by rw [hf];simp) ?_)
   have e:decide (x.cps.toList::X'<x.cps.toList::Y')=decide (X'<Y'):=by simp [List.cons_lt_cons_iff]
   rw [← e];exact h
  ·rw [decide_eq_false c]
   have c':x.cps.toList≠y.cps.toList:=fun e=>c (yF9.mp e)
   have e:decide (x.cps.toList::X'<y.cps.toList::Y')=decide (x.cps.toList<y.cps.toList):=by simp [List.cons_lt_cons_iff,c']
   rw [e] at h
   refine PySem.W.kat_no ?_
   by_cases ci:i=0
   ·subst ci
    exact oneLt_str h
   ·have:(true&&i==0)=false:=by simp [ci]
    rw [this]
    exact PySem.W.kat_one _ _ (lt_str h)
theorem yM9 {h0:Heap} (hk:∀ a o,h0.get? a=some o→o.cls=.type "tuple" → s.heap.get? a=some o):zS1 prog w A s (rowKind h0) (tuples' true):=by
 intro x y X Y E Q hx hy h
 obtain ⟨a,o,its,n,rfl,ho,hc,hd,e1⟩:=zC1 hx
 obtain ⟨b,p,jts,m,rfl,hp,hc',hd',e2⟩:=zC1 hy
 exact PySem.W.kat_lt (hk a o ho hc) hd (hk b p hp hc') hd' (yR7 _ _ X Y 0 e1 e2 (by simp) h)
end
open PySem PyProof.Rows
section
variable {prog:Program} {w:World} {A:Around} {E:Value→Shared→Prop} {s:Shared}
theorem zR5 {h:Heap}:∀ {vs:List Value} {Xs:List Row},vs.map (zv3 h)=Xs.map some→(∀ X∈Xs,X≠[])→∃ fs:List Value,PySem.W.KatTups h vs fs∧fs.length=vs.length∧∀ v∈fs,∃ x t,v=.str x t
 | [],[],_,_=>⟨[],PySem.W.KatTups.nil,rfl,fun _ hv=>by cases hv⟩
 | [],_::_,e,_=>by cases e
 | _::_,[],e,_=>by cases e
 | v::vs,X::Xs,e,hne=>by
  rw [List.map_cons,List.map_cons] at e
  injection e with e1 e2
  obtain ⟨fs,k,l,t⟩:=zR5 e2 fun Y hY=>hne Y (List.mem_cons_of_mem _ hY)
  obtain ⟨a,o,its,n,rfl,ho,hc,hd,ex⟩:=zC1 e1
  have hX:=hne X (by simp)
  cases hi:its.toList with
  | nil=>rw [hi] at ex;cases ex;exact absurd rfl hX
  | cons p r =>
   rw [hi] at ex
   obtain ⟨x,u,Y,rfl,_,_⟩:=zx4 ex
   refine ⟨.str x u::fs,PySem.W.KatTups.cons ho hc hd ?_ k,by simp [l],fun q hq=>?_⟩
   ·rw [← Array.getElem?_toList,hi];rfl
   ·rcases List.mem_cons.mp hq with rfl | hq
    ·exact ⟨x,u,rfl⟩
    ·exact t q hq
theorem yp8 {h h':Heap} (k:∀ a o,h.get? a=some o→o.cls=.type "tuple" → h'.get? a=some o):∀ {vs fs:List Value},PySem.W.KatTups h vs fs→PySem.W.KatTups h' vs fs
 | [],[],_=>PySem.W.KatTups.nil
 | v::vs,f::fs,⟨⟨a,o,xs,n,e1,e2,e3,e4,e5⟩,t⟩=>⟨⟨a,o,xs,n,e1,k a o e2 e3,e3,e4,e5⟩,yp8 k t⟩
 | [],_::_,t=>t.elim
 | _::_,[],t=>t.elim
theorem zH6 {a:Addr} {vs:List Value} {Xs:List Row} {n:Nat} {R:PySem.Fin→Shared→Prop} (ho:s.heap.get? a=some (seqObj "list" vs.toArray n)) (hX:vs.map (zv3 s.heap)=Xs.map some) (hne:∀ X∈Xs,X≠[]) (h128:vs.length<128)
  (h:∀ st':SortSt,(arrOf st').Perm (pairsOf vs)→Seg (rowKind s.heap) (arrOf st') 0 (pairsOf vs).size→R (.done (.ret .none)) { s with heap:=sortedHeap s.heap a vs ((arrOf st').map (·.2)) }) :
  wpAny (model prog w) A (Builtin.«list.sort» ⟨[.ref a],[]⟩) R E s:=by
 have hla:a<s.heap.objs.size:=Heap.lt_size ho
 have hsl:sizeLine=16777216:=by decide
 have z1:vs.toArray.size≤sizeLine:=by rw [List.size_toArray];lia
 have up:∀ b o,s.heap.get? b=some o→o.cls=.type "tuple" → (((s.heap.update a (Obj.mapSeq fun _=>#[])).push (seqObj "tuple" vs.toArray 0)).push (seqObj "list" #[] 0)).get? b=some o:=fun b o e c=>by
  refine Heap.get?_push_of_some _ (Heap.get?_push_of_some _ ?_)
  rw [Heap.get?_update_other]
  ·exact e
  ·rintro rfl
   rw [ho] at e;cases e
   have c:Value.type "list" = .type "tuple" := c
   injection c with c
   exact absurd c (by decide)
 rw [list_sort_plain]
 refine wpAny_bind (listItems_at ho rfl ?_)
 refine wpAny_bind (listUpdate_at ho rfl ?_ z1 (Nat.zero_le _))
 obtain ⟨e1,ho1⟩:∃ e1,(s.heap.update a (Obj.mapSeq fun _=>#[])).get? a=some (seqObj "list" #[] e1):=⟨_,get?_update_seq ho fun _=>#[]⟩
 refine wpAny_bind (seqEpoch_at ho1 rfl ?_)
 refine wpAny_bind (wpAny_newTuple ?_ (by rw [Array.length_toList];exact z1))
 refine wpAny_bind (wpAny_newList ?_ (hsz:=Nat.zero_le _))
 refine wpAny_holding ?_
 have ho6:=Heap.get?_push_of_some (seqObj "list" #[] 0) (Heap.get?_push_of_some (seqObj "tuple" vs.toArray 0) ho1)
 show wpAny (model prog w) A _ R E { s with heap:=((s.heap.update a (Obj.mapSeq fun _=>#[])).push (seqObj "tuple" vs.toArray 0)).push (seqObj "list" #[] 0) }
 generalize hh:((s.heap.update a (Obj.mapSeq fun _=>#[])).push (seqObj "tuple" vs.toArray 0)).push (seqObj "list" #[] 0)=h6 at ho6 up
 have hl:vs.toArray.size=vs.length:=by simp
 have fin:∀ st':SortSt,(arrOf st').Perm (pairsOf vs)→failedOf st'=none→Seg (rowKind s.heap) (arrOf st') 0 (pairsOf vs).size →
   wpAny (model prog w) A (do
    let t ← seqEpoch a
    Builtin.List.listUpdate (.ref a) fun _=>(arrOf st').map (·.2)
    if let some e:=failedOf st' then rule "list.sort.comparison-raised"; throw e
    if (t != e1)=true then rule "list.sort.modified"; raiseError "ValueError" "list modified during sort"
    ret .none) R E { s with heap:=h6 }:=by
  intro st' p f g
  refine wpAny_bind (seqEpoch_at ho6 rfl ?_)
  refine wpAny_bind (listUpdate_at ho6 rfl ?_ (Nat.zero_le _) (by rw [Array.size_map,p.size_eq,pairsOf_size];lia))
  rw [f]
  simp only [bne_self_eq_false,Bool.false_eq_true,if_false]
  have:=h st' p g
  unfold sortedHeap at this
  rw [hh] at this
  exact wpAny_pure this
 by_cases c:vs.toArray.size<2
 ·rw [if_pos c,if_pos c]
  refine wpAny_bind (wpAny_pure ?_)
  refine wpAny_bind ?_
  show wpAny _ _ (pure ((),_)) _ _ _
  refine wpAny_pure ?_
  exact fin (SortSt.mk' general' (vs.toArray.zip vs.toArray) #[] 7 none) (Array.Perm.refl _) rfl (Seg.one (by rw [pairsOf_size];lia))
 ·rw [if_neg c,if_neg c]
  obtain ⟨fs,kt,fl,ft⟩:=zR5 hX hne
  refine wpAny_bind (PySem.W.kat_kind (T:=.type "str") (s:={ s with heap:=h6 }) (yp8 up kt) (by lia) (fun v hv=>?_) (by decide) ?_)
  ·obtain ⟨x,t,rfl⟩:=ft v hv
   exact PySem.W.Looks.now
  have hz:KeysOf (rowKind s.heap) (pairsOf vs):=fun p hp=>by
   rw [pairsOf_toList] at hp
   have hm:zv3 s.heap p.1∈Xs.map some:=by rw [← hX];exact List.mem_map_of_mem (List.of_mem_zip hp).1
   obtain ⟨X,_,e⟩:=List.mem_map.mp hm
   exact ⟨X,e.symm⟩
  refine wpAny_bind (wpAny_mono (yV7 (κ:=rowKind s.heap) (kd:=tuples' true) (z:=pairsOf vs) (st:=SortSt.mk' (tuples' true) (vs.toArray.zip vs.toArray) #[] 7 none) (E:=E)
   (Q:=fun _ st'=>(arrOf st').Perm (pairsOf vs)∧failedOf st'=none∧Seg (rowKind s.heap) (arrOf st') 0 (pairsOf vs).size) (yM9 up) hz ⟨Array.Perm.refl _,rfl,rfl,rfl⟩ (by rw [pairsOf_size];lia) (by rw [pairsOf_size];exact h128) fun st' a1 a2 a3=>⟨a1,a2,a3⟩) ?_ fun _ _ e=>e)
  rintro ⟨⟨⟩,st'⟩ s' ⟨rfl,p,f,g⟩
  exact fin st' p f g
theorem yf8 {h h':Heap} {v:Value} {X:Row} (k:∀ b o,h.get? b=some o→o.cls=.type "tuple" → h'.get? b=some o) (e:zv3 h v=some X):zv3 h' v=some X:=by
 obtain ⟨a,o,its,n,rfl,ho,hc,hd,ex⟩:=zC1 e
 unfold zv3
 dsimp only
 rw [k a o ho hc]
 dsimp only
 rw [if_pos hc,hd]
 exact ex
theorem yp4 {h h':Heap} (k:∀ b o,h.get? b=some o→o.cls=.type "tuple" → h'.get? b=some o):∀ {vs:List Value} {Xs:List Row},vs.map (zv3 h)=Xs.map some→vs.map (zv3 h')=Xs.map some
 | [],[],_=>rfl
 | [],_::_,e=>by cases e
 | _::_,[],e=>by cases e
 | v::vs,X::Xs,e=>by
  rw [List.map_cons,List.map_cons] at e ⊢
  injection e with e1 e2
  rw [yf8 k e1,yp4 k e2]
theorem yv5 {h:Heap} {vs:List Value} {Xs:List Row} {st:SortSt} (hX:vs.map (zv3 h)=Xs.map some) (p:(arrOf st).Perm (pairsOf vs)) (g:Seg (rowKind h) (arrOf st) 0 (pairsOf vs).size) :
  ∃ Ys:List Row,((arrOf st).map (·.2)).toList.map (zv3 h)=Ys.map some∧Ys.Perm Xs∧Ys.Pairwise (fun a b=>¬ b<a)∧((arrOf st).map (·.2)).toList.Perm vs:=by
 have pl:=Array.perm_iff_toList_perm.mp p
 rw [pairsOf_toList] at pl
 have hzz:vs.zip vs=vs.map fun v=>(v,v):=by
  clear hX p g pl
  induction vs with
  | nil=>rfl
  | cons v r ih=>rw [List.zip_cons_cons,List.map_cons,ih]
 rw [hzz] at pl
 have sd:Sd (rowKind h) (arrOf st).toList:=by
  refine Seg.sd ?_
  rw [p.size_eq];exact g
 have po:((arrOf st).map (·.2)).toList.Perm vs:=by
  rw [Array.toList_map]
  have:=pl.map (·.2)
  rw [List.map_map] at this
  refine this.trans (List.Perm.of_eq ?_)
  exact List.map_id' vs
 have hXs:Xs=vs.map fun v=>(zv3 h v).getD []:=by
  have:=congrArg (List.map fun o:Option Row=>o.getD []) hX
  rw [List.map_map,List.map_map] at this
  exact ((List.map_id' Xs).symm.trans this.symm)
 refine ⟨((arrOf st).map (·.2)).toList.map fun v=>(zv3 h v).getD [],?_,?_,?_,po⟩
 ·rw [List.map_map]
  refine List.map_congr_left fun v hv=>?_
  have hm:zv3 h v∈Xs.map some:=by rw [← hX];exact List.mem_map_of_mem (po.mem_iff.mp hv)
  obtain ⟨X,_,e⟩:=List.mem_map.mp hm
  show zv3 h v=some ((zv3 h v).getD [])
  rw [← e];rfl
 ·rw [hXs];exact po.map _
 ·rw [Array.toList_map,List.map_map,List.pairwise_map]
  refine List.Pairwise.imp_of_mem ?_ sd
  intro x y hx hy hxy
  obtain ⟨u,_,rfl⟩:=List.mem_map.mp (pl.mem_iff.mp hx)
  obtain ⟨v,_,rfl⟩:=List.mem_map.mp (pl.mem_iff.mp hy)
  have hxy:decide ((zv3 h v).getD []<(zv3 h u).getD [])=false:=hxy
  exact of_decide_eq_false hxy
theorem sorted_rows {a:Addr} {o:Obj} {T:String} {vs:List Value} {Xs:List Row} {n:Nat} {Q:Value→Shared→Prop} (hT:T = "list" ∨ T = "tuple") (ho:s.heap.get? a=some o) (hc:o.cls=.type T) (hd:o.data=.seq vs.toArray n) (hX:vs.map (zv3 s.heap)=Xs.map some) (hne:∀ X∈Xs,X≠[]) (hvl:vs.length<128)
  (hQ:∀ (out:List Value) (Ys:List Row) (h1 h':Heap) (c:Nat),out.map (zv3 s.heap)=Ys.map some→Ys.Perm Xs→Ys.Pairwise (fun a b=>¬ b<a)→out.Perm vs→(∀ b o,s.heap.get? b=some o→h1.get? b=some o)→h'.get? h1.objs.size=some (seqObj "list" out.toArray c)→(∀ b o,h1.get? b=some o→h'.get? b=some o)→Q (.ref h1.objs.size) { s with heap:=h' }) :
  wpAny (model prog w) A (call (.builtin "sorted") [.ref a]) Q E s:=by
 have hsl:sizeLine=16777216:=by decide
 refine Calls.call_function_entry kind_sorted plain_sorted entry_sorted (args_sorted1 _) ?_
 unfold Builtin.«sorted»
 refine wpAny_bind (m:=checkCount "sorted" 1 1 _) (wpAny_pure ?_)
 refine wpAny_bind (wpAny_collect_seq a hT ho hc hd (fun h1 hk=>?_) (by simp only [List.size_toArray];lia))
 rw [show vs.toArray.toList=vs by simp]
 refine wpAny_bind (wpAny_newList ?_ (hsz:=by lia))
 generalize hob:({ cls:=.type "list", data:=.seq vs.toArray }:Obj)=ob
 have hg:(h1.push ob).get? h1.objs.size=some ob:=Heap.get?_push_size _ (by subst hob;rfl)
 subst hob
 have up:∀ b o,s.heap.get? b=some o→o.cls=.type "tuple" → (h1.push (seqObj "list" vs.toArray 0)).get? b=some o:=fun b o e _=>Heap.get?_push_of_some _ (hk b o e)
 have hX':=yp4 up hX
 refine wpAny_bind (wpAny_holding (wpAny_call_entry slot_list_sort ⟨_,hg,rfl⟩ entry_list_sort (zH6 (s:={ s with heap:=h1.push _ }) hg hX' hne hvl fun st a1 a2=>⟨_,rfl,?_⟩) (args_list_sort _)))
 refine wpAny_pure ⟨_,rfl,?_⟩
 obtain ⟨Ys,b1,b2,b3,b4⟩:=yv5 hX' a1 a2
 have b1':((arrOf st).map (·.2)).toList.map (zv3 s.heap)=Ys.map some:=by
  rw [← b1]
  refine List.map_congr_left fun v hv=>?_
  have hm:zv3 s.heap v∈Xs.map some:=by rw [← hX];exact List.mem_map_of_mem (b4.mem_iff.mp hv)
  obtain ⟨X,_,e⟩:=List.mem_map.mp hm
  rw [← e,yf8 up e.symm]
 generalize Array.map (fun x=>x.2) (arrOf st)=out at b1 b1' b4 ⊢
 obtain ⟨e1,g1⟩:∃ e1,((h1.push (seqObj "list" vs.toArray 0)).update h1.objs.size (Obj.mapSeq fun _=>#[])).get? h1.objs.size=some (seqObj "list" #[] e1):=⟨_,get?_update_seq hg fun _=>#[]⟩
 have g2:=get?_update_seq (Heap.get?_push_of_some (seqObj "list" #[] 0) (Heap.get?_push_of_some (seqObj "tuple" vs.toArray 0) g1)) fun _=>out
 refine hQ out.toList Ys h1 _ _ b1' b2 b3 b4 hk g2 fun b o e=>?_
 have hne':h1.objs.size≠b:=Nat.ne_of_gt (Heap.lt_size e)
 show (sortedHeap _ _ _ _).get? b=some o
 unfold sortedHeap
 rw [Heap.get?_update_other _ _ hne']
 refine Heap.get?_push_of_some _ (Heap.get?_push_of_some _ ?_)
 rw [Heap.get?_update_other _ _ hne']
 exact Heap.get?_push_of_some _ e
end
open PySem
section
variable {prog:Program} {w:World} {A:Around} {E:Value→Shared→Prop} {s:Shared}
end
open PySem
section
variable {prog:Program} {w:World} {A:Around} {E:Value→Shared→Prop} {s:Shared}
end
open PySem
section
variable {prog:Program} {w:World} {A:Around} {E:Value→Shared→Prop} {s:Shared}
end
open PySem
section
variable {prog:Program} {w:World} {A:Around} {E:Value→Shared→Prop} {s:Shared}
end
open PySem
section
variable {prog:Program} {w:World} {A:Around} {E:Value→Shared→Prop} {s:Shared}
end
open PySem
section
variable {prog:Program} {w:World} {A:Around} {E:Value→Shared→Prop} {s:Shared}
end
open PySem
section
variable {prog:Program} {w:World} {A:Around} {E:Value→Shared→Prop} {s:Shared}
variable {K:Type} [DecidableEq K] {knd:KeyKind prog w K}
end
open PySem L2 PySem.SeqAt PyProof.Rows
section
variable {prog:Program} {w:World} {A:Around} {E:Value→Shared→Prop} {s:Shared}
end
section
variable {X:Cx} {pins:List (Addr×Obj)} {σ:L2.St} {H:Hp} {s:Shared}
end
open PySem L2 PySem.SeqAt PyProof.Rows
section
variable {X:Cx} {C:zb7} {e:Expr} {es elts:List Expr} {x1:Nat} {tpos pos p:Pos} {ta:TA} {irs:List E}
end
open PySem L2 PySem.SeqAt PyProof.Rows
section
variable {X:Cx} {C:zb7} {pos:Pos}
end
theorem yx9 {fd:FuncData} {ps:List Str} (h:∀ a,bindArgs fd ⟨[a],[]⟩=pure (ps.zip [a])):∀ us:List Value,us.length=1→bindArgs fd ⟨us,[]⟩=pure (ps.zip us)
 | [a],_=>h a
theorem yq7 {fd:FuncData} {ps:List Str} (h:∀ a b,bindArgs fd ⟨[a,b],[]⟩=pure (ps.zip [a,b])):∀ us:List Value,us.length=2→bindArgs fd ⟨us,[]⟩=pure (ps.zip us)
 | [a,b],_=>h a b
theorem len3 {fd:FuncData} {ps:List Str} (h:∀ a b c,bindArgs fd ⟨[a,b,c],[]⟩=pure (ps.zip [a,b,c])):∀ us:List Value,us.length=3→bindArgs fd ⟨us,[]⟩=pure (ps.zip us)
 | [a,b,c],_=>h a b c
open PySem L2 PySem.SeqAt PyProof.Rows
section
variable {X:Cx} {pins:List (Addr×Obj)} {σ:L2.St} {H:Hp} {s:Shared} {scope:Scope} {N:List Str} {cl:List (Str×Addr)} {fp:List Addr} {caps:List Nat}
end
section
variable {X:Cx} {elt iter tg:Expr} {ifs:List Expr} {scope:Scope} {pos:Pos} {N:List Str} {caps:List Nat} {n:Nat} {wi:TI} {g:TG} {tc:TT} {te:TE}
end
section
variable {X:Cx} {C:zb7} {elt iter tg:Expr} {ifs:List Expr} {ielt:E} {it:It} {t:Tg} {scope:Scope} {pos:Pos} {N:List Str} {caps:List Nat} {n:Nat}
end
open PySem L2 PySem.SeqAt PyProof.Rows
section
variable {prog:Program} {w:World} {A:Around} {E:Value→Shared→Prop}
end
section
variable {X:Cx} {C:zb7} {W:Nat} {pos:Pos}
end
open PySem L2 PySem.SeqAt PyProof.Rows
theorem zX2:∀ a b:List Nat,strLt a b=PySem.Spec.ltCps a b
 | [],[]=>by rw [strLt];rfl
 | [],_::_=>by rw [strLt];rfl
 | _::_,[]=>by rw [strLt];rfl
 | x::r,y::s=>by
  rw [strLt,zX2 r s]
  simp only [PySem.Spec.ltCps]
  by_cases c:x<y
  ·simp [c]
  ·by_cases c2:y<x
   ·simp [c,c2];lia
   ·have:x=y:=by lia
    subst this
    simp
theorem zQ2:∀ {p:Str} {l:List Str},risingS p l=true→∀ x∈l,strLt x.cps.toList p.cps.toList=false
 | p,[],_,x,hx=>by cases hx
 | p,y::r,h,x,hx=>by
  rw [risingS,Bool.and_eq_true,Bool.not_eq_true',← zX2] at h
  rcases List.mem_cons.mp hx with rfl | hx
  ·exact h.1
  ·have h2:=zQ2 h.2 x hx
   cases c:strLt x.cps.toList p.cps.toList with
   | false=>rfl
   | true =>
    exfalso
    cases c2:strLt p.cps.toList y.cps.toList with
    | true=>have:=zB0 c c2;rw [h2] at this;cases this
    | false=>have e:=zF2 h.1 c2;rw [e,c] at h2;cases h2
section
variable {X:Cx} {C:zb7} {e:Expr} {ie:E} {pos p pos' p':Pos}
theorem ya7:∀ {its:List Value} {ns:List Str},StrsAre its ns→zg6 (ns.map V.str) its
 | _,_,.nil=>.nil
 | _,_,.cons x t h=>.cons ⟨t,rfl⟩ (ya7 h)
theorem zY9 {K:Frag} {H:Hp} {lv:Addr→Prop}:∀ {ls:List (List Nat)} {vs:List V},RPs K H lv (ls.map .str) vs→∀ c∈ls,c.length≤sizeLine
 | [],vs,h,c,hc=>by cases hc
 | b::r,vs,h,c,hc=>by
  rw [List.map_cons,RPs] at h
  obtain ⟨v,vr,rfl,h1,h2⟩:=h
  rw [RP] at h1
  rcases List.mem_cons.mp hc with rfl | hc
  ·exact h1.2
  ·exact zY9 h2 c hc
theorem zP3 {K:Frag} {H:Hp} {lv:Addr→Prop}:∀ {ls:List (List Nat)},(∀ c∈ls,c.length≤sizeLine)→RPs K H lv (ls.map .str) (ls.map fun c=>V.str (txt c))
 | [],_=>by rw [List.map_nil,RPs];rfl
 | n::r,h=>by
  rw [List.map_cons,RPs]
  exact ⟨_,_,rfl,by rw [RP];exact ⟨rfl,h n (by simp)⟩,zP3 fun c hc=>h c (List.mem_cons_of_mem _ hc)⟩
end
open PySem L2 PySem.SeqAt PyProof.Rows
section
variable {X:Cx} {C:zb7} {e:Expr} {es elts:List Expr} {x1:Nat} {tpos pos p:Pos} {ia ib:E}
end
section
variable {X:Cx} {PR:List FD} {W d k:Nat} {pos p:Pos}
end
open PySem L2 PySem.SeqAt PyProof.Rows
section
variable {X:Cx} {C:zb7} {e:Expr} {es elts:List Expr} {x1:Nat} {tpos pos p:Pos} {ta:TA} {ia:E}
end
open PySem L2 PySem.SeqAt PyProof.Rows
theorem yn0:∀ {l:List PV} {ls:List Row},rowsOf l=some ls→l=ls.map zh1∧∀ X∈ls,X≠[]
 | [],ls,e=>by cases e;exact ⟨rfl,fun X h=>by cases h⟩
 | x::l,ls,e=>by
  cases x with
  | tup xs =>
   rw [rowsOf] at e
   cases hs:zp4 xs with
   | none=>rw [hs] at e;cases e
   | some r =>
    rw [hs] at e
    cases r with
    | nil=>cases e
    | cons y ys =>
     dsimp only at e
     cases hr:rowsOf l with
     | none=>rw [hr] at e;cases e
     | some q =>
      rw [hr] at e
      cases e
      obtain ⟨h1,h2⟩:=yn0 hr
      have:=zT0 hs
      subst this h1
      refine ⟨rfl,fun X hX=>?_⟩
      rcases List.mem_cons.mp hX with rfl | hX
      ·simp
      ·exact h2 X hX
  | _=>cases e
theorem zZ2:∀ {X:Row} {its:List Value},zg6 (X.map fun c=>V.str (txt c)) its→txs its=some X
 | [],_,.nil=>rfl
 | c::X,_,.cons r t=>by
  obtain ⟨u,rfl⟩:=(show ∃ u,_=Value.str (txt c) u from r)
  rw [txs,zZ2 t]
  simp [txt]
section
variable {X:Cx} {pins:List (Addr×Obj)} {σ:L2.St} {H:Hp} {s:Shared} {lv:Addr→Prop}
theorem yM6 (I:Inv X pins σ H s) {r:Row} {v:V} {u:Value} (h:RP X.K H lv (zh1 r) v) (ru:RelV v u):∃ b,u=.ref b∧v=.ref b∧zv3 s.heap u=some r:=by
 unfold zh1 at h
 rw [RP] at h
 obtain ⟨b,us,rfl,h1,h2⟩:=h
 have e:=zK3 h2
 subst e
 obtain rfl:=(show u=Value.ref b from ru)
 obtain ⟨its,rv,⟨o,ho,hc,n,hd⟩,_⟩:=I.tuple h1
 refine ⟨b,rfl,rfl,?_⟩
 unfold zv3
 dsimp only
 rw [ho]
 dsimp only
 rw [if_pos hc,hd]
 exact zZ2 rv
theorem yq2 (I:Inv X pins σ H s):∀ {ls:List Row} {vs:List V} {its:List Value},RPs X.K H lv (ls.map zh1) vs→zg6 vs its→its.map (zv3 s.heap)=ls.map some∧∀ u∈its,∃ b r,u=.ref b∧zv3 s.heap u=some r∧RP X.K H lv (zh1 r) (.ref b)
 | [],vs,its,h,rv=>by
  rw [List.map_nil,RPs] at h
  subst h
  cases rv
  exact ⟨rfl,fun u hu=>by cases hu⟩
 | r::ls,vs,its,h,rv=>by
  rw [List.map_cons,RPs] at h
  obtain ⟨v,wr,rfl,h1,h2⟩:=h
  cases rv with
  | cons ra rt =>
   obtain ⟨b,rfl,rfl,e⟩:=yM6 I h1 ra
   obtain ⟨a1,a2⟩:=yq2 I h2 rt
   refine ⟨by rw [List.map_cons,List.map_cons,e,a1],fun u hu=>?_⟩
   rcases List.mem_cons.mp hu with rfl | hu
   ·exact ⟨b,r,rfl,e,h1⟩
   ·exact a2 u hu
theorem zP8 {h:Heap}:∀ {out:List Value} {Ys:List Row},out.map (zv3 h)=Ys.map some→(∀ u∈out,∃ b r,u=.ref b∧zv3 h u=some r∧RP X.K H lv (zh1 r) (.ref b))→∃ ws:List V,zg6 ws out∧RPs X.K H lv (Ys.map zh1) ws
 | [],[],_,_=>⟨[],.nil,by rw [List.map_nil,RPs]⟩
 | [],_::_,e,_=>by cases e
 | _::_,[],e,_=>by cases e
 | u::out,Y::Ys,e,hu=>by
  rw [List.map_cons,List.map_cons] at e
  injection e with e1 e2
  obtain ⟨ws,w1,w2⟩:=zP8 e2 fun q hq=>hu q (List.mem_cons_of_mem _ hq)
  obtain ⟨b,r,rfl,e3,rp⟩:=hu u (by simp)
  rw [e1] at e3
  cases e3
  refine ⟨.ref b::ws,.cons rfl w1,?_⟩
  rw [List.map_cons,RPs]
  exact ⟨_,_,rfl,rp,w2⟩
theorem zA0 {α:Al} {st:za6} {ls:List Row} {Q:V→Hp→Prop} {a:Addr} {vs:List V} {its:List Value} {T:String} {o:Obj} {n:Nat} (I:Inv X pins σ H s) (r:RSt X.K α st H) (hne:∀ x∈ls,x≠[]) (c:ls.length<128)
  (hT:T = "list" ∨ T = "tuple") (ho:s.heap.get? a=some o) (hc:o.cls=.type T) (hd:o.data=.seq its.toArray n) (r1:zg6 vs its) (h2:RPs X.K H (zf1 α st) (ls.map zh1) vs)
  (q:∀ w H',zj0 H H'→RP X.K H' (zf1 α st) (.lst ((ls.foldl (fun d i=>yb1 i d) []).map zh1)) w→Q w H') :
  wpAny (model X.prog X.w) X.A (call (.builtin "sorted") [.ref a]) (fun u s1=>∃ v H1,Inv X pins σ H1 s1∧RelV v u∧Q v H1) X.xe s:=by
 obtain ⟨hX,hall⟩:=yq2 I h2 r1
 have hil:its.length=ls.length:=by
  have:=congrArg List.length hX
  simpa using this
 refine sorted_rows hT ho hc hd hX hne (by lia) fun out Ys h1 h' c2 o1 o2 o3 o4 k1 o5 o6=>?_
 obtain ⟨f1,f2⟩:=yM2 ls
 have em:Ys=ls.foldl (fun d i=>yb1 i d) []:=yb0 o3 f1 (o2.trans f2.symm)
 rw [← em] at q
 obtain ⟨ws,w1,w2⟩:=zP8 (X:=X) (H:=H) (lv:=zf1 α st) o1 fun u hu=>hall u (o4.mem_iff.mp hu)
 have hln:ws.length≤sizeLine:=by
  rw [w1.length,o4.length_eq,hil]
  exact Nat.le_trans (Nat.le_of_lt c) (by decide)
 have I1:Inv X pins σ H { s with heap:=h1 }:=I.kept (t':=s.toks) k1
 have I2:=I1.laid (a:=h1.objs.size) (o:=.lst ws) (h':=h') (t':=s.toks) o6 (Nat.le_refl _) (show zj6 X.prog X.w _ h' _ (.lst ws) from ⟨hln,out,c2,w1,o5⟩)
 have hf:H h1.objs.size=none:=I1.hok.fresh (Nat.le_refl _)
 have s1:zj0 H (upd H h1.objs.size (.lst ws)):=zf8 hf _
 refine ⟨.ref h1.objs.size,_,I2,rfl,q _ _ s1 ?_⟩
 rw [RP]
 exact ⟨_,_,rfl,SqL.of zd7,r.notlive hf,(Ext.of_same r s1).rps w2⟩
end
open PySem L2 PySem.SeqAt PyProof.Rows
theorem zI9:∀ {l:List Str},sortedS l=true→(l.map fun s=>s.cps.toList).Pairwise (fun a b=>strLt b a=false)
 | [],_=>.nil
 | x::r,h=>by
  have h:risingS x r=true:=h
  rw [List.map_cons,List.pairwise_cons]
  refine ⟨fun y hy=>?_,zI9 ?_⟩
  ·obtain ⟨s,hs,rfl⟩:=List.mem_map.mp hy
   exact zQ2 h s hs
  ·cases r with
   | nil=>rfl
   | cons y q =>
    rw [risingS,Bool.and_eq_true] at h
    exact h.2
theorem zR8 {ls:List (List Nat)} {ms:List Str} (hp:ms.Perm (ls.map txt)) (hs:sortedS ms=true):ms=(ls.foldl (fun d i=>zT8 i d) []).map txt:=by
 obtain ⟨a,b⟩:=yS1 ls
 have e:(ms.map fun s=>s.cps.toList)=ls.foldl (fun d i=>zT8 i d) []:=by
  refine zY4 (zI9 hs) a ?_
  refine (hp.map fun s:Str=>s.cps.toList).trans (List.Perm.trans ?_ b.symm)
  rw [List.map_map]
  have:((fun s:Str=>s.cps.toList)∘txt)=fun c=>c:=by
   funext c
   simp [txt]
  rw [this,List.map_id']
 rw [← e,List.map_map]
 have:(txt∘fun s:Str=>s.cps.toList)=fun s=>s:=by
  funext s
  simp [txt]
 rw [this,List.map_id']
section
variable {prog:Program} {w:World} {A:Around} {E:Value→Shared→Prop} {s:Shared}
theorem zV7 {a:Addr} {o:Obj} {T:String} {vs:List Value} {n:Nat} {ks:List Str} {Q:Value→Shared→Prop} (hT:T = "list" ∨ T = "tuple") (ho:s.heap.get? a=some o) (hc:o.cls=.type T) (hd:o.data=.seq vs.toArray n) (i1:StrsAre vs ks) (hvl:vs.length<64)
  (hQ:∀ (out:List Value) (ns:List Str) (h1 h':Heap) (c:Nat),StrsAre out ns→ns.Perm ks→sortedS ns=true→(∀ b o,s.heap.get? b=some o→h1.get? b=some o)→h'.get? h1.objs.size=some (seqObj "list" out.toArray c)→(∀ b o,h1.get? b=some o→h'.get? b=some o)→Q (.ref h1.objs.size) { s with heap:=h' }) :
  wpAny (model prog w) A (call (.builtin "sorted") [.ref a]) Q E s:=by
 refine Calls.call_function_entry kind_sorted plain_sorted entry_sorted (args_sorted1 _) ?_
 unfold Builtin.«sorted»
 refine wpAny_bind (m:=checkCount "sorted" 1 1 _) (wpAny_pure ?_)
 refine wpAny_bind (wpAny_collect_seq a hT ho hc hd (fun h1 hk=>?_) (by simp only [List.size_toArray];exact Nat.le_trans (Nat.le_of_lt hvl) (by decide)))
 rw [show vs.toArray.toList=vs by simp]
 refine wpAny_bind (wpAny_newList ?_ (hsz:=by have:sizeLine=sizeLine:=rfl;exact Nat.le_trans (Nat.le_of_lt hvl) (by decide)))
 generalize hob:({ cls:=.type "list", data:=.seq vs.toArray }:Obj)=ob
 have hg:(h1.push ob).get? h1.objs.size=some ob:=Heap.get?_push_size _ (by subst hob;rfl)
 subst hob
 refine wpAny_bind (wpAny_holding (wpAny_call_entry slot_list_sort ⟨_,hg,rfl⟩ entry_list_sort (list_sort_treeK (s:={ s with heap:=h1.push _ }) strKind_oneLt hg i1.keysOf (fun v₁ v₂ zp6 e=>keyKind_strs (by rw [← e];exact i1)) hvl fun st a1 a2=>⟨_,rfl,?_⟩) (args_list_sort _)))
 refine wpAny_pure ⟨_,rfl,?_⟩
 obtain ⟨ns,b1,b2,b3⟩:=sorted_out_str i1 a1 a2
 generalize Array.map (fun x=>x.2) (arrOf st)=out at b1 ⊢
 obtain ⟨e1,g1⟩:∃ e1,((h1.push (seqObj "list" vs.toArray 0)).update h1.objs.size (Obj.mapSeq fun _=>#[])).get? h1.objs.size=some (seqObj "list" #[] e1):=⟨_,get?_update_seq hg fun _=>#[]⟩
 have g2:=get?_update_seq (Heap.get?_push_of_some (seqObj "list" #[] 0) (Heap.get?_push_of_some (seqObj "tuple" vs.toArray 0) g1)) fun _=>out
 refine hQ out.toList ns h1 _ _ b1 b2 b3 hk g2 fun b o e=>?_
 have hb:b<h1.objs.size:=Heap.lt_size e
 have hne:h1.objs.size≠b:=Nat.ne_of_gt hb
 show (sortedHeap _ _ _ _).get? b=some o
 unfold sortedHeap
 rw [Heap.get?_update_other _ _ hne]
 refine Heap.get?_push_of_some _ (Heap.get?_push_of_some _ ?_)
 rw [Heap.get?_update_other _ _ hne]
 exact Heap.get?_push_of_some _ e
end
section
variable {X:Cx}
theorem yt0:zy0 X (.builtin "sorted") (f1 zy7):=by
 rintro pins s σ H ws us Q I rs ⟨α,st,xs,z,r,pr,hz,q⟩
 cases pr with
 | nil=>cases hz
 | cons h t =>
  cases t with
  | cons _ _=>cases hz
  | nil =>
   rename_i x w
   have hz:zy7 x=some z:=hz
   unfold zy7 at hz
   cases hi:zw0 x with
   | none=>rw [hi] at hz;cases hz
   | some l =>
    rw [hi] at hz
    dsimp only at hz
    cases hs:zp4 l with
    | none =>
     rw [hs] at hz
     dsimp only at hz
     cases hr:rowsOf l with
     | none=>rw [hr] at hz;cases hz
     | some ls =>
      rw [hr] at hz
      dsimp only at hz
      by_cases c:ls.length<128
      ·rw [if_pos c] at hz
       have hz2:=Option.some.inj hz
       obtain ⟨el,hne⟩:=yn0 hr
       subst el
       rw [← hz2] at q
       cases x with
       | lst l' =>
        cases hi
        obtain ⟨a,vs,rfl,h1,h2⟩:=h.lst
        cases rs with
        | cons ra rt =>
         cases rt
         obtain rfl:=(show _=Value.ref a from ra)
         obtain ⟨its,r1,pl,_⟩:=I.list h1
         obtain ⟨o,n,ho,hc,_,hd⟩:=id pl
         exact zA0 I r hne c (.inl rfl) ho hc hd r1 h2 q
       | tup l' =>
        cases hi
        obtain ⟨a,vs,rfl,h1,h2⟩:=h.tup
        cases rs with
        | cons ra rt =>
         cases rt
         obtain rfl:=(show _=Value.ref a from ra)
         obtain ⟨its,r1,pl,_⟩:=I.tuple h1
         obtain ⟨o,ho,hc,n,hd⟩:=id pl
         exact zA0 I r hne c (.inr rfl) ho hc hd r1 h2 q
       | _=>cases hi
      ·rw [if_neg c] at hz;cases hz
    | some ls =>
     rw [hs] at hz
     dsimp only at hz
     by_cases c:ls.length<64
     ·rw [if_pos c] at hz
      have hz2:=Option.some.inj hz
      have el:=zT0 hs
      subst el
      have fin:∀ (a:Addr) (vs:List V) (its:List Value) (T:String) (o:Obj) (n:Nat),(T = "list" ∨ T = "tuple")→s.heap.get? a=some o→o.cls=.type T→o.data=.seq its.toArray n→zg6 vs its→RPs X.K H (zf1 α st) (ls.map .str) vs →
        wpAny (model X.prog X.w) X.A (call (.builtin "sorted") [.ref a]) (fun u s1=>∃ v H1,Inv X pins σ H1 s1∧RelV v u∧Q v H1) X.xe s:=by
       intro a vs its T o n hT ho hc hd r1 h2
       have hlen:=zY9 h2
       have ev:=zK3 h2
       subst ev
       have sa:=zP0 r1
       have hil:its.length=ls.length:=by have:=HT.strs_len sa;simpa using this.symm
       refine zV7 hT ho hc hd sa (by lia) fun out ms h1 h' c2 o1 o2 o3 k1 o5 o6=>?_
       have em:=zR8 o2 o3
       have hml:ms.length≤64:=by rw [o2.length_eq,List.length_map];lia
       have fm:=(yS1 ls).2
       generalize ls.foldl (fun d i=>zT8 i d) []=fs at em fm hz2
       have hv:zg6 (fs.map fun c=>V.str (txt c)) out:=by
        have:=ya7 o1
        rwa [em,List.map_map] at this
       have hln:(fs.map fun c=>V.str (txt c)).length≤sizeLine:=by
        rw [em,List.length_map] at hml
        rw [List.length_map]
        exact Nat.le_trans hml (by decide)
       have I1:Inv X pins σ H { s with heap:=h1 }:=I.kept (t':=s.toks) k1
       have I2:=I1.laid (a:=h1.objs.size) (o:=.lst (fs.map fun c=>V.str (txt c))) (h':=h') (t':=s.toks) o6 (Nat.le_refl _) (show zj6 X.prog X.w _ h' _ (.lst (fs.map fun c=>V.str (txt c))) from ⟨hln,out,c2,hv,o5⟩)
       have hf:H h1.objs.size=none:=I1.hok.fresh (Nat.le_refl _)
       have s1:zj0 H (upd H h1.objs.size (.lst (fs.map fun c=>V.str (txt c)))):=zf8 hf _
       refine ⟨.ref h1.objs.size,_,I2,rfl,q _ _ s1 ?_⟩
       rw [← hz2,RP]
       exact ⟨_,_,rfl,SqL.of zd7,r.notlive hf,zP3 fun c hc=>hlen c (fm.mem_iff.mp hc)⟩
      cases x with
      | lst l' =>
       cases hi
       obtain ⟨a,vs,rfl,h1,h2⟩:=h.lst
       cases rs with
       | cons ra rt =>
        cases rt
        obtain rfl:=(show _=Value.ref a from ra)
        obtain ⟨its,r1,pl,_⟩:=I.list h1
        obtain ⟨o,n,ho,hc,_,hd⟩:=id pl
        exact fin a vs its "list" o n (.inl rfl) ho hc hd r1 h2
      | tup l' =>
       cases hi
       obtain ⟨a,vs,rfl,h1,h2⟩:=h.tup
       cases rs with
       | cons ra rt =>
        cases rt
        obtain rfl:=(show _=Value.ref a from ra)
        obtain ⟨its,r1,pl,_⟩:=I.tuple h1
        obtain ⟨o,ho,hc,n,hd⟩:=id pl
        exact fin a vs its "tuple" o n (.inr rfl) ho hc hd r1 h2
      | _=>cases hi
     ·rw [if_neg c] at hz;cases hz
end
open PySem L2 PySem.SeqAt PyProof.Rows
section
variable {X:Cx} {C:zb7} {o e f:Expr} {io ie iff:E} {apos cpos:Pos}
end
open PySem L2 PySem.SeqAt PyProof.Rows
section
variable {X:Cx} {C:zb7} {e e2:Expr} {pos pos' p p':Pos} {ta:TA} {ia ib:E}
end
open PySem L2 PySem.SeqAt PyProof.Rows
structure JE (X:Cx) (C:zb7) (e:Expr) (ir:E):Prop where
 h:SE X C e ir
structure JT (X:Cx) (C:zb7) (e:Expr) (ir:E):Prop where
 h:ST X C e ir
structure JW (X:Cx) (C:zb7) (e:Expr) (ir:E):Prop where
 h:SW X C e ir
structure JF (X:Cx) (C:zb7) (e:Expr) (ir:E):Prop where
 h:SF X C e ir
structure JA (X:Cx) (C:zb7) (e:List Expr) (ir:List E):Prop where
 h:SA X C e ir
structure JO (X:Cx) (C:zb7) (e:Option Expr) (ir:Option E):Prop where
 h:SO X C e ir
structure JI (X:Cx) (C:zb7) (tg iter:Expr) (it:It):Prop where
 h:SI X C tg iter it
structure JG (X:Cx) (tg:Expr) (t:Tg):Prop where
 h:SG X tg t
structure JGs (X:Cx) (es:List Expr) (is:List Nat):Prop where
 h:PGs X es (tGs X.K is)
structure JTs (X:Cx) (C:zb7) (ifs:List Expr) (cond:Option E):Prop where
 h:PTs X ifs (tTs X.K C cond)
structure JP (X:Cx) (C:zb7) (pos:Pos) (ks:List (Option Expr)) (vs:List Expr) (pks:List PV) (irs:List E):Prop where
 h:PPs X pos ks vs (prs X.K C pks irs)
structure JS (X:Cx) (C:zb7) (W:Nat) (b:Stmt) (ss:S):Prop where
 h:SS X C W b ss
structure JSs (X:Cx) (C:zb7) (W:Nat) (b:List Stmt) (ss:List S):Prop where
 h:SSs X C W b ss
section
variable {X:Cx} {C:zb7} {W:Nat} {a b c e o i value l elt iter tg:Expr} {es zp6 elts:List Expr} {x1:Nat} {tpos:Pos} {ia ib ic ie io ii iv ielt il:E} {irs:List E} {pos p p2 p' pos' apos cpos:Pos} {e2 f:Expr} {iff:E} {it:It} {t:Tg} {scope:Scope} {N:List Str} {caps:List Nat} {n:Nat} {ifs:List Expr} {name:Str} {id:String} {m:Mt} {is:List Nat} {PR:List FD} {d k:Nat}
theorem zG2 {j}:JE X C (.Constant .none j pos) (.const .non):=⟨yY0⟩
theorem zm3 {i j}:JE X C (.Constant (.bool i) j pos) (.const (.bl i)):=⟨xe5⟩
theorem za2 {i j}:JE X C (.Constant (.int i) j pos) (.const (.int i)):=⟨yS0⟩
theorem zb3 {x j} {cs:List Nat} (h:x=⟨cs.toArray⟩:=by decide +kernel) (hl:cs.length≤1000:=by decide):JE X C (.Constant (.str x) j pos) (.const (.str cs)):=⟨yW5 (h:=h) (hl:=hl)⟩
theorem jsv (i:Nat) {x:Str} {pos:Pos} (hN:X.N[i]?=some x:=by rfl) (hv:Vis X.env.scope x:=by trivial) (hd:(x==("__debug__" : Str))=false:=by decide) (hcd:(x==("__classdict__" : Str))=false:=by decide):JE X C (.Name x pos) (.var i):=⟨sv (i:=i) (hN:=hN) (hv:=hv) (hd:=hd) (hcd:=hcd)⟩
theorem zb2 {op:Operator} {g:PV→PV→Option PV} {ir:E} (ho:Op2 X (binaryOp op) g) (ha:JE X C a ia) (hb:JE X C b ib) (hi:∀ env st,evalE C ir env st=(evalE C ia env st).bind fun x st=>(evalE C ib env st).bind fun y st=>op2 g x y st):JE X C (.BinOp a op b pos) ir:=⟨xh4 (ho:=ho) (ha:=ha.h) (hb:=hb.h) (hi:=hi)⟩
theorem zJ7 (ha:JE X C a ia):JE X C (.UnaryOp .USub a pos) (.neg ia):=⟨yX4 (ha:=ha.h)⟩
theorem zl2 {op:CmpOp} {g:PV→PV→Option PV} {ir:E} (ho:Op2 X (compareOp op) g) (ha:JE X C a ia) (hb:JE X C b ib) (hm:behindInMarks op b=false) (hi:∀ env st,evalE C ir env st=(evalE C ia env st).bind fun x st=>(evalE C ib env st).bind fun y st=>op2 g x y st):JE X C (.Compare a [op] [b] pos) ir:=⟨yZ9 (ho:=ho) (ha:=ha.h) (hb:=hb.h) (hm:=hm) (hi:=hi)⟩
theorem zy4 {op} (h:JE X C a ia):JE X C (.BoolOp op [a] pos) ia:=⟨yR3 (h:=h.h)⟩
theorem zG4 (ha:JE X C a ia) (hb:JE X C (.BoolOp .And (b::zp6) pos) ib):JE X C (.BoolOp .And (a::b::zp6) pos) (.and ia ib):=⟨yY6 (ha:=ha.h) (hb:=hb.h)⟩
theorem yO5 (ha:JE X C a ia) (hb:JE X C (.BoolOp .Or (b::zp6) pos) ib):JE X C (.BoolOp .Or (a::b::zp6) pos) (.or ia ib):=⟨xh3 (ha:=ha.h) (hb:=hb.h)⟩
theorem yB2 (hc:JT X C c ic) (ha:JE X C a ia) (hb:JE X C b ib):JE X C (.IfExp c a b pos) (.ite ic ia ib):=⟨yX0 (hc:=hc.h) (ha:=ha.h) (hb:=hb.h)⟩
theorem za9 {es:List Expr} {irs:List E} {x1} (h:JA X C es irs) (hl:es.length≤1000:=by decide) (hi:irs.length=es.length:=by rfl):JE X C (.Tuple es x1 pos) (.tup irs):=⟨yN2 (h:=h.h) (hl:=hl) (hi:=hi)⟩
theorem zi7 {es:List Expr} {irs:List E} (h:JA X C es irs) (hl:es.length≤1000:=by decide) (hi:irs.length=es.length:=by rfl):JE X C (.List es pos) (.list false irs):=⟨yS9 (h:=h.h) (hl:=hl) (hi:=hi)⟩
theorem zo7 (h:JF X C e ie):JE X C e (.thaw ie):=⟨yG4 (h:=h.h)⟩
theorem zG6 {es:List Expr} {irs:List E} (h:JA X C es irs) (hl:es.length≤1000) (hi:irs.length=es.length):JF X C (.List es pos) (.list false irs):=⟨yM0 (h:=h.h) (hl:=hl) (hi:=hi)⟩
theorem yh3 (ha:JE X C a ia) (hb:JE X C b ib):JF X C (.BinOp a .Add b pos) (.bin .add ia ib):=⟨yO1 (ha:=ha.h) (hb:=hb.h)⟩
theorem yt1 {keys:List (Option Expr)} {values:List Expr} {ks:List PV} (h:JP X C pos keys values ks irs) (hk:ks.all zH0=true) (hl1:ks.length=irs.length) (hall:keys.all (·.isSome)=true) (hl:keys.length=values.length) (h0:keys≠[]) (h15:keys.length≤15) (hks:ks.length≤15):JE X C (.Dict keys values pos) (.dict ks irs):=⟨yK1 (h:=h.h) (hk:=hk) (hl1:=hl1) (hall:=hall) (hl:=hl) (h0:=h0) (h15:=h15) (hks:=hks)⟩
theorem yJ3  : JP X C pos [] [] [] []:=⟨yZ0⟩
theorem zM1 {k v:Expr} {ks:List (Option Expr)} {vs:List Expr} {pk:PV} {iv:E} {pks:List PV} (hk:PE X k (tC (kV (yi9 pk)))) (hv:JE X C v iv) (hr:JP X C pos ks vs pks irs) :
  JP X C pos (some k::ks) (v::vs) (pk::pks) (iv::irs):=⟨yC2 (hk:=hk) (hv:=hv.h) (hr:=hr.h)⟩
theorem ze1  : JO X C none none:=⟨yG8⟩
theorem zc4 (h:JE X C e ie):JO X C (some e) (some ie):=⟨yD7 (h:=h.h)⟩
theorem zc2 {lo hi:Option Expr} {ilo ihi:Option E} (he:JE X C e ie) (hl:JO X C lo ilo) (hh:JO X C hi ihi):JE X C (.Subscript e (.Slice lo hi none p2) pos) (.slice ie ilo ihi):=⟨yr2 (he:=he.h) (hl:=hl.h) (hh:=hh.h)⟩
theorem yC4 {j} (he:JE X C e ie):JE X C (.Subscript e (.Slice none none (some (.UnaryOp .USub (.Constant (.int 1) j p3) p4)) p2) pos) (.rev ie):=⟨yX5 (he:=he.h)⟩
theorem zd0 (hu:X.A.units+1<cLine) (ha:JE X C a ia) (hb:JE X C b ib) (hs:zS9 b):JE X C (.Subscript a b pos) (.ix ia ib):=⟨xi4 (hu:=hu) (ha:=ha.h) (hb:=hb.h) (hs:=hs)⟩
theorem zm8 {cond:Option E} (hcalm:X.calm=true) (ok:zv4 X scope N caps n) (hi:JI X C tg iter it) (hg:∀ cl s₀ H₀ ex pn,JG (zd5 X scope N cl s₀ H₀ ex pn) tg t) (ht:∀ cl s₀ H₀ ex pn,JTs (zd5 X scope N cl s₀ H₀ ex pn) C ifs cond) (he:∀ cl s₀ H₀ ex pn,JE (zd5 X scope N cl s₀ H₀ ex pn) C elt ielt) (hs:∀ x,foldedSetIterable iter X.env x=pure x:=by intro _;rfl):JE X C (.ListComp elt [⟨tg,iter,ifs,0⟩] scope pos) (.comp false ielt t it cond caps n):=⟨yK6 (hcalm:=hcalm) (ok:=ok) (hi:=hi.h) (hg:=fun cl s₀ H₀ ex pn=>(hg cl s₀ H₀ ex pn).h) (ht:=fun cl s₀ H₀ ex pn=>(ht cl s₀ H₀ ex pn).h) (he:=fun cl s₀ H₀ ex pn=>(he cl s₀ H₀ ex pn).h) (hs:=hs)⟩
theorem zL2 {i:Nat} {y:Str} {py spos:Pos} {cond:Option E} (hN:X.N.Nodup) (hyi:X.N[i]?=some y) (hyl:X.env.scope.names.lookup y=some .local) (hcalm:X.calm=true) (ok:zv4 X scope N caps n) (hi:JI X C tg iter it) (hg:∀ cl s₀ H₀ ex pn,JG (zd5 X scope N cl s₀ H₀ ex pn) tg t) (ht:∀ cl s₀ H₀ ex pn,JTs (zd5 X scope N cl s₀ H₀ ex pn) C ifs cond) (he:∀ cl s₀ H₀ ex pn,JE (zd5 X scope N cl s₀ H₀ ex pn) C elt ielt) (hs:∀ x,foldedSetIterable iter X.env x=pure x:=by intro _;rfl) (hsw:swapsWith (.ListComp elt [⟨tg,iter,ifs,0⟩] scope pos) (some (.Name y py)) spos.line X.env=pure true:=by rfl) :
  JS X C W (.Assign [.Name y py] (.ListComp elt [⟨tg,iter,ifs,0⟩] scope pos) spos) (.set i (.comp false ielt t it cond caps n)):=⟨yJ5 (hN:=hN) (hyi:=hyi) (hyl:=hyl) (hcalm:=hcalm) (ok:=ok) (hi:=hi.h) (hg:=fun cl s₀ H₀ ex pn=>(hg cl s₀ H₀ ex pn).h) (ht:=fun cl s₀ H₀ ex pn=>(ht cl s₀ H₀ ex pn).h) (he:=fun cl s₀ H₀ ex pn=>(he cl s₀ H₀ ex pn).h) (hs:=hs) (hsw:=hsw)⟩
theorem zv9 {i:Nat} {y:Str} {py spos:Pos} {cond:Option E} (hN:X.N.Nodup) (hyi:X.N[i]?=some y) (hyl:X.env.scope.names.lookup y=some .local) (hcalm:X.calm=true) (ok:zv4 X scope N caps n) (hi:JI X C tg iter it) (hg:∀ cl s₀ H₀ ex pn,JG (zd5 X scope N cl s₀ H₀ ex pn) tg t) (ht:∀ cl s₀ H₀ ex pn,JTs (zd5 X scope N cl s₀ H₀ ex pn) C ifs cond) (he:∀ cl s₀ H₀ ex pn,JE (zd5 X scope N cl s₀ H₀ ex pn) C elt ielt) (hs:∀ x,foldedSetIterable iter X.env x=pure x:=by intro _;rfl) (hsw:swapsWith (.ListComp elt [⟨tg,iter,ifs,0⟩] scope pos) (some (.Name y py)) spos.line X.env=pure true:=by rfl) :
  JS X C W (.Assign [.Name y py] (.ListComp elt [⟨tg,iter,ifs,0⟩] scope pos) spos) (.set i (.thaw (.comp false ielt t it cond caps n))):=⟨yv2 (hN:=hN) (hyi:=hyi) (hyl:=hyl) (hcalm:=hcalm) (ok:=ok) (hi:=hi.h) (hg:=fun cl s₀ H₀ ex pn=>(hg cl s₀ H₀ ex pn).h) (ht:=fun cl s₀ H₀ ex pn=>(ht cl s₀ H₀ ex pn).h) (he:=fun cl s₀ H₀ ex pn=>(he cl s₀ H₀ ex pn).h) (hs:=hs) (hsw:=hsw)⟩
theorem zk2 {a:Expr} {ia:E} (hg:Gl X "range") (hm:X.mg "range" = none) (ha:JE X C a ia) (hs:starEach [a] X.env=[(false,eval a X.env)]:=by rfl):JI X C tg (.Call (.Name "range" p) [a] [] pos) (.range ia):=⟨yr9 (hg:=hg) (hm:=hm) (ha:=ha.h) (hs:=hs)⟩
theorem zi5 (hl:JE X C l il):JI X C tg l (.of il):=⟨yO4 (hl:=hl.h)⟩
theorem za8 {x:Str} {f:Addr} {fd:FuncData} {ps:List Str} (F:zs8 X.prog X.w X.K X.mg X.base CX0 d f fd ps (spF X.K PR W d k ps.length)) (hr:zp3 d X.A) (hg:Gl X x) (hm:X.mg x=some (.ref f)) (hk:keepIn X.K (.ref f)=true) (hb:Binds X.K fd ps []) (ha:JA X (zi1 PR W d) (e::es) irs) (hn:irs.length=ps.length) (hdb:(x==("__debug__" : Str))=false:=by decide) (he:starEach (e::es) X.env=(false,eval e X.env)::starEach es X.env:=by rfl) (hpl:(backTo pos (starEach es X.env)).any (·.1)=false:=by rfl) :
  JE X (zi1 PR W d) (.Call (.Name x p) (e::es) [] pos) (.call k irs):=⟨yI1 (F:=F) (hr:=hr) (hg:=hg) (hm:=hm) (hk:=hk) (hb:=hb) (ha:=ha.h) (hn:=hn) (hdb:=hdb) (he:=he) (hpl:=hpl)⟩
theorem zi2 {x:Str} (t:Ty) (hg:Gl X "isinstance") (hm:X.mg "isinstance" = none) (hv:bootBuiltins "isinstance" = some (.builtin "isinstance")) (hg2:Gl X x) (hm2:X.mg x=none) (hv2:bootBuiltins x=some (.type (zP9 t))) (ha:JE X C a ia) (hn2:x ≠ "__name__" := by decide) (hd2:(x==("__debug__" : Str))=false:=by decide) (hs:starEach [a,.Name x p2] X.env=(false,eval a X.env)::starEach [.Name x p2] X.env:=by rfl) (hs2:starEach [.Name x p2] X.env=(false,eval (.Name x p2) X.env)::starEach [] X.env:=by rfl) (hpl:(backTo pos (starEach [.Name x p2] X.env)).any (·.1)=false:=by rfl):JE X C (.Call (.Name "isinstance" p) [a,.Name x p2] [] pos) (.blt (.isinst t) [ia]):=⟨ym7 (t:=t) (hg:=hg) (hm:=hm) (hv:=hv) (hg2:=hg2) (hm2:=hm2) (hv2:=hv2) (ha:=ha.h) (hn2:=hn2) (hd2:=hd2) (hs:=hs) (hs2:=hs2) (hpl:=hpl)⟩
theorem zb8 {x:Str} {id:String} {g:List PV→Option PV} {ir:E} (hc:zy0 X (.builtin id) g) (hi:∀ env st,evalE C ir env st=(evalEs C irs env st).bind fun vs st=>opN g vs st) (hg:Gl X x) (hm:X.mg x=none) (hv:bootBuiltins x=some (.builtin id)) (ha:JA X C (e::es) irs) (hn:x ≠ "__name__" := by decide) (hdb:(x==("__debug__" : Str))=false:=by decide) (he:starEach (e::es) X.env=(false,eval e X.env)::starEach es X.env:=by rfl) (hpl:(backTo pos (starEach es X.env)).any (·.1)=false:=by rfl) :
  JE X C (.Call (.Name x p) (e::es) [] pos) ir:=⟨ys5 (hc:=hc) (hi:=hi) (hg:=hg) (hm:=hm) (hv:=hv) (ha:=ha.h) (hn:=hn) (hdb:=hdb) (he:=he) (hpl:=hpl)⟩
theorem ze0 {x:Str} {T:String} {g:List PV→Option PV} {ir:E} (hc:zy0 X (.type T) g) (hi:∀ env st,evalE C ir env st=(evalEs C irs env st).bind fun vs st=>opN g vs st) (hg:Gl X x) (hm:X.mg x=none) (hv:bootBuiltins x=some (.type T)) (ha:JA X C (e::es) irs) (hn:x ≠ "__name__" := by decide) (hdb:(x==("__debug__" : Str))=false:=by decide) (he:starEach (e::es) X.env=(false,eval e X.env)::starEach es X.env:=by rfl) (hpl:(backTo pos (starEach es X.env)).any (·.1)=false:=by rfl) :
  JE X C (.Call (.Name x p) (e::es) [] pos) ir:=⟨yj3 (hc:=hc) (hi:=hi) (hg:=hg) (hm:=hm) (hv:=hv) (ha:=ha.h) (hn:=hn) (hdb:=hdb) (he:=he) (hpl:=hpl)⟩
theorem zC6 {g:List PV→List PV→Option (PV×List PV)} (slot:Slot "list" name id) (hty:typeOf (.builtin id)=pure (.type "method_descriptor")) (hm:MtK X id g) (ho:JE X C o io) (ha:JA X C (e::es) irs) (hg:∀ v vs st,zk3 m v vs st=(match yb2 vs with | some xs=>zp7 v st (g xs) | none=>.stuck)) (hbase:attributeBase o name X.env (eval o X.env)=eval o X.env:=by rfl) (hfew:((backTo cpos (starEach (e::es) X.env)).all (fun x=>!x.1)&&(backToKw cpos (keywordEach [] X.env)).all (fun x=>x.1.isSome)
      && decide ((e::es).length+([]:List Keyword).length+(if ([]:List Keyword).isEmpty then 0 else 1)<30))=true:=by rfl) (hline:(apos.endLine==cpos.line)=true:=by rfl) (hs:starEach (e::es) X.env=(false,eval e X.env)::starEach es X.env:=by rfl) (hplain:(backTo cpos (starEach es X.env)).any (·.1)=false:=by rfl) :
    JE X C (.Call (.Attribute o name apos) (e::es) [] cpos) (.meth m io irs):=⟨yR2 (slot:=slot) (hty:=hty) (hm:=hm) (ho:=ho.h) (ha:=ha.h) (hg:=hg) (hbase:=hbase) (hfew:=hfew) (hline:=hline) (hs:=hs) (hplain:=hplain)⟩
theorem yn2 {g:List PV→List PV→Option (PV×List PV)} (slot:Slot "list" name id) (hty:typeOf (.builtin id)=pure (.type "method_descriptor")) (hm:MtL X id g) (ho:JE X C o io) (ha:JA X C (e::es) irs) (hg:∀ v vs st,zk3 m v vs st=(match zj4 st vs with | some xs=>zp7 v st (g xs) | none=>.stuck)) (hbase:attributeBase o name X.env (eval o X.env)=eval o X.env:=by rfl) (hfew:((backTo cpos (starEach (e::es) X.env)).all (fun x=>!x.1)&&(backToKw cpos (keywordEach [] X.env)).all (fun x=>x.1.isSome)
      && decide ((e::es).length+([]:List Keyword).length+(if ([]:List Keyword).isEmpty then 0 else 1)<30))=true:=by rfl) (hline:(apos.endLine==cpos.line)=true:=by rfl) (hs:starEach (e::es) X.env=(false,eval e X.env)::starEach es X.env:=by rfl) (hplain:(backTo cpos (starEach es X.env)).any (·.1)=false:=by rfl) :
    JE X C (.Call (.Attribute o name apos) (e::es) [] cpos) (.meth m io irs):=⟨yU3 (slot:=slot) (hty:=hty) (hm:=hm) (ho:=ho.h) (ha:=ha.h) (hg:=hg) (hbase:=hbase) (hfew:=hfew) (hline:=hline) (hs:=hs) (hplain:=hplain)⟩
theorem yw0 {g:List PV→List PV→Option (PV×List PV)} (slot:Slot "list" name id) (hty:typeOf (.builtin id)=pure (.type "method_descriptor")) (hm:MtL X id g) (ho:JE X C o io) (hg:∀ v st,zk3 m v [] st=zp7 v st (g [])) (hbase:attributeBase o name X.env (eval o X.env)=eval o X.env:=by rfl) (hline:(apos.endLine==cpos.line)=true:=by rfl) :
  JE X C (.Call (.Attribute o name apos) [] [] cpos) (.meth m io []):=⟨yI0 (slot:=slot) (hty:=hty) (hm:=hm) (ho:=ho.h) (hg:=hg) (hbase:=hbase) (hline:=hline)⟩
theorem xk2 {g:PV→List PV→Option PV} (slot:Slot "str" name id) (hty:typeOf (.builtin id)=pure (.type "method_descriptor")) (hm:MtS X id g) (ho:JE X C o io) (ha:JA X C (e::es) irs) (hg:∀ v vs st,zk3 m v vs st=(match zj4 st vs with | some xs=>(match view st v with | some x=>okO (g x xs) st | none=>.stuck) | none=>.stuck)) (hstr:∀ x xs z,g x xs=some z→∃ cs,x=.str cs) (hbase:attributeBase o name X.env (eval o X.env)=eval o X.env:=by rfl) (hfew:((backTo cpos (starEach (e::es) X.env)).all (fun x=>!x.1)&&(backToKw cpos (keywordEach [] X.env)).all (fun x=>x.1.isSome)
      && decide ((e::es).length+([]:List Keyword).length+(if ([]:List Keyword).isEmpty then 0 else 1)<30))=true:=by rfl) (hline:(apos.endLine==cpos.line)=true:=by rfl) (hs:starEach (e::es) X.env=(false,eval e X.env)::starEach es X.env:=by rfl) (hplain:(backTo cpos (starEach es X.env)).any (·.1)=false:=by rfl) :
    JE X C (.Call (.Attribute o name apos) (e::es) [] cpos) (.meth m io irs):=⟨yN4 (slot:=slot) (hty:=hty) (hm:=hm) (ho:=ho.h) (ha:=ha.h) (hg:=hg) (hstr:=hstr) (hbase:=hbase) (hfew:=hfew) (hline:=hline) (hs:=hs) (hplain:=hplain)⟩
theorem yw6 {g:PV→List PV→Option PV} (slot:Slot "str" name id) (hty:typeOf (.builtin id)=pure (.type "method_descriptor")) (hm:MtS X id g) (ho:JE X C o io) (hg:∀ v st,zk3 m v [] st=(match view st v with | some x=>okO (g x []) st | none=>.stuck)) (hstr:∀ x xs z,g x xs=some z→∃ cs,x=.str cs) (hbase:attributeBase o name X.env (eval o X.env)=eval o X.env:=by rfl) (hline:(apos.endLine==cpos.line)=true:=by rfl) :
  JE X C (.Call (.Attribute o name apos) [] [] cpos) (.meth m io []):=⟨yG6 (slot:=slot) (hty:=hty) (hm:=hm) (ho:=ho.h) (hg:=hg) (hstr:=hstr) (hbase:=hbase) (hline:=hline)⟩
theorem yx3 (ha:JT X C a ia):JW X C (.BoolOp .And [a] pos) ia:=⟨yF8 (ha:=ha.h)⟩
theorem zL9 (ha:JT X C a ia):JW X C (.BoolOp .Or [a] pos) ia:=⟨yW3 (ha:=ha.h)⟩
theorem yD8 (ha:JT X C a ia) (hb:JW X C (.BoolOp .And (b::zp6) pos) ib):JW X C (.BoolOp .And (a::b::zp6) pos) (.and ia ib):=⟨yM1 (ha:=ha.h) (hb:=hb.h)⟩
theorem zF8 (ha:JT X C a ia) (hb:JW X C (.BoolOp .Or (b::zp6) pos) ib):JW X C (.BoolOp .Or (a::b::zp6) pos) (.or ia ib):=⟨xk8 (ha:=ha.h) (hb:=hb.h)⟩
theorem zQ8 {e:Expr} {ir:E} (h:JW X C e ir):JT X C e ir:=⟨xj8 (h:=h.h)⟩
theorem zu6 (ha:JT X C a ia):JT X C (.UnaryOp .Not a pos) (.not ia):=⟨yX1 (ha:=ha.h)⟩
theorem zd6 {op:CmpOp} {g:PV→PV→Option PV} {ir:E} (ho:Op2 X (compareOp op) g) (ha:JE X C a ia) (hb:JE X C b ib) (hm:behindInMarks op b=false) (hi:∀ env st,evalE C ir env st=(evalE C ia env st).bind fun x st=>(evalE C ib env st).bind fun y st=>op2 g x y st):JT X C (.Compare a [op] [b] pos) ir:=⟨yV8 (ho:=ho) (ha:=ha.h) (hb:=hb.h) (hm:=hm) (hi:=hi)⟩
theorem zn0 {e:Expr} {ir:E} (h:JE X C e ir) (he:∀ whole,isTrue e X.env whole=(do let v ← whole;standAt e.pos;holding [v] (truthy v)):=by intro _;rfl):JT X C e ir:=⟨yW4 (h:=h.h) (he:=he)⟩
theorem za7  : JSs X C W [] []:=⟨yO6⟩
theorem za4 {st:Stmt} {zp6:List Stmt} {i:S} {ir:List S} (h1:JS X C W st i) (h2:JSs X C W zp6 ir):JSs X C W (st::zp6) (i::ir):=⟨yK4 (h1:=h1.h) (h2:=h2.h)⟩
theorem zm7 {ie:E} (h:JE X C e ie) (hs:swapsWith e none pos.line X.env=pure false:=by rfl):JS X C W (.Expr e pos) (.expr ie):=⟨yB8 (h:=h.h) (hs:=hs)⟩
theorem zc1 {ie:E} (h:JE X C e ie):JS X C W (.Return (some e) pos) (.ret ie):=⟨yS4 (h:=h.h)⟩
theorem zb4 {i:Nat} {x:Str} {ie:E} {pos':Pos} (hN:X.N.Nodup) (hi:X.N[i]?=some x) (hx:Loc X.env.scope x) (h:JE X C e ie) (hs:swapsWith e (some (.Name x pos')) pos.line X.env=pure false:=by rfl) (hf:X.fn x=true∨X.env.scope.names.lookup x=some .local:=by trivial) :
  JS X C W (.Assign [.Name x pos'] e pos) (.set i ie):=⟨yM8 (hN:=hN) (hi:=hi) (hx:=hx) (h:=h.h) (hs:=hs) (hf:=hf)⟩
theorem zQ7 (hu:X.A.units+1<cLine) (ho:JE X C o io) (hi:JE X C i ii) (hv:JE X C value iv) (ha:∀ v,assign (.Subscript o i pos') X.env v=(do
      let ov ← holding [v] (eval o X.env)
      let iv ← holding [v,ov] (eval i X.env)
      standAt pos'
      holding [v,ov,iv] (setItem ov iv v)
      release [v,ov,iv] []):=by intro _;rfl) (hs:swapsWithSole [.Subscript o i pos'] value pos.line X.env=pure false:=by rfl) (hw:swappedStores [.Subscript o i pos'] value X.env=pure none:=by rfl) (h1:(assignEach [.Subscript o i pos'] X.env).map (·.2)=[assign (.Subscript o i pos') X.env]:=by rfl):JS X C W (.Assign [.Subscript o i pos'] value pos) (.setIx io ii iv):=⟨yv8 (hu:=hu) (ho:=ho.h) (hi:=hi.h) (hv:=hv.h) (ha:=ha) (hs:=hs) (hw:=hw) (h1:=h1)⟩
theorem zg8 {c:Expr} {ic:E} {a b:List Stmt} {sa sb:List S} (hc:JT X C c ic) (ha:JSs X C W a sa) (hb:JSs X C W b sb):JS X C W (.If c a b pos) (.ite ic sa sb):=⟨xd5 (hc:=hc.h) (ha:=ha.h) (hb:=hb.h)⟩
theorem zr7 {iter:Expr} {body:List Stmt} {it:It} {t:Tg} {ib:List S} (hp:PassesOwn (model X.prog X.w) X.A X.env X.xe) (hc:X.calm=true) (hi:JI X C tg iter it) (hg:JG X tg t) (hb:JSs X C W body ib) (hs:∀ x,foldedSetIterable iter X.env x=pure x:=by intro _;rfl):JS X C W (.For tg iter body [] pos) (.for t it ib):=⟨yR8 (hp:=hp) (hc:=hc) (hi:=hi.h) (hg:=hg.h) (hb:=hb.h) (hs:=hs)⟩
theorem ze2 {i:Nat} {x:Str} (hN:X.N.Nodup) (hi:X.N[i]?=some x) (hx:Loc X.env.scope x) (hf:X.fn x=true∨X.env.scope.names.lookup x=some .local:=by trivial):JG X (.Name x pos) (.name i):=⟨yB1 (hN:=hN) (hi:=hi) (hx:=hx) (hf:=hf)⟩
theorem yf3 {k:Nat} (hc:X.calm=true) (h:JGs X es is) (hn:(assignEach es X.env).length=is.length:=by rfl) (hst:(assignEach es X.env).findIdx? (·.1)=none:=by rfl):JG X (.Tuple es k pos) (.tup is):=⟨yZ1 (hc:=hc) (h:=h.h) (hn:=hn) (hst:=hst)⟩
theorem zW2  : JGs X [] []:=⟨yB7⟩
theorem zq5 {i:Nat} {x:Str} (hN:X.N.Nodup) (hi:X.N[i]?=some x) (hx:Loc X.env.scope x) (h:JGs X es is) (hf:X.fn x=true∨X.env.scope.names.lookup x=some .local:=by trivial) (hs:(assignEach (.Name x pos::es) X.env).map (·.2)=assign (.Name x pos) X.env::(assignEach es X.env).map (·.2):=by rfl):JGs X (.Name x pos::es) (i::is):=⟨yt9 (hN:=hN) (hi:=hi) (hx:=hx) (h:=h.h) (hf:=hf) (hs:=hs)⟩
theorem za1  : JA X C [] []:=⟨yA8⟩
theorem za0 {es:List Expr} {irs:List E} (ha:JE X C a ia) (hr:JA X C es irs) (hs:starEach (a::es) X.env=(false,eval a X.env)::starEach es X.env:=by rfl):JA X C (a::es) (ia::irs):=⟨yk4 (ha:=ha.h) (hr:=hr.h) (hs:=hs)⟩
theorem zx0  : JTs X C [] none:=⟨pts0⟩
theorem xi6 {c:Expr} {ic:E} (h:JT X C c ic):JTs X C [c] (some ic):=⟨pts1 (h:=h.h)⟩
end
section
variable {P:Program} {w:World} {K:Frag} {mg:Str→Option Value} {base:Heap} {PR:List FD} {W d k:Nat}
theorem zo0 {d:Nat} {A:Around} (h:zp3 d A):A.units+1<cLine:=by have:=h.un;omega
theorem zn8 {d:Nat} {A:Around} (h:zp3 d A):A.units+200<cLine:=by have:=h.un;omega
theorem ze5 {x qual:Str} {st:Stmt} {f:Addr} {fd:FuncData} {N ps:List Str} {ib:List S} (F:Fun K x qual st f fd) (S:ze6 N ps (za5 st)) (hP:PR[k]?=some ⟨ps.length,N.length,ib⟩)
  (hb:∀ (cdv:Value) (A:Around) (outer:List PySem.Env) (s:Shared) (H:Hp) (E:XK),zp3 d (A.deeper (envOfC qual (za5 st) s.heap.objs.size f cdv)) →
   JSs (zx8 CX0 P w K mg base N qual (za5 st) f cdv A outer s H E).nox (zi1 PR W d) W (zb0 st) ib):zs8 P w K mg base CX0 (d+1) f fd ps (spF K PR W (d+1) k ps.length) :=
 yH2 F S hP fun cdv A outer s H E hr=>(hb cdv A outer s H E hr).h
end
end OR
set_option bootstrap.genMatcherCode true
local macro_rules
 | `(tactic| simp! [$as,*]) => do
  let bs : Lean.Syntax.TSepArray [`Lean.Parser.Tactic.simpErase, `Lean.Parser.Tactic.simpLemma] "," := ⟨as.elemsAndSeps⟩
  `(tactic| ((try dsimp [-OR.exs_cons, -OR.thenS_next, -OR.sliceOp, -OR.bfOp, -OR.ixVal, -OR.walkOf, -Int.reducePow, -List.all_eq_true, -List.reverse_reverse, $bs,*]); try simp [-OR.exs_cons, -OR.thenS_next, -OR.sliceOp, -OR.bfOp, -OR.ixVal, -OR.walkOf, -Int.reducePow, -List.all_eq_true, -List.reverse_reverse, $as,*]))
 | `(tactic| simp! [$as,*] $l:location) => `(tactic| simp [-OR.exs_cons, -OR.thenS_next, -OR.sliceOp, -OR.bfOp, -OR.ixVal, -OR.walkOf, -Int.reducePow, -List.all_eq_true, -List.reverse_reverse, $as,*] $l:location)
 | `(tactic| simp! only [$as,*] $[$l:location]?) => `(tactic| simp only [$as,*, List.map_cons, List.map_nil, List.cons_append, List.nil_append, Nat.reduceSub, List.replicate] $[$l:location]?)
 | `(tactic| trivial) => `(tactic| first | exact Or.inl rfl | exact Or.inr (Or.inl rfl) | exact Or.inr rfl | exact Or.inr (Or.inr rfl) | assumption)
 | `(tactic| dsimp! only) => `(tactic| simp only [OR.thenS_next, OR.exs_nil, OR.sat_ok, List.set_cons_succ, List.set_cons_zero])
set_option bootstrap.genMatcherCode false
namespace LA
open OR
noncomputable def zE1:List S :=
 [.ret (.cmp .isIn (.var 0) (.const (.tup [(.str [65]),(.str [66]),(.str [67]),(.str [68]),(.str [69]),(.str [70])])))]
noncomputable def zD9:FD:=⟨1,1,zE1⟩
noncomputable def zz1:List S :=
 [.ret (.and (.call 3 [(.var 0),(.var 1)]) (.blt .all [(.comp false (.cmp .isIn (.var 1) (.ix (.var 0) (.const (.int 0)))) (.name 1) (.of (.slice (.var 1) (some (.const (.int 1))) none)) none [0] 1)]))]
noncomputable def zz4:FD:=⟨2,2,zz1⟩
noncomputable def zu2:List S :=
 [.ret (.and (.call 3 [(.var 0),(.var 1)]) (.blt .all [(.comp false (.or (.cmp .isIn (.var 1) (.ix (.var 0) (.const (.int 0)))) (.call 0 [(.var 1)])) (.name 1) (.of (.slice (.var 1) (some (.const (.int 1))) none)) none [0] 1)]))]
noncomputable def zv2:FD:=⟨2,2,zu2⟩
noncomputable def zt5:List S :=
 [.ite (.or (.not (.blt (.isinst .tuple) [(.var 1)])) (.cmp .eq (.blt .len [(.var 1)]) (.const (.int 0))))
  [.ret (.const (.bl false))]
  [],
 .set 2 (.call 4 [(.var 0),(.ix (.var 1) (.const (.int 0)))]),
 .ret (.and (.cmp .notNone (.var 2) (.const .non)) (.cmp .eq (.blt .len [(.var 1)]) (.bin .add (.const (.int 1)) (.ix (.var 2) (.const (.int 1))))))]
noncomputable def zt4:FD:=⟨2,3,zt5⟩
noncomputable def zo8:List S :=
  [.for (.name 2) (.of (.ix (.var 0) (.const (.int 1))))
    [.ite (.cmp .eq (.ix (.var 2) (.const (.int 0))) (.var 1))
       [.ret (.var 2)]
       []],
  .ret (.const .non)]
noncomputable def zp0:FD:=⟨2,3,zo8⟩
noncomputable def zs6:List S :=
 [.set 2 (.bin .mul (.const (.int 31)) (.var 1)),
 .ite (.cmp .gt (.blt .len [(.var 0)]) (.const (.int 0)))
  [.set 2 (.bin .add (.ix (.var 0) (.bin .mod (.var 1) (.blt .len [(.var 0)]))) (.bin .mul (.const (.int 7919)) (.bin .fdiv (.var 1) (.blt .len [(.var 0)]))))]
  [],
 .ret (.dict [(.str [99,101,108,108]),(.str [108,101,102,116]),(.str [116,117,114,110])] [(.var 2),(.bin .mul (.blt .max2 [(.const (.int 0)),(.var 2)]) (.blt .toInt [(.cmp .ge (.var 2) (.bin .pow (.const (.int 10)) (.const (.int 18))))])),(.const (.int 0))])]
noncomputable def zo4:FD:=⟨2,3,zs6⟩
noncomputable def zs0:List S :=
  [.set 2 (.ix (.var 0) (.const (.str [116,117,114,110]))),
  .setIx (.var 0) (.const (.str [116,117,114,110])) (.bin .add (.var 2) (.const (.int 1))),
  .set 3 (.ix (.var 0) (.const (.str [108,101,102,116]))),
  .ite (.cmp .gt (.var 3) (.const (.int 0)))
    [.setIx (.var 0) (.const (.str [108,101,102,116])) (.bin .fdiv (.var 3) (.var 1)),
     .ret (.bin .mod (.var 3) (.var 1))]
    [],
  .set 4 (.bin .add (.bin .add (.bin .mod (.ix (.var 0) (.const (.str [99,101,108,108]))) (.const (.int 2147483647))) (.bin .mul (.bin .mul (.const (.int 31)) (.var 2)) (.var 2))) (.const (.int 1))),
  .set 5 (.bin .mod (.bin .mul (.var 4) (.bin .add (.const (.int 48271)) (.bin .mul (.const (.int 40)) (.var 2)))) (.const (.int 2147483629))),
  .ret (.bin .mod (.bin .fdiv (.bin .mod (.bin .add (.bin .mul (.bin .fdiv (.var 5) (.const (.int 11))) (.const (.int 69621))) (.var 2)) (.const (.int 998244353))) (.const (.int 7))) (.var 1))]
noncomputable def zo3:FD:=⟨2,6,zs0⟩
noncomputable def zi8:List S :=
  [.set 2 (.bin .mul (.const (.str [97,98,99,100,101,102,103,104,105,106,107,108,109,110,111,112,113,114,115,116,117,118,119,120,121,122])) (.const (.int 2))),
  .set 3 (.call 6 [(.var 0),(.const (.int 3))]),
  .set 4 (.call 6 [(.var 0),(.const (.int 26))]),
  .set 5 (.thaw (.list false [(.const (.str [110,117,109])),(.const (.str [110,117,109,98])),(.const (.str [108,111,119])),(.const (.str [114,111,119,115])),(.const (.str [115,101,116])),(.const (.str [97,115,107,115])),(.const (.str [112,117,116])),(.const (.str [111,102]))])),
  .ite (.cmp .eq (.var 3) (.const (.int 0)))
    [.set 5 (.thaw (.comp false (.slice (.var 0) (some (.var 1)) (some (.bin .add (.bin .add (.var 1) (.const (.int 1))) (.var 2)))) (.name 2) (.range (.const (.int 8))) none [2,4] 1))]
    [],
  .ite (.cmp .eq (.var 3) (.const (.int 1)))
    [.set 6 (.bin .add (.const (.int 1)) (.call 6 [(.var 0),(.const (.int 8))])),
     .set 7 (.call 6 [(.var 0),(.var 6)]),
     .set 8 (.slice (.var 2) (some (.var 4)) (some (.bin .add (.var 4) (.var 7)))),
     .set 9 (.slice (.var 2) (some (.bin .add (.bin .add (.var 4) (.var 7)) (.const (.int 1)))) (some (.bin .add (.var 4) (.var 6)))),
     .set 5 (.thaw (.comp false (.bin .add (.bin .add (.var 2) (.ix (.var 0) (.bin .mod (.bin .add (.var 1) (.bin .mul (.const (.int 3)) (.var 4))) (.const (.int 26))))) (.var 3)) (.name 4) (.range (.const (.int 8))) none [2,4,8,9] 1))]
    [],
  .set 10 (.call 6 [(.var 0),(.const (.int 8))]),
  .set 5 (.thaw (.bin .add (.slice (.var 5) (some (.var 10)) none) (.slice (.var 5) none (some (.var 10))))),
  .ite (.cmp .eq (.call 6 [(.var 0),(.const (.int 2))]) (.const (.int 0)))
    [.expr (.meth .reverse (.var 5) [])]
    [],
  .ret (.slice (.var 5) none (some (.var 1)))]
noncomputable def zv1:FD:=⟨2,11,zi8⟩
noncomputable def zD4:List S :=
 [.set 1 (.thaw (.list false [(.tup [(.tup [(.const (.int 0)),(.const (.int 1))])]),(.tup [(.tup [(.const (.int 0)),(.const (.int 1))]),(.tup [(.const (.int 1)),(.const (.int 2))]),(.tup [(.const (.int 0)),(.const (.int 2))])]),(.tup [(.tup [(.const (.int 0)),(.const (.int 1))]),(.tup [(.const (.int 0)),(.const (.int 2))]),(.tup [(.const (.int 1)),(.const (.int 3))]),(.tup [(.const (.int 2)),(.const (.int 3))])])])),
 .expr (.meth .append (.var 1) [(.tup [(.tup [(.const (.int 0)),(.const (.int 1))]),(.tup [(.const (.int 0)),(.const (.int 2))]),(.tup [(.const (.int 0)),(.const (.int 3))]),(.tup [(.const (.int 1)),(.const (.int 4))]),(.tup [(.const (.int 2)),(.const (.int 4))]),(.tup [(.const (.int 3)),(.const (.int 4))])])]),
 .expr (.meth .append (.var 1) [(.tup [(.tup [(.const (.int 0)),(.const (.int 1))]),(.tup [(.const (.int 1)),(.const (.int 2))]),(.tup [(.const (.int 2)),(.const (.int 4))]),(.tup [(.const (.int 0)),(.const (.int 3))]),(.tup [(.const (.int 3)),(.const (.int 4))])])]),
 .expr (.meth .append (.var 1) [(.tup [(.tup [(.const (.int 0)),(.const (.int 1))]),(.tup [(.const (.int 1)),(.const (.int 2))]),(.tup [(.const (.int 2)),(.const (.int 5))]),(.tup [(.const (.int 0)),(.const (.int 3))]),(.tup [(.const (.int 3)),(.const (.int 4))]),(.tup [(.const (.int 4)),(.const (.int 5))]),(.tup [(.const (.int 0)),(.const (.int 5))])])]),
 .expr (.meth .append (.var 1) [(.tup [(.tup [(.const (.int 0)),(.const (.int 1))]),(.tup [(.const (.int 0)),(.const (.int 2))]),(.tup [(.const (.int 0)),(.const (.int 3))]),(.tup [(.const (.int 1)),(.const (.int 4))]),(.tup [(.const (.int 2)),(.const (.int 4))]),(.tup [(.const (.int 2)),(.const (.int 5))]),(.tup [(.const (.int 3)),(.const (.int 5))]),(.tup [(.const (.int 4)),(.const (.int 6))]),(.tup [(.const (.int 5)),(.const (.int 6))])])]),
 .set 2 (.ix (.var 1) (.call 6 [(.var 0),(.const (.int 7))])),
 .set 3 (.bin .add (.const (.int 1)) (.blt .max1 [(.comp false (.ix (.var 0) (.const (.int 1))) (.name 0) (.of (.var 2)) none [] 1)])),
 .set 4 (.call 7 [(.var 0),(.var 3)]),
 .set 5 (.call 6 [(.var 0),(.var 3)]),
 .set 6 (.call 6 [(.var 0),(.blt .len [(.var 2)])]),
 .set 7 (.bin .add (.slice (.var 4) (some (.var 5)) none) (.slice (.var 4) none (some (.var 5)))),
 .set 8 (.comp false (.tup [(.ix (.var 0) (.var 1)),(.ix (.var 0) (.var 2))]) (.tup [1,2]) (.of (.bin .add (.slice (.var 2) (some (.var 6)) none) (.slice (.var 2) none (some (.var 6))))) none [7] 2),
 .ret (.tup [(.const (.str [119,101,98])),(.blt .tuple [(.var 4)]),(.blt .tuple [(.var 8)])])]
noncomputable def zE8:FD:=⟨1,9,zD4⟩
noncomputable def zy6:List S :=
 [.set 1 (.call 6 [(.var 0),(.const (.int 6))]),
 .ite (.cmp .lt (.var 1) (.const (.int 2)))
  [.ret (.tup [(.ix (.list false [(.const (.str [110,117,109])),(.const (.str [108,111,119]))]) (.var 1))])]
  [],
 .ite (.cmp .eq (.var 1) (.const (.int 2)))
  [.ret (.tup [(.const (.str [99,104,97,105,110])),(.blt .tuple [(.call 7 [(.var 0),(.bin .add (.const (.int 2)) (.call 6 [(.var 0),(.const (.int 5))]))])])])]
  [],
 .ite (.cmp .eq (.var 1) (.const (.int 3)))
  [.ret (.tup [(.const (.str [115,101,116])),(.blt .tuple [(.call 7 [(.var 0),(.bin .add (.const (.int 1)) (.call 6 [(.var 0),(.const (.int 5))]))])])])]
  [],
 .ret (.ite (.cmp .eq (.var 1) (.const (.int 4))) (.call 8 [(.var 0)]) (.tup [(.const (.str [110,117,109]))]))]
noncomputable def zy9:FD:=⟨1,2,zy6⟩
noncomputable def zy5:List S :=
 [.ite (.cmp .eq (.call 6 [(.var 0),(.const (.int 2))]) (.const (.int 0)))
  [.ret (.tup [(.const (.str [110,101,119,101,114])),(.call 9 [(.var 0)])])]
  [],
 .ret (.tup [(.const (.str [114,111,119])),(.blt .tuple [(.comp false (.call 9 [(.var 0)]) (.name 1) (.range (.bin .add (.const (.int 1)) (.call 6 [(.var 0),(.const (.int 2))]))) none [0] 1)])])]
noncomputable def zz3:FD:=⟨1,1,zy5⟩
noncomputable def zu1:List S :=
 [.set 1 (.call 6 [(.var 0),(.const (.int 10))]),
 .ite (.cmp .lt (.var 1) (.const (.int 5)))
  [.ret (.call 9 [(.var 0)])]
  [],
 .ite (.cmp .eq (.var 1) (.const (.int 5)))
  [.ret (.tup [(.const (.str [110,101,119,101,114])),(.call 10 [(.var 0)])])]
  [],
 .ite (.cmp .eq (.var 1) (.const (.int 6)))
  [.ret (.tup [(.const (.str [114,111,119])),(.blt .tuple [(.comp false (.call 9 [(.var 0)]) (.name 1) (.range (.bin .add (.const (.int 1)) (.call 6 [(.var 0),(.const (.int 3))]))) none [0] 1)])])]
  [],
 .ite (.cmp .eq (.var 1) (.const (.int 7)))
  [.ret (.call 10 [(.var 0)])]
  [],
 .set 2 (.thaw (.comp false (.call 9 [(.var 0)]) (.name 1) (.range (.call 6 [(.var 0),(.const (.int 3))])) none [0] 1)),
 .ite (.cmp .eq (.var 1) (.const (.int 8)))
  [.expr (.meth .insert (.var 2) [(.call 6 [(.var 0),(.bin .add (.blt .len [(.var 2)]) (.const (.int 1)))]),(.call 10 [(.var 0)])])]
  [.set 2 (.thaw (.bin .add (.list false [(.tup [(.const (.str [110,101,119,101,114])),(.call 9 [(.var 0)])]),(.tup [(.const (.str [110,101,119,101,114])),(.call 9 [(.var 0)])])]) (.slice (.var 2) none (some (.const (.int 1))))))],
 .ret (.tup [(.const (.str [114,111,119])),(.blt .tuple [(.var 2)])])]
noncomputable def zt7:FD:=⟨1,3,zu1⟩
noncomputable def zE3:List S :=
 [.set 2 (.list false [(.const .non),(.const (.bl true)),(.const (.bl false)),(.neg (.const (.int 1))),(.const (.int 0)),(.const (.int 1)),(.const (.int 2)),(.bin .pow (.const (.int 10)) (.const (.int 19))),(.const (.str [])),(.const (.str [97])),(.const (.str [65])),(.const (.str [42])),(.const (.str [110,117,109])),(.const (.str [97,98,99,100,101,102,103,104,105])),(.const (.str [97,49]))]),
 .set 2 (.bin .add (.var 2) (.list false [(.tup []),(.list false []),(.tup [(.const (.str [110,117,109]))]),(.tup [(.const (.str [97]))])])),
 .ite (.blt (.isinst .tuple) [(.var 1)])
  [.set 2 (.bin .add (.var 2) (.bin .mul (.list false [(.blt .list [(.var 1)]),(.bin .add (.var 1) (.tup [(.const (.int 0))])),(.slice (.var 1) none (some (.neg (.const (.int 1))))),(.slice (.var 1) (some (.const (.int 1))) none),(.bin .add (.var 1) (.slice (.var 1) none (some (.const (.int 1))))),(.tup [(.var 1)]),(.rev (.var 1))]) (.const (.int 4))))]
  [],
 .ite (.blt (.isinst .str) [(.var 1)])
  [.set 2 (.bin .add (.var 2) (.bin .mul (.list false [(.bin .add (.var 1) (.const (.str [97]))),(.slice (.var 1) none (some (.neg (.const (.int 1))))),(.meth .upper (.var 1) []),(.tup [(.var 1)])]) (.const (.int 4))))]
  [],
 .ite (.and (.blt (.isinst .int) [(.var 1)]) (.not (.blt (.isinst .bool) [(.var 1)])))
  [.set 2 (.bin .add (.var 2) (.bin .mul (.list false [(.bin .add (.var 1) (.const (.int 1))),(.bin .sub (.var 1) (.const (.int 1))),(.cmp .eq (.var 1) (.const (.int 1))),(.tup [(.var 1)])]) (.const (.int 4))))]
  [],
 .ret (.ix (.var 2) (.call 6 [(.var 0),(.blt .len [(.var 2)])]))]
noncomputable def zD6:FD:=⟨2,3,zE3⟩
noncomputable def zs1:List S :=
 [.ite (.or (.not (.blt (.isinst .tuple) [(.var 1)])) (.or (.cmp .eq (.blt .len [(.var 1)]) (.const (.int 0))) (.or (.cmp .eq (.var 2) (.const (.int 0))) (.cmp .eq (.call 6 [(.var 0),(.const (.int 6))]) (.const (.int 0))))))
  [.ret (.call 12 [(.var 0),(.var 1)])]
  [],
 .set 3 (.call 6 [(.var 0),(.blt .len [(.var 1)])]),
 .ret (.bin .add (.bin .add (.slice (.var 1) none (some (.var 3))) (.tup [(.call 13 [(.var 0),(.ix (.var 1) (.var 3)),(.bin .sub (.var 2) (.const (.int 1)))])])) (.slice (.var 1) (some (.bin .add (.var 3) (.const (.int 1)))) none))]
noncomputable def zo5:FD:=⟨3,4,zs1⟩
noncomputable def zr5:List S :=
 [.set 1 (.blt .tuple [(.call 7 [(.var 0),(.bin .add (.const (.int 1)) (.call 6 [(.var 0),(.const (.int 4))]))])]),
 .set 2 (.call 7 [(.var 0),(.bin .add (.const (.int 1)) (.call 6 [(.var 0),(.const (.int 5))]))]),
 .set 3 (.comp false (.tup [(.var 1),(.ix (.list false [(.const (.int 1)),(.const (.int 0)),(.const (.int 1)),(.const (.int 2))]) (.call 6 [(.var 0),(.const (.int 4))])),(.call 11 [(.var 0)])]) (.name 1) (.of (.var 2)) none [0] 1),
 .ret (.tup [(.var 1),(.blt .tuple [(.var 3)])])]
noncomputable def zr0:FD:=⟨1,4,zr5⟩
noncomputable def zq2:List S :=
  [.set 1 (.thaw (.list false [])),
  .for (.tup [2,3,4]) (.of (.ix (.var 0) (.const (.int 1))))
    [.set 5 (.thaw (.list false [(.tup [(.var 2)])])),
     .ite (.cmp .gt (.var 3) (.const (.int 0)))
       [.set 5 (.thaw (.comp false (.tup [(.var 0),(.var 1)]) (.name 1) (.of (.ix (.var 0) (.const (.int 0)))) none [2] 1))]
       [],
     .ite (.cmp .gt (.var 3) (.const (.int 1)))
       [.set 5 (.thaw (.list false [])),
        .for (.name 6) (.of (.ix (.var 0) (.const (.int 0))))
          [.expr (.meth .extend (.var 5) [(.comp false (.tup [(.var 0),(.var 1),(.var 2)]) (.name 2) (.of (.ix (.var 0) (.const (.int 0)))) none [2,6] 1)])]]
       [],
     .expr (.meth .extend (.var 1) [(.var 5)])],
  .ret (.blt .sorted [(.var 1)])]
noncomputable def zq3:FD:=⟨1,7,zq2⟩
noncomputable def zr1:List S :=
 [.set 2 (.ix (.ix (.var 1) (.const (.int 1))) (.call 6 [(.var 0),(.blt .len [(.ix (.var 1) (.const (.int 1)))])])),
 .set 3 (.bin .add (.blt .list [(.ix (.var 1) (.const (.int 0)))]) (.list false [(.const (.str [65])),(.const (.str [66])),(.const (.str [70]))])),
 .ret (.bin .add (.tup [(.ix (.var 2) (.const (.int 0)))]) (.blt .tuple [(.comp false (.ix (.var 1) (.call 6 [(.var 0),(.blt .len [(.var 1)])])) (.name 2) (.range (.ix (.var 2) (.const (.int 1)))) none [0,3] 1)]))]
noncomputable def zr6:FD:=⟨2,4,zr1⟩
noncomputable def zn4:List S :=
 [.ite (.or (.not (.blt (.isinst .tuple) [(.var 1)])) (.or (.cmp .eq (.blt .len [(.var 1)]) (.const (.int 0))) (.not (.blt (.isinst .str) [(.ix (.var 1) (.const (.int 0)))]))))
  [.ret (.const (.bl false))]
  [],
 .set 3 (.comp false (.ix (.var 1) (.const (.int 1))) (.name 1) (.of (.ix (.var 0) (.const (.int 1)))) (some (.cmp .eq (.ix (.var 1) (.const (.int 0))) (.ix (.var 0) (.const (.int 0))))) [1] 1),
 .ite (.cmp .ne (.var 3) (.list false [(.bin .sub (.blt .len [(.var 1)]) (.const (.int 1)))]))
  [.ret (.const (.bl false))]
  [],
 .set 4 (.bin .add (.blt .list [(.ix (.var 0) (.const (.int 0)))]) (.var 2)),
 .ret (.cmp .notIn (.const (.bl false)) (.comp false (.and (.blt (.isinst .str) [(.var 1)]) (.cmp .isIn (.var 1) (.var 0))) (.name 1) (.of (.slice (.var 1) (some (.const (.int 1))) none)) none [4] 1))]
noncomputable def zn5:FD:=⟨3,5,zn4⟩
noncomputable def zu7:List S :=
 [.set 2 (.blt .repr [(.tup [(.var 0),(.var 1)])]),
 .ite (.cmp .ne (.blt .repr [(.call 1 [(.var 0),(.var 1)])]) (.blt .repr [(.call 17 [(.var 0),(.var 1),(.list false [])])]))
  [.ret (.const (.bl false))]
  [],
 .set 3 (.call 17 [(.var 0),(.var 1),(.list false [(.const (.str [65])),(.const (.str [66])),(.const (.str [67])),(.const (.str [68])),(.const (.str [69])),(.const (.str [70]))])]),
 .ret (.and (.cmp .eq (.blt .repr [(.call 2 [(.var 0),(.var 1)])]) (.blt .repr [(.var 3)])) (.cmp .eq (.blt .repr [(.tup [(.var 0),(.var 1)])]) (.var 2)))]
noncomputable def zu5:FD:=⟨2,4,zu7⟩
noncomputable def yo9:List S :=
  [.for (.name 1) (.range (.const (.int 8)))
    [.set 2 (.call 5 [(.var 0),(.var 1)]),
     .set 3 (.call 14 [(.var 2)]),
     .set 4 (.call 15 [(.var 3)]),
     .for (.name 5) (.of (.slice (.var 4) none (some (.const (.int 30)))))
       [.ite (.or (.cmp .notNone (.call 1 [(.var 3),(.var 5)]) (.const (.bl true))) (.cmp .notNone (.call 2 [(.var 3),(.var 5)]) (.const (.bl true))))
          [.ret (.const (.bl false))]
          []],
     .for (.name 6) (.range (.const (.int 12)))
       [.set 5 (.call 16 [(.var 2),(.var 3)]),
        .set 7 (.ix (.list false [(.const (.str [71])),(.const (.str [90])),(.const (.str [65,66])),(.const (.str [])),(.const (.str [97])),(.const (.str [122,122])),(.ix (.ix (.var 3) (.const (.int 0))) (.const (.int 0))),(.const (.str [67])),(.const (.str [69]))]) (.call 6 [(.var 2),(.const (.int 9))])),
        .set 8 (.call 6 [(.var 2),(.blt .len [(.var 5)])]),
        .set 9 (.bin .add (.bin .add (.slice (.var 5) none (some (.var 8))) (.tup [(.var 7)])) (.slice (.var 5) (some (.bin .add (.var 8) (.const (.int 1)))) none)),
        .set 10 (.call 13 [(.var 2),(.ix (.var 4) (.call 6 [(.var 2),(.blt .len [(.var 4)])])),(.const (.int 2))]),
        .for (.name 11) (.of (.tup [(.var 5),(.var 9),(.var 10),(.bin .add (.var 5) (.tup [(.var 7)])),(.slice (.var 5) none (some (.neg (.const (.int 1))))),(.blt .list [(.var 5)]),(.ix (.var 5) (.const (.int 0))),(.tup [(.var 5)])]))
          [.ite (.not (.call 18 [(.var 3),(.var 11)]))
             [.ret (.const (.bl false))]
             []]],
     .for (.name 5) (.of (.tup [(.const .non),(.const (.bl true)),(.const (.int 0)),(.const (.str [])),(.tup []),(.list false []),(.tup [(.const .non)]),(.tup [(.const (.int 0)),(.const (.int 0))]),(.tup [(.tup [])])]))
       [.ite (.not (.call 18 [(.var 3),(.var 5)]))
          [.ret (.const (.bl false))]
          []]],
  .ret (.const (.bl true))]
noncomputable def yG2:FD:=⟨1,12,yo9⟩
noncomputable def prog:List FD:=[zD9,zz4,zv2,zt4,zp0,zo4,zo3,zv1,zE8,zy9,zz3,zt7,zD6,zo5,zr0,zq3,zr6,zn5,zu5,yG2]
noncomputable abbrev yo0:Nat:=0
noncomputable abbrev yb6:Nat:=1
noncomputable abbrev zC4:Nat:=2
noncomputable abbrev zT4:Nat:=3
noncomputable abbrev zK5:Nat:=4
noncomputable abbrev yd6:Nat:=5
noncomputable abbrev zn9:Nat:=6
noncomputable abbrev zU3:Nat:=7
noncomputable abbrev yk9:Nat:=8
noncomputable abbrev zI2:Nat:=9
noncomputable abbrev yc7:Nat:=10
noncomputable abbrev zU5:Nat:=11
noncomputable abbrev zF4:Nat:=12
noncomputable abbrev ye7:Nat:=13
noncomputable abbrev zO0:Nat:=14
noncomputable abbrev zP1:Nat:=15
noncomputable abbrev zN2:Nat:=16
noncomputable abbrev zH5:Nat:=17
noncomputable abbrev zE4:Nat:=18
noncomputable abbrev yU7:Nat:=19
noncomputable def zE7 (c l t:Int):zl8:=.dct [(.str [99,101,108,108],.int c),(.str [108,101,102,116],.int l),(.str [116,117,114,110],.int t)]
theorem zX9 {i:Int} (h1:-1000000000000000000≤i) (h2:i≤1000000000000000000):zh4 i=true:=by
 unfold zh4
 exact decide_eq_true ⟨by lia,by lia⟩
theorem zo6 (a b:Int) (h:0<b):0≤a % b∧a % b<b:=⟨Int.emod_nonneg _ (by lia),Int.emod_lt_of_pos _ h⟩
theorem yE4 (W d w:Nat) (c l t m:Int) (st:za6) (hw:zb6 st w=some (zE7 c l t)) (hl:0≤l) (ht:0≤t) (ht2:t≤1000000) (hm:0<m) (hm2:m<1000000000000000000000000000000) :
  ∃ r l',0≤r∧r<m∧0≤l'∧zi1 prog W (d+1) zn9 [.ref w,.p (.int m)] st=.ok (.p (.int r)) (st.set w (zE7 c l' (t+1))):=by
 have g1:=fun o=>zo1 (o:=o) (zm2 hw)
 have s31:zh4 31=true:=by decide
 have s40:zh4 40=true:=by decide
 have st31:zh4 (31 * t)=true:=zX9 (by lia) (by lia)
 have sm:zh4 (48271+40 * t)=true:=zX9 (by lia) (by lia)
 have s6:zh4 69621=true:=by decide
 by_cases h:0<l
 ·refine ⟨l % m,l / m,(zo6 l m hm).1,(zo6 l m hm).2,Int.ediv_nonneg hl (by lia),?_⟩
  rw [zf0 (fd:=zo3) rfl rfl]
  simp [zo3,zs0,hw,zE7,yb9,zL1,h,g1,hm,hm2,ya2]
 ·refine ⟨((((c % 2147483647+31 * t * t+1) * (48271+40 * t) % 2147483629) / 11 * 69621+t) % 998244353 / 7) % m,l,(zo6 _ m hm).1,(zo6 _ m hm).2,hl,?_⟩
  rw [zf0 (fd:=zo3) rfl rfl]
  simp [zo3,zs0,hw,zE7,yb9,zL1,h,g1,hm,hm2,ya2,s31,s40,st31,sm,s6]
theorem yD1 (W d:Nat) (ns:List Int) (k:Int) (st:za6) (h63:ns.length≤63) (hk:0≤k) (hk2:k≤1000000) :
  ∃ c l,0≤l∧zi1 prog W (d+1) yd6 [.p (.lst (ns.map .int)),.p (.int k)] st=.ok (.ref st.length) (st++[zE7 c l 0]):=by
 have s31:zh4 31=true:=by decide
 have s79:zh4 7919=true:=by decide
 have s10:zh4 10=true:=by decide
 have sb:∀ (p:Prop) [Decidable p],zh4 (if p then (1:Int) else 0)=true:=by intro p _;split <;> decide
 have mx:∀ c:Int,0≤(if (0:Int)<c then c else 0):=fun c=>by split <;> lia
 have mul0:∀ (c:Int) (b:Bool),0≤(if (0:Int)<c then c else 0) * (if b=true then 1 else 0):=fun c b=>Int.mul_nonneg (mx c) (by cases b <;> decide)
 have i18:(10:Int) ^ 18=1000000000000000000:=by decide
 by_cases h:(0:Int)<ns.length
 ·have hmod:=zo6 k ns.length h
  obtain ⟨v,hv⟩:∃ v,ns[(k % (ns.length:Int)).toNat]?=some v:=⟨_,List.getElem?_eq_getElem (by lia)⟩
  refine ⟨v+7919 * (k / (ns.length:Int)),(if (0:Int)<v+7919 * (k / (ns.length:Int)) then v+7919 * (k / (ns.length:Int)) else 0) * (if decide ((10:Int) ^ 18≤v+7919 * (k / (ns.length:Int)))=true then 1 else 0),mul0 _ _,?_⟩
  have hl2:(ns.length:Int)<1000000000000000000000000000000:=by lia
  have hix:zk5 ns.length (k % (ns.length:Int))=some (k % (ns.length:Int)).toNat:=by
   unfold zk5;rw [if_pos hmod.1,if_pos hmod.2]
  rw [zf0 (fd:=zo4) rfl rfl]
  have h':0<ns.length:=by lia
  simp [zo4,zs6,s31,s10,s79,sb,zE7,zL1,h,h',hl2,hix,hv,yB4,-Int.reducePow]
 ·have h0:ns.length=0:=by lia
  refine ⟨31 * k,(if (0:Int)<31 * k then 31 * k else 0) * (if decide ((10:Int) ^ 18≤31 * k)=true then 1 else 0),mul0 _ _,?_⟩
  rw [zf0 (fd:=zo4) rfl rfl]
  have h':¬ 0<ns.length:=by lia
  simp [zo4,zs6,s31,s10,sb,zE7,zL1,h,h0,yB4,-Int.reducePow]
def Well (st:za6) (w:Nat) (T:Int):Prop:=∃ c l t,zb6 st w=some (zE7 c l t)∧0≤l∧0≤t∧t≤T
def zj9 (w:Nat) (T:Int) (st st':za6):Prop:=(∃ o,st'=st.set w o)∧Well st' w T
theorem Well.lt {st w T} (h:Well st w T):w<st.length:=by obtain ⟨_,_,_,h,_⟩:=h;exact zm2 h
theorem Well.mono {st w T T'} (h:Well st w T) (g:T≤T'):Well st w T':=by
 obtain ⟨c,l,t,a,b,d,e⟩:=h
 exact ⟨c,l,t,a,b,d,by lia⟩
theorem Well.app {st w T r} (h:Well st w T):Well (st++r) w T:=by
 obtain ⟨c,l,t,a,b⟩:=h
 exact ⟨c,l,t,by rw [zq1 (zm2 a)];exact a,b⟩
theorem zw2 {W D w:Nat} (hD:0<D) {T m:Int} {st:za6} (hw:Well st w T) (hT:T<1000000) (hm:0<m) (hm2:m<1000000000000000000000000000000) :
  Sat (zi1 prog W D zn9 [.ref w,.p (.int m)] st) fun v st'=>(∃ r,v=.p (.int r)∧0≤r∧r<m)∧zj9 w (T+1) st st':=by
 obtain ⟨d,rfl⟩:∃ d,D=d+1:=⟨D - 1,by lia⟩
 obtain ⟨c,l,t,h1,h2,h3,h4⟩:=hw
 obtain ⟨r,l',a1,a2,a3,a4⟩:=yE4 W d w c l t m st h1 h2 h3 (by lia) hm hm2
 exact yU1 a4 ⟨⟨r,rfl,a1,a2⟩,⟨_,rfl⟩,c,l',t+1,zo1 (zm2 h1),a3,by lia,by lia⟩
theorem zj3 {W d w:Nat} {T m:Int} {st:za6} (hw:Well st w T) (hT:T<1000000) (hm:0<m:=by decide) (hm2:m<1000000000000000000000000000000:=by decide) :
  Sat (zi1 prog W (d+1) zn9 [.ref w,.p (.int m)] st) fun v st'=>(∃ r,v=.p (.int r)∧0≤r∧r<m)∧zj9 w (T+1) st st':=zw2 (Nat.succ_pos d) hw hT hm hm2
theorem zj9.trans {w T T' st st1 st2} (h:zj9 w T st st1) (g:zj9 w T' st1 st2):zj9 w T' st st2:=by
 obtain ⟨⟨o,rfl⟩,_⟩:=h
 obtain ⟨⟨o',rfl⟩,q⟩:=g
 exact ⟨⟨o',by simp⟩,q⟩
theorem zj9.refl {w T st} (h:Well st w T):zj9 w T st st:=by
 refine ⟨?_,h⟩
 obtain ⟨c,l,t,a,_⟩:=h
 exact ⟨zE7 c l t,by
  unfold zb6 at a
  obtain ⟨h1,h2⟩:=List.getElem?_eq_some_iff.mp a
  rw [← h2];simp⟩
theorem zj9.len {w T st st'} (h:zj9 w T st st'):st'.length=st.length:=by
 obtain ⟨⟨o,rfl⟩,_⟩:=h;simp
theorem zj9.mono {w T T' st st'} (h:zj9 w T st st') (g:T≤T'):zj9 w T' st st':=⟨h.1,h.2.mono g⟩
theorem zj9.take {w T st st'} (h:zj9 w T st st'):st'.take st.length=st':=by
 rw [← h.len];simp
theorem zs2 {W D w:Nat} (hD:0<D) {T m:Int} {st rs:za6} (hw:Well st w T) (hT:T<1000000) (hm:0<m) (hm2:m<1000000000000000000000000000000) :
  Sat (zi1 prog W D zn9 [.ref w,.p (.int m)] (st++rs)) fun v st'=>(∃ r,v=.p (.int r)∧0≤r∧r<m)∧∃ o,st'=st.set w o++rs∧Well (st.set w o) w (T+1):=by
 refine (zw2 hD hw.app hT hm hm2).mono ?_
 rintro v st' ⟨h,⟨o,rfl⟩,hw'⟩
 refine ⟨h,o,List.set_append_left _ _ hw.lt,?_⟩
 rw [List.set_append_left _ _ hw.lt] at hw'
 obtain ⟨c,l,t,a,b⟩:=hw'
 exact ⟨c,l,t,by rw [zq1 (by simpa using hw.lt)] at a;exact a,b⟩
theorem zj9.cut {w T st st'} (h:zj9 w T st st'):zj9 w T st (st'.take st.length):=by rw [h.take];exact h
theorem zj9.unapp {w T st rs st'} (h:zj9 w T (st++rs) st') (hw:w<st.length):∃ o,st'=st.set w o++rs∧Well (st.set w o) w T:=by
 obtain ⟨⟨o,rfl⟩,hw'⟩:=h
 refine ⟨o,List.set_append_left _ _ hw,?_⟩
 rw [List.set_append_left _ _ hw] at hw'
 obtain ⟨c,l,t,a,b⟩:=hw'
 exact ⟨c,l,t,by rw [zq1 (by simpa using hw)] at a;exact a,b⟩
noncomputable def yw5 (cs:List Nat):Bool:=decide (1≤cs.length)&&decide (cs.length≤8)&&cs.all fun c=>decide (97≤c∧c≤122)
def zh8 (ns:List (List Nat)):Prop:=ns.Nodup∧∀ n∈ns,yw5 n=true
theorem zh8.perm {a b} (h:zh8 a) (p:List.Perm b a):zh8 b:=⟨p.nodup_iff.mpr h.1,fun n hn=>h.2 n (p.mem_iff.mp hn)⟩
theorem zh8.take {a} (h:zh8 a) (k:Nat):zh8 (a.take k):=⟨h.1.sublist (List.take_sublist _ _),fun n hn=>h.2 n (List.mem_of_mem_take hn)⟩
noncomputable def zw1:List S:=zi8.drop 6
theorem yb4 {W d w n k:Nat} {T:Int} {m:Nat} {st0 st:za6} {ns:List (List Nat)} {x2 x3 x4 x6 x7 x8 x9 x10:Option Val}
  (hw:w<n) (hnk:n≤k) (hd:zj9 w T st0 (st.take n)) (hT:T+2≤1000000) (hk:zb6 st k=some (.lst (ns.map .str))) (h8:ns.length=8) (hg:zh8 ns) (hm:m≤8) :
  Sat (execSs (zi1 prog W (d+1)) W zw1 [some (.ref w),some (.p (.int m)),x2,x3,x4,some (.ref k),x6,x7,x8,x9,x10] st)
   fun f st'=>∃ ns',f=.ret (.p (.lst (ns'.map .str)))∧ns'.length=m∧zh8 ns'∧zj9 w (T+2) st0 (st'.take n):=by
 have hwl:Well st w T:=by
  have:=hd.2.app (r:=st.drop n)
  rwa [List.take_append_drop] at this
 simp only [zw1,zi8,List.drop_succ_cons,List.drop_zero]
 apply za3
 simp! []
 refine (zj3 hwl (by lia)).mono ?_
 rintro _ st1 ⟨⟨r,rfl,hr0,hr1⟩,⟨o1,rfl⟩,hw1⟩
 apply za3
 have hk1:zb6 (st.set w o1) k=some (.lst (ns.map .str)):=by rw [zr4 (by lia)];exact hk
 simp! [op1,zi4 hk1,sliceOp,zu4,zs4 _ _ hr0,zt1 _ _ hr0,zj5,h8]
 have hl:(8 - r.toNat+min r.toNat 8)=8:=by lia
 simp! [hl,zj5]
 dsimp! only
 have hp:=zL0 ns r.toNat
 have hg2:=hg.perm hp
 have h82:(ns.drop r.toNat++ns.take r.toNat).length=8:=by rw [hp.length_eq];exact h8
 rw [← List.map_drop,← List.map_take,← List.map_append]
 generalize ns.drop r.toNat++ns.take r.toNat=ns2 at hg2 h82
 apply za3
 simp! []
 refine (zj3 hw1.app (by lia)).mono ?_
 rintro _ st2 ⟨⟨q,rfl,hq0,hq1⟩,⟨o2,rfl⟩,hw2⟩
 have hwn:w<st.length:=hwl.lt
 have hkn:k<st.length:=zm2 hk
 have hS:((st.set w o1++[zl8.lst (List.map PV.str ns2)]).set w o2)=st.set w o2++[zl8.lst (List.map PV.str ns2)]:=by
  rw [List.set_append_left _ _ (by simpa using hwn)];simp
 rw [hS] at hw2 ⊢
 have hD:∀ r,zj9 w (T+2) st0 (List.take n (st.set w o2++r)):=by
  intro r
  rw [List.take_append_of_le_length (by simp;lia),List.take_set]
  obtain ⟨⟨o0,h0⟩,-⟩:=hd
  refine ⟨⟨o2,?_⟩,?_⟩
  ·rw [h0];simp
  ·obtain ⟨c,l,t,a,b⟩:=hw2
   refine ⟨c,l,t,?_,by lia⟩
   rw [zq1 (by simpa using hwn),zo1 hwn] at a
   rw [zo1 (by simp;lia)];exact a
 have ho:zb6 (st.set w o2++[zl8.lst (List.map PV.str ns2)]) st.length=some (.lst (ns2.map .str)):=zj7 (by simp)
 have hm0:(0:Int)≤m:=by lia
 by_cases hq:q=0
 ·subst hq
  simp! [pyEq]
  apply za3
  simp! [zi4 ho,zv5 ho,zB7]
  apply za3
  have ho2:zb6 (st.set w o2++[zl8.lst (List.map PV.str ns2).reverse]) st.length=some (.lst (ns2.reverse.map .str)):=by
   rw [List.map_reverse];exact zj7 (by simp)
  simp! [op1,zi4 ho2,sliceOp,zu4,zt1 _ _ hm0]
  exact ⟨ns2.reverse.take m,by simp,by simp;lia,(hg2.perm (List.reverse_perm _)).take m,hD _⟩
 ·simp! [pyEq,hq]
  apply za3
  simp! [op1,zi4 ho,sliceOp,zu4,zt1 _ _ hm0]
  exact ⟨ns2.take m,by simp,by simp;lia,hg2.take m,hD _⟩
noncomputable def L52:List Nat:=[97,98,99,100,101,102,103,104,105,106,107,108,109,110,111,112,113,114,115,116,117,118,119,120,121,122,97,98,99,100,101,102,103,104,105,106,107,108,109,110,111,112,113,114,115,116,117,118,119,120,121,122]
noncomputable instance (ns):Decidable (zh8 ns):=by unfold zh8;infer_instance
noncomputable def xa3 (s:Nat):List (List Nat):=(List.range 8).map fun k=>(L52.drop s).take (1+k)
noncomputable def xb0 (s z a:Nat):List (List Nat):=(List.range 8).map fun k=>(L52.drop s).take a++((L52.drop ((s+3 * k) % 26)).take 1)++(L52.drop (s+a+1)).take (z - a - 1)
theorem yN8:L52.all (fun c=>decide (97≤c∧c≤122))=true:=by decide
theorem yZ8 {l:List Nat} (h:∀ c∈l,c∈L52):l.all (fun c=>decide (97≤c∧c≤122))=true:=by
 rw [List.all_eq_true]
 exact fun c hc=>List.all_eq_true.mp yN8 c (h c hc)
theorem yV4 {s z:Nat}:∀ c∈(L52.drop s).take z,c∈L52:=fun c hc=>List.mem_of_mem_drop (List.mem_of_mem_take hc)
theorem zQ0 {α β:Type} {f:α→β} {l:List α} (h:l.Nodup) (hf:∀ a b,f a=f b→a=b):(l.map f).Nodup:=by
 unfold List.Nodup at *
 rw [List.pairwise_map]
 exact h.imp fun hab hfab=>hab (hf _ _ hfab)
theorem yj0:∀ s,s<26→zh8 (xa3 s):=by decide +kernel
theorem yt6:∀ s,s<26→((List.range 8).map fun k=>(L52.drop ((s+3 * k) % 26)).take 1).Nodup:=by decide +kernel
theorem tn1 {a b:Int} (ha:0≤a) (hb:0≤b):(a+b).toNat - a.toNat=b.toNat:=by rw [Int.toNat_add ha hb,Nat.add_sub_cancel_left]
theorem tn2 {a b:Int} (ha:0≤a) (hb:0≤b):(a+b+1).toNat=a.toNat+b.toNat+1:=by rw [Int.toNat_add (Int.add_nonneg ha hb) (by decide),Int.toNat_add ha hb];rfl
theorem tn3 {a c:Int} {b:Nat} (ha:0≤a) (hc:0≤c):(a+(1+c)).toNat - (a.toNat+b+1)=(1+c).toNat - b - 1:=by
 obtain ⟨n,rfl⟩:=Int.eq_ofNat_of_zero_le ha
 obtain ⟨m,rfl⟩:=Int.eq_ofNat_of_zero_le hc
 show ((n+(1+m):Nat):Int).toNat - _=((1+m:Nat):Int).toNat - _ - 1
 rw [Int.toNat_natCast,Int.toNat_natCast,Int.toNat_natCast]
 lia
theorem tn4 {a:Int} {k:Nat} (ha:0≤a):((a+3 * (k:Int)) % 26).toNat=(a.toNat+3 * k) % 26:=by
 obtain ⟨n,rfl⟩:=Int.eq_ofNat_of_zero_le ha
 show (((n+3 * k) % 26:Nat):Int).toNat=_
 rw [Int.toNat_natCast,Int.toNat_natCast]
theorem mn1 {a b:Nat}:min a (52 - b)+1≤16777216:=Nat.le_trans (Nat.succ_le_succ (Nat.le_trans (Nat.min_le_right _ _) (Nat.sub_le _ _))) (by decide)
theorem mn2 {a b c d:Nat}:min a (52 - b)+1+min c (51 - d)≤16777216:=Nat.le_trans (Nat.add_le_add (Nat.succ_le_succ (Nat.le_trans (Nat.min_le_right _ _) (Nat.sub_le _ _))) (Nat.le_trans (Nat.min_le_right _ _) (Nat.sub_le _ _))) (by decide:53+51≤16777216)
theorem ym2 (s:Nat) (hs:s<26) (z:Nat) (hz:z<9) (a:Nat) (ha:a<z):zh8 (xb0 s z a):=by
 constructor
 ·have h:=zQ0 (f:=fun x=>(L52.drop s).take a++x++(L52.drop (s+a+1)).take (z - a - 1)) (yt6 s hs) fun x y h=>by simpa using h
  rw [List.map_map] at h
  exact h
 ·intro n hn
  obtain ⟨k,hk,rfl⟩:=List.mem_map.mp hn
  have hl:L52.length=52:=by decide
  have hk8:(s+3 * k) % 26<26:=Nat.mod_lt _ (by lia)
  have h1:((L52.drop s).take a++((L52.drop ((s+3 * k) % 26)).take 1)++(L52.drop (s+a+1)).take (z - a - 1)).length=z:=by
   simp [hl];lia
  unfold yw5
  rw [h1,yZ8]
  ·simp;lia
  ·intro c hc
   simp only [List.mem_append] at hc
   rcases hc with (hc | hc) | hc <;> exact yV4 c hc
noncomputable def yH1:List (List Nat):=[[110,117,109],[110,117,109,98],[108,111,119],[114,111,119,115],[115,101,116],[97,115,107,115],[112,117,116],[111,102]]
theorem zq0 {W D w:Nat} {T:Int} {m:Nat} {st:za6} (hD:2≤D) (hw:Well st w T) (hT:T+6≤1000000) (hm:m≤8) :
  Sat (zi1 prog W D zU3 [.ref w,.p (.int m)] st) fun v st'=>(∃ ns,v=.p (.lst (ns.map .str))∧ns.length=m∧zh8 ns)∧zj9 w (T+6) st st':=by
 obtain ⟨d,rfl⟩:∃ d,D=d+2:=⟨D - 2,by lia⟩
 have hwn:=hw.lt
 rw [zf0 (fd:=zv1) rfl rfl]
 rw [zd8]
 have fin:∀ f st',(∃ ns',f=Flow.ret (.p (.lst (ns'.map .str)))∧ns'.length=m∧zh8 ns'∧zj9 w (T+6) st (st'.take st.length))→Sat (yg0 st.length f st') fun v st'=>(∃ ns,v=.p (.lst (ns.map .str))∧ns.length=m∧zh8 ns)∧zj9 w (T+6) st st':=by
  rintro f st' ⟨ns',rfl,h1,h2,h3⟩
  simp only [zN1,yX2,sat_ok]
  exact ⟨⟨ns',rfl,h1,h2⟩,h3⟩
 refine Sat.mono ?_ fin
 clear fin
 simp only [zv1,List.map_cons,List.map_nil,List.cons_append,List.nil_append,Nat.reduceSub,List.replicate]
 rw [show zi8=zi8.take 6++zw1 from rfl,yc6,zd8]
 simp only [zi8,List.take_succ_cons,List.take_zero]
 have hmul:xb3 (.str [97,98,99,100,101,102,103,104,105,106,107,108,109,110,111,112,113,114,115,116,117,118,119,120,121,122]) (.int 2)=some (.str L52):=by simp [zj5,L52,List.replicate]
 have hl52:L52.length=52:=by decide
 have s3:zh4 3=true:=by decide
 apply za3
 simp! [hmul,-xb3]
 apply za3
 simp! []
 refine (zj3 hw (by lia)).mono ?_
 rintro _ _ ⟨⟨r3,rfl,h30,h31⟩,⟨o3,rfl⟩,hw3⟩
 apply za3
 simp! []
 refine (zj3 hw3 (by lia)).mono ?_
 rintro _ _ ⟨⟨r4,rfl,h40,h41⟩,⟨o4,rfl⟩,hw4⟩
 rw [List.set_set] at hw4 ⊢
 apply za3
 simp! []
 dsimp! only
 have hw4':Well (st.set w o4) w (T+2):=hw4.mono (by lia)
 clear hw4 hw3
 -- behind both ways: the list,at its place
 have fin:∀ (k:Nat) (ns:List (List Nat)) (T':Int) (o:zl8) (rs:List zl8) x3 x4 x6 x7 x8 x9 x10,T'≤T+4→Well (st.set w o) w T'→zb6 (st.set w o++rs) k=some (.lst (ns.map .str))→st.length≤k→ns.length=8→zh8 ns →
   Sat (execSs (zi1 prog W (d+1)) W zw1 [some (.ref w),some (.p (.int m)),some (.p (.str L52)),x3,x4,some (.ref k),x6,x7,x8,x9,x10] (st.set w o++rs)) fun a st_3=>∃ ns',a=Flow.ret (Val.p (PV.lst (List.map PV.str ns')))∧ns'.length=m∧zh8 ns'∧zj9 w (T+6) st (List.take (List.length st) st_3):=by
  intro k ns T' o rs x3 x4 x6 x7 x8 x9 x10 hT' hw' hk hlk h8 hg
  refine (yb4 (n:=st.length) (st0:=st) (T:=T+4) hwn hlk ?_ (by lia) hk h8 hg hm).mono fun f st' h=>?_
  ·rw [List.take_append_of_le_length (by simp),List.take_of_length_le (by simp)]
   exact ⟨⟨o,rfl⟩,hw'.mono hT'⟩
  ·obtain ⟨ns',h1,h2,h3,h4⟩:=h
   exact ⟨ns',h1,h2,h3,h4.mono (by lia)⟩
 by_cases c0:r3=0
 ·subst c0
  refine zo9 rfl ?_
  apply za3
  simp! [zA2]
  rw [zj2 (fun k:Nat=>PV.int k) (fun k=>PV.str ((L52.drop r4.toNat).take (1+k))) (fun env=>∃ v,env=[some (.p (.str L52)),some (.p (.int r4)),v]) _ _ _ ⟨_,rfl⟩ ?_]
  ·simp! []
   dsimp! only
   skip
   apply za3
   simp! [pyEq]
   dsimp! only
   exact fin _ (xa3 r4.toNat) (T+2) _ _ _ _ _ _ _ _ _ (by lia) hw4' (by simp [zb6,xa3]) (by simp) (by simp [xa3]) (yj0 _ (by lia))
  ·rintro k hk env ⟨v,rfl⟩
   refine ⟨_,rfl,⟨_,rfl⟩,?_⟩
   have hk8:k<8:=List.mem_range.mp hk
   simp! [sliceOp]
   rw [zS3 _ _ _ h40 (by lia) (by rw [hl52];lia)]
   rw [show (r4+1+(k:Int)).toNat - r4.toNat=1+k by lia]
 ·apply za3
  simp! [pyEq,c0]
  dsimp! only
  by_cases c1:r3=1
  ·subst c1
   refine zo9 rfl ?_
   apply za3
   simp! []
   refine (zs2 (by lia) hw4' (by lia) (by lia) (by lia)).mono ?_
   rintro _ _ ⟨⟨r6,rfl,h60,h61⟩,o6,rfl,hw6⟩
   rw [List.set_set] at hw6 ⊢
   simp! []
   apply za3
   simp! []
   refine (zs2 (by lia) hw6 (by lia) (by lia) (by lia)).mono ?_
   rintro _ _ ⟨⟨r7,rfl,h70,h71⟩,o7,rfl,hw7⟩
   rw [List.set_set] at hw7 ⊢
   apply za3
   simp! [sliceOp]
   rw [zS3 _ _ _ h40 (by lia) (by rw [hl52];lia),tn1 h40 h70]
   apply za3
   simp! [sliceOp]
   rw [zS3 _ _ _ (by lia) (by lia) (by rw [hl52];lia),tn2 h40 h70,tn3 h40 h60]
   apply za3
   simp! [zA2]
   rw [zj2 (fun k:Nat=>PV.int k) (fun k=>PV.str ((L52.drop r4.toNat).take r7.toNat++((L52.drop ((r4.toNat+3 * k) % 26)).take 1)++(L52.drop (r4.toNat+r7.toNat+1)).take ((1+r6).toNat - r7.toNat - 1)))
    (fun env=>∃ v,env=[some (.p (.str L52)),some (.p (.int r4)),some (.p (.str ((L52.drop r4.toNat).take r7.toNat))),some (.p (.str ((L52.drop (r4.toNat+r7.toNat+1)).take ((1+r6).toNat - r7.toNat - 1)))),v]) _ _ _ ⟨_,rfl⟩ ?_]
   ·simp! []
    dsimp! only
    exact fin _ (xb0 r4.toNat (1+r6).toNat r7.toNat) (T+4) _ _ _ _ _ _ _ _ _ (by lia) (hw7.mono (by lia)) (by simp [zb6,xb0]) (by simp) (by simp [xb0]) (ym2 _ (by lia) _ (by lia) _ (by lia))
   ·rintro k hk env ⟨v,rfl⟩
    refine ⟨_,rfl,⟨_,rfl⟩,?_⟩
    have hk8:k<8:=List.mem_range.mp hk
    have hmod:=zo6 (r4+3 * k) 26 (by lia)
    obtain ⟨x,x1,x2,x3⟩:=yd3 L52 ((r4+3 * k) % 26) hmod.1 (by rw [hl52];lia)
    have hn:((r4+3 * (k:Int)) % 26).toNat=(r4.toNat+3 * k) % 26:=tn4 h40
    have hx:(L52.drop ((r4.toNat+3 * k) % 26)).take 1=[x]:=by
     rw [← hn,List.take_one,List.head?_drop,x1];rfl
    rw [hx]
    rw [hl52] at x3
    simp! [s3,x1,x3,hl52]
    rw [if_pos (zj5 mn1)]
    simp! [hl52]
    rw [if_pos (zj5 mn2)]
    rfl
  ·apply za3
   simp! [pyEq,c1]
   dsimp! only
   exact fin _ yH1 (T+2) _ _ _ _ _ _ _ _ _ (by lia) hw4' (by simp [zb6,yH1]) (by simp) (by simp [yH1]) (by decide +kernel)
inductive Ord where
 | num
 | low
 | chain (ns:List (List Nat))
 | set (ns:List (List Nat))
 | web (ns:List (List Nat)) (ps:List (List Nat×List Nat))
 | row (os:List Ord)
 | newer (o:Ord)
mutual
noncomputable def enc:Ord→PV
 | .num=>.tup [.str [110,117,109]]
 | .low=>.tup [.str [108,111,119]]
 | .chain ns=>.tup [.str [99,104,97,105,110],.tup (ns.map .str)]
 | .set ns=>.tup [.str [115,101,116],.tup (ns.map .str)]
 | .web ns ps=>.tup [.str [119,101,98],.tup (ns.map .str),.tup (ps.map fun p=>.tup [.str p.1,.str p.2])]
 | .row os=>.tup [.str [114,111,119],.tup (encs os)]
 | .newer o=>.tup [.str [110,101,119,101,114],enc o]
noncomputable def encs:List Ord→List PV
 | []=>[]
 | o::r=>enc o::encs r
end
theorem yg2:∀ os,encs os=os.map enc
 | []=>by rw [encs];rfl
 | o::r=>by rw [encs,yg2 r];rfl
theorem zW0:enc .num=.tup [.str [110,117,109]]:=by rw [enc]
theorem yj9:enc .low=.tup [.str [108,111,119]]:=by rw [enc]
theorem zN6 {ns}:enc (.chain ns)=.tup [.str [99,104,97,105,110],.tup (ns.map .str)]:=by rw [enc]
theorem yj7 {ns}:enc (.set ns)=.tup [.str [115,101,116],.tup (ns.map .str)]:=by rw [enc]
theorem yq0 {ns ps}:enc (.web ns ps)=.tup [.str [119,101,98],.tup (ns.map .str),.tup (ps.map fun p=>.tup [.str p.1,.str p.2])]:=by rw [enc]
theorem zD2 {os}:enc (.row os)=.tup [.str [114,111,119],.tup (os.map enc)]:=by rw [enc,yg2]
theorem zw8 {o}:enc (.newer o)=.tup [.str [110,101,119,101,114],enc o]:=by rw [enc]
mutual
noncomputable def dpt:Ord→Nat
 | .row os=>dpts os+1
 | .newer o=>dpt o+1
 | _=>1
noncomputable def dpts:List Ord→Nat
 | []=>0
 | o::r=>max (dpt o) (dpts r)
end
theorem zK9 {o:Ord}:∀ {os:List Ord},o∈os→dpt o≤dpts os
 | [],h=>by cases h
 | x::r,h=>by
  rw [dpts]
  rcases List.mem_cons.mp h with rfl | h
  ·lia
  ·have:=zK9 h;lia
theorem zK4 {d:Nat}:∀ {os:List Ord},(∀ o∈os,dpt o≤d)→dpts os≤d
 | [],_=>by rw [dpts];lia
 | x::r,h=>by
  rw [dpts]
  have h1:=h x (by simp)
  have h2:=zK4 (d:=d) (os:=r) fun o ho=>h o (List.mem_cons_of_mem _ ho)
  lia
theorem yH5:∀ o:Ord,1≤dpt o
 | .row os=>by rw [dpt];lia
 | .newer o=>by rw [dpt];lia
 | .num=>by rw [dpt] <;> simp
 | .low=>by rw [dpt] <;> simp
 | .chain _=>by rw [dpt] <;> simp
 | .set _=>by rw [dpt] <;> simp
 | .web _ _=>by rw [dpt] <;> simp
noncomputable def shp:List (List (Nat×Nat)):=[[(0,1)],[(0,1),(1,2),(0,2)],[(0,1),(0,2),(1,3),(2,3)],[(0,1),(0,2),(0,3),(1,4),(2,4),(3,4)],
 [(0,1),(1,2),(2,4),(0,3),(3,4)],[(0,1),(1,2),(2,5),(0,3),(3,4),(4,5),(0,5)],[(0,1),(0,2),(0,3),(1,4),(2,4),(2,5),(3,5),(4,6),(5,6)]]
noncomputable def zp5 (rows:List (Nat×Nat)):Nat:=1+rows.foldl (fun m p=>max m p.2) 0
noncomputable def rot {α:Type} (k:Nat) (xs:List α):List α:=xs.drop k++xs.take k
noncomputable def yu7 (rows:List (Nat×Nat)) (sh at':Nat) (ns:List (List Nat)):List (List Nat×List Nat) :=
 (rot at' rows).map fun p=>((rot sh ns).getD p.1 [],(rot sh ns).getD p.2 [])
def yB9 (ns:List (List Nat)) (ps:List (List Nat×List Nat)):Prop :=
 zh8 ns∧∃ rows∈shp,∃ sh at',sh<zp5 rows∧at'<rows.length∧ns.length=zp5 rows∧ps=yu7 rows sh at' ns
mutual
noncomputable def ok:Ord→Prop
 | .num=>True
 | .low=>True
 | .chain ns=>zh8 ns∧2≤ns.length∧ns.length≤6
 | .set ns=>zh8 ns∧1≤ns.length∧ns.length≤5
 | .web ns ps=>yB9 ns ps
 | .row os=>1≤os.length∧os.length≤3∧oks os
 | .newer o=>ok o
noncomputable def oks:List Ord→Prop
 | []=>True
 | o::r=>ok o∧oks r
end
theorem yl0:∀ {os},oks os↔∀ o∈os,ok o
 | []=>by rw [oks];simp
 | o::r=>by rw [oks,yl0];simp
theorem zN7 {os}:ok (.row os)↔1≤os.length∧os.length≤3∧∀ o∈os,ok o:=by rw [ok,yl0]
theorem zx1 {o}:ok (.newer o)↔ok o:=by rw [ok]
theorem zX1:∀ rows∈shp,2≤zp5 rows∧zp5 rows≤7∧1≤rows.length∧rows.length≤9∧∀ p∈rows,p.1<zp5 rows∧p.2<zp5 rows:=by decide
noncomputable def yx7 (p:Nat×Nat):PV:=.tup [.int p.1,.int p.2]
theorem yJ9:∀ rows∈shp,yR1 (rows.map fun p=>PV.int p.2)=some (.int ((zp5 rows:Int) - 1)):=by
 intro rows h
 simp only [shp,List.mem_cons,List.not_mem_nil,or_false] at h
 rcases h with rfl | rfl | rfl | rfl | rfl | rfl | rfl <;> rfl
theorem zO5 {n} (h:yw5 n=true):1≤n.length∧n.length≤8:=by
 unfold yw5 at h;simp at h;lia
theorem yl9 {n} (h:yw5 n=true):n.all okC=true:=by
 unfold yw5 at h
 simp only [Bool.and_eq_true] at h
 rw [List.all_eq_true] at *
 intro c hc
 have:=h.2 c hc
 simp at this
 unfold okC
 simp;lia
theorem zD7 {ns:List (List Nat)} (h:∀ n∈ns,yw5 n=true):wts (ns.map .str)≤12 * ns.length:=by
 induction ns with
 | nil=>simp
 | cons n r ih =>
  have h1:=zO5 (h n (by simp))
  have h2:=ih fun x hx=>h x (List.mem_cons_of_mem _ hx)
  simp;lia
theorem zU0 {α:Type} {k:Nat} {xs:List α} {x:α}:x∈rot k xs↔x∈xs:=(zL0 xs k).mem_iff
theorem zT6 {α:Type} {k:Nat} {xs:List α}:(rot k xs).length=xs.length:=(zL0 xs k).length_eq
theorem yD9 {W D w:Nat} {T:Int} {st:za6} (hD:3≤D) (hw:Well st w T) (hT:T+9≤1000000) :
  Sat (zi1 prog W D yk9 [.ref w] st) fun v st'=>(∃ ns ps,v=.p (enc (.web ns ps))∧yB9 ns ps)∧zj9 w (T+9) st st':=by
 obtain ⟨d,rfl⟩:∃ d,D=d+3:=⟨D - 3,by lia⟩
 have hwn:=hw.lt
 rw [zf0 (fd:=zE8) rfl rfl,zd8]
 simp! only [zE8,zD4]
 apply za3
 simp! []
 apply za3
 simp! [view,zM5,zt9,yj1]
 apply za3
 simp! [view,zM5,zt9,yj1]
 apply za3
 simp! [view,zM5,zt9,yj1]
 apply za3
 simp! [view,zM5,zt9,yj1]
 dsimp! only
 obtain ⟨L,hL⟩:∃ L,L=shp.map fun rows=>PV.tup (rows.map yx7):=⟨_,rfl⟩
 have hL':[PV.tup [PV.tup [PV.int 0,PV.int 1]],PV.tup [PV.tup [PV.int 0,PV.int 1],PV.tup [PV.int 1,PV.int 2],PV.tup [PV.int 0,PV.int 2]],PV.tup [PV.tup [PV.int 0,PV.int 1],PV.tup [PV.int 0,PV.int 2],PV.tup [PV.int 1,PV.int 3],PV.tup [PV.int 2,PV.int 3]],PV.tup [PV.tup [PV.int 0,PV.int 1],PV.tup [PV.int 0,PV.int 2],PV.tup [PV.int 0,PV.int 3],PV.tup [PV.int 1,PV.int 4],PV.tup [PV.int 2,PV.int 4],PV.tup [PV.int 3,PV.int 4]],PV.tup [PV.tup [PV.int 0,PV.int 1],PV.tup [PV.int 1,PV.int 2],PV.tup [PV.int 2,PV.int 4],PV.tup [PV.int 0,PV.int 3],PV.tup [PV.int 3,PV.int 4]],PV.tup [PV.tup [PV.int 0,PV.int 1],PV.tup [PV.int 1,PV.int 2],PV.tup [PV.int 2,PV.int 5],PV.tup [PV.int 0,PV.int 3],PV.tup [PV.int 3,PV.int 4],PV.tup [PV.int 4,PV.int 5],PV.tup [PV.int 0,PV.int 5]],PV.tup [PV.tup [PV.int 0,PV.int 1],PV.tup [PV.int 0,PV.int 2],PV.tup [PV.int 0,PV.int 3],PV.tup [PV.int 1,PV.int 4],PV.tup [PV.int 2,PV.int 4],PV.tup [PV.int 2,PV.int 5],PV.tup [PV.int 3,PV.int 5],PV.tup [PV.int 4,PV.int 6],PV.tup [PV.int 5,PV.int 6]]]=L:=by rw [hL];rfl
 rw [hL']
 clear hL'
 apply za3
 simp! []
 refine (zs2 (by lia) hw (by lia) (by lia) (by lia)).mono ?_
 rintro _ _ ⟨⟨r1,rfl,h10,h11⟩,o1,rfl,hw1⟩
 have hLl:L.length=7:=by rw [hL];rfl
 obtain ⟨x,hx1,hx2,hx3⟩:=yd3 L r1 h10 (by rw [hLl];lia)
 rw [hL] at hx2
 obtain ⟨rows,hrows,rfl⟩:=List.mem_map.mp hx2
 obtain ⟨hm2,hm7,hr1,hr9,hrm⟩:=zX1 rows hrows
 clear hL
 simp! [view,zj7,hx3,hx1]
 apply za3
 simp! []
 rw [zj2 yx7 (fun p=>PV.int p.2) (fun env=>∃ v,env=[v]) _ _ _ ⟨_,rfl⟩ ?g1]
 case g1 =>
  rintro p hp env ⟨v,rfl⟩
  refine ⟨_,rfl,⟨_,rfl⟩,?_⟩
  simp! [yx7,zk5]
 simp! [bfOp,yJ9 rows hrows]
 rw [show (1:Int)+((zp5 rows:Int) - 1)=zp5 rows by lia]
 apply za3
 simp! []
 refine Sat.k1 (zq0 (by lia) hw1.app (by lia) (by lia)) fun ns _ hnl hns hd=>?_
 obtain ⟨o2,rfl,hw2⟩:=hd.unapp (by simpa using hwn)
 rw [List.set_set] at hw2 ⊢
 clear hd
 apply za3
 simp! []
 refine (zs2 (by lia) hw2 (by lia) (by lia) (by lia)).mono ?_
 rintro _ _ ⟨⟨r3,rfl,h30,h31⟩,o3,rfl,hw3⟩
 rw [List.set_set] at hw3 ⊢
 apply za3
 simp! [bfOp]
 refine (zs2 (by lia) hw3 (by lia) (by lia) (by lia)).mono ?_
 rintro _ _ ⟨⟨r4,rfl,h40,h41⟩,o4,rfl,hw4⟩
 rw [List.set_set] at hw4 ⊢
 apply za3
 have z1:ns.length - r3.toNat+min r3.toNat ns.length≤SZ:=zj5 (by lia)
 simp! [sliceOp,zu4,zs4 _ _ h30,zt1 _ _ h30,z1]
 apply za3
 have z2:rows.length - r4.toNat+min r4.toNat rows.length≤SZ:=zj5 (by lia)
 simp! [sliceOp,zu4,zs4 _ _ h40,zt1 _ _ h40,z2]
 rw [← List.map_drop,← List.map_take,← List.map_append,← List.map_drop,← List.map_take,← List.map_append]
 rw [show rows.drop r4.toNat++rows.take r4.toNat=rot r4.toNat rows from rfl,show ns.drop r3.toNat++ns.take r3.toNat=rot r3.toNat ns from rfl]
 rw [zj2 yx7 (fun p=>PV.tup [.str ((rot r3.toNat ns).getD p.1 []),.str ((rot r3.toNat ns).getD p.2 [])]) (fun env=>∃ v v',env=[some (.p (.lst ((rot r3.toNat ns).map .str))),v,v']) _ _ _ ⟨_,_,rfl⟩ ?g2]
 case g2 =>
  rintro p hp env ⟨v,v',rfl⟩
  have hpm:=hrm p (zU0.mp hp)
  have hrl:(rot r3.toNat ns).length=zp5 rows:=by rw [zT6,hnl]
  have q:∀ k:Nat,k<zp5 rows→∃ a,(rot r3.toNat ns).getD k []=a∧zk5 (rot r3.toNat ns).length (k:Int)=some k∧(rot r3.toNat ns)[k]?=some a:=by
   intro k hk
   refine ⟨_,rfl,?_,?_⟩
   ·unfold zk5;rw [if_pos (by lia),if_pos (by lia)];simp
   ·rw [List.getD_eq_getElem?_getD,List.getElem?_eq_getElem (by lia)];rfl
  obtain ⟨a,a1,a2,a3⟩:=q _ hpm.1
  obtain ⟨b,b1,b2,b3⟩:=q _ hpm.2
  rw [a1,b1]
  refine ⟨_,rfl,⟨_,_,rfl⟩,?_⟩
  simp! [a2,b2,a3,b3]
 simp! []
 apply za3
 simp! [bfOp]
 refine ⟨⟨ns,yu7 rows r3.toNat r4.toNat ns,?_,hns,rows,hrows,r3.toNat,r4.toNat,by lia,by lia,hnl,rfl⟩,?_⟩
 ·rw [yq0];simp [yu7]
 ·exact ⟨⟨o4,rfl⟩,hw4.mono (by lia)⟩
open OR
theorem yD6 {P:Ord→Prop} (hnum:P .num) (hlow:P .low) (hch:∀ ns,P (.chain ns)) (hset:∀ ns,P (.set ns)) (hweb:∀ ns ps,P (.web ns ps))
  (hrow:∀ os,(∀ o∈os,P o)→P (.row os)) (hnew:∀ o,P o→P (.newer o)):∀ o,P o:=by
 have key:∀ n o,dpt o≤n→P o:=by
  intro n
  induction n with
  | zero=>intro o h;have:=yH5 o;lia
  | succ n ih =>
   intro o h
   cases o with
   | num=>exact hnum
   | low=>exact hlow
   | chain ns=>exact hch ns
   | set ns=>exact hset ns
   | web ns ps=>exact hweb ns ps
   | row os=>rw [dpt] at h;exact hrow os fun o ho=>ih o (by have:=zK9 ho;lia)
   | newer o=>rw [dpt] at h;exact hnew o (ih o (by lia))
 exact fun o=>key _ o (Nat.le_refl _)
theorem zF9 {os}:dpt (.row os)=dpts os+1:=by rw [dpt]
theorem zr8 {o}:dpt (.newer o)=dpt o+1:=by rw [dpt]
@[simp] theorem xg7:dpt .num=1:=by rw [dpt] <;> simp
@[simp] theorem xi7:dpt .low=1:=by rw [dpt] <;> simp
@[simp] theorem yP8 {ns}:dpt (.chain ns)=1:=by rw [dpt] <;> simp
@[simp] theorem xh9 {ns}:dpt (.set ns)=1:=by rw [dpt] <;> simp
@[simp] theorem xe7 {ns ps}:dpt (.web ns ps)=1:=by rw [dpt] <;> simp
theorem yi4 {ns ps} (h:yB9 ns ps):ps.length≤9∧ns.length≤7∧2≤ns.length∧∀ p∈ps,p.1∈ns∧p.2∈ns:=by
 obtain ⟨hg,rows,hr,sh,at',h1,h2,h3,rfl⟩:=h
 obtain ⟨m2,m7,r1,r9,hm⟩:=zX1 rows hr
 refine ⟨by simp [yu7,zT6];lia,by lia,by lia,?_⟩
 intro p hp
 obtain ⟨q,hq,rfl⟩:=List.mem_map.mp hp
 have hq':=hm q (zU0.mp hq)
 have g:∀ k,k<zp5 rows→(rot sh ns).getD k []∈ns:=by
  intro k hk
  rw [← zU0 (k:=sh),List.getD_eq_getElem?_getD,List.getElem?_eq_getElem (by rw [zT6];lia)]
  exact List.getElem_mem _
 exact ⟨g _ hq'.1,g _ hq'.2⟩
theorem zG1 {ns:List (List Nat)}:deps (ns.map .str)=0:=by
 induction ns with
 | nil=>simp
 | cons n r ih=>simp [ih]
theorem yz3 {xs:List PV} {b:Nat} (h:∀ x∈xs,wt x≤b):wts xs≤xs.length * (b+2):=by
 induction xs with
 | nil=>simp
 | cons x r ih =>
  have h1:=h x (by simp)
  have h2:=ih fun y hy=>h y (List.mem_cons_of_mem _ hy)
  simp [Nat.succ_mul];lia
theorem yr4 {os:List Ord} (h:os≠[]):∃ o∈os,dpts os=dpt o:=by
 induction os with
 | nil=>exact absurd rfl h
 | cons o r ih =>
  rw [dpts]
  by_cases hr:r=[]
  ·subst hr;exact ⟨o,by simp,by rw [dpts];lia⟩
  ·obtain ⟨q,hq,e⟩:=ih hr
   by_cases hle:dpt o≤dpts r
   ·exact ⟨q,List.mem_cons_of_mem _ hq,by lia⟩
   ·exact ⟨o,by simp,by lia⟩
theorem yu5:∀ o,ok o→okv 0 (enc o)=true∧dep (enc o)≤2 * dpt o+1∧wt (enc o)+100≤500 * 4 ^ dpt o:=by
 have nsok:∀ ns:List (List Nat),zh8 ns→(ns.map PV.str).all (okv 0)=true:=by
  intro ns h
  rw [List.all_eq_true]
  intro x hx
  obtain ⟨n,hn,rfl⟩:=List.mem_map.mp hx
  rw [zq6];exact yl9 (h.2 n hn)
 refine yD6 ?_ ?_ ?_ ?_ ?_ ?_ ?_
 ·intro _;rw [zW0];refine ⟨by decide,by simp,by simp⟩
 ·intro _;rw [yj9];refine ⟨by decide,by simp,by simp⟩
 ·intro ns h
  rw [ok] at h
  have:=zD7 h.1.2
  rw [zN6]
  refine ⟨?_,by simp [zG1],by simp;lia⟩
  have:=nsok ns h.1
  simp only [zn2,List.all_cons,this];decide
 ·intro ns h
  rw [ok] at h
  have:=zD7 h.1.2
  rw [yj7]
  refine ⟨?_,by simp [zG1],by simp;lia⟩
  have:=nsok ns h.1
  simp only [zn2,List.all_cons,this];decide
 ·intro ns ps h
  rw [ok] at h
  obtain ⟨h1,h2,h3,h4⟩:=yi4 h
  have:=zD7 h.1.2
  have hw2:wts (ps.map fun p=>PV.tup [.str p.1,.str p.2])≤(ps.map fun p=>PV.tup [.str p.1,.str p.2]).length * (27+2):=yz3 fun x hx=>by
   obtain ⟨p,hp,rfl⟩:=List.mem_map.mp hx
   have a:=zO5 (h.1.2 _ (h4 p hp).1)
   have b:=zO5 (h.1.2 _ (h4 p hp).2)
   simp;lia
  rw [List.length_map] at hw2
  rw [yq0]
  have hdp:deps (ps.map fun p=>PV.tup [.str p.1,.str p.2])≤1:=zu9.mpr fun x hx=>by
   obtain ⟨p,hp,rfl⟩:=List.mem_map.mp hx
   simp
  refine ⟨?_,by simp [zG1];lia,by simp;lia⟩
  have q:=nsok ns h.1
  have q2:(ps.map fun p=>PV.tup [.str p.1,.str p.2]).all (okv 0)=true:=by
   rw [List.all_eq_true]
   intro x hx
   obtain ⟨p,hp,rfl⟩:=List.mem_map.mp hx
   have a:=yl9 (h.1.2 _ (h4 p hp).1)
   have b:=yl9 (h.1.2 _ (h4 p hp).2)
   simp only [zn2,List.all_cons,zq6,a,b];rfl
  simp only [zn2,List.all_cons,q,q2];decide
 ·intro os ih h
  rw [zN7] at h
  have ih':=fun o ho=>ih o ho (h.2.2 o ho)
  rw [zD2,zF9]
  have b:∀ o∈os,4 ^ dpt o≤4 ^ dpts os:=fun o ho=>Nat.pow_le_pow_right (by lia) (zK9 ho)
  have hwb:wts (os.map enc)≤(os.map enc).length * (500 * 4 ^ dpts os - 100+2):=yz3 fun x hx=>by
   obtain ⟨o,ho,rfl⟩:=List.mem_map.mp hx
   have:=(ih' o ho).2.2
   have:=b o ho
   lia
  have hdp:deps (os.map enc)≤2 * dpts os+1:=zu9.mpr fun x hx=>by
   obtain ⟨o,ho,rfl⟩:=List.mem_map.mp hx
   have:=(ih' o ho).2.1
   have:=zK9 ho
   lia
  have hok:(os.map enc).all (okv 0)=true:=by
   rw [List.all_eq_true]
   intro x hx
   obtain ⟨o,ho,rfl⟩:=List.mem_map.mp hx
   exact (ih' o ho).1
  refine ⟨?_,by simp;lia,?_⟩
  ·simp only [zn2,List.all_cons,hok];decide
  ·have hp:1≤4 ^ dpts os:=Nat.one_le_pow _ _ (by lia)
   rw [Nat.pow_succ]
   generalize 4 ^ dpts os=P at *
   have:(os.map enc).length≤3:=by simpa using h.2.1
   have h3:(os.map enc).length * (500 * P - 100+2)≤3 * (500 * P - 100+2):=Nat.mul_le_mul_right _ this
   simp;lia
 ·intro o ih h
  rw [zx1] at h
  obtain ⟨a,b,c⟩:=ih h
  rw [zw8,zr8]
  refine ⟨?_,by simp;lia,?_⟩
  ·simp only [zn2,List.all_cons,a];decide
  ·have hp:1≤4 ^ dpt o:=Nat.one_le_pow _ _ (by lia)
   rw [Nat.pow_succ]
   simp;lia
theorem zw5 {W D w:Nat} {T:Int} {st:za6} (hD:4≤D) (hw:Well st w T) (hT:T+10≤1000000) :
  Sat (zi1 prog W D zI2 [.ref w] st) fun v st'=>(∃ o,v=.p (enc o)∧ok o∧dpt o=1)∧zj9 w (T+10) st st':=by
 obtain ⟨d,rfl⟩:∃ d,D=d+4:=⟨D - 4,by lia⟩
 have hwn:=hw.lt
 rw [zf0 (fd:=zy9) rfl rfl,zd8]
 simp! only [zy9,zy6]
 apply za3
 simp! []
 refine (zj3 hw (by lia)).mono ?_
 rintro _ _ ⟨⟨r,rfl,h0,h1⟩,⟨o1,rfl⟩,hw1⟩
 dsimp! only
 have hd1:zj9 w (T+10) st (st.set w o1):=⟨⟨o1,rfl⟩,hw1.mono (by lia)⟩
 obtain rfl | rfl | rfl | rfl | rfl | rfl:r=0∨r=1∨r=2∨r=3∨r=4∨r=5:=by lia
 ·apply za3
  simp! []
  apply za3
  simp! [zk5]
  exact ⟨⟨.num,by rw [zW0],by rw [ok];trivial,by simp⟩,hd1.cut⟩
 ·apply za3
  simp! []
  apply za3
  simp! [zk5]
  exact ⟨⟨.low,by rw [yj9],by rw [ok];trivial,by simp⟩,hd1.cut⟩
 ·apply za3
  simp! []
  dsimp! only
  refine zo9 rfl ?_
  apply za3
  simp! []
  refine (zj3 hw1 (by lia)).mono ?_
  rintro _ _ ⟨⟨q,rfl,q0,q1⟩,⟨o2,rfl⟩,hw2⟩
  rw [List.set_set] at hw2 ⊢
  simp! []
  rw [show 2+q=((2+q).toNat:Int) by lia]
  refine Sat.k1 (zq0 (by lia) hw2 (by lia) (by lia)) fun ns _ hnl hns hd=>?_
  simp! [bfOp]
  exact ⟨⟨.chain ns,by rw [zN6],by rw [ok];exact ⟨hns,by lia,by lia⟩,by simp⟩,zj9.cut (zj9.trans ⟨⟨o2,rfl⟩,hw2⟩ (hd.mono (by lia)))⟩
 ·apply za3
  simp! []
  apply za3
  simp! [pyEq]
  dsimp! only
  refine zo9 rfl ?_
  apply za3
  simp! []
  refine (zj3 hw1 (by lia)).mono ?_
  rintro _ _ ⟨⟨q,rfl,q0,q1⟩,⟨o2,rfl⟩,hw2⟩
  rw [List.set_set] at hw2 ⊢
  simp! []
  rw [show 1+q=((1+q).toNat:Int) by lia]
  refine Sat.k1 (zq0 (by lia) hw2 (by lia) (by lia)) fun ns _ hnl hns hd=>?_
  simp! [bfOp]
  exact ⟨⟨.set ns,by rw [yj7],by rw [ok];exact ⟨hns,by lia,by lia⟩,by simp⟩,zj9.cut (zj9.trans ⟨⟨o2,rfl⟩,hw2⟩ (hd.mono (by lia)))⟩
 ·apply za3
  simp! []
  apply za3
  simp! [pyEq]
  apply za3
  simp! [pyEq]
  apply za3
  simp! [pyEq]
  refine (yD9 (by lia) hw1 (by lia)).mono ?_
  rintro _ _ ⟨⟨ns,ps,rfl,hwb⟩,hd⟩
  simp! []
  exact ⟨⟨.web ns ps,rfl,by rw [ok];exact hwb,by simp⟩,zj9.cut (zj9.trans ⟨⟨o1,rfl⟩,hw1⟩ (hd.mono (by lia)))⟩
 ·apply za3
  simp! []
  apply za3
  simp! [pyEq]
  apply za3
  simp! [pyEq]
  apply za3
  simp! [pyEq]
  exact ⟨⟨.num,by rw [zW0],by rw [ok];trivial,by simp⟩,hd1.cut⟩
theorem zD0 {W D w:Nat} {T:Int} {st:za6} (hD:4≤D) (hw:Well st w T) (n:Nat) (hT:T+10 * n≤1000000) (v0:Option Val) :
  Sat (zr2 (zi1 prog W D) (.call zI2 [(.var 0)]) none (.name 1) none ((List.range n).map fun k:Nat=>PV.int (k:Int)) [some (.ref w),v0] st [])
   fun xs st'=>(∃ os:List Ord,xs=os.map enc∧os.length=n∧∀ o∈os,ok o∧dpt o=1)∧zj9 w (T+10 * n) st st':=by
 refine (zx5 (fun xs env st' acc=>(∃ v,env=[some (.ref w),v])∧∃ os:List Ord,acc=os.map enc∧os.length+xs.length=n∧(∀ o∈os,ok o∧dpt o=1)∧zj9 w (T+10 * os.length) st st') _ _ _ _ ⟨⟨_,rfl⟩,[],rfl,by simp,by simp,by simpa using zj9.refl hw⟩ ?_).mono ?_
 ·rintro x r env st' acc ⟨⟨v,rfl⟩,os,rfl,hl,ho,hd⟩
  refine ⟨_,rfl,?_⟩
  simp only [List.length_cons] at hl
  simp! []
  refine Sat.k1 (zw5 hD hd.2 (by lia)) fun o st2 h1 h2 hd2=>?_
  refine ⟨_,rfl,os++[o],by simp,by simp;lia,?_,?_⟩
  ·intro o' h'
   rcases List.mem_append.mp h' with h | h
   ·exact ho o' h
   ·have:o'=o:=by simpa using h
    subst this;exact ⟨h1,h2⟩
  ·exact (hd.trans hd2).mono (by simp;lia)
 ·rintro ys st' ⟨env',_,os,h1,h2,h3,h4⟩
  simp at h2
  exact ⟨⟨os,h1,h2,h3⟩,by rw [← h2];exact h4⟩
theorem zL5 {W D w:Nat} {T:Int} {st:za6} (hD:5≤D) (hw:Well st w T) (hT:T+30≤1000000) :
  Sat (zi1 prog W D yc7 [.ref w] st) fun v st'=>(∃ o,v=.p (enc o)∧ok o∧dpt o=2)∧zj9 w (T+30) st st':=by
 obtain ⟨d,rfl⟩:∃ d,D=d+5:=⟨D - 5,by lia⟩
 have hwn:=hw.lt
 rw [zf0 (fd:=zz3) rfl rfl,zd8]
 simp! only [zz3,zy5]
 apply za3
 simp! []
 refine (zj3 hw (by lia)).mono ?_
 rintro _ _ ⟨⟨r,rfl,h0,h1⟩,⟨o1,rfl⟩,hw1⟩
 have hd1:zj9 w (T+1) st (st.set w o1):=⟨⟨o1,rfl⟩,hw1.mono (by lia)⟩
 by_cases c0:r=0
 ·subst c0
  simp! [pyEq]
  apply za3
  simp! []
  refine Sat.k1 (zw5 (by lia) hw1 (by lia)) fun o _ q1 q2 hd2=>?_
  simp! []
  exact ⟨⟨.newer o,by rw [zw8],zx1.mpr q1,by rw [zr8,q2]⟩,((hd1.trans hd2).mono (by lia)).cut⟩
 ·simp! [pyEq,c0]
  apply za3
  simp! []
  refine Sat.k1 (zj3 hw1 (by lia)) fun r2 _ h20 h21 hd2=>?_
  have z1:-1000000≤1+r2:=by lia
  have z2:1+r2≤(SZ:Int):=zA2 (by lia)
  simp! [z1,z2]
  refine Sat.k1 (zD0 (by lia) hd2.2 (1+r2).toNat (by lia) none) fun os _ q1 q2 hd3=>?_
  simp! [bfOp]
  refine ⟨⟨.row os,by rw [zD2],zN7.mpr ⟨by lia,by lia,fun o ho=>(q2 o ho).1⟩,?_⟩,(((hd1.trans hd2).trans hd3).mono (by lia)).cut⟩
  rw [zF9]
  obtain ⟨o,ho,e⟩:=yr4 (os:=os) (by intro h;subst h;simp at q1;lia)
  rw [e,(q2 o ho).2]
theorem yk2 {W D w:Nat} {T:Int} {st:za6} (hD:6≤D) (hw:Well st w T) (hT:T+90≤1000000) :
  Sat (zi1 prog W D zU5 [.ref w] st) fun v st'=>(∃ o,v=.p (enc o)∧ok o∧dpt o≤3)∧zj9 w (T+90) st st':=by
 obtain ⟨d,rfl⟩:∃ d,D=d+6:=⟨D - 6,by lia⟩
 have hwn:=hw.lt
 rw [zf0 (fd:=zt7) rfl rfl,zd8]
 simp! only [zt7,zu1]
 apply za3
 simp! []
 refine Sat.k1 (zj3 hw (by lia)) fun r _ h0 h1 hd1=>?_
 dsimp! only
 by_cases c0:r<5
 ·apply za3
  simp! [c0]
  apply za3
  simp! []
  refine Sat.k1 (zw5 (by lia) hd1.2 (by lia)) fun o _ q1 q2 hd2=>?_
  simp! []
  exact ⟨⟨o,rfl,q1,by lia⟩,((hd1.trans hd2).mono (by lia)).cut⟩
 apply za3
 simp! [c0]
 dsimp! only
 by_cases c1:r=5
 ·subst c1
  refine zo9 rfl ?_
  apply za3
  simp! []
  refine Sat.k1 (zL5 (by lia) hd1.2 (by lia)) fun o _ q1 q2 hd2=>?_
  simp! []
  exact ⟨⟨.newer o,by rw [zw8],zx1.mpr q1,by rw [zr8];lia⟩,((hd1.trans hd2).mono (by lia)).cut⟩
 apply za3
 simp! [pyEq,c1]
 dsimp! only
 by_cases c2:r=6
 ·subst c2
  refine zo9 rfl ?_
  apply za3
  simp! []
  refine Sat.k1 (zj3 hd1.2 (by lia)) fun r2 _ h20 h21 hd2=>?_
  have z1:-1000000≤1+r2:=by lia
  have z2:1+r2≤(SZ:Int):=zA2 (by lia)
  simp! [z1,z2]
  refine Sat.k1 (zD0 (by lia) hd2.2 (1+r2).toNat (by lia) none) fun os _ q1 q2 hd3=>?_
  simp! [bfOp]
  refine ⟨⟨.row os,by rw [zD2],zN7.mpr ⟨by lia,by lia,fun o ho=>(q2 o ho).1⟩,?_⟩,(((hd1.trans hd2).trans hd3).mono (by lia)).cut⟩
  rw [zF9]
  have:=zK4 (d:=1) fun o ho=>Nat.le_of_eq (q2 o ho).2
  lia
 apply za3
 simp! [pyEq,c2]
 dsimp! only
 by_cases c3:r=7
 ·subst c3
  refine zo9 rfl ?_
  apply za3
  simp! []
  refine Sat.k1 (zL5 (by lia) hd1.2 (by lia)) fun o _ q1 q2 hd2=>?_
  simp! []
  exact ⟨⟨o,rfl,q1,by lia⟩,((hd1.trans hd2).mono (by lia)).cut⟩
 apply za3
 simp! [pyEq,c3]
 apply za3
 simp! []
 refine Sat.k1 (zj3 hd1.2 (by lia)) fun r2 st2 h20 h21 hd2=>?_
 have z1:-1000000≤r2:=by lia
 have z2:r2≤(SZ:Int):=zA2 (by lia)
 simp! [z1,z2]
 refine Sat.k1 (zD0 (by lia) hd2.2 r2.toNat (by lia) none) fun os st3 q1 q2 hd3=>?_
 dsimp! only
 have hd:=(hd1.trans hd2).trans hd3
 have hlen:=hd.len
 clear hd1 hd2 hd3
 have hobj:zb6 (st3++[zl8.lst (os.map enc)]) st3.length=some (.lst (os.map enc)):=zn7
 apply za3
 by_cases c4:r=8
 ·subst c4
  simp! [pyEq]
  apply za3
  simp! [zi4 hobj,opN,zj4,bfOp]
  have hw3:w<st3.length:=by lia
  refine (zs2 (by lia) hd.2 (by lia) (by lia) (by lia)).mono ?_
  rintro _ _ ⟨⟨r4,rfl,h40,h41⟩,o4,rfl,hw4⟩
  refine Sat.k1 (zL5 (by lia) hw4.app (by lia)) fun o _ p1 p2 hd5=>?_
  obtain ⟨o5,rfl,hw5⟩:=hd5.unapp (by simpa using hw3)
  rw [List.set_set] at hw5 ⊢
  have hobj5:zb6 (st3.set w o5++[zl8.lst (os.map enc)]) st3.length=some (.lst (os.map enc)):=zj7 (by simp)
  have z4:r4≤(os.length:Int):=by lia
  have z5:os.length<SZ:=yj1 (by lia)
  simp! [zv5 hobj5,zJ9,h40,z4,z5]
  dsimp! only
  rw [← List.map_take,← List.map_drop,← List.map_cons,← List.map_append]
  have hmem:∀ q∈os.take r4.toNat++o::os.drop r4.toNat,ok q∧dpt q≤2:=by
   intro q hq
   rcases List.mem_append.mp hq with h | h
   ·have:=q2 q (List.mem_of_mem_take h);exact ⟨this.1,by lia⟩
   ·rcases List.mem_cons.mp h with rfl | h
    ·exact ⟨p1,by lia⟩
    ·have:=q2 q (List.mem_of_mem_drop h);exact ⟨this.1,by lia⟩
  have hlq:(os.take r4.toNat++o::os.drop r4.toNat).length=os.length+1:=by simp;lia
  generalize os.take r4.toNat++o::os.drop r4.toNat=qs at hmem hlq
  have hobj6:zb6 (st3.set w o5++[zl8.lst (qs.map enc)]) st3.length=some (.lst (qs.map enc)):=zj7 (by simp)
  apply za3
  simp! [zi4 hobj6,opN,zj4,bfOp]
  refine ⟨⟨.row qs,by rw [zD2],zN7.mpr ⟨by lia,by lia,fun o ho=>(hmem o ho).1⟩,?_⟩,?_⟩
  ·rw [zF9]
   have:=zK4 (d:=2) fun o ho=>(hmem o ho).2
   lia
  ·rw [← hlen]
   have hd6:zj9 w (T+90) st (st3.set w o5):=hd.trans ⟨⟨o5,rfl⟩,hw5.mono (by lia)⟩
   simpa using hd6
 ·have hw3:w<st3.length:=by lia
  simp! [pyEq,c4]
  apply za3
  simp! []
  refine Sat.k1 (zw5 (by lia) hd.2.app (by lia)) fun o _ p1 p2 hd5=>?_
  obtain ⟨o5,rfl,hw5⟩:=hd5.unapp (by simpa using hw3)
  simp! []
  refine (zw5 (by lia) hw5.app (by lia)).mono ?_
  rintro _ _ ⟨⟨o',rfl,p1',p2'⟩,hd6⟩
  obtain ⟨o6,rfl,hw6⟩:=hd6.unapp (by simpa using hw3)
  rw [List.set_set] at hw6 ⊢
  have hobj5:zb6 (st3.set w o6++[zl8.lst (os.map enc)]) st3.length=some (.lst (os.map enc)):=zj7 (by simp)
  have z6:2+min 1 os.length≤SZ:=zj5 (by lia)
  simp! [op1,zi4 hobj5,sliceOp,zu4,zt1 _ (1:Int) (by lia),z6]
  dsimp! only
  have hqs:(PV.tup [PV.str [110,101,119,101,114],enc o]::PV.tup [PV.str [110,101,119,101,114],enc o']::List.take 1 (List.map enc os))=(Ord.newer o :: .newer o'::os.take 1).map enc:=by
   simp [zw8]
  rw [hqs]
  have hmem:∀ q∈(Ord.newer o :: .newer o'::os.take 1),ok q∧dpt q≤2:=by
   intro q hq
   rcases List.mem_cons.mp hq with rfl | hq
   ·exact ⟨zx1.mpr p1,by rw [zr8];lia⟩
   rcases List.mem_cons.mp hq with rfl | hq
   ·exact ⟨zx1.mpr p1',by rw [zr8];lia⟩
   ·have:=q2 q (List.mem_of_mem_take hq);exact ⟨this.1,by lia⟩
  have hlq:(Ord.newer o :: .newer o'::os.take 1).length≤3∧1≤(Ord.newer o :: .newer o'::os.take 1).length:=by simp;lia
  generalize (Ord.newer o :: .newer o'::os.take 1)=qs at hmem hlq
  have hobj6:zb6 (st3.set w o6++[zl8.lst (os.map enc),zl8.lst (qs.map enc)]) (st3.length+1)=some (.lst (qs.map enc)):=by
   rw [show (st3.set w o6++[zl8.lst (os.map enc),zl8.lst (qs.map enc)])=(st3.set w o6++[zl8.lst (os.map enc)])++[zl8.lst (qs.map enc)] by simp]
   exact zj7 (by simp)
  apply za3
  simp! [zi4 hobj6,opN,zj4,bfOp]
  refine ⟨⟨.row qs,by rw [zD2],zN7.mpr ⟨by lia,by lia,fun o ho=>(hmem o ho).1⟩,?_⟩,?_⟩
  ·rw [zF9]
   have:=zK4 (d:=2) fun o ho=>(hmem o ho).2
   lia
  ·rw [← hlen]
   have hd7:zj9 w (T+90) st (st3.set w o6):=hd.trans ⟨⟨o6,rfl⟩,hw6.mono (by lia)⟩
   simpa using hd7
noncomputable def B20:Nat:=100000000000000000000
mutual
noncomputable def wid:PV→Nat
 | .tup xs=>max xs.length (wids xs)
 | .lst xs=>max xs.length (wids xs)
 | .non=>0
 | .bl _=>0
 | .int _=>0
 | .str _=>0
noncomputable def wids:List PV→Nat
 | []=>0
 | x::r=>max (wid x) (wids r)
end
@[simp] theorem yf9 {xs}:wid (.tup xs)=max xs.length (wids xs):=by rw [wid]
@[simp] theorem yn3 {xs}:wid (.lst xs)=max xs.length (wids xs):=by rw [wid]
@[simp] theorem xc8:wid .non=0:=by rw [wid]
@[simp] theorem wid_bl {b}:wid (.bl b)=0:=by rw [wid]
@[simp] theorem xi8 {b}:wid (.int b)=0:=by rw [wid]
@[simp] theorem xj7 {b}:wid (.str b)=0:=by rw [wid]
@[simp] theorem xa6:wids []=0:=by rw [wids]
@[simp] theorem yf2 {x r}:wids (x::r)=max (wid x) (wids r):=by rw [wids]
theorem zM6 {xs:List PV} {m:Nat}:wids xs≤m↔∀ x∈xs,wid x≤m:=by
 induction xs with
 | nil=>simp
 | cons x r ih =>
  rw [yf2,Nat.max_le,ih]
  simp
noncomputable def okw (B:Nat) (v:PV):Bool:=okv B v&&decide (wid v+B20≤B+40)
theorem zg7 {B v}:okw B v=true↔okv B v=true∧wid v+B20≤B+40:=by
 unfold okw
 rw [Bool.and_eq_true,decide_eq_true_eq]
theorem zv8 {B B':Nat} (h:B≤B') (v:PV) (g:okw B v=true):okw B' v=true:=by
 rw [zg7] at *
 exact ⟨okv_mono h v g.1,by lia⟩
open OR
structure Gd (B d n:Nat) (v:PV):Prop where
 o:okw B v=true
 d:dep v≤d
 w:wt v≤n
theorem Gd.mono {B B' d d' n n' v} (h:Gd B d n v) (hB:B≤B') (hd:d≤d') (hn:n≤n'):Gd B' d' n' v :=
 ⟨zv8 hB v h.o,Nat.le_trans h.d hd,Nat.le_trans h.w hn⟩
noncomputable def zu3:List PV:=[PV.non,PV.bl true,PV.bl false,PV.int (-1),PV.int 0,PV.int 1,PV.int 2,PV.int 10000000000000000000,PV.str [],PV.str [97],PV.str [65],PV.str [42],PV.str [110,117,109],PV.str [97,98,99,100,101,102,103,104,105],PV.str [97,49],PV.tup [],PV.lst [],PV.tup [PV.str [110,117,109]],PV.tup [PV.str [97]]]
theorem yx6:∀ x∈zu3,Gd B20 1 50 x:=by
 intro x hx
 simp only [zu3,List.mem_cons,List.not_mem_nil,or_false] at hx
 rcases hx with rfl | rfl | rfl | rfl | rfl | rfl | rfl | rfl | rfl | rfl | rfl | rfl | rfl | rfl | rfl | rfl | rfl | rfl | rfl
 all_goals exact ⟨by decide +kernel,by decide +kernel,by decide +kernel⟩
theorem yr7 {α:Type} {n:Nat} {xs:List α} {x:α} (h:x∈(List.replicate n xs).flatten):x∈xs:=by
 rw [List.mem_flatten] at h
 obtain ⟨l,hl,hx⟩:=h
 rw [List.mem_replicate] at hl
 rw [← hl.2];exact hx
theorem xk6 {cs:List Nat} (h:cs.all okC=true):(cs.map upC).all okC=true:=by
 rw [List.all_eq_true] at *
 intro c hc
 obtain ⟨a,ha,rfl⟩:=List.mem_map.mp hc
 have:=h a ha
 unfold okC at *
 simp at this ⊢
 unfold upC
 split <;> lia
theorem xe0 {cs:List Nat} (h:cs.all okC=true):cs.all (fun c=>decide (c<128))=true:=by
 rw [List.all_eq_true] at *
 intro c hc
 have:=h c hc
 unfold okC at this
 simp at this ⊢
 lia
theorem zk0 {α:Type} (xs:List α) (lo hi:Option Int):(cut xs lo hi).Sublist xs:=by
 unfold cut
 exact (List.take_sublist _ _).trans (List.drop_sublist _ _)
theorem zm6 {B d n:Nat} {xs:List PV}:Gd B (d+1) n (.tup xs)↔(∀ x∈xs,okw B x=true∧dep x≤d)∧3+wts xs≤n∧xs.length+B20≤B+40:=by
 constructor
 ·rintro ⟨a,b,c⟩
  rw [zg7,zn2,List.all_eq_true] at a
  simp at b c
  have aw:=a.2
  rw [yf9] at aw
  have aw2:wids xs≤B+40 - B20:=by lia
  rw [zM6] at aw2
  refine ⟨fun x hx=>⟨zg7.mpr ⟨a.1 x hx,?_⟩,zu9.mp b x hx⟩,c,by lia⟩
  have:=aw2 x hx
  lia
 ·rintro ⟨a,c,l⟩
  refine ⟨zg7.mpr ⟨by rw [zn2,List.all_eq_true];exact fun x hx=>(zg7.mp (a x hx).1).1,?_⟩,by simpa using zu9.mpr fun x hx=>(a x hx).2,by simpa using c⟩
  have:wids xs≤B+40 - B20:=zM6.mpr fun x hx=>by
   have:=(zg7.mp (a x hx).1).2
   lia
  rw [yf9]
  lia
theorem yy4 {B d n:Nat} {xs:List PV}:Gd B (d+1) n (.lst xs)↔(∀ x∈xs,okw B x=true∧dep x≤d)∧3+wts xs≤n∧xs.length+B20≤B+40:=by
 constructor
 ·rintro ⟨a,b,c⟩
  rw [zg7,yi0,List.all_eq_true] at a
  simp at b c
  have aw:=a.2
  rw [yn3] at aw
  have aw2:wids xs≤B+40 - B20:=by lia
  rw [zM6] at aw2
  refine ⟨fun x hx=>⟨zg7.mpr ⟨a.1 x hx,?_⟩,zu9.mp b x hx⟩,c,by lia⟩
  have:=aw2 x hx
  lia
 ·rintro ⟨a,c,l⟩
  refine ⟨zg7.mpr ⟨by rw [yi0,List.all_eq_true];exact fun x hx=>(zg7.mp (a x hx).1).1,?_⟩,by simpa using zu9.mpr fun x hx=>(a x hx).2,by simpa using c⟩
  have:wids xs≤B+40 - B20:=zM6.mpr fun x hx=>by
   have:=(zg7.mp (a x hx).1).2
   lia
  rw [yn3]
  lia
theorem zH8 {B d n:Nat} {cs:List Nat} (hB:B20≤B):Gd B d n (.str cs)↔cs.all okC=true∧cs.length+2≤n :=
 ⟨fun ⟨a,_,c⟩=>⟨by have:=(zg7.mp a).1;simpa only [zq6] using this,by simpa using c⟩,fun ⟨a,c⟩=>⟨zg7.mpr ⟨by simpa only [zq6] using a,by simp;lia⟩,by simp,by simpa using c⟩⟩
theorem yi7 {B d n:Nat} {i:Int} (hB:B20≤B):Gd B d n (.int i)↔i.natAbs≤B∧40≤n :=
 ⟨fun ⟨a,_,c⟩=>⟨by have:=(zg7.mp a).1;simpa using this,by simpa using c⟩,fun ⟨a,c⟩=>⟨zg7.mpr ⟨by simpa using a,by simp;lia⟩,by simp,by simpa using c⟩⟩
theorem zT5:∀ xs:List PV,xs.length≤wts xs
 | []=>by simp
 | x::r=>by have:=zT5 r;simp;lia
noncomputable def zM7 (v:PV):List PV:=match v with
 | .tup xs=>[.lst xs,.tup (xs++[.int 0]),.tup (cut xs none (some (-1))),.tup (cut xs (some 1) none),.tup (xs++cut xs none (some 1)),.tup [.tup xs],.tup xs.reverse]
 | .str cs=>[.str (cs++[97]),.str (cut cs none (some (-1))),.str (cs.map upC),.tup [.str cs]]
 | .int i=>[.int (i+1),.int (i - 1),.bl (decide (i=1)),.tup [.int i]]
 | _=>[]
theorem yr5 {B d n:Nat} {v:PV} (hB:B20≤B) (h:Gd B d n v):∀ x∈zM7 v,Gd (B+1) (d+1) (2 * n+50) x:=by
 cases v with
 | tup xs =>
  obtain ⟨d,rfl⟩:∃ e,d=e+1:=⟨d - 1,by have:=h.d;simp at this;lia⟩
  obtain ⟨h1,h2,h3⟩:=zm6.mp h
  have h1':∀ x∈xs,okw (B+1) x=true∧dep x≤d+1:=fun x hx=>⟨zv8 (by lia) x (h1 x hx).1,by have:=(h1 x hx).2;lia⟩
  have s1:=zT9 (zk0 xs none (some (-1)))
  have s2:=zT9 (zk0 xs (some 1) none)
  have s3:=zT9 (zk0 xs none (some 1))
  have s4:=yr3 (List.reverse_perm xs)
  have l1:=(zk0 xs none (some (-1))).length_le
  have l2:=(zk0 xs (some 1) none).length_le
  have l3:(cut xs none (some 1)).length≤1:=by rw [zt1 _ _ (by decide)];simp;lia
  have i0:∀ i:Int,i.natAbs≤B+1→okw (B+1) (.int i)=true:=fun i h=>zg7.mpr ⟨by simpa using h,by simp;lia⟩
  intro x hx
  simp only [zM7,List.mem_cons,List.not_mem_nil,or_false] at hx
  rcases hx with rfl | rfl | rfl | rfl | rfl | rfl | rfl
  ·exact yy4.mpr ⟨h1',by lia,by lia⟩
  ·refine zm6.mpr ⟨fun x hx=>?_,by simp;lia,by simp;lia⟩
   rcases List.mem_append.mp hx with hx | hx
   ·exact h1' x hx
   ·have:x=.int 0:=by simpa using hx
    subst this;exact ⟨i0 0 (by simp),by simp⟩
  ·exact zm6.mpr ⟨fun x hx=>h1' x ((zk0 _ _ _).subset hx),by lia,by lia⟩
  ·exact zm6.mpr ⟨fun x hx=>h1' x ((zk0 _ _ _).subset hx),by lia,by lia⟩
  ·refine zm6.mpr ⟨fun x hx=>?_,by simp;lia,by simp;lia⟩
   rcases List.mem_append.mp hx with hx | hx
   ·exact h1' x hx
   ·exact h1' x ((zk0 _ _ _).subset hx)
  ·refine zm6.mpr ⟨fun x hx=>?_,by simp;lia,by simp;lia⟩
   have:x=.tup xs:=by simpa using hx
   subst this;exact ⟨zv8 (by lia) _ h.o,by have:=h.d;lia⟩
  ·exact zm6.mpr ⟨fun x hx=>h1' x (by simpa using hx),by lia,by simp;lia⟩
 | str cs =>
  obtain ⟨h1,h2⟩:=(zH8 hB).mp h
  have hB':B20≤B+1:=by lia
  have s1:=(zk0 cs none (some (-1))).length_le
  intro x hx
  simp only [zM7,List.mem_cons,List.not_mem_nil,or_false] at hx
  rcases hx with rfl | rfl | rfl | rfl
  ·exact (zH8 hB').mpr ⟨by rw [List.all_append,h1];decide,by simp;lia⟩
  ·refine (zH8 hB').mpr ⟨?_,by lia⟩
   rw [List.all_eq_true] at *
   exact fun c hc=>h1 c ((zk0 _ _ _).subset hc)
  ·exact (zH8 hB').mpr ⟨xk6 h1,by simp;lia⟩
  ·refine zm6.mpr ⟨fun x hx=>?_,by simp;lia,by simp;lia⟩
   have:x=.str cs:=by simpa using hx
   subst this;exact ⟨zg7.mpr ⟨by simpa only [zq6] using h1,by simp;lia⟩,by simp⟩
 | int i =>
  obtain ⟨h1,h2⟩:=(yi7 hB).mp h
  have hB':B20≤B+1:=by lia
  intro x hx
  simp only [zM7,List.mem_cons,List.not_mem_nil,or_false] at hx
  rcases hx with rfl | rfl | rfl | rfl
  ·exact (yi7 hB').mpr ⟨by lia,by lia⟩
  ·exact (yi7 hB').mpr ⟨by lia,by lia⟩
  ·exact ⟨zg7.mpr ⟨by simp,by simp;lia⟩,by simp,by simp only [xg1];lia⟩
  ·refine zm6.mpr ⟨fun x hx=>?_,by simp only [zK2,yG7,yP9];lia,by simp;lia⟩
   have:x=.int i:=by simpa using hx
   subst this;exact ⟨zg7.mpr ⟨by simp;lia,by simp;lia⟩,by simp⟩
 | _=>simp [zM7]
theorem yg3 {W D w B dd n:Nat} {T:Int} {st:za6} {v:PV} (hD:2≤D) (hw:Well st w T) (hT:T<1000000) (hv:Gd B dd n v) (hn:n≤1000000) (hB:B20≤B) :
  Sat (zi1 prog W D zF4 [.ref w,.p v] st) fun r st'=>(∃ x,r=.p x∧Gd (B+1) (dd+1) (2 * n+50) x)∧zj9 w (T+1) st st':=by
 obtain ⟨d,rfl⟩:∃ d,D=d+2:=⟨D - 2,by lia⟩
 have s10:zh4 10=true:=by decide
 have e19:(10:Int) ^ 19=10000000000000000000:=by decide
 -- the draw out of what there is
 have fin:∀ L:List PV,(∀ x∈L,Gd (B+1) (dd+1) (2 * n+50) x)→0<L.length→L.length<1000 →
   Sat (execSs (zi1 prog W (d+1)) W [.ret (.ix (.var 2) (.call zn9 [(.var 0),(.blt .len [(.var 2)])]))] [some (.ref w),some (.p v),some (.p (.lst L))] st)
    fun f st1=>Sat (yg0 st.length f st1) fun r st'=>(∃ x,r=.p x∧Gd (B+1) (dd+1) (2 * n+50) x)∧zj9 w (T+1) st st':=by
  intro L hL h0 h1
  apply za3
  simp! [bfOp]
  refine Sat.k1 (zw2 (by lia) hw (by lia) (by lia) (by lia)) fun r _ r0 r1 hd=>?_
  obtain ⟨x,x1,x2,x3⟩:=yd3 L r r0 r1
  simp! [x1,x3]
  exact ⟨hL x x2,hd.cut⟩
 have base:∀ x∈zu3,Gd (B+1) (dd+1) (2 * n+50) x:=fun x hx=>(yx6 x hx).mono (by lia) (by lia) (by lia)
 have both:∀ x∈zu3++(List.replicate 4 (zM7 v)).flatten,Gd (B+1) (dd+1) (2 * n+50) x:=fun x hx=>by
  rcases List.mem_append.mp hx with hx | hx
  ·exact base x hx
  ·exact yr5 hB hv x (yr7 hx)
 have l19:zu3.length=19:=rfl
 rw [zf0 (fd:=zD6) rfl rfl,zd8];simp! only [zD6,zE3]
 apply za3
 simp! [s10,e19]
 apply za3
 simp! [zj5]
 dsimp! only
 rw [show [PV.non,PV.bl true,PV.bl false,PV.int (-1),PV.int 0,PV.int 1,PV.int 2,PV.int 10000000000000000000,PV.str [],PV.str [97],PV.str [65],PV.str [42],PV.str [110,117,109],PV.str [97,98,99,100,101,102,103,104,105],PV.str [97,49],PV.tup [],PV.lst [],PV.tup [PV.str [110,117,109]],PV.tup [PV.str [97]]]=zu3 from rfl]
 generalize zu3=OB at *
 apply za3
 cases v with
 | tup xs =>
  have hl:xs.length≤wts xs:=zT5 xs
  have hw2:=hv.w
  simp only [yA1] at hw2
  have c1:=(zk0 xs none (some 1)).length_le
  have z1:xs.length+1≤SZ:=zj5 (by lia)
  have z2:xs.length+(cut xs none (some 1)).length≤SZ:=zj5 (by lia)
  have z3:28≤SZ:=zj5 (by lia)
  have z4:OB.length+28≤SZ:=zj5 (by lia)
  simp! [bfOp]
  apply za3
  simp! [bfOp,sliceOp,z1,z2,z3,z4,-List.reduceReplicate,op1]
  apply za3
  simp! [bfOp]
  apply za3
  simp! [bfOp]
  dsimp! only
  exact fin _ both (by simp only [List.length_append];lia) (by simp [zM7];lia)
 | str cs =>
  have hw2:=hv.w
  simp only [yP0] at hw2
  have z1:cs.length+1≤SZ:=zj5 (by lia)
  have z3:16≤SZ:=zj5 (by lia)
  have z4:OB.length+16≤SZ:=zj5 (by lia)
  have hall:=xe0 ((zH8 hB).mp hv).1
  simp! [bfOp]
  apply za3
  simp! [bfOp]
  apply za3
  simp! [bfOp,sliceOp,z1,z3,z4,hall,-List.reduceReplicate,op1]
  apply za3
  simp! [bfOp]
  dsimp! only
  exact fin _ both (by simp only [List.length_append];lia) (by simp [zM7];lia)
 | int i =>
  have z3:16≤SZ:=zj5 (by lia)
  have z4:OB.length+16≤SZ:=zj5 (by lia)
  simp! [bfOp]
  apply za3
  simp! [bfOp]
  apply za3
  simp! [bfOp]
  apply za3
  simp! [bfOp,z3,z4,pyEq,-List.reduceReplicate,op1]
  dsimp! only
  exact fin _ both (by simp only [List.length_append];lia) (by simp [zM7];lia)
 | _ =>
  simp! [bfOp]
  apply za3
  simp! [bfOp]
  apply za3
  simp! [bfOp]
  dsimp! only
  exact fin OB base (by lia) (by lia)
theorem yv7 {W w:Nat}:∀ (e:Nat) (D B dd n:Nat) (T:Int) (st:za6) (v:PV),e+3≤D→Well st w T→T+2 * e+2<1000000→Gd B dd n v→n≤1000000→B20≤B →
  Sat (zi1 prog W D ye7 [.ref w,.p v,.p (.int e)] st) fun r st'=>(∃ x,r=.p x∧Gd (B+1) (dd+1) (3 * n+50) x)∧zj9 w (T+2 * e+2) st st':=by
 intro e
 induction e with
 | zero =>
  intro D B dd n T st v hD hw hT hv hn hB
  obtain ⟨d,rfl⟩:∃ d,D=d+3:=⟨D - 3,by lia⟩
  have fin:Sat (zi1 prog W (d+2) zF4 [.ref w,.p v] st) fun r st'=>(∃ x,r=.p x∧Gd (B+1) (dd+1) (3 * n+50) x)∧zj9 w (T+2) st (st'.take st.length) :=
   (yg3 (by lia) hw (by lia) hv hn hB).mono fun r st' ⟨⟨x,h1,h2⟩,hd⟩=>⟨⟨x,h1,h2.mono (by lia) (by lia) (by lia)⟩,(hd.mono (by lia)).cut⟩
  rw [zf0 (fd:=zo5) rfl rfl,zd8];simp! only [zo5,zs1]
  apply za3
  cases v with
  | tup xs =>
   cases xs with
   | nil =>
    simp! [bfOp,pyEq]
    apply za3
    simp! []
    refine fin.mono ?_
    rintro _ st' ⟨⟨x,rfl,hx⟩,hd⟩
    simp! []
    exact ⟨hx,hd⟩
   | cons y r =>
    have hl:¬ (r.length:Int)+1=0:=by lia
    simp! [bfOp,pyEq,hl]
    apply za3
    simp! []
    refine fin.mono ?_
    rintro _ st' ⟨⟨x,rfl,hx⟩,hd⟩
    simp! []
    exact ⟨hx,hd⟩
  | _ =>
   simp! [bfOp,pyEq]
   apply za3
   simp! []
   refine fin.mono ?_
   rintro _ st' ⟨⟨x,rfl,hx⟩,hd⟩
   simp! []
   exact ⟨hx,hd⟩
 | succ e ih =>
  intro D B dd n T st v hD hw hT hv hn hB
  have hT':T+2 * e+4<1000000:=by lia
  obtain ⟨d,rfl⟩:∃ d,D=d+3:=⟨D - 3,by lia⟩
  have fin:∀ T' st1,T'≤T+1→zj9 w T' st st1→Sat (zi1 prog W (d+2) zF4 [.ref w,.p v] st1) fun r st'=>(∃ x,r=.p x∧Gd (B+1) (dd+1) (3 * n+50) x)∧zj9 w (T+(2 * (e+1))+2) st (st'.take st.length) :=
   fun T' st1 hT' hd1=>(yg3 (by lia) hd1.2 (by lia) hv hn hB).mono fun r st' ⟨⟨x,h1,h2⟩,hd⟩=>⟨⟨x,h1,h2.mono (by lia) (by lia) (by lia)⟩,((hd1.trans hd).mono (by lia)).cut⟩
  have he:¬ (e:Int)+1=0:=by lia
  rw [zf0 (fd:=zo5) rfl rfl,zd8];simp! only [zo5,zs1]
  apply za3
  cases v with
  | tup xs =>
   cases xs with
   | nil =>
    simp! [bfOp,pyEq]
    apply za3
    simp! []
    refine Sat.k0 (fin T st (by lia) (zj9.refl hw)) fun x st' hx hd=>?_
    simp! []
    exact ⟨hx,hd⟩
   | cons y r =>
    have hl:¬ (r.length:Int)+1=0:=by lia
    simp! [bfOp,pyEq,hl,he]
    refine Sat.k1 (zw2 (by lia) hw (by lia) (by lia) (by lia)) fun q st1 q0 q1 hd1=>?_
    by_cases c:q=0
    ·simp! [bfOp,pyEq,c]
     apply za3
     simp! []
     refine Sat.k0 (fin _ st1 (by lia) hd1) fun x st' hx hd=>?_
     simp! []
     exact ⟨hx,hd⟩
    ·simp! [bfOp,pyEq,c]
     dsimp! only
     generalize hxs:y::r=xs at *
     have hlen:(r.length:Int)+1=xs.length:=by rw [← hxs];simp
     have hxl:=zT5 xs
     have hvw:=hv.w
     simp only [yA1] at hvw
     apply za3
     simp! [bfOp]
     refine Sat.k1 (zw2 (by lia) hd1.2 (by lia) (by lia) (by lia)) fun a st2 a0 a1 hd2=>?_
     apply za3
     obtain ⟨z,z1,z2,z3⟩:=yd3 xs a a0 a1
     simp! [sliceOp,z1,z3]
     have hd12:=hd1.trans hd2
     obtain ⟨dd',rfl⟩:∃ k,dd=k+1:=⟨dd - 1,by have:=hv.d;simp at this;lia⟩
     obtain ⟨g1,g2,g3⟩:=zm6.mp hv
     have hz:Gd B dd' (wt z) z:=⟨(g1 z z2).1,(g1 z z2).2,Nat.le_refl _⟩
     have hzw:=yN7 z2
     refine Sat.k0 (ih (d+2) B dd' (wt z) _ _ z (by lia) hd12.2 (by lia) hz (by lia) hB) fun x st3 hx hd3=>?_
     have hal:a.toNat<xs.length:=by lia
     have e1:=zt1 xs a a0
     have e2:=zs4 xs (a+1) (by lia)
     rw [show (a+1).toNat=a.toNat+1 by lia] at e2
     have e3:xs=xs.take a.toNat++z::xs.drop (a.toNat+1):=by
      have:xs.drop a.toNat=z::xs.drop (a.toNat+1):=by
       rw [List.drop_eq_getElem_cons hal]
       congr 1
       rw [List.getElem?_eq_getElem hal] at z1
       exact Option.some.inj z1
      rw [← this,List.take_append_drop]
     have e4:wts xs=wts (xs.take a.toNat)+(wt z+2+wts (xs.drop (a.toNat+1))):=by
      conv=>lhs;rw [e3]
      simp
     have z5:(cut xs none (some a)).length+1≤SZ:=by rw [e1];exact zj5 (by simp;lia)
     have z5':(cut xs none (some a)).length+[x].length≤SZ:=z5
     have z6:(cut xs none (some a)++[x]).length+(cut xs (some (a+1)) none).length≤SZ:=by rw [e1,e2];exact zj5 (by simp;lia)
     refine ⟨_,⟨z5',rfl⟩,_,if_pos z6,?_,?_⟩
     ·rw [e1,e2]
      refine zm6.mpr ⟨?_,?_,by simp;lia⟩
      ·intro u hu
       simp only [List.append_assoc,List.mem_append,List.mem_cons,List.not_mem_nil,false_or,or_false] at hu
       rcases hu with hu | rfl | hu
       ·have:=g1 u (List.mem_of_mem_take hu);exact ⟨zv8 (by lia) u this.1,by lia⟩
       ·exact ⟨hx.o,hx.d⟩
       ·have:=g1 u (List.mem_of_mem_drop hu);exact ⟨zv8 (by lia) u this.1,by lia⟩
      ·have:=hx.w
       simp;lia
     ·exact ((hd12.trans hd3).mono (by lia)).cut
  | _ =>
   simp! [bfOp,pyEq]
   apply za3
   simp! []
   refine Sat.k0 (fin T st (by lia) (zj9.refl hw)) fun x st' hx hd=>?_
   simp! []
   exact ⟨hx,hd⟩
theorem ya4 {C:zb7} {W:Nat} {body:List S} {tgt:Tg} (J:List PV→Env→za6→Prop) (Q:Flow→za6→Prop) (fin:∀ env st,J [] env st→Q (.next env) st)
  (step:∀ x r env st,J (x::r) env st→∃ env',zo2 tgt (.p x) st env=some env'∧Sat (execSs C W body env' st) (fun f st2=>(∃ env2,f=.next env2∧J r env2 st2)∨∃ v,f=.ret v∧Q (.ret v) st2)):∀ (xs:List PV) (env:Env) (st:za6),
  J xs env st→Sat (yC8 C W body tgt none xs env st) Q
 | [],env,st,h=>by rw [zW3];exact fin env st h
 | x::r,env,st,h=>by
  obtain ⟨env',h1,hs⟩:=step x r env st h
  obtain ⟨f,st2,h2,h3⟩:=zz2.mp hs
  unfold yC8
  rw [zn3]
  simp only [zj1,if_true,h1,h2,Res.bind_ok]
  rcases h3 with ⟨env2,rfl,h3⟩ | ⟨v,rfl,h3⟩
  ·exact ya4 J Q fin step r env2 st2 h3
  ·exact h3
structure Hd where
 h:List Nat
 k:Nat
 o:Ord
noncomputable def zl9 (h:Hd):PV:=.tup [.str h.h,.int h.k,enc h.o]
structure Gr where
 ns:List (List Nat)
 hs:List Hd
noncomputable def zm0 (g:Gr):PV:=.tup [.tup (g.ns.map .str),.tup (g.hs.map zl9)]
structure gG (g:Gr):Prop where
 n:zh8 g.ns
 n1:1≤g.ns.length
 n4:g.ns.length≤4
 h:zh8 (g.hs.map Hd.h)
 h1:1≤g.hs.length
 h5:g.hs.length≤5
 k:∀ h∈g.hs,h.k≤2∧ok h.o∧dpt h.o≤3
noncomputable def inN (ns:List (List Nat)):PV→Bool
 | .str s=>decide (s∈ns)
 | _=>false
theorem zA6 {n:List Nat} {x:PV}:pyEq (.str n) x=match x with | .str s=>decide (n=s) | _=>false:=by
 cases x <;> simp [pyEq]
theorem zK1 {ns:List (List Nat)} {x:PV}:zp8 x (ns.map .str)=inN ns x:=by
 unfold zp8
 rw [List.any_map,Bool.eq_iff_iff,List.any_eq_true]
 cases x with
 | str s =>
  simp only [inN,decide_eq_true_eq]
  constructor
  ·rintro ⟨n,hn,h⟩
   have h:pyEq (.str n) (.str s)=true:=h
   rw [zA6] at h
   rw [← of_decide_eq_true h];exact hn
  ·intro h
   exact ⟨s,h,by show pyEq (.str s) (.str s)=true;rw [zA6];exact decide_eq_true rfl⟩
 | _ =>
  simp only [inN,Bool.false_eq_true,iff_false]
  rintro ⟨n,hn,h⟩
  rw [Function.comp_apply,zA6] at h
  cases h
theorem zM4 {ns:List (List Nat)}:deps (ns.map .str)=0:=by
 refine Nat.le_zero.mp (zu9.mpr fun x hx=>?_)
 obtain ⟨n,_,rfl⟩:=List.mem_map.mp hx
 simp
theorem dp0 {a:Nat}:zi3 a 0=true:=by
 unfold zi3
 simp
theorem dp0' {a:Nat}:zi3 0 a=true:=by
 unfold zi3
 simp
noncomputable def hd? (hs:List Hd) (x:PV):Option Hd:=hs.find? fun h=>pyEq (.str h.h) x
noncomputable def AF:List (List Nat):=[[65],[66],[67],[68],[69],[70]]
noncomputable def yI7 (g:Gr):PV→Bool
 | .tup (x::r)=>match hd? g.hs x with
  | some h=>decide (r.length=h.k)
  | none=>false
 | _=>false
noncomputable def tl:PV→List PV
 | .tup (_::r)=>r
 | _=>[]
noncomputable def isT (g:Gr) (ws:List (List Nat)) (t:PV):Bool:=yI7 g t&&(tl t).all (inN ws)
theorem yc2 {W d:Nat} {x:PV} {st:za6}:zi1 prog W (d+1) yo0 [.p x] st=.ok (.p (.bl (inN AF x))) st:=by
 have e:zp8 x [PV.str [65],PV.str [66],PV.str [67],PV.str [68],PV.str [69],PV.str [70]]=inN AF x:=zK1 (ns:=AF)
 have dd:zi3 (dep x) 0=true:=dp0
 apply zk1
 rw [zf0 (fd:=zD9) rfl rfl,zd8];simp! only [zD9,zE1]
 apply za3
 simp! [e,dd]
def JH (g:Gr) (x:PV) (st:za6) (xs:List PV) (env:Env) (s:za6):Prop:=s=st∧∃ us vs v2,g.hs=us++vs∧xs=vs.map zl9∧hd? us x=none∧env=[some (.p (.tup [.tup (g.ns.map .str),.tup (g.hs.map zl9)])),some (.p x),v2]
def QH (g:Gr) (x:PV) (st:za6) (f:Flow) (s:za6):Prop:=s=st∧match hd? g.hs x with | some h=>f=.ret (.p (zl9 h)) | none=>∃ v,f=.next [some (.p (.tup [.tup (g.ns.map .str),.tup (g.hs.map zl9)])),some (.p x),v]
theorem zH4 {W d:Nat} {g:Gr} {x:PV} {st:za6}:zi1 prog W (d+1) zK5 [.p (zm0 g),.p x] st=.ok (.p (match hd? g.hs x with | some h=>zl9 h | none=>.non)) st:=by
 have e11:zk5 2 1=some 1:=rfl
 have dd:zi3 0 (dep x)=true:=dp0'
 apply zk1
 rw [zf0 (fd:=zp0) rfl rfl,zd8];simp! only [zp0,zo8]
 apply za3
 simp! [zm0,e11]
 refine (ya4 (JH g x st) (QH g x st) ?_ ?_ _ _ _ ⟨rfl,[],g.hs,none,rfl,rfl,rfl,rfl⟩).mono ?_
 ·rintro env s ⟨rfl,us,vs,v2,e1,e2,e3,rfl⟩
  have hv:vs=[]:=by
   cases vs with
   | nil=>rfl
   | cons _ _=>cases e2
  subst hv
  rw [List.append_nil] at e1
  refine ⟨rfl,?_⟩
  rw [e1,e3]
  exact ⟨_,rfl⟩
 ·rintro y r env s ⟨rfl,us,vs,v2,e1,e2,e3,rfl⟩
  cases vs with
  | nil=>cases e2
  | cons h vs =>
   rw [List.map_cons] at e2
   cases e2
   refine ⟨_,rfl,?_⟩
   have e30:zk5 3 0=some 0:=rfl
   have ap:hd? (us++[h]) x=if pyEq (.str h.h) x=true then some h else none:=by
    unfold hd? at *
    rw [List.find?_append,e3]
    simp [List.find?_cons]
    split <;> simp_all
   apply za3
   by_cases c:pyEq (.str h.h) x=true
   ·simp! [zl9,e30,dd,c]
    apply za3
    have:hd? g.hs x=some h:=by
     unfold hd? at *
     rw [e1,List.find?_append,e3]
     simp [List.find?_cons,c]
    simp! []
    refine ⟨rfl,?_⟩
    rw [this]
    rfl
   ·simp! [zl9,e30,dd,c]
    dsimp! only
    exact .inl ⟨_,rfl,rfl,us++[h],vs,_,by simp [e1],rfl,by rw [ap,if_neg c],rfl⟩
 ·rintro f s ⟨rfl,hf⟩
  cases hq:hd? g.hs x with
  | none =>
   rw [hq] at hf
   obtain ⟨v,rfl⟩:=hf
   apply za3
   simp! []
  | some h =>
   rw [hq] at hf
   subst hf
   simp! []
theorem zl7 {g:Gr} {x:PV} {r:List PV}:yI7 g (.tup (x::r))=match hd? g.hs x with | some h=>decide (r.length=h.k) | none=>false:=rfl
theorem zA3 {W d:Nat} {g:Gr} {t:PV} {st:za6}:zi1 prog W (d+2) zT4 [.p (zm0 g),.p t] st=.ok (.p (.bl (yI7 g t))) st:=by
 have e30:zk5 3 1=some 1:=rfl
 apply zk1
 rw [zf0 (fd:=zt4) rfl rfl,zd8];simp! only [zt4,zt5]
 apply za3
 cases t with
 | tup xs =>
  cases xs with
  | nil =>
   simp! [bfOp,pyEq]
   apply za3
   simp! []
   rfl
  | cons x r =>
   have hl:¬ (r.length:Int)+1=0:=by lia
   have hc:=zH4 (W:=W) (d:=d) (g:=g) (x:=x) (st:=st)
   simp! [bfOp,pyEq,hl]
   apply za3
   simp! [zk5,hc]
   apply za3
   cases hq:hd? g.hs x with
   | none =>
    simp! []
    rw [zl7,hq]
   | some h =>
    have e:decide ((r.length:Int)+1=1+h.k)=decide (r.length=h.k):=by
     rw [Bool.eq_iff_iff];simp;lia
    simp! [zl9,e30,bfOp,pyEq,e]
    rw [zl7,hq]
 | _ =>
  simp! [bfOp]
  apply za3
  simp! []
  rfl
theorem xl1 {x:PV} {r:List PV}:cut (x::r) (some 1) none=r:=by rw [zs4 _ _ (by decide)];rfl
theorem zO8 {g:Gr} {ws:List (List Nat)} {t:PV} (h:yI7 g t=false):isT g ws t=false:=by unfold isT;rw [h];rfl
theorem zY5 {g:Gr} {t:PV} (h:yI7 g t=true):∃ x r,t=.tup (x::r):=by
 cases t with
 | tup xs =>
  cases xs with
  | nil=>cases h
  | cons x r=>exact ⟨x,r,rfl⟩
 | _=>cases h
theorem zF1 {W d:Nat} {g:Gr} {t:PV} {st:za6}:zi1 prog W (d+3) yb6 [.p (zm0 g),.p t] st=.ok (.p (.bl (isT g g.ns t))) st:=by
 have hw:=zA3 (W:=W) (d:=d) (g:=g) (t:=t) (st:=st)
 apply zk1
 rw [zf0 (fd:=zz4) rfl rfl,zd8];simp! only [zz4,zz1]
 apply za3
 cases h:yI7 g t with
 | false =>
  rw [h] at hw
  rw [zO8 h]
  simp! [hw]
 | true =>
  obtain ⟨x,r,rfl⟩:=zY5 h
  rw [h] at hw
  simp! [hw,sliceOp,xl1]
  rw [zx3 (f:=fun y=>.bl (inN g.ns y)) _ _ _ (fun env=>∃ a,env=[some (.p (zm0 g)),a]) ⟨_,rfl⟩ ?g1]
  case g1 =>
   rintro y hy env ⟨a,rfl⟩
   refine ⟨_,rfl,⟨_,rfl⟩,?_⟩
   have e20:zk5 2 0=some 0:=rfl
   have e1:zi3 (dep y) (deps (g.ns.map .str))=true:=by rw [zM4];exact dp0
   simp! [zm0,e20,e1,zK1]
  simp! [bfOp,zq7]
  unfold isT
  rw [h]
  rfl
theorem yJ4 {a b:List (List Nat)} {x:PV}:inN (a++b) x=(inN a x || inN b x):=by
 cases x with
 | str s=>simp [inN]
 | _=>rfl
theorem zA7 {W d:Nat} {g:Gr} {t:PV} {st:za6}:zi1 prog W (d+3) zC4 [.p (zm0 g),.p t] st=.ok (.p (.bl (isT g (g.ns++AF) t))) st:=by
 have hw:=zA3 (W:=W) (d:=d) (g:=g) (t:=t) (st:=st)
 apply zk1
 rw [zf0 (fd:=zv2) rfl rfl,zd8];simp! only [zv2,zu2]
 apply za3
 cases h:yI7 g t with
 | false =>
  rw [h] at hw
  rw [zO8 h]
  simp! [hw]
 | true =>
  obtain ⟨x,r,rfl⟩:=zY5 h
  rw [h] at hw
  simp! [hw,sliceOp,xl1]
  rw [zx3 (f:=fun y=>.bl (inN (g.ns++AF) y)) _ _ _ (fun env=>∃ a,env=[some (.p (zm0 g)),a]) ⟨_,rfl⟩ ?g1]
  case g1 =>
   rintro y hy env ⟨a,rfl⟩
   refine ⟨_,rfl,⟨_,rfl⟩,?_⟩
   have e20:zk5 2 0=some 0:=rfl
   have e1:zi3 (dep y) (deps (g.ns.map .str))=true:=by rw [zM4];exact dp0
   have em:=yc2 (W:=W) (d:=d+1) (x:=y) (st:=st)
   rw [yJ4]
   cases hy:inN g.ns y <;> simp! [zm0,e20,e1,zK1,hy,em]
  simp! [bfOp,zq7]
  unfold isT
  rw [h]
  rfl
theorem yf5 {hs:List Hd} (hn:(hs.map Hd.h).Nodup) {x:PV}:hs.filter (fun h=>pyEq (.str h.h) x)=(hd? hs x).toList:=by
 induction hs with
 | nil=>rfl
 | cons h r ih =>
  rw [List.map_cons,List.nodup_cons] at hn
  unfold hd? at *
  by_cases c:pyEq (.str h.h) x=true
  ·rw [List.filter_cons,if_pos c,List.find?_cons]
   simp only [c]
   have:r.filter (fun h=>pyEq (.str h.h) x)=[]:=by
    rw [List.filter_eq_nil_iff]
    intro k hk e
    rw [zA6] at c e
    cases x with
    | str s =>
     have c1:=of_decide_eq_true c
     have c2:=of_decide_eq_true e
     exact hn.1 (List.mem_map.mpr ⟨k,hk,by rw [c1,c2]⟩)
    | _=>cases c
   rw [this];rfl
  ·rw [List.filter_cons,if_neg c,List.find?_cons]
   simp only [c]
   exact ih hn.2
theorem yU2 {hs:List Hd} {x:PV} {h:Hd} (e:hd? hs x=some h):∃ s,x=.str s:=by
 have:=List.find?_some e
 cases x with
 | str s=>exact ⟨s,rfl⟩
 | _=>rw [zA6] at this;cases this
theorem yo5 {p:PV→Bool} {r:List PV}:zp8 (.bl false) (r.map fun y=>.bl (p y)) = !r.all p:=by
 unfold zp8
 induction r with
 | nil=>rfl
 | cons y r ih =>
  rw [List.map_cons,List.any_cons,ih,List.all_cons,pyEq]
  cases p y <;> simp
theorem zr3 {W d:Nat} {g:Gr} {ms:List (List Nat)} {t:PV} {st:za6} (hg:gG g) (hm:ms.length≤6):zi1 prog W (d+1) zH5 [.p (zm0 g),.p t,.p (.lst (ms.map .str))] st=.ok (.p (.bl (isT g (g.ns++ms) t))) st:=by
 have e20:zk5 2 0=some 0:=rfl
 have e21:zk5 2 1=some 1:=rfl
 have e30:zk5 3 0=some 0:=rfl
 have e31:zk5 3 1=some 1:=rfl
 have q0:∀ i:Int,pyEqs [] [PV.int i]=false:=fun i=>by simp [pyEqs]
 have q1:∀ i j:Int,pyEqs [PV.int i] [PV.int j]=decide (i=j):=fun i j=>by simp [pyEqs,pyEq]
 apply zk1
 rw [zf0 (fd:=zn5) rfl rfl,zd8];simp! only [zn5,zn4]
 apply za3
 cases t with
 | tup xs =>
  cases xs with
  | nil =>
   simp! [bfOp,pyEq]
   apply za3
   simp! []
   rfl
  | cons x r =>
   have hl:¬ (r.length:Int)+1=0:=by lia
   by_cases hs:∃ s,x=.str s
   ·obtain ⟨s,rfl⟩:=hs
    simp! [bfOp,pyEq,hl,zk5]
    apply za3
    simp! [zm0,e21]
    rw [zw7 zl9 (fun h=>pyEq (.str h.h) (.str s)) (fun h=>.int h.k) (fun env=>∃ a,env=[some (.p (.tup (.str s::r))),a]) g.hs _ [] ⟨_,rfl⟩ ?g1]
    case g1 =>
     rintro h hh env ⟨a,rfl⟩
     refine ⟨_,rfl,⟨_,rfl⟩,?_,fun _=>?_⟩
     ·have dd:zi3 0 0=true:=dp0
      simp! [zl9,e30,zk5,dd]
      rw [zA6]
     ·simp! [zl9,e31]
    rw [yf5 hg.h.1]
    simp! []
    apply za3
    cases hq:hd? g.hs (.str s) with
    | none =>
     have d0:zi3 1 1=true:=by decide
     simp! [bfOp,pyEq,d0,q0]
     apply za3
     simp! []
     rw [zO8]
     rw [zl7,hq]
    | some h =>
     have d0:zi3 1 1=true:=by decide
     by_cases c:r.length=h.k
     ·have c':(h.k:Int)=r.length:=by lia
      simp! [bfOp,pyEq,d0,q1,c']
      apply za3
      have z:g.ns.length+ms.length≤SZ:=zj5 (by have:=hg.n4;lia)
      simp! [zm0,e20,bfOp,z]
      apply za3
      simp! [sliceOp,xl1]
      rw [← List.map_append,zx3 (f:=fun y=>.bl (inN (g.ns++ms) y)) _ _ _ (fun env=>∃ a,env=[some (.p (.lst ((g.ns++ms).map .str))),a]) ⟨_,rfl⟩ ?g2]
      case g2 =>
       rintro y hy env ⟨a,rfl⟩
       refine ⟨_,rfl,⟨_,rfl⟩,?_⟩
       have e1:zi3 (dep y) (deps ((g.ns++ms).map .str))=true:=by rw [zM4];exact dp0
       generalize g.ns++ms=N at e1 ⊢
       cases y with
       | str s=>simp! [bfOp,e1,zK1]
       | _=>simp! [bfOp,inN]
      have e2:zi3 0 (deps (r.map fun y=>PV.bl (inN (g.ns++ms) y)))=true:=dp0'
      rw [List.nil_append]
      simp! [e2,yo5]
      unfold isT
      rw [zl7,hq]
      simp [c,tl]
     ·have c':¬ (h.k:Int)=r.length:=by lia
      simp! [bfOp,pyEq,d0,q1,c']
      apply za3
      simp! []
      rw [zO8]
      rw [zl7,hq]
      exact decide_eq_false c
   ·have hn:hd? g.hs x=none:=by
     cases e:hd? g.hs x with
     | none=>rfl
     | some h=>exact absurd (yU2 e) hs
    have hi:yL0 .str x=false:=by
     cases x with
     | str s=>exact absurd ⟨s,rfl⟩ hs
     | _=>rfl
    have ht:yL0 .tuple (.tup (x::r))=true:=rfl
    simp! [bfOp,pyEq,hl,zk5,hi,ht,-yL0]
    apply za3
    simp! []
    rw [zO8]
    rw [zl7,hn]
 | _ =>
  simp! [bfOp]
  apply za3
  simp! []
  rfl
def JG (w:Nat) (T:Int) (st:za6) (cs:List (List Nat)) (xs:List PV) (env:Env) (st':za6) (acc:List PV):Prop :=
 (∃ v,env=[some (.ref w),v])∧∃ (hs:List Hd) (rem:List (List Nat)),acc=hs.map zl9∧xs=rem.map .str∧hs.map Hd.h++rem=cs∧(∀ h∈hs,h.k≤2∧ok h.o∧dpt h.o≤3)∧zj9 w (T+14+91 * hs.length) st st'
theorem yd5 {W D w:Nat} {T:Int} {st:za6} (hD:7≤D) (hw:Well st w T) (hT:T+500≤1000000) :
  Sat (zi1 prog W D zO0 [.ref w] st) fun v st'=>(∃ g,v=.p (zm0 g)∧gG g)∧zj9 w (T+500) st st':=by
 obtain ⟨d,rfl⟩:∃ d,D=d+7:=⟨D - 7,by lia⟩
 rw [zf0 (fd:=zr0) rfl rfl,zd8];simp! only [zr0,zr5]
 apply za3
 simp! []
 refine Sat.k1 (zj3 hw (by lia)) fun r1 s1 r10 r11 hd1=>?_
 obtain ⟨m1,e1⟩:∃ m:Nat,1+r1=(m:Int):=⟨(1+r1).toNat,by lia⟩
 simp! [e1]
 refine Sat.k1 (zq0 (by lia) hd1.2 (by lia) (by lia)) fun ns s2 hl2 hn2 hd2=>?_
 simp! [bfOp]
 apply za3
 simp! []
 refine Sat.k1 (zj3 hd2.2 (by lia)) fun r3 s3 r30 r31 hd3=>?_
 obtain ⟨m2,e2⟩:∃ m:Nat,1+r3=(m:Int):=⟨(1+r3).toNat,by lia⟩
 simp! [e2]
 refine Sat.k1 (zq0 (by lia) hd3.2 (by lia) (by lia)) fun cs s4 hl4 hn4 hd4=>?_
 apply za3
 simp! []
 have hd:=((hd1.trans hd2).trans hd3).trans hd4
 clear hd1 hd2 hd3 hd4
 refine (zx5 (JG w T st cs) _ _ _ _ ⟨⟨_,rfl⟩,[],cs,rfl,rfl,rfl,by simp,hd.mono (by simp;lia)⟩ ?_).mono ?_
 ·rintro x r env st' acc ⟨⟨v,rfl⟩,hs,rem,rfl,hx,hc,hg,hd'⟩
  cases rem with
  | nil=>cases hx
  | cons c rem =>
   rw [List.map_cons] at hx
   cases hx
   have hlen:hs.length+1≤5:=by
    have:=congrArg List.length hc
    simp at this
    lia
   refine ⟨_,rfl,?_⟩
   simp! []
   refine Sat.k1 (zj3 hd'.2 (by lia)) fun q s5 q0 q1 hd5=>?_
   obtain ⟨k,hk,ek⟩:∃ k:Nat,k≤2∧[PV.int 1,PV.int 0,PV.int 1,PV.int 2][q.toNat]?=some (.int k):=by
    obtain rfl | rfl | rfl | rfl:q=0∨q=1∨q=2∨q=3:=by lia
    ·exact ⟨1,by lia,rfl⟩
    ·exact ⟨0,by lia,rfl⟩
    ·exact ⟨1,by lia,rfl⟩
    ·exact ⟨2,by lia,rfl⟩
   have i4:zk5 4 q=some q.toNat:=by unfold zk5;rw [if_pos q0,if_pos (by lia)]
   simp! [i4,ek]
   refine Sat.k1 (yk2 (by lia) hd5.2 (by lia)) fun o s6 ho hdo hd6=>?_
   simp! []
   refine ⟨⟨_,rfl⟩,hs++[⟨c,k,o⟩],rem,by simp [zl9],rfl,by simpa using hc,?_,?_⟩
   ·intro h hh
    rcases List.mem_append.mp hh with hh | hh
    ·exact hg h hh
    ·have:h=⟨c,k,o⟩:=by simpa using hh
     subst this;exact ⟨hk,ho,hdo⟩
   ·exact ((hd'.trans hd5).trans hd6).mono (by simp;lia)
 ·rintro ys st' ⟨env',_,hs,rem,rfl,hx,hc,hg,hd'⟩
  have hr:rem=[]:=by
   cases rem with
   | nil=>rfl
   | cons _ _=>cases hx
  subst hr
  rw [List.append_nil] at hc
  have hlen:hs.length=m2:=by rw [← hl4,← hc,List.length_map]
  simp! []
  apply za3
  simp! [bfOp]
  refine ⟨⟨⟨ns,hs⟩,rfl,hn2,by lia,by lia,by rw [hc];exact hn4,by lia,by lia,hg⟩,(hd'.mono (by lia)).cut⟩
noncomputable abbrev Row:=List (List Nat)
noncomputable def zN0 (ns:List (List Nat)) (h:Hd):List Row :=
 if h.k=0 then [[h.h]] else if h.k=1 then ns.map fun n=>[h.h,n] else ns.flatMap fun n=>ns.map fun m=>[h.h,n,m]
noncomputable def ths (g:Gr):List Row:=g.hs.flatMap (zN0 g.ns)
theorem zK6 (h:List Nat) (ms:List (List Nat)):∀ ns:List (List Nat),(ns.flatMap fun n=>ms.map fun m=>[h,n,m]).length=ns.length * ms.length
 | []=>by simp
 | n::r=>by rw [List.flatMap_cons,List.length_append,zK6 h ms r,List.length_map,List.length_cons,Nat.succ_mul,Nat.add_comm]
theorem zX5 {ns:List (List Nat)} {h:Hd} (hn:ns.length≤4):(zN0 ns h).length≤16:=by
 unfold zN0
 split
 ·simp
 ·split
  ·rw [List.length_map];lia
  ·rw [zK6]
   exact Nat.mul_le_mul hn hn
theorem zK0 {ns:List (List Nat)} (hn:ns.length≤4):∀ hs:List Hd,(hs.flatMap (zN0 ns)).length≤16 * hs.length
 | []=>by simp
 | h::r=>by
  have:=zK0 hn r
  have:=zX5 (h:=h) hn
  rw [List.flatMap_cons,List.length_append,List.length_cons]
  lia
theorem xi5 {ns:List (List Nat)} {h:Hd} {r:Row} (hr:r∈zN0 ns h):r≠[]:=by
 unfold zN0 at hr
 split at hr
 ·rw [List.mem_singleton] at hr;subst hr;simp
 ·split at hr
  ·obtain ⟨n,_,rfl⟩:=List.mem_map.mp hr;simp
  ·obtain ⟨n,_,hr⟩:=List.mem_flatMap.mp hr
   obtain ⟨m,_,rfl⟩:=List.mem_map.mp hr;simp
theorem yu4 (ms:List (List Nat)):zp4 (ms.map .str)=some ms:=by
 induction ms with
 | nil=>rfl
 | cons x r ih=>rw [List.map_cons,zp4,ih];rfl
theorem zZ7:∀ rs:List Row,(∀ r∈rs,r≠[])→rowsOf (rs.map zh1)=some rs
 | [],_=>rfl
 | []::rs,h=>absurd rfl (h [] (by simp))
 | (y::ys)::rs,h=>by
  have ih:=zZ7 rs fun r hr=>h r (List.mem_cons_of_mem _ hr)
  rw [List.map_cons,zh1,rowsOf,yu4,ih]
  rfl
noncomputable def yz8 (rs:List Row):List Row:=rs.foldl (fun d i=>yb1 i d) []
theorem zQ5 (rs:List Row):(yz8 rs).Perm rs:=(yM2 rs).2
theorem sorted_rows {rs:List Row} (h:∀ r∈rs,r≠[]) (h0:rs≠[]) (hl:rs.length<128):zy7 (.lst (rs.map zh1))=some (.lst ((yz8 rs).map zh1)):=by
 cases rs with
 | nil=>exact absurd rfl h0
 | cons r rs =>
  have e:zp4 ((r::rs).map zh1)=none:=rfl
  unfold zy7
  simp only [zw0,e,zZ7 _ h,if_pos hl]
  rfl
def Jrow (s2:za6) (e0 e1 e2 e3 e4:Option Val) (h:List Nat) (ns:List (List Nat)) (xs:List PV) (env:Env) (s:za6):Prop :=
 ∃ (x6:Option Val) (us vs:List (List Nat)),env=[e0,e1,e2,e3,e4,some (.ref s2.length),x6]∧ns=us++vs∧xs=vs.map .str∧s=s2++[.lst ((us.flatMap fun n=>ns.map fun m=>[h,n,m]).map zh1)]
theorem yt4 {W d:Nat} {g:Gr} {h:Hd} {s:za6} {e1 e4 x5 x6:Option Val} {r:List S} {Q:Flow→za6→Prop} (hg:gG g) (hk:h.k≤2)
    (hQ:∀ n y6 q,zb6 (s++q) n=some (.lst ((zN0 g.ns h).map zh1))→Sat (execSs (zi1 prog W d) W r [some (.p (zm0 g)),e1,some (.p (.str h.h)),some (.p (.int h.k)),e4,some (.ref n),y6] (s++q)) Q) :
    Sat (execSs (zi1 prog W d) W (.set 5 (.thaw (.list false [(.tup [(.var 2)])])) :: .ite (.cmp .gt (.var 3) (.const (.int 0)))
       [.set 5 (.thaw (.comp false (.tup [(.var 0),(.var 1)]) (.name 1) (.of (.ix (.var 0) (.const (.int 0)))) none [2] 1))]
       [] :: .ite (.cmp .gt (.var 3) (.const (.int 1)))
       [.set 5 (.thaw (.list false [])),
        .for (.name 6) (.of (.ix (.var 0) (.const (.int 0))))
          [.expr (.meth .extend (.var 5) [(.comp false (.tup [(.var 0),(.var 1),(.var 2)]) (.name 2) (.of (.ix (.var 0) (.const (.int 0)))) none [2,6] 1)])]]
       []::r) [some (.p (zm0 g)),e1,some (.p (.str h.h)),some (.p (.int h.k)),e4,x5,x6] s) Q:=by
  have e20:zk5 2 0=some 0:=rfl
  have hn4:=hg.n4
  obtain ⟨hh,k,o⟩:=h
  dsimp only at *
  obtain rfl | rfl | rfl:k=0∨k=1∨k=2:=by lia
  · apply za3
    simp! []
    apply za3
    simp! []
    apply za3
    simp! []
    dsimp! only
    exact hQ s.length x6 [.lst [.tup [.str hh]]] zn7
  · apply za3
    simp! []
    apply za3
    simp! []
    apply za3
    simp! [zm0,e20]
    rw [zj2 PV.str (fun n=>zh1 [hh,n]) (fun env=>∃ a,env=[some (.p (.str hh)),a]) _ _ _ ⟨_,rfl⟩ ?g1]
    case g1 =>
      rintro n hn env ⟨a,rfl⟩
      exact ⟨_,rfl,⟨_,rfl⟩,rfl⟩
    simp! []
    apply za3
    simp! []
    dsimp! only
    have:=hQ (s.length+1) x6 [.lst [.tup [.str hh]],.lst (g.ns.map fun n=>zh1 [hh,n])] (by
      rw [show s++[zl8.lst [.tup [.str hh]],.lst (g.ns.map fun n=>zh1 [hh,n])]=(s++[.lst [.tup [.str hh]]])++[.lst (g.ns.map fun n=>zh1 [hh,n])] by simp,zj7 (by simp)]
      simp [zN0])
    exact this
  · apply za3
    simp! []
    apply za3
    simp! []
    apply za3
    simp! [zm0,e20]
    rw [zj2 PV.str (fun n=>zh1 [hh,n]) (fun env=>∃ a,env=[some (.p (.str hh)),a]) _ _ _ ⟨_,rfl⟩ ?g1]
    case g1 =>
      rintro n hn env ⟨a,rfl⟩
      exact ⟨_,rfl,⟨_,rfl⟩,rfl⟩
    simp! []
    apply za3
    simp! []
    obtain ⟨q2,hq2⟩:∃ q2:za6,q2=[.lst [.tup [.str hh]],.lst (g.ns.map fun n=>zh1 [hh,n])]:=⟨_,rfl⟩
    rw [← hq2]
    have hl2:List.length s+1+1=(s++q2).length:=by rw [hq2];simp
    apply za3
    simp! []
    apply za3
    simp! [e20]
    refine (zq9 (Jrow (s++q2) (some (.p (zm0 g))) e1 (some (.p (.str hh))) (some (.p (.int 2))) e4 hh g.ns) _ _ _ ?_ ?_).mono ?_
    · exact ⟨x6,[],g.ns,by rw [List.length_append];rfl,rfl,rfl,by simp⟩
    · rintro x xr env s3 ⟨y6,us,vs,rfl,hps,hx,rfl⟩
      cases vs with
      | nil=>cases hx
      | cons n vs =>
        rw [List.map_cons] at hx
        cases hx
        have hul:us.length+1≤4:=by
          have:=congrArg List.length hps
          simp at this;lia
        refine ⟨_,rfl,?_⟩
        generalize s++q2=S
        have hob:∀ l:List PV,zb6 (S++[.lst l]) S.length=some (.lst l):=fun l=>zn7
        have hvw:=fun l=>zi4 (hob l)
        have hla:=fun l=>zv5 (hob l)
        have hset:∀ l l':List PV,List.set (S++[zl8.lst l]) S.length (.lst l')=S++[.lst l']:=fun l l'=>by
          rw [List.set_append_right _ _ (Nat.le_refl _)];simp
        have hfl:=zK6 hh g.ns us
        have hm:us.length * g.ns.length≤4 * 4:=Nat.mul_le_mul (by lia) hn4
        have z2:(us.flatMap fun n=>g.ns.map fun m=>[hh,n,m]).length+g.ns.length≤SZ:=zj5 (by lia)
        generalize hU:(us.flatMap fun n=>g.ns.map fun m=>[hh,n,m])=U at z2
        apply za3
        simp! [hvw,zm0,e20]
        rw [zj2 PV.str (fun m=>zh1 [hh,n,m]) (fun env=>∃ a,env=[some (.p (.str hh)),some (.p (.str n)),a]) _ _ _ ⟨_,rfl⟩ ?g2]
        case g2 =>
          rintro m hm env ⟨a,rfl⟩
          exact ⟨_,rfl,⟨_,rfl⟩,rfl⟩
        simp! [hla,zJ5,z2,hset]
        dsimp! only
        refine ⟨_,rfl,_,us++[n],vs,rfl,by simp [hps],rfl,?_⟩
        rw [List.flatMap_append,hU]
        simp
    · rintro _ s3 ⟨env2,rfl,y6,us,vs,rfl,hps,hx,rfl⟩
      have hvs:vs=[]:=by
        cases vs with
        | nil=>rfl
        | cons _ _=>cases hx
      subst hvs
      rw [List.append_nil] at hps
      subst hps
      dsimp! only
      rw [List.append_assoc]
      refine hQ _ _ _ ?_
      rw [← List.append_assoc,zj7 rfl]
      rfl
theorem yD3 {ns:List (List Nat)} {h:Hd} (hn:1≤ns.length):zN0 ns h≠[]:=by
 intro e
 have:=congrArg List.length e
 unfold zN0 at this
 split at this
 ·simp at this
 ·split at this
  ·rw [List.length_map] at this;simp at this;subst this;simp at hn
  ·rw [zK6] at this
   have h2:1 * 1≤ns.length * ns.length:=Nat.mul_le_mul hn hn
   have this:ns.length * ns.length=0:=this
   lia
theorem yA6 {g:Gr} (hg:gG g):ths g≠[]:=by
 unfold ths
 cases e:g.hs with
 | nil=>have:=hg.h1;rw [e] at this;simp at this
 | cons h r =>
  rw [List.flatMap_cons]
  intro e2
  exact yD3 hg.n1 (List.append_eq_nil_iff.mp e2).1
def Jth (st:za6) (g:Gr) (xs:List PV) (env:Env) (s:za6):Prop :=
 ∃ (x2 x3 x4 x5 x6:Option Val) (us vs:List Hd) (q:za6),env=[some (.p (zm0 g)),some (.ref st.length),x2,x3,x4,x5,x6]∧g.hs=us++vs∧xs=vs.map zl9∧s=st++(.lst ((us.flatMap (zN0 g.ns)).map zh1)::q)
theorem yB0 {st q:za6} {o:zl8}:zb6 (st++(o::q)) st.length=some o:=by unfold zb6;simp
theorem yg4 {W d:Nat} {g:Gr} {st:za6} (hg:gG g):zi1 prog W (d+1) zP1 [.p (zm0 g)] st=.ok (.p (.lst ((yz8 (ths g)).map zh1))) st:=by
 have e21:zk5 2 1=some 1:=rfl
 apply zk1
 rw [zf0 (fd:=zq3) rfl rfl,zd8];simp! only [zq3,zq2]
 apply za3
 simp! []
 apply za3
 have ev:evalIt (zi1 prog W d) (.of (.ix (.var 0) (.const (.int 1)))) [some (.p (zm0 g)),some (.ref st.length),none,none,none,none,none] (st++[.lst []])=.ok (g.hs.map zl9,none) (st++[.lst []]):=by
  simp! [zm0,e21]
 simp! [ev,-zS8]
 refine (zq9 (Jth st g) _ _ _ ⟨_,_,_,_,_,[],g.hs,[],rfl,rfl,rfl,rfl⟩ ?_).mono ?_
 ·rintro x xr env s ⟨x2,x3,x4,x5,x6,us,vs,q,rfl,hps,hx,rfl⟩
  cases vs with
  | nil=>cases hx
  | cons h vs =>
   rw [List.map_cons] at hx
   cases hx
   have hm:h∈g.hs:=by rw [hps];simp
   have hul:us.length+1≤5:=by
    have h5:=hg.h5
    have:=congrArg List.length hps
    simp at this;lia
   refine ⟨_,rfl,?_⟩
   refine yt4 hg (hg.k h hm).1 fun n y6 q' hob=>?_
   have hl1:=zK0 hg.n4 us
   have hl2:=zX5 (h:=h) hg.n4
   have z2:(us.flatMap (zN0 g.ns)).length+(zN0 g.ns h).length≤SZ:=zj5 (by lia)
   generalize hU:us.flatMap (zN0 g.ns)=U at z2 hob ⊢
   have hob1:zb6 (st++(.lst (U.map zh1)::q)++q') st.length=some (.lst (U.map zh1)):=by
    rw [List.append_assoc,List.cons_append];exact yB0
   have hv1:=zi4 hob1
   have hla:=zv5 hob1
   have hv2:=zi4 hob
   have hset:∀ o,List.set (st++(zl8.lst (U.map zh1)::q)++q') st.length o=st++(o::(q++q')):=fun o=>by
    rw [List.append_assoc,List.cons_append,List.set_append_right _ _ (Nat.le_refl _)];simp
   generalize st++(zl8.lst (U.map zh1)::q)++q'=S at hv1 hla hv2 hset ⊢
   have hme:zk3 .extend (.ref st.length) [.ref n] S=.ok (.p .non) (st++(.lst (U.map zh1++(zN0 g.ns h).map zh1)::(q++q'))):=by
    unfold zk3
    rw [if_neg (by decide),zj4,hv2]
    simp [zj4,zx2,zp7,hla,zJ5,z2,hset]
   apply za3
   simp! [hv1,hme]
   dsimp! only
   exact ⟨_,rfl,_,_,_,_,_,us++[h],vs,q++q',rfl,by simp [hps],rfl,by rw [List.flatMap_append,hU];simp⟩
 ·rintro _ s ⟨env2,rfl,x2,x3,x4,x5,x6,us,vs,q,rfl,hps,hx,rfl⟩
  have hvs:vs=[]:=by
   cases vs with
   | nil=>rfl
   | cons _ _=>cases hx
  subst hvs
  rw [List.append_nil] at hps
  have hU:us.flatMap (zN0 g.ns)=ths g:=by unfold ths;rw [hps]
  rw [hU]
  have hne:∀ r∈ths g,r≠[]:=fun r hr=>by
   obtain ⟨h,_,hr⟩:=List.mem_flatMap.mp hr
   exact xi5 hr
  have h0:ths g≠[]:=yA6 hg
  have hln:=zK0 hg.n4 g.hs
  have h5:=hg.h5
  have hso:=sorted_rows hne h0 (show (ths g).length<128 by unfold ths;lia)
  have hob1:zb6 (st++(.lst ((ths g).map zh1)::q)) st.length=some (.lst ((ths g).map zh1)):=yB0
  have hv1:=zi4 hob1
  apply za3
  simp! [opN,zj4,hv1,bfOp,hso]
theorem yE2 {ns:List (List Nat)} {h:Hd} {r:Row} (hk:h.k≤2) (hr:r∈zN0 ns h):∃ ws,r=h.h::ws∧ws.length=h.k∧∀ w∈ws,w∈ns:=by
 unfold zN0 at hr
 split at hr
 ·rename_i c
  rw [List.mem_singleton] at hr;subst hr
  exact ⟨[],rfl,by simp [c],by simp⟩
 ·split at hr
  ·rename_i c
   obtain ⟨n,hn,rfl⟩:=List.mem_map.mp hr
   exact ⟨[n],rfl,by simp [c],by simpa using hn⟩
  ·obtain ⟨n,hn,hr⟩:=List.mem_flatMap.mp hr
   obtain ⟨m,hm,rfl⟩:=List.mem_map.mp hr
   refine ⟨[n,m],rfl,by simp;lia,fun w hw=>?_⟩
   simp only [List.mem_cons,List.not_mem_nil,or_false] at hw
   rcases hw with rfl | rfl <;> assumption
theorem yI3 {hs:List Hd} (hn:(hs.map Hd.h).Nodup) {h:Hd} (hm:h∈hs):hd? hs (.str h.h)=some h:=by
 induction hs with
 | nil=>cases hm
 | cons k r ih =>
  rw [List.map_cons,List.nodup_cons] at hn
  unfold hd? at *
  rw [List.find?_cons]
  rcases List.mem_cons.mp hm with rfl | hm
  ·rw [show pyEq (.str h.h) (.str h.h)=true by rw [zA6];exact decide_eq_true rfl]
  ·have:pyEq (.str k.h) (.str h.h)=false:=by
    rw [zA6]
    exact decide_eq_false fun e=>hn.1 (List.mem_map.mpr ⟨h,hm,e.symm⟩)
   rw [this]
   exact ih hn.2 hm
theorem yk7 {g:Gr} (hg:gG g) {h:Hd} (hm:h∈g.hs) {ws N:List (List Nat)} (hl:ws.length=h.k) (hw:∀ w∈ws,w∈N):isT g N (zh1 (h.h::ws))=true:=by
 unfold isT zh1
 rw [List.map_cons,zl7,yI3 hg.h.1 hm]
 simp only [List.length_map,hl,decide_true,Bool.true_and,tl,List.all_map,List.all_eq_true]
 intro w hw'
 exact decide_eq_true (hw w hw')
theorem yo2 {g:Gr} (hg:gG g) {r:Row} (hr:r∈ths g):∃ h∈g.hs,∃ ws,r=h.h::ws∧ws.length=h.k∧∀ w∈ws,w∈g.ns:=by
 obtain ⟨h,hm,hr⟩:=List.mem_flatMap.mp hr
 obtain ⟨ws,e,h1,h2⟩:=yE2 (hg.k h hm).1 hr
 exact ⟨h,hm,ws,e,h1,h2⟩
noncomputable def ABF:List (List Nat):=[[65],[66],[70]]
theorem yc4 {W D w:Nat} {T:Int} {g:Gr} {st:za6} (hD:2≤D) (hg:gG g) (hw:Well st w T) (hT:T+3≤1000000) :
  Sat (zi1 prog W D zN2 [.ref w,.p (zm0 g)] st) fun v st'=>(∃ r,v=.p (zh1 r)∧∃ h∈g.hs,∃ ws,r=h.h::ws∧ws.length=h.k∧∀ w∈ws,w∈g.ns++ABF)∧zj9 w (T+3) st st':=by
 obtain ⟨d,rfl⟩:∃ d,D=d+2:=⟨D - 2,by lia⟩
 have e20:zk5 2 0=some 0:=rfl
 have e21:zk5 2 1=some 1:=rfl
 have e30:zk5 3 0=some 0:=rfl
 have e31:zk5 3 1=some 1:=rfl
 have h1:=hg.h1
 have h5:=hg.h5
 have n4:=hg.n4
 rw [zf0 (fd:=zr6) rfl rfl,zd8];simp! only [zr6,zr1]
 apply za3
 simp! [zm0,e21,bfOp]
 refine Sat.k1 (zj3 hw (by lia) (by lia) (by lia)) fun q s1 q0 q1 hd1=>?_
 have hql:q.toNat<g.hs.length:=by lia
 have hix:zk5 g.hs.length q=some q.toNat:=by unfold zk5;rw [if_pos q0,if_pos q1]
 have hgt:g.hs[q.toNat]?=some g.hs[q.toNat]:=List.getElem?_eq_getElem hql
 have hmem:g.hs[q.toNat]∈g.hs:=List.getElem_mem hql
 generalize g.hs[q.toNat]=h at hgt hmem
 have hk:=(hg.k h hmem).1
 simp! [hix,hgt]
 apply za3
 have z3:g.ns.length+3≤SZ:=zj5 (by lia)
 simp! [e20,bfOp,z3]
 apply za3
 have i2:(h.k:Int)≤SZ:=zA2 (by lia)
 have i2':-1000000≤(h.k:Int):=by lia
 simp! [zl9,e30,e31,i2,i2']
 rw [show g.ns.map PV.str++[PV.str [65],PV.str [66],PV.str [70]]=(g.ns++ABF).map PV.str by simp [ABF]]
 have hN:(g.ns++ABF).length≤7:=by simp [ABF];lia
 have hN0:0<(g.ns++ABF).length:=by simp [ABF]
 obtain ⟨N,hNe⟩:∃ N,N=g.ns++ABF:=⟨_,rfl⟩
 rw [← hNe] at hN hN0 ⊢
 refine (zx5 (fun xs env st' acc=>(∃ v,env=[some (.ref w),some (.p (.lst (N.map .str))),v])∧∃ ws:List (List Nat),acc=ws.map .str∧ws.length+xs.length=h.k∧(∀ u∈ws,u∈N)∧zj9 w (T+1+ws.length) st st') _ _ _ _ ⟨⟨_,rfl⟩,[],rfl,by simp,by simp,by simpa using hd1⟩ ?_).mono ?_
 ·rintro x r env st' acc ⟨⟨v,rfl⟩,ws,rfl,hl,hu,hd⟩
  refine ⟨_,rfl,?_⟩
  simp only [List.length_cons] at hl
  simp! [bfOp]
  refine Sat.k1 (zj3 hd.2 (by lia) (by lia) (by lia)) fun p s2 p0 p1 hd2=>?_
  obtain ⟨u,u1,u2,u3⟩:=yd3 N p p0 p1
  simp! [u1,u3]
  exact ⟨ws++[u],by simp,by simp;lia,fun y hy=>by
   rcases List.mem_append.mp hy with hy | hy
   ·exact hu y hy
   ·have:y=u:=by simpa using hy
    subst this;exact u2,(hd.trans hd2).mono (by simp;lia)⟩
 ·rintro ys st' ⟨env',_,ws,rfl,hl,hu,hd⟩
  simp only [List.length_nil,Nat.add_zero] at hl
  have z4:ws.length+1≤SZ:=zj5 (by lia)
  have z4':1+ws.length≤SZ:=zj5 (by lia)
  simp! [bfOp,z4,z4']
  rw [hNe] at hu
  exact ⟨⟨h.h::ws,rfl,h,hmem,ws,rfl,hl,fun u hu'=>List.mem_append.mp (hu u hu')⟩,(hd.mono (by lia)).cut⟩
theorem yI2 {g:Gr} (hg:gG g):okv 2 (zm0 g)=true∧dep (zm0 g)≤10∧wt (zm0 g)≤170000:=by
 have row:∀ {α:Type} (f:α→PV) (d w:Nat) (xs:List α),(∀ x∈xs,okv 2 (f x)=true∧dep (f x)≤d∧wt (f x)≤w)→(xs.map f).all (okv 2)=true∧deps (xs.map f)≤d∧wts (xs.map f)≤(w+2) * xs.length:=by
  intro α f d w xs h
  induction xs with
  | nil=>simp
  | cons x r ih =>
   obtain ⟨a,b,c⟩:=h x (by simp)
   obtain ⟨a',b',c'⟩:=ih fun y hy=>h y (List.mem_cons_of_mem _ hy)
   refine ⟨by rw [List.map_cons,List.all_cons,a,a'];rfl,by simp;lia,?_⟩
   rw [List.map_cons,zK2,List.length_cons,Nat.mul_succ];lia
 have nm:∀ n,yw5 n=true→okv 2 (.str n)=true∧wt (.str n)≤10:=fun n h=>by
  have:=(zO5 h).2
  exact ⟨by rw [zq6];exact yl9 h,by simp;lia⟩
 obtain ⟨n1,n2,n3⟩:=row PV.str 0 10 g.ns fun n hn=>⟨(nm n (hg.n.2 n hn)).1,by simp,(nm n (hg.n.2 n hn)).2⟩
 obtain ⟨h1,h2,h3⟩:=row zl9 8 32100 g.hs fun h hh=>by
  obtain ⟨k1,k2,k3⟩:=hg.k h hh
  obtain ⟨g1,g2,g3⟩:=yu5 h.o k2
  have h4:4 ^ dpt h.o≤4 ^ 3:=Nat.pow_le_pow_right (by lia) k3
  have h64:4 ^ 3=64:=rfl
  have hm:=nm h.h (hg.h.2 h.h (List.mem_map_of_mem hh))
  have hi:okv 2 (.int (h.k:Int))=true:=by rw [yE6];exact decide_eq_true (by lia)
  refine ⟨?_,?_,?_⟩
  ·rw [zl9,zn2,List.all_cons,List.all_cons,List.all_cons,hm.1,hi,okv_mono (by lia) _ g1];rfl
  ·simp [zl9];lia
  ·have:=hm.2;simp [zl9] at this ⊢;lia
 have m1:(10+2) * g.ns.length≤12 * 4:=Nat.mul_le_mul_left _ hg.n4
 have m2:(32100+2) * g.hs.length≤32102 * 5:=Nat.mul_le_mul_left _ hg.h5
 refine ⟨?_,?_,?_⟩
 ·simp only [zm0,zn2,List.all_cons,n1,h1];rfl
 ·simp [zm0];lia
 ·simp [zm0];lia
theorem zX3 {W D B dd n:Nat} {g:Gr} {t:PV} {st:za6} (hD:4≤D) (hg:gG g) (ht:Gd B dd n t) (hB0:B20≤B) (hB:B≤B20+2) (hd:dd≤80) (hn:n≤100000) :
  zi1 prog W D zE4 [.p (zm0 g),.p t] st=.ok (.p (.bl true)) st:=by
 obtain ⟨d,rfl⟩:∃ d,D=d+4:=⟨D - 4,by lia⟩
 obtain ⟨g1,g2,g3⟩:=yI2 hg
 obtain ⟨K,hK⟩:=yH6 (B:=B) (v:=.tup [zm0 g,t]) (by unfold B20 at hB;lia) (by simp [okv_mono (show 2≤B by unfold B20 at hB0;lia) _ g1,(zg7.mp ht.o).1]) (by have:=ht.d;simp;lia) (by have:=ht.w;simp;lia)
 have e1:=zF1 (W:=W) (d:=d) (g:=g) (t:=t) (st:=st)
 have e2:=zr3 (W:=W) (d:=d+2) (g:=g) (ms:=[]) (t:=t) (st:=st) hg (by simp)
 have e3:=zA7 (W:=W) (d:=d) (g:=g) (t:=t) (st:=st)
 have e4:=zr3 (W:=W) (d:=d+2) (g:=g) (ms:=AF) (t:=t) (st:=st) hg (by simp [AF])
 rw [List.append_nil,List.map_nil] at e2
 simp only [AF,List.map_cons,List.map_nil] at e4
 have hb:∀ b:Bool,∃ l,zz8 (.bl b)=some l:=fun b=>by cases b <;> exact ⟨_,rfl⟩
 obtain ⟨l1,hl1⟩:=hb (isT g g.ns t)
 obtain ⟨l2,hl2⟩:=hb (isT g (g.ns++[[65],[66],[67],[68],[69],[70]]) t)
 have e3:zi1 prog W (d+3) zC4 [.p (zm0 g),.p t] st=.ok (.p (.bl (isT g (g.ns++[[65],[66],[67],[68],[69],[70]]) t))) st:=e3
 generalize isT g g.ns t=b1 at *
 generalize isT g (g.ns++[[65],[66],[67],[68],[69],[70]]) t=b2 at *
 generalize zm0 g=G at *
 apply zk1
 rw [zf0 (fd:=zu5) rfl rfl,zd8];simp! only [zu5,zu7]
 apply za3
 simp! [bfOp,-zz8,hK]
 apply za3
 simp! [bfOp,e1,e2,-zz8,hl1,pyEq]
 apply za3
 simp! [e4]
 apply za3
 simp! [bfOp,e3,-zz8,hl2,hK,pyEq]
def gW (w:List Nat):Prop:=w.all okC=true∧w.length≤8
theorem yK9 {n:List Nat} (h:yw5 n=true):gW n:=⟨yl9 h,(zO5 h).2⟩
theorem zN5 {r:Row} (h:∀ w∈r,gW w) (hl:r.length≤4):Gd B20 1 60 (zh1 r):=by
 unfold zh1
 refine zm6.mpr ⟨fun x hx=>?_,?_,by simp;lia⟩
 ·obtain ⟨w,hw,rfl⟩:=List.mem_map.mp hx
  exact ⟨zg7.mpr ⟨by rw [zq6];exact (h w hw).1,by simp⟩,by simp⟩
 ·have:∀ r:Row,(∀ w∈r,gW w)→wts (r.map .str)≤12 * r.length:=by
   intro r h
   induction r with
   | nil=>simp
   | cons w r ih =>
    have h1:=(h w (by simp)).2
    have h2:=ih fun u hu=>h u (List.mem_cons_of_mem _ hu)
    rw [List.map_cons,zK2,List.length_cons]
    simp
    lia
  have:=this r h
  lia
theorem yY5:∀ w∈ABF,gW w:=by
 intro w hw
 simp only [ABF,List.mem_cons,List.not_mem_nil,or_false] at hw
 rcases hw with rfl | rfl | rfl <;> exact ⟨by decide,by decide⟩
theorem yQ2 {g:Gr} (hg:gG g) {h:Hd} (hm:h∈g.hs) {ws:List (List Nat)} (hw:∀ w∈ws,w∈g.ns∨w∈ABF):∀ w∈h.h::ws,gW w:=by
 intro w hw'
 rcases List.mem_cons.mp hw' with rfl | hw'
 ·exact yK9 (hg.h.2 _ (List.mem_map_of_mem hm))
 ·rcases hw w hw' with h | h
  ·exact yK9 (hg.n.2 w h)
  ·exact yY5 w h
def I1 (es:Env) (e6 e7 e8 e9 e10 e11:Option Val) (g:Gr) (s0:za6) (xs:List PV) (env:Env) (s:za6):Prop :=
 ∃ x5,env=es++[x5,e6,e7,e8,e9,e10,e11]∧s0=s∧∀ x∈xs,∃ r∈ths g,x=zh1 r
def I3 (es:Env) (s0:za6) (xs:List PV) (env:Env) (s:za6):Prop :=
 ∃ x11,env=es++[x11]∧s0=s∧∀ x∈xs,Gd (B20+1) 3 300 x
theorem ym6 {W d:Nat} {g:Gr} {s:za6} {e0 e1 e2 e4 e6 e8 x11:Option Val} {r r':Row} {wd:List Nat} {bt:PV} {h:List Nat} {ws:Row} (hg:gG g) (hr:r=h::ws) (hrl:r.length≤3) (hrw:∀ w∈r,gW w) (hrl':r'.length≤4) (hrw':∀ w∈r',gW w) (hwd:gW wd) (hbt:Gd (B20+1) 3 300 bt) :
    Sat (execSs (zi1 prog W (d+7)) W [.for (.name 11) (.of (.tup [(.var 5),(.var 9),(.var 10),(.bin .add (.var 5) (.tup [(.var 7)])),(.slice (.var 5) none (some (.neg (.const (.int 1))))),(.blt .list [(.var 5)]),(.ix (.var 5) (.const (.int 0))),(.tup [(.var 5)])]))
          [.ite (.not (.call zE4 [(.var 3),(.var 11)]))
             [.ret (.const (.bl false))]
             []]] [e0,e1,e2,some (.p (zm0 g)),e4,some (.p (zh1 r)),e6,some (.p (.str wd)),e8,some (.p (zh1 r')),some (.p bt),x11] s)
      fun f s2=>∃ y,f=.next [e0,e1,e2,some (.p (zm0 g)),e4,some (.p (zh1 r)),e6,some (.p (.str wd)),e8,some (.p (zh1 r')),some (.p bt),y]∧s2=s:=by
  have z:r.length+1≤SZ:=zj5 (by lia)
  have up:∀ {x},Gd B20 1 60 x→Gd (B20+1) 3 300 x:=fun h=>h.mono (by lia) (by lia) (by lia)
  have G1:=zN5 hrw (by lia)
  have hc:=zu4 PV.str r none (some (-1))
  have hi:zk5 r.length 0=some 0:=by rw [hr];simp [zk5]
  have h0:(r.map PV.str)[0]?=some (.str h):=by rw [hr];rfl
  have h0':r[0]?=some h:=by rw [hr];rfl
  have it:evalIt (zi1 prog W (d+7)) (.of (.tup [(.var 5),(.var 9),(.var 10),(.bin .add (.var 5) (.tup [(.var 7)])),(.slice (.var 5) none (some (.neg (.const (.int 1))))),(.blt .list [(.var 5)]),(.ix (.var 5) (.const (.int 0))),(.tup [(.var 5)])])) [e0,e1,e2,some (.p (zm0 g)),e4,some (.p (zh1 r)),e6,some (.p (.str wd)),e8,some (.p (zh1 r')),some (.p bt),x11] s =
      .ok ([zh1 r,zh1 r',bt,zh1 (r++[wd]),zh1 (cut r none (some (-1))),.lst (r.map .str),.str h,.tup [zh1 r]],none) s:=by
    simp! [zh1,sliceOp,hc,z,bfOp,hi,h0']
  have L:∀ x∈[zh1 r,zh1 r',bt,zh1 (r++[wd]),zh1 (cut r none (some (-1))),.lst (r.map .str),.str h,.tup [zh1 r]],Gd (B20+1) 3 300 x:=by
    intro x hx
    simp only [List.mem_cons,List.not_mem_nil,or_false] at hx
    have hcl:=(zk0 r none (some (-1))).length_le
    rcases hx with rfl | rfl | rfl | rfl | rfl | rfl | rfl | rfl
    · exact up G1
    · exact up (zN5 hrw' hrl')
    · exact hbt
    · refine up (zN5 (fun w hw=>?_) (by simp;lia))
      rcases List.mem_append.mp hw with hw | hw
      · exact hrw w hw
      · have:w=wd:=by simpa using hw
        subst this;exact hwd
    · exact up (zN5 (fun w hw=>hrw w ((zk0 _ _ _).subset hw)) (by lia))
    · have g:=G1
      unfold zh1 at g
      obtain ⟨a,b,c⟩:=zm6.mp g
      exact up (yy4.mpr ⟨a,b,c⟩)
    · have:=hrw h (by rw [hr];simp)
      exact (zH8 (by lia)).mpr ⟨this.1,by have:=this.2;lia⟩
    · refine zm6.mpr ⟨fun y hy=>?_,?_,by simp;lia⟩
      · have:y=zh1 r:=by simpa using hy
        subst this
        exact ⟨(up G1).o,by have:=G1.d;lia⟩
      · have:=G1.w
        simp
        lia
  generalize [zh1 r,zh1 r',bt,zh1 (r++[wd]),zh1 (cut r none (some (-1))),.lst (r.map .str),.str h,.tup [zh1 r]]=Ls at it L
  apply za3
  simp! [it,-zS8]
  refine (zq9 (I3 [e0,e1,e2,some (.p (zm0 g)),e4,some (.p (zh1 r)),e6,some (.p (.str wd)),e8,some (.p (zh1 r')),some (.p bt)] s) _ _ _ ⟨_,rfl,rfl,L⟩ ?_).mono ?_
  · rintro x xr env s' ⟨y,rfl,rfl,hx⟩
    have e1:=zX3 (W:=W) (D:=d+7) (st:=s) (by lia) hg (hx x (by simp)) (by lia) (by lia) (by lia) (by lia)
    refine ⟨_,rfl,?_⟩
    apply za3
    simp! [e1]
    dsimp! only
    exact ⟨_,rfl,_,rfl,rfl,fun y hy=>hx y (List.mem_cons_of_mem _ hy)⟩
  · rintro _ s' ⟨env2,rfl,y,rfl,rfl,_⟩
    dsimp! only
    exact ⟨⟨_,rfl⟩,trivial⟩
noncomputable def yi1:List S:=match yo9 with
 | [.for _ _ b,_]=>b
 | _=>[]
def I2 (e0 e1:Option Val) (w:Nat) (g:Gr) (e4:Option Val) (xs:List PV) (env:Env) (s:za6):Prop :=
 ∃ x5 x6 x7 x8 x9 x10 x11,env=[e0,e1,some (.ref w),some (.p (zm0 g)),e4,x5,x6,x7,x8,x9,x10,x11]∧xs.length≤12∧Well s w (600+12 * (12 - xs.length))
def I4 (es:Env) (e6 e7 e8 e9 e10 e11:Option Val) (s0:za6) (xs:List PV) (env:Env) (s:za6):Prop :=
 ∃ x5,env=es++[x5,e6,e7,e8,e9,e10,e11]∧s0=s∧∀ x∈xs,Gd B20 7 1000 x
theorem yw7 {W d:Nat} (ns:List Int) (h63:ns.length≤63) (k:Nat) (hk:k<1000) (st:za6) (x2 x3 x4 x5 x6 x7 x8 x9 x10 x11:Option Val) :
  Sat (execSs (zi1 prog W (d+7)) W yi1 [some (.p (.lst (ns.map .int))),some (.p (.int k)),x2,x3,x4,x5,x6,x7,x8,x9,x10,x11] st)
   fun f _=>∃ y2 y3 y4 y5 y6 y7 y8 y9 y10 y11,f=.next [some (.p (.lst (ns.map .int))),some (.p (.int k)),y2,y3,y4,y5,y6,y7,y8,y9,y10,y11]:=by
 simp only [yi1,yo9]
 obtain ⟨c,l,hl,hwell⟩:=yD1 W (d+6) ns k st h63 (by lia) (by lia)
 apply za3
 simp! [hwell]
 dsimp! only
 have hw:Well (st++[zE7 c l 0]) st.length 0:=⟨c,l,0,zn7,hl,by lia,by lia⟩
 generalize st++[zE7 c l 0]=st0 at hw
 generalize st.length=w at hw
 apply za3
 simp! []
 refine Sat.k0 (yd5 (by lia) hw (by lia)) fun g st1 hg hd1=>?_
 have hw1:Well st1 w 600:=hd1.2.mono (by lia)
 clear hd1 hw hwell
 apply za3
 simp! [yg4 hg]
 dsimp! only
 have hin:∀ r∈yz8 (ths g),r∈ths g:=fun r hr=>(zQ5 _).mem_iff.mp hr
 have hL0:(yz8 (ths g)).length=(ths g).length:=(zQ5 _).length_eq
 have hln:=zK0 hg.n4 g.hs
 have hl5:=hg.h5
 have hl80:(yz8 (ths g)).length≤80:=by rw [hL0];unfold ths;lia
 have hl0:0<(yz8 (ths g)).length:=by rw [hL0];exact List.length_pos_iff.mpr (yA6 hg)
 generalize yz8 (ths g)=R at hin hl80 hl0
 have hc30:cut (R.map zh1) none (some 30)=(R.take 30).map zh1:=by rw [zt1 _ _ (by decide),← List.map_take];rfl
 apply za3
 simp! [sliceOp,hc30]
 refine (zq9 (I1 [some (.p (.lst (ns.map .int))),some (.p (.int k)),some (.ref w),some (.p (zm0 g)),some (.p (.lst (R.map zh1)))] x6 x7 x8 x9 x10 x11 g st1) _ _ _ ?_ ?_).mono ?_
 ·refine ⟨_,rfl,rfl,fun x hx=>?_⟩
  obtain ⟨r,hr,rfl⟩:=List.mem_map.mp (List.mem_of_mem_take hx)
  exact ⟨r,hin r hr,rfl⟩
 ·rintro x xr env s ⟨y5,rfl,rfl,hx⟩
  obtain ⟨r,hr,rfl⟩:=hx x (by simp)
  obtain ⟨h,hm,ws,er,h1,h2⟩:=yo2 hg hr
  have t1:isT g g.ns (zh1 r)=true:=by rw [er];exact yk7 hg hm h1 h2
  have t2:isT g (g.ns++AF) (zh1 r)=true:=by rw [er];exact yk7 hg hm h1 fun w hw=>List.mem_append_left _ (h2 w hw)
  have a1:=zF1 (W:=W) (d:=d+4) (g:=g) (t:=zh1 r) (st:=st1)
  have a2:=zA7 (W:=W) (d:=d+4) (g:=g) (t:=zh1 r) (st:=st1)
  rw [t1] at a1
  rw [t2] at a2
  refine ⟨_,rfl,?_⟩
  apply za3
  simp! [a1,a2]
  dsimp! only
  exact ⟨_,rfl,_,rfl,rfl,fun y hy=>hx y (List.mem_cons_of_mem _ hy)⟩
 ·rintro _ s ⟨env2,rfl,y5,rfl,rfl,_⟩
  dsimp! only
  have i12:(12:Int)≤SZ:=zA2 (by lia)
  apply za3
  simp! [i12]
  refine (zq9 (I2 (some (.p (.lst (ns.map .int)))) (some (.p (.int k))) w g (some (.p (.lst (R.map zh1))))) _ _ _ ⟨_,_,_,_,_,_,_,rfl,by simp,hw1.mono (by simp)⟩ ?_).mono ?_
  ·rintro x xr env s ⟨y5,y6,y7,y8,y9,y10,y11,rfl,hlen,hws⟩
   simp only [List.length_cons] at hlen hws
   refine ⟨_,rfl,?_⟩
   apply za3
   simp! []
   refine (yc4 (by lia) hg hws (by lia)).mono ?_
   rintro _ s1 ⟨⟨r,rfl,h,hm,ws,er,h1,h2⟩,hd1⟩
   have hk2:=(hg.k h hm).1
   have hrw:∀ u∈r,gW u:=by rw [er];exact yQ2 hg hm fun u hu=>List.mem_append.mp (h2 u hu)
   have hrl:r.length≤3:=by rw [er];simp;lia
   have hr1:1≤r.length:=by rw [er];simp
   obtain ⟨n0,nr,en⟩:∃ n0 nr,g.ns=n0::nr:=by
    cases e:g.ns with
    | nil=>have:=hg.n1;rw [e] at this;simp at this
    | cons n0 nr=>exact ⟨n0,nr,rfl⟩
   have hn0:gW n0:=yK9 (hg.n.2 n0 (by rw [en];simp))
   have e20:zk5 2 0=some 0:=rfl
   have i0:zk5 (nr.length+1) 0=some 0:=by simp [zk5]
   apply za3
   simp! [zm0,e20,en,i0]
   refine Sat.k1 (zj3 hd1.2 (by lia)) fun q s2 q0 q1 hd2=>?_
   obtain ⟨wd,hwd,ewd⟩:∃ wd,gW wd∧[PV.str [71],.str [90],.str [65,66],.str [],.str [97],.str [122,122],.str n0,.str [67],.str [69]][q.toNat]?=some (.str wd):=by
    obtain rfl | rfl | rfl | rfl | rfl | rfl | rfl | rfl | rfl:q=0∨q=1∨q=2∨q=3∨q=4∨q=5∨q=6∨q=7∨q=8:=by lia
    ·exact ⟨_,⟨by decide,by decide⟩,rfl⟩
    ·exact ⟨_,⟨by decide,by decide⟩,rfl⟩
    ·exact ⟨_,⟨by decide,by decide⟩,rfl⟩
    ·exact ⟨[],⟨by decide,by decide⟩,rfl⟩
    ·exact ⟨_,⟨by decide,by decide⟩,rfl⟩
    ·exact ⟨_,⟨by decide,by decide⟩,rfl⟩
    ·exact ⟨n0,hn0,rfl⟩
    ·exact ⟨_,⟨by decide,by decide⟩,rfl⟩
    ·exact ⟨_,⟨by decide,by decide⟩,rfl⟩
   have i9:zk5 9 q=some q.toNat:=by unfold zk5;rw [if_pos q0,if_pos (by lia)]
   simp! [i9,ewd]
   rw [show PV.tup [PV.tup (PV.str n0::List.map PV.str nr),PV.tup (List.map zl9 g.hs)]=zm0 g by rw [zm0,en];rfl]
   apply za3
   have hrv:zh1 r=.tup (r.map .str):=rfl
   simp! [zh1,bfOp]
   refine Sat.k1 (zj3 hd2.2 (by lia) (by lia) (by lia)) fun a s3 a0 a1 hd3=>?_
   dsimp! only
   obtain ⟨m,rfl⟩:∃ m:Nat,a=(m:Int):=⟨a.toNat,by lia⟩
   have c1:cut (r.map PV.str) none (some (m:Int))=(r.take m).map .str:=by rw [zt1 _ _ (by lia),← List.map_take];rfl
   have c2:cut (r.map PV.str) (some ((m:Int)+1)) none=(r.drop (m+1)).map .str:=by rw [zs4 _ _ (by lia),← List.map_drop];rfl
   have z1:min m r.length+1≤SZ:=zj5 (by lia)
   have z2:min m r.length+1+(r.length - (m+1))≤SZ:=zj5 (by lia)
   apply za3
   simp! [sliceOp,c1,c2,z1,z2]
   dsimp! only
   rw [show PV.tup (r.map PV.str)=zh1 r from rfl,show PV.tup ((r.map PV.str).take m++(PV.str wd::(r.map PV.str).drop (m+1)))=zh1 (r.take m++(wd::r.drop (m+1))) by simp [zh1]]
   have hr'l:(r.take m++(wd::r.drop (m+1))).length≤4:=by simp;lia
   have hr'w:∀ u∈r.take m++(wd::r.drop (m+1)),gW u:=fun u hu=>by
    rcases List.mem_append.mp hu with hu | hu
    ·exact hrw u (List.mem_of_mem_take hu)
    ·rcases List.mem_cons.mp hu with rfl | hu
     ·exact hwd
     ·exact hrw u (List.mem_of_mem_drop hu)
   generalize r.take m++(wd::r.drop (m+1))=r' at hr'l hr'w ⊢
   apply za3
   simp! [bfOp]
   refine Sat.k1 (zj3 hd3.2 (by lia) (by lia) (by lia)) fun p s4 p0 p1 hd4=>?_
   obtain ⟨r0,u1,u2,u3⟩:=yd3 R p p0 p1
   obtain ⟨h',hm',ws',er',h1',h2'⟩:=yo2 hg (hin r0 u2)
   have hr0w:∀ u∈r0,gW u:=by rw [er'];exact yQ2 hg hm' fun u hu=>.inl (h2' u hu)
   have hk2':=(hg.k h' hm').1
   have g0:=zN5 hr0w (by rw [er'];simp;lia)
   simp! [u1,u3]
   refine Sat.k0 (yv7 2 (d+7) _ _ _ _ s4 (zh1 r0) (by lia) hd4.2 (by lia) g0 (by lia) (by lia)) fun bt s5 hbt hd5=>?_
   dsimp! only
   refine (ym6 hg er hrl hrw hr'l hr'w hwd (hbt.mono (by lia) (by lia) (by lia))).mono ?_
   rintro _ _ ⟨y,rfl,rfl⟩
   exact ⟨_,rfl,_,_,_,_,_,_,_,rfl,by lia,hd5.2.mono (by lia)⟩
  ·rintro _ s ⟨env2,rfl,y5,y6,y7,y8,y9,y10,y11,rfl,_,_⟩
   apply za3
   simp! []
   refine (zq9 (I4 [some (.p (.lst (ns.map .int))),some (.p (.int k)),some (.ref w),some (.p (zm0 g)),some (.p (.lst (R.map zh1)))] y6 y7 y8 y9 y10 y11 s) _ _ _ ?_ ?_).mono ?_
   ·refine ⟨_,rfl,rfl,fun x hx=>?_⟩
    simp only [List.mem_cons,List.not_mem_nil,or_false] at hx
    rcases hx with rfl | rfl | rfl | rfl | rfl | rfl | rfl | rfl | rfl
    all_goals exact ⟨by decide +kernel,by decide +kernel,by decide +kernel⟩
   ·rintro x xr env s' ⟨z5,rfl,rfl,hx⟩
    have e3:=zX3 (W:=W) (D:=d+7) (st:=s) (by lia) hg (hx x (by simp)) (by lia) (by lia) (by lia) (by lia)
    refine ⟨_,rfl,?_⟩
    apply za3
    simp! [e3]
    dsimp! only
    exact ⟨_,rfl,_,rfl,rfl,fun y hy=>hx y (List.mem_cons_of_mem _ hy)⟩
   ·rintro _ s' ⟨env3,rfl,z5,rfl,rfl,_⟩
    dsimp! only
    exact ⟨_,_,_,_,_,_,_,_,_,_,rfl⟩
theorem yW6 (W d:Nat) (ns:List Int) (h63:ns.length≤63):∃ st,zi1 prog W (d+8) yU7 [.p (.lst (ns.map .int))] []=.ok (.p (.bl true)) st:=by
 have main:Sat (zi1 prog W (d+8) yU7 [.p (.lst (ns.map .int))] []) fun v _=>v=.p (.bl true):=by
  rw [zf0 (fd:=yG2) rfl rfl,zd8];simp! only [yG2,yo9]
  apply za3
  have i8:(8:Int)≤SZ:=zA2 (by lia)
  simp! [i8]
  refine (zq9 (fun xs env st=>(∃ x1 x2 x3 x4 x5 x6 x7 x8 x9 x10 x11,env=[some (.p (.lst (ns.map .int))),x1,x2,x3,x4,x5,x6,x7,x8,x9,x10,x11])∧∀ x∈xs,∃ k:Nat,k<1000∧x=.int k) _ _ _ ⟨⟨_,_,_,_,_,_,_,_,_,_,_,rfl⟩,?_⟩ ?_).mono ?_
  ·intro x hx
   obtain ⟨k,hk,rfl⟩:=List.mem_map.mp hx
   have:=List.mem_range.mp hk
   exact ⟨k,by lia,rfl⟩
  ·rintro x r env s ⟨⟨x1,x2,x3,x4,x5,x6,x7,x8,x9,x10,x11,rfl⟩,hx⟩
   obtain ⟨k,hk,rfl⟩:=hx x (by simp)
   refine ⟨_,rfl,?_⟩
   refine (yw7 ns h63 k hk s x2 x3 x4 x5 x6 x7 x8 x9 x10 x11).mono ?_
   rintro _ s2 ⟨y2,y3,y4,y5,y6,y7,y8,y9,y10,y11,rfl⟩
   exact ⟨_,rfl,⟨_,_,_,_,_,_,_,_,_,_,_,rfl⟩,fun y hy=>hx y (List.mem_cons_of_mem _ hy)⟩
  ·rintro _ s2 ⟨env2,rfl,⟨x1,x2,x3,x4,x5,x6,x7,x8,x9,x10,x11,rfl⟩,_⟩
   apply za3
   simp! []
 obtain ⟨v,st,h,rfl⟩:=zz2.mp main
 exact ⟨st,h⟩
open PySem L2 OR PySem.SeqAt PyProof.Rows
noncomputable def top (i:Nat):Stmt:=PySem.Challenge.pw_onlyrise_k09_things_spoken_or_not.main.body.getD i (.Pass ⟨0,0,0,0⟩)
noncomputable abbrev zf7:Stmt:=top 2
noncomputable abbrev zf3:Stmt:=top 4
noncomputable abbrev zd9:Stmt:=top 5
noncomputable abbrev ze7:Stmt:=top 6
noncomputable abbrev zc7:Stmt:=top 7
noncomputable abbrev zg2:Stmt:=top 9
noncomputable abbrev zg1:Stmt:=top 10
noncomputable abbrev zd3:Stmt:=top 11
noncomputable abbrev zg5:Stmt:=top 12
noncomputable abbrev zg4:Stmt:=top 13
noncomputable abbrev zf5:Stmt:=top 14
noncomputable abbrev zd2:Stmt:=top 15
noncomputable abbrev zh3:Stmt:=top 16
noncomputable abbrev zg3:Stmt:=top 17
noncomputable abbrev zc9:Stmt:=top 18
noncomputable abbrev zc5:Stmt:=top 19
noncomputable abbrev zd1:Stmt:=top 20
noncomputable abbrev zb9:Stmt:=top 21
noncomputable abbrev ze8:Stmt:=top 22
noncomputable abbrev zv0:Stmt:=top 23
theorem yc0:ze6 ["thing"] ["thing"] (za5 zf7):=⟨rfl,rfl,rfl,by decide +kernel,rfl,by decide +kernel,by decide +kernel⟩
theorem zV1:ze6 ["ground", "thing"] ["ground", "thing"] (za5 zf3):=⟨rfl,rfl,rfl,by decide +kernel,rfl,by decide +kernel,by decide +kernel⟩
theorem zO1:ze6 ["ground", "thing"] ["ground", "thing"] (za5 zd9):=⟨rfl,rfl,rfl,by decide +kernel,rfl,by decide +kernel,by decide +kernel⟩
theorem zz9:ze6 ["ground", "thing", "head"] ["ground", "thing"] (za5 ze7):=⟨rfl,rfl,rfl,by decide +kernel,rfl,by decide +kernel,by decide +kernel⟩
theorem zt3:ze6 ["ground", "word", "head"] ["ground", "word"] (za5 zc7):=⟨rfl,rfl,rfl,by decide +kernel,rfl,by decide +kernel,by decide +kernel⟩
theorem zu8:ze6 ["_law_script", "_law_k", "_law_cell"] ["_law_script", "_law_k"] (za5 zg2):=⟨rfl,rfl,rfl,by decide +kernel,rfl,by decide +kernel,by decide +kernel⟩
theorem zl4:ze6 ["_law_well_here", "_law_many", "_law_turn", "_law_left", "_law_here", "_law_mixed"] ["_law_well_here", "_law_many"] (za5 zg1):=⟨rfl,rfl,rfl,by decide +kernel,rfl,by decide +kernel,by decide +kernel⟩
theorem zc8:ze6 ["_law_well_here", "_law_many", "_law_letters", "_law_way", "_law_start", "_law_names_here", "_law_size", "_law_at", "_law_head", "_law_tail", "_law_turn"] ["_law_well_here", "_law_many"] (za5 zd3):=⟨rfl,rfl,rfl,by decide +kernel,rfl,by decide +kernel,by decide +kernel⟩
theorem zi0:ze6 ["_law_well_here", "_law_some", "_law_rows", "_law_many", "_law_names_here", "_law_shift", "_law_at", "_law_called", "_law_pairs"] ["_law_well_here"] (za5 zg5):=⟨rfl,rfl,rfl,by decide +kernel,rfl,by decide +kernel,by decide +kernel⟩
theorem zF0:ze6 ["_law_well_here", "_law_way"] ["_law_well_here"] (za5 zg4):=⟨rfl,rfl,rfl,by decide +kernel,rfl,by decide +kernel,by decide +kernel⟩
theorem zV2:ze6 ["_law_well_here"] ["_law_well_here"] (za5 zf5):=⟨rfl,rfl,rfl,by decide +kernel,rfl,by decide +kernel,by decide +kernel⟩
theorem zm9:ze6 ["_law_well_here", "_law_way", "_law_parts"] ["_law_well_here"] (za5 zd2):=⟨rfl,rfl,rfl,by decide +kernel,rfl,by decide +kernel,by decide +kernel⟩
theorem zk9:ze6 ["_law_well_here", "_law_part", "_law_some"] ["_law_well_here", "_law_part"] (za5 zh3):=⟨rfl,rfl,rfl,by decide +kernel,rfl,by decide +kernel,by decide +kernel⟩
theorem zE9:ze6 ["_law_well_here", "_law_part", "_law_deep", "_law_at"] ["_law_well_here", "_law_part", "_law_deep"] (za5 zg3):=⟨rfl,rfl,rfl,by decide +kernel,rfl,by decide +kernel,by decide +kernel⟩
theorem zk6:ze6 ["_law_well_here", "_law_names_here", "_law_called", "_law_heads"] ["_law_well_here"] (za5 zc9):=⟨rfl,rfl,rfl,by decide +kernel,rfl,by decide +kernel,by decide +kernel⟩
theorem ze9:ze6 ["_law_ground_here", "_law_found", "_law_head", "_law_many", "_law_order_here", "_law_rows", "_law_one"] ["_law_ground_here"] (za5 zc5):=⟨rfl,rfl,rfl,by decide +kernel,rfl,by decide +kernel,by decide +kernel⟩
theorem zp1:ze6 ["_law_well_here", "_law_ground_here", "_law_head", "_law_words"] ["_law_well_here", "_law_ground_here"] (za5 zd1):=⟨rfl,rfl,rfl,by decide +kernel,rfl,by decide +kernel,by decide +kernel⟩
theorem zl6:ze6 ["_law_ground_here", "_law_thing", "_law_marks", "_law_counts", "_law_words"] ["_law_ground_here", "_law_thing", "_law_marks"] (za5 zb9):=⟨rfl,rfl,rfl,by decide +kernel,rfl,by decide +kernel,by decide +kernel⟩
theorem zq8:ze6 ["_law_ground_here", "_law_thing", "_law_kept", "_law_spoken_here"] ["_law_ground_here", "_law_thing"] (za5 ze8):=⟨rfl,rfl,rfl,by decide +kernel,rfl,by decide +kernel,by decide +kernel⟩
theorem zm5:ze6 ["_law_script", "_law_k", "_law_well_here", "_law_ground_here", "_law_some", "_law_thing", "_law_j", "_law_word", "_law_at", "_law_other", "_law_bent_here", "_law_one"] ["_law_script"] (za5 zv0):=⟨rfl,rfl,rfl,by decide +kernel,rfl,by decide +kernel,by decide +kernel⟩
theorem nd0:(["ground", "word"]:List Str).Nodup:=by decide +kernel
theorem nd1:(["ground", "word"]:List Str).Nodup:=by decide +kernel
theorem nd2:(["_law_letters", "_law_start", "_law_head", "_law_tail", "_law_k"]:List Str).Nodup:=by decide +kernel
theorem nd3:(["_law_letters", "_law_start", "_law_k"]:List Str).Nodup:=by decide +kernel
theorem nd4:(["_law_called", "_law_one", "_law_other"]:List Str).Nodup:=by decide +kernel
theorem nd5:(["_law_pair"]:List Str).Nodup:=by decide +kernel
theorem nd6:(["_law_well_here", "_law_k"]:List Str).Nodup:=by decide +kernel
theorem nd7:(["_law_well_here", "_law_k"]:List Str).Nodup:=by decide +kernel
theorem nd8:(["_law_well_here", "_law_k"]:List Str).Nodup:=by decide +kernel
theorem nd9:(["_law_well_here", "_law_head"]:List Str).Nodup:=by decide +kernel
theorem nd10:(["_law_head", "_law_one", "_law_other"]:List Str).Nodup:=by decide +kernel
theorem nd11:(["_law_head", "_law_one"]:List Str).Nodup:=by decide +kernel
theorem nd12:(["_law_well_here", "_law_words", "_law_k"]:List Str).Nodup:=by decide +kernel
theorem nd13:(["_law_words", "_law_word"]:List Str).Nodup:=by decide +kernel
theorem nd14:(["_law_thing", "_law_head"]:List Str).Nodup:=by decide +kernel
theorem yz6:bootBuiltins "all" = some (.builtin "all"):=by decide +kernel
theorem yG9:bootBuiltins "bool" = some (.type "bool"):=by decide +kernel
theorem yz4:bootBuiltins "int" = some (.type "int"):=by decide +kernel
theorem zf2:bootBuiltins "isinstance" = some (.builtin "isinstance"):=by decide +kernel
theorem zk4:bootBuiltins "len" = some (.builtin "len"):=by decide +kernel
theorem zK7:bootBuiltins "list" = some (.type "list"):=by decide +kernel
theorem yz7:bootBuiltins "max" = some (.builtin "max"):=by decide +kernel
theorem zy2:bootBuiltins "repr" = some (.builtin "repr"):=by decide +kernel
theorem yn7:bootBuiltins "sorted" = some (.builtin "sorted"):=by decide +kernel
theorem ym5:bootBuiltins "str" = some (.type "str"):=by decide +kernel
theorem zh6:bootBuiltins "tuple" = some (.type "tuple"):=by decide +kernel
structure Md (K:Frag) (mg:Str→Option Value) (f:Nat→Addr) (fd:Nat→FuncData):Prop where
 m0:mg "is_mark" = some (.ref (f 0))
 F0:Fun K "is_mark" "is_mark" zf7 (f 0) (fd 0)
 b0:Binds K (fd 0) ["thing"] []
 m1:mg "is_thing" = some (.ref (f 1))
 F1:Fun K "is_thing" "is_thing" zf3 (f 1) (fd 1)
 b1:Binds K (fd 1) ["ground", "thing"] []
 m2:mg "is_spoken" = some (.ref (f 2))
 F2:Fun K "is_spoken" "is_spoken" zd9 (f 2) (fd 2)
 b2:Binds K (fd 2) ["ground", "thing"] []
 m3:mg "has_words" = some (.ref (f 3))
 F3:Fun K "has_words" "has_words" ze7 (f 3) (fd 3)
 b3:Binds K (fd 3) ["ground", "thing"] []
 m4:mg "head_called" = some (.ref (f 4))
 F4:Fun K "head_called" "head_called" zc7 (f 4) (fd 4)
 b4:Binds K (fd 4) ["ground", "word"] []
 m5:mg "_law_well" = some (.ref (f 5))
 F5:Fun K "_law_well" "_law_well" zg2 (f 5) (fd 5)
 b5:Binds K (fd 5) ["_law_script", "_law_k"] []
 m6:mg "_law_draw" = some (.ref (f 6))
 F6:Fun K "_law_draw" "_law_draw" zg1 (f 6) (fd 6)
 b6:Binds K (fd 6) ["_law_well_here", "_law_many"] []
 m7:mg "_law_names" = some (.ref (f 7))
 F7:Fun K "_law_names" "_law_names" zd3 (f 7) (fd 7)
 b7:Binds K (fd 7) ["_law_well_here", "_law_many"] []
 m8:mg "_law_web" = some (.ref (f 8))
 F8:Fun K "_law_web" "_law_web" zg5 (f 8) (fd 8)
 b8:Binds K (fd 8) ["_law_well_here"] []
 m9:mg "_law_flat" = some (.ref (f 9))
 F9:Fun K "_law_flat" "_law_flat" zg4 (f 9) (fd 9)
 b9:Binds K (fd 9) ["_law_well_here"] []
 m10:mg "_law_nest" = some (.ref (f 10))
 F10:Fun K "_law_nest" "_law_nest" zf5 (f 10) (fd 10)
 b10:Binds K (fd 10) ["_law_well_here"] []
 m11:mg "_law_order" = some (.ref (f 11))
 F11:Fun K "_law_order" "_law_order" zd2 (f 11) (fd 11)
 b11:Binds K (fd 11) ["_law_well_here"] []
 m12:mg "_law_odd" = some (.ref (f 12))
 F12:Fun K "_law_odd" "_law_odd" zh3 (f 12) (fd 12)
 b12:Binds K (fd 12) ["_law_well_here", "_law_part"] []
 m13:mg "_law_bent" = some (.ref (f 13))
 F13:Fun K "_law_bent" "_law_bent" zg3 (f 13) (fd 13)
 b13:Binds K (fd 13) ["_law_well_here", "_law_part", "_law_deep"] []
 m14:mg "_law_ground" = some (.ref (f 14))
 F14:Fun K "_law_ground" "_law_ground" zc9 (f 14) (fd 14)
 b14:Binds K (fd 14) ["_law_well_here"] []
 m15:mg "_law_things" = some (.ref (f 15))
 F15:Fun K "_law_things" "_law_things" zc5 (f 15) (fd 15)
 b15:Binds K (fd 15) ["_law_ground_here"] []
 m16:mg "_law_spoken" = some (.ref (f 16))
 F16:Fun K "_law_spoken" "_law_spoken" zd1 (f 16) (fd 16)
 b16:Binds K (fd 16) ["_law_well_here", "_law_ground_here"] []
 m17:mg "_law_is_thing" = some (.ref (f 17))
 F17:Fun K "_law_is_thing" "_law_is_thing" zb9 (f 17) (fd 17)
 b17:Binds K (fd 17) ["_law_ground_here", "_law_thing", "_law_marks"] []
 m18:mg "_law_right" = some (.ref (f 18))
 F18:Fun K "_law_right" "_law_right" ze8 (f 18) (fd 18)
 b18:Binds K (fd 18) ["_law_ground_here", "_law_thing"] []
 m19:mg "law" = some (.ref (f 19))
 F19:Fun K "law" "law" zv0 (f 19) (fd 19)
 b19:Binds K (fd 19) ["_law_script"] []
 z_all:mg "all" = none
 z_bool:mg "bool" = none
 z_int:mg "int" = none
 z_isinstance:mg "isinstance" = none
 z_len:mg "len" = none
 z_list:mg "list" = none
 z_max:mg "max" = none
 z_range:mg "range" = none
 z_repr:mg "repr" = none
 z_sorted:mg "sorted" = none
 z_str:mg "str" = none
 z_tuple:mg "tuple" = none
 c_MARKS:∀ {X:Cx} {C:zb7} {pos:Pos},X.K=K→X.mg=mg→Gl X "MARKS" → JE X C (.Name "MARKS" pos) (.const (.tup [(.str [65]),(.str [66]),(.str [67]),(.str [68]),(.str [69]),(.str [70])]))
structure Ih (P:Program) (w:World) (K:Frag) (mg:Str→Option Value) (base:Heap) (f:Nat→Addr) (fd:Nat→FuncData) (W d:Nat):Prop where
 h0:zs8 P w K mg base CX0 d (f 0) (fd 0) ["thing"] (spF K prog W d 0 1)
 h1:zs8 P w K mg base CX0 d (f 1) (fd 1) ["ground", "thing"] (spF K prog W d 1 2)
 h2:zs8 P w K mg base CX0 d (f 2) (fd 2) ["ground", "thing"] (spF K prog W d 2 2)
 h3:zs8 P w K mg base CX0 d (f 3) (fd 3) ["ground", "thing"] (spF K prog W d 3 2)
 h4:zs8 P w K mg base CX0 d (f 4) (fd 4) ["ground", "word"] (spF K prog W d 4 2)
 h5:zs8 P w K mg base CX0 d (f 5) (fd 5) ["_law_script", "_law_k"] (spF K prog W d 5 2)
 h6:zs8 P w K mg base CX0 d (f 6) (fd 6) ["_law_well_here", "_law_many"] (spF K prog W d 6 2)
 h7:zs8 P w K mg base CX0 d (f 7) (fd 7) ["_law_well_here", "_law_many"] (spF K prog W d 7 2)
 h8:zs8 P w K mg base CX0 d (f 8) (fd 8) ["_law_well_here"] (spF K prog W d 8 1)
 h9:zs8 P w K mg base CX0 d (f 9) (fd 9) ["_law_well_here"] (spF K prog W d 9 1)
 h10:zs8 P w K mg base CX0 d (f 10) (fd 10) ["_law_well_here"] (spF K prog W d 10 1)
 h11:zs8 P w K mg base CX0 d (f 11) (fd 11) ["_law_well_here"] (spF K prog W d 11 1)
 h12:zs8 P w K mg base CX0 d (f 12) (fd 12) ["_law_well_here", "_law_part"] (spF K prog W d 12 2)
 h13:zs8 P w K mg base CX0 d (f 13) (fd 13) ["_law_well_here", "_law_part", "_law_deep"] (spF K prog W d 13 3)
 h14:zs8 P w K mg base CX0 d (f 14) (fd 14) ["_law_well_here"] (spF K prog W d 14 1)
 h15:zs8 P w K mg base CX0 d (f 15) (fd 15) ["_law_ground_here"] (spF K prog W d 15 1)
 h16:zs8 P w K mg base CX0 d (f 16) (fd 16) ["_law_well_here", "_law_ground_here"] (spF K prog W d 16 2)
 h17:zs8 P w K mg base CX0 d (f 17) (fd 17) ["_law_ground_here", "_law_thing", "_law_marks"] (spF K prog W d 17 3)
 h18:zs8 P w K mg base CX0 d (f 18) (fd 18) ["_law_ground_here", "_law_thing"] (spF K prog W d 18 2)
 h19:zs8 P w K mg base CX0 d (f 19) (fd 19) ["_law_script"] (spF K prog W d 19 1)
section
variable {P:Program} {w:World} {K:Frag} {mg:Str→Option Value} {base:Heap} {f:Nat→Addr} {fd:Nat→FuncData} {W d:Nat} {cdv:Value} {A:Around} {outer:List PySem.Env} {s:Shared} {H:Hp} {E:XK}
theorem yp7 (M:Md K mg f fd) (ih:Ih P w K mg base f fd W d) (hr:zp3 d (A.deeper (envOfC "is_mark" (za5 zf7) s.heap.objs.size (f 0) cdv))) :
  JSs (zx8 CX0 P w K mg base ["thing"] "is_mark" (za5 zf7) (f 0) cdv A outer s H E).nox (zi1 prog W d) W (zb0 zf7) zE1 :=
 have hu1:=zo0 hr
 have hu2:=zn8 hr
 have hgd:=hr.gd
 (za4 (zc1 (zl2 (yO2 hu2) (jsv 0) (M.c_MARKS rfl rfl rfl) (by with_unfolding_all rfl) fun _ _=>zd4))
  za7)
theorem ye8 (M:Md K mg f fd) (ih:Ih P w K mg base f fd W d) (hr:zp3 d (A.deeper (envOfC "is_thing" (za5 zf3) s.heap.objs.size (f 1) cdv))) :
  JSs (zx8 CX0 P w K mg base ["ground", "thing"] "is_thing" (za5 zf3) (f 1) cdv A outer s H E).nox (zi1 prog W d) W (zb0 zf3) zz1 :=
 have hu1:=zo0 hr
 have hu2:=zn8 hr
 have hgd:=hr.gd
 (za4 (zc1 (zG4 (za8 (ps:=["ground", "thing"]) ih.h3 hr rfl M.m3 M.F3.kp M.b3 (za0 (jsv 0) (za0 (jsv 1) za1)) rfl) (zy4 (zb8 (yS8 rfl) (fun _ _=>zc6) rfl M.z_all yz6 (za0 (zm8 (N:=["ground", "word"]) rfl (zf6 (up:=za5 zf3) (XN:=["ground", "thing"]) rfl rfl (by decide +kernel)) (zi5 (zc2 (jsv 1) (zc4 za2) ze1)) (fun _ _ _ _ _=>ze2 (i:=1) nd0 rfl (by trivial)) (fun _ _ _ _ _=>zx0) (fun _ _ _ _ _=>(zl2 (yO2 hu2) (jsv 1) (zd0 hu1 (jsv 0) za2 (fun _ _=>rfl)) (by with_unfolding_all rfl) fun _ _=>zd4))) za1)))))
  za7)
theorem zU8 (M:Md K mg f fd) (ih:Ih P w K mg base f fd W d) (hr:zp3 d (A.deeper (envOfC "is_spoken" (za5 zd9) s.heap.objs.size (f 2) cdv))) :
  JSs (zx8 CX0 P w K mg base ["ground", "thing"] "is_spoken" (za5 zd9) (f 2) cdv A outer s H E).nox (zi1 prog W d) W (zb0 zd9) zu2 :=
 have hu1:=zo0 hr
 have hu2:=zn8 hr
 have hgd:=hr.gd
 (za4 (zc1 (zG4 (za8 (ps:=["ground", "thing"]) ih.h3 hr rfl M.m3 M.F3.kp M.b3 (za0 (jsv 0) (za0 (jsv 1) za1)) rfl) (zy4 (zb8 (yS8 rfl) (fun _ _=>zc6) rfl M.z_all yz6 (za0 (zm8 (N:=["ground", "word"]) rfl (zf6 (up:=za5 zd9) (XN:=["ground", "thing"]) rfl rfl (by decide +kernel)) (zi5 (zc2 (jsv 1) (zc4 za2) ze1)) (fun _ _ _ _ _=>ze2 (i:=1) nd1 rfl (by trivial)) (fun _ _ _ _ _=>zx0) (fun _ _ _ _ _=>(yO5 (zl2 (yO2 hu2) (jsv 1) (zd0 hu1 (jsv 0) za2 (fun _ _=>rfl)) (by with_unfolding_all rfl) fun _ _=>zd4) (zy4 (za8 (ps:=["thing"]) ih.h0 hr rfl M.m0 M.F0.kp M.b0 (za0 (jsv 1) za1) rfl))))) za1)))))
  za7)
theorem zS6 (M:Md K mg f fd) (ih:Ih P w K mg base f fd W d) (hr:zp3 d (A.deeper (envOfC "has_words" (za5 ze7) s.heap.objs.size (f 3) cdv))) :
    JSs (zx8 CX0 P w K mg base ["ground", "thing", "head"] "has_words" (za5 ze7) (f 3) cdv A outer s H E).nox (zi1 prog W d) W (zb0 ze7) zt5 :=
  have hu1:=zo0 hr
  have hu2:=zn8 hr
  have hgd:=hr.gd
  (za4 (zg8 (zQ8 (zF8 (zu6 (zn0 (zi2 .tuple rfl M.z_isinstance zf2 rfl M.z_tuple zh6 (jsv 1)))) (zL9 (zd6 (zG7 hu2) (zb8 zs9 (fun _ _=>zc6) rfl M.z_len zk4 (za0 (jsv 1) za1)) za2 (ze4 _) fun _ _=>zd4))))
     (za4 (zc1 zm3)
     za7)
     za7)
    (za4 (zb4 (i:=2) zz9.nd rfl (by trivial) (za8 (ps:=["ground", "word"]) ih.h4 hr rfl M.m4 M.F4.kp M.b4 (za0 (jsv 0) (za0 (zd0 hu1 (jsv 1) za2 (fun _ _=>rfl)) za1)) rfl))
    (za4 (zc1 (zG4 (zl2 zU6 (jsv 2) zG2 (ze4 _) fun _ _=>zd4) (zy4 (zl2 (zG7 hu2) (zb8 zs9 (fun _ _=>zc6) rfl M.z_len zk4 (za0 (jsv 1) za1)) (zb2 zg0 za2 (zd0 hu1 (jsv 2) za2 (fun _ _=>rfl)) fun _ _=>zb1) (ze4 _) fun _ _=>zd4))))
    za7)))
theorem zL7 (M:Md K mg f fd) (ih:Ih P w K mg base f fd W d) (hr:zp3 d (A.deeper (envOfC "head_called" (za5 zc7) s.heap.objs.size (f 4) cdv))) :
    JSs (zx8 CX0 P w K mg base ["ground", "word", "head"] "head_called" (za5 zc7) (f 4) cdv A outer s H E).nox (zi1 prog W d) W (zb0 zc7) zo8 :=
  have hu1:=zo0 hr
  have hu2:=zn8 hr
  have hgd:=hr.gd
  (za4 (zr7 PassesOwn.never rfl (zi5 (zd0 hu1 (jsv 0) za2 (fun _ _=>rfl))) (ze2 (i:=2) zt3.nd rfl (by trivial))
     (za4 (zg8 (zd6 (zG7 hu2) (zd0 hu1 (jsv 2) za2 (fun _ _=>rfl)) (jsv 1) (ze4 _) fun _ _=>zd4)
      (za4 (zc1 (jsv 2))
      za7)
      za7)
     za7))
    (za4 (zc1 zG2)
    za7))
theorem ye5 (M:Md K mg f fd) (ih:Ih P w K mg base f fd W d) (hr:zp3 d (A.deeper (envOfC "_law_well" (za5 zg2) s.heap.objs.size (f 5) cdv))) :
    JSs (zx8 CX0 P w K mg base ["_law_script", "_law_k", "_law_cell"] "_law_well" (za5 zg2) (f 5) cdv A outer s H E).nox (zi1 prog W d) W (zb0 zg2) zs6 :=
  have hu1:=zo0 hr
  have hu2:=zn8 hr
  have hgd:=hr.gd
  (za4 (zb4 (i:=2) zu8.nd rfl (by trivial) (zb2 zy1 za2 (jsv 1) fun _ _=>zb1))
    (za4 (zg8 (zd6 xc1 (zb8 zs9 (fun _ _=>zc6) rfl M.z_len zk4 (za0 (jsv 0) za1)) za2 (ze4 _) fun _ _=>zd4)
     (za4 (zb4 (i:=2) zu8.nd rfl (by trivial) (zb2 zg0 (zd0 hu1 (jsv 0) (zb2 zU9 (jsv 1) (zb8 zs9 (fun _ _=>zc6) rfl M.z_len zk4 (za0 (jsv 0) za1)) fun _ _=>zb1) (fun _ _=>rfl)) (zb2 zy1 za2 (zb2 zY7 (jsv 1) (zb8 zs9 (fun _ _=>zc6) rfl M.z_len zk4 (za0 (jsv 0) za1)) fun _ _=>zb1) fun _ _=>zb1) fun _ _=>zb1))
     za7)
     za7)
    (za4 (zc1 (yt1 (zM1 (yo6 (cs:=[99,101,108,108]) (by decide +kernel)) (jsv 2) (zM1 (yo6 (cs:=[108,101,102,116]) (by decide +kernel)) (zb2 zy1 (zb8 (yW9 rfl) (fun _ _=>zc6) rfl M.z_max yz7 (za0 za2 (za0 (jsv 2) za1))) (ze0 xj3 (fun _ _=>zc6) rfl M.z_int yz4 (za0 (zl2 o_ge (jsv 2) (zb2 yV0 za2 za2 fun _ _=>zb1) (ze4 _) fun _ _=>zd4) za1)) fun _ _=>zb1) (zM1 (yo6 (cs:=[116,117,114,110]) (by decide +kernel)) za2 yJ3))) rfl rfl rfl rfl (fun z=>nomatch z) (by decide) (by decide)))
    za7)))
theorem yc8 (M:Md K mg f fd) (ih:Ih P w K mg base f fd W d) (hr:zp3 d (A.deeper (envOfC "_law_draw" (za5 zg1) s.heap.objs.size (f 6) cdv))) :
    JSs (zx8 CX0 P w K mg base ["_law_well_here", "_law_many", "_law_turn", "_law_left", "_law_here", "_law_mixed"] "_law_draw" (za5 zg1) (f 6) cdv A outer s H E).nox (zi1 prog W d) W (zb0 zg1) zs0 :=
  have hu1:=zo0 hr
  have hu2:=zn8 hr
  have hgd:=hr.gd
  (za4 (zb4 (i:=2) zl4.nd rfl (by trivial) (zd0 hu1 (jsv 0) (zb3 (cs:=[116,117,114,110])) (fun _ _=>rfl)))
    (za4 (zQ7 hu1 (jsv 0) (zb3 (cs:=[116,117,114,110])) (zb2 zg0 (jsv 2) za2 fun _ _=>zb1))
    (za4 (zb4 (i:=3) zl4.nd rfl (by trivial) (zd0 hu1 (jsv 0) (zb3 (cs:=[108,101,102,116])) (fun _ _=>rfl)))
    (za4 (zg8 (zd6 xc1 (jsv 3) za2 (ze4 _) fun _ _=>zd4)
     (za4 (zQ7 hu1 (jsv 0) (zb3 (cs:=[108,101,102,116])) (zb2 zY7 (jsv 3) (jsv 1) fun _ _=>zb1))
     (za4 (zc1 (zb2 zU9 (jsv 3) (jsv 1) fun _ _=>zb1))
     za7))
     za7)
    (za4 (zb4 (i:=4) zl4.nd rfl (by trivial) (zb2 zg0 (zb2 zg0 (zb2 zU9 (zd0 hu1 (jsv 0) (zb3 (cs:=[99,101,108,108])) (fun _ _=>rfl)) za2 fun _ _=>zb1) (zb2 zy1 (zb2 zy1 za2 (jsv 2) fun _ _=>zb1) (jsv 2) fun _ _=>zb1) fun _ _=>zb1) za2 fun _ _=>zb1))
    (za4 (zb4 (i:=5) zl4.nd rfl (by trivial) (zb2 zU9 (zb2 zy1 (jsv 4) (zb2 zg0 za2 (zb2 zy1 za2 (jsv 2) fun _ _=>zb1) fun _ _=>zb1) fun _ _=>zb1) za2 fun _ _=>zb1))
    (za4 (zc1 (zb2 zU9 (zb2 zY7 (zb2 zU9 (zb2 zg0 (zb2 zy1 (zb2 zY7 (jsv 5) za2 fun _ _=>zb1) za2 fun _ _=>zb1) (jsv 2) fun _ _=>zb1) za2 fun _ _=>zb1) za2 fun _ _=>zb1) (jsv 1) fun _ _=>zb1))
    za7)))))))
theorem zT3 (M:Md K mg f fd) (ih:Ih P w K mg base f fd W d) (hr:zp3 d (A.deeper (envOfC "_law_names" (za5 zd3) s.heap.objs.size (f 7) cdv))) :
    JSs (zx8 CX0 P w K mg base ["_law_well_here", "_law_many", "_law_letters", "_law_way", "_law_start", "_law_names_here", "_law_size", "_law_at", "_law_head", "_law_tail", "_law_turn"] "_law_names" (za5 zd3) (f 7) cdv A outer s H E).nox (zi1 prog W d) W (zb0 zd3) zi8 :=
  have hu1:=zo0 hr
  have hu2:=zn8 hr
  have hgd:=hr.gd
  (za4 (zb4 (i:=2) zc8.nd rfl (by trivial) (zb2 zy1 (zb3 (cs:=[97,98,99,100,101,102,103,104,105,106,107,108,109,110,111,112,113,114,115,116,117,118,119,120,121,122])) za2 fun _ _=>zb1))
    (za4 (zb4 (i:=3) zc8.nd rfl (by trivial) (za8 (ps:=["_law_well_here", "_law_many"]) ih.h6 hr rfl M.m6 M.F6.kp M.b6 (za0 (jsv 0) (za0 za2 za1)) rfl))
    (za4 (zb4 (i:=4) zc8.nd rfl (by trivial) (za8 (ps:=["_law_well_here", "_law_many"]) ih.h6 hr rfl M.m6 M.F6.kp M.b6 (za0 (jsv 0) (za0 za2 za1)) rfl))
    (za4 (zb4 (i:=5) zc8.nd rfl (by trivial) (zo7 (zG6 (za0 (zb3 (cs:=[110,117,109])) (za0 (zb3 (cs:=[110,117,109,98])) (za0 (zb3 (cs:=[108,111,119])) (za0 (zb3 (cs:=[114,111,119,115])) (za0 (zb3 (cs:=[115,101,116])) (za0 (zb3 (cs:=[97,115,107,115])) (za0 (zb3 (cs:=[112,117,116])) (za0 (zb3 (cs:=[111,102])) za1)))))))) (by decide) rfl)))
    (za4 (zg8 (zd6 (zG7 hu2) (jsv 3) za2 (ze4 _) fun _ _=>zd4)
     (za4 (zv9 (i:=5) zc8.nd rfl rfl (N:=["_law_letters", "_law_start", "_law_k"]) rfl (zf6 (up:=za5 zd3) (XN:=["_law_well_here", "_law_many", "_law_letters", "_law_way", "_law_start", "_law_names_here", "_law_size", "_law_at", "_law_head", "_law_tail", "_law_turn"]) rfl rfl (by decide +kernel)) (zk2 rfl M.z_range za2) (fun _ _ _ _ _=>ze2 (i:=2) nd3 rfl (by trivial)) (fun _ _ _ _ _=>zx0) (fun _ _ _ _ _=>(zc2 (jsv 0) (zc4 (jsv 1)) (zc4 (zb2 zg0 (zb2 zg0 (jsv 1) za2 fun _ _=>zb1) (jsv 2) fun _ _=>zb1)))))
     za7)
     za7)
    (za4 (zg8 (zd6 (zG7 hu2) (jsv 3) za2 (ze4 _) fun _ _=>zd4)
     (za4 (zb4 (i:=6) zc8.nd rfl (by trivial) (zb2 zg0 za2 (za8 (ps:=["_law_well_here", "_law_many"]) ih.h6 hr rfl M.m6 M.F6.kp M.b6 (za0 (jsv 0) (za0 za2 za1)) rfl) fun _ _=>zb1))
     (za4 (zb4 (i:=7) zc8.nd rfl (by trivial) (za8 (ps:=["_law_well_here", "_law_many"]) ih.h6 hr rfl M.m6 M.F6.kp M.b6 (za0 (jsv 0) (za0 (jsv 6) za1)) rfl))
     (za4 (zb4 (i:=8) zc8.nd rfl (by trivial) (zc2 (jsv 2) (zc4 (jsv 4)) (zc4 (zb2 zg0 (jsv 4) (jsv 7) fun _ _=>zb1))))
     (za4 (zb4 (i:=9) zc8.nd rfl (by trivial) (zc2 (jsv 2) (zc4 (zb2 zg0 (zb2 zg0 (jsv 4) (jsv 7) fun _ _=>zb1) za2 fun _ _=>zb1)) (zc4 (zb2 zg0 (jsv 4) (jsv 6) fun _ _=>zb1))))
     (za4 (zv9 (i:=5) zc8.nd rfl rfl (N:=["_law_letters", "_law_start", "_law_head", "_law_tail", "_law_k"]) rfl (zf6 (up:=za5 zd3) (XN:=["_law_well_here", "_law_many", "_law_letters", "_law_way", "_law_start", "_law_names_here", "_law_size", "_law_at", "_law_head", "_law_tail", "_law_turn"]) rfl rfl (by decide +kernel)) (zk2 rfl M.z_range za2) (fun _ _ _ _ _=>ze2 (i:=4) nd2 rfl (by trivial)) (fun _ _ _ _ _=>zx0) (fun _ _ _ _ _=>(zb2 zg0 (zb2 zg0 (jsv 2) (zd0 hu1 (jsv 0) (zb2 zU9 (zb2 zg0 (jsv 1) (zb2 zy1 za2 (jsv 4) fun _ _=>zb1) fun _ _=>zb1) za2 fun _ _=>zb1) (fun _ _=>rfl)) fun _ _=>zb1) (jsv 3) fun _ _=>zb1)))
     za7)))))
     za7)
    (za4 (zb4 (i:=10) zc8.nd rfl (by trivial) (za8 (ps:=["_law_well_here", "_law_many"]) ih.h6 hr rfl M.m6 M.F6.kp M.b6 (za0 (jsv 0) (za0 za2 za1)) rfl))
    (za4 (zb4 (i:=5) zc8.nd rfl (by trivial) (zo7 (yh3 (zc2 (jsv 5) (zc4 (jsv 10)) ze1) (zc2 (jsv 5) ze1 (zc4 (jsv 10))))))
    (za4 (zg8 (zd6 (zG7 hu2) (za8 (ps:=["_law_well_here", "_law_many"]) ih.h6 hr rfl M.m6 M.F6.kp M.b6 (za0 (jsv 0) (za0 za2 za1)) rfl) za2 (ze4 _) fun _ _=>zd4)
     (za4 (zm7 (yw0 PySem.F.slot_list_reverse PySem.F.type_list_reverse yl1 (jsv 5) yq3))
     za7)
     za7)
    (za4 (zc1 (zc2 (jsv 5) ze1 (zc4 (jsv 1))))
    za7))))))))))
theorem yo8 (M:Md K mg f fd) (ih:Ih P w K mg base f fd W d) (hr:zp3 d (A.deeper (envOfC "_law_web" (za5 zg5) s.heap.objs.size (f 8) cdv))) :
  JSs (zx8 CX0 P w K mg base ["_law_well_here", "_law_some", "_law_rows", "_law_many", "_law_names_here", "_law_shift", "_law_at", "_law_called", "_law_pairs"] "_law_web" (za5 zg5) (f 8) cdv A outer s H E).nox (zi1 prog W d) W (zb0 zg5) zD4 :=
 have hu1:=zo0 hr
 have hu2:=zn8 hr
 have hgd:=hr.gd
 (za4 (zb4 (i:=1) zi0.nd rfl (by trivial) (zo7 (zG6 (za0 (za9 (za0 (za9 (za0 za2 (za0 za2 za1))) za1)) (za0 (za9 (za0 (za9 (za0 za2 (za0 za2 za1))) (za0 (za9 (za0 za2 (za0 za2 za1))) (za0 (za9 (za0 za2 (za0 za2 za1))) za1)))) (za0 (za9 (za0 (za9 (za0 za2 (za0 za2 za1))) (za0 (za9 (za0 za2 (za0 za2 za1))) (za0 (za9 (za0 za2 (za0 za2 za1))) (za0 (za9 (za0 za2 (za0 za2 za1))) za1))))) za1))) (by decide) rfl)))
  (za4 (zm7 (zC6 PySem.F.slot_list_append PySem.F.type_list_append zB3 (jsv 1) (za0 (za9 (za0 (za9 (za0 za2 (za0 za2 za1))) (za0 (za9 (za0 za2 (za0 za2 za1))) (za0 (za9 (za0 za2 (za0 za2 za1))) (za0 (za9 (za0 za2 (za0 za2 za1))) (za0 (za9 (za0 za2 (za0 za2 za1))) (za0 (za9 (za0 za2 (za0 za2 za1))) za1))))))) za1) zB1))
  (za4 (zm7 (zC6 PySem.F.slot_list_append PySem.F.type_list_append zB3 (jsv 1) (za0 (za9 (za0 (za9 (za0 za2 (za0 za2 za1))) (za0 (za9 (za0 za2 (za0 za2 za1))) (za0 (za9 (za0 za2 (za0 za2 za1))) (za0 (za9 (za0 za2 (za0 za2 za1))) (za0 (za9 (za0 za2 (za0 za2 za1))) za1)))))) za1) zB1))
  (za4 (zm7 (zC6 PySem.F.slot_list_append PySem.F.type_list_append zB3 (jsv 1) (za0 (za9 (za0 (za9 (za0 za2 (za0 za2 za1))) (za0 (za9 (za0 za2 (za0 za2 za1))) (za0 (za9 (za0 za2 (za0 za2 za1))) (za0 (za9 (za0 za2 (za0 za2 za1))) (za0 (za9 (za0 za2 (za0 za2 za1))) (za0 (za9 (za0 za2 (za0 za2 za1))) (za0 (za9 (za0 za2 (za0 za2 za1))) za1)))))))) za1) zB1))
  (za4 (zm7 (zC6 PySem.F.slot_list_append PySem.F.type_list_append zB3 (jsv 1) (za0 (za9 (za0 (za9 (za0 za2 (za0 za2 za1))) (za0 (za9 (za0 za2 (za0 za2 za1))) (za0 (za9 (za0 za2 (za0 za2 za1))) (za0 (za9 (za0 za2 (za0 za2 za1))) (za0 (za9 (za0 za2 (za0 za2 za1))) (za0 (za9 (za0 za2 (za0 za2 za1))) (za0 (za9 (za0 za2 (za0 za2 za1))) (za0 (za9 (za0 za2 (za0 za2 za1))) (za0 (za9 (za0 za2 (za0 za2 za1))) za1)))))))))) za1) zB1))
  (za4 (zb4 (i:=2) zi0.nd rfl (by trivial) (zd0 hu1 (jsv 1) (za8 (ps:=["_law_well_here", "_law_many"]) ih.h6 hr rfl M.m6 M.F6.kp M.b6 (za0 (jsv 0) (za0 za2 za1)) rfl) (fun _ _=>rfl)))
  (za4 (zb4 (i:=3) zi0.nd rfl (by trivial) (zb2 zg0 za2 (zb8 (xk5 rfl) (fun _ _=>zc6) rfl M.z_max yz7 (za0 (zm8 (N:=["_law_pair"]) rfl (zf6 (up:=za5 zg5) (XN:=["_law_well_here", "_law_some", "_law_rows", "_law_many", "_law_names_here", "_law_shift", "_law_at", "_law_called", "_law_pairs"]) rfl rfl (by decide +kernel)) (zi5 (jsv 2)) (fun _ _ _ _ _=>ze2 (i:=0) nd5 rfl (by trivial)) (fun _ _ _ _ _=>zx0) (fun _ _ _ _ _=>(zd0 hu1 (jsv 0) za2 (fun _ _=>rfl)))) za1)) fun _ _=>zb1))
  (za4 (zb4 (i:=4) zi0.nd rfl (by trivial) (za8 (ps:=["_law_well_here", "_law_many"]) ih.h7 hr rfl M.m7 M.F7.kp M.b7 (za0 (jsv 0) (za0 (jsv 3) za1)) rfl))
  (za4 (zb4 (i:=5) zi0.nd rfl (by trivial) (za8 (ps:=["_law_well_here", "_law_many"]) ih.h6 hr rfl M.m6 M.F6.kp M.b6 (za0 (jsv 0) (za0 (jsv 3) za1)) rfl))
  (za4 (zb4 (i:=6) zi0.nd rfl (by trivial) (za8 (ps:=["_law_well_here", "_law_many"]) ih.h6 hr rfl M.m6 M.F6.kp M.b6 (za0 (jsv 0) (za0 (zb8 zs9 (fun _ _=>zc6) rfl M.z_len zk4 (za0 (jsv 2) za1)) za1)) rfl))
  (za4 (zb4 (i:=7) zi0.nd rfl (by trivial) (zb2 zg0 (zc2 (jsv 4) (zc4 (jsv 5)) ze1) (zc2 (jsv 4) ze1 (zc4 (jsv 5))) fun _ _=>zb1))
  (za4 (zL2 (i:=8) zi0.nd rfl rfl (N:=["_law_called", "_law_one", "_law_other"]) rfl (zf6 (up:=za5 zg5) (XN:=["_law_well_here", "_law_some", "_law_rows", "_law_many", "_law_names_here", "_law_shift", "_law_at", "_law_called", "_law_pairs"]) rfl rfl (by decide +kernel)) (zi5 (zb2 zg0 (zc2 (jsv 2) (zc4 (jsv 6)) ze1) (zc2 (jsv 2) ze1 (zc4 (jsv 6))) fun _ _=>zb1)) (fun _ _ _ _ _=>yf3 rfl (zq5 (i:=1) nd4 rfl (by trivial) (zq5 (i:=2) nd4 rfl (by trivial) zW2))) (fun _ _ _ _ _=>zx0) (fun _ _ _ _ _=>(za9 (za0 (zd0 hu1 (jsv 0) (jsv 1) (fun _ _=>rfl)) (za0 (zd0 hu1 (jsv 0) (jsv 2) (fun _ _=>rfl)) za1)))))
  (za4 (zc1 (za9 (za0 (zb3 (cs:=[119,101,98])) (za0 (ze0 zn6 (fun _ _=>zc6) rfl M.z_tuple zh6 (za0 (jsv 4) za1)) (za0 (ze0 zn6 (fun _ _=>zc6) rfl M.z_tuple zh6 (za0 (jsv 8) za1)) za1)))))
  za7)))))))))))))
theorem yd9 (M:Md K mg f fd) (ih:Ih P w K mg base f fd W d) (hr:zp3 d (A.deeper (envOfC "_law_flat" (za5 zg4) s.heap.objs.size (f 9) cdv))) :
    JSs (zx8 CX0 P w K mg base ["_law_well_here", "_law_way"] "_law_flat" (za5 zg4) (f 9) cdv A outer s H E).nox (zi1 prog W d) W (zb0 zg4) zy6 :=
  have hu1:=zo0 hr
  have hu2:=zn8 hr
  have hgd:=hr.gd
  (za4 (zb4 (i:=1) zF0.nd rfl (by trivial) (za8 (ps:=["_law_well_here", "_law_many"]) ih.h6 hr rfl M.m6 M.F6.kp M.b6 (za0 (jsv 0) (za0 za2 za1)) rfl))
    (za4 (zg8 (zd6 o_lt (jsv 1) za2 (ze4 _) fun _ _=>zd4)
     (za4 (zc1 (za9 (za0 (zd0 hu1 (zi7 (za0 (zb3 (cs:=[110,117,109])) (za0 (zb3 (cs:=[108,111,119])) za1))) (jsv 1) (fun _ _=>rfl)) za1)))
     za7)
     za7)
    (za4 (zg8 (zd6 (zG7 hu2) (jsv 1) za2 (ze4 _) fun _ _=>zd4)
     (za4 (zc1 (za9 (za0 (zb3 (cs:=[99,104,97,105,110])) (za0 (ze0 zn6 (fun _ _=>zc6) rfl M.z_tuple zh6 (za0 (za8 (ps:=["_law_well_here", "_law_many"]) ih.h7 hr rfl M.m7 M.F7.kp M.b7 (za0 (jsv 0) (za0 (zb2 zg0 za2 (za8 (ps:=["_law_well_here", "_law_many"]) ih.h6 hr rfl M.m6 M.F6.kp M.b6 (za0 (jsv 0) (za0 za2 za1)) rfl) fun _ _=>zb1) za1)) rfl) za1)) za1))))
     za7)
     za7)
    (za4 (zg8 (zd6 (zG7 hu2) (jsv 1) za2 (ze4 _) fun _ _=>zd4)
     (za4 (zc1 (za9 (za0 (zb3 (cs:=[115,101,116])) (za0 (ze0 zn6 (fun _ _=>zc6) rfl M.z_tuple zh6 (za0 (za8 (ps:=["_law_well_here", "_law_many"]) ih.h7 hr rfl M.m7 M.F7.kp M.b7 (za0 (jsv 0) (za0 (zb2 zg0 za2 (za8 (ps:=["_law_well_here", "_law_many"]) ih.h6 hr rfl M.m6 M.F6.kp M.b6 (za0 (jsv 0) (za0 za2 za1)) rfl) fun _ _=>zb1) za1)) rfl) za1)) za1))))
     za7)
     za7)
    (za4 (zc1 (yB2 (zd6 (zG7 hu2) (jsv 1) za2 (ze4 _) fun _ _=>zd4) (za8 (ps:=["_law_well_here"]) ih.h8 hr rfl M.m8 M.F8.kp M.b8 (za0 (jsv 0) za1) rfl) (za9 (za0 (zb3 (cs:=[110,117,109])) za1))))
    za7)))))
theorem ye0 (M:Md K mg f fd) (ih:Ih P w K mg base f fd W d) (hr:zp3 d (A.deeper (envOfC "_law_nest" (za5 zf5) s.heap.objs.size (f 10) cdv))) :
    JSs (zx8 CX0 P w K mg base ["_law_well_here"] "_law_nest" (za5 zf5) (f 10) cdv A outer s H E).nox (zi1 prog W d) W (zb0 zf5) zy5 :=
  have hu1:=zo0 hr
  have hu2:=zn8 hr
  have hgd:=hr.gd
  (za4 (zg8 (zd6 (zG7 hu2) (za8 (ps:=["_law_well_here", "_law_many"]) ih.h6 hr rfl M.m6 M.F6.kp M.b6 (za0 (jsv 0) (za0 za2 za1)) rfl) za2 (ze4 _) fun _ _=>zd4)
     (za4 (zc1 (za9 (za0 (zb3 (cs:=[110,101,119,101,114])) (za0 (za8 (ps:=["_law_well_here"]) ih.h9 hr rfl M.m9 M.F9.kp M.b9 (za0 (jsv 0) za1) rfl) za1))))
     za7)
     za7)
    (za4 (zc1 (za9 (za0 (zb3 (cs:=[114,111,119])) (za0 (ze0 zn6 (fun _ _=>zc6) rfl M.z_tuple zh6 (za0 (zm8 (N:=["_law_well_here", "_law_k"]) rfl (zf6 (up:=za5 zf5) (XN:=["_law_well_here"]) rfl rfl (by decide +kernel)) (zk2 rfl M.z_range (zb2 zg0 za2 (za8 (ps:=["_law_well_here", "_law_many"]) ih.h6 hr rfl M.m6 M.F6.kp M.b6 (za0 (jsv 0) (za0 za2 za1)) rfl) fun _ _=>zb1)) (fun _ _ _ _ _=>ze2 (i:=1) nd6 rfl (by trivial)) (fun _ _ _ _ _=>zx0) (fun _ _ _ _ _=>(za8 (ps:=["_law_well_here"]) ih.h9 hr rfl M.m9 M.F9.kp M.b9 (za0 (jsv 0) za1) rfl))) za1)) za1))))
    za7))
theorem zT7 (M:Md K mg f fd) (ih:Ih P w K mg base f fd W d) (hr:zp3 d (A.deeper (envOfC "_law_order" (za5 zd2) s.heap.objs.size (f 11) cdv))) :
    JSs (zx8 CX0 P w K mg base ["_law_well_here", "_law_way", "_law_parts"] "_law_order" (za5 zd2) (f 11) cdv A outer s H E).nox (zi1 prog W d) W (zb0 zd2) zu1 :=
  have hu1:=zo0 hr
  have hu2:=zn8 hr
  have hgd:=hr.gd
  (za4 (zb4 (i:=1) zm9.nd rfl (by trivial) (za8 (ps:=["_law_well_here", "_law_many"]) ih.h6 hr rfl M.m6 M.F6.kp M.b6 (za0 (jsv 0) (za0 za2 za1)) rfl))
    (za4 (zg8 (zd6 o_lt (jsv 1) za2 (ze4 _) fun _ _=>zd4)
     (za4 (zc1 (za8 (ps:=["_law_well_here"]) ih.h9 hr rfl M.m9 M.F9.kp M.b9 (za0 (jsv 0) za1) rfl))
     za7)
     za7)
    (za4 (zg8 (zd6 (zG7 hu2) (jsv 1) za2 (ze4 _) fun _ _=>zd4)
     (za4 (zc1 (za9 (za0 (zb3 (cs:=[110,101,119,101,114])) (za0 (za8 (ps:=["_law_well_here"]) ih.h10 hr rfl M.m10 M.F10.kp M.b10 (za0 (jsv 0) za1) rfl) za1))))
     za7)
     za7)
    (za4 (zg8 (zd6 (zG7 hu2) (jsv 1) za2 (ze4 _) fun _ _=>zd4)
     (za4 (zc1 (za9 (za0 (zb3 (cs:=[114,111,119])) (za0 (ze0 zn6 (fun _ _=>zc6) rfl M.z_tuple zh6 (za0 (zm8 (N:=["_law_well_here", "_law_k"]) rfl (zf6 (up:=za5 zd2) (XN:=["_law_well_here", "_law_way", "_law_parts"]) rfl rfl (by decide +kernel)) (zk2 rfl M.z_range (zb2 zg0 za2 (za8 (ps:=["_law_well_here", "_law_many"]) ih.h6 hr rfl M.m6 M.F6.kp M.b6 (za0 (jsv 0) (za0 za2 za1)) rfl) fun _ _=>zb1)) (fun _ _ _ _ _=>ze2 (i:=1) nd8 rfl (by trivial)) (fun _ _ _ _ _=>zx0) (fun _ _ _ _ _=>(za8 (ps:=["_law_well_here"]) ih.h9 hr rfl M.m9 M.F9.kp M.b9 (za0 (jsv 0) za1) rfl))) za1)) za1))))
     za7)
     za7)
    (za4 (zg8 (zd6 (zG7 hu2) (jsv 1) za2 (ze4 _) fun _ _=>zd4)
     (za4 (zc1 (za8 (ps:=["_law_well_here"]) ih.h10 hr rfl M.m10 M.F10.kp M.b10 (za0 (jsv 0) za1) rfl))
     za7)
     za7)
    (za4 (zv9 (i:=2) zm9.nd rfl rfl (N:=["_law_well_here", "_law_k"]) rfl (zf6 (up:=za5 zd2) (XN:=["_law_well_here", "_law_way", "_law_parts"]) rfl rfl (by decide +kernel)) (zk2 rfl M.z_range (za8 (ps:=["_law_well_here", "_law_many"]) ih.h6 hr rfl M.m6 M.F6.kp M.b6 (za0 (jsv 0) (za0 za2 za1)) rfl)) (fun _ _ _ _ _=>ze2 (i:=1) nd7 rfl (by trivial)) (fun _ _ _ _ _=>zx0) (fun _ _ _ _ _=>(za8 (ps:=["_law_well_here"]) ih.h9 hr rfl M.m9 M.F9.kp M.b9 (za0 (jsv 0) za1) rfl)))
    (za4 (zg8 (zd6 (zG7 hu2) (jsv 1) za2 (ze4 _) fun _ _=>zd4)
     (za4 (zm7 (zC6 PySem.F.slot_list_insert PySem.F.type_list_insert yt5 (jsv 2) (za0 (za8 (ps:=["_law_well_here", "_law_many"]) ih.h6 hr rfl M.m6 M.F6.kp M.b6 (za0 (jsv 0) (za0 (zb2 zg0 (zb8 zs9 (fun _ _=>zc6) rfl M.z_len zk4 (za0 (jsv 2) za1)) za2 fun _ _=>zb1) za1)) rfl) (za0 (za8 (ps:=["_law_well_here"]) ih.h10 hr rfl M.m10 M.F10.kp M.b10 (za0 (jsv 0) za1) rfl) za1)) yu3))
     za7)
     (za4 (zb4 (i:=2) zm9.nd rfl (by trivial) (zo7 (yh3 (zi7 (za0 (za9 (za0 (zb3 (cs:=[110,101,119,101,114])) (za0 (za8 (ps:=["_law_well_here"]) ih.h9 hr rfl M.m9 M.F9.kp M.b9 (za0 (jsv 0) za1) rfl) za1))) (za0 (za9 (za0 (zb3 (cs:=[110,101,119,101,114])) (za0 (za8 (ps:=["_law_well_here"]) ih.h9 hr rfl M.m9 M.F9.kp M.b9 (za0 (jsv 0) za1) rfl) za1))) za1))) (zc2 (jsv 2) ze1 (zc4 za2)))))
     za7))
    (za4 (zc1 (za9 (za0 (zb3 (cs:=[114,111,119])) (za0 (ze0 zn6 (fun _ _=>zc6) rfl M.z_tuple zh6 (za0 (jsv 2) za1)) za1))))
    za7))))))))
theorem yh6 (M:Md K mg f fd) (ih:Ih P w K mg base f fd W d) (hr:zp3 d (A.deeper (envOfC "_law_odd" (za5 zh3) s.heap.objs.size (f 12) cdv))) :
    JSs (zx8 CX0 P w K mg base ["_law_well_here", "_law_part", "_law_some"] "_law_odd" (za5 zh3) (f 12) cdv A outer s H E).nox (zi1 prog W d) W (zb0 zh3) zE3 :=
  have hu1:=zo0 hr
  have hu2:=zn8 hr
  have hgd:=hr.gd
  (za4 (zb4 (i:=2) zk9.nd rfl (by trivial) (zi7 (za0 zG2 (za0 zm3 (za0 zm3 (za0 (zJ7 za2) (za0 za2 (za0 za2 (za0 za2 (za0 (zb2 yV0 za2 za2 fun _ _=>zb1) (za0 (zb3 (cs:=[])) (za0 (zb3 (cs:=[97])) (za0 (zb3 (cs:=[65])) (za0 (zb3 (cs:=[42])) (za0 (zb3 (cs:=[110,117,109])) (za0 (zb3 (cs:=[97,98,99,100,101,102,103,104,105])) (za0 (zb3 (cs:=[97,49])) za1)))))))))))))))))
    (za4 (zb4 (i:=2) zk9.nd rfl (by trivial) (zb2 zg0 (jsv 2) (zi7 (za0 (za9 za1) (za0 (zi7 za1) (za0 (za9 (za0 (zb3 (cs:=[110,117,109])) za1)) (za0 (za9 (za0 (zb3 (cs:=[97])) za1)) za1))))) fun _ _=>zb1))
    (za4 (zg8 (zn0 (zi2 .tuple rfl M.z_isinstance zf2 rfl M.z_tuple zh6 (jsv 1)))
     (za4 (zb4 (i:=2) zk9.nd rfl (by trivial) (zb2 zg0 (jsv 2) (zb2 zy1 (zi7 (za0 (ze0 ya3 (fun _ _=>zc6) rfl M.z_list zK7 (za0 (jsv 1) za1)) (za0 (zb2 zg0 (jsv 1) (za9 (za0 za2 za1)) fun _ _=>zb1) (za0 (zc2 (jsv 1) ze1 (zc4 (zJ7 za2))) (za0 (zc2 (jsv 1) (zc4 za2) ze1) (za0 (zb2 zg0 (jsv 1) (zc2 (jsv 1) ze1 (zc4 za2)) fun _ _=>zb1) (za0 (za9 (za0 (jsv 1) za1)) (za0 (yC4 (jsv 1)) za1)))))))) za2 fun _ _=>zb1) fun _ _=>zb1))
     za7)
     za7)
    (za4 (zg8 (zn0 (zi2 .str rfl M.z_isinstance zf2 rfl M.z_str ym5 (jsv 1)))
     (za4 (zb4 (i:=2) zk9.nd rfl (by trivial) (zb2 zg0 (jsv 2) (zb2 zy1 (zi7 (za0 (zb2 zg0 (jsv 1) (zb3 (cs:=[97])) fun _ _=>zb1) (za0 (zc2 (jsv 1) ze1 (zc4 (zJ7 za2))) (za0 (yw6 PySem.F.slot_str_upper PySem.F.type_str_upper yF2 (jsv 1) yH0 yB5) (za0 (za9 (za0 (jsv 1) za1)) za1))))) za2 fun _ _=>zb1) fun _ _=>zb1))
     za7)
     za7)
    (za4 (zg8 (zQ8 (yD8 (zn0 (zi2 .int rfl M.z_isinstance zf2 rfl M.z_int yz4 (jsv 1))) (yx3 (zu6 (zn0 (zi2 .bool rfl M.z_isinstance zf2 rfl M.z_bool yG9 (jsv 1)))))))
     (za4 (zb4 (i:=2) zk9.nd rfl (by trivial) (zb2 zg0 (jsv 2) (zb2 zy1 (zi7 (za0 (zb2 zg0 (jsv 1) za2 fun _ _=>zb1) (za0 (zb2 yC6 (jsv 1) za2 fun _ _=>zb1) (za0 (zl2 (zG7 hu2) (jsv 1) za2 (ze4 _) fun _ _=>zd4) (za0 (za9 (za0 (jsv 1) za1)) za1))))) za2 fun _ _=>zb1) fun _ _=>zb1))
     za7)
     za7)
    (za4 (zc1 (zd0 hu1 (jsv 2) (za8 (ps:=["_law_well_here", "_law_many"]) ih.h6 hr rfl M.m6 M.F6.kp M.b6 (za0 (jsv 0) (za0 (zb8 zs9 (fun _ _=>zc6) rfl M.z_len zk4 (za0 (jsv 2) za1)) za1)) rfl) (fun _ _=>rfl)))
    za7))))))
theorem yc9 (M:Md K mg f fd) (ih:Ih P w K mg base f fd W d) (hr:zp3 d (A.deeper (envOfC "_law_bent" (za5 zg3) s.heap.objs.size (f 13) cdv))) :
    JSs (zx8 CX0 P w K mg base ["_law_well_here", "_law_part", "_law_deep", "_law_at"] "_law_bent" (za5 zg3) (f 13) cdv A outer s H E).nox (zi1 prog W d) W (zb0 zg3) zs1 :=
  have hu1:=zo0 hr
  have hu2:=zn8 hr
  have hgd:=hr.gd
  (za4 (zg8 (zQ8 (zF8 (zu6 (zn0 (zi2 .tuple rfl M.z_isinstance zf2 rfl M.z_tuple zh6 (jsv 1)))) (zF8 (zd6 (zG7 hu2) (zb8 zs9 (fun _ _=>zc6) rfl M.z_len zk4 (za0 (jsv 1) za1)) za2 (ze4 _) fun _ _=>zd4) (zF8 (zd6 (zG7 hu2) (jsv 2) za2 (ze4 _) fun _ _=>zd4) (zL9 (zd6 (zG7 hu2) (za8 (ps:=["_law_well_here", "_law_many"]) ih.h6 hr rfl M.m6 M.F6.kp M.b6 (za0 (jsv 0) (za0 za2 za1)) rfl) za2 (ze4 _) fun _ _=>zd4))))))
     (za4 (zc1 (za8 (ps:=["_law_well_here", "_law_part"]) ih.h12 hr rfl M.m12 M.F12.kp M.b12 (za0 (jsv 0) (za0 (jsv 1) za1)) rfl))
     za7)
     za7)
    (za4 (zb4 (i:=3) zE9.nd rfl (by trivial) (za8 (ps:=["_law_well_here", "_law_many"]) ih.h6 hr rfl M.m6 M.F6.kp M.b6 (za0 (jsv 0) (za0 (zb8 zs9 (fun _ _=>zc6) rfl M.z_len zk4 (za0 (jsv 1) za1)) za1)) rfl))
    (za4 (zc1 (zb2 zg0 (zb2 zg0 (zc2 (jsv 1) ze1 (zc4 (jsv 3))) (za9 (za0 (za8 (ps:=["_law_well_here", "_law_part", "_law_deep"]) ih.h13 hr rfl M.m13 M.F13.kp M.b13 (za0 (jsv 0) (za0 (zd0 hu1 (jsv 1) (jsv 3) (fun _ _=>rfl)) (za0 (zb2 yC6 (jsv 2) za2 fun _ _=>zb1) za1))) rfl) za1)) fun _ _=>zb1) (zc2 (jsv 1) (zc4 (zb2 zg0 (jsv 3) za2 fun _ _=>zb1)) ze1) fun _ _=>zb1))
    za7)))
theorem zP5 (M:Md K mg f fd) (ih:Ih P w K mg base f fd W d) (hr:zp3 d (A.deeper (envOfC "_law_ground" (za5 zc9) s.heap.objs.size (f 14) cdv))) :
  JSs (zx8 CX0 P w K mg base ["_law_well_here", "_law_names_here", "_law_called", "_law_heads"] "_law_ground" (za5 zc9) (f 14) cdv A outer s H E).nox (zi1 prog W d) W (zb0 zc9) zr5 :=
 have hu1:=zo0 hr
 have hu2:=zn8 hr
 have hgd:=hr.gd
 (za4 (zb4 (i:=1) zk6.nd rfl (by trivial) (ze0 zn6 (fun _ _=>zc6) rfl M.z_tuple zh6 (za0 (za8 (ps:=["_law_well_here", "_law_many"]) ih.h7 hr rfl M.m7 M.F7.kp M.b7 (za0 (jsv 0) (za0 (zb2 zg0 za2 (za8 (ps:=["_law_well_here", "_law_many"]) ih.h6 hr rfl M.m6 M.F6.kp M.b6 (za0 (jsv 0) (za0 za2 za1)) rfl) fun _ _=>zb1) za1)) rfl) za1)))
  (za4 (zb4 (i:=2) zk6.nd rfl (by trivial) (za8 (ps:=["_law_well_here", "_law_many"]) ih.h7 hr rfl M.m7 M.F7.kp M.b7 (za0 (jsv 0) (za0 (zb2 zg0 za2 (za8 (ps:=["_law_well_here", "_law_many"]) ih.h6 hr rfl M.m6 M.F6.kp M.b6 (za0 (jsv 0) (za0 za2 za1)) rfl) fun _ _=>zb1) za1)) rfl))
  (za4 (zL2 (i:=3) zk6.nd rfl rfl (N:=["_law_well_here", "_law_head"]) rfl (zf6 (up:=za5 zc9) (XN:=["_law_well_here", "_law_names_here", "_law_called", "_law_heads"]) rfl rfl (by decide +kernel)) (zi5 (jsv 2)) (fun _ _ _ _ _=>ze2 (i:=1) nd9 rfl (by trivial)) (fun _ _ _ _ _=>zx0) (fun _ _ _ _ _=>(za9 (za0 (jsv 1) (za0 (zd0 hu1 (zi7 (za0 za2 (za0 za2 (za0 za2 (za0 za2 za1))))) (za8 (ps:=["_law_well_here", "_law_many"]) ih.h6 hr rfl M.m6 M.F6.kp M.b6 (za0 (jsv 0) (za0 za2 za1)) rfl) (fun _ _=>rfl)) (za0 (za8 (ps:=["_law_well_here"]) ih.h11 hr rfl M.m11 M.F11.kp M.b11 (za0 (jsv 0) za1) rfl) za1))))))
  (za4 (zc1 (za9 (za0 (jsv 1) (za0 (ze0 zn6 (fun _ _=>zc6) rfl M.z_tuple zh6 (za0 (jsv 3) za1)) za1))))
  za7))))
theorem zO6 (M:Md K mg f fd) (ih:Ih P w K mg base f fd W d) (hr:zp3 d (A.deeper (envOfC "_law_things" (za5 zc5) s.heap.objs.size (f 15) cdv))) :
    JSs (zx8 CX0 P w K mg base ["_law_ground_here", "_law_found", "_law_head", "_law_many", "_law_order_here", "_law_rows", "_law_one"] "_law_things" (za5 zc5) (f 15) cdv A outer s H E).nox (zi1 prog W d) W (zb0 zc5) zq2 :=
  have hu1:=zo0 hr
  have hu2:=zn8 hr
  have hgd:=hr.gd
  (za4 (zb4 (i:=1) ze9.nd rfl (by trivial) (zo7 (zG6 za1 (by decide) rfl)))
    (za4 (zr7 PassesOwn.never rfl (zi5 (zd0 hu1 (jsv 0) za2 (fun _ _=>rfl))) (yf3 rfl (zq5 (i:=2) ze9.nd rfl (by trivial) (zq5 (i:=3) ze9.nd rfl (by trivial) (zq5 (i:=4) ze9.nd rfl (by trivial) zW2))))
     (za4 (zb4 (i:=5) ze9.nd rfl (by trivial) (zo7 (zG6 (za0 (za9 (za0 (jsv 2) za1)) za1) (by decide) rfl)))
     (za4 (zg8 (zd6 xc1 (jsv 3) za2 (ze4 _) fun _ _=>zd4)
      (za4 (zv9 (i:=5) ze9.nd rfl rfl (N:=["_law_head", "_law_one"]) rfl (zf6 (up:=za5 zc5) (XN:=["_law_ground_here", "_law_found", "_law_head", "_law_many", "_law_order_here", "_law_rows", "_law_one"]) rfl rfl (by decide +kernel)) (zi5 (zd0 hu1 (jsv 0) za2 (fun _ _=>rfl))) (fun _ _ _ _ _=>ze2 (i:=1) nd11 rfl (by trivial)) (fun _ _ _ _ _=>zx0) (fun _ _ _ _ _=>(za9 (za0 (jsv 0) (za0 (jsv 1) za1)))))
      za7)
      za7)
     (za4 (zg8 (zd6 xc1 (jsv 3) za2 (ze4 _) fun _ _=>zd4)
      (za4 (zb4 (i:=5) ze9.nd rfl (by trivial) (zo7 (zG6 za1 (by decide) rfl)))
      (za4 (zr7 PassesOwn.never rfl (zi5 (zd0 hu1 (jsv 0) za2 (fun _ _=>rfl))) (ze2 (i:=6) ze9.nd rfl (by trivial))
       (za4 (zm7 (yn2 PySem.F.slot_list_extend PySem.F.type_list_extend zW6 (jsv 5) (za0 (zm8 (N:=["_law_head", "_law_one", "_law_other"]) rfl (zf6 (up:=za5 zc5) (XN:=["_law_ground_here", "_law_found", "_law_head", "_law_many", "_law_order_here", "_law_rows", "_law_one"]) rfl rfl (by decide +kernel)) (zi5 (zd0 hu1 (jsv 0) za2 (fun _ _=>rfl))) (fun _ _ _ _ _=>ze2 (i:=2) nd10 rfl (by trivial)) (fun _ _ _ _ _=>zx0) (fun _ _ _ _ _=>(za9 (za0 (jsv 0) (za0 (jsv 1) (za0 (jsv 2) za1)))))) za1) zZ1))
       za7))
      za7))
      za7)
     (za4 (zm7 (yn2 PySem.F.slot_list_extend PySem.F.type_list_extend zW6 (jsv 1) (za0 (jsv 5) za1) zZ1))
     za7)))))
    (za4 (zc1 (zb8 yt0 (fun _ _=>zc6) rfl M.z_sorted yn7 (za0 (jsv 1) za1)))
    za7)))
theorem zR9 (M:Md K mg f fd) (ih:Ih P w K mg base f fd W d) (hr:zp3 d (A.deeper (envOfC "_law_spoken" (za5 zd1) s.heap.objs.size (f 16) cdv))) :
  JSs (zx8 CX0 P w K mg base ["_law_well_here", "_law_ground_here", "_law_head", "_law_words"] "_law_spoken" (za5 zd1) (f 16) cdv A outer s H E).nox (zi1 prog W d) W (zb0 zd1) zr1 :=
 have hu1:=zo0 hr
 have hu2:=zn8 hr
 have hgd:=hr.gd
 (za4 (zb4 (i:=2) zp1.nd rfl (by trivial) (zd0 hu1 (zd0 hu1 (jsv 1) za2 (fun _ _=>rfl)) (za8 (ps:=["_law_well_here", "_law_many"]) ih.h6 hr rfl M.m6 M.F6.kp M.b6 (za0 (jsv 0) (za0 (zb8 zs9 (fun _ _=>zc6) rfl M.z_len zk4 (za0 (zd0 hu1 (jsv 1) za2 (fun _ _=>rfl)) za1)) za1)) rfl) (fun _ _=>rfl)))
  (za4 (zb4 (i:=3) zp1.nd rfl (by trivial) (zb2 zg0 (ze0 ya3 (fun _ _=>zc6) rfl M.z_list zK7 (za0 (zd0 hu1 (jsv 1) za2 (fun _ _=>rfl)) za1)) (zi7 (za0 (zb3 (cs:=[65])) (za0 (zb3 (cs:=[66])) (za0 (zb3 (cs:=[70])) za1)))) fun _ _=>zb1))
  (za4 (zc1 (zb2 zg0 (za9 (za0 (zd0 hu1 (jsv 2) za2 (fun _ _=>rfl)) za1)) (ze0 zn6 (fun _ _=>zc6) rfl M.z_tuple zh6 (za0 (zm8 (N:=["_law_well_here", "_law_words", "_law_k"]) rfl (zf6 (up:=za5 zd1) (XN:=["_law_well_here", "_law_ground_here", "_law_head", "_law_words"]) rfl rfl (by decide +kernel)) (zk2 rfl M.z_range (zd0 hu1 (jsv 2) za2 (fun _ _=>rfl))) (fun _ _ _ _ _=>ze2 (i:=2) nd12 rfl (by trivial)) (fun _ _ _ _ _=>zx0) (fun _ _ _ _ _=>(zd0 hu1 (jsv 1) (za8 (ps:=["_law_well_here", "_law_many"]) ih.h6 hr rfl M.m6 M.F6.kp M.b6 (za0 (jsv 0) (za0 (zb8 zs9 (fun _ _=>zc6) rfl M.z_len zk4 (za0 (jsv 1) za1)) za1)) rfl) (fun _ _=>rfl)))) za1)) fun _ _=>zb1))
  za7)))
theorem zH1 (M:Md K mg f fd) (ih:Ih P w K mg base f fd W d) (hr:zp3 d (A.deeper (envOfC "_law_is_thing" (za5 zb9) s.heap.objs.size (f 17) cdv))) :
    JSs (zx8 CX0 P w K mg base ["_law_ground_here", "_law_thing", "_law_marks", "_law_counts", "_law_words"] "_law_is_thing" (za5 zb9) (f 17) cdv A outer s H E).nox (zi1 prog W d) W (zb0 zb9) zn4 :=
  have hu1:=zo0 hr
  have hu2:=zn8 hr
  have hgd:=hr.gd
  (za4 (zg8 (zQ8 (zF8 (zu6 (zn0 (zi2 .tuple rfl M.z_isinstance zf2 rfl M.z_tuple zh6 (jsv 1)))) (zF8 (zd6 (zG7 hu2) (zb8 zs9 (fun _ _=>zc6) rfl M.z_len zk4 (za0 (jsv 1) za1)) za2 (ze4 _) fun _ _=>zd4) (zL9 (zu6 (zn0 (zi2 .str rfl M.z_isinstance zf2 rfl M.z_str ym5 (zd0 hu1 (jsv 1) za2 (fun _ _=>rfl)))))))))
     (za4 (zc1 zm3)
     za7)
     za7)
    (za4 (zL2 (i:=3) zl6.nd rfl rfl (N:=["_law_thing", "_law_head"]) rfl (zf6 (up:=za5 zb9) (XN:=["_law_ground_here", "_law_thing", "_law_marks", "_law_counts", "_law_words"]) rfl rfl (by decide +kernel)) (zi5 (zd0 hu1 (jsv 0) za2 (fun _ _=>rfl))) (fun _ _ _ _ _=>ze2 (i:=1) nd14 rfl (by trivial)) (fun _ _ _ _ _=>(xi6 (zd6 (zG7 hu2) (zd0 hu1 (jsv 1) za2 (fun _ _=>rfl)) (zd0 hu1 (jsv 0) za2 (fun _ _=>rfl)) (ze4 _) fun _ _=>zd4))) (fun _ _ _ _ _=>(zd0 hu1 (jsv 1) za2 (fun _ _=>rfl))))
    (za4 (zg8 (zd6 (o_ne hu2) (jsv 3) (zi7 (za0 (zb2 yC6 (zb8 zs9 (fun _ _=>zc6) rfl M.z_len zk4 (za0 (jsv 1) za1)) za2 fun _ _=>zb1) za1)) (ze4 _) fun _ _=>zd4)
     (za4 (zc1 zm3)
     za7)
     za7)
    (za4 (zb4 (i:=4) zl6.nd rfl (by trivial) (zb2 zg0 (ze0 ya3 (fun _ _=>zc6) rfl M.z_list zK7 (za0 (zd0 hu1 (jsv 0) za2 (fun _ _=>rfl)) za1)) (jsv 2) fun _ _=>zb1))
    (za4 (zc1 (zl2 (yK3 hu2) zm3 (zm8 (N:=["_law_words", "_law_word"]) rfl (zf6 (up:=za5 zb9) (XN:=["_law_ground_here", "_law_thing", "_law_marks", "_law_counts", "_law_words"]) rfl rfl (by decide +kernel)) (zi5 (zc2 (jsv 1) (zc4 za2) ze1)) (fun _ _ _ _ _=>ze2 (i:=1) nd13 rfl (by trivial)) (fun _ _ _ _ _=>zx0) (fun _ _ _ _ _=>(zG4 (zi2 .str rfl M.z_isinstance zf2 rfl M.z_str ym5 (jsv 1)) (zy4 (zl2 (yO2 hu2) (jsv 1) (jsv 0) (by with_unfolding_all rfl) fun _ _=>zd4))))) (by with_unfolding_all rfl) fun _ _=>zd4))
    za7)))))
theorem zU7 (M:Md K mg f fd) (ih:Ih P w K mg base f fd W d) (hr:zp3 d (A.deeper (envOfC "_law_right" (za5 ze8) s.heap.objs.size (f 18) cdv))) :
    JSs (zx8 CX0 P w K mg base ["_law_ground_here", "_law_thing", "_law_kept", "_law_spoken_here"] "_law_right" (za5 ze8) (f 18) cdv A outer s H E).nox (zi1 prog W d) W (zb0 ze8) zu7 :=
  have hu1:=zo0 hr
  have hu2:=zn8 hr
  have hgd:=hr.gd
  (za4 (zb4 (i:=2) zq8.nd rfl (by trivial) (zb8 (zI0 hu2 hgd) (fun _ _=>zc6) rfl M.z_repr zy2 (za0 (za9 (za0 (jsv 0) (za0 (jsv 1) za1))) za1)))
    (za4 (zg8 (zd6 (o_ne hu2) (zb8 (zI0 hu2 hgd) (fun _ _=>zc6) rfl M.z_repr zy2 (za0 (za8 (ps:=["ground", "thing"]) ih.h1 hr rfl M.m1 M.F1.kp M.b1 (za0 (jsv 0) (za0 (jsv 1) za1)) rfl) za1)) (zb8 (zI0 hu2 hgd) (fun _ _=>zc6) rfl M.z_repr zy2 (za0 (za8 (ps:=["_law_ground_here", "_law_thing", "_law_marks"]) ih.h17 hr rfl M.m17 M.F17.kp M.b17 (za0 (jsv 0) (za0 (jsv 1) (za0 (zi7 za1) za1))) rfl) za1)) (ze4 _) fun _ _=>zd4)
     (za4 (zc1 zm3)
     za7)
     za7)
    (za4 (zb4 (i:=3) zq8.nd rfl (by trivial) (za8 (ps:=["_law_ground_here", "_law_thing", "_law_marks"]) ih.h17 hr rfl M.m17 M.F17.kp M.b17 (za0 (jsv 0) (za0 (jsv 1) (za0 (zi7 (za0 (zb3 (cs:=[65])) (za0 (zb3 (cs:=[66])) (za0 (zb3 (cs:=[67])) (za0 (zb3 (cs:=[68])) (za0 (zb3 (cs:=[69])) (za0 (zb3 (cs:=[70])) za1))))))) za1))) rfl))
    (za4 (zc1 (zG4 (zl2 (zG7 hu2) (zb8 (zI0 hu2 hgd) (fun _ _=>zc6) rfl M.z_repr zy2 (za0 (za8 (ps:=["ground", "thing"]) ih.h2 hr rfl M.m2 M.F2.kp M.b2 (za0 (jsv 0) (za0 (jsv 1) za1)) rfl) za1)) (zb8 (zI0 hu2 hgd) (fun _ _=>zc6) rfl M.z_repr zy2 (za0 (jsv 3) za1)) (ze4 _) fun _ _=>zd4) (zy4 (zl2 (zG7 hu2) (zb8 (zI0 hu2 hgd) (fun _ _=>zc6) rfl M.z_repr zy2 (za0 (za9 (za0 (jsv 0) (za0 (jsv 1) za1))) za1)) (jsv 2) (ze4 _) fun _ _=>zd4))))
    za7))))
theorem xg3 (M:Md K mg f fd) (ih:Ih P w K mg base f fd W d) (hr:zp3 d (A.deeper (envOfC "law" (za5 zv0) s.heap.objs.size (f 19) cdv))) :
    JSs (zx8 CX0 P w K mg base ["_law_script", "_law_k", "_law_well_here", "_law_ground_here", "_law_some", "_law_thing", "_law_j", "_law_word", "_law_at", "_law_other", "_law_bent_here", "_law_one"] "law" (za5 zv0) (f 19) cdv A outer s H E).nox (zi1 prog W d) W (zb0 zv0) yo9 :=
  have hu1:=zo0 hr
  have hu2:=zn8 hr
  have hgd:=hr.gd
  (za4 (zr7 PassesOwn.never rfl (zk2 rfl M.z_range za2) (ze2 (i:=1) zm5.nd rfl (by trivial))
     (za4 (zb4 (i:=2) zm5.nd rfl (by trivial) (za8 (ps:=["_law_script", "_law_k"]) ih.h5 hr rfl M.m5 M.F5.kp M.b5 (za0 (jsv 0) (za0 (jsv 1) za1)) rfl))
     (za4 (zb4 (i:=3) zm5.nd rfl (by trivial) (za8 (ps:=["_law_well_here"]) ih.h14 hr rfl M.m14 M.F14.kp M.b14 (za0 (jsv 2) za1) rfl))
     (za4 (zb4 (i:=4) zm5.nd rfl (by trivial) (za8 (ps:=["_law_ground_here"]) ih.h15 hr rfl M.m15 M.F15.kp M.b15 (za0 (jsv 3) za1) rfl))
     (za4 (zr7 PassesOwn.never rfl (zi5 (zc2 (jsv 4) ze1 (zc4 za2))) (ze2 (i:=5) zm5.nd rfl (by trivial))
      (za4 (zg8 (zQ8 (zF8 (zd6 zU6 (za8 (ps:=["ground", "thing"]) ih.h1 hr rfl M.m1 M.F1.kp M.b1 (za0 (jsv 3) (za0 (jsv 5) za1)) rfl) zm3 (ze4 _) fun _ _=>zd4) (zL9 (zd6 zU6 (za8 (ps:=["ground", "thing"]) ih.h2 hr rfl M.m2 M.F2.kp M.b2 (za0 (jsv 3) (za0 (jsv 5) za1)) rfl) zm3 (ze4 _) fun _ _=>zd4))))
       (za4 (zc1 zm3)
       za7)
       za7)
      za7))
     (za4 (zr7 PassesOwn.never rfl (zk2 rfl M.z_range za2) (ze2 (i:=6) zm5.nd rfl (by trivial))
      (za4 (zb4 (i:=5) zm5.nd rfl (by trivial) (za8 (ps:=["_law_well_here", "_law_ground_here"]) ih.h16 hr rfl M.m16 M.F16.kp M.b16 (za0 (jsv 2) (za0 (jsv 3) za1)) rfl))
      (za4 (zb4 (i:=7) zm5.nd rfl (by trivial) (zd0 hu1 (zi7 (za0 (zb3 (cs:=[71])) (za0 (zb3 (cs:=[90])) (za0 (zb3 (cs:=[65,66])) (za0 (zb3 (cs:=[])) (za0 (zb3 (cs:=[97])) (za0 (zb3 (cs:=[122,122])) (za0 (zd0 hu1 (zd0 hu1 (jsv 3) za2 (fun _ _=>rfl)) za2 (fun _ _=>rfl)) (za0 (zb3 (cs:=[67])) (za0 (zb3 (cs:=[69])) za1)))))))))) (za8 (ps:=["_law_well_here", "_law_many"]) ih.h6 hr rfl M.m6 M.F6.kp M.b6 (za0 (jsv 2) (za0 za2 za1)) rfl) (fun _ _=>rfl)))
      (za4 (zb4 (i:=8) zm5.nd rfl (by trivial) (za8 (ps:=["_law_well_here", "_law_many"]) ih.h6 hr rfl M.m6 M.F6.kp M.b6 (za0 (jsv 2) (za0 (zb8 zs9 (fun _ _=>zc6) rfl M.z_len zk4 (za0 (jsv 5) za1)) za1)) rfl))
      (za4 (zb4 (i:=9) zm5.nd rfl (by trivial) (zb2 zg0 (zb2 zg0 (zc2 (jsv 5) ze1 (zc4 (jsv 8))) (za9 (za0 (jsv 7) za1)) fun _ _=>zb1) (zc2 (jsv 5) (zc4 (zb2 zg0 (jsv 8) za2 fun _ _=>zb1)) ze1) fun _ _=>zb1))
      (za4 (zb4 (i:=10) zm5.nd rfl (by trivial) (za8 (ps:=["_law_well_here", "_law_part", "_law_deep"]) ih.h13 hr rfl M.m13 M.F13.kp M.b13 (za0 (jsv 2) (za0 (zd0 hu1 (jsv 4) (za8 (ps:=["_law_well_here", "_law_many"]) ih.h6 hr rfl M.m6 M.F6.kp M.b6 (za0 (jsv 2) (za0 (zb8 zs9 (fun _ _=>zc6) rfl M.z_len zk4 (za0 (jsv 4) za1)) za1)) rfl) (fun _ _=>rfl)) (za0 za2 za1))) rfl))
      (za4 (zr7 PassesOwn.never rfl (zi5 (za9 (za0 (jsv 5) (za0 (jsv 9) (za0 (jsv 10) (za0 (zb2 zg0 (jsv 5) (za9 (za0 (jsv 7) za1)) fun _ _=>zb1) (za0 (zc2 (jsv 5) ze1 (zc4 (zJ7 za2))) (za0 (ze0 ya3 (fun _ _=>zc6) rfl M.z_list zK7 (za0 (jsv 5) za1)) (za0 (zd0 hu1 (jsv 5) za2 (fun _ _=>rfl)) (za0 (za9 (za0 (jsv 5) za1)) za1)))))))))) (ze2 (i:=11) zm5.nd rfl (by trivial))
       (za4 (zg8 (zu6 (zn0 (za8 (ps:=["_law_ground_here", "_law_thing"]) ih.h18 hr rfl M.m18 M.F18.kp M.b18 (za0 (jsv 3) (za0 (jsv 11) za1)) rfl)))
        (za4 (zc1 zm3)
        za7)
        za7)
       za7))
      za7)))))))
     (za4 (zr7 PassesOwn.never rfl (zi5 (za9 (za0 zG2 (za0 zm3 (za0 za2 (za0 (zb3 (cs:=[])) (za0 (za9 za1) (za0 (zi7 za1) (za0 (za9 (za0 zG2 za1)) (za0 (za9 (za0 za2 (za0 za2 za1))) (za0 (za9 (za0 (za9 za1) za1)) za1))))))))))) (ze2 (i:=5) zm5.nd rfl (by trivial))
      (za4 (zg8 (zu6 (zn0 (za8 (ps:=["_law_ground_here", "_law_thing"]) ih.h18 hr rfl M.m18 M.F18.kp M.b18 (za0 (jsv 3) (za0 (jsv 5) za1)) rfl)))
       (za4 (zc1 zm3)
       za7)
       za7)
      za7))
     za7)))))))
    (za4 (zc1 zm3)
    za7))
end
open PySem L2 OR PySem.SeqAt PyProof.Rows
section
variable {P:Program} {w:World} {K:Frag} {mg:Str→Option Value} {base:Heap} {f:Nat→Addr} {fd:Nat→FuncData}
theorem all (M:Md K mg f fd) (W:Nat):∀ d:Nat,Ih P w K mg base f fd W d
 | 0=>⟨zg9,zg9,zg9,zg9,zg9,zg9,zg9,zg9,zg9,zg9,zg9,zg9,zg9,zg9,zg9,zg9,zg9,zg9,zg9,zg9⟩
 | d+1=>by
  have ih:=all M W d
  exact ⟨ze5 (ib:=zE1) M.F0 yc0 rfl fun cdv A outer s H E hr=>yp7 M ih hr,
   ze5 (ib:=zz1) M.F1 zV1 rfl fun cdv A outer s H E hr=>ye8 M ih hr,
   ze5 (ib:=zu2) M.F2 zO1 rfl fun cdv A outer s H E hr=>zU8 M ih hr,
   ze5 (ib:=zt5) M.F3 zz9 rfl fun cdv A outer s H E hr=>zS6 M ih hr,
   ze5 (ib:=zo8) M.F4 zt3 rfl fun cdv A outer s H E hr=>zL7 M ih hr,
   ze5 (ib:=zs6) M.F5 zu8 rfl fun cdv A outer s H E hr=>ye5 M ih hr,
   ze5 (ib:=zs0) M.F6 zl4 rfl fun cdv A outer s H E hr=>yc8 M ih hr,
   ze5 (ib:=zi8) M.F7 zc8 rfl fun cdv A outer s H E hr=>zT3 M ih hr,
   ze5 (ib:=zD4) M.F8 zi0 rfl fun cdv A outer s H E hr=>yo8 M ih hr,
   ze5 (ib:=zy6) M.F9 zF0 rfl fun cdv A outer s H E hr=>yd9 M ih hr,
   ze5 (ib:=zy5) M.F10 zV2 rfl fun cdv A outer s H E hr=>ye0 M ih hr,
   ze5 (ib:=zu1) M.F11 zm9 rfl fun cdv A outer s H E hr=>zT7 M ih hr,
   ze5 (ib:=zE3) M.F12 zk9 rfl fun cdv A outer s H E hr=>yh6 M ih hr,
   ze5 (ib:=zs1) M.F13 zE9 rfl fun cdv A outer s H E hr=>yc9 M ih hr,
   ze5 (ib:=zr5) M.F14 zk6 rfl fun cdv A outer s H E hr=>zP5 M ih hr,
   ze5 (ib:=zq2) M.F15 ze9 rfl fun cdv A outer s H E hr=>zO6 M ih hr,
   ze5 (ib:=zr1) M.F16 zp1 rfl fun cdv A outer s H E hr=>zR9 M ih hr,
   ze5 (ib:=zn4) M.F17 zl6 rfl fun cdv A outer s H E hr=>zH1 M ih hr,
   ze5 (ib:=zu7) M.F18 zq8 rfl fun cdv A outer s H E hr=>zU7 M ih hr,
   ze5 (ib:=yo9) M.F19 zm5 rfl fun cdv A outer s H E hr=>xg3 M ih hr⟩
end
theorem all_mk {l:PySem.W.OpenLaw} {w:World} {K:Frag} {h:Heap} {mg:Str→Option Value} {fa f0 f1 f2 f3 f4 f5 f6 f7 f8 f9 f10 f11 f12 f13 f14 f15 f16 f17 f18 f19:Addr} (X:K.In h) (G:h.Ns mainGlobals mg) (hfa:mg "law" = some (.ref fa)) (D:Nat)
    {od0 an0 od1 an1 od2 an2 od3 an3 od4 an4 od5 an5 od6 an6 od7 an7 od8 an8 od9 an9 od10 an10 od11 an11 od12 an12 od13 an13 od14 an14 od15 an15 od16 an16 od17 an17 od18 an18 od19 an19:Option Addr} {sl0 sl1 sl2 sl3 sl4 sl5 sl6 sl7 sl8 sl9 sl10 sl11 sl12 sl13 sl14 sl15 sl16 sl17 sl18 sl19:Array (Option Value)} {oc0 kV0 dc0 pm0 cd0 ct0 oc1 kV1 dc1 pm1 cd1 ct1 oc2 kV2 dc2 pm2 cd2 ct2 oc3 kV3 dc3 pm3 cd3 ct3 oc4 kV4 dc4 pm4 cd4 ct4 oc5 kV5 dc5 pm5 cd5 ct5 oc6 kV6 dc6 pm6 cd6 ct6 oc7 kV7 dc7 pm7 cd7 ct7 oc8 kV8 dc8 pm8 cd8 ct8 oc9 kV9 dc9 pm9 cd9 ct9 oc10 kV10 dc10 pm10 cd10 ct10 oc11 kV11 dc11 pm11 cd11 ct11 oc12 kV12 dc12 pm12 cd12 ct12 oc13 kV13 dc13 pm13 cd13 ct13 oc14 kV14 dc14 pm14 cd14 ct14 oc15 kV15 dc15 pm15 cd15 ct15 oc16 kV16 dc16 pm16 cd16 ct16 oc17 kV17 dc17 pm17 cd17 ct17 oc18 kV18 dc18 pm18 cd18 ct18 oc19 kV19 dc19 pm19 cd19 ct19:Value}
    (a0:nsIn K mainGlobals "is_mark" = some (some (.ref f0))) (l0:K.lookup f0=some ⟨oc0,od0,.func (fnOf "is_mark" "is_mark" (zb5 zf7) (zb0 zf7) (za5 zf7) .none kV0 dc0 pm0 an0 cd0 ct0),sl0⟩) (c0:codeIn K cd0 "is_mark" = true) (k0:keepIn K (.ref f0)=true)
    (a1:nsIn K mainGlobals "is_thing" = some (some (.ref f1))) (l1:K.lookup f1=some ⟨oc1,od1,.func (fnOf "is_thing" "is_thing" (zb5 zf3) (zb0 zf3) (za5 zf3) .none kV1 dc1 pm1 an1 cd1 ct1),sl1⟩) (c1:codeIn K cd1 "is_thing" = true) (k1:keepIn K (.ref f1)=true)
    (a2:nsIn K mainGlobals "is_spoken" = some (some (.ref f2))) (l2:K.lookup f2=some ⟨oc2,od2,.func (fnOf "is_spoken" "is_spoken" (zb5 zd9) (zb0 zd9) (za5 zd9) .none kV2 dc2 pm2 an2 cd2 ct2),sl2⟩) (c2:codeIn K cd2 "is_spoken" = true) (k2:keepIn K (.ref f2)=true)
    (a3:nsIn K mainGlobals "has_words" = some (some (.ref f3))) (l3:K.lookup f3=some ⟨oc3,od3,.func (fnOf "has_words" "has_words" (zb5 ze7) (zb0 ze7) (za5 ze7) .none kV3 dc3 pm3 an3 cd3 ct3),sl3⟩) (c3:codeIn K cd3 "has_words" = true) (k3:keepIn K (.ref f3)=true)
    (a4:nsIn K mainGlobals "head_called" = some (some (.ref f4))) (l4:K.lookup f4=some ⟨oc4,od4,.func (fnOf "head_called" "head_called" (zb5 zc7) (zb0 zc7) (za5 zc7) .none kV4 dc4 pm4 an4 cd4 ct4),sl4⟩) (c4:codeIn K cd4 "head_called" = true) (k4:keepIn K (.ref f4)=true)
    (a5:nsIn K mainGlobals "_law_well" = some (some (.ref f5))) (l5:K.lookup f5=some ⟨oc5,od5,.func (fnOf "_law_well" "_law_well" (zb5 zg2) (zb0 zg2) (za5 zg2) .none kV5 dc5 pm5 an5 cd5 ct5),sl5⟩) (c5:codeIn K cd5 "_law_well" = true) (k5:keepIn K (.ref f5)=true)
    (a6:nsIn K mainGlobals "_law_draw" = some (some (.ref f6))) (l6:K.lookup f6=some ⟨oc6,od6,.func (fnOf "_law_draw" "_law_draw" (zb5 zg1) (zb0 zg1) (za5 zg1) .none kV6 dc6 pm6 an6 cd6 ct6),sl6⟩) (c6:codeIn K cd6 "_law_draw" = true) (k6:keepIn K (.ref f6)=true)
    (a7:nsIn K mainGlobals "_law_names" = some (some (.ref f7))) (l7:K.lookup f7=some ⟨oc7,od7,.func (fnOf "_law_names" "_law_names" (zb5 zd3) (zb0 zd3) (za5 zd3) .none kV7 dc7 pm7 an7 cd7 ct7),sl7⟩) (c7:codeIn K cd7 "_law_names" = true) (k7:keepIn K (.ref f7)=true)
    (a8:nsIn K mainGlobals "_law_web" = some (some (.ref f8))) (l8:K.lookup f8=some ⟨oc8,od8,.func (fnOf "_law_web" "_law_web" (zb5 zg5) (zb0 zg5) (za5 zg5) .none kV8 dc8 pm8 an8 cd8 ct8),sl8⟩) (c8:codeIn K cd8 "_law_web" = true) (k8:keepIn K (.ref f8)=true)
    (a9:nsIn K mainGlobals "_law_flat" = some (some (.ref f9))) (l9:K.lookup f9=some ⟨oc9,od9,.func (fnOf "_law_flat" "_law_flat" (zb5 zg4) (zb0 zg4) (za5 zg4) .none kV9 dc9 pm9 an9 cd9 ct9),sl9⟩) (c9:codeIn K cd9 "_law_flat" = true) (k9:keepIn K (.ref f9)=true)
    (a10:nsIn K mainGlobals "_law_nest" = some (some (.ref f10))) (l10:K.lookup f10=some ⟨oc10,od10,.func (fnOf "_law_nest" "_law_nest" (zb5 zf5) (zb0 zf5) (za5 zf5) .none kV10 dc10 pm10 an10 cd10 ct10),sl10⟩) (c10:codeIn K cd10 "_law_nest" = true) (k10:keepIn K (.ref f10)=true)
    (a11:nsIn K mainGlobals "_law_order" = some (some (.ref f11))) (l11:K.lookup f11=some ⟨oc11,od11,.func (fnOf "_law_order" "_law_order" (zb5 zd2) (zb0 zd2) (za5 zd2) .none kV11 dc11 pm11 an11 cd11 ct11),sl11⟩) (c11:codeIn K cd11 "_law_order" = true) (k11:keepIn K (.ref f11)=true)
    (a12:nsIn K mainGlobals "_law_odd" = some (some (.ref f12))) (l12:K.lookup f12=some ⟨oc12,od12,.func (fnOf "_law_odd" "_law_odd" (zb5 zh3) (zb0 zh3) (za5 zh3) .none kV12 dc12 pm12 an12 cd12 ct12),sl12⟩) (c12:codeIn K cd12 "_law_odd" = true) (k12:keepIn K (.ref f12)=true)
    (a13:nsIn K mainGlobals "_law_bent" = some (some (.ref f13))) (l13:K.lookup f13=some ⟨oc13,od13,.func (fnOf "_law_bent" "_law_bent" (zb5 zg3) (zb0 zg3) (za5 zg3) .none kV13 dc13 pm13 an13 cd13 ct13),sl13⟩) (c13:codeIn K cd13 "_law_bent" = true) (k13:keepIn K (.ref f13)=true)
    (a14:nsIn K mainGlobals "_law_ground" = some (some (.ref f14))) (l14:K.lookup f14=some ⟨oc14,od14,.func (fnOf "_law_ground" "_law_ground" (zb5 zc9) (zb0 zc9) (za5 zc9) .none kV14 dc14 pm14 an14 cd14 ct14),sl14⟩) (c14:codeIn K cd14 "_law_ground" = true) (k14:keepIn K (.ref f14)=true)
    (a15:nsIn K mainGlobals "_law_things" = some (some (.ref f15))) (l15:K.lookup f15=some ⟨oc15,od15,.func (fnOf "_law_things" "_law_things" (zb5 zc5) (zb0 zc5) (za5 zc5) .none kV15 dc15 pm15 an15 cd15 ct15),sl15⟩) (c15:codeIn K cd15 "_law_things" = true) (k15:keepIn K (.ref f15)=true)
    (a16:nsIn K mainGlobals "_law_spoken" = some (some (.ref f16))) (l16:K.lookup f16=some ⟨oc16,od16,.func (fnOf "_law_spoken" "_law_spoken" (zb5 zd1) (zb0 zd1) (za5 zd1) .none kV16 dc16 pm16 an16 cd16 ct16),sl16⟩) (c16:codeIn K cd16 "_law_spoken" = true) (k16:keepIn K (.ref f16)=true)
    (a17:nsIn K mainGlobals "_law_is_thing" = some (some (.ref f17))) (l17:K.lookup f17=some ⟨oc17,od17,.func (fnOf "_law_is_thing" "_law_is_thing" (zb5 zb9) (zb0 zb9) (za5 zb9) .none kV17 dc17 pm17 an17 cd17 ct17),sl17⟩) (c17:codeIn K cd17 "_law_is_thing" = true) (k17:keepIn K (.ref f17)=true)
    (a18:nsIn K mainGlobals "_law_right" = some (some (.ref f18))) (l18:K.lookup f18=some ⟨oc18,od18,.func (fnOf "_law_right" "_law_right" (zb5 ze8) (zb0 ze8) (za5 ze8) .none kV18 dc18 pm18 an18 cd18 ct18),sl18⟩) (c18:codeIn K cd18 "_law_right" = true) (k18:keepIn K (.ref f18)=true)
    (a19:nsIn K mainGlobals "law" = some (some (.ref f19))) (l19:K.lookup f19=some ⟨oc19,od19,.func (fnOf "law" "law" (zb5 zv0) (zb0 zv0) (za5 zv0) .none kV19 dc19 pm19 an19 cd19 ct19),sl19⟩) (c19:codeIn K cd19 "law" = true) (k19:keepIn K (.ref f19)=true)
    (z_all:nsIn K mainGlobals "all" = some none)
    (z_bool:nsIn K mainGlobals "bool" = some none)
    (z_int:nsIn K mainGlobals "int" = some none)
    (z_isinstance:nsIn K mainGlobals "isinstance" = some none)
    (z_len:nsIn K mainGlobals "len" = some none)
    (z_list:nsIn K mainGlobals "list" = some none)
    (z_max:nsIn K mainGlobals "max" = some none)
    (z_range:nsIn K mainGlobals "range" = some none)
    (z_repr:nsIn K mainGlobals "repr" = some none)
    (z_sorted:nsIn K mainGlobals "sorted" = some none)
    (z_str:nsIn K mainGlobals "str" = some none)
    (z_tuple:nsIn K mainGlobals "tuple" = some none)
    {p_MARKS:Addr} {t0_MARKS t1_MARKS t2_MARKS t3_MARKS t4_MARKS t5_MARKS:Tok} {o_MARKS:Value} {e_MARKS:Array Value} {n_MARKS:Nat} {s_MARKS:Array (Option Value)}
    (g_MARKS:nsIn K mainGlobals "MARKS" = some (some (.ref p_MARKS))) (h_MARKS:K.lookup p_MARKS=some ⟨o_MARKS,none,.seq e_MARKS n_MARKS,s_MARKS⟩) (j_MARKS:o_MARKS=.type "tuple") (i_MARKS:e_MARKS.toList=zr9 [[65],[66],[67],[68],[69],[70]] [t0_MARKS,t1_MARKS,t2_MARKS,t3_MARKS,t4_MARKS,t5_MARKS])
    : ∃ fd:FuncData,(∀ (s:Shared) (v:Value),BindsTo s fd ⟨[v],[]⟩ [("_law_script", v)])∧∀ base:Heap,K.In base→base.Ns mainGlobals mg→zs8 l.prog w K mg base CX0 D fa fd ["_law_script"] (spF K prog 1000 D 19 1):=by
  have X0:=X
  have e:=hfa.symm.trans (mg_of X G a19)
  cases e
  refine ⟨fnOf "law" "law" (zb5 zv0) (zb0 zv0) (za5 zv0) .none kV19 dc19 pm19 an19 cd19 ct19,fun s v=>.of_eq rfl,fun base _ _=>?_⟩
  have F0:=zi9 (st:=zf7) l0 c0 k0
  have b0:=F0.binds (ps:=["thing"]) fun _ _ _ _ _ _ us hl=>yx9 (fun _=>rfl) us hl
  have F1:=zi9 (st:=zf3) l1 c1 k1
  have b1:=F1.binds (ps:=["ground", "thing"]) fun _ _ _ _ _ _ us hl=>yq7 (fun _ _=>rfl) us hl
  have F2:=zi9 (st:=zd9) l2 c2 k2
  have b2:=F2.binds (ps:=["ground", "thing"]) fun _ _ _ _ _ _ us hl=>yq7 (fun _ _=>rfl) us hl
  have F3:=zi9 (st:=ze7) l3 c3 k3
  have b3:=F3.binds (ps:=["ground", "thing"]) fun _ _ _ _ _ _ us hl=>yq7 (fun _ _=>rfl) us hl
  have F4:=zi9 (st:=zc7) l4 c4 k4
  have b4:=F4.binds (ps:=["ground", "word"]) fun _ _ _ _ _ _ us hl=>yq7 (fun _ _=>rfl) us hl
  have F5:=zi9 (st:=zg2) l5 c5 k5
  have b5:=F5.binds (ps:=["_law_script", "_law_k"]) fun _ _ _ _ _ _ us hl=>yq7 (fun _ _=>rfl) us hl
  have F6:=zi9 (st:=zg1) l6 c6 k6
  have b6:=F6.binds (ps:=["_law_well_here", "_law_many"]) fun _ _ _ _ _ _ us hl=>yq7 (fun _ _=>rfl) us hl
  have F7:=zi9 (st:=zd3) l7 c7 k7
  have b7:=F7.binds (ps:=["_law_well_here", "_law_many"]) fun _ _ _ _ _ _ us hl=>yq7 (fun _ _=>rfl) us hl
  have F8:=zi9 (st:=zg5) l8 c8 k8
  have b8:=F8.binds (ps:=["_law_well_here"]) fun _ _ _ _ _ _ us hl=>yx9 (fun _=>rfl) us hl
  have F9:=zi9 (st:=zg4) l9 c9 k9
  have b9:=F9.binds (ps:=["_law_well_here"]) fun _ _ _ _ _ _ us hl=>yx9 (fun _=>rfl) us hl
  have F10:=zi9 (st:=zf5) l10 c10 k10
  have b10:=F10.binds (ps:=["_law_well_here"]) fun _ _ _ _ _ _ us hl=>yx9 (fun _=>rfl) us hl
  have F11:=zi9 (st:=zd2) l11 c11 k11
  have b11:=F11.binds (ps:=["_law_well_here"]) fun _ _ _ _ _ _ us hl=>yx9 (fun _=>rfl) us hl
  have F12:=zi9 (st:=zh3) l12 c12 k12
  have b12:=F12.binds (ps:=["_law_well_here", "_law_part"]) fun _ _ _ _ _ _ us hl=>yq7 (fun _ _=>rfl) us hl
  have F13:=zi9 (st:=zg3) l13 c13 k13
  have b13:=F13.binds (ps:=["_law_well_here", "_law_part", "_law_deep"]) fun _ _ _ _ _ _ us hl=>len3 (fun _ _ _=>rfl) us hl
  have F14:=zi9 (st:=zc9) l14 c14 k14
  have b14:=F14.binds (ps:=["_law_well_here"]) fun _ _ _ _ _ _ us hl=>yx9 (fun _=>rfl) us hl
  have F15:=zi9 (st:=zc5) l15 c15 k15
  have b15:=F15.binds (ps:=["_law_ground_here"]) fun _ _ _ _ _ _ us hl=>yx9 (fun _=>rfl) us hl
  have F16:=zi9 (st:=zd1) l16 c16 k16
  have b16:=F16.binds (ps:=["_law_well_here", "_law_ground_here"]) fun _ _ _ _ _ _ us hl=>yq7 (fun _ _=>rfl) us hl
  have F17:=zi9 (st:=zb9) l17 c17 k17
  have b17:=F17.binds (ps:=["_law_ground_here", "_law_thing", "_law_marks"]) fun _ _ _ _ _ _ us hl=>len3 (fun _ _ _=>rfl) us hl
  have F18:=zi9 (st:=ze8) l18 c18 k18
  have b18:=F18.binds (ps:=["_law_ground_here", "_law_thing"]) fun _ _ _ _ _ _ us hl=>yq7 (fun _ _=>rfl) us hl
  have F19:=zi9 (st:=zv0) l19 c19 k19
  have b19:=F19.binds (ps:=["_law_script"]) fun _ _ _ _ _ _ us hl=>yx9 (fun _=>rfl) us hl
  have M:Md K mg (fun i=>[f0,f1,f2,f3,f4,f5,f6,f7,f8,f9,f10,f11,f12,f13,f14,f15,f16,f17,f18,fa].getD i f0) (fun i=>[fnOf "is_mark" "is_mark" (zb5 zf7) (zb0 zf7) (za5 zf7) .none kV0 dc0 pm0 an0 cd0 ct0,fnOf "is_thing" "is_thing" (zb5 zf3) (zb0 zf3) (za5 zf3) .none kV1 dc1 pm1 an1 cd1 ct1,fnOf "is_spoken" "is_spoken" (zb5 zd9) (zb0 zd9) (za5 zd9) .none kV2 dc2 pm2 an2 cd2 ct2,fnOf "has_words" "has_words" (zb5 ze7) (zb0 ze7) (za5 ze7) .none kV3 dc3 pm3 an3 cd3 ct3,fnOf "head_called" "head_called" (zb5 zc7) (zb0 zc7) (za5 zc7) .none kV4 dc4 pm4 an4 cd4 ct4,fnOf "_law_well" "_law_well" (zb5 zg2) (zb0 zg2) (za5 zg2) .none kV5 dc5 pm5 an5 cd5 ct5,fnOf "_law_draw" "_law_draw" (zb5 zg1) (zb0 zg1) (za5 zg1) .none kV6 dc6 pm6 an6 cd6 ct6,fnOf "_law_names" "_law_names" (zb5 zd3) (zb0 zd3) (za5 zd3) .none kV7 dc7 pm7 an7 cd7 ct7,fnOf "_law_web" "_law_web" (zb5 zg5) (zb0 zg5) (za5 zg5) .none kV8 dc8 pm8 an8 cd8 ct8,fnOf "_law_flat" "_law_flat" (zb5 zg4) (zb0 zg4) (za5 zg4) .none kV9 dc9 pm9 an9 cd9 ct9,fnOf "_law_nest" "_law_nest" (zb5 zf5) (zb0 zf5) (za5 zf5) .none kV10 dc10 pm10 an10 cd10 ct10,fnOf "_law_order" "_law_order" (zb5 zd2) (zb0 zd2) (za5 zd2) .none kV11 dc11 pm11 an11 cd11 ct11,fnOf "_law_odd" "_law_odd" (zb5 zh3) (zb0 zh3) (za5 zh3) .none kV12 dc12 pm12 an12 cd12 ct12,fnOf "_law_bent" "_law_bent" (zb5 zg3) (zb0 zg3) (za5 zg3) .none kV13 dc13 pm13 an13 cd13 ct13,fnOf "_law_ground" "_law_ground" (zb5 zc9) (zb0 zc9) (za5 zc9) .none kV14 dc14 pm14 an14 cd14 ct14,fnOf "_law_things" "_law_things" (zb5 zc5) (zb0 zc5) (za5 zc5) .none kV15 dc15 pm15 an15 cd15 ct15,fnOf "_law_spoken" "_law_spoken" (zb5 zd1) (zb0 zd1) (za5 zd1) .none kV16 dc16 pm16 an16 cd16 ct16,fnOf "_law_is_thing" "_law_is_thing" (zb5 zb9) (zb0 zb9) (za5 zb9) .none kV17 dc17 pm17 an17 cd17 ct17,fnOf "_law_right" "_law_right" (zb5 ze8) (zb0 ze8) (za5 ze8) .none kV18 dc18 pm18 an18 cd18 ct18,fnOf "law" "law" (zb5 zv0) (zb0 zv0) (za5 zv0) .none kV19 dc19 pm19 an19 cd19 ct19].getD i (fnOf "is_mark" "is_mark" (zb5 zf7) (zb0 zf7) (za5 zf7) .none kV0 dc0 pm0 an0 cd0 ct0)) :=
    ⟨mg_of X G a0,F0,b0,mg_of X G a1,F1,b1,mg_of X G a2,F2,b2,mg_of X G a3,F3,b3,mg_of X G a4,F4,b4,mg_of X G a5,F5,b5,mg_of X G a6,F6,b6,mg_of X G a7,F7,b7,mg_of X G a8,F8,b8,mg_of X G a9,F9,b9,mg_of X G a10,F10,b10,mg_of X G a11,F11,b11,mg_of X G a12,F12,b12,mg_of X G a13,F13,b13,mg_of X G a14,F14,b14,mg_of X G a15,F15,b15,mg_of X G a16,F16,b16,mg_of X G a17,F17,b17,mg_of X G a18,F18,b18,mg_of X G a19,F19,b19,
     mg_none_of X G z_all,mg_none_of X G z_bool,mg_none_of X G z_int,mg_none_of X G z_isinstance,mg_none_of X G z_len,mg_none_of X G z_list,mg_none_of X G z_max,mg_none_of X G z_range,mg_none_of X G z_repr,mg_none_of X G z_sorted,mg_none_of X G z_str,mg_none_of X G z_tuple,
     fun {X C pos} eK em hg=>by subst eK em;exact ⟨xc7 hg (mg_of X0 G g_MARKS) h_MARKS j_MARKS i_MARKS rfl (by decide) (by decide)⟩⟩
  exact (all (P:=l.prog) (w:=w) (base:=base) M 1000 D).h19
theorem yT1 {K:Frag} {H:Hp} {a:Addr} {ns:List Int} {E:XK} (h63:ns.length≤63) (hS:SqL K H a (ns.map V.int)):spF K prog 1000 8 19 1 [.ref a] H (fun v _=>v=.bl true) E:=by
 obtain ⟨st,e⟩:=yW6 1000 0 ns h63
 exact ⟨rfl,al0,[],_,_,st,yg8,yi8 hS,e,fun w H x r v h=>yB3 h⟩
theorem walk {l:PySem.W.OpenLaw} {q:Program} {loose:List Str} {XP:(Str→Option Value)→Heap→Prop} {YP:World→Heap→Prop} {d:DefRec} {K:Params→Frag} (hn:l.most=some 63) (hdf:d.params.defaults=[]) (hY:∀ (w:World) (h:Heap),YP w h→(K w.params).In h)
  (F:∀ (w:World) (mg:Str→Option Value) (fa:Addr) (h:Heap),(K w.params).In h→h.Ns mainGlobals mg→mg d.name=some (.ref fa) →
   ∃ fd:FuncData,(∀ (s:Shared) (u:Value),BindsTo s fd ⟨[u],[]⟩ [("_law_script", u)])∧∀ base:Heap,(K w.params).In base→base.Ns mainGlobals mg→zs8 l.prog w (K w.params) mg base CX0 8 fa fd ["_law_script"] (spF (K w.params) prog 1000 8 19 1)) :
  PySem.W.WalkO q loose XP YP l.row.toRowW d [] (fun f vs=>PySem.call f vs) :=
 L2.xc6 (n:=63) (k:=8) (x := "_law_script") (CX:=fun _=>CX0) (sp:=fun w=>spF (K w.params) prog 1000 8 19 1) hn (by decide) hdf ⟨rfl,by decide,by decide,rfl⟩ hY F (fun _ _ a ns hl _ hS=>yT1 hl hS) fun _ _ _ _ _ z=>z
end LA
noncomputable def PySem.W.Fast.tw16006435381163362451:=0
noncomputable def PySem.W.Fast.tw10595105879662189781:=0
noncomputable def PySem.W.Fast.tw16805901941953857310:=0
noncomputable def PySem.W.Fast.tw16128130898471040533:=0
noncomputable def PySem.W.Fast.tw13784452185742921444:=0
noncomputable def PySem.W.Fast.tw112745961393845296:=0
noncomputable def PySem.W.Fast.tw1932674166675059809:=0
noncomputable def PySem.W.Fast.tw5026792008614238847:=0
noncomputable def PySem.W.Fast.tw1293429407378749835:=0
noncomputable def PySem.W.Fast.tw7121691336587366348:=0
noncomputable def PySem.W.Fast.tw18084666324298268088:=0
noncomputable def PySem.W.Fast.tw12732680753539346175:=0
noncomputable def PySem.W.Fast.tw8169898746348590558:=0
noncomputable def PySem.W.Fast.tw1632887789298714245:=0
noncomputable def PySem.W.Fast.tw1113753379345716984:=0
noncomputable def PySem.W.Fast.tw4770771238774601683:=0
noncomputable def PySem.W.Fast.tw12086095504700668838:=0
noncomputable def PySem.W.Fast.tw10861431508149969389:=0
noncomputable def PySem.W.Fast.tw8608644093583190503:=0
noncomputable def PySem.W.Fast.tw8798293166458231699:=0
noncomputable def PySem.W.Fast.tw16937796243492389855:=0
noncomputable def PySem.W.Fast.tw692591735473366541:=0
noncomputable def PySem.W.Fast.tw6602088067801094766:=0
noncomputable def PySem.W.Fast.tw18034968964207745735:=0
noncomputable def PySem.W.Fast.tw11519834728323746628:=0
noncomputable def PySem.W.Fast.tw10969752321636757714:=0
noncomputable def PySem.W.Fast.tw17772762233838041335:=0
noncomputable def PySem.W.Fast.tw8997310871709096965:=0
noncomputable def PySem.W.Fast.tw11359225173203119244:=0
noncomputable def PySem.W.Fast.tw17252376442093346092:=0
noncomputable def PySem.W.Fast.tw10312260598356266621:=0
noncomputable def PySem.W.Fast.tw12044885187806681090:=0
noncomputable def PySem.W.Fast.tw12832044954697539446:=0
noncomputable def PySem.W.Fast.tw14035821410947528969:=0
noncomputable def PySem.W.Fast.tw18068189890756201946:=0
noncomputable def PySem.W.Fast.tw15812894225102124022:=0
noncomputable def PySem.W.Fast.tw6213961624142754721:=0
noncomputable def PySem.W.Fast.tw10083256446464339203:=0
noncomputable def PySem.W.Fast.tw2857183533637474474:=0
noncomputable def PySem.W.Fast.tw3421720764603462367:=0
noncomputable def PySem.W.Fast.tw4357194636799055171:=0
noncomputable def PySem.W.Fast.tw6553574264271137348:=0
noncomputable def PySem.W.Fast.tw7548597068917635977:=0
noncomputable def PySem.W.Fast.tw12741203550195545928:=0
noncomputable def PySem.W.Fast.tw9708372679423527270:=0
noncomputable def PySem.W.Fast.tw14659978250230436048:=0
noncomputable def PySem.W.Fast.tw16629197741486843140:=0
noncomputable def PySem.W.Fast.tw1023188063793128147:=0
noncomputable def PySem.W.Fast.tw9660810433695751812:=0
noncomputable def PySem.W.Fast.tw9942506308769303297:=0
noncomputable def PySem.W.Fast.tw16893762183050569662:=0
noncomputable def PySem.W.Fast.tw17478845003730887053:=0
noncomputable def PySem.W.Fast.tw9581157641857999389:=0
noncomputable def PySem.W.Fast.tw9017366720849411216:PySem.Program:=PySem.Challenge.pw_onlyrise_k09_things_spoken_or_not
theorem PySem.W.Fast.te9017366720849411216:PySem.Challenge.pw_onlyrise_k09_things_spoken_or_not=PySem.W.Fast.tw9017366720849411216:=rfl
open PySem PySem.W PyProof.Rows
theorem OR.walkX_of {q:Program} {l:List Str} {XP:(Str→Option Value)→Heap→Prop} {r:RowW} {d:DefRec} {kwd:List (Str×Expr)} {run:Value→List Value→Sem Value} {K:Params→Frag} {as:List Addr} {n t:Nat} (e:∀ P,as=(K P).map (·.1)) (h:WalkO q l XP (fun w hp=>(K w.params).In hp) r d kwd run):WalkX q l XP (X.obsZ as) (X.valZ K n t) r d kwd run :=
 fun w _ _ _ _ G y _ _ _ _ _ _ _ a b c f g h1 _ _ _ L=>h w _ _ _ _ G (InK.keeps w _ _ (X.z_facts e y).2.1 L.keeps) _ _ _ _ _ _ _ a b c f g h1 _ _ _
set_option maxRecDepth 100000 in
set_option maxHeartbeats 0 in
theorem PySem.Challenge.cw_onlyrise_k09_things_spoken_or_not_holds : PySem.Challenge.rw_onlyrise_k09_things_spoken_or_not.Holds := by
 w_on;o_law;z_head;(case hw=>w_witness2)
 k_fill
 refine OR.walkX_of (fun _=>by kernel_rfl) (LA.walk (l:=PySem.Challenge.rw_onlyrise_k09_things_spoken_or_not) rfl rfl (fun w h Y=>Y) ?F)
 case F =>
  intro w mg fa h KX G hmg
  refine' LA.all_mk KX G hmg 8 ?_ ?_ ?_ ?_ ?_ ?_ ?_ ?_ ?_ ?_ ?_ ?_ ?_ ?_ ?_ ?_ ?_ ?_ ?_ ?_ ?_ ?_ ?_ ?_ ?_ ?_ ?_ ?_ ?_ ?_ ?_ ?_ ?_ ?_ ?_ ?_ ?_ ?_ ?_ ?_ ?_ ?_ ?_ ?_ ?_ ?_ ?_ ?_ ?_ ?_ ?_ ?_ ?_ ?_ ?_ ?_ ?_ ?_ ?_ ?_ ?_ ?_ ?_ ?_ ?_ ?_ ?_ ?_ ?_ ?_ ?_ ?_ ?_ ?_ ?_ ?_ ?_ ?_ ?_ ?_ ?_ ?_ ?_ ?_ ?_ ?_ ?_ ?_ ?_ ?_ ?_ ?_ ?_ ?_ ?j_MARKS ?i_MARKS
  (case j_MARKS=>first | rfl | decide +kernel)
  (case i_MARKS=>first | rfl | decide +kernel)
  all_goals try k_is
