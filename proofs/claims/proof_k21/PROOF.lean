import PyProof.Rows.All
import Wide.All
import OpenK.AllK
import Wide.FinOn
import Lean
import PyProof.EqAt
import PyProof.EqKinds
import PyProof.TupleCall
import PyProof.ZipIter
import PyProof.TupleIter
import PyProof.WalksMore
import PyProof.Draws
import PyProof.EnumFor
import PyProof.EnumMake
import PyProof.AttrMiss
import KE.KDictOf
import PyProof.TupleOfSeq
import PySem.Challenge.RW_onlyrise_k21_cases
set_option bootstrap.genMatcherCode false
set_option genSizeOf false
set_option Elab.async false
set_option linter.all false
set_option maxRecDepth 100000
set_option maxHeartbeats 4000000
open PySem.W (Frag fnOf nsIn keepIn codeIn mg_of mg_none_of)
namespace OR
inductive PV where
 | non
 | bl (b:Bool)
 | int (i:Int)
 | str (cs:List Nat)
 | tup (xs:List PV)
 | lst (xs:List PV)
deriving Inhabited
mutual
noncomputable def PV.beq:PV→PV→Bool
 | .non,.non=>true
 | .bl a,.bl b=>a==b
 | .int a,.int b=>decide (a=b)
 | .str a,.str b=>decide (a=b)
 | .tup a,.tup b=>PV.beqs a b
 | .lst a,.lst b=>PV.beqs a b
 | _,_=>false
noncomputable def PV.beqs:List PV→List PV→Bool
 | [],[]=>true
 | a::r,b::s=>PV.beq a b&&PV.beqs r s
 | _,_=>false
end
mutual
theorem PV.eq_of_beq:∀ {a b:PV},PV.beq a b=true→a=b
 | .non,b,h=>by cases b <;> simp [PV.beq] at h <;> rfl
 | .bl a,b,h=>by cases b <;> simp [PV.beq] at h <;> rw [h]
 | .int a,b,h=>by cases b <;> simp [PV.beq] at h <;> rw [h]
 | .str a,b,h=>by cases b <;> simp [PV.beq] at h <;> rw [h]
 | .tup a,b,h=>by
  cases b <;> simp only [PV.beq,Bool.false_eq_true] at h
  rw [PV.eqs_of_beqs h]
 | .lst a,b,h=>by
  cases b <;> simp only [PV.beq,Bool.false_eq_true] at h
  rw [PV.eqs_of_beqs h]
theorem PV.eqs_of_beqs:∀ {a b:List PV},PV.beqs a b=true→a=b
 | [],b,h=>by cases b <;> simp [PV.beqs] at h <;> rfl
 | x::r,b,h=>by
  cases b with
  | nil=>simp [PV.beqs] at h
  | cons y s =>
   simp only [PV.beqs,Bool.and_eq_true] at h
   rw [PV.eq_of_beq h.1,PV.eqs_of_beqs h.2]
end
mutual
theorem PV.beq_self:∀ (a:PV),PV.beq a a=true
 | .non=>rfl
 | .bl _=>by simp [PV.beq]
 | .int _=>by simp [PV.beq]
 | .str _=>by simp [PV.beq]
 | .tup a=>by rw [PV.beq];exact PV.beqs_self a
 | .lst a=>by rw [PV.beq];exact PV.beqs_self a
theorem PV.beqs_self:∀ (a:List PV),PV.beqs a a=true
 | []=>rfl
 | x::r=>by rw [PV.beqs,PV.beq_self x,PV.beqs_self r];rfl
end
noncomputable instance:DecidableEq PV:=fun a b=>if h:PV.beq a b=true then .isTrue (PV.eq_of_beq h) else .isFalse fun e=>h (e▸PV.beq_self a)
mutual
/-- == of the language -/
noncomputable def pyEq:PV→PV→Bool
 | .non,.non=>true
 | .bl a,.bl b=>a==b
 | .bl a,.int i=>decide ((if a then 1 else 0)=i)
 | .int i,.bl a=>decide (i=(if a then 1 else 0))
 | .int a,.int b=>decide (a=b)
 | .str a,.str b=>decide (a=b)
 | .tup a,.tup b=>pyEqs a b
 | .lst a,.lst b=>pyEqs a b
 | _,_=>false
noncomputable def pyEqs:List PV→List PV→Bool
 | [],[]=>true
 | a::r,b::s=>pyEq a b&&pyEqs r s
 | _,_=>false
end
mutual
/-- how deep a value goes -/
noncomputable def dep:PV→Nat
 | .tup xs=>deps xs+1
 | .lst xs=>deps xs+1
 | _=>0
noncomputable def deps:List PV→Nat
 | []=>0
 | x::r=>max (dep x) (deps r)
end
@[simp] theorem yG1:dep .non=0:=by rw [dep] <;> simp
@[simp] theorem yQ3 {b}:dep (.bl b)=0:=by rw [dep] <;> simp
@[simp] theorem yI8 {b}:dep (.int b)=0:=by rw [dep] <;> simp
@[simp] theorem yL3 {b}:dep (.str b)=0:=by rw [dep] <;> simp
@[simp] theorem ya2 {xs}:dep (.tup xs)=deps xs+1:=by rw [dep]
@[simp] theorem zX4 {xs}:dep (.lst xs)=deps xs+1:=by rw [dep]
@[simp] theorem yB6:deps []=0:=by rw [deps]
@[simp] theorem yp7 {x r}:deps (x::r)=max (dep x) (deps r):=by rw [deps]
noncomputable def zq3 (m n:Nat):Bool:=decide (m≤100) || decide (n≤100)
@[simp] theorem xg0 {n}:zq3 0 n=true:=by simp [zq3]
@[simp] theorem xf0 {n}:zq3 n 0=true:=by simp [zq3]
inductive Val where
 | p (v:PV)
 | ref (n:Nat)
deriving Inhabited
inductive zA5 where
 | lst (xs:List PV)
 | dct (kvs:List (PV×PV))
 | dead
deriving Inhabited
noncomputable abbrev za6:=List zA5
noncomputable abbrev Env:=List (Option Val)
inductive Res (α:Type) where
 | ok (a:α) (st:za6)
 | exn (cls:Nat) (args:List PV) (st:za6)
 | stuck
noncomputable def Res.bind {α β:Type}:Res α→(α→za6→Res β)→Res β
 | .ok a st,f=>f a st
 | .exn c as st,_=>.exn c as st
 | .stuck,_=>.stuck
@[simp] theorem Res.bind_ok {α β:Type} (a:α) (st:za6) (f:α→za6→Res β):(Res.ok a st).bind f=f a st:=rfl
@[simp] theorem Res.bind_stuck {α β:Type} (f:α→za6→Res β):(Res.stuck:Res α).bind f=.stuck:=rfl
@[simp] theorem Res.bind_exn {α β:Type} (c as st) (f:α→za6→Res β):(Res.exn c as st:Res α).bind f=.exn c as st:=rfl
noncomputable def zb5 (st:za6) (n:Nat):Option zA5:=st[n]?
theorem zA3 {st:za6} {n:Nat} {o:zA5} (h:n<st.length):zb5 (st.set n o) n=some o:=by unfold zb5;simp [h]
theorem zp6 {st:za6} {n m:Nat} {o:zA5} (h:m≠n):zb5 (st.set n o) m=zb5 st m:=by unfold zb5;simp [Ne.symm h]
@[simp] theorem zh2 {st:za6} {o:zA5}:zb5 (st++[o]) st.length=some o:=by unfold zb5;simp
theorem zA1 {st r:za6} {n:Nat} (h:n<st.length):zb5 (st++r) n=zb5 st n:=by unfold zb5;rw [List.getElem?_append_left h]
theorem zp9 {st:za6} {n:Nat} {o:zA5} (h:zb5 st n=some o):n<st.length:=(List.getElem?_eq_some_iff.mp h).1
noncomputable def view (st:za6):Val→Option PV
 | .p v=>some v
 | .ref n=>match zb5 st n with
  | some (.lst xs)=>some (.lst xs)
  | _=>none
@[simp] theorem view_p (st:za6) (v:PV):view st (.p v)=some v:=rfl
noncomputable def Res.bindV {β:Type} (r:Res Val) (f:PV→za6→Res β):Res β:=r.bind fun v st=>match view st v with
 | some x=>f x st
 | none=>.stuck
@[simp] theorem Res.bindV_ok {β:Type} (v:PV) (st:za6) (f:PV→za6→Res β):(Res.ok (Val.p v) st).bindV f=f v st:=rfl
noncomputable def Res.bindB {β:Type} (r:Res Val) (f:Bool→za6→Res β):Res β:=r.bind fun v st=>match v with
 | .p (.bl b)=>f b st
 | _=>.stuck
@[simp] theorem Res.bindB_ok {β:Type} (b:Bool) (st:za6) (f:Bool→za6→Res β):(Res.ok (Val.p (.bl b)) st).bindB f=f b st:=rfl
noncomputable def Res.bindP {β:Type} (r:Res Val) (f:PV→za6→Res β):Res β:=r.bind fun v st=>match v with
 | .p x=>f x st
 | _=>.stuck
@[simp] theorem Res.bindP_ok {β:Type} (v:PV) (st:za6) (f:PV→za6→Res β):(Res.ok (Val.p v) st).bindP f=f v st:=rfl
inductive Bop where | add | sub | mul | fdiv | mod | pow
inductive Cop where | eq | ne | lt | le | gt | ge | isIn | notIn | isNone | notNone
inductive Ty where | int | str | bool | list | tuple
inductive Bf where
 | len | isinst (t:Ty) | all | any | min1 | max1 | min2 | max2 | sum | toInt | toStr | repr | tuple | list | sorted | lenSet | abs | sortSet
inductive Mt where
 | find | upper | join | index | count | split | partition | startswith | endswith
 | append | extend | insert | pop | reverse | clear
inductive Tg where | name (i:Nat) | tup (is:List Nat)
mutual
inductive E where
 | var (i:Nat)
 | const (v:PV)
 | bin (op:Bop) (a b:E)
 | neg (a:E)
 | not (a:E)
 | cmp (op:Cop) (a b:E)
 | chain (op op':Cop) (a b c:E)
 | and (a b:E)
 | or (a b:E)
 | ite (c a b:E)
 | tup (es:List E)
 | list (mt:Bool) (es:List E)
 | dict (ks:List PV) (es:List E)
 | ix (a b:E)
 | slice (a:E) (lo hi:Option E)
 | call (f:Nat) (es:List E)
 | blt (f:Bf) (es:List E)
 | meth (m:Mt) (o:E) (es:List E)
 | comp (mt:Bool) (elt:E) (tgt:Tg) (it:It) (cond:Option E) (caps:List Nat) (n:Nat)
 | freeze (e:E)
 | thaw (e:E)
 | rev (e:E)
 | dictZ (a b:E)
 | dget (o k d:E)
inductive It where
 | of (e:E)
 | range (e:E)
 | zip (es:List E)
 | zipR (a b:E)
 | enum (e:E)
end
inductive S where
 | expr (e:E)
 | ret (e:E)
 | set (i:Nat) (e:E)
 | setT (is:List Nat) (e:E)
 | setIx (o i v:E)
 | aug (i:Nat) (op:Bop) (e:E)
 | augI (i:Nat) (op:Bop) (e:E)
 | ite (c:E) (a b:List S)
 | for (tgt:Tg) (it:It) (body:List S)
 | while (c:E) (body:List S)
 | pass
inductive Flow where
 | next (env:Env)
 | ret (v:Val)
@[irreducible] noncomputable def SZ:Nat:=16777216
noncomputable def zj3 (i:Int):Bool:=decide (-(2 ^ 64)<i∧i<2 ^ 64)
@[simp] noncomputable def bAdd:PV→PV→Option PV
 | .int i,.int j=>some (.int (i+j))
 | .str a,.str b=>if a.length+b.length≤SZ then some (.str (a++b)) else none
 | .tup a,.tup b=>if a.length+b.length≤SZ then some (.tup (a++b)) else none
 | .lst a,.lst b=>if a.length+b.length≤SZ then some (.lst (a++b)) else none
 | _,_=>none
@[simp] noncomputable def bSub:PV→PV→Option PV
 | .int i,.int j=>some (.int (i - j))
 | _,_=>none
@[simp] noncomputable def bMul:PV→PV→Option PV
 | .int i,.int j=>if zj3 i || zj3 j then some (.int (i * j)) else none
 | .str a,.int n=>if 0≤n∧n≤1000000∧a.length * n.toNat≤SZ then some (.str (List.replicate n.toNat a).flatten) else none
 | .lst a,.int n=>if 0≤n∧n≤1000000∧a.length * n.toNat≤SZ then some (.lst (List.replicate n.toNat a).flatten) else none
 | _,_=>none
@[simp] noncomputable def yT5:PV→PV→Option PV
 | .int i,.int j=>if 0<j∧j<1000000000000000000000000000000 then some (.int (i / j)) else none
 | _,_=>none
@[simp] noncomputable def bMod:PV→PV→Option PV
 | .int i,.int j=>if 0<j then some (.int (i % j)) else none
 | _,_=>none
@[simp] noncomputable def bPow:PV→PV→Option PV
 | .int i,.int j=>if 0≤j∧j≤1000000∧zj3 i then some (.int (i ^ j.toNat)) else none
 | _,_=>none
@[simp] noncomputable def zX7 (op:Bop) (x y:PV):Option PV:=match op with
 | .add=>bAdd x y
 | .sub=>bSub x y
 | .mul=>bMul x y
 | .fdiv=>yT5 x y
 | .mod=>bMod x y
 | .pow=>bPow x y
noncomputable def zf9 (b:List Nat):List Nat→Bool
 | []=>b.isEmpty
 | x::r=>b.isPrefixOf (x::r) || zf9 b r
noncomputable def findIn (b:List Nat):List Nat→Nat→Option Nat
 | [],k=>if b.isEmpty then some k else none
 | x::r,k=>if b.isPrefixOf (x::r) then some k else findIn b r (k+1)
noncomputable def xc9 (b a:List Nat):Int:=match findIn b a 0 with
 | some k=>(k:Int)
 | none=>-1
noncomputable def strLt:List Nat→List Nat→Bool
 | _,[]=>false
 | [],_::_=>true
 | x::r,y::s=>if x<y then true else if y<x then false else strLt r s
noncomputable def zu2 (x:PV) (xs:List PV):Bool:=xs.any fun y=>pyEq y x
@[simp] noncomputable def isIn:PV→PV→Option Bool
 | .str a,.str b=>some (zf9 a b)
 | x,.tup xs=>if zq3 (dep x) (deps xs) then some (zu2 x xs) else none
 | x,.lst xs=>if zq3 (dep x) (deps xs) then some (zu2 x xs) else none
 | _,_=>none
@[simp] noncomputable def yt8 (p:Int→Int→Bool):PV→PV→Option PV
 | .int i,.int j=>some (.bl (p i j))
 | _,_=>none
@[simp] noncomputable def yS4 (neg:Bool):PV→PV→Option PV
 | .non,.non=>some (.bl (!neg))
 | _,.non=>some (.bl neg)
 | .bl a,.bl b=>some (.bl ((a==b) != neg))
 | _,.bl _=>some (.bl neg)
 | _,_=>none
@[simp] noncomputable def zq4 (op:Cop) (x y:PV):Option PV:=match op with
 | .eq=>if zq3 (dep x) (dep y) then some (.bl (pyEq x y)) else none
 | .ne=>if zq3 (dep x) (dep y) then some (.bl (!pyEq x y)) else none
 | .lt=>yt8 (fun i j=>decide (i<j)) x y
 | .le=>yt8 (fun i j=>decide (i≤j)) x y
 | .gt=>yt8 (fun i j=>decide (j<i)) x y
 | .ge=>yt8 (fun i j=>decide (j≤i)) x y
 | .isIn=>(isIn x y).map .bl
 | .notIn=>(isIn x y).map fun b=>.bl (!b)
 | .isNone=>yS4 false x y
 | .notNone=>yS4 true x y
noncomputable def zi5 (n:Nat) (i:Int):Option Nat:=if 0≤i then (if i<n then some i.toNat else none) else if -(n:Int)≤i then some (i+n).toNat else none
@[simp] noncomputable def yt7:PV→PV→Option PV
 | .tup xs,.int i=>(zi5 xs.length i).bind fun j=>xs[j]?
 | .lst xs,.int i=>(zi5 xs.length i).bind fun j=>xs[j]?
 | .str cs,.int i=>(zi5 cs.length i).bind fun j=>(cs[j]?).map fun c=>.str [c]
 | _,_=>none
noncomputable def sIx (n d:Nat):Option Int→Nat
 | none=>d
 | some i=>if 0≤i then min i.toNat n else (n+i).toNat
noncomputable def cut {α:Type} (xs:List α) (lo hi:Option Int):List α:=(xs.drop (sIx xs.length 0 lo)).take (sIx xs.length xs.length hi - sIx xs.length 0 lo)
@[simp] noncomputable def sliceOp:PV→Option Int→Option Int→Option PV
 | .tup xs,lo,hi=>some (.tup (cut xs lo hi))
 | .lst xs,lo,hi=>some (.lst (cut xs lo hi))
 | .str cs,lo,hi=>some (.str (cut cs lo hi))
 | _,_,_=>none
noncomputable def zt5 (k:PV):List (PV×PV)→Option PV
 | []=>none
 | (k',v)::r=>if k'=k then some v else zt5 k r
noncomputable def zF4 (k v:PV) (kvs:List (PV×PV)):List (PV×PV):=if (kvs.any fun p=>decide (p.1=k))=true then kvs.map (fun p=>if p.1=k then (p.1,v) else p) else kvs++[(k,v)]
@[simp] noncomputable def yZ9:Ty→PV→Bool
 | .int,.int _=>true
 | .int,.bl _=>true
 | .str,.str _=>true
 | .bool,.bl _=>true
 | .list,.lst _=>true
 | .tuple,.tup _=>true
 | _,_=>false
noncomputable def zn5:List PV→Option Bool
 | []=>some true
 | .bl b::r=>(zn5 r).map (b && ·)
 | _=>none
noncomputable def zy4:List PV→Option (List Int)
 | []=>some []
 | .int i::r=>(zy4 r).map (i :: ·)
 | _=>none
noncomputable def minL:Int→List Int→Int
 | m,[]=>m
 | m,x::r=>minL (if x<m then x else m) r
noncomputable def maxL:Int→List Int→Int
 | m,[]=>m
 | m,x::r=>maxL (if m<x then x else m) r
noncomputable def okO (o:Option PV) (st:za6):Res Val:=match o with | some v=>.ok (.p v) st | none=>.stuck
@[simp] theorem yZ6 (v:PV) (st:za6):okO (some v) st=.ok (.p v) st:=rfl
@[simp] theorem yZ8 (st:za6):okO none st=.stuck:=rfl
noncomputable def yy8:List Nat:=[84,114,117,101]
noncomputable def ye5:List Nat:=[70,97,108,115,101]
noncomputable def okC (c:Nat):Bool:=decide (32≤c∧c≤126∧c≠39∧c≠92)
noncomputable def zI6 (i:Int):List Nat:=(toString i).toList.map Char.toNat
noncomputable def zl4:List (List Nat)→List Nat
 | []=>[]
 | [x]=>x
 | x::r=>x++[44,32]++zl4 r
noncomputable def zK7 (ts:List (List Nat)):List Nat:=[40]++zl4 ts++(if ts.length=1 then [44,41] else [41])
noncomputable def zL4 (ts:List (List Nat)):List Nat:=[91]++zl4 ts++[93]
mutual
/-- a value written -/
noncomputable def shownP:PV→Option (List Nat)
 | .non=>some [78,111,110,101]
 | .bl true=>some yy8
 | .bl false=>some ye5
 | .int i=>if i.natAbs.log2<1920 then some (zI6 i) else none
 | .str cs=>if cs.all okC then some ([39]++cs++[39]) else none
 | .tup xs=>match shownPs xs with
  | some ts=>some (zK7 ts)
  | none=>none
 | .lst xs=>match shownPs xs with
  | some ts=>some (zL4 ts)
  | none=>none
noncomputable def shownPs:List PV→Option (List (List Nat))
 | []=>some []
 | x::r=>match shownP x with
  | some t=>match shownPs r with
   | some ts=>some (t::ts)
   | none=>none
  | none=>none
end
noncomputable def zs6 (x:PV):Option (List Nat):=match shownP x with
 | some t=>if dep x≤100∧t.length≤SZ then some t else none
 | none=>none
@[simp] noncomputable def zF1:PV→Option (List Nat)
 | .bl true=>some yy8
 | .bl false=>some ye5
 | x=>zs6 x
@[simp] noncomputable def zd6:PV→Option (List PV)
 | .tup xs=>some xs
 | .lst xs=>some xs
 | .str cs=>some (cs.map fun c=>.str [c])
 | _=>none
@[simp] noncomputable def yZ7:PV→Option PV
 | .tup xs=>some (.int xs.length)
 | .lst xs=>some (.int xs.length)
 | .str cs=>some (.int cs.length)
 | _=>none
@[simp] noncomputable def zJ7 (f:List PV→Option PV):PV→Option PV
 | .lst xs=>f xs
 | _=>none
@[simp] noncomputable def f1 (f:PV→Option PV):List PV→Option PV
 | [x]=>f x
 | _=>none
@[simp] noncomputable def f2 (f:PV→PV→Option PV):List PV→Option PV
 | [x,y]=>f x y
 | _=>none
@[simp] noncomputable def fI2 (f:Int→Int→Int):PV→PV→Option PV
 | .int i,.int j=>some (.int (f i j))
 | _,_=>none
@[simp] noncomputable def xd6:PV→Option PV
 | .int i=>some (.int i)
 | .bl b=>some (.int (if b then 1 else 0))
 | _=>none
@[simp] noncomputable def yD0:PV→Option PV
 | .tup xs=>some (.tup xs)
 | .lst xs=>some (.tup xs)
 | _=>none
@[simp] noncomputable def yQ4:PV→Option PV
 | .tup xs=>some (.lst xs)
 | .lst xs=>some (.lst xs)
 | _=>none
noncomputable def zV8 (i:Int):List Int→List Int
 | []=>[i]
 | x::r=>if i<x then i::x::r else if x<i then x::zV8 i r else x::r
noncomputable def zJ2 (i:List Nat):List (List Nat)→List (List Nat)
 | []=>[i]
 | x::r=>if strLt i x then i::x::r else if strLt x i then x::zJ2 i r else x::r
noncomputable def zw2:List PV→Option (List (List Nat))
 | []=>some []
 | .str c::r=>(zw2 r).map (c :: ·)
 | _=>none
noncomputable def zm6 (xs:List PV):Option PV:=match zy4 xs with
 | some l=>if l.length<4000∧(l.foldl (fun d i=>zV8 i d) []).length<64 then some (.lst ((l.foldl (fun d i=>zV8 i d) []).map .int)) else none
 | none=>match zw2 xs with
  | some l=>if l.length<4000∧(l.foldl (fun d i=>zJ2 i d) []).length<64 then some (.lst ((l.foldl (fun d i=>zJ2 i d) []).map .str)) else none
  | none=>none
noncomputable def zV6 (i:List Nat):List (List Nat)→List (List Nat)
 | []=>[i]
 | x::r=>if strLt i x then i::x::r else x::zV6 i r
@[simp] noncomputable def zj2:PV→Option (List PV)
 | .tup xs=>some xs
 | .lst xs=>some xs
 | _=>none
noncomputable def zB5 (x:PV):Option PV:=match zj2 x with
 | some xs=>match zw2 xs with
  | some l=>if l.length<64 then some (.lst ((l.foldl (fun d i=>zV6 i d) []).map .str)) else none
  | none=>none
 | none=>none
noncomputable def fMin (xs:List PV):Option PV:=match zy4 xs with
 | some (i::r)=>some (.int (minL i r))
 | _=>none
noncomputable def fMax (xs:List PV):Option PV:=match zy4 xs with
 | some (i::r)=>some (.int (maxL i r))
 | _=>none
@[simp] noncomputable def bfOp (f:Bf) (xs:List PV):Option PV:=match f with
 | .len=>f1 yZ7 xs
 | .isinst t=>f1 (fun v=>some (.bl (yZ9 t v))) xs
 | .all=>f1 (zJ7 fun l=>(zn5 l).map .bl) xs
 | .min1=>f1 (zJ7 fMin) xs
 | .max1=>f1 (zJ7 fMax) xs
 | .min2=>f2 (fI2 fun i j=>if j<i then j else i) xs
 | .max2=>f2 (fI2 fun i j=>if i<j then j else i) xs
 | .sum=>f1 (zJ7 fun l=>(zy4 l).map fun l=>.int l.sum) xs
 | .toInt=>f1 xd6 xs
 | .repr=>f1 (fun v=>(zF1 v).map .str) xs
 | .tuple=>f1 yD0 xs
 | .list=>f1 yQ4 xs
 | .sortSet=>f1 (zJ7 zm6) xs
 | .sorted=>f1 zB5 xs
 | _=>none
noncomputable def upC (c:Nat):Nat:=if 97≤c∧c≤122 then c - 32 else c
noncomputable def yX8 (sep:List Nat):List (List Nat)→List Nat
 | []=>[]
 | [x]=>x
 | x::r=>x++sep++yX8 sep r
@[simp] noncomputable def xd3:PV→List PV→Option PV
 | .str a,[.str b]=>some (.int (xc9 b a))
 | _,_=>none
@[simp] noncomputable def yU7:PV→List PV→Option PV
 | .str a,[]=>if a.all (· < 128) then some (.str (a.map upC)) else none
 | _,_=>none
@[simp] noncomputable def xi4:PV→List PV→Option PV
 | .str sep,[.lst xs]=>match zw2 xs with
  | some l=>if (l.map List.length).sum+l.length * sep.length≤SZ then some (.str (yX8 sep l)) else none
  | none=>none
 | _,_=>none
noncomputable def yr5 (x:PV):List PV→Option Nat
 | []=>none
 | y::r=>if pyEq y x then some 0 else (yr5 x r).map (· + 1)
noncomputable def yD3 (x:PV) (xs:List PV):Option PV:=if zq3 (dep x) (deps xs) then (yr5 x xs).map fun k=>.int (k:Int) else none
@[simp] noncomputable def yS5:PV→List PV→Option PV
 | .lst xs,[x]=>yD3 x xs
 | .tup xs,[x]=>yD3 x xs
 | _,_=>none
@[simp] noncomputable def yY8:PV→List PV→Option PV
 | .lst xs,[x]=>if zq3 (dep x) (deps xs) then some (.int ((xs.filter fun y=>pyEq y x).length:Nat)) else none
 | .tup xs,[x]=>if zq3 (dep x) (deps xs) then some (.int ((xs.filter fun y=>pyEq y x).length:Nat)) else none
 | _,_=>none
@[simp] noncomputable def mtOp (m:Mt) (o:PV) (xs:List PV):Option PV:=match m with
 | .find=>xd3 o xs
 | .upper=>yU7 o xs
 | .join=>xi4 o xs
 | .index=>yS5 o xs
 | .count=>yY8 o xs
 | _=>none
@[simp] noncomputable def zr3:Tg→Val→za6→Env→Option Env
 | .name i,v,_,env=>some (env.set i (some v))
 | .tup is,v,st,env=>match view st v with
  | some (.tup xs)=>if is.length=xs.length then some ((is.zip xs).foldl (fun e p=>e.set p.1 (some (.p p.2))) env) else none
  | _=>none
noncomputable def zw5 (st:za6):Option (Nat×List PV)→Bool
 | none=>true
 | some (n,xs)=>decide (view st (.ref n)=some (.lst xs))
@[simp] theorem zo1 (st:za6):zw5 st none=true:=rfl
noncomputable def compLoop (fe:Env→za6→Res Val) (fc:Option (Env→za6→Res Val)) (tgt:Tg) (src:Option (Nat×List PV)):List PV→Env→za6→List PV→Res (List PV)
 | [],_,st,acc=>if zw5 st src then .ok acc st else .stuck
 | x::r,env,st,acc =>
  if zw5 st src then
   match zr3 tgt (.p x) st env with
   | none=>.stuck
   | some env'=>(match fc with | none=>Res.ok (Val.p (.bl true)) st | some f=>f env' st).bindB fun b st1 =>
     if b then (fe env' st1).bindP fun y st2=>compLoop fe fc tgt src r env' st2 (acc++[y])
     else compLoop fe fc tgt src r env' st1 acc
  else .stuck
noncomputable def zp1 (body:Env→za6→Res Flow) (tgt:Tg) (src:Option (Nat×List PV)):List PV→Env→za6→Res Flow
 | [],env,st=>if zw5 st src then .ok (.next env) st else .stuck
 | x::r,env,st =>
  if zw5 st src then
   match zr3 tgt (.p x) st env with
   | none=>.stuck
   | some env'=>(body env' st).bind fun f st1=>match f with
    | .next env2=>zp1 body tgt src r env2 st1
    | .ret v=>.ok (.ret v) st1
  else .stuck
noncomputable def zJ1 (c:Env→za6→Res Val) (body:Env→za6→Res Flow):Nat→Env→za6→Res Flow
 | 0,_,_=>.stuck
 | k+1,env,st=>(c env st).bindB fun b st1=>if b then (body env st1).bind fun f st2=>match f with
   | .next env2=>zJ1 c body k env2 st2
   | .ret v=>.ok (.ret v) st2
  else .ok (.next env) st1
noncomputable abbrev zb9:=Nat→List Val→za6→Res Val
@[simp] noncomputable def mk (mt:Bool) (xs:List PV) (st:za6):Res Val:=if mt then .ok (.ref st.length) (st++[.lst xs]) else .ok (.p (.lst xs)) st
@[simp] noncomputable def yB8 (ks:List PV) (n:Nat) (xs:List PV) (st:za6):Res Val:=match zb5 st n with
 | some (.dct [])=>.ok (.ref n) (st.set n (.dct ((ks.zip xs).foldl (fun d p=>zF4 p.1 p.2 d) [])))
 | _=>.stuck
@[simp] noncomputable def zy8 (caps:List Nat) (n:Nat) (env:Env):Env:=caps.map (fun i=>(env[i]?).join)++List.replicate n none
@[simp] noncomputable def zw0:Val→List PV→Option (Nat×List PV)
 | .ref n,xs=>some (n,xs)
 | .p _,_=>none
noncomputable def zk9:List (List PV)→List PV
 | [a,b]=>(a.zip b).map fun p=>.tup [p.1,p.2]
 | [a,b,c]=>(a.zip (b.zip c)).map fun p=>.tup [p.1,p.2.1,p.2.2]
 | _=>[]
noncomputable def zz5 (xs:List PV):List PV:=xs.zipIdx.map fun p=>.tup [.int p.2,p.1]
noncomputable def ys7 (st:za6) (n:Nat):Option (List PV):=match zb5 st n with
 | some (.lst l)=>some l
 | _=>none
noncomputable def dctAt (st:za6) (n:Nat):Option (List (PV×PV)):=match zb5 st n with
 | some (.dct l)=>some l
 | _=>none
@[simp] noncomputable def zB6 (o:Val) (st:za6) (f:List PV→Option (PV×List PV)):Res Val:=match o with
 | .p _=>.stuck
 | .ref n=>match ys7 st n with
  | some l=>match f l with
   | some (x,l')=>.ok (.p x) (st.set n (.lst l'))
   | none=>.stuck
  | none=>.stuck
noncomputable def zt9 (xs:List PV) (l:List PV):Option (PV×List PV):=match xs with
 | [x]=>if l.length<SZ then some (.non,l++[x]) else none
 | _=>none
noncomputable def zx1 (xs:List PV) (l:List PV):Option (PV×List PV):=match xs with
 | [.lst ys]=>if l.length+ys.length≤SZ then some (.non,l++ys) else none
 | [.tup ys]=>if l.length+ys.length≤SZ then some (.non,l++ys) else none
 | _=>none
noncomputable def yv9 (xs:List PV) (l:List PV):Option (PV×List PV):=match xs with
 | []=>some (.non,l.reverse)
 | _=>none
noncomputable def yM9 (xs:List PV) (_:List PV):Option (PV×List PV):=match xs with
 | []=>some (.non,[])
 | _=>none
noncomputable def yJ1 (xs:List PV) (l:List PV):Option (PV×List PV):=match xs with
 | [.int i,x]=>if 0≤i∧i≤(l.length:Int)∧l.length<SZ then some (.non,l.take i.toNat++x::l.drop i.toNat) else none
 | _=>none
noncomputable def gPop (xs:List PV) (l:List PV):Option (PV×List PV):=match xs with
 | []=>match l.getLast? with
  | some x=>some (x,l.dropLast)
  | none=>none
 | _=>none
@[simp] noncomputable def zL2 (m:Mt) (o:Val) (xs:List PV) (st:za6):Res Val:=match m with
 | .append=>zB6 o st (zt9 xs)
 | .extend=>zB6 o st (zx1 xs)
 | .reverse=>zB6 o st (yv9 xs)
 | .pop=>zB6 o st (gPop xs)
 | .clear=>zB6 o st (yM9 xs)
 | .insert=>zB6 o st (yJ1 xs)
 | m=>match view st o with
  | some v=>okO (mtOp m v xs) st
  | none=>.stuck
@[simp] noncomputable def ixVal (o:Val) (i:PV) (st:za6):Res Val :=
 match o with
 | .p v=>okO (yt7 v i) st
 | .ref n=>match zb5 st n with
  | some (.lst xs)=>okO (yt7 (.lst xs) i) st
  | some (.dct kvs)=>okO (zt5 i kvs) st
  | _=>.stuck
@[simp] noncomputable def zu5:PV→Bool
 | .int _=>true
 | .str _=>true
 | _=>false
@[simp] noncomputable def yZ0 (xs:List PV) (i v:PV):Option (List PV):=match i with
 | .int k=>(zi5 xs.length k).map fun j=>xs.set j v
 | _=>none
@[simp] noncomputable def yc7 (o:Val) (i v:PV) (st:za6):Res Unit :=
 match o with
 | .p _=>.stuck
 | .ref n=>match zb5 st n with
  | some (.lst xs)=>match yZ0 xs i v with
   | some ys=>.ok () (st.set n (.lst ys))
   | none=>.stuck
  | some (.dct kvs)=>if kvs.length<1000000∧zu5 i=true then .ok () (st.set n (.dct (zF4 i v kvs))) else .stuck
  | _=>.stuck
@[simp] noncomputable def ys5 (v:Val) (st:za6):Res Val :=
 match v with
 | .p x=>.ok (.p x) st
 | .ref n=>match zb5 st n with
  | some (.lst xs)=>.ok (.p (.lst xs)) (st.set n .dead)
  | _=>.stuck
@[simp] noncomputable def yL9 (x y:PV) (st:za6):Res Val:=match zj2 x with
 | some ks=>match zj2 y with
  | some vs=>if ks.all zu5=true∧ks.length≤1000 then .ok (.ref st.length) (st++[.dct ((ks.zip vs).foldl (fun d p=>zF4 p.1 p.2 d) [])]) else .stuck
  | none=>.stuck
 | none=>.stuck
@[simp] noncomputable def yS6 (v:Val) (st:za6):Res Unit:=match v with
 | .ref n=>match zb5 st n with
  | some (.dct _)=>.ok () st
  | _=>.stuck
 | .p _=>.stuck
@[simp] noncomputable def zS5 (o:Val) (k x:PV) (st:za6):Res Val:=match o with
 | .ref n=>match zb5 st n with
  | some (.dct kvs)=>if zu5 k=true then .ok (.p ((zt5 k kvs).getD x)) st else .stuck
  | _=>.stuck
 | .p _=>.stuck
@[simp] noncomputable def yI1 (x:PV) (st:za6):Res Val:=match x with
 | .lst xs=>.ok (.ref st.length) (st++[.lst xs])
 | _=>.stuck
@[simp] noncomputable def yS7:PV→Option PV
 | .tup xs=>some (.tup xs.reverse)
 | _=>none
noncomputable def op1 (f:PV→Option PV) (v:Val) (st:za6):Res Val:=match view st v with
 | some x=>okO (f x) st
 | none=>.stuck
@[simp] theorem op1_p {f x st}:op1 f (.p x) st=okO (f x) st:=rfl
noncomputable def op2 (f:PV→PV→Option PV) (v w:Val) (st:za6):Res Val:=match view st v with
 | some x=>match view st w with
  | some y=>okO (f x y) st
  | none=>.stuck
 | none=>.stuck
@[simp] theorem yv0 {f x y st}:op2 f (.p x) (.p y) st=okO (f x y) st:=rfl
noncomputable def zn7 (st:za6):List Val→Option (List PV)
 | []=>some []
 | v::r=>match view st v with
  | some x=>match zn7 st r with
   | some xs=>some (x::xs)
   | none=>none
  | none=>none
@[simp] theorem yS2 {st}:zn7 st []=some []:=rfl
@[simp] theorem xg5 {st x}:zn7 st [.p x]=some [x]:=rfl
@[simp] theorem xh4 {st x y}:zn7 st [.p x,.p y]=some [x,y]:=rfl
noncomputable def opN (f:List PV→Option PV) (vs:List Val) (st:za6):Res Val:=match zn7 st vs with
 | some xs=>okO (f xs) st
 | none=>.stuck
@[simp] theorem opN_1 {f x st}:opN f [.p x] st=okO (f [x]) st:=rfl
@[simp] theorem opN_2 {f x y st}:opN f [.p x,.p y] st=okO (f [x,y]) st:=rfl
@[simp] noncomputable def yQ0 (op:Bop) (x y:PV) (st:za6):Res Val:=match x,y with
 | .int i,.int j=>okO (zX7 op (.int i) (.int j)) st
 | _,_=>.stuck
@[simp] noncomputable def seen (v:Val) (st:za6):Res Unit:=match view st v with
 | some _=>.ok () st
 | none=>.stuck
theorem yc1 {v:Val} {st st':za6} {u:Unit} (h:seen v st=.ok u st'):(∃ x,view st v=some x)∧st'=st:=by
 unfold seen at h
 cases e:view st v with
 | none=>rw [e] at h;cases h
 | some x=>rw [e] at h;cases h;exact ⟨⟨x,rfl⟩,rfl⟩
noncomputable def yr4:List Val→Option (List PV)
 | []=>some []
 | .p x::r=>match yr4 r with
  | some xs=>some (x::xs)
  | none=>none
 | .ref _::_=>none
noncomputable def keeps:Mt→Bool
 | .append=>true
 | .insert=>true
 | _=>false
noncomputable def zz0 (m:Mt) (o:Val) (vs:List Val) (st:za6):Res Val:=match (if keeps m then yr4 vs else zn7 st vs) with
 | some xs=>zL2 m o xs st
 | none=>.stuck
@[simp] theorem xb8 {m o st}:zz0 m o [] st=zL2 m o [] st:=by unfold zz0;cases m <;> rfl
@[simp] theorem xi1 {m o x st}:zz0 m o [.p x] st=zL2 m o [x] st:=by unfold zz0;cases m <;> rfl
@[simp] theorem xe9 {m o x y st}:zz0 m o [.p x,.p y] st=zL2 m o [x,y] st:=by unfold zz0;cases m <;> rfl
@[simp] noncomputable def zK1 (env:Env) (i:Nat) (st:za6):Res Val:=match env[i]? with
 | some (some v)=>.ok v st
 | _=>.stuck
@[simp] noncomputable def yP7:PV→Option PV
 | .int i=>some (.int (-i))
 | _=>none
@[simp] noncomputable def walkOf (v:Val) (st:za6):Res (List PV×Option (Nat×List PV)):=match view st v with
 | some x=>match zd6 x with
  | some xs=>.ok (xs,zw0 v xs) st
  | none=>.stuck
 | none=>.stuck
@[simp] noncomputable def xh7 (x:PV) (st:za6):Res (List PV×Option (Nat×List PV)):=match x with
 | .int i=>if -1000000≤i∧i≤SZ then .ok ((List.range i.toNat).map (fun k:Nat=>PV.int (k:Int)),none) st else .stuck
 | _=>.stuck
@[simp] noncomputable def walkZ (xs:List PV) (st:za6):Res (List PV×Option (Nat×List PV)):=match xs.mapM zj2 with
 | some ls=>.ok (zk9 ls,none) st
 | none=>.stuck
@[simp] noncomputable def zu8 (v:Val) (y:PV) (st:za6):Res (List PV×Option (Nat×List PV)):=match view st v with
 | some x=>match zj2 x with
  | some xs=>match zj2 y with
   | some ys=>.ok (zk9 [xs,ys],zw0 v xs) st
   | none=>.stuck
  | none=>.stuck
 | none=>.stuck
@[simp] noncomputable def yW6 (x:PV) (st:za6):Res (List PV×Option (Nat×List PV)):=match zj2 x with
 | some xs=>.ok (zz5 xs,none) st
 | none=>.stuck
@[simp] noncomputable def xg3 (x:PV) (st:za6):Res (Option Int):=match x with
 | .int i=>.ok (some i) st
 | _=>.stuck
mutual
noncomputable def evalE (C:zb9):E→Env→za6→Res Val
 | .var i,env,st=>zK1 env i st
 | .const v,_,st=>.ok (.p v) st
 | .bin op a b,env,st=>(evalE C a env st).bind fun x st=>(evalE C b env st).bind fun y st=>op2 (zX7 op) x y st
 | .neg a,env,st=>(evalE C a env st).bindV fun x st=>okO (yP7 x) st
 | .not a,env,st=>(evalE C a env st).bindB fun b st=>.ok (.p (.bl (!b))) st
 | .cmp op a b,env,st=>(evalE C a env st).bind fun x st=>(evalE C b env st).bind fun y st=>op2 (zq4 op) x y st
 | .chain op op' a b c,env,st=>(evalE C a env st).bind fun x st=>(evalE C b env st).bind fun y st=>(op2 (zq4 op) x y st).bindB fun k st =>
   if k then (evalE C c env st).bind fun z st=>op2 (zq4 op') y z st else .ok (.p (.bl false)) st
 | .and a b,env,st=>(evalE C a env st).bindB fun k st=>if k then evalE C b env st else .ok (.p (.bl false)) st
 | .or a b,env,st=>(evalE C a env st).bindB fun k st=>if k then .ok (.p (.bl true)) st else evalE C b env st
 | .ite c a b,env,st=>(evalE C c env st).bindB fun k st=>if k then evalE C a env st else evalE C b env st
 | .tup es,env,st=>(evalPs C es env st).bind fun xs st=>.ok (.p (.tup xs)) st
 | .list mt es,env,st=>(evalPs C es env st).bind fun xs st=>mk mt xs st
 | .dict ks es,env,st=>(evalPs C es env (st++[.dct []])).bind (yB8 ks st.length)
 | .ix a b,env,st=>(evalE C a env st).bind fun o st=>(evalE C b env st).bindV fun i st=>ixVal o i st
 | .slice a lo hi,env,st=>(evalE C a env st).bind fun x st=>(evalO C lo env st).bind fun l st=>(evalO C hi env st).bind fun h st=>op1 (fun x=>sliceOp x l h) x st
 | .call f es,env,st=>(evalEs C es env st).bind fun vs st=>C f vs st
 | .blt f es,env,st=>(evalEs C es env st).bind fun vs st=>opN (bfOp f) vs st
 | .meth m o es,env,st=>(evalE C o env st).bind fun v st=>(seen v st).bind fun _ st=>(evalEs C es env st).bind fun vs st=>zz0 m v vs st
 | .comp mt elt tgt it cond caps n,env,st=>(evalIt C it env st).bind fun p st =>
   (compLoop (evalE C elt) (match cond with | none=>none | some c=>some (evalE C c)) tgt p.2 p.1 (zy8 caps n env) st []).bind fun xs st=>mk mt xs st
 | .freeze e,env,st=>(evalE C e env st).bind ys5
 | .thaw e,env,st=>(evalE C e env st).bindP yI1
 | .rev e,env,st=>(evalE C e env st).bind fun x st=>op1 yS7 x st
 | .dictZ a b,env,st=>(evalE C a env st).bindP fun x st=>(evalE C b env st).bindP fun y st=>yL9 x y st
 | .dget o k d,env,st=>(evalE C o env st).bind fun ov st=>(yS6 ov st).bind fun _ st=>(evalE C k env st).bindP fun kx st=>(evalE C d env st).bindP fun x st=>zS5 ov kx x st
/-- pure values,left to right -/
noncomputable def evalPs (C:zb9):List E→Env→za6→Res (List PV)
 | [],_,st=>.ok [] st
 | e::r,env,st=>(evalE C e env st).bindP fun x st=>(evalPs C r env st).bind fun xs st=>.ok (x::xs) st
/-- values as they are -/
noncomputable def evalEs (C:zb9):List E→Env→za6→Res (List Val)
 | [],_,st=>.ok [] st
 | e::r,env,st=>(evalE C e env st).bind fun x st=>(evalEs C r env st).bind fun xs st=>.ok (x::xs) st
noncomputable def evalO (C:zb9):Option E→Env→za6→Res (Option Int)
 | none,_,st=>.ok none st
 | some e,env,st=>(evalE C e env st).bindV xg3
/-- what is walked,and the list that must stay as it is -/
noncomputable def evalIt (C:zb9):It→Env→za6→Res (List PV×Option (Nat×List PV))
 | .of e,env,st=>(evalE C e env st).bind walkOf
 | .range e,env,st=>(evalE C e env st).bindV xh7
 | .zip es,env,st=>(evalPs C es env st).bind walkZ
 | .zipR a b,env,st=>(evalE C a env st).bind fun v st=>(evalE C b env st).bindP fun y st=>zu8 v y st
 | .enum e,env,st=>(evalE C e env st).bindP yW6
end
@[simp] noncomputable def okN (o:Option Env) (st:za6):Res Flow:=match o with
 | some env=>.ok (.next env) st
 | none=>.stuck
mutual
noncomputable def execS (C:zb9) (W:Nat):S→Env→za6→Res Flow
 | .expr e,env,st=>(evalE C e env st).bind fun _ st=>.ok (.next env) st
 | .ret e,env,st=>(evalE C e env st).bind fun v st=>.ok (.ret v) st
 | .set i e,env,st=>(evalE C e env st).bind fun v st=>.ok (.next (env.set i (some v))) st
 | .setT is e,env,st=>(evalE C e env st).bind fun v st=>okN (zr3 (.tup is) v st env) st
 | .setIx o i v,env,st=>(evalE C v env st).bindP fun x st=>(evalE C o env st).bind fun ov st=>(evalE C i env st).bindV fun iv st=>(yc7 ov iv x st).bind fun _ st=>.ok (.next env) st
 | .aug i op e,env,st=>(zK1 env i st).bindP fun x st=>(evalE C e env st).bindV fun y st=>(okO (zX7 op x y) st).bind fun v st=>.ok (.next (env.set i (some v))) st
 | .augI i op e,env,st=>(zK1 env i st).bindP fun x st=>(evalE C e env st).bindV fun y st=>(yQ0 op x y st).bind fun v st=>.ok (.next (env.set i (some v))) st
 | .ite c a b,env,st=>(evalE C c env st).bindB fun k st=>if k then execSs C W a env st else execSs C W b env st
 | .for tgt it body,env,st=>(evalIt C it env st).bind fun p st=>zp1 (execSs C W body) tgt p.2 p.1 env st
 | .while c body,env,st=>zJ1 (evalE C c) (execSs C W body) W env st
 | .pass,env,st=>.ok (.next env) st
noncomputable def execSs (C:zb9) (W:Nat):List S→Env→za6→Res Flow
 | [],env,st=>.ok (.next env) st
 | s::r,env,st=>(execS C W s env st).bind fun f st=>match f with
  | .next env'=>execSs C W r env' st
  | .ret v=>.ok (.ret v) st
end
structure FD where
 params:Nat
 slots:Nat
 body:List S
noncomputable def yC1 (k:Nat) (v:Val) (st:za6):za6:=match v with
 | .p _=>st.take k
 | .ref n=>if n<k then st.take k else st
noncomputable def zg1 (P:List FD) (W:Nat):Nat→zb9
 | 0=>fun _ _ _=>.stuck
 | d+1=>fun f vs st=>match P[f]? with
  | none=>.stuck
  | some fd=>if vs.length=fd.params then
    (execSs (zg1 P W d) W fd.body (vs.map some++List.replicate (fd.slots - fd.params) none) st).bind fun fl st'=>match fl with
     | .ret v=>.ok v (yC1 st.length v st')
     | .next _=>.ok (.p .non) (st'.take st.length)
   else .stuck
noncomputable def zr2 (C:zb9) (elt:E) (cond:Option E) (tgt:Tg) (src:Option (Nat×List PV)) (xs:List PV) (env:Env) (st:za6) (acc:List PV):Res (List PV) :=
 compLoop (evalE C elt) (match cond with | none=>none | some c=>some (evalE C c)) tgt src xs env st acc
noncomputable def yA6 (C:zb9) (W:Nat) (body:List S) (tgt:Tg) (src:Option (Nat×List PV)) (xs:List PV) (env:Env) (st:za6):Res Flow:=zp1 (execSs C W body) tgt src xs env st
noncomputable def yP2 (C:zb9) (W:Nat) (c:E) (body:List S) (k:Nat) (env:Env) (st:za6):Res Flow:=zJ1 (evalE C c) (execSs C W body) k env st
section
variable {C:zb9} {W:Nat} {env:Env} {st:za6}
@[simp] theorem yX0 {i}:evalE C (.var i) env st=zK1 env i st:=rfl
@[simp] theorem yy6 {v}:evalE C (.const v) env st=.ok (.p v) st:=rfl
@[simp] theorem zb8 {op a b}:evalE C (.bin op a b) env st=(evalE C a env st).bind fun x st=>(evalE C b env st).bind fun y st=>op2 (zX7 op) x y st:=rfl
@[simp] theorem ev_neg {a}:evalE C (.neg a) env st=(evalE C a env st).bindV fun x st=>okO (yP7 x) st:=rfl
@[simp] theorem yQ8 {a}:evalE C (.not a) env st=(evalE C a env st).bindB fun b st=>.ok (.p (.bl (!b))) st:=rfl
@[simp] theorem zg2 {op a b}:evalE C (.cmp op a b) env st=(evalE C a env st).bind fun x st=>(evalE C b env st).bind fun y st=>op2 (zq4 op) x y st:=rfl
@[simp] theorem xa4 {op op' a b c}:evalE C (.chain op op' a b c) env st=(evalE C a env st).bind fun x st=>(evalE C b env st).bind fun y st=>(op2 (zq4 op) x y st).bindB fun k st =>
      if k then (evalE C c env st).bind fun z st=>op2 (zq4 op') y z st else .ok (.p (.bl false)) st:=rfl
@[simp] theorem yE1 {a b}:evalE C (.and a b) env st=(evalE C a env st).bindB fun k st=>if k then evalE C b env st else .ok (.p (.bl false)) st:=rfl
@[simp] theorem xc5 {a b}:evalE C (.or a b) env st=(evalE C a env st).bindB fun k st=>if k then .ok (.p (.bl true)) st else evalE C b env st:=rfl
@[simp] theorem ev_ite {c a b}:evalE C (.ite c a b) env st=(evalE C c env st).bindB fun k st=>if k then evalE C a env st else evalE C b env st:=rfl
@[simp] theorem yP6 {es}:evalE C (.tup es) env st=(evalPs C es env st).bind fun xs st=>.ok (.p (.tup xs)) st:=rfl
@[simp] theorem yt4 {mt es}:evalE C (.list mt es) env st=(evalPs C es env st).bind fun xs st=>mk mt xs st:=rfl
@[simp] theorem xi3 {ks es}:evalE C (.dict ks es) env st=(evalPs C es env (st++[.dct []])).bind (yB8 ks st.length):=rfl
@[simp] theorem xf6 {a b}:evalE C (.ix a b) env st=(evalE C a env st).bind fun o st=>(evalE C b env st).bindV fun i st=>ixVal o i st:=rfl
@[simp] theorem yv4 {a lo hi}:evalE C (.slice a lo hi) env st=(evalE C a env st).bind fun x st=>(evalO C lo env st).bind fun l st=>(evalO C hi env st).bind fun h st=>op1 (fun x=>sliceOp x l h) x st:=rfl
@[simp] theorem yo1 {f es}:evalE C (.call f es) env st=(evalEs C es env st).bind fun vs st=>C f vs st:=rfl
@[simp] theorem zh5 {f es}:evalE C (.blt f es) env st=(evalEs C es env st).bind fun vs st=>opN (bfOp f) vs st:=rfl
@[simp] theorem yr0 {m o es}:evalE C (.meth m o es) env st=(evalE C o env st).bind fun v st=>(seen v st).bind fun _ st=>(evalEs C es env st).bind fun vs st=>zz0 m v vs st:=rfl
@[simp] theorem yG2 {mt elt tgt it cond caps n}:evalE C (.comp mt elt tgt it cond caps n) env st=(evalIt C it env st).bind fun p st=>(zr2 C elt cond tgt p.2 p.1 (zy8 caps n env) st []).bind fun xs st=>mk mt xs st:=by cases cond <;> (rw [evalE];rfl)
@[simp] theorem yo3 {e}:evalE C (.freeze e) env st=(evalE C e env st).bind ys5:=rfl
@[simp] theorem yF4 {e}:evalE C (.thaw e) env st=(evalE C e env st).bindP yI1:=rfl
@[simp] theorem ev_rev {e}:evalE C (.rev e) env st=(evalE C e env st).bind fun x st=>op1 yS7 x st:=rfl
@[simp] theorem yu1 {a b}:evalE C (.dictZ a b) env st=(evalE C a env st).bindP fun x st=>(evalE C b env st).bindP fun y st=>yL9 x y st:=rfl
@[simp] theorem yK7 {o k d}:evalE C (.dget o k d) env st=(evalE C o env st).bind fun ov st=>(yS6 ov st).bind fun _ st=>(evalE C k env st).bindP fun kx st=>(evalE C d env st).bindP fun x st=>zS5 ov kx x st:=rfl
@[simp] theorem yb4:evalPs C [] env st=.ok [] st:=rfl
@[simp] theorem zA6 {e r}:evalPs C (e::r) env st=(evalE C e env st).bindP fun x st=>(evalPs C r env st).bind fun xs st=>.ok (x::xs) st:=rfl
@[simp] theorem zs5:evalEs C [] env st=.ok [] st:=rfl
@[simp] theorem zm8 {e r}:evalEs C (e::r) env st=(evalE C e env st).bind fun x st=>(evalEs C r env st).bind fun xs st=>.ok (x::xs) st:=rfl
@[simp] theorem yx2:evalO C none env st=.ok none st:=rfl
@[simp] theorem yw9 {e}:evalO C (some e) env st=(evalE C e env st).bindV xg3:=rfl
@[simp] theorem yG0 {e}:evalIt C (.of e) env st=(evalE C e env st).bind walkOf:=rfl
@[simp] theorem yi2 {e}:evalIt C (.range e) env st=(evalE C e env st).bindV xh7:=rfl
@[simp] theorem xa1 {es}:evalIt C (.zip es) env st=(evalPs C es env st).bind walkZ:=rfl
@[simp] theorem yn6 {a b}:evalIt C (.zipR a b) env st=(evalE C a env st).bind fun v st=>(evalE C b env st).bindP fun y st=>zu8 v y st:=rfl
@[simp] theorem yt1 {e}:evalIt C (.enum e) env st=(evalE C e env st).bindP yW6:=rfl
@[simp] theorem yJ8 {e}:execS C W (.expr e) env st=(evalE C e env st).bind fun _ st=>.ok (.next env) st:=rfl
@[simp] theorem yP3 {e}:execS C W (.ret e) env st=(evalE C e env st).bind fun v st=>.ok (.ret v) st:=rfl
@[simp] theorem yq0 {i e}:execS C W (.set i e) env st=(evalE C e env st).bind fun v st=>.ok (.next (env.set i (some v))) st:=rfl
@[simp] theorem xh6 {is e}:execS C W (.setT is e) env st=(evalE C e env st).bind fun v st=>okN (zr3 (.tup is) v st env) st:=rfl
@[simp] theorem yv1 {o i v}:execS C W (.setIx o i v) env st=(evalE C v env st).bindP fun x st=>(evalE C o env st).bind fun ov st=>(evalE C i env st).bindV fun iv st=>(yc7 ov iv x st).bind fun _ st=>.ok (.next env) st:=rfl
@[simp] theorem ex_aug {i op e}:execS C W (.aug i op e) env st=(zK1 env i st).bindP fun x st=>(evalE C e env st).bindV fun y st=>(okO (zX7 op x y) st).bind fun v st=>.ok (.next (env.set i (some v))) st:=rfl
@[simp] theorem xh8 {i op e}:execS C W (.augI i op e) env st=(zK1 env i st).bindP fun x st=>(evalE C e env st).bindV fun y st=>(yQ0 op x y st).bind fun v st=>.ok (.next (env.set i (some v))) st:=rfl
@[simp] theorem yp1 {c a b}:execS C W (.ite c a b) env st=(evalE C c env st).bindB fun k st=>if k then execSs C W a env st else execSs C W b env st:=rfl
@[simp] theorem yU6 {tgt it body}:execS C W (.for tgt it body) env st=(evalIt C it env st).bind fun p st=>yA6 C W body tgt p.2 p.1 env st:=rfl
@[simp] theorem xa8 {c body}:execS C W (.while c body) env st=yP2 C W c body W env st:=rfl
@[simp] theorem xd4:execS C W .pass env st=.ok (.next env) st:=rfl
@[simp] theorem exs_nil:execSs C W [] env st=.ok (.next env) st:=rfl
noncomputable def zX8 (C:zb9) (W:Nat) (r:List S) (f:Flow) (st:za6):Res Flow:=match f with
 | .next env'=>execSs C W r env' st
 | .ret v=>.ok (.ret v) st
@[simp] theorem thenS_next {r env'}:zX8 C W r (.next env') st=execSs C W r env' st:=rfl
@[simp] theorem yS1 {r v}:zX8 C W r (.ret v) st=.ok (.ret v) st:=rfl
@[simp] theorem exs_cons {s r}:execSs C W (s::r) env st=(execS C W s env st).bind (zX8 C W r):=rfl
theorem zF8 {elt cond tgt acc}:zr2 C elt cond tgt none [] env st acc=.ok acc st:=by unfold zr2;rw [compLoop];simp
theorem yb6 {body tgt}:yA6 C W body tgt none [] env st=.ok (.next env) st:=by unfold yA6;rw [zp1];simp
noncomputable def yi7 (k:Nat) (fl:Flow) (st':za6):Res Val:=match fl with
 | .ret v=>.ok v (yC1 k v st')
 | .next _=>.ok (.p .non) (st'.take k)
@[simp] theorem yo5 {k v st'}:yi7 k (.ret v) st'=.ok v (yC1 k v st'):=rfl
@[simp] theorem yM1 {k env st'}:yi7 k (.next env) st'=.ok (.p .non) (st'.take k):=rfl
theorem zc3 {P:List FD} {d f:Nat} {vs:List Val} {fd:FD} (h:P[f]?=some fd) (hl:vs.length=fd.params) :
  zg1 P W (d+1) f vs st=(execSs (zg1 P W d) W fd.body (vs.map some++List.replicate (fd.slots - fd.params) none) st).bind (yi7 st.length):=by
 simp only [zg1,h,hl,if_true]
 rfl
@[simp] theorem trim_p {k v}:yC1 k (.p v) st=st.take k:=rfl
@[simp] theorem xa0:List.take (List.length st) st=st:=List.take_length
end
theorem zC6 {α:Type} (p:α→Bool):∀ xs:List α,zn5 (xs.map fun x=>PV.bl (p x))=some (xs.all p)
 | []=>rfl
 | x::r=>by
  rw [List.map_cons,zn5,zC6 p r,List.all_cons]
  rfl
theorem zy2 {st:za6} {n:Nat} {o:zA5}:List.take (List.length st) (st.set n o)=st.set n o:=by
 rw [List.take_of_length_le (by simp)]
end OR
namespace OR
def Sat {α:Type}:Res α→(α→za6→Prop)→Prop
 | .ok a st,Q=>Q a st
 | .exn _ _ _,_=>False
 | .stuck,_=>False
section
variable {α β:Type}
theorem zw6 {r:Res α} {Q:α→za6→Prop}:Sat r Q↔∃ a st,r=.ok a st∧Q a st:=by
 cases r with
 | ok a st=>exact ⟨fun h=>⟨a,st,rfl,h⟩,fun ⟨_,_,e,h⟩=>by cases e;exact h⟩
 | exn _ _ _=>exact ⟨False.elim,fun ⟨_,_,e,_⟩=>(by cases e)⟩
 | stuck=>exact ⟨False.elim,fun ⟨_,_,e,_⟩=>(by cases e)⟩
@[simp] theorem sat_ok {a:α} {st:za6} {Q:α→za6→Prop}:Sat (.ok a st) Q=Q a st:=rfl
@[simp] theorem zc1 {r:Res α} {f:α→za6→Res β} {Q:β→za6→Prop}:Sat (r.bind f) Q=Sat r fun a st=>Sat (f a st) Q:=by
 cases r <;> rfl
theorem Sat.mono {r:Res α} {Q Q':α→za6→Prop} (h:Sat r Q) (g:∀ a st,Q a st→Q' a st):Sat r Q':=by
 cases r with
 | ok a st=>exact g a st h
 | exn _ _ _=>exact h
 | stuck=>exact h
theorem yT0 {r:Res α} {a:α} {st:za6} {Q:α→za6→Prop} (h:r=.ok a st) (q:Q a st):Sat r Q:=by rw [h];exact q
noncomputable def asB (v:Val) (f:Bool→za6→Res β) (st:za6):Res β:=match v with
 | .p (.bl b)=>f b st
 | _=>.stuck
noncomputable def asP (v:Val) (f:PV→za6→Res β) (st:za6):Res β:=match v with
 | .p x=>f x st
 | _=>.stuck
noncomputable def asV (v:Val) (f:PV→za6→Res β) (st:za6):Res β:=match view st v with
 | some x=>f x st
 | none=>.stuck
@[simp] theorem asB_p {b:Bool} {f:Bool→za6→Res β} {st:za6}:asB (.p (.bl b)) f st=f b st:=rfl
@[simp] theorem asP_p {x:PV} {f:PV→za6→Res β} {st:za6}:asP (.p x) f st=f x st:=rfl
@[simp] theorem asV_p {x:PV} {f:PV→za6→Res β} {st:za6}:asV (.p x) f st=f x st:=rfl
@[simp] theorem xg9 {n:Nat} {f:PV→za6→Res β} {st:za6}:asV (.ref n) f st=match view st (.ref n) with | some x=>f x st | none=>.stuck:=rfl
@[simp] theorem yM8 {r:Res Val} {f:Bool→za6→Res β} {Q:β→za6→Prop}:Sat (r.bindB f) Q=Sat r fun v st=>Sat (asB v f st) Q:=by cases r <;> rfl
@[simp] theorem yP4 {r:Res Val} {f:PV→za6→Res β} {Q:β→za6→Prop}:Sat (r.bindP f) Q=Sat r fun v st=>Sat (asP v f st) Q:=by cases r <;> rfl
@[simp] theorem yN5 {r:Res Val} {f:PV→za6→Res β} {Q:β→za6→Prop}:Sat (r.bindV f) Q=Sat r fun v st=>Sat (asV v f st) Q:=by cases r <;> rfl
@[simp] theorem xf3 {c:Prop} [Decidable c] {a b:Res α} {Q:α→za6→Prop}:Sat (if c then a else b) Q↔(if c then Sat a Q else Sat b Q):=by split <;> rfl
@[simp] theorem xi5 {o:Option PV} {st:za6} {Q:Val→za6→Prop}:Sat (okO o st) Q↔∃ x,o=some x∧Q (.p x) st:=by
 cases o with
 | none=>exact ⟨False.elim,fun ⟨_,e,_⟩=>(by cases e)⟩
 | some x=>exact ⟨fun h=>⟨x,rfl,h⟩,fun ⟨_,e,q⟩=>(by cases e;exact q)⟩
end
theorem zN6 {C:zb9} {e:E} {cond:Option E} {tgt:Tg} (J:List PV→Env→za6→List PV→Prop) :
  ∀ (xs:List PV) (env:Env) (st:za6) (acc:List PV),J xs env st acc →
  (∀ x r env st acc,J (x::r) env st acc→∃ env',zr3 tgt (.p x) st env=some env' ∧
   Sat (match cond with | none=>Res.ok (Val.p (.bl true)) st | some c=>evalE C c env' st) (fun v st1=>∃ b,v=.p (.bl b) ∧
    if b=true then Sat (evalE C e env' st1) (fun v st2=>∃ y,v=.p y∧J r env' st2 (acc++[y])) else J r env' st1 acc)) →
  Sat (zr2 C e cond tgt none xs env st acc) (fun ys st'=>∃ env',J [] env' st' ys)
 | [],env,st,acc,h,_=>by rw [zF8];exact ⟨env,h⟩
 | x::r,env,st,acc,h,step=>by
  obtain ⟨env',h1,hs⟩:=step x r env st acc h
  obtain ⟨v,st1,h2,b,rfl,h3⟩:=zw6.mp hs
  cases b with
  | true =>
   rw [if_pos rfl] at h3
   obtain ⟨_,st2,h4,y,rfl,h5⟩:=zw6.mp h3
   have ih:=zN6 (C:=C) (e:=e) (cond:=cond) (tgt:=tgt) J r env' st2 (acc++[y]) h5 step
   unfold zr2 at ih ⊢
   rw [compLoop]
   cases cond with
   | none=>cases h2;simpa only [zo1,if_true,h1,Res.bindB_ok,h4,Res.bindP_ok] using ih
   | some c=>simpa only [zo1,if_true,h1,h2,Res.bindB_ok,h4,Res.bindP_ok] using ih
  | false =>
   rw [if_neg (by simp)] at h3
   have ih:=zN6 (C:=C) (e:=e) (cond:=cond) (tgt:=tgt) J r env' st1 acc h3 step
   unfold zr2 at ih ⊢
   rw [compLoop]
   cases cond with
   | none=>cases h2
   | some c=>simpa only [zo1,if_true,h1,h2,Res.bindB_ok,Bool.false_eq_true,if_false] using ih
theorem zk1 {C:zb9} {W:Nat} {body:List S} {tgt:Tg} (J:List PV→Env→za6→Prop):∀ (xs:List PV) (env:Env) (st:za6),
  J xs env st →
  (∀ x r env st,J (x::r) env st→∃ env',zr3 tgt (.p x) st env=some env'∧Sat (execSs C W body env' st) (fun f st2=>∃ env2,f=.next env2∧J r env2 st2)) →
  Sat (yA6 C W body tgt none xs env st) (fun f st'=>∃ env',f=.next env'∧J [] env' st')
 | [],env,st,h,_=>by rw [yb6];exact ⟨env,rfl,h⟩
 | x::r,env,st,h,step=>by
  obtain ⟨env',h1,hs⟩:=step x r env st h
  obtain ⟨_,st2,h2,env2,rfl,h3⟩:=zw6.mp hs
  have ih:=zk1 (C:=C) (W:=W) (body:=body) (tgt:=tgt) J r env2 st2 h3 step
  unfold yA6 at ih ⊢
  rw [zp1]
  simpa only [zo1,if_true,h1,h2,Res.bind_ok] using ih
theorem zj1 {n:Nat} (h:n≤16777216):n≤SZ:=by unfold SZ;exact h
theorem yn3 {n:Nat} (h:n<16777216):n<SZ:=by unfold SZ;exact h
theorem zC9 {n:Int} (h:n≤16777216):n≤(SZ:Int):=by unfold SZ;exact h
theorem ye7 {α:Type} (xs:List α) (r:Int) (h:0≤r):cut xs (some r) none=xs.drop r.toNat:=by
 simp only [cut,sIx,if_pos h]
 rw [List.take_of_length_le (by simp)]
 by_cases hr:r.toNat≤xs.length
 ·rw [Nat.min_eq_left hr]
 ·rw [Nat.min_eq_right (by omega),List.drop_of_length_le (by simp),List.drop_of_length_le (by omega)]
theorem ys0 {α:Type} (xs:List α) (r:Int) (h:0≤r):cut xs none (some r)=xs.take r.toNat:=by
 simp only [cut,sIx,if_pos h,List.drop_zero,Nat.sub_zero]
 by_cases hr:r.toNat≤xs.length
 ·rw [Nat.min_eq_left hr]
 ·rw [Nat.min_eq_right (by omega),List.take_of_length_le (by simp),List.take_of_length_le (by omega)]
theorem yE5 {α:Type} (xs:List α) (a b:Int) (h:0≤a) (hb:0≤b) (hx:b≤xs.length):cut xs (some a) (some b)=(xs.drop a.toNat).take (b.toNat - a.toNat):=by
 simp only [cut,sIx,if_pos h,if_pos hb]
 rw [Nat.min_eq_left (a:=b.toNat) (by omega)]
 by_cases hr:a.toNat≤xs.length
 ·rw [Nat.min_eq_left hr]
 ·rw [Nat.min_eq_right (by omega),List.drop_of_length_le (by simp),List.drop_of_length_le (by omega)]
  simp
theorem yo2 {α:Type} (xs:List α) (i:Int) (h0:0≤i) (h1:i<xs.length):∃ x,xs[i.toNat]?=some x∧x∈xs∧zi5 xs.length i=some i.toNat :=
 ⟨xs[i.toNat],List.getElem?_eq_getElem (by omega),List.getElem_mem _,by unfold zi5;rw [if_pos h0,if_pos h1]⟩
theorem zk5 {α:Type} {C:zb9} {e:E} {tgt:Tg} (g f:α→PV) {st:za6} (I:Env→Prop):∀ (xs:List α) (env:Env) (acc:List PV),
  I env→(∀ x∈xs,∀ env,I env→∃ env',zr3 tgt (.p (g x)) st env=some env'∧I env'∧evalE C e env' st=.ok (.p (f x)) st) →
  zr2 C e none tgt none (xs.map g) env st acc=.ok (acc++xs.map f) st
 | [],env,acc,_,_=>by simp [zF8]
 | x::r,env,acc,hI,h=>by
  obtain ⟨env',h1,hI',h2⟩:=h x (by simp) env hI
  have ih:=zk5 (C:=C) (e:=e) (tgt:=tgt) g f I r env' (acc++[f x]) hI' fun y hy=>h y (List.mem_cons_of_mem _ hy)
  unfold zr2 at ih ⊢
  rw [List.map_cons,compLoop]
  simp only [zo1,if_true,h1,Res.bindB_ok,h2,Res.bindP_ok]
  rw [ih]
  simp
theorem zh9 {α:Type} {C:zb9} {e c:E} {tgt:Tg} (g:α→PV) (p:α→Bool) (f:α→PV) {st:za6} (I:Env→Prop):∀ (xs:List α) (env:Env) (acc:List PV),
  I env→(∀ x∈xs,∀ env,I env→∃ env',zr3 tgt (.p (g x)) st env=some env'∧I env'∧evalE C c env' st=.ok (.p (.bl (p x))) st∧(p x=true→evalE C e env' st=.ok (.p (f x)) st)) →
  zr2 C e (some c) tgt none (xs.map g) env st acc=.ok (acc++(xs.filter p).map f) st
 | [],env,acc,_,_=>by simp [zF8]
 | x::r,env,acc,hI,h=>by
  obtain ⟨env',h1,hI',h2,h3⟩:=h x (by simp) env hI
  have ih:=fun acc=>zh9 (C:=C) (e:=e) (c:=c) (tgt:=tgt) g p f I r env' acc hI' fun y hy=>h y (List.mem_cons_of_mem _ hy)
  unfold zr2 at ih ⊢
  rw [List.map_cons,compLoop]
  simp only [zo1,if_true,h1,h2,Res.bindB_ok]
  cases hp:p x with
  | true=>simp only [if_true,h3 hp,Res.bindP_ok];rw [ih];simp [hp]
  | false=>simp only [Bool.false_eq_true,if_false];rw [ih];simp [hp]
theorem zd5 {α:Type} {r:Res α} {x:α} {st:za6} (h:Sat r fun a s=>a=x∧s=st):r=.ok x st:=by
 obtain ⟨a,s,e,rfl,rfl⟩:=zw6.mp h
 exact e
theorem zi0 {st:za6} {k:Nat} {xs:List PV} (h:zb5 st k=some (.lst xs)):view st (.ref k)=some (.lst xs):=by
 simp only [view,h]
theorem zl1 {st:za6} {k:Nat} {xs:List PV} (h:zb5 st k=some (.lst xs)):ys7 st k=some xs:=by
 simp only [ys7,h]
theorem zj6 {S:za6} {o:zA5} {n:Nat} (h:n=S.length):zb5 (S++[o]) n=some o:=by rw [h];exact zh2
theorem Sat.k0 {α β:Type} {r:Res α} {Q:α→za6→Prop} {F:β→α} {P:β→Prop} {R:za6→Prop} (h:Sat r fun v st=>(∃ x,v=F x∧P x)∧R st) (k:∀ x st,P x→R st→Q (F x) st):Sat r Q:=by
 refine h.mono ?_
 rintro _ st ⟨⟨x,rfl,p⟩,q⟩
 exact k x st p q
theorem Sat.k1 {α β:Type} {r:Res α} {Q:α→za6→Prop} {F:β→α} {P P':β→Prop} {R:za6→Prop} (h:Sat r fun v st=>(∃ x,v=F x∧P x∧P' x)∧R st) (k:∀ x st,P x→P' x→R st→Q (F x) st):Sat r Q:=by
 refine h.mono ?_
 rintro _ st ⟨⟨x,rfl,p,p'⟩,q⟩
 exact k x st p p' q
theorem za4 {C:zb9} {W:Nat} {s:S} {r:List S} {env:Env} {st:za6} {Q:Flow→za6→Prop} (h:Sat (execS C W s env st) fun a st=>Sat (zX8 C W r a st) Q):Sat (execSs C W (s::r) env st) Q:=by
 rw [exs_cons,zc1];exact h
@[simp high] theorem yM4 {v:Val} {env:Env} {st:za6}:zK1 (some v::env) 0 st=.ok v st:=rfl
@[simp high] theorem yM5 {a:Option Val} {env:Env} {i:Nat} {st:za6}:zK1 (a::env) (i+1) st=zK1 env i st:=rfl
@[simp] theorem xe6 {v i:PV} {st:za6}:ixVal (.p v) i st=okO (yt7 v i) st:=rfl
@[simp] theorem yO2 {n:Nat} {i:PV} {st:za6}:ixVal (.ref n) i st=match zb5 st n with | some (.lst xs)=>okO (yt7 (.lst xs) i) st | some (.dct kvs)=>okO (zt5 i kvs) st | _=>.stuck:=rfl
@[simp] theorem yZ5 {xs:List PV} {st:za6}:walkOf (.p (.tup xs)) st=.ok (xs,none) st:=rfl
@[simp] theorem xa6 {xs:List PV} {st:za6}:walkOf (.p (.lst xs)) st=.ok (xs,none) st:=rfl
@[simp] theorem yM0 {n:Nat} {st:za6}:walkOf (.ref n) st=match view st (.ref n) with | some x=>(match zd6 x with | some xs=>.ok (xs,zw0 (.ref n) xs) st | none=>.stuck) | none=>.stuck:=rfl
@[simp high] theorem o_lenT {xs:List PV} {st:za6}:opN (bfOp .len) [.p (.tup xs)] st=.ok (.p (.int xs.length)) st:=rfl
@[simp high] theorem o_lenL {xs:List PV} {st:za6}:opN (bfOp .len) [.p (.lst xs)] st=.ok (.p (.int xs.length)) st:=rfl
@[simp high] theorem o_tupL {xs:List PV} {st:za6}:opN (bfOp .tuple) [.p (.lst xs)] st=.ok (.p (.tup xs)) st:=rfl
@[simp high] theorem o_lstT {xs:List PV} {st:za6}:opN (bfOp .list) [.p (.tup xs)] st=.ok (.p (.lst xs)) st:=rfl
@[simp 20000] theorem ix_10 {x:PV} {st:za6}:ixVal (.p (.tup [x])) (.int 0) st=.ok (.p x) st:=rfl
@[simp 20000] theorem ix_20 {x y:PV} {st:za6}:ixVal (.p (.tup [x,y])) (.int 0) st=.ok (.p x) st:=rfl
@[simp 20000] theorem ix_21 {x y:PV} {st:za6}:ixVal (.p (.tup [x,y])) (.int 1) st=.ok (.p y) st:=rfl
@[simp 20000] theorem ix_30 {x y z:PV} {st:za6}:ixVal (.p (.tup [x,y,z])) (.int 0) st=.ok (.p x) st:=rfl
@[simp 20000] theorem ix_31 {x y z:PV} {st:za6}:ixVal (.p (.tup [x,y,z])) (.int 1) st=.ok (.p y) st:=rfl
@[simp 20000] theorem ix_32 {x y z:PV} {st:za6}:ixVal (.p (.tup [x,y,z])) (.int 2) st=.ok (.p z) st:=rfl
@[simp high] theorem eqS_p {a b:List Nat} {st:za6}:op2 (zq4 .eq) (.p (.str a)) (.p (.str b)) st=.ok (.p (.bl (decide (a=b)))) st:=rfl
@[simp high] theorem neB_p {a b:Bool} {st:za6}:op2 (zq4 .ne) (.p (.bl a)) (.p (.bl b)) st=.ok (.p (.bl (a != b))) st:=rfl
@[simp high] theorem eqB_p {a b:Bool} {st:za6}:op2 (zq4 .eq) (.p (.bl a)) (.p (.bl b)) st=.ok (.p (.bl (a==b))) st:=rfl
@[simp high] theorem neS_p {a b:List Nat} {st:za6}:op2 (zq4 .ne) (.p (.str a)) (.p (.str b)) st=.ok (.p (.bl (!decide (a=b)))) st:=rfl
@[simp high] theorem neI_p {a b:Int} {st:za6}:op2 (zq4 .ne) (.p (.int a)) (.p (.int b)) st=.ok (.p (.bl (!decide (a=b)))) st:=rfl
@[simp high] theorem ltI_p {a b:Int} {st:za6}:op2 (zq4 .lt) (.p (.int a)) (.p (.int b)) st=.ok (.p (.bl (decide (a<b)))) st:=rfl
@[simp high] theorem gtI_p {a b:Int} {st:za6}:op2 (zq4 .gt) (.p (.int a)) (.p (.int b)) st=.ok (.p (.bl (decide (b<a)))) st:=rfl
@[simp high] theorem geI_p {a b:Int} {st:za6}:op2 (zq4 .ge) (.p (.int a)) (.p (.int b)) st=.ok (.p (.bl (decide (b≤a)))) st:=rfl
@[simp high] theorem eqI_p {a b:Int} {st:za6}:op2 (zq4 .eq) (.p (.int a)) (.p (.int b)) st=.ok (.p (.bl (decide (a=b)))) st:=rfl
@[simp high] theorem addI_p {a b:Int} {st:za6}:op2 (zX7 .add) (.p (.int a)) (.p (.int b)) st=.ok (.p (.int (a+b))) st:=rfl
@[simp high] theorem subI_p {a b:Int} {st:za6}:op2 (zX7 .sub) (.p (.int a)) (.p (.int b)) st=.ok (.p (.int (a - b))) st:=rfl
theorem zp4 {C:zb9} {W:Nat} {c:E} {b r:List S} {env:Env} {st:za6} {Q:Flow→za6→Prop} (h1:evalE C c env st=.ok (.p (.bl false)) st)
  (h:Sat (execSs C W r env st) Q):Sat (execSs C W (.ite c b []::r) env st) Q:=by
 rw [exs_cons,zc1,yp1,h1]
 exact h
theorem zz6 {C:zb9} {W:Nat} {c:E} {b b2 r:List S} {env:Env} {st:za6} {Q:Flow→za6→Prop} (h1:evalE C c env st=.ok (.p (.bl true)) st)
  (h:Sat (execSs C W b env st) fun f st1=>Sat (zX8 C W r f st1) Q):Sat (execSs C W (.ite c b b2::r) env st) Q:=by
 rw [exs_cons,zc1,yp1,h1]
 exact h
theorem yd4 {C:zb9} {W i:Nat} {e:E} {r:List S} {env:Env} {st:za6} {Q:Flow→za6→Prop} (v:PV) (h1:evalE C e env st=.ok (.p v) st)
  (h:Sat (execSs C W r (env.set i (some (.p v))) st) Q):Sat (execSs C W (.set i e::r) env st) Q:=by
 rw [exs_cons,zc1,yq0,h1]
 exact h
@[simp high] theorem xa7 {C:zb9} {env:Env} {st:za6} {mt:Bool} {elt:E} {tgt:Tg} {it:It} {caps:List Nat} {n:Nat}:evalE C (.comp mt elt tgt it none caps n) env st=(evalIt C it env st).bind fun p st=>(zr2 C elt none tgt p.2 p.1 (zy8 caps n env) st []).bind fun xs st=>mk mt xs st:=rfl
@[simp high] theorem xa2 {C:zb9} {env:Env} {st:za6} {mt:Bool} {elt c:E} {tgt:Tg} {it:It} {caps:List Nat} {n:Nat}:evalE C (.comp mt elt tgt it (some c) caps n) env st=(evalIt C it env st).bind fun p st=>(zr2 C elt (some c) tgt p.2 p.1 (zy8 caps n env) st []).bind fun xs st=>mk mt xs st:=rfl
mutual
noncomputable def wt:PV→Nat
 | .non=>4
 | .bl _=>5
 | .int _=>40
 | .str cs=>cs.length+2
 | .tup xs=>3+wts xs
 | .lst xs=>3+wts xs
noncomputable def wts:List PV→Nat
 | []=>0
 | x::r=>wt x+2+wts r
end
mutual
/-- numbers to a bound,texts of plain signs -/
noncomputable def okv (B:Nat):PV→Bool
 | .int i=>decide (i.natAbs≤B)
 | .str cs=>cs.all okC
 | .tup xs=>okvs B xs
 | .lst xs=>okvs B xs
 | _=>true
noncomputable def okvs (B:Nat):List PV→Bool
 | []=>true
 | x::r=>okv B x&&okvs B r
end
@[simp] theorem wt_non:wt .non=4:=by rw [wt]
@[simp] theorem wt_bl {b}:wt (.bl b)=5:=by rw [wt]
@[simp] theorem wt_int {b}:wt (.int b)=40:=by rw [wt]
@[simp] theorem wt_str {b}:wt (.str b)=b.length+2:=by rw [wt]
@[simp] theorem wt_tup {b}:wt (.tup b)=3+wts b:=by rw [wt]
@[simp] theorem wt_lst {b}:wt (.lst b)=3+wts b:=by rw [wt]
@[simp] theorem xb7:wts []=0:=by rw [wts]
@[simp] theorem xa5 {x r}:wts (x::r)=wt x+2+wts r:=by rw [wts]
@[simp] theorem xd8 {a b}:wts (a++b)=wts a+wts b:=by
 induction a with
 | nil=>simp
 | cons x r ih=>simp [ih];lia
@[simp] theorem xh3 {B}:okv B .non=true:=by rw [okv] <;> simp
@[simp] theorem okv_bl {B b}:okv B (.bl b)=true:=by rw [okv] <;> simp
@[simp] theorem yF7 {B i}:okv B (.int i)=decide (i.natAbs≤B):=by rw [okv]
@[simp] theorem zs0 {B cs}:okv B (.str cs)=cs.all okC:=by rw [okv]
theorem yq5 {B xs}:okvs B xs=xs.all (okv B):=by
 induction xs with
 | nil=>rw [okvs];rfl
 | cons x r ih=>rw [okvs,ih];rfl
@[simp] theorem zq2 {B xs}:okv B (.tup xs)=xs.all (okv B):=by rw [okv,yq5]
@[simp] theorem xh1 {B xs}:okv B (.lst xs)=xs.all (okv B):=by rw [okv,yq5]
mutual
theorem okv_mono {B B':Nat} (h:B≤B'):∀ v,okv B v=true→okv B' v=true
 | .non,_=>by simp
 | .bl _,_=>by simp
 | .int i,g=>by simp at g ⊢;lia
 | .str _,g=>by simpa using g
 | .tup xs,g=>by rw [okv] at g ⊢;exact okvs_mono h xs g
 | .lst xs,g=>by rw [okv] at g ⊢;exact okvs_mono h xs g
theorem okvs_mono {B B':Nat} (h:B≤B'):∀ v,okvs B v=true→okvs B' v=true
 | [],_=>by rw [okvs]
 | x::r,g=>by
  rw [okvs,Bool.and_eq_true] at g ⊢
  exact ⟨okv_mono h x g.1,okvs_mono h r g.2⟩
end
theorem zH9 {xs:List PV} {d:Nat}:deps xs≤d↔∀ x∈xs,dep x≤d:=by
 induction xs with
 | nil=>simp
 | cons x r ih=>simp [ih,Nat.max_le]
theorem yg0 {i:Int} (h:i.natAbs<10 ^ 38):(zI6 i).length≤39:=by
 unfold zI6
 rw [List.length_map,String.length_toList]
 have q:∀ n:Nat,n<10 ^ 38→(Nat.repr n).length≤38:=fun n hn=>by
  exact (Nat.length_repr_le_iff (by lia)).mpr hn
 cases i with
 | ofNat n =>
  show (Nat.repr n).length≤39
  have:=q n h
  lia
 | negSucc n =>
  have e:toString (Int.negSucc n) = "-" ++ Nat.repr (n+1):=rfl
  rw [e,String.length_append]
  have:=q (n+1) h
  have e1 : "-".length=1:=rfl
  lia
theorem zF6:∀ ts:List (List Nat),(zl4 ts).length≤(ts.map fun t=>t.length+2).sum
 | []=>by simp [zl4]
 | [x]=>by simp [zl4]
 | x::y::r=>by
  have:=zF6 (y::r)
  rw [zl4]
  ·simp at this ⊢;lia
  ·simp
mutual
theorem shown_ok {B:Nat} (hB:B<10 ^ 38):∀ v,okv B v=true→∃ t,shownP v=some t∧t.length≤wt v
 | .non,_=>⟨_,by rw [shownP],by simp⟩
 | .bl true,_=>⟨_,by rw [shownP],by simp [yy8]⟩
 | .bl false,_=>⟨_,by rw [shownP],by simp [ye5]⟩
 | .int i,h=>by
  simp at h
  refine ⟨zI6 i,?_,?_⟩
  ·rw [shownP,if_pos]
   by_cases h0:i.natAbs=0
   ·rw [h0];decide
   ·rw [Nat.log2_lt h0]
    exact Nat.lt_of_le_of_lt h (Nat.lt_trans hB (by decide +kernel))
  ·have:=yg0 (i:=i) (by lia);simp;lia
 | .str cs,h=>by
  simp only [zs0] at h
  exact ⟨_,by rw [shownP,if_pos h],by simp⟩
 | .tup xs,h=>by
  rw [okv] at h
  obtain ⟨ts,h1,h2⟩:=showns_ok hB xs h
  refine ⟨zK7 ts,by rw [shownP,h1],?_⟩
  have:=zF6 ts
  unfold zK7
  split <;> simp <;> lia
 | .lst xs,h=>by
  rw [okv] at h
  obtain ⟨ts,h1,h2⟩:=showns_ok hB xs h
  refine ⟨zL4 ts,by rw [shownP,h1],?_⟩
  have:=zF6 ts
  unfold zL4
  simp;lia
theorem showns_ok {B:Nat} (hB:B<10 ^ 38):∀ v,okvs B v=true→∃ ts,shownPs v=some ts∧(ts.map fun t=>t.length+2).sum≤wts v
 | [],_=>⟨[],by rw [shownPs],by simp⟩
 | x::r,h=>by
  rw [okvs,Bool.and_eq_true] at h
  obtain ⟨t,h1,h2⟩:=shown_ok hB x h.1
  obtain ⟨ts,h3,h4⟩:=showns_ok hB r h.2
  exact ⟨t::ts,by rw [shownPs,h1,h3],by simp;lia⟩
end
theorem yI7 {B:Nat} {v:PV} (hB:B<10 ^ 38) (h:okv B v=true) (hd:dep v≤100) (hw:wt v≤16777216):∃ t,zF1 v=some t:=by
 obtain ⟨t,h1,h2⟩:=shown_ok hB v h
 have q:zs6 v=some t:=by
  unfold zs6
  rw [h1]
  exact if_pos ⟨hd,zj1 (by lia)⟩
 cases v with
 | bl b=>cases b <;> exact ⟨_,rfl⟩
 | _=>exact ⟨t,q⟩
end OR
namespace OR
mutual
noncomputable def hasS (m:Nat):PV→Bool
 | .str cs=>decide (cs=[m])
 | .tup xs=>hasSs m xs
 | .lst xs=>hasSs m xs
 | .non=>false
 | .bl _=>false
 | .int _=>false
noncomputable def hasSs (m:Nat):List PV→Bool
 | []=>false
 | x::r=>hasS m x || hasSs m r
end
def Sep (u:List Nat):Prop:=∀ c r,u=c::r→c=44∨c=41∨c=93
theorem yE4:Sep []:=fun c r h=>by cases h
theorem yy4 {c r} (h:c=44∨c=41∨c=93):Sep (c::r):=fun d s e=>by cases e;exact h
theorem zm5 {m x:Nat} {u:List Nat} (h:x≠39):zf9 [39,m,39] (x::u)=zf9 [39,m,39] u:=by
 rw [zf9]
 have:List.isPrefixOf [39,m,39] (x::u)=false:=by
  simp [List.isPrefixOf,Ne.symm h]
 rw [this,Bool.false_or]
theorem zM4 {m:Nat} {u:List Nat}:∀ {t:List Nat},(∀ x∈t,x≠39)→zf9 [39,m,39] (t++u)=zf9 [39,m,39] u
 | [],_=>rfl
 | x::r,h=>by
  rw [List.cons_append,zm5 (h x (by simp)),zM4 fun y hy=>h y (List.mem_cons_of_mem _ hy)]
theorem yl7 {m:Nat} {u:List Nat} (hs:Sep u) (hm:m≠44∧m≠41∧m≠93):zf9 [39,m,39] (39::u)=zf9 [39,m,39] u:=by
 rw [zf9]
 have:List.isPrefixOf [39,m,39] (39::u)=false:=by
  cases u with
  | nil=>rfl
  | cons c r =>
   have hc:=hs c r rfl
   have:m≠c:=by lia
   simp [List.isPrefixOf,this]
 rw [this,Bool.false_or]
theorem yL1 {m:Nat} {cs u:List Nat} (h:cs.all okC=true) (hs:Sep u) (hm:m≠44∧m≠41∧m≠93∧m≠39):zf9 [39,m,39] ([39]++cs++[39]++u)=(decide (cs=[m]) || zf9 [39,m,39] u):=by
 have h9:∀ x∈cs,x≠39:=fun x hx=>by
  have:=List.all_eq_true.mp h x hx
  unfold okC at this
  simp at this
  lia
 have e:[39]++cs++[39]++u=39::(cs++39::u):=by simp
 rw [e,zf9,zM4 h9,yl7 hs ⟨hm.1,hm.2.1,hm.2.2.1⟩]
 congr 1
 match cs,h9 with
 | [],_=>simp [List.isPrefixOf,hm.2.2.2]
 | [c],_ =>
  by_cases e:c=m
  ·simp [List.isPrefixOf,e]
  ·simp [List.isPrefixOf,e]
   exact fun h=>e h.symm
 | c::d::r,h9 =>
  have:d≠39:=h9 d (by simp)
  simp [List.isPrefixOf,Ne.symm this]
theorem yo8 (i:Int):∀ x∈zI6 i,x≠39:=by
 have q:∀ n:Nat,∀ c∈(Nat.repr n).toList,c.toNat≠39:=fun n c hc=>by
  rw [Nat.repr_eq_ofList_toDigits,String.toList_ofList] at hc
  have:=Nat.isDigit_of_mem_toDigits (by lia) (by lia) hc
  rw [Char.isDigit_iff_toNat] at this
  have h0:'0'.toNat=48:=rfl
  lia
 intro x hx
 unfold zI6 at hx
 obtain ⟨c,hc,rfl⟩:=List.mem_map.mp hx
 cases i with
 | ofNat n=>exact q n c hc
 | negSucc n =>
  have e:toString (Int.negSucc n) = "-" ++ Nat.repr (n+1):=rfl
  rw [e,String.toList_append,List.mem_append] at hc
  rcases hc with hc | hc
  ·have:c='-':=by simpa using hc
   subst this;decide
  ·exact q _ c hc
mutual
theorem occ_shown {m:Nat} (hm:m≠44∧m≠41∧m≠93∧m≠39):∀ (v:PV) (t u:List Nat),shownP v=some t→Sep u→zf9 [39,m,39] (t++u)=(hasS m v || zf9 [39,m,39] u)
 | .non,t,u,h,hs=>by
  rw [shownP] at h;cases h
  rw [hasS,Bool.false_or]
  exact zM4 (by decide)
 | .bl true,t,u,h,hs=>by
  rw [shownP] at h;cases h
  rw [hasS,Bool.false_or]
  exact zM4 (by decide)
 | .bl false,t,u,h,hs=>by
  rw [shownP] at h;cases h
  rw [hasS,Bool.false_or]
  exact zM4 (by decide)
 | .int i,t,u,h,hs=>by
  rw [shownP] at h
  split at h
  ·cases h
   rw [hasS,Bool.false_or]
   exact zM4 (yo8 i)
  ·cases h
 | .str cs,t,u,h,hs=>by
  rw [shownP] at h
  split at h
  ·rename_i hok
   cases h
   rw [hasS]
   exact yL1 hok hs hm
  ·cases h
 | .tup xs,t,u,h,hs=>by
  rw [shownP] at h
  cases e:shownPs xs with
  | none=>rw [e] at h;cases h
  | some ts =>
   rw [e] at h
   cases h
   rw [hasS]
   unfold zK7
   split
   ·rw [show [40]++zl4 ts++[44,41]++u=40::(zl4 ts++(44::41::u)) by simp,zm5 (by decide),occ_shownL hm xs ts _ e (yy4 (.inl rfl)),zm5 (by decide),zm5 (by decide)]
   ·rw [show [40]++zl4 ts++[41]++u=40::(zl4 ts++(41::u)) by simp,zm5 (by decide),occ_shownL hm xs ts _ e (yy4 (.inr (.inl rfl))),zm5 (by decide)]
 | .lst xs,t,u,h,hs=>by
  rw [shownP] at h
  cases e:shownPs xs with
  | none=>rw [e] at h;cases h
  | some ts =>
   rw [e] at h
   cases h
   rw [hasS]
   unfold zL4
   rw [show [91]++zl4 ts++[93]++u=91::(zl4 ts++(93::u)) by simp,zm5 (by decide),occ_shownL hm xs ts _ e (yy4 (.inr (.inr rfl))),zm5 (by decide)]
theorem occ_shownL {m:Nat} (hm:m≠44∧m≠41∧m≠93∧m≠39):∀ (xs:List PV) (ts:List (List Nat)) (u:List Nat),shownPs xs=some ts→Sep u→zf9 [39,m,39] (zl4 ts++u)=(hasSs m xs || zf9 [39,m,39] u)
 | [],ts,u,h,hs=>by
  rw [shownPs] at h;cases h
  rw [hasSs,zl4,List.nil_append,Bool.false_or]
 | x::r,ts,u,h,hs=>by
  rw [shownPs] at h
  cases e:shownP x with
  | none=>rw [e] at h;cases h
  | some t =>
   rw [e] at h
   cases e2:shownPs r with
   | none=>rw [e2] at h;cases h
   | some tr =>
    rw [e2] at h
    cases h
    rw [hasSs]
    cases tr with
    | nil =>
     have hr:r=[]:=by
      cases r with
      | nil=>rfl
      | cons y q =>
       rw [shownPs] at e2
       cases e3:shownP y with
       | none=>rw [e3] at e2;cases e2
       | some t3 =>
        rw [e3] at e2
        cases e4:shownPs q with
        | none=>rw [e4] at e2;cases e2
        | some t4=>rw [e4] at e2;cases e2
     subst hr
     rw [zl4,hasSs,Bool.or_false,occ_shown hm x t u e hs]
    | cons t2 tr =>
     rw [zl4,show t++[44,32]++zl4 (t2::tr)++u=t++(44::32::(zl4 (t2::tr)++u)) by simp,occ_shown hm x t _ e (yy4 (.inl rfl)),zm5 (by decide),zm5 (by decide),occ_shownL hm r _ u e2 hs,Bool.or_assoc]
     simp
end
theorem yx7 {m:Nat} (hm:m≠44∧m≠41∧m≠93∧m≠39) {v:PV} {t:List Nat} (hb:∀ b,v≠.bl b) (h:zF1 v=some t):zf9 [39,m,39] t=hasS m v:=by
 have h:zs6 v=some t:=by
  cases v with
  | bl b=>exact absurd rfl (hb b)
  | _=>exact h
 unfold zs6 at h
 cases e:shownP v with
 | none=>rw [e] at h;cases h
 | some t' =>
  rw [e] at h
  dsimp only at h
  split at h
  ·cases h
   have:=occ_shown hm v t [] e yE4
   rw [List.append_nil] at this
   rw [this,zf9]
   simp
  ·cases h
theorem zA2:∀ a:List Nat,strLt a a=false
 | []=>rfl
 | x::r=>by rw [strLt,if_neg (Nat.lt_irrefl _),if_neg (Nat.lt_irrefl _)];exact zA2 r
theorem zu7:∀ {a b:List Nat},strLt a b=false→strLt b a=false→a=b
 | [],[],_,_=>rfl
 | [],_::_,h,_=>by rw [strLt] at h;cases h
 | _::_,[],_,h=>by rw [strLt] at h;cases h
 | x::r,y::s,h,g=>by
  rw [strLt] at h g
  by_cases c:x<y
  ·rw [if_pos c] at h;cases h
  ·by_cases c2:y<x
   ·rw [if_pos c2] at g;cases g
   ·rw [if_neg c,if_neg c2] at h
    rw [if_neg c2,if_neg c] at g
    have:x=y:=by lia
    rw [this,zu7 h g]
theorem zv9:∀ {a b c:List Nat},strLt a b=true→strLt b c=true→strLt a c=true
 | [],[],_,h,_=>by rw [strLt] at h;cases h
 | _::_,[],_,h,_=>by rw [strLt] at h;cases h
 | _,_::_,[],_,h=>by rw [strLt] at h;cases h
 | [],_::_,_::_,_,_=>by rw [strLt]
 | x::r,y::s,z::t,h,g=>by
  rw [strLt] at h g ⊢
  by_cases c1:x<y
  ·by_cases c2:y<z
   ·rw [if_pos (by lia)]
   ·by_cases c3:z<y
    ·rw [if_neg c2,if_pos c3] at g;cases g
    ·rw [if_pos (by lia)]
  ·by_cases c1':y<x
   ·rw [if_neg c1,if_pos c1'] at h;cases h
   ·rw [if_neg c1,if_neg c1'] at h
    have e:x=y:=by lia
    subst e
    by_cases c2:x<z
    ·rw [if_pos c2]
    ·by_cases c3:z<x
     ·rw [if_neg c2,if_pos c3] at g;cases g
     ·rw [if_neg c2,if_neg c3] at g ⊢
      exact zv9 h g
theorem zO4 {i x:List Nat}:∀ {d:List (List Nat)},x∈zJ2 i d↔x=i∨x∈d
 | []=>by simp [zJ2]
 | y::r=>by
  rw [zJ2]
  split
  ·simp
  ·split
   ·rw [List.mem_cons,zO4 (d:=r),List.mem_cons]
    constructor
    ·rintro (h | h | h)
     ·exact .inr (.inl h)
     ·exact .inl h
     ·exact .inr (.inr h)
    ·rintro (h | h | h)
     ·exact .inr (.inl h)
     ·exact .inl h
     ·exact .inr (.inr h)
   ·rename_i h1 h2
    have:i=y:=zu7 (by simpa using h1) (by simpa using h2)
    subst this
    simp
theorem yj9 {i:List Nat}:∀ {d:List (List Nat)},d.Pairwise (fun a b=>strLt a b=true)→(zJ2 i d).Pairwise (fun a b=>strLt a b=true)
 | [],_=>by simp [zJ2]
 | y::r,h=>by
  rw [List.pairwise_cons] at h
  rw [zJ2]
  split
  ·rename_i c
   rw [List.pairwise_cons,List.pairwise_cons]
   refine ⟨fun x hx=>?_,h⟩
   rcases List.mem_cons.mp hx with rfl | hx
   ·exact c
   ·exact zv9 c (h.1 x hx)
  ·split
   ·rename_i c
    rw [List.pairwise_cons]
    refine ⟨fun x hx=>?_,yj9 h.2⟩
    rcases zO4.mp hx with rfl | hx
    ·exact c
    ·exact h.1 x hx
   ·rw [List.pairwise_cons];exact h
theorem zE2 (ns:List (List Nat)):(ns.foldl (fun d i=>zJ2 i d) []).Pairwise (fun a b=>strLt a b=true)∧∀ x,x∈ns.foldl (fun d i=>zJ2 i d) []↔x∈ns:=by
 have:∀ (ns d:List (List Nat)),d.Pairwise (fun a b=>strLt a b=true)→(ns.foldl (fun d i=>zJ2 i d) d).Pairwise (fun a b=>strLt a b=true)∧∀ x,x∈ns.foldl (fun d i=>zJ2 i d) d↔x∈d∨x∈ns:=by
  intro ns
  induction ns with
  | nil=>intro d h;exact ⟨h,fun x=>by simp⟩
  | cons i r ih =>
   intro d h
   obtain ⟨a,b⟩:=ih _ (yj9 (i:=i) h)
   refine ⟨a,fun x=>?_⟩
   rw [List.foldl_cons,b,zO4,List.mem_cons]
   constructor
   ·rintro ((h | h) | h)
    ·exact .inr (.inl h)
    ·exact .inl h
    ·exact .inr (.inr h)
   ·rintro (h | h | h)
    ·exact .inl (.inr h)
    ·exact .inl (.inl h)
    ·exact .inr h
 obtain ⟨a,b⟩:=this ns [] .nil
 exact ⟨a,fun x=>by rw [b];simp⟩
theorem zZ7:∀ {a b:List (List Nat)},a.Pairwise (fun a b=>strLt a b=true)→b.Pairwise (fun a b=>strLt a b=true)→(∀ x,x∈a↔x∈b)→a=b
 | [],[],_,_,_=>rfl
 | [],y::_,_,_,h=>by have:=(h y).mpr (by simp);cases this
 | x::_,[],_,_,h=>by have:=(h x).mp (by simp);cases this
 | x::r,y::q,ha,hb,h=>by
  rw [List.pairwise_cons] at ha hb
  have no:∀ {u v:List Nat},strLt u v=true→strLt v u=true→False:=fun {u v} g1 g2=>by
   have:=zv9 g1 g2
   rw [zA2] at this;cases this
  have e:x=y:=by
   rcases List.mem_cons.mp ((h x).mp (by simp)) with e | e
   ·exact e
   ·rcases List.mem_cons.mp ((h y).mpr (by simp)) with e2 | e2
    ·exact e2.symm
    ·exact (no (hb.1 x e) (ha.1 y e2)).elim
  subst e
  congr 1
  refine zZ7 ha.2 hb.2 fun z=>?_
  constructor
  ·intro hz
   rcases List.mem_cons.mp ((h z).mp (List.mem_cons_of_mem _ hz)) with e | e
   ·subst e;exact (no (ha.1 z hz) (ha.1 z hz)).elim
   ·exact e
  ·intro hz
   rcases List.mem_cons.mp ((h z).mpr (List.mem_cons_of_mem _ hz)) with e | e
   ·subst e;exact (no (hb.1 z hz) (hb.1 z hz)).elim
   ·exact e
theorem yw8 {a b:List Nat} (h:strLt a b=true):strLt b a=false:=by
 cases c:strLt b a with
 | false=>rfl
 | true=>have:=zv9 h c;rw [zA2] at this;cases this
theorem zE8 {i:List Nat}:∀ {d:List (List Nat)},(zV6 i d).Perm (i::d)
 | []=>by rw [zV6]
 | x::r=>by
  rw [zV6]
  split
  ·exact List.Perm.refl _
  ·exact ((zE8 (d:=r)).cons x).trans (List.Perm.swap i x r)
theorem yr9 {i:List Nat}:∀ {d:List (List Nat)},d.Pairwise (fun a b=>strLt b a=false)→(zV6 i d).Pairwise (fun a b=>strLt b a=false)
 | [],_=>by rw [zV6];simp
 | x::r,h=>by
  rw [List.pairwise_cons] at h
  rw [zV6]
  split
  ·rename_i c
   rw [List.pairwise_cons]
   refine ⟨fun b hb=>?_,List.pairwise_cons.mpr h⟩
   rcases List.mem_cons.mp hb with rfl | hb
   ·exact yw8 c
   ·have h1:=h.1 b hb
    cases c2:strLt b i with
    | false=>rfl
    | true=>rw [zv9 c2 c] at h1;cases h1
  ·rename_i c
   rw [List.pairwise_cons]
   refine ⟨fun b hb=>?_,yr9 h.2⟩
   rcases List.mem_cons.mp (zE8.mem_iff.mp hb) with rfl | hb
   ·simpa using c
   ·exact h.1 b hb
theorem yJ3 (ns:List (List Nat)):(ns.foldl (fun d i=>zV6 i d) []).Pairwise (fun a b=>strLt b a=false)∧(ns.foldl (fun d i=>zV6 i d) []).Perm ns:=by
 have:∀ (ns d:List (List Nat)),d.Pairwise (fun a b=>strLt b a=false)→(ns.foldl (fun d i=>zV6 i d) d).Pairwise (fun a b=>strLt b a=false)∧(ns.foldl (fun d i=>zV6 i d) d).Perm (d++ns):=by
  intro ns
  induction ns with
  | nil=>intro d h;exact ⟨h,by simp⟩
  | cons i r ih =>
   intro d h
   obtain ⟨a,b⟩:=ih _ (yr9 (i:=i) h)
   refine ⟨a,b.trans ?_⟩
   refine ((zE8 (i:=i) (d:=d)).append_right r).trans ?_
   exact (List.perm_middle (a:=i) (l₁:=d) (l₂:=r)).symm
 obtain ⟨a,b⟩:=this ns [] .nil
 exact ⟨a,by simpa using b⟩
theorem yb2:∀ {a b:List (List Nat)},a.Pairwise (fun a b=>strLt b a=false)→b.Pairwise (fun a b=>strLt b a=false)→a.Perm b→a=b
 | [],b,_,_,p=>by rw [p.nil_eq]
 | x::r,[],_,_,p=>by have:=p.length_eq;simp at this
 | x::r,y::q,ha,hb,p=>by
  rw [List.pairwise_cons] at ha hb
  have e:x=y:=by
   rcases List.mem_cons.mp (p.mem_iff.mp (List.mem_cons_self (a:=x) (l:=r))) with e | e
   ·exact e
   ·rcases List.mem_cons.mp (p.mem_iff.mpr (List.mem_cons_self (a:=y) (l:=q))) with e2 | e2
    ·exact e2.symm
    ·exact zu7 (hb.1 x e) (ha.1 y e2)
  subst e
  rw [yb2 ha.2 hb.2 (List.Perm.cons_inv p)]
end OR
namespace L2
open PySem PySem.Spec PyProof.Rows
noncomputable abbrev Key:=Sum Int Str
noncomputable def yg8:Key→Value→Bool
 | .inl k,v=>Value.isInt k v
 | .inr x,v=>Value.isStrOf x v
noncomputable def keyH (w:World):Key→Int
 | .inl k=>hashInt k
 | .inr x=>hashStr w x
theorem zi1:∀ {k:Key} {v:Value},yg8 k v=true→(∃ i t,k=Sum.inl i∧v=Value.int i t)∨(∃ x t,k=Sum.inr x∧v=Value.str x t)
 | .inl i,v,h=>by
  obtain ⟨t,e⟩:=Value.isInt_shape (k:=i) (v:=v) h
  exact .inl ⟨i,t,rfl,e⟩
 | .inr x,v,h=>by
  obtain ⟨t,e⟩:=Value.isStrOf_shape (x:=x) (v:=v) h
  exact .inr ⟨x,t,rfl,e⟩
theorem yk4 (i:Int) (t:Tok):yg8 (.inl i) (.int i t)=true:=by simp [yg8,Value.isInt]
theorem yo7 (x:Str) (t:Tok):yg8 (.inr x) (.str x t)=true:=by simp [yg8,Value.isStrOf]
theorem yX5 (a b:Int):decide ((Sum.inl a:Key)=Sum.inl b)=(a==b):=by
 by_cases e:a=b
 ·subst e;simp
 ·have h:¬ (Sum.inl a:Key)=Sum.inl b:=fun q=>e (Sum.inl.inj q)
  rw [decide_eq_false h]
  exact (beq_eq_false_iff_ne.mpr e).symm
theorem yY9 (a b:Str):decide ((Sum.inr a:Key)=Sum.inr b)=decide (a=b):=by
 by_cases e:a=b
 ·subst e;simp
 ·have h:¬ (Sum.inr a:Key)=Sum.inr b:=fun q=>e (Sum.inr.inj q)
  rw [decide_eq_false h,decide_eq_false e]
theorem yX3 (a:Int) (b:Str):decide ((Sum.inl a:Key)=Sum.inr b)=false:=decide_eq_false (fun q=>nomatch q)
theorem yY2 (a:Str) (b:Int):decide ((Sum.inr a:Key)=Sum.inl b)=false:=decide_eq_false (fun q=>nomatch q)
noncomputable def zj4 (prog:Program) (w:World):PySem.KeyKind prog w Key where
 is:=yg8
 hash:=keyH w
 inj:=fun v a b ha hb=>by
  rcases zi1 ha with ⟨i,t,rfl,rfl⟩ | ⟨x,t,rfl,rfl⟩
  ·rcases zi1 hb with ⟨j,u,rfl,e⟩ | ⟨y,u,rfl,e⟩
   ·injection e with e1 _;rw [e1]
   ·exact nomatch e
  ·rcases zi1 hb with ⟨j,u,rfl,e⟩ | ⟨y,u,rfl,e⟩
   ·exact nomatch e
   ·injection e with e1 _;rw [e1]
 byValue:=fun k v h=>by
  rcases zi1 h with ⟨i,t,rfl,rfl⟩ | ⟨x,t,rfl,rfl⟩ <;> rfl
 pyHash:=fun hv h=>by
  rcases zi1 hv with ⟨i,t,rfl,rfl⟩ | ⟨x,t,rfl,rfl⟩
  ·exact wpAny_pyHash_int h
  ·exact wpAny_pyHash_str h
 eqBool:=fun hu hv h=>by
  rcases zi1 hu with ⟨i,t,rfl,rfl⟩ | ⟨x,t,rfl,rfl⟩
  ·rcases zi1 hv with ⟨j,u,rfl,rfl⟩ | ⟨y,u,rfl,rfl⟩
   ·rw [yX5] at h;exact wpAny_eqBool_int h
   ·rw [yX3] at h;exact SeqAt.EqAt.int_str i t y u _ _ _ _ h
  ·rcases zi1 hv with ⟨j,u,rfl,rfl⟩ | ⟨y,u,rfl,rfl⟩
   ·rw [yY2] at h;exact SeqAt.EqAt.str_int x t j u _ _ _ _ h
   ·rw [yY9] at h;exact wpAny_eqBool_str h
 «strs»:=fun k x t v h=>by
  rcases zi1 h with ⟨i,u,rfl,e⟩ | ⟨y,u,rfl,e⟩
  ·exact nomatch e
  ·injection e with e1 _
   subst e1
   cases v <;> rfl
theorem zX1 (prog:Program) (w:World) (i:Int) (t:Tok):(zj4 prog w).is (.inl i) (.int i t)=true:=yk4 i t
theorem zY1 (prog:Program) (w:World) (x:Str) (t:Tok):(zj4 prog w).is (.inr x) (.str x t)=true:=yo7 x t
inductive V where
 | non | bl (b:Bool) | int (i:Int) | str (x:Str) | byt (b:Array UInt8) | flt (b:UInt64) | ref (a:Addr) | ty (n:String)
 deriving DecidableEq
def RelV:V→Value→Prop
 | .non,u=>u=Value.none
 | .bl b,u=>u=Value.bool b
 | .int i,u=>∃ t,u=Value.int i t
 | .str x,u=>∃ t,u=Value.str x t
 | .byt b,u=>∃ t,u=Value.bytes b t
 | .flt b,u=>∃ t,u=Value.float b t
 | .ref a,u=>u=Value.ref a
 | .ty n,u=>u=Value.type n
noncomputable abbrev zh0:List V→List Value→Prop:=Paired RelV
theorem zh0.length {xs:List V} {us:List Value} (r:zh0 xs us):xs.length=us.length:=Paired.length r
theorem zh0.get:∀ {xs:List V} {us:List Value} {i:Nat} {x:V},zh0 xs us→xs[i]?=some x→∃ u,us[i]?=some u∧RelV x u
 | _,_,_,_,.nil,e=>by simp at e
 | _,_,0,_,.cons r _,e=>by simp at e;subst e;exact ⟨_,rfl,r⟩
 | _,_,i+1,x,.cons _ t,e=>by
  obtain ⟨u,h1,h2⟩:=zh0.get (i:=i) (x:=x) t (by simpa using e)
  exact ⟨u,by simpa using h1,h2⟩
theorem zh0.set {x:V} {u:Value} (r:RelV x u):∀ {xs:List V} {us:List Value} (i:Nat),zh0 xs us→zh0 (xs.set i x) (us.set i u)
 | _,_,_,.nil=>.nil
 | _,_,0,.cons _ t=>.cons r t
 | _,_,i+1,.cons q t=>.cons q (zh0.set r i t)
theorem zh0.append:∀ {xs ys:List V} {us ws:List Value},zh0 xs us→zh0 ys ws→zh0 (xs++ys) (us++ws)
 | _,_,_,_,.nil,s=>s
 | _,_,_,_,.cons r t,s=>.cons r (zh0.append t s)
theorem zh0.take:∀ {xs:List V} {us:List Value} (n:Nat),zh0 xs us→zh0 (xs.take n) (us.take n)
 | _,_,0,_=>.nil
 | _,_,_+1,.nil=>.nil
 | _,_,n+1,.cons r t=>.cons r (zh0.take n t)
theorem zh0.drop:∀ {xs:List V} {us:List Value} (n:Nat),zh0 xs us→zh0 (xs.drop n) (us.drop n)
 | _,_,0,r=>r
 | _,_,_+1,.nil=>.nil
 | _,_,n+1,.cons _ t=>zh0.drop n t
def yf5:Option V→Option Value→Prop
 | some v,some u=>RelV v u
 | none,none=>True
 | _,_=>False
def KV {κ:Type}:List (κ×V)→List (κ×Value)→Prop:=Paired fun (p:κ×V) (q:κ×Value)=>p.1=q.1∧RelV p.2 q.2
noncomputable def kV:Key→V
 | .inl i=>.int i
 | .inr x=>.str x
inductive HO where
 /-- a list -/
 | lst (xs:List V)
 /-- a tuple (never changes) -/
 | tup (xs:List V)
 /-- a dict whose keys are ints and texts;one whose keys are tuples of ints and texts (the empty one is both) -/
 | dK (kvs:List (Key×V)) | dT (kvs:List (List Key×V))
 /-- a set of ints: its members,its size -/
 | set (S:Int→Bool) (n:Nat)
 /-- an instance of the class at C,its dict at dx,its attributes -/
 | ins (C dx:Addr) (fs:List (Str×V))
 /-- the dict of the instance at x -/
 | own (x:Addr)
 /-- the dict of an exception -/
 | xd (fs:List (Str×V))
 /-- a bound method,f of x -/
 | met (f x:Addr)
 /-- a range object lo,lo+1,.. below hi -/
 | rng (lo hi:Int)
 /-- a thing that is known to the object (the script;a dict while a loop walks it): read,never written while it is so -/
 | frz (o:Obj) (u:HO)
 /-- a code object's table -/
 | tbl (ps:Array Value)
 /-- any other thing,by what is true of its one object (a def of one's own: SetO a S n:=HO.ext fun h=>..) -/
 | ext (φ:Heap→Prop)
noncomputable abbrev Hp:=Addr→Option HO
noncomputable def upd (H:Hp) (a:Addr) (o:HO):Hp:=fun b=>if b=a then some o else H b
theorem zd3 {H:Hp} {a:Addr} {o:HO}:upd H a o a=some o:=by unfold upd;rw [if_pos rfl]
theorem zd7 {H:Hp} {a b:Addr} {o:HO} (h:b≠a):upd H a o b=H b:=by unfold upd;rw [if_neg h]
theorem xg4 {H:Hp} {a b:Addr} {o u:HO} (h:H a=some o) (h':H b=some u) (d:o≠u):a≠b:=by
 intro e;subst e;rw [h] at h';exact d (Option.some.inj h')
theorem zn8 {H:Hp} {a b:Addr} {o:HO} (h:H a=some o) (h':H b=none):a≠b:=by
 intro e;subst e;rw [h] at h';cases h'
def zD4 (h:Heap) (a:Addr) (its:Array Value):Prop:=∃ o,h.get? a=some o∧o.cls=.type "tuple" ∧ o.dict=none∧∃ n,o.data=.seq its n
theorem zD4.new (h:Heap) (its:Array Value):zD4 (h.push { cls:=.type "tuple", data:=.seq its }) h.objs.size its:=⟨_,Heap.get?_push_size _ rfl,rfl,rfl,_,rfl⟩
section
variable (P:Program) (w:World)
def zk0 (H:Hp) (h:Heap) (a:Addr):HO→Prop
 | .lst xs=>xs.length≤sizeLine∧∃ (its:List Value) (n:Nat),zh0 xs its∧h.get? a=some { cls:=.type "list", data:=.seq its.toArray n }
 | .tup xs=>xs.length≤sizeLine∧∃ its:List Value,zh0 xs its∧zD4 h a its.toArray
 | .dK kvs=>kvs.length≤sizeLine∧(a==sysModules)=false∧∃ vs,KV kvs vs∧h.DictOf (zj4 P w) a vs
 | .dT kvs=>kvs.length≤sizeLine∧(a==sysModules)=false∧∃ xs:List (List Key×Addr×Value),
   Paired (fun (p:List Key×V) (q:List Key×Addr×Value)=>p.1=q.1∧H q.2.1=some (.tup (p.1.map kV))∧RelV p.2 q.2.2) kvs xs ∧
   ∃ o es ep,h.get? a=some o∧o.ExactDict∧o.data=.dict es ep∧es.toList=xs.map (entryOfKey (tupleKind (zj4 P w)))∧(xs.map (·.1)).Nodup
 | .set S n=>h.SetOf (intKind P w) a S n
 | .ins C dx fs=>H dx=some (.own a)∧fs.length≤1000∧dx≠a∧h.get? a=some (PySem.W.instObj C dx) ∧
   ∃ mA,h.Ns1 dx mA∧(∀ f,yf5 (fs.lookup f) (mA f))∧PySem.Within mA (fs.map (·.1))
 | .own _=>∃ o,h.get? a=some o
 | .xd fs=>∃ mA,h.Ns1 a mA∧∀ f,yf5 (fs.lookup f) (mA f)
 | .rng lo hi=>∃ t u v,h.get? a=some { cls:=.type "range", data:=.fields #[.int lo t,.int hi u,.int 1 v] }
 | .frz o u=>h.get? a=some o∧zk0 H h a u
 | .tbl ps=>h.get? a=some { cls:=.none,data:=.fields ps }
 | .met f x=>h.get? a=some (PySem.W.methodObj (.ref f) (.ref x))
 | .ext φ=>φ h∧(∃ o,h.get? a=some o)∧∀ h1 h2:Heap,φ h1→(∀ o,h1.get? a=some o→h2.get? a=some o)→φ h2
def HOk (H:Hp) (h:Heap):Prop:=∀ a o,H a=some o→zk0 P w H h a o
end
section
variable {P:Program} {w:World} {H H':Hp} {h h':Heap} {a:Addr} {o:HO}
theorem zk0.lt (x:zk0 P w H h a o):a<h.objs.size:=by
 cases o with
 | lst xs=>obtain ⟨_,_,_,_,e⟩:=x;exact Heap.lt_size e
 | tup xs=>obtain ⟨_,_,_,_,e,_⟩:=x;exact Heap.lt_size e
 | dK kvs=>obtain ⟨_,_,_,_,o,_,_,e,_⟩:=x;exact Heap.lt_size e
 | dT kvs=>obtain ⟨_,_,_,_,o,_,_,e,_⟩:=x;exact Heap.lt_size e
 | set S n=>obtain ⟨o,_,_,_,e,_⟩:=x;exact Heap.lt_size e
 | ins C dx fs=>obtain ⟨_,_,_,e,_⟩:=x;exact Heap.lt_size e
 | own y=>obtain ⟨_,e⟩:=x;exact Heap.lt_size e
 | xd fs=>obtain ⟨_,⟨_,_,_,e,_⟩,_⟩:=x;exact Heap.lt_size e
 | rng lo hi=>obtain ⟨_,_,_,e⟩:=x;exact Heap.lt_size e
 | frz ob u=>obtain ⟨e,_⟩:=x;exact Heap.lt_size e
 | tbl ps=>exact Heap.lt_size (show h.get? a=some _ from x)
 | met f y=>exact Heap.lt_size (show h.get? a=some _ from x)
 | ext φ=>obtain ⟨_,⟨_,e⟩,_⟩:=x;exact Heap.lt_size e
theorem Paired.mapP {α β:Type} {F G:α→β→Prop}:∀ {l₁:List α} {l₂:List β},Paired F l₁ l₂→(∀ a b,F a b→G a b)→Paired G l₁ l₂
 | _,_,.nil,_=>.nil
 | _,_,.cons r t,f=>.cons (f _ _ r) (Paired.mapP t f)
theorem zk0.stay (x:zk0 P w H h a o) (k:∀ b u,(b=a∨H b=some (.own a))→h.get? b=some u→h'.get? b=some u)
  (ho:∀ b,H b=some (.own a)→H' b=some (.own a)) (ht:∀ b xs,H b=some (.tup xs)→H' b=some (.tup xs)):zk0 P w H' h' a o:=by
 induction o with
 | lst xs=>obtain ⟨z,its,n,r,e⟩:=x;exact ⟨z,its,n,r,k _ _ (.inl rfl) e⟩
 | tup xs=>obtain ⟨z,its,r,ob,e,c⟩:=x;exact ⟨z,its,r,ob,k _ _ (.inl rfl) e,c⟩
 | dK kvs=>obtain ⟨z,y,vs,r,ob,es,ep,e,c⟩:=x;exact ⟨z,y,vs,r,ob,es,ep,k _ _ (.inl rfl) e,c⟩
 | dT kvs =>
  obtain ⟨z,y,xs,r,ob,es,ep,e,c⟩:=x
  exact ⟨z,y,xs,Paired.mapP r fun p q z=>⟨z.1,ht _ _ z.2.1,z.2.2⟩,ob,es,ep,k _ _ (.inl rfl) e,c⟩
 | set S n=>obtain ⟨ob,es,ep,t,e,c⟩:=x;exact ⟨ob,es,ep,t,k _ _ (.inl rfl) e,c⟩
 | ins C dx fs =>
  obtain ⟨d,z,ne,e,mA,⟨od,es,ep,e2,c⟩,r⟩:=x
  exact ⟨ho _ d,z,ne,k _ _ (.inl rfl) e,mA,⟨od,es,ep,k _ _ (.inr d) e2,c⟩,r⟩
 | own y=>obtain ⟨ob,e⟩:=x;exact ⟨ob,k _ _ (.inl rfl) e⟩
 | xd fs=>obtain ⟨mA,⟨od,es,ep,e,c⟩,r⟩:=x;exact ⟨mA,⟨od,es,ep,k _ _ (.inl rfl) e,c⟩,r⟩
 | rng lo hi=>obtain ⟨t,u,v,e⟩:=x;exact ⟨t,u,v,k _ _ (.inl rfl) e⟩
 | frz ob u ih=>obtain ⟨e,q⟩:=x;exact ⟨k _ _ (.inl rfl) e,ih q⟩
 | tbl ps =>
  have e:h.get? a=some { cls:=.none,data:=.fields ps }:=x
  show h'.get? a=some { cls:=.none,data:=.fields ps }
  exact k a _ (.inl rfl) e
 | met f y =>
  have e:h.get? a=some (PySem.W.methodObj (.ref f) (.ref y)):=x
  show h'.get? a=some (PySem.W.methodObj (.ref f) (.ref y))
  exact k a _ (.inl rfl) e
 | ext φ=>obtain ⟨p,⟨o,e⟩,st⟩:=x;exact ⟨st _ _ p fun o q=>k _ _ (.inl rfl) q,⟨o,k _ _ (.inl rfl) e⟩,st⟩
theorem HOk.lt (x:HOk P w H h) (e:H a=some o):a<h.objs.size:=(x a o e).lt
theorem HOk.fresh (x:HOk P w H h) (e:h.objs.size≤a):H a=none:=by
 cases q:H a with
 | none=>rfl
 | some u=>exact absurd (Nat.lt_of_lt_of_le (x.lt q) e) (Nat.lt_irrefl _)
theorem HOk.kept (x:HOk P w H h) (k:∀ b u,h.get? b=some u→h'.get? b=some u):HOk P w H h':=fun a o e =>
 (x a o e).stay (fun b u _ q=>k b u q) (fun _ q=>q) fun _ _ q=>q
theorem HOk.laid (x:HOk P w H h) (k:∀ b u,h.get? b=some u→h'.get? b=some u) (hp:h.objs.size≤a) (new:zk0 P w (upd H a o) h' a o):HOk P w (upd H a o) h':=fun b u e=>by
 have hn:=x.fresh hp
 by_cases hb:b=a
 ·subst hb;rw [zd3] at e;cases e;exact new
 ·rw [zd7 hb] at e
  exact (x b u e).stay (fun c v _ q=>k c v q) (fun c q=>by rw [zd7 (zn8 q hn)];exact q) fun c xs q=>by rw [zd7 (zn8 q hn)];exact q
end
def Rd (H:Hp) (a:Addr) (u:HO):Prop:=H a=some u∨∃ o,H a=some (.frz o u)
theorem Rd.ok {P:Program} {w:World} {H:Hp} {h:Heap} {a:Addr} {u:HO} (r:Rd H a u) (x:HOk P w H h):zk0 P w H h a u:=by
 rcases r with r | ⟨o,r⟩
 ·exact x a u r
 ·obtain ⟨_,q⟩:=x a _ r
  exact q
def Mut:Option HO→Prop
 | some (.lst _)=>True
 | some (.dK _)=>True
 | some (.dT _)=>True
 | some (.set _ _)=>True
 | some (.ins _ _ _)=>True
 | some (.ext _)=>True
 | _=>False
section
variable {P:Program} {w:World} {H:Hp} {h h':Heap} {x e:Addr} {o':HO}
theorem HOk.write (ok:HOk P w H h) (mu:Mut (H x)) (he:e=x∨H e=some (.own x)) (k:∀ b u,b≠e→h.get? b=some u→h'.get? b=some u) (heo:∃ u,h'.get? e=some u)
  (new:zk0 P w (upd H x o') h' x o'):HOk P w (upd H x o') h':=fun b u q=>by
 have nown:∀ c y,H c=some (.own y)→c≠x:=fun c y r z=>by subst z;rw [r] at mu;exact mu
 have ntup:∀ c xs,H c=some (.tup xs)→c≠x:=fun c xs r z=>by subst z;rw [r] at mu;exact mu
 by_cases hb:b=x
 ·subst hb;rw [zd3] at q;cases q;exact new
 ·rw [zd7 hb] at q
  by_cases hbe:b=e
  ·have q':H b=some (.own x):=by
    rcases he with z | z
    ·exact absurd (hbe.trans z) hb
    ·rw [hbe];exact z
   rw [q] at q';cases q'
   obtain ⟨v,hv⟩:=heo
   exact ⟨v,by rw [hbe];exact hv⟩
  ·refine (ok b u q).stay (fun c v hc r=>k c v ?_ r) (fun c r=>by rw [zd7 (nown c b r)];exact r) fun c xs r=>by rw [zd7 (ntup c xs r)];exact r
   rcases hc with rfl | hc
   ·exact hbe
   ·rintro rfl
    rcases he with z | z
    ·exact nown c b hc z
    ·rw [hc] at z;cases z;exact hb rfl
end
structure Un (fs ex:List Addr) (H H':Hp) (h h':Heap):Prop where
 keep:∀ b o,h.get? b=some o→H b=none→b∉fs→b∉ex→h'.get? b=some o
 slot:∀ b o,h.get? b=some o→H b=none→b∈fs→b∉ex→∃ sl,h'.get? b=some { o with slots:=sl }
 free:∀ b o,h.get? b=some o→H b=none→b∉ex→H' b=none
 there:∀ b o,h.get? b=some o→b∉ex→∃ o',h'.get? b=some o'
 tups:∀ b xs,H b=some (.tup xs)→H' b=some (.tup xs)
 frzs:∀ b o u,H b=some (.frz o u)→H' b=some (.frz o u)
 tbls:∀ b ps,H b=some (.tbl ps)→∃ more,H' b=some (.tbl (ps++more))
section
variable {fs fs' ex ex':List Addr} {H H1 H2:Hp} {h h1 h2 h':Heap} {a x e:Addr} {o:HO}
theorem Un.any (u:Un fs ex H H1 h h1) {b:Addr} {ob:Obj} (q:h.get? b=some ob) (n:H b=none) (hx:b∉ex):∃ sl,h1.get? b=some { ob with slots:=sl }:=by
 by_cases hb:b∈fs
 ·exact u.slot b ob q n hb hx
 ·exact ⟨ob.slots,u.keep b ob q n hb hx⟩
theorem Un.kept (k:∀ b u,h.get? b=some u→h'.get? b=some u):Un fs ex H H h h' :=
 ⟨fun b ob q _ _ _=>k b ob q,fun b ob q _ _ _=>⟨ob.slots,k b ob q⟩,fun _ _ _ n _=>n,fun b ob q _=>⟨ob,k b ob q⟩,fun _ _ q=>q,fun _ _ _ q=>q,fun _ ps q=>⟨#[],by rw [q];simp⟩⟩
theorem Un.refl:Un fs ex H H h h:=Un.kept fun _ _ q=>q
theorem Un.laid (k:∀ b u,h.get? b=some u→h'.get? b=some u) (hp:h.objs.size≤a) (hn:H a=none):Un fs ex H (upd H a o) h h' where
 keep:=fun b u q _ _ _=>k b u q
 slot:=fun b u q _ _ _=>⟨u.slots,k b u q⟩
 free:=fun b u q n _=>by rw [zd7 (Nat.ne_of_lt (Nat.lt_of_lt_of_le (Heap.lt_size q) hp))];exact n
 there:=fun b u q _=>⟨u,k b u q⟩
 tups:=fun b xs q=>by rw [zd7 (zn8 q hn)];exact q
 frzs:=fun b u xs q=>by rw [zd7 (zn8 q hn)];exact q
 tbls:=fun b ps q=>⟨#[],by rw [zd7 (zn8 q hn),q];simp⟩
theorem Un.write (mu:Mut (H x)) (he:e=x∨H e=some (.own x)) (k:∀ b u,b≠e→h.get? b=some u→h'.get? b=some u) (heo:∃ u,h'.get? e=some u):Un fs ex H (upd H x o) h h':=by
 have hx:∀ b,H b=none→b≠x:=fun b n z=>by subst z;rw [n] at mu;exact mu
 have hb:∀ b,H b=none→b≠e:=fun b n z=>by
  subst z
  rcases he with r | r
  ·exact hx b n r
  ·rw [n] at r;cases r
 have hm:∀ b u,H b=some u→¬ Mut (some u)→b≠x:=fun b u q nm z=>by subst z;rw [q] at mu;exact nm mu
 refine ⟨fun b u q n _ _=>k b u (hb b n) q,fun b u q n _ _=>⟨u.slots,k b u (hb b n) q⟩,fun b u q n _=>by rw [zd7 (hx b n)];exact n,fun b u q _=>?_,
  fun b xs q=>by rw [zd7 (hm b _ q fun z=>z)];exact q,fun b u xs q=>by rw [zd7 (hm b _ q fun z=>z)];exact q,fun b ps q=>⟨#[],by rw [zd7 (hm b _ q fun z=>z),q];simp⟩⟩
 by_cases hbe:b=e
 ·subst hbe;exact heo
 ·exact ⟨u,k b u hbe q⟩
end
noncomputable def trk (h:Heap) (H:Hp):List Addr:=(List.range h.objs.size).filter fun a=>(H a).isSome
noncomputable def yy3 (h:Heap) (H:Hp):Heap:=PySem.W.hideAll h (trk h H)
theorem yq8 (h:Heap) (H:Hp):(yy3 h H).objs.size=h.objs.size:=PySem.W.hideAll_size _ _
theorem yu0 {h:Heap} {H:Hp} {b:Addr} {o:Obj} (e:h.get? b=some o) (n:H b=none):(yy3 h H).get? b=some o :=
 PySem.W.hideAll_get _ e fun hm=>by
  have q:(H b).isSome=true:=(List.mem_filter.mp hm).2
  rw [n] at q;simp at q
theorem yI9 {h:Heap} {H:Hp} {b:Addr} {o:Obj} (e:(yy3 h H).get? b=some o):h.get? b=some o∧H b=none:=by
 have e':h.get? b=some o:=PySem.W.of_hideAll (trk h H) e
 refine ⟨e',?_⟩
 cases q:H b with
 | none=>rfl
 | some x =>
  have hm:b∈trk h H:=List.mem_filter.mpr ⟨List.mem_range.mpr (Heap.lt_size e'),by simp [q]⟩
  have z:(yy3 h H).get? b=none:=PySem.W.hideAll_none (trk h H) hm
  rw [z] at e;cases e
noncomputable def yJ6 (g h:Heap) (L:Addr):List (Addr×Obj):=(List.range h.objs.size).filterMap fun a=>if a=L∨(g.get? a).isSome=true then none else (h.get? a).map fun o=>(a,o)
noncomputable def zp3 (g h:Heap) (L d:Addr):List (Addr×Obj):=(yJ6 g h L).filter fun p=>decide (p.1≠d)
structure Mod (K:Frag) (mg:Str→Option Value) (base:Heap):Prop where
 kin:K.In base
 glob:base.Ns mainGlobals mg
 blt:∃ mb,base.Ns builtinsNs mb∧∀ x:Str,x ≠ "__name__" → mb x=bootBuiltins x
 nolimit:base.NoLimit
structure Cx where
 prog:Program
 w:World
 K:Frag
 mg:Str→Option Value
 base:Heap
 A:Around
 N:List Str
 s₀:Shared
 H₀:Hp
 env:Env
 outer:List Env
 stack:List Env
 ex:List Addr
 fn:Str→Bool
 calm:Bool
 pn:List (Addr×Obj)
 xe:Value→Shared→Prop
noncomputable def frs (l:List Env):List Addr:=l.filterMap (·.frame)
noncomputable abbrev Cx.fs (X:Cx):List Addr:=frs X.outer
def Vis (sc:Scope) (x:Str):Prop:=sc.names.lookup x=some .local∨sc.names.lookup x=some .cell∨sc.names.lookup x=some .free
def Loc (sc:Scope) (x:Str):Prop:=sc.names.lookup x=some .local∨sc.names.lookup x=some .cell
def Look (env:Env) (h:Heap) (m:Str→Option Value) (x:Str) (u:Value):Prop :=
 (env.kindOf x=some .local∧m x=some u)∨((env.kindOf x=some .cell∨env.kindOf x=some .free)∧∃ c,env.cells.lookup x=some c∧h.IsCell c (some u))
structure Cx.Ok (X:Cx):Prop where
 mod:Mod X.K X.mg X.base
 kind:X.env.scope.kind=.function
 glob:X.env.globals=mainGlobals
 blt:X.env.builtins=builtinsNs
 above:X.s₀.heap.objs.size≤X.env.locals
 inj:∀ x y c,X.env.cells.lookup x=some c→X.env.cells.lookup y=some c→x=y
 has:∀ x,(X.env.kindOf x=some .cell∨X.env.kindOf x=some .free)→∃ c,X.env.cells.lookup x=some c
 cab:∀ x c,X.fn x=true→X.env.cells.lookup x=some c→X.s₀.heap.objs.size≤c
 hd:X.calm=true→X.A.handled=none
 frames:X.A.frames=some X.stack
 stk:X.stack=X.outer∨(X.stack=X.env::X.outer∧X.env.frame=some X.env.locals)
 exf:∀ b∈X.ex,b≠X.env.locals∧∀ x c,X.env.cells.lookup x=some c→c≠b
 bs:∀ b o,X.base.get? b=some o→X.s₀.heap.get? b=some o∧X.H₀ b=none
 bsz:X.base.objs.size≤X.s₀.heap.objs.size
 noex:∀ b o,X.base.get? b=some o→b∉X.ex
 exfs:∀ b∈X.ex,b∉X.fs
 funs:X.s₀.heap.FunFrames X.base X.outer
 frf:∀ b∈X.fs,X.H₀ b=none
structure Inv (X:Cx) (pins:List (Addr×Obj)) (σ:List (Option V)) (H:Hp) (s:Shared):Prop where
 ok:X.Ok
 os:s.os=X.s₀.os
 bare:AllBare s.gens
 base:Un X.fs X.ex X.H₀ H X.s₀.heap s.heap
 loc:∃ m,s.heap.Ns X.env.locals m∧∀ (i:Nat) (x:Str) (v:V),X.N[i]?=some x→σ[i]?=some (some v)→Vis X.env.scope x→∃ u,RelV v u∧Look X.env s.heap m x u
 cell:∀ x c,X.env.cells.lookup x=some c→∃ v,s.heap.IsCell c v
 free:H X.env.locals=none
 freeC:∀ x c,X.env.cells.lookup x=some c→H c=none
 pin:∀ p∈X.pn++pins,s.heap.get? p.1=some p.2∧H p.1=none∧p.1≠X.env.locals∧p.1∉X.fs∧∀ v,p.2.data≠.cell v
 hok:HOk X.prog X.w H s.heap
 len:σ.length=X.N.length
section
variable {X:Cx} {pins:List (Addr×Obj)} {σ:List (Option V)} {H H':Hp} {s:Shared} {h':Heap}
theorem Cx.Ok.nofr (ok:X.Ok) {b:Addr} {o:Obj} (e:X.base.get? b=some o):b∉X.fs:=fun hb=>by
 have:=(ok.funs.mem hb).1
 rw [e] at this;cases this
theorem Inv.bs (I:Inv X pins σ H s):∀ b o,X.base.get? b=some o→s.heap.get? b=some o∧H b=none:=fun b o e =>
 ⟨I.base.keep b o (I.ok.bs b o e).1 (I.ok.bs b o e).2 (I.ok.nofr e) (I.ok.noex b o e),I.base.free b o (I.ok.bs b o e).1 (I.ok.bs b o e).2 (I.ok.noex b o e)⟩
theorem Inv.bk (I:Inv X pins σ H s):∀ b o,X.base.get? b=some o→s.heap.get? b=some o:=fun b o e=>(I.bs b o e).1
theorem Inv.mod (I:Inv X pins σ H s):Mod X.K X.mg X.base:=I.ok.mod
theorem Inv.kIn (I:Inv X pins σ H s):X.K.In s.heap:=I.ok.mod.kin.keeps I.bk
theorem Inv.lt (I:Inv X pins σ H s):X.env.locals<s.heap.objs.size:=let ⟨_,hn,_⟩:=I.loc;hn.lt
theorem Inv.sz (I:Inv X pins σ H s):X.s₀.heap.objs.size≤s.heap.objs.size:=Nat.le_trans I.ok.above (Nat.le_of_lt I.lt)
theorem Inv.nofs (I:Inv X pins σ H s) {a:Addr} (h:s.heap.objs.size≤a):a∉X.fs:=fun hb=>by
 obtain ⟨_,o,ho,_⟩:=I.ok.funs.mem hb
 exact absurd (Nat.lt_of_lt_of_le (Heap.lt_size ho) (Nat.le_trans I.sz h)) (Nat.lt_irrefl _)
theorem Inv.cne (I:Inv X pins σ H s):∀ x c,X.env.cells.lookup x=some c→c≠X.env.locals:=fun x c e z=>by
 obtain ⟨v,o,ho,hd⟩:=I.cell x c e
 obtain ⟨m,⟨o',es,ep,ho',hd',_⟩,_⟩:=I.loc
 rw [z,ho'] at ho;cases ho;rw [hd'] at hd;cases hd
theorem Inv.funs (I:Inv X pins σ H s):s.heap.FunFrames X.base X.outer:=by
 have all:∀ (l:List Env),(∀ b∈frs l,b∈X.fs)→X.s₀.heap.FunFrames X.base l→s.heap.FunFrames X.base l:=by
  intro l
  induction l with
  | nil=>intro _ _;trivial
  | cons env r ih =>
   intro hs hl
   obtain ⟨hk,⟨L,o,hf,hn,ho,hd⟩,hr⟩:=hl
   have hL:L∈X.fs:=hs L (by unfold frs;rw [List.filterMap_cons,hf];exact List.mem_cons_self)
   obtain ⟨sl,e⟩:=I.base.slot L o ho (I.ok.frf L hL) hL fun z=>I.ok.exfs L z hL
   exact ⟨hk,⟨L,_,hf,hn,e,hd⟩,ih (fun b hb=>hs b (by unfold frs;rw [List.filterMap_cons,hf];exact List.mem_cons_of_mem _ hb)) hr⟩
 exact all X.outer (fun _ hb=>hb) I.ok.funs
theorem Inv.stack (I:Inv X pins σ H s):s.heap.FunFrames X.base X.stack:=by
 rcases I.ok.stk with e | ⟨e,hf⟩
 ·rw [e];exact I.funs
 ·rw [e]
  obtain ⟨m,hn,_⟩:=I.loc
  refine .cons (by rw [I.ok.kind];decide) hf hn ?_ I.funs
  exact Heap.get?_none_of_le (Nat.le_trans I.ok.bsz I.ok.above)
theorem Inv.stkSub (I:Inv X pins σ H s):∀ b∈frs X.stack,b∈X.env.locals::X.fs:=fun b hb=>by
 rcases I.ok.stk with e | ⟨e,hf⟩
 ·rw [e] at hb;exact List.mem_cons_of_mem _ hb
 ·rw [e] at hb
  unfold frs at hb
  rw [List.filterMap_cons,hf] at hb
  exact hb
theorem Inv.stkFree (I:Inv X pins σ H s):∀ b∈frs X.stack,H b=none:=fun b hb=>by
 rcases List.mem_cons.mp (I.stkSub b hb) with e | hb
 ·rw [e];exact I.free
 ·obtain ⟨_,o,ho,_⟩:=I.ok.funs.mem hb
  exact I.base.free b o ho (I.ok.frf b hb) fun z=>I.ok.exfs b z hb
theorem Inv.step {g':Array GenState} {t':Nat} {d':Drawn} {ch:List Addr} (I:Inv X pins σ H s)
  (hch:∀ b∈ch,(b∈X.ex∨X.s₀.heap.objs.size≤b)∧b≠X.env.locals∧(∀ x c,X.env.cells.lookup x=some c→c≠b)∧∀ p∈X.pn++pins,p.1≠b)
  (keep:∀ b o,b≠X.env.locals→b∉X.fs→b∉ch→s.heap.get? b=some o→H b=none→h'.get? b=some o)
  (slot:∀ b o,b≠X.env.locals→b∈X.fs→b∉ch→s.heap.get? b=some o→H b=none→∃ sl,h'.get? b=some { o with slots:=sl }) (free:∀ b o,b∉ch→s.heap.get? b=some o→H b=none→H' b=none)
  (there:∀ b o,b∉ch→s.heap.get? b=some o→∃ o',h'.get? b=some o')
  (tups:∀ b xs,H b=some (.tup xs)→H' b=some (.tup xs)) (frzs:∀ b o u,H b=some (.frz o u)→H' b=some (.frz o u)) (tbls:∀ b ps,H b=some (.tbl ps)→∃ more,H' b=some (.tbl (ps++more)))
  (ns:∀ m,s.heap.Ns X.env.locals m→h'.Ns X.env.locals m) (hok:HOk X.prog X.w H' h') (hg:AllBare g') :
  Inv X pins σ H' { s with heap:=h',gens:=g',drawn:=d',toks:=t' }:=by
 have neL:∀ b o,X.s₀.heap.get? b=some o→b≠X.env.locals:=fun b o e=>Nat.ne_of_lt (Nat.lt_of_lt_of_le (Heap.lt_size e) I.ok.above)
 have neC:∀ b o,X.s₀.heap.get? b=some o→b∉X.ex→b∉ch:=fun b o e hx hb=>by
  rcases (hch b hb).1 with z | z
  ·exact hx z
  ·exact absurd (Nat.lt_of_lt_of_le (Heap.lt_size e) z) (Nat.lt_irrefl _)
 have cellK:∀ x c,X.env.cells.lookup x=some c→∀ v,s.heap.IsCell c v→h'.IsCell c v:=fun x c e v ⟨o,ho,hd⟩=>by
  have nch:c∉ch:=fun z=>(hch c z).2.2.1 x c e rfl
  by_cases hc:c∈X.fs
  ·obtain ⟨sl,q⟩:=slot c o (I.cne x c e) hc nch ho (I.freeC x c e)
   exact ⟨_,q,hd⟩
  ·exact ⟨o,keep c o (I.cne x c e) hc nch ho (I.freeC x c e),hd⟩
 refine ⟨I.ok,I.os,hg,⟨fun b o e n hb hx=>?_,fun b o e n hb hx=>?_,fun b o e n hx=>?_,fun b o e hx=>?_,fun b xs e=>tups b xs (I.base.tups b xs e),fun b o xs e=>frzs b o xs (I.base.frzs b o xs e),fun b ps e=>?_⟩,?_,fun x c e=>?_,?_,fun x c e=>?_,fun p hp=>?_,hok,I.len⟩
 ·exact keep b o (neL b o e) hb (neC b o e hx) (I.base.keep b o e n hb hx) (I.base.free b o e n hx)
 ·obtain ⟨sl,e1⟩:=I.base.slot b o e n hb hx
  obtain ⟨sl',e2⟩:=slot b _ (neL b o e) hb (neC b o e hx) e1 (I.base.free b o e n hx)
  exact ⟨sl',e2⟩
 ·obtain ⟨o',e1⟩:=I.base.there b o e hx
  exact free b o' (neC b o e hx) e1 (I.base.free b o e n hx)
 ·obtain ⟨o',e1⟩:=I.base.there b o e hx
  exact there b o' (neC b o e hx) e1
 ·obtain ⟨m1,e1⟩:=I.base.tbls b ps e
  obtain ⟨m2,e2⟩:=tbls b _ e1
  exact ⟨m1++m2,by rw [e2,Array.append_assoc]⟩
 ·obtain ⟨m,hn,hl⟩:=I.loc
  refine ⟨m,ns m hn,fun i x v e1 e2 e3=>?_⟩
  obtain ⟨u,r,l⟩:=hl i x v e1 e2 e3
  refine ⟨u,r,?_⟩
  rcases l with l | ⟨k,c,e,z⟩
  ·exact .inl l
  ·exact .inr ⟨k,c,e,cellK x c e _ z⟩
 ·obtain ⟨v,z⟩:=I.cell x c e
  exact ⟨v,cellK x c e v z⟩
 ·obtain ⟨m,⟨o,_,_,ho,_⟩,_⟩:=I.loc
  exact free _ o (fun z=>(hch _ z).2.1 rfl) ho I.free
 ·obtain ⟨v,o,ho,hd⟩:=I.cell x c e
  exact free c o (fun z=>(hch c z).2.2.1 x c e rfl) ho (I.freeC x c e)
 ·obtain ⟨e,n,ne,nf,d⟩:=I.pin p hp
  have nch:p.1∉ch:=fun z=>(hch p.1 z).2.2.2 p hp rfl
  exact ⟨keep p.1 p.2 ne nf nch e n,free p.1 p.2 nch e n,ne,nf,d⟩
theorem Inv.un {t':Nat} (I:Inv X pins σ H s) (u:Un X.fs [] H H' s.heap h') (hok:HOk X.prog X.w H' h'):Inv X pins σ H' { s with heap:=h',toks:=t' }:=by
 obtain ⟨m,⟨o,es,ep,ho,r⟩,_⟩:=id I.loc
 obtain ⟨sl,hL⟩:=u.any ho I.free (by simp)
 exact I.step (g':=s.gens) (d':=s.drawn) (ch:=[]) (fun _ z=>nomatch z) (fun b o _ hb _ e n=>u.keep b o e n hb (by simp)) (fun b o _ hb _ e n=>u.slot b o e n hb (by simp)) (fun b o _ e n=>u.free b o e n (by simp)) (fun b o _ e=>u.there b o e (by simp)) u.tups u.frzs u.tbls (fun m' hm=>by
  obtain ⟨o',es',ep',ho',r'⟩:=hm
  rw [ho] at ho';cases ho'
  exact ⟨_,es',ep',hL,r'⟩) hok I.bare
theorem Inv.call {g':Array GenState} {t':Nat} {d':Drawn} {ch:List Addr} (I:Inv X pins σ H s) (u:Un (frs X.stack) ch H H' s.heap h') (hok:HOk X.prog X.w H' h') (hg:AllBare g')
  (hch:∀ b∈ch,(b∈X.ex∨X.s₀.heap.objs.size≤b)∧b≠X.env.locals∧(∀ x c,X.env.cells.lookup x=some c→c≠b)∧∀ p∈X.pn++pins,p.1≠b) :
  Inv X pins σ H' { s with heap:=h',gens:=g',drawn:=d',toks:=t' }:=by
 obtain ⟨m,⟨o,es,ep,ho,r⟩,_⟩:=id I.loc
 obtain ⟨sl,hL⟩:=u.any ho I.free fun z=>(hch _ z).2.1 rfl
 exact I.step (ch:=ch) hch (fun b o hL hb hc e n=>u.keep b o e n (fun z=>(List.mem_cons.mp (I.stkSub b z)).elim hL hb) hc) (fun b o _ _ hc e n=>u.any e n hc) (fun b o hc e n=>u.free b o e n hc) (fun b o hc e=>u.there b o e hc) u.tups u.frzs u.tbls (fun m' hm=>by
  obtain ⟨o',es',ep',ho',r'⟩:=hm
  rw [ho] at ho';cases ho'
  exact ⟨_,es',ep',hL,r'⟩) hok hg
theorem Inv.turned {t':Nat} {it:Addr} (I:Inv X pins σ H s) (k:∀ b o,b≠it→s.heap.get? b=some o→h'.get? b=some o) (hn:H it=none) (hL:it≠X.env.locals)
  (h1:it∈X.ex∨X.s₀.heap.objs.size≤it) (h2:∀ x c,X.env.cells.lookup x=some c→c≠it) (h3:∀ p∈X.pn++pins,p.1≠it):Inv X pins σ H { s with heap:=h',toks:=t' }:=by
 have nit:∀ b u,H b=some u→b≠it:=fun b u e z=>by rw [z,hn] at e;cases e
 refine I.step (g':=s.gens) (d':=s.drawn) (ch:=[it]) (fun b hb=>?_) (fun b o _ _ hc e _=>k b o (fun z=>hc (by simp [z])) e) (fun b o _ _ hc e _=>⟨o.slots,k b o (fun z=>hc (by simp [z])) e⟩) (fun _ _ _ _ n=>n)
  (fun b o hc e=>⟨o,k b o (fun z=>hc (by simp [z])) e⟩) (fun _ _ e=>e) (fun _ _ _ e=>e) (fun b ps e=>⟨#[],by rw [e];simp⟩) (fun m hm=>?_) (fun b u e=>?_) I.bare
 ·have e:b=it:=by simpa using hb
  subst e
  exact ⟨h1,hL,h2,h3⟩
 ·obtain ⟨o,es,ep,ho,r⟩:=hm
  exact ⟨o,es,ep,k _ o (Ne.symm hL) ho,r⟩
 ·refine (I.hok b u e).stay (fun c v hc q=>k c v ?_ q) (fun _ q=>q) fun _ _ q=>q
  rcases hc with z | z
  ·rw [z];exact nit b u e
  ·exact nit c _ z
theorem Inv.tok (I:Inv X pins σ H s) (t:Nat):Inv X pins σ H { s with toks:=t }:=I.un (h':=s.heap) (t':=t) Un.refl I.hok
theorem Inv.kept {t':Nat} (I:Inv X pins σ H s) (k:∀ b u,s.heap.get? b=some u→h'.get? b=some u):Inv X pins σ H { s with heap:=h',toks:=t' }:=I.un (Un.kept k) (I.hok.kept k)
theorem Inv.laid {a:Addr} {o:HO} {t':Nat} (I:Inv X pins σ H s) (k:∀ b u,s.heap.get? b=some u→h'.get? b=some u) (hp:s.heap.objs.size≤a) (new:zk0 X.prog X.w (upd H a o) h' a o) :
  Inv X pins σ (upd H a o) { s with heap:=h',toks:=t' }:=I.un (Un.laid k hp (I.hok.fresh hp)) (I.hok.laid k hp new)
theorem Inv.write {x e:Addr} {o:HO} {t':Nat} (I:Inv X pins σ H s) (mu:Mut (H x)) (he:e=x∨H e=some (.own x)) (k:∀ b u,b≠e→s.heap.get? b=some u→h'.get? b=some u) (heo:∃ u,h'.get? e=some u)
  (new:zk0 X.prog X.w (upd H x o) h' x o):Inv X pins σ (upd H x o) { s with heap:=h',toks:=t' }:=I.un (Un.write mu he k heo) (I.hok.write mu he k heo new)
theorem Inv.pins_of {pins':List (Addr×Obj)} (I:Inv X pins σ H s) (h:∀ p∈pins',s.heap.get? p.1=some p.2∧H p.1=none∧p.1≠X.env.locals∧p.1∉X.fs∧∀ v,p.2.data≠.cell v):Inv X pins' σ H s :=
 ⟨I.ok,I.os,I.bare,I.base,I.loc,I.cell,I.free,I.freeC,fun p hp=>(List.mem_append.mp hp).elim (fun z=>I.pin p (List.mem_append_left _ z)) (h p),I.hok,I.len⟩
theorem yc6 {N:List Str} (hN:N.Nodup) {i j:Nat} {x:Str} (a:N[i]?=some x) (b:N[j]?=some x):i=j:=by
 obtain ⟨h1,e1⟩:=List.getElem?_eq_some_iff.mp a
 obtain ⟨h2,e2⟩:=List.getElem?_eq_some_iff.mp b
 exact (List.getElem_inj hN).mp (e1.trans e2.symm)
theorem zT7 {M:Model} {A:Around} {E:Value→Shared→Prop} {i:Nat} {x:Str} {v:V} {u:Value} {Q:Unit→Shared→Prop} (I:Inv X pins σ H s) (hN:X.N.Nodup) (hi:X.N[i]?=some x) (hx:Loc X.env.scope x) (r:RelV v u)
  (h:∀ s',Inv X pins (σ.set i (some v)) H s'→(∃ a,Heap.SameBut a s.heap s'.heap∧(a=X.env.locals∨X.env.cells.lookup x=some a))→Q () s') (hf:X.fn x=true∨X.env.scope.names.lookup x=some .local):wpAny M A (storeName X.env x u) Q E s:=by
 obtain ⟨m,hn,hl⟩:=id I.loc
 have hcls:(X.env.scope.kind == .class || (X.env.scope.kind == .module&&X.env.locals != X.env.globals))=false:=by rw [I.ok.kind];rfl
 have hiσ:i<σ.length:=by rw [I.len];exact (List.getElem?_eq_some_iff.mp hi).1
 have cne:=I.cne
 have tracked:∀ {a:Addr} {h':Heap},(∃ o,s.heap.get? a=some o∧H a=none)→Heap.SameBut a s.heap h'→HOk X.prog X.w H h':=fun {a h'} ha hs b ob e=>by
  obtain ⟨_,_,hfree⟩:=ha
  refine (I.hok b ob e).stay (fun c w' hc q=>(hs.2 c ?_).trans q) (fun _ q=>q) fun _ _ q=>q
  rintro rfl
  rcases hc with rfl | hc
  ·rw [hfree] at e;cases e
  ·rw [hfree] at hc;cases hc
 rcases hx with hk | hk
 ·refine wpAny_storeName_local hk hn (fun h' hn' hs=>?_) hcls
  obtain ⟨oL,_,_,hoL,_⟩:=id hn
  refine h _ ⟨I.ok,I.os,I.bare,⟨fun b o e n hb hx=>?_,fun b o e n hb hx=>?_,I.base.free,fun b o e hx=>?_,I.base.tups,I.base.frzs,I.base.tbls⟩,⟨_,hn',fun j y v' e1 e2 e3=>?_⟩,fun y c e=>?_,I.free,I.freeC,fun p hp=>?_,tracked ⟨oL,hoL,I.free⟩ hs,by simpa using I.len⟩ ⟨_,hs,.inl rfl⟩
  ·exact (hs.2 b (Nat.ne_of_lt (Nat.lt_of_lt_of_le (Heap.lt_size e) I.ok.above))).trans (I.base.keep b o e n hb hx)
  ·obtain ⟨sl,e1⟩:=I.base.slot b o e n hb hx
   exact ⟨sl,(hs.2 b (Nat.ne_of_lt (Nat.lt_of_lt_of_le (Heap.lt_size e) I.ok.above))).trans e1⟩
  ·obtain ⟨o',e1⟩:=I.base.there b o e hx
   exact ⟨o',(hs.2 b (Nat.ne_of_lt (Nat.lt_of_lt_of_le (Heap.lt_size e) I.ok.above))).trans e1⟩
  ·by_cases hj:j=i
   ·subst hj
    rw [hi] at e1;cases e1
    rw [List.getElem?_set_self hiσ] at e2
    cases e2
    exact ⟨u,r,.inl ⟨hk,by simp⟩⟩
   ·rw [List.getElem?_set_ne (Ne.symm hj)] at e2
    obtain ⟨u',r',q⟩:=hl j y v' e1 e2 e3
    refine ⟨u',r',?_⟩
    rcases q with ⟨k,e⟩ | ⟨k,c,e,z⟩
    ·refine .inl ⟨k,?_⟩
     have:y≠x:=fun e=>hj (yc6 hN e1 (e▸hi))
     simp [this,e]
    ·exact .inr ⟨k,c,e,z.sameBut hs (cne y c e)⟩
  ·obtain ⟨w',z⟩:=I.cell y c e
   exact ⟨w',z.sameBut hs (cne y c e)⟩
  ·obtain ⟨e,n,ne,nf,d⟩:=I.pin p hp
   exact ⟨(hs.2 p.1 ne).trans e,n,ne,nf,d⟩
 ·have hfn:X.fn x=true:=by
   rcases hf with z | z
   ·exact z
   ·rw [z] at hk;cases hk
  obtain ⟨c,hc⟩:=I.ok.has x (.inl hk)
  obtain ⟨w',z⟩:=I.cell x c hc
  refine wpAny_storeName_cell I.ok.kind hk hc z (fun h' hc' hs=>?_)
  obtain ⟨oc,hoc,hocd⟩:=id z
  refine h { s with heap:=h' } ⟨I.ok,I.os,I.bare,⟨fun b o e n hb hx=>?_,fun b o e n hb hx=>?_,I.base.free,fun b o e hx=>?_,I.base.tups,I.base.frzs,I.base.tbls⟩,⟨m,hn.sameBut hs (Ne.symm (cne x c hc)),fun j y v' e1 e2 e3=>?_⟩,fun y c' e=>?_,I.free,I.freeC,fun p hp=>?_,tracked ⟨oc,hoc,I.freeC x c hc⟩ hs,by simpa using I.len⟩ ⟨c,hs,.inr hc⟩
  ·exact (hs.2 b (Nat.ne_of_lt (Nat.lt_of_lt_of_le (Heap.lt_size e) (I.ok.cab x c hfn hc)))).trans (I.base.keep b o e n hb hx)
  ·obtain ⟨sl,e1⟩:=I.base.slot b o e n hb hx
   exact ⟨sl,(hs.2 b (Nat.ne_of_lt (Nat.lt_of_lt_of_le (Heap.lt_size e) (I.ok.cab x c hfn hc)))).trans e1⟩
  ·obtain ⟨o',e1⟩:=I.base.there b o e hx
   exact ⟨o',(hs.2 b (Nat.ne_of_lt (Nat.lt_of_lt_of_le (Heap.lt_size e) (I.ok.cab x c hfn hc)))).trans e1⟩
  ·by_cases hj:j=i
   ·subst hj
    rw [hi] at e1;cases e1
    rw [List.getElem?_set_self hiσ] at e2
    cases e2
    exact ⟨u,r,.inr ⟨.inl hk,c,hc,hc'⟩⟩
   ·rw [List.getElem?_set_ne (Ne.symm hj)] at e2
    obtain ⟨u',r',q⟩:=hl j y v' e1 e2 e3
    refine ⟨u',r',?_⟩
    rcases q with q | ⟨k,c',e,z'⟩
    ·exact .inl q
    ·refine .inr ⟨k,c',e,z'.sameBut hs ?_⟩
     rintro rfl
     exact hj (yc6 hN e1 (I.ok.inj _ _ _ e hc▸hi))
  ·by_cases hcc:c'=c
   ·subst hcc;exact ⟨_,hc'⟩
   ·obtain ⟨w2,z2⟩:=I.cell y c' e
    exact ⟨w2,z2.sameBut hs hcc⟩
  ·obtain ⟨e,n,ne,nf,d⟩:=I.pin p hp
   refine ⟨(hs.2 p.1 ?_).trans e,n,ne,nf,d⟩
   intro q
   rw [q,hoc] at e
   have q':oc=p.2:=Option.some.inj e
   exact d w' (by rw [← q'];exact hocd)
theorem yc0 {M:Model} {A:Around} {E:Value→Shared→Prop} {i:Nat} {x:Str} {v:V} {u:Value} {Q:Unit→Shared→Prop} (I:Inv X pins σ H s) (hN:X.N.Nodup) (hi:X.N[i]?=some x) (hx:Loc X.env.scope x) (r:RelV v u)
  (h:∀ s',Inv X pins (σ.set i (some v)) H s'→Q () s') (hf:X.fn x=true∨X.env.scope.names.lookup x=some .local):wpAny M A (storeName X.env x u) Q E s :=
 zT7 I hN hi hx r (fun s' I' _=>h s' I') hf
theorem Inv.call' {s':Shared} {ch:List Addr} (I:Inv X pins σ H s) (ho:s'.os=s.os) (u:Un (frs X.stack) ch H H' s.heap s'.heap) (hok:HOk X.prog X.w H' s'.heap) (hg:AllBare s'.gens)
  (hch:∀ b∈ch,(b∈X.ex∨X.s₀.heap.objs.size≤b)∧b≠X.env.locals∧(∀ x c,X.env.cells.lookup x=some c→c≠b)∧∀ p∈X.pn++pins,p.1≠b):Inv X pins σ H' s':=by
 obtain ⟨h',g',d',t',o'⟩:=s'
 have e:o'=s.os:=ho
 subst e
 exact I.call (g':=g') (t':=t') (d':=d') u hok hg hch
end
noncomputable abbrev XK:=Value→Option Addr→Hp→Prop
noncomputable abbrev St:=List (Option V)
noncomputable abbrev VK:=V→Hp→Prop
noncomputable abbrev TE:=St→Hp→VK→Prop
noncomputable abbrev TT:=St→Hp→(Bool→Hp→Prop)→Prop
noncomputable abbrev TA:=St→Hp→(List V→Hp→Prop)→Prop
structure yW7 where
 nx:St→Hp→Prop
 rt:VK
 bk:St→Hp→Prop:=fun _ _=>False
 ct:St→Hp→Prop:=fun _ _=>False
noncomputable abbrev TS:=yW7→St→Hp→Prop
def EP (X:Cx) (pins:List (Addr×Obj)) (σ:St) (Q:VK) (u:Value) (s':Shared):Prop:=∃ v H',Inv X pins σ H' s'∧RelV v u∧Q v H'
def TP (X:Cx) (pins:List (Addr×Obj)) (σ:St) (Q:Bool→Hp→Prop) (b:Bool) (s':Shared):Prop:=∃ H',Inv X pins σ H' s'∧Q b H'
def AP (X:Cx) (pins:List (Addr×Obj)) (σ:St) (Q:List V→Hp→Prop) (us:List Value) (s':Shared):Prop:=∃ vs H',Inv X pins σ H' s'∧zh0 vs us∧Q vs H'
def SP (X:Cx) (pins:List (Addr×Obj)) (D:yW7) (f:Flow) (s':Shared):Prop :=
 match f with
 | .next=>∃ σ' H',Inv X pins σ' H' s'∧D.nx σ' H'
 | .brk=>∃ σ' H',Inv X pins σ' H' s'∧D.bk σ' H'
 | .cont=>∃ σ' H',Inv X pins σ' H' s'∧D.ct σ' H'
 | .ret u=>∃ v σ' H',Inv X pins σ' H' s'∧RelV v u∧D.rt v H'
def PE (X:Cx) (e:Expr) (t:TE):Prop :=
 ∀ (pins:List (Addr×Obj)) (s:Shared) (σ:St) (H:Hp) (Q:VK),Inv X pins σ H s→t σ H Q→wpAny (model X.prog X.w) X.A (eval e X.env) (EP X pins σ Q) X.xe s
def PT (X:Cx) (e:Expr) (t:TT):Prop :=
 ∀ (pins:List (Addr×Obj)) (s:Shared) (σ:St) (H:Hp) (Q:Bool→Hp→Prop),Inv X pins σ H s→t σ H Q→wpAny (model X.prog X.w) X.A (isTrue e X.env (eval e X.env)) (TP X pins σ Q) X.xe s
def PW (X:Cx) (e:Expr) (t:TT):Prop :=
 ∀ (whole:Sem Value) (pins:List (Addr×Obj)) (s:Shared) (σ:St) (H:Hp) (Q:Bool→Hp→Prop),Inv X pins σ H s→t σ H Q→wpAny (model X.prog X.w) X.A (isTrue e X.env whole) (TP X pins σ Q) X.xe s
theorem PW.pt {X:Cx} {e:Expr} {t:TT} (h:PW X e t):PT X e t:=h _
def PA (X:Cx) (es:List Expr) (t:TA):Prop :=
 ∀ (pos:Pos) (pins:List (Addr×Obj)) (s:Shared) (σ:St) (H:Hp) (Q:List V→Hp→Prop),Inv X pins σ H s→t σ H Q→wpAny (model X.prog X.w) X.A (spliced (backTo pos (starEach es X.env))) (AP X pins σ Q) X.xe s
def PS (X:Cx) (st:Stmt) (t:TS):Prop :=
 ∀ (pins:List (Addr×Obj)) (s:Shared) (σ:St) (H:Hp) (D:yW7),Inv X pins σ H s→t D σ H→wpAny (model X.prog X.w) X.A (exec st X.env) (SP X pins D) X.xe s
def PSs (X:Cx) (st:List Stmt) (t:TS):Prop :=
 ∀ (pins:List (Addr×Obj)) (s:Shared) (σ:St) (H:Hp) (D:yW7),Inv X pins σ H s→t D σ H→wpAny (model X.prog X.w) X.A (execs st X.env) (SP X pins D) X.xe s
theorem thn {α:Type} {t:Sem α} {Q Q':α→Shared→Prop} {M:Model} {A:Around} {E:Value→Shared→Prop} {s:Shared} (h:wpAny M A t Q E s) (hQ:∀ a s,Q a s→Q' a s):wpAny M A t Q' E s:=wpAny_mono h hQ fun _ _ x=>x
section
variable {X:Cx}
theorem bin {a b:Expr} {ta tb:TE} (ha:PE X a ta) (hb:PE X b tb) {pins:List (Addr×Obj)} {s:Shared} {σ:St} {H:Hp} {R:V→V→Hp→Prop} (I:Inv X pins σ H s) (h:ta σ H fun x H1=>tb σ H1 fun y H2=>R x y H2)
  {α:Type} {Q:α→Shared→Prop} {f:Value→Value→Sem α}
  (hf:∀ v u s2 x y H2,Inv X pins σ H2 s2→RelV x v→RelV y u→R x y H2→wpAny (model X.prog X.w) X.A (f v u) Q X.xe s2) :
  wpAny (model X.prog X.w) X.A (eval a X.env) (fun v s₁=>wpAny (model X.prog X.w) X.A (eval b X.env) (fun u s₂=>wpAny (model X.prog X.w) X.A (f v u) Q X.xe s₂) X.xe s₁) X.xe s:=by
 refine thn (ha pins s σ H _ I h) fun v s1 h_=>?_
 obtain ⟨x,H1,I1,r1,q1⟩:=h_
 refine thn (hb pins s1 σ H1 _ I1 q1) fun u s2 h_=>?_
 obtain ⟨y,H2,I2,r2,q2⟩:=h_
 exact hf v u s2 x y H2 I2 r1 r2 q2
noncomputable def tVar (i:Nat):TE:=fun σ H Q=>∃ v,σ[i]?=some (some v)∧Q v H
noncomputable def tC (v:V):TE:=fun _ H Q=>Q v H
theorem yB7 {i:Nat} {x:Str} {pos:Pos} (hN:X.N[i]?=some x) (hv:Vis X.env.scope x) (hd:(x==("__debug__" : Str))=false) (hcd:(x==("__classdict__" : Str))=false):PE X (.Name x pos) (tVar i):=by
 intro pins s σ H Q I h
 obtain ⟨v,e,h⟩:=h
 obtain ⟨m,hn,hl⟩:=I.loc
 obtain ⟨u,r,l⟩:=hl i x v hN e hv
 have fin:EP X pins σ Q u s:=⟨v,H,I,r,h⟩
 rcases l with ⟨hk,hm⟩ | ⟨hk,c,hc,hcell⟩
 ·exact wpAny_Name (wpAny_loadName_local I.ok.kind hk hn hm fin) hd
 ·rcases hk with hk | hk
  ·exact wpAny_Name (wpAny_loadName_cell I.ok.kind hk hc hcell fin) hd
  ·exact wpAny_Name (wpAny_loadName_free I.ok.kind hk hc hcell fin hcd) hd
theorem yU0 {i j pos}:PE X (.Constant (.int i) j pos) (tC (.int i)):=fun _ _ _ H _ I h=>wpAny_Constant_int ⟨.int i,H,I.tok _,⟨_,rfl⟩,h⟩
theorem xe2 {b j pos}:PE X (.Constant (.bool b) j pos) (tC (.bl b)):=fun _ _ _ H _ I h=>Constant_bool ⟨.bl b,H,I,rfl,h⟩
theorem yN0 {j pos}:PE X (.Constant .none j pos) (tC .non):=fun _ _ _ H _ I h=>Constant_none ⟨.non,H,I,rfl,h⟩
theorem yU3 {x j pos}:PE X (.Constant (.str x) j pos) (tC (.str x)):=fun _ _ _ H _ I h=>Calls.Constant_str ⟨.str x,H,I.tok _,⟨_,rfl⟩,h⟩
def Gl (X:Cx) (x:Str):Prop:=X.env.kindOf x=some .globalImplicit
theorem zX5 {E:Value→Shared→Prop} {pins:List (Addr×Obj)} {s:Shared} {σ:St} {H:Hp} {x:Str} {u:Value} {pos:Pos} {Q:Value→Shared→Prop} (I:Inv X pins σ H s) (hg:Gl X x) (hm:X.mg x=some u) (h:Q u s)
  (hd:(x==("__debug__" : Str))=false):wpAny (model X.prog X.w) X.A (eval (.Name x pos) X.env) Q E s :=
 Calls.Name_function_global I.ok.kind hg (Calls.loadGlobal_global (by rw [I.ok.glob];exact I.mod.glob.keeps I.bk) hm h) hd
theorem zw1 {E:Value→Shared→Prop} {pins:List (Addr×Obj)} {s:Shared} {σ:St} {H:Hp} {x:Str} {u:Value} {pos:Pos} {Q:Value→Shared→Prop} (I:Inv X pins σ H s) (hg:Gl X x) (hm:X.mg x=none) (hv:bootBuiltins x=some u) (h:Q u s)
  (hn:x ≠ "__name__" := by decide) (hd:(x==("__debug__" : Str))=false:=by decide):wpAny (model X.prog X.w) X.A (eval (.Name x pos) X.env) Q E s:=by
 obtain ⟨mb,h1,h2⟩:=I.mod.blt
 exact Calls.Name_function_global I.ok.kind hg (Calls.loadGlobal_builtin (by rw [I.ok.glob];exact I.mod.glob.keeps I.bk) hm (by rw [I.ok.blt];exact h1.keeps I.bk) ((h2 x hn).trans hv) h) hd
theorem yL7 {x:Str} {v:V} {u:Value} {pos:Pos} (hg:Gl X x) (hm:X.mg x=some u) (r:RelV v u) (hd:(x==("__debug__" : Str))=false):PE X (.Name x pos) (tC v) :=
 fun _ _ _ H _ I h=>zX5 I hg hm ⟨v,H,I,r,h⟩ hd
theorem yG6 {x:Str} {v:V} {u:Value} {pos:Pos} (hg:Gl X x) (hm:X.mg x=none) (hv:bootBuiltins x=some u) (r:RelV v u) (hn:x ≠ "__name__") (hd:(x==("__debug__" : Str))=false):PE X (.Name x pos) (tC v) :=
 fun _ _ _ H _ I h=>zw1 I hg hm hv ⟨v,H,I,r,h⟩ hn hd
variable {a b:Expr} {ta tb:TE} {pos:Pos}
def PC (X:Cx) (op:CmpOp) (a b:Expr) (t:TE):Prop :=
 ∀ (pins:List (Addr×Obj)) (s:Shared) (σ:St) (H:Hp) (Q:VK),Inv X pins σ H s→t σ H Q →
  wpAny (model X.prog X.w) X.A (eval a X.env) (fun v s₁=>wpAny (model X.prog X.w) X.A (eval b X.env) (fun u s₂=>wpAny (model X.prog X.w) X.A (compareOp op v u) (EP X pins σ Q) X.xe s₂) X.xe s₁) X.xe s
theorem xa9 (b:Expr) {op:CmpOp} (h:op≠.In) (h2:op≠.NotIn):behindInMarks op b=false:=by
 have e1:(op==CmpOp.In)=false:=by cases op <;> first | rfl | exact absurd rfl h
 have e2:(op==CmpOp.NotIn)=false:=by cases op <;> first | rfl | exact absurd rfl h2
 cases b <;> simp [behindInMarks,e1,e2]
noncomputable def tB (t:TE):TT:=fun σ H Q=>t σ H fun x H1=>∃ c,x=.bl c∧Q c H1
theorem pt_cmp {op:CmpOp} {t:TE} (h:PC X op a b t) (h1:behindInMarks op b=false):PT X (.Compare a [op] [b] pos) (tB t):=by
 intro pins s σ H Q I hw
 refine wpAny_isTrue_Compare1 (thn (h pins s σ H _ I hw) fun v s1 h1=>thn h1 fun u s2 h2=>thn h2 fun c s3 ⟨x,H1,I1,r1,q1⟩=>?_) h1
 obtain ⟨d,rfl,q⟩:=q1
 cases r1
 exact wpAny_truthy_bool ⟨H1,I1,q⟩
theorem yT7 {e:Expr} {t:TE} (h:PE X e t) (he:∀ whole,isTrue e X.env whole=(do let v ← whole;standAt e.pos;holding [v] (truthy v))):PT X e (tB t):=by
 intro pins s σ H Q I hw
 refine isTrue_plain (thn (h pins s σ H _ I hw) fun v s1 ⟨x,H1,I1,r1,q1⟩=>?_) (he _)
 obtain ⟨d,rfl,q⟩:=q1
 cases r1
 exact wpAny_truthy_bool ⟨H1,I1,q⟩
variable {tA tB':TT} {zp3:List Expr}
noncomputable def tAnd (t u:TT):TT:=fun σ H Q=>t σ H fun c H1=>if c=true then u σ H1 Q else Q false H1
noncomputable def tOr (t u:TT):TT:=fun σ H Q=>t σ H fun c H1=>if c=true then Q true H1 else u σ H1 Q
noncomputable def tNot (t:TT):TT:=fun σ H Q=>t σ H fun c H1=>Q (!c) H1
theorem yF3 (ha:PT X a tA):PW X (.BoolOp .And [a] pos) tA:=by
 intro wh pins s σ H Q I h
 refine isTrue_and (thn (ha pins s σ H Q I h) fun c s1 e=>?_)
 cases c with
 | true=>exact isTrue_and_nil e
 | false=>exact e
theorem yP0 (ha:PT X a tA):PW X (.BoolOp .Or [a] pos) tA:=by
 intro wh pins s σ H Q I h
 refine isTrue_or (thn (ha pins s σ H Q I h) fun c s1 e=>?_)
 cases c with
 | false=>exact isTrue_or_nil e
 | true=>exact e
theorem yO1 (ha:PT X a tA) (hb:PW X (.BoolOp .And (b::zp3) pos) tB'):PW X (.BoolOp .And (a::b::zp3) pos) (tAnd tA tB'):=by
 intro wh pins s σ H Q I h
 refine isTrue_and (thn (ha pins s σ H _ I h) fun c s1 h_=>?_)
 obtain ⟨H1,I1,q1⟩:=h_
 cases c with
 | true=>exact hb wh pins s1 σ H1 Q I1 q1
 | false=>exact ⟨H1,I1,q1⟩
theorem xe8 (ha:PT X a tA) (hb:PW X (.BoolOp .Or (b::zp3) pos) tB'):PW X (.BoolOp .Or (a::b::zp3) pos) (tOr tA tB'):=by
 intro wh pins s σ H Q I h
 refine isTrue_or (thn (ha pins s σ H _ I h) fun c s1 h_=>?_)
 obtain ⟨H1,I1,q1⟩:=h_
 cases c with
 | true=>exact ⟨H1,I1,q1⟩
 | false=>exact hb wh pins s1 σ H1 Q I1 q1
theorem yX1 (ha:PT X a tA):PT X (.UnaryOp .Not a pos) (tNot tA):=by
 intro pins s σ H Q I h
 exact isTrue_not (ha pins s σ H (fun c H1=>Q (!c) H1) I h)
noncomputable def xb0 (ta tb:TE):TE:=fun σ H Q=>ta σ H fun x H1=>∃ c,x=.bl c∧if c=true then tb σ H1 Q else Q (.bl false) H1
theorem yV3 {op} {t:TE} (h:PE X a t):PE X (.BoolOp op [a] pos) t:=fun pins s σ H Q I hw=>BoolOp_one (h pins s σ H Q I hw)
theorem yO9 (ha:PE X a ta) (hb:PE X (.BoolOp .And (b::zp3) pos) tb):PE X (.BoolOp .And (a::b::zp3) pos) (xb0 ta tb):=by
 intro pins s σ H Q I h
 refine BoolOp_and (thn (ha pins s σ H _ I h) fun v s1 h_=>?_)
 obtain ⟨x,H1,I1,r1,q1⟩:=h_
 obtain ⟨c,rfl,q1⟩:=q1
 cases r1
 refine wpAny_truthy_bool ?_
 cases c with
 | true=>exact hb pins s1 σ H1 Q I1 q1
 | false=>exact ⟨.bl false,H1,I1,rfl,q1⟩
end
def SqL (K:Frag) (H:Hp) (a:Addr) (xs:List V):Prop :=
 Rd H a (.lst xs) ∨
  ∃ (o:Obj) (its:Array Value) (n:Nat),K.lookup a=some o∧o.cls=.type "list" ∧ o.dict=none∧o.data=.seq its n∧its.size≤sizeLine∧zh0 xs its.toList
def SqT (K:Frag) (H:Hp) (a:Addr) (xs:List V):Prop :=
 Rd H a (.tup xs) ∨
  ∃ (o:Obj) (its:Array Value) (n:Nat),K.lookup a=some o∧o.cls=.type "tuple" ∧ o.dict=none∧o.data=.seq its n∧its.size≤sizeLine∧zh0 xs its.toList
noncomputable def absV:Value→Option V
 | .none=>some .non
 | .bool b=>some (.bl b)
 | .int i _=>some (.int i)
 | .str x _=>some (.str x)
 | .bytes b _=>some (.byt b)
 | .float b _=>some (.flt b)
 | .ref a=>some (.ref a)
 | .type n=>some (.ty n)
 | _=>none
theorem RelV.abs {x:V} {u:Value} (r:RelV x u):absV u=some x:=by
 cases x with
 | non=>cases r;rfl
 | bl _=>cases r;rfl
 | int _=>obtain ⟨t,rfl⟩:=r;rfl
 | str _=>obtain ⟨t,rfl⟩:=r;rfl
 | byt _=>obtain ⟨t,rfl⟩:=r;rfl
 | flt _=>obtain ⟨t,rfl⟩:=r;rfl
 | ref _=>cases r;rfl
 | ty _=>cases r;rfl
theorem RelV.inj {x y:V} {u:Value} (r:RelV x u) (q:RelV y u):x=y:=Option.some.inj (r.abs.symm.trans q.abs)
theorem zh0.inj:∀ {xs ys:List V} {us:List Value},zh0 xs us→zh0 ys us→xs=ys
 | _,_,_,.nil,.nil=>rfl
 | _,_,_,.cons r t,.cons r' t'=>by rw [r.inj r',zh0.inj t t']
section
variable {X:Cx} {pins:List (Addr×Obj)} {σ:St} {H:Hp} {s:Shared} {a:Addr} {xs ys:List V}
theorem SqL.of {K:Frag} (h:H a=some (.lst xs)):SqL K H a xs:=.inl (.inl h)
theorem SqT.of {K:Frag} (h:H a=some (.tup xs)):SqT K H a xs:=.inl (.inl h)
theorem Inv.list (I:Inv X pins σ H s) (h:SqL X.K H a xs):∃ its:List Value,zh0 xs its∧PlainL s.heap a its.toArray∧xs.length≤sizeLine:=by
 rcases h with h | ⟨o,its,n,hk,hc,hd,hs,hz,r⟩
 ·obtain ⟨z,its,n,r,e⟩:=h.ok I.hok
  exact ⟨its,r,⟨_,n,e,rfl,rfl,rfl⟩,z⟩
 ·refine ⟨its.toList,r,⟨o,n,I.kIn a o hk,hc,hd,by simpa using hs⟩,?_⟩
  have e:=r.length
  simp only [Array.length_toList] at e
  lia
theorem Inv.tuple (I:Inv X pins σ H s) (h:SqT X.K H a xs):∃ its:List Value,zh0 xs its∧IsTup s.heap a its.toArray∧xs.length≤sizeLine:=by
 rcases h with h | ⟨o,its,n,hk,hc,_,hs,hz,r⟩
 ·obtain ⟨z,its,r,ob,p1,p2,_,p3⟩:=h.ok I.hok
  exact ⟨its,r,⟨ob,p1,p2,p3⟩,z⟩
 ·refine ⟨its.toList,r,⟨o,I.kIn a o hk,hc,n,by simpa using hs⟩,?_⟩
  have e:=r.length
  simp only [Array.length_toList] at e
  lia
theorem Inv.list_inj (I:Inv X pins σ H s) (h:SqL X.K H a xs) (h':SqL X.K H a ys):xs=ys:=by
 obtain ⟨its,r,⟨o,n,e,_,_,d⟩,_⟩:=I.list h
 obtain ⟨its',r',⟨o',n',e',_,_,d'⟩,_⟩:=I.list h'
 rw [e] at e';cases e'
 rw [d] at d'
 injection d' with d1 _
 have:its=its':=by simpa using congrArg Array.toList d1
 subst this
 exact r.inj r'
theorem Inv.tuple_inj (I:Inv X pins σ H s) (h:SqT X.K H a xs) (h':SqT X.K H a ys):xs=ys:=by
 obtain ⟨its,r,⟨o,e,_,n,d⟩,_⟩:=I.tuple h
 obtain ⟨its',r',⟨o',e',_,n',d'⟩,_⟩:=I.tuple h'
 rw [e] at e';cases e'
 rw [d] at d'
 injection d' with d1 _
 have:its=its':=by simpa using congrArg Array.toList d1
 subst this
 exact r.inj r'
end
noncomputable abbrev Cx.wish (X:Cx) (E:Value→Shared→Prop):Cx:={ X with xe:=E }
noncomputable abbrev Cx.nox (X:Cx):Cx:=X.wish fun _ _=>False
theorem Cx.Ok.wish {X:Cx} (ok:X.Ok) (E:Value→Shared→Prop):(X.wish E).Ok :=
 ⟨ok.mod,ok.kind,ok.glob,ok.blt,ok.above,ok.inj,ok.has,ok.cab,ok.hd,ok.frames,ok.stk,ok.exf,ok.bs,ok.bsz,ok.noex,ok.exfs,ok.funs,ok.frf⟩
theorem Cx.Ok.unwish {X:Cx} {E:Value→Shared→Prop} (ok:(X.wish E).Ok):X.Ok :=
 ⟨ok.mod,ok.kind,ok.glob,ok.blt,ok.above,ok.inj,ok.has,ok.cab,ok.hd,ok.frames,ok.stk,ok.exf,ok.bs,ok.bsz,ok.noex,ok.exfs,ok.funs,ok.frf⟩
section
variable {X:Cx} {pins:List (Addr×Obj)} {σ:St} {H:Hp} {s:Shared} {E:Value→Shared→Prop}
theorem Inv.wish (I:Inv X pins σ H s) (E:Value→Shared→Prop):Inv (X.wish E) pins σ H s:=⟨I.ok.wish E,I.os,I.bare,I.base,I.loc,I.cell,I.free,I.freeC,I.pin,I.hok,I.len⟩
theorem Inv.unwish (I:Inv (X.wish E) pins σ H s):Inv X pins σ H s:=⟨I.ok.unwish,I.os,I.bare,I.base,I.loc,I.cell,I.free,I.freeC,I.pin,I.hok,I.len⟩
theorem SP.unwish {D:yW7} {f:Flow} {s':Shared} (h:SP (X.wish E) pins D f s'):SP X pins D f s':=by
 cases f with
 | next=>obtain ⟨σ',H',I,q⟩:=h;exact ⟨σ',H',I.unwish,q⟩
 | brk=>obtain ⟨σ',H',I,q⟩:=h;exact ⟨σ',H',I.unwish,q⟩
 | cont=>obtain ⟨σ',H',I,q⟩:=h;exact ⟨σ',H',I.unwish,q⟩
 | ret u=>obtain ⟨v,σ',H',I,r,q⟩:=h;exact ⟨v,σ',H',I.unwish,r,q⟩
theorem PSs.nox {st:List Stmt} {t:TS} (h:PSs X.nox st t):PSs X st t:=fun pins s σ H D I hw =>
 wpAny_mono (h pins s σ H D (I.wish _) hw) (fun _ _ q=>q.unwish) fun _ _ z=>False.elim z
end
section
variable {X:Cx} {st:Stmt} {zp3:List Stmt} {t u:TS} {e:Expr} {te:TE} {pos:Pos}
noncomputable def tNext:TS:=fun D σ H=>D.nx σ H
noncomputable def tSeq (t u:TS):TS:=fun D σ H=>t { D with nx:=u D } σ H
theorem yG3:PSs X [] tNext:=fun _ _ σ H _ I h=>wpAny_execs_nil ⟨σ,H,I,h⟩
theorem yz9 (h1:PS X st t) (h2:PSs X zp3 u):PSs X (st::zp3) (tSeq t u):=by
 intro pins s σ H D I h
 refine wpAny_execs_cons (thn (h1 pins s σ H { D with nx:=u D } I h) fun f s1 q=>?_)
 cases f with
 | next =>
  obtain ⟨σ',H',I',q⟩:=q
  exact h2 pins s1 σ' H' D I' q
 | ret v=>exact q
 | brk=>exact q
 | cont=>exact q
theorem Inv.quiet {pins:List (Addr×Obj)} {σ:St} {H:Hp} {s:Shared} (I:Inv X pins σ H s):interactive X.env=false:=by simp [interactive,I.ok.kind]
noncomputable def xg8 (te:TE):TS:=fun D σ H=>te σ H fun _ H1=>D.nx σ H1
theorem yH7 (he:PE X e te) (hs:swapsWith e none pos.line X.env=pure false):PS X (.Expr e pos) (xg8 te):=by
 intro pins s σ H D I h
 exact wpAny_Expr_any (thn (he pins s σ H _ I h) fun v s1 ⟨x,H1,I1,r1,q1⟩=>⟨σ,H1,I1,q1⟩) I.quiet hs
noncomputable def tRet (te:TE):TS:=fun D σ H=>te σ H D.rt
theorem yN7 (he:PE X e te):PS X (.Return (some e) pos) (tRet te):=by
 intro pins s σ H D I h
 exact wpAny_Return_some (thn (he pins s σ H _ I h) fun v s1 ⟨x,H1,I1,r1,q1⟩=>⟨x,σ,H1,I1,r1,q1⟩)
noncomputable def tIfS (c:TT) (t u:TS):TS:=fun D σ H=>c σ H fun b H1=>if b=true then t D σ H1 else u D σ H1
theorem xh0 {c:Expr} {a b:List Stmt} {tc:TT} (hc:PT X c tc) (ha:PSs X a t) (hb:PSs X b u):PS X (.If c a b pos) (tIfS tc t u):=by
 intro pins s σ H D I h
 refine wpAny_If (thn (hc pins s σ H _ I h) fun d s1 h_=>?_)
 obtain ⟨H1,I1,q1⟩:=h_
 cases d with
 | true=>exact ha pins s1 σ H1 D I1 q1
 | false=>exact hb pins s1 σ H1 D I1 q1
end
noncomputable abbrev TG:=V→St→Hp→(St→Hp→Prop)→Prop
noncomputable abbrev TGs:=List V→St→Hp→(St→Hp→Prop)→Prop
def PG (X:Cx) (target:Expr) (t:TG):Prop :=
 ∀ (pins:List (Addr×Obj)) (s:Shared) (σ:St) (H:Hp) (v:V) (u:Value) (Q:St→Hp→Prop),Inv X pins σ H s→RelV v u→t v σ H Q →
  wpAny (model X.prog X.w) X.A (assign target X.env u) (fun _ s'=>∃ σ' H',Inv X pins σ' H' s'∧Q σ' H') X.xe s
def PGs (X:Cx) (ts:List Expr) (t:TGs):Prop :=
 ∀ (pins:List (Addr×Obj)) (s:Shared) (σ:St) (H:Hp) (vs:List V) (us:List Value) (Q:St→Hp→Prop),Inv X pins σ H s→zh0 vs us→t vs σ H Q →
  wpAny (model X.prog X.w) X.A (assignInOrder ((assignEach ts X.env).map (·.2)) us) (fun _ s'=>∃ σ' H',Inv X pins σ' H' s'∧Q σ' H') X.xe s
noncomputable abbrev xf5:=V→V→V→Hp→(Hp→Prop)→Prop
def yD4 (X:Cx) (t:xf5):Prop :=
 ∀ (pins:List (Addr×Obj)) (s:Shared) (σ:St) (H:Hp) (o i v:V) (ov iv u:Value) (Q:Hp→Prop),Inv X pins σ H s→RelV o ov→RelV i iv→RelV v u→t o i v H Q →
  wpAny (model X.prog X.w) X.A (setItem ov iv u) (fun _ s'=>∃ H',Inv X pins σ H' s'∧Q H') X.xe s
section
variable {X:Cx} {pos:Pos}
noncomputable def yK8 (i:Nat):TG:=fun v σ H Q=>Q (σ.set i (some v)) H
theorem ys4 {i:Nat} {x:Str} (hN:X.N.Nodup) (hi:X.N[i]?=some x) (hx:Loc X.env.scope x) (hf:X.fn x=true∨X.env.scope.names.lookup x=some .local):PG X (.Name x pos) (yK8 i):=by
 intro pins s σ H v u Q I r h
 exact wpAny_assign_Name (yc0 I hN hi hx r (fun s' I'=>⟨_,H,I',h⟩) hf)
noncomputable def gNil:TGs:=fun vs σ H Q=>vs=[]∧Q σ H
noncomputable def xg1 (t:TG) (u:TGs):TGs:=fun vs σ H Q=>∃ v r,vs=v::r∧t v σ H fun σ' H'=>u r σ' H' Q
theorem yH9:PGs X [] gNil:=by
 intro pins s σ H vs us Q I r h
 obtain ⟨e,h⟩:=h
 subst e
 cases r
 exact assignInOrder_nil ⟨σ,H,I,h⟩
theorem yx9 {e:Expr} {es:List Expr} {t:TG} {u:TGs} (h1:PG X e t) (h2:PGs X es u)
  (hs:(assignEach (e::es) X.env).map (·.2)=assign e X.env::(assignEach es X.env).map (·.2)):PGs X (e::es) (xg1 t u):=by
 intro pins s σ H vs us Q I r h
 obtain ⟨v,vr,e1,h⟩:=h
 subst e1
 cases r with
 | cons r rr =>
  rw [hs]
  refine assignInOrder_cons (thn (h1 pins s σ H _ _ _ I r h) fun _ s1 h_=>?_)
  obtain ⟨σ1,H1,I1,q1⟩:=h_
  exact h2 pins s1 σ1 H1 _ _ Q I1 rr q1
noncomputable def gTup (K:Frag) (n:Nat) (t:TGs):TG:=fun v σ H Q=>∃ a xs,v=.ref a∧SqT K H a xs∧xs.length=n∧t xs σ H Q
theorem yT1 {es:List Expr} {k:Nat} {t:TGs} {n:Nat} (hc:X.calm=true) (h:PGs X es t)
  (hn:(assignEach es X.env).length=n) (hst:(assignEach es X.env).findIdx? (·.1)=none):PG X (.Tuple es k pos) (gTup X.K n t):=by
 intro pins s σ H v u Q I r hw
 obtain ⟨a,xs,e1,hq,hl,hw⟩:=hw
 subst e1
 cases r
 obtain ⟨its,rv,ht,hz⟩:=I.tuple hq
 refine assign_Tuple_tuple (I.ok.hd hc) ht (by simp [hn,← hl,rv.length]) hst fun h' hx=>?_
 have I1:Inv X pins σ H { s with heap:=h' }:=I.kept (t':=s.toks) fun b o e=>hx b o (Nat.ne_of_lt (Heap.lt_size e)) e
 exact h pins _ σ H xs _ Q I1 (by simpa using rv) hw
noncomputable def gSub (to ti:TE) (t:xf5):TG:=fun v σ H Q=>to σ H fun o H1=>ti σ H1 fun i H2=>t o i v H2 fun H3=>Q σ H3
theorem yT9 {o i:Expr} {to ti:TE} {t:xf5} (ho:PE X o to) (hi:PE X i ti) (hs:yD4 X t)
  (ha:∀ v,assign (.Subscript o i pos) X.env v=(do
   let ov ← holding [v] (eval o X.env)
   let iv ← holding [v,ov] (eval i X.env)
   standAt pos
   holding [v,ov,iv] (setItem ov iv v)
   release [v,ov,iv] [])):PG X (.Subscript o i pos) (gSub to ti t):=by
 intro pins s σ H v u Q I r h
 rw [ha]
 refine wpAny_bind (wpAny_holding (thn (ho pins s σ H _ I h) fun ov s1 h_=>?_))
 obtain ⟨x,H1,I1,r1,q1⟩:=h_
 refine wpAny_bind (wpAny_holding (thn (hi pins s1 σ H1 _ I1 q1) fun iv s2 h_=>?_))
 obtain ⟨y,H2,I2,r2,q2⟩:=h_
 refine wpAny_bind (wpAny_standAt (wpAny_bind (wpAny_holding (thn (hs pins s2 σ H2 x y v ov iv u _ I2 r1 r2 r q2) fun _ s3 h_=>?_))))
 obtain ⟨H3,I3,q3⟩:=h_
 exact wpAny_release ⟨σ,H3,I3,q3⟩
noncomputable def xb4 (te:TE) (g:TG):TS:=fun D σ H=>te σ H fun x H1=>g x σ H1 D.nx
theorem yO0 {tg e:Expr} {te:TE} {g:TG} (he:PE X e te) (hg:PG X tg g) (hs:swapsWithSole [tg] e pos.line X.env=pure false) (hw:swappedStores [tg] e X.env=pure none)
  (h1:(assignEach [tg] X.env).map (·.2)=[assign tg X.env]):PS X (.Assign [tg] e pos) (xb4 te g):=by
 intro pins s σ H D I h
 refine wpAny_Assign_stores (thn (he pins s σ H _ I h) fun v s1 ⟨x,H1,I1,r1,q1⟩=>?_) hs hw
 rw [h1]
 exact thn (hg pins s1 σ H1 x v _ I1 r1 q1) fun _ s2 q=>q
theorem yT8 {i:Nat} {x:Str} {e:Expr} {te:TE} {pos':Pos} (hN:X.N.Nodup) (hi:X.N[i]?=some x) (hx:Loc X.env.scope x) (he:PE X e te) (hs:swapsWith e (some (.Name x pos')) pos.line X.env=pure false) (hf:X.fn x=true∨X.env.scope.names.lookup x=some .local) :
  PS X (.Assign [.Name x pos'] e pos) (xb4 te (yK8 i)):=by
 intro pins s σ H D I h
 refine wpAny_Assign_Name (thn (he pins s σ H _ I h) fun v s1 ⟨y,H1,I1,r1,q1⟩=>?_) hs
 exact yc0 I1 hN hi hx r1 (fun s2 I2=>⟨_,H1,I2,q1⟩) hf
end
section
variable {X:Cx} {pos:Pos}
end
structure It where
 go:Nat→Hp→Prop
 yld:Nat→Hp→V→Hp→Prop
 stop:Nat→Hp→Prop
def zV7 (X:Cx) (pins:List (Addr×Obj)) (H:Hp) (b:Addr):Prop :=
 H b=none∧b≠X.env.locals∧b∉X.fs∧(b∈X.ex∨X.s₀.heap.objs.size≤b)∧(∀ x c,X.env.cells.lookup x=some c→c≠b)∧∀ p∈X.pn++pins,p.1≠b
theorem Inv.fpOk {X:Cx} {pins:List (Addr×Obj)} {σ:St} {H H':Hp} {s:Shared} {b:Addr} (I:Inv X pins σ H s) (hb:s.heap.objs.size≤b) (hn:H' b=none):zV7 X pins H' b:=by
 refine ⟨hn,Nat.ne_of_gt (Nat.lt_of_lt_of_le I.lt hb),I.nofs hb,.inr (Nat.le_trans I.sz hb),fun x c e z=>?_,fun p hp z=>?_⟩
 ·obtain ⟨v,q⟩:=I.cell x c e
  exact absurd (Nat.lt_of_lt_of_le q.lt (by rw [z];exact hb)) (Nat.lt_irrefl _)
 ·exact absurd (Nat.lt_of_lt_of_le (Heap.lt_size (I.pin p hp).1) (by rw [z];exact hb)) (Nat.lt_irrefl _)
structure yH5 (P:Program) (w:World) (K:Frag) (tg:Expr) (J:It) (fp:List Addr) (it:Addr) (tn:Nat→Heap→Prop):Prop where
 mem:it∈fp
 obj:∀ i h,tn i h→∀ b∈fp,∃ o,h.get? b=some o∧∀ v,o.data≠.cell v
 keep:∀ i h h',tn i h→(∀ b∈fp,∀ o,h.get? b=some o→h'.get? b=some o)→tn i h'
 item:∀ (X:Cx),X.prog=P→X.w=w→X.K=K→X.calm=true→∀ (i:Nat) (pins:List (Addr×Obj)) (s:Shared) (σ:St) (H:Hp) (E:Value→Shared→Prop),Inv X pins σ H s→(∀ b∈fp,zV7 X pins H b)→tn i s.heap→J.go i H →
  wpAny (model P w) X.A (pyNext (.ref it)) (fun r s1=>∃ u,r=some u ∧
   wpAny (model P w) X.A (letOwnedTupleGo tg (.ref it) u) (fun _ s2=>∃ x H',Inv X pins σ H' s2∧RelV x u∧J.yld i H x H'∧tn (i+1) s2.heap∧∀ b∈fp,H' b=none) E s1) E s
 done:∀ (X:Cx),X.prog=P→X.w=w→X.K=K→X.calm=true→∀ (i:Nat) (pins:List (Addr×Obj)) (s:Shared) (σ:St) (H:Hp) (E:Value→Shared→Prop),Inv X pins σ H s→(∀ b∈fp,zV7 X pins H b)→tn i s.heap→J.stop i H →
  wpAny (model P w) X.A (pyNext (.ref it)) (fun r s1=>r=none∧Inv X pins σ H s1) E s
 self:∀ (A:Around) (i:Nat) (s:Shared) (Q:Value→Shared→Prop) (E:Value→Shared→Prop),tn i s.heap→Q (.ref it) s→wpAny (model P w) A (pyIter (.ref it)) Q E s
noncomputable abbrev TI:=St→Hp→(It→Hp→Prop)→Prop
def PIE (X:Cx) (pins:List (Addr×Obj)) (σ:St) (tg:Expr) (R:It→Hp→Prop) (itv:Value) (s2:Shared):Prop :=
 ∃ (it:Addr) (fp:List Addr) (tn:Nat→Heap→Prop) (J:It) (H':Hp),itv=.ref it∧Inv X pins σ H' s2∧yH5 X.prog X.w X.K tg J fp it tn∧tn 0 s2.heap∧(∀ b∈fp,zV7 X pins H' b)∧R J H'
def PI (X:Cx) (tg iter:Expr) (wi:TI):Prop :=
 ∀ (pins:List (Addr×Obj)) (s:Shared) (σ:St) (H:Hp) (R:It→Hp→Prop),Inv X pins σ H s→wi σ H R →
  wpAny (model X.prog X.w) X.A (eval iter X.env) (fun v s1=>wpAny (model X.prog X.w) X.A (pyIter v) (PIE X pins σ tg R) X.xe s1) X.xe s
theorem yw1 {M:Model} {A:Around} {E:Value→Shared→Prop} {s:Shared} {tg:Expr} {it:Addr} {u:Value} {o:Obj} {n:String} {vs:Array Value} {Q:Unit→Shared→Prop} (ho:s.heap.get? it=some o) (hc:o.cls=.type n) (hd:o.data=.fields vs)
    (hn:["enumerate", "zip", "dict_itemiterator", "dict_reverseitemiterator", "odict_iterator", "itertools.zip_longest", "itertools.pairwise"].contains n=false) (hQ:Q () s):wpAny M A (letOwnedTupleGo tg (.ref it) u) Q E s:=by
  unfold letOwnedTupleGo
  cases tg <;> first
    | exact wpAny_pure hQ
    | (cases u <;> first
        | exact wpAny_pure hQ
        | (refine wpAny_bind (wpAny_load ho ?_)
           rw [hc,hd]
           show wpAny M A (if (["enumerate", "zip", "dict_itemiterator", "dict_reverseitemiterator", "odict_iterator", "itertools.zip_longest", "itertools.pairwise"].contains n&&vs[0]?==some (rawInt _))=true then _ else _) Q E s
           rw [if_neg (by intro h;rw [hn,Bool.false_and] at h;cases h)]
           exact wpAny_pure hQ))
noncomputable def Itl (K:Frag) (a:Addr):It :=
 ⟨fun i H=>∃ xs x,SqL K H a xs∧xs[i]?=some x,fun i H x H'=>H'=H∧∀ xs,SqL K H a xs→xs[i]?=some x,fun i H=>∃ xs,SqL K H a xs∧xs.length≤i⟩
noncomputable def Itt (K:Frag) (a:Addr):It :=
 ⟨fun i H=>∃ xs x,SqT K H a xs∧xs[i]?=some x,fun i H x H'=>H'=H∧∀ xs,SqT K H a xs→xs[i]?=some x,fun i H=>∃ xs,SqT K H a xs∧xs.length≤i⟩
noncomputable def Itr (lo:Int) (n:Nat):It:=⟨fun i _=>i<n,fun i H x H'=>H'=H∧x=.int (lo+i),fun i _=>n≤i⟩
theorem yq2 {P:Program} {w:World} {K:Frag} {tg:Expr} (a it:Addr):yH5 P w K tg (Itl K a) [it] it (fun i h=>h.IsListIter it a i) where
 mem:=by simp
 obj:=fun i h st b hb=>by
  have e:b=it:=by simpa using hb
  subst e
  obtain ⟨o,e,c,d⟩:=st
  exact ⟨o,e,fun v z=>by rw [d] at z;cases z⟩
 keep:=fun i h h' st k=>st.at fun o e=>k it (by simp) o e
 item:=by
  intro X hP hw hK hc i pins s σ H E I hf st hg
  subst hP hw hK
  obtain ⟨xs,x,hq,hx⟩:=hg
  obtain ⟨its,rv,p,hz⟩:=I.list hq
  obtain ⟨u,hu,ru⟩:=rv.get hx
  obtain ⟨f0,f1,f2,f3,f4,f5⟩:=hf it (by simp)
  refine wpAny_pyNext_list_item st p.isList (x:=u) (by simpa using hu) fun h' st' sb=>?_
  have I1:Inv X pins σ H { s with heap:=h' }:=I.turned (t':=s.toks) (fun b o hb e=>(sb.2 b hb).trans e) f0 f1 f3 f4 f5
  obtain ⟨o,e,c,d⟩:=id st'
  exact ⟨u,rfl,yw1 (s:={ s with heap:=h' }) e c d (by decide) ⟨x,H,I1,ru,⟨rfl,fun ys hy=>by rw [I.list_inj hy hq];exact hx⟩,st',fun b hb=>(hf b hb).1⟩⟩
 done:=by
  intro X hP hw hK hc i pins s σ H E I hf st hg
  subst hP hw hK
  obtain ⟨xs,hq,hx⟩:=hg
  obtain ⟨its,rv,p,hz⟩:=I.list hq
  obtain ⟨f0,f1,f2,f3,f4,f5⟩:=hf it (by simp)
  have hl:=rv.length
  exact wpAny_pyNext_list_end (I.ok.hd hc) st p.isList (by simp;lia) fun h' eb=>⟨rfl,I.turned (t':=s.toks) (fun b o hb e=>eb b o hb e) f0 f1 f3 f4 f5⟩
 self:=fun _ _ _ _ _ st h=>wpAny_pyIter_listiter st h
theorem yi9 {P:Program} {w:World} {K:Frag} {tg:Expr} (a it:Addr):yH5 P w K tg (Itt K a) [it] it (fun i h=>h.IsTupleIter it a i) where
 mem:=by simp
 obj:=fun i h st b hb=>by
  have e:b=it:=by simpa using hb
  subst e
  obtain ⟨o,e,c,d⟩:=st
  exact ⟨o,e,fun v z=>by rw [d] at z;cases z⟩
 keep:=fun i h h' st k=>st.at fun o e=>k it (by simp) o e
 item:=by
  intro X hP hw hK hc i pins s σ H E I hf st hg
  subst hP hw hK
  obtain ⟨xs,x,hq,hx⟩:=hg
  obtain ⟨its,rv,p,hz⟩:=I.tuple hq
  obtain ⟨u,hu,ru⟩:=rv.get hx
  obtain ⟨f0,f1,f2,f3,f4,f5⟩:=hf it (by simp)
  refine wpAny_pyNext_tuple_item st (show s.heap.IsTuple a its.toArray from p) (x:=u) (by simpa using hu) fun h' st' sb=>?_
  have I1:Inv X pins σ H { s with heap:=h' }:=I.turned (t':=s.toks) (fun b o hb e=>(sb.2 b hb).trans e) f0 f1 f3 f4 f5
  obtain ⟨o,e,c,d⟩:=id st'
  exact ⟨u,rfl,yw1 (s:={ s with heap:=h' }) e c d (by decide) ⟨x,H,I1,ru,⟨rfl,fun ys hy=>by rw [I.tuple_inj hy hq];exact hx⟩,st',fun b hb=>(hf b hb).1⟩⟩
 done:=by
  intro X hP hw hK hc i pins s σ H E I hf st hg
  subst hP hw hK
  obtain ⟨xs,hq,hx⟩:=hg
  obtain ⟨its,rv,p,hz⟩:=I.tuple hq
  obtain ⟨f0,f1,f2,f3,f4,f5⟩:=hf it (by simp)
  have hl:=rv.length
  exact wpAny_pyNext_tuple_end (I.ok.hd hc) st (show s.heap.IsTuple a its.toArray from p) (by simp;lia) fun h' eb=>⟨rfl,I.turned (t':=s.toks) (fun b o hb e=>eb b o hb e) f0 f1 f3 f4 f5⟩
 self:=fun _ _ _ _ _ st h=>wpAny_pyIter_tupleiter st h
theorem yh0 {P:Program} {w:World} {K:Frag} {tg:Expr} (it:Addr) (lo:Int) (n:Nat):yH5 P w K tg (Itr lo n) [it] it (fun i h=>IsRangeIter h it (lo+(i:Nat) * 1) ((n:Int) - (i:Nat)) 1) where
 mem:=by simp
 obj:=fun i h st b hb=>by
  have e:b=it:=by simpa using hb
  subst e
  exact ⟨_,st,fun v z=>by
   have z':Data.fields _=Data.cell v:=z
   cases z'⟩
 keep:=fun i h h' st k=>k it (by simp) _ st
 item:=by
  intro X hP hw hK hc i pins s σ H E I hf st hg
  subst hP hw hK
  obtain ⟨f0,f1,f2,f3,f4,f5⟩:=hf it (by simp)
  have W:=Walks.range (prog:=X.prog) (w:=X.w) (I.ok.hd hc) it lo 1 n
  refine W.item i s _ _ hg st fun v h' tk hv st' kk=>?_
  obtain ⟨t,rfl⟩:=hv
  have I1:Inv X pins σ H { s with heap:=h',toks:=tk }:=I.turned (fun b o hb e=>kk b o (by simpa using hb) e) f0 f1 f3 f4 f5
  refine ⟨_,rfl,yw1 (s:={ s with heap:=h',toks:=tk }) (n := "range_iterator") st' rfl rfl (by decide) ⟨.int (lo+i),H,I1,⟨t,?_⟩,⟨rfl,rfl⟩,st',fun b hb=>(hf b hb).1⟩⟩
  rw [Int.mul_one]
 done:=by
  intro X hP hw hK hc i pins s σ H E I hf st hg
  subst hP hw hK
  obtain ⟨f0,f1,f2,f3,f4,f5⟩:=hf it (by simp)
  exact wpAny_pyNext_range_end (I.ok.hd hc) st (by have:n≤i:=hg;lia) fun h' eb=>⟨rfl,I.turned (t':=s.toks) (fun b o hb e=>eb b o hb e) f0 f1 f3 f4 f5⟩
 self:=fun _ _ _ _ _ st h=>wpAny_pyIter_rangeiter st h
section
variable {X:Cx} {tg:Expr}
theorem yx4 {pins:List (Addr×Obj)} {σ:St} {H:Hp} {s:Shared} {R:It→Hp→Prop} {E:Value→Shared→Prop} {lo hi:Int} {t u v:Tok} {tk:Nat} (I:Inv X pins σ H s) (h1:-(2 ^ 62)≤lo) (h2:lo<2 ^ 62) (h3:-(2 ^ 62)≤hi) (h4:hi<2 ^ 62)
  (q:R (Itr lo (hi - lo).toNat) H):wpAny (model X.prog X.w) X.A (pyIter (.ref s.heap.objs.size)) (PIE X pins σ tg R) E { s with heap:=s.heap.push { cls:=.type "range", data:=.fields #[.int lo t,.int hi u,.int 1 v] },toks:=tk }:=by
 refine wpAny_pyIter_range (IsRange.new ..) (small_one h1 h2 h3 h4) ?_
 have I1:Inv X pins σ H { s with heap:=s.heap.push { cls:=.type "range", data:=.fields #[.int lo t,.int hi u,.int 1 v] },toks:=tk }:=I.kept fun b o e=>Heap.get?_push_of_some _ e
 refine ⟨(s.heap.push { cls:=.type "range", data:=.fields #[.int lo t,.int hi u,.int 1 v] }).objs.size,[(s.heap.push { cls:=.type "range", data:=.fields #[.int lo t,.int hi u,.int 1 v] }).objs.size],_,_,H,rfl,
  I1.kept (t':=tk) fun b o e=>Heap.get?_push_of_some _ e,yh0 _ lo (hi - lo).toNat,?_,fun b hb=>?_,q⟩
 ·have e1:lo+((0:Nat):Int) * 1=lo:=by simp
  have e2:(((hi - lo).toNat:Nat):Int) - ((0:Nat):Int)=Builtin.Range.rangeSize lo hi 1:=by rw [rangeSize_one];split <;> lia
  show IsRangeIter _ _ (lo+((0:Nat):Int) * 1) ((((hi - lo).toNat:Nat):Int) - ((0:Nat):Int)) 1
  rw [e1,e2]
  exact Heap.get?_push_size _ rfl
 ·have e:b=(s.heap.push { cls:=.type "range", data:=.fields #[.int lo t,.int hi u,.int 1 v] }).objs.size:=by simpa using hb
  subst e
  exact I1.fpOk (Nat.le_refl _) (I1.hok.fresh (Nat.le_refl _))
noncomputable def xd5 (ta:TA):TI:=fun σ H R=>ta σ H fun vs H1=>∃ j:Int,vs=[.int j]∧-(2 ^ 62)≤j∧j<2 ^ 62∧R (Itr 0 j.toNat) H1
theorem yl3 {a:Expr} {ta:TA} {p pos:Pos} (hg:Gl X "range") (hm:X.mg "range" = none) (ha:PA X [a] ta) (hs:starEach [a] X.env=[(false,eval a X.env)]):PI X tg (.Call (.Name "range" p) [a] [] pos) (xd5 ta):=by
 intro pins s σ H R I h
 refine Call_ (zw1 I hg hm boot_range (PyProof.Rows.callWith_type1 (thn (ha pos pins s σ H _ I h) fun us s1 ⟨vs,H1,I1,r1,q1⟩=>?_) hs rfl))
 obtain ⟨j,e,q1,q2,q⟩:=q1
 subst e
 cases r1 with
 | cons r rr =>
  cases rr
  obtain ⟨t,rfl⟩:=r
  exact call_range_1 (yx4 I1 (by lia) (by lia) q1 q2 (by simpa using q))
noncomputable def tFor (wi:TI) (g:TG) (tb:TS):TS:=fun D σ H=>wi σ H fun J H1=>∃ W:Nat→Nat→St→Hp→Prop,(∃ m,W 0 m σ H1)∧∀ i m σ H,W i m σ H →
 (J.stop i H∧D.nx σ H)∨(J.go i H∧∃ N:St→Hp→Prop,(∀ σ' H',N σ' H'→∃ m',m'<m∧W (i+1) m' σ' H')∧∀ x H',J.yld i H x H'→g x σ H' fun σ2 H2=>tb { D with nx:=N,ct:=N,bk:=D.nx } σ2 H2)
noncomputable def zK9 (fp:List Addr) (h:Heap):List (Addr×Obj):=fp.filterMap fun b=>(h.get? b).map fun o=>(b,o)
theorem zo0 {fp:List Addr} {h:Heap} {b:Addr} {o:Obj} (hb:b∈fp) (e:h.get? b=some o):(b,o)∈zK9 fp h:=List.mem_filterMap.mpr ⟨b,hb,by rw [e];rfl⟩
theorem yl6 {fp:List Addr} {h:Heap} {p:Addr×Obj} (hp:p∈zK9 fp h):p.1∈fp∧h.get? p.1=some p.2:=by
 obtain ⟨b,hb,e⟩:=List.mem_filterMap.mp hp
 cases q:h.get? b with
 | none=>rw [q] at e;cases e
 | some o =>
  rw [q] at e
  have e':(b,o)=p:=Option.some.inj e
  subst e'
  exact ⟨hb,q⟩
theorem Inv.pinned {pins:List (Addr×Obj)} {σ:St} {H:Hp} {s:Shared} {fp:List Addr} (I:Inv X pins σ H s) (hf:∀ b∈fp,zV7 X pins H b) (ho:∀ b∈fp,∃ o,s.heap.get? b=some o∧∀ v,o.data≠.cell v):Inv X (pins++zK9 fp s.heap) σ H s :=
 I.pins_of fun p hp=>(List.mem_append.mp hp).elim (fun z=>I.pin p (List.mem_append_right _ z)) fun z=>by
  obtain ⟨hb,e⟩:=yl6 z
  obtain ⟨f0,f1,f2,_⟩:=hf p.1 hb
  obtain ⟨o,e',d⟩:=ho p.1 hb
  rw [e] at e';cases e'
  exact ⟨e,f0,f1,f2,d⟩
theorem Inv.unpinned {pins pl:List (Addr×Obj)} {σ:St} {H:Hp} {s:Shared} (I:Inv X (pins++pl) σ H s):Inv X pins σ H s:=I.pins_of fun p hp=>I.pin p (List.mem_append_right _ (List.mem_append_left _ hp))
theorem yS3 {iter:Expr} {body:List Stmt} {wi:TI} {g:TG} {tb:TS} {pos:Pos} (hp:PassesOwn (model X.prog X.w) X.A X.env X.xe) (hc:X.calm=true) (hi:PI X tg iter wi) (hg:PG X tg g) (hb:PSs X body tb)
  (hs:∀ x,foldedSetIterable iter X.env x=pure x):PS X (.For tg iter body [] pos) (tFor wi g tb):=by
 intro pins s σ H D I h
 refine wpAny_For (thn (hi pins s σ H _ I h) fun v s1 h1=>thn h1 fun itv s2 h2=>?_) hs
 obtain ⟨it,fp,tn,J,H2,e,I2,T,st2,f2,W,⟨m0,w0⟩,turn⟩:=h2
 subst e
 -- what stays true of the iterator's objects through the loop
 have stat:∀ {H':Hp},(∀ b∈fp,H' b=none)→∀ b∈fp,zV7 X pins H' b:=fun hn b hb=>⟨hn b hb,(f2 b hb).2⟩
 refine codeAny_forLoop_any (fun n s'=>∃ i σ' H',Inv X pins σ' H' s'∧tn i s'.heap∧(∀ b∈fp,H' b=none)∧W i n σ' H') ?_ m0 ⟨0,σ,H2,I2,st2,fun b hb=>(f2 b hb).1,w0⟩
 rintro n s3 ⟨i,σ3,H3,I3,st3,fr3,w3⟩
 rcases turn i n σ3 H3 w3 with ⟨stop,qn⟩ | ⟨go,N,hN,step⟩
 ·refine wpAny_passesOwn hp (thn (T.done X rfl rfl rfl hc i pins s3 σ3 H3 X.xe I3 (stat fr3) st3 stop) fun r s4 h_=>?_)
  obtain ⟨hr,I4⟩:=h_
  subst hr
  exact wpAny_execs_nil ⟨σ3,H3,I4,qn⟩
 ·refine wpAny_passesOwn hp (thn (T.item X rfl rfl rfl hc i pins s3 σ3 H3 X.xe I3 (stat fr3) st3 go) fun r s4 h_=>?_)
  obtain ⟨u,hr,h4⟩:=h_
  subst hr
  refine wpAny_passesOwn hp (thn h4 fun _ s5 h_=>?_)
  obtain ⟨x,H5,I5,r5,y5,st5,fr5⟩:=h_
  have I5':=I5.pinned (stat fr5) (T.obj _ _ st5)
  refine wpAny_passesOwn hp (thn (hg _ s5 σ3 H5 x u _ I5' r5 (step x H5 y5)) fun _ s6 h_=>?_)
  obtain ⟨σ6,H6,I6,q6⟩:=h_
  refine wpAny_passesOwn hp (thn (hb _ s6 σ6 H6 _ I6 q6) fun f s7 q7=>?_)
  have again:∀ {σ7:St} {H7:Hp},Inv X (pins++zK9 fp s5.heap) σ7 H7 s7→N σ7 H7→∃ m,m<n∧∃ i σ' H',Inv X pins σ' H' s7∧tn i s7.heap∧(∀ b∈fp,H' b=none)∧W i m σ' H':=fun {σ7 H7} I7 n7=>by
   obtain ⟨m',hm,w7⟩:=hN σ7 H7 n7
   refine ⟨m',hm,i+1,σ7,H7,I7.unpinned,T.keep _ _ _ st5 fun b hb o e=>(I7.pin (b,o) (List.mem_append_right _ (List.mem_append_right _ (zo0 hb e)))).1,fun b hb=>?_,w7⟩
   obtain ⟨o,e,d⟩:=T.obj _ _ st5 b hb
   exact (I7.pin (b,o) (List.mem_append_right _ (List.mem_append_right _ (zo0 hb e)))).2.1
  cases f with
  | next=>obtain ⟨σ7,H7,I7,n7⟩:=q7;exact again I7 n7
  | cont=>obtain ⟨σ7,H7,I7,n7⟩:=q7;exact again I7 n7
  | brk=>obtain ⟨σ7,H7,I7,q7⟩:=q7;exact ⟨σ7,H7,I7.unpinned,q7⟩
  | ret v=>obtain ⟨x7,σ7,H7,I7,r7,q7⟩:=q7;exact ⟨x7,σ7,H7,I7.unpinned,r7,q7⟩
end
noncomputable abbrev R2:=V→V→Hp→VK→Prop
def OpR (X:Cx) (f:Value→Value→Sem Value) (r:R2):Prop :=
 ∀ (pins:List (Addr×Obj)) (s:Shared) (σ:St) (H:Hp) (x y:V) (v u:Value) (Q:VK),Inv X pins σ H s→RelV x v→RelV y u→r x y H Q →
  wpAny (model X.prog X.w) X.A (f v u) (EP X pins σ Q) X.xe s
def zN5 (X:Cx) (f:Value) (r:List V→Hp→VK→Prop):Prop :=
 ∀ (pins:List (Addr×Obj)) (s:Shared) (σ:St) (H:Hp) (xs:List V) (us:List Value) (Q:VK),Inv X pins σ H s→zh0 xs us→r xs H Q →
  wpAny (model X.prog X.w) X.A (call f us) (EP X pins σ Q) X.xe s
noncomputable def tOp (r:R2) (ta tb:TE):TE:=fun σ H Q=>ta σ H fun x H1=>tb σ H1 fun y H2=>r x y H2 Q
noncomputable def rI (C:Int→Int→Prop) (g:Int→Int→V):R2:=fun x y H Q=>∃ i j,x=.int i∧y=.int j∧C i j∧Q (g i j) H
noncomputable def rI0 (g:Int→Int→V):R2:=fun x y H Q=>∃ i j,x=.int i∧y=.int j∧Q (g i j) H
section
variable {X:Cx} {a b c:Expr} {ta tb tc:TE} {pos:Pos}
theorem xb1 (ha:PE X a ta) (hb:PE X b tb) {pins:List (Addr×Obj)} {s:Shared} {σ:St} {H:Hp} {R:V→V→Hp→Prop} (I:Inv X pins σ H s)
  (h:ta σ H fun x H1=>tb σ H1 fun y H2=>R x y H2) {Q:Value→Shared→Prop} {f:Value→Value→Sem Value}
  (hf:∀ v u s2 x y H2,Inv X pins σ H2 s2→RelV x v→RelV y u→R x y H2→wpAny (model X.prog X.w) X.A (f v u) Q X.xe s2) :
  wpAny (model X.prog X.w) X.A (eval a X.env) (fun v s₁=>wpAny (model X.prog X.w) X.A (eval b X.env) (fun u s₂=>wpAny (model X.prog X.w) X.A (f v u) Q X.xe s₂) X.xe s₁) X.xe s:=by
 refine thn (ha pins s σ H _ I h) fun v s1 h_=>?_
 obtain ⟨x,H1,I1,r1,q1⟩:=h_
 refine thn (hb pins s1 σ H1 _ I1 q1) fun u s2 h_=>?_
 obtain ⟨y,H2,I2,r2,q2⟩:=h_
 exact hf v u s2 x y H2 I2 r1 r2 q2
theorem xb5 {op:Operator} {r:R2} (ho:OpR X (binaryOp op) r) (ha:PE X a ta) (hb:PE X b tb):PE X (.BinOp a op b pos) (tOp r ta tb):=by
 intro pins s σ H Q I h
 exact wpAny_BinOp (xb1 ha hb I h fun v u s2 x y H2 I2 rx ry q=>ho pins s2 σ H2 x y v u Q I2 rx ry q)
theorem opI {f:Value→Value→Sem Value} {C:Int→Int→Prop} {g:Int→Int→Int}
  (rule:∀ (i j:Int) (t u:Tok) (s:Shared) (Q:Value→Shared→Prop) (E:Value→Shared→Prop),C i j→Q (.int (g i j) s.toks) { s with toks:=s.toks+1 }→wpAny (model X.prog X.w) X.A (f (.int i t) (.int j u)) Q E s) :
  OpR X f (rI C fun i j=>.int (g i j)):=by
 intro pins s σ H x y v u Q I rx ry h
 obtain ⟨i,j,rfl,rfl,hc,q⟩:=h
 obtain ⟨t,rfl⟩:=rx
 obtain ⟨t',rfl⟩:=ry
 exact rule i j t t' s _ _ hc ⟨.int (g i j),H,I.tok _,⟨_,rfl⟩,q⟩
theorem opI0 {f:Value→Value→Sem Value} {g:Int→Int→Int}
  (rule:∀ (i j:Int) (t u:Tok) (s:Shared) (Q:Value→Shared→Prop) (E:Value→Shared→Prop),Q (.int (g i j) s.toks) { s with toks:=s.toks+1 }→wpAny (model X.prog X.w) X.A (f (.int i t) (.int j u)) Q E s) :
  OpR X f (rI0 fun i j=>.int (g i j)):=by
 intro pins s σ H x y v u Q I rx ry h
 obtain ⟨i,j,rfl,rfl,q⟩:=h
 obtain ⟨t,rfl⟩:=rx
 obtain ⟨t',rfl⟩:=ry
 exact rule i j t t' s _ _ ⟨.int (g i j),H,I.tok _,⟨_,rfl⟩,q⟩
theorem xb9 {f:Value→Value→Sem Value} {g:Int→Int→Bool}
  (rule:∀ (i j:Int) (t u:Tok) (s:Shared) (Q:Value→Shared→Prop) (E:Value→Shared→Prop),Q (.bool (g i j)) s→wpAny (model X.prog X.w) X.A (f (.int i t) (.int j u)) Q E s) :
  OpR X f (rI0 fun i j=>.bl (g i j)):=by
 intro pins s σ H x y v u Q I rx ry h
 obtain ⟨i,j,rfl,rfl,q⟩:=h
 obtain ⟨t,rfl⟩:=rx
 obtain ⟨t',rfl⟩:=ry
 exact rule i j t t' s _ _ ⟨.bl (g i j),H,I,rfl,q⟩
def CDiv (i j:Int):Prop:=0<j∧j<1073741824
def CPow (i j:Int):Prop:=0≤j∧j≤1000000∧i.natAbs<2 ^ 64
def xc0 (i j:Int):Prop:=(-(2 ^ 64)<i∧i<2 ^ 64)∨(-(2 ^ 64)<j∧j<2 ^ 64)
theorem xc0.ok {i j:Int} (h:xc0 i j):IntMulOk i j:=by
 rcases h with ⟨h1,h2⟩ | ⟨h1,h2⟩
 ·exact .of_left (intBits_le_64 h1 h2)
 ·exact .of_right (intBits_le_64 h1 h2)
theorem yP9:OpR X (binaryOp .Add) (rI0 fun i j=>.int (i+j)):=opI0 fun _ _ _ _ _ _ _ q=>add_int q
theorem yO6:OpR X (binaryOp .Sub) (rI0 fun i j=>.int (i - j)):=opI0 fun _ _ _ _ _ _ _ q=>sub_int q
theorem yP1:OpR X (binaryOp .Mult) (rI xc0 fun i j=>.int (i * j)):=opI fun _ _ _ _ _ _ _ hc q=>mul_int q hc.ok
theorem xb6:OpR X (binaryOp .FloorDiv) (rI CDiv fun i j=>.int (i / j)):=opI fun i j _ _ _ _ _ hc q=>by
 have h1:(0:Int)<j:=hc.1
 have h2:j<1073741824:=hc.2
 exact floordiv_int (by lia) (by rw [Int.fdiv_eq_ediv_of_nonneg i (by lia)];exact q) (.inl (PyProof.noPylong_small (by lia)))
theorem yU4:OpR X (binaryOp .Mod) (rI (fun _ j=>0<j) fun i j=>.int (i % j)):=opI fun i j _ _ _ _ _ hc q=>by
 have h1:(0:Int)<j:=hc
 exact mod_int' (by lia) (by rw [Int.fmod_eq_emod_of_nonneg i (by lia)];exact q)
theorem yW2:OpR X (binaryOp .Pow) (rI CPow fun i j=>.int (i ^ j.toNat)):=opI fun _ _ _ _ _ _ _ hc q=>pow_int_small hc.1 hc.2.1 hc.2.2 q
end
section
variable {X:Cx} {a b c:Expr} {ta tb tc:TE} {pos:Pos}
theorem yS0 {pins:List (Addr×Obj)} {σ:St} {H:Hp} {s:Shared} {Q:VK} {k k':Bool} (I:Inv X pins σ H s) (q:Q (.bl k) H) (e:k=k'):EP X pins σ Q (.bool k') s:=by
 subst e
 exact ⟨.bl k,H,I,rfl,q⟩
theorem xc6:OpR X (compareOp .Lt) (rI0 fun i j=>.bl (decide (i<j))):=xb9 fun _ _ _ _ _ _ _ q=>lt_int q
theorem xe5:OpR X (compareOp .Gt) (rI0 fun i j=>.bl (decide (j<i))):=xb9 fun _ _ _ _ _ _ _ q=>gt_int q
theorem xh5:OpR X (compareOp .GtE) (rI0 fun i j=>.bl (decide (j≤i))):=xb9 fun _ _ _ _ _ _ _ q=>ge_int q
theorem yt3:OpR X (compareOp .In) (fun x y H Q=>∃ i j,x=.str i∧y=.str j∧Q (.bl (!(Builtin.Str.occurrences j i 0 j.length 1).isEmpty)) H):=by
 intro pins s σ H x y v u Q I rx ry h
 obtain ⟨i,j,rfl,rfl,q⟩:=h
 obtain ⟨t,rfl⟩:=rx
 obtain ⟨t',rfl⟩:=ry
 exact in_str (yS0 I q rfl)
theorem zi4 (b:Expr) {op:CmpOp} (h:op≠.In:=by decide) (h2:op≠.NotIn:=by decide):behindInMarks op b=false:=by
 have e1:(op==CmpOp.In)=false:=by cases op <;> first | rfl | exact absurd rfl h
 have e2:(op==CmpOp.NotIn)=false:=by cases op <;> first | rfl | exact absurd rfl h2
 cases b <;> simp [behindInMarks,e1,e2]
theorem yK4 {op:CmpOp} {r:R2} (ho:OpR X (compareOp op) r) (ha:PE X a ta) (hb:PE X b tb) (hm:behindInMarks op b=false):PE X (.Compare a [op] [b] pos) (tOp r ta tb):=by
 intro pins s σ H Q I h
 exact wpAny_Compare1 (xb1 ha hb I h fun v u s2 x y H2 I2 rx ry q=>ho pins s2 σ H2 x y v u Q I2 rx ry q) hm
noncomputable def xf4 (t:TE):TT:=fun σ H Q=>t σ H fun x H'=>∃ k,x=.bl k∧Q k H'
theorem yL6 {op:CmpOp} {r:R2} (ho:OpR X (compareOp op) r) (ha:PE X a ta) (hb:PE X b tb) (hm:behindInMarks op b=false):PT X (.Compare a [op] [b] pos) (xf4 (tOp r ta tb)):=by
 intro pins s σ H Q I h
 refine wpAny_isTrue_Compare1 (thn (ha pins s σ H _ I h) fun v s1 ⟨x,H1,I1,r1,q1⟩=>thn (hb pins s1 σ H1 _ I1 q1) fun u s2 ⟨y,H2,I2,r2,q2⟩ =>
  thn (ho pins s2 σ H2 x y v u _ I2 r1 r2 q2) fun c s3 ⟨z,H3,I3,r3,k,e,q3⟩=>?_) hm
 subst e
 cases r3
 exact wpAny_truthy_bool ⟨H3,I3,q3⟩
theorem zL0:(sizeLine:Nat)<2 ^ 63:=by rw [sizeLine_eq];decide
theorem yi6:OpR X (binaryOp .Add) (fun x y H Q=>∃ i j,x=.str i∧y=.str j∧i.length+j.length≤sizeLine∧Q (.str (i++j)) H):=by
 intro pins s σ H x y v u Q I rx ry h
 obtain ⟨i,j,rfl,rfl,hz,q⟩:=h
 obtain ⟨t,rfl⟩:=rx
 obtain ⟨t',rfl⟩:=ry
 exact add_str (fun t' tk=>⟨.str (i++j),H,I.tok _,⟨_,rfl⟩,q⟩) hz
theorem yf7 {x:V} {us:List Value} (r:zh0 [x] us):∃ u,us=[u]∧RelV x u:=by
 cases r with
 | cons r1 r2=>cases r2;exact ⟨_,rfl,r1⟩
theorem zS9:zN5 X (.type "int") (fun xs H Q=>(∃ i,xs=[.int i]∧Q (.int i) H)∨∃ k,xs=[.bl k]∧Q (.int (if k then 1 else 0)) H):=by
 intro pins s σ H xs us Q I r h
 rcases h with ⟨i,rfl,q⟩ | ⟨k,rfl,q⟩
 ·obtain ⟨u,rfl,t,rfl⟩:=yf7 r
  exact call_int_int ⟨.int i,H,I,⟨_,rfl⟩,q⟩
 ·obtain ⟨u,rfl,r1⟩:=yf7 r
  cases r1
  exact call_int_bool ⟨.int (if k then 1 else 0),H,I.tok _,⟨_,rfl⟩,q⟩
end
structure xc8 (h:Heap) (x dx C:Addr) (mA:Str→Option Value):Prop where
 obj:h.get? x=some (PySem.W.instObj C dx)
 ns:h.Ns1 dx mA
 ne:dx≠x
theorem yq7 {h:Heap} {dx:Addr} {mA:Str→Option Value} (n:h.Ns1 dx mA):∃ od,h.get? dx=some od∧∀ name,PySem.W.lookIn name od=some (mA name):=by
 obtain ⟨o,es,ep,ho,hd,hk,_,hm⟩:=n
 refine ⟨o,ho,fun name=>?_⟩
 have e:=hm name
 unfold nsFind findBy at e
 rw [← Array.find?_toList] at e
 unfold PySem.W.lookIn
 rw [hd]
 dsimp only
 split
 ·rename_i y q
  rw [q] at e
  exact congrArg some e
 ·rename_i q
  rw [q] at e
  have a:es.toList.any (·.refKey)=false:=by
   rw [List.any_eq_false]
   intro y hy
   obtain ⟨z,t,hkey⟩:=hk y (Array.mem_toList_iff.mp hy)
   simp [DictEntry.refKey,hkey]
  have a':¬ es.toList.any (·.refKey)=true:=by rw [a];exact Bool.false_ne_true
  rw [if_neg a']
  exact congrArg some e
theorem xc8.look {h:Heap} {x dx C:Addr} {mA:Str→Option Value} (I:xc8 h x dx C mA):∃ od,PySem.W.InstAt h x (PySem.W.instObj C dx) C (some od)∧∀ name,PySem.W.lookIn name od=some (mA name) :=
 let ⟨od,ho,hl⟩:=yq7 I.ns
 ⟨od,⟨I.obj,rfl,rfl,ho⟩,hl⟩
section
variable {prog:Program} {w:World} {A:Around} {E:Value→Shared→Prop} {s:Shared} {K:Frag} {x dx C f:Addr} {mA:Str→Option Value} {name:Str} {v:Value}
end
theorem yf5.some_of {v:V} {o:Option Value} (r:yf5 (some v) o):∃ u,o=some u∧RelV v u:=by
 cases o with
 | none=>exact (show False from r).elim
 | some u=>exact ⟨u,rfl,r⟩
section
variable {P:Program} {w:World} {H H':Hp} {h h':Heap} {a C dx:Addr} {fs fs':List (Str×V)}
theorem yG9 (hok:HOk P w H h) (e:H a=some (.ins C dx fs)):∃ mA,xc8 h a dx C mA∧(∀ f,yf5 (fs.lookup f) (mA f))∧PySem.Within mA (fs.map (·.1))∧fs.length≤1000∧H dx=some (.own a):=by
 obtain ⟨d,z,ne,ob,mA,n,r,q⟩:=(show zk0 P w H h a (.ins C dx fs) from hok a _ e)
 exact ⟨mA,⟨ob,n,ne⟩,r,q,z,d⟩
end
structure Cls (K:Frag) (C:Addr):Prop where
 pg:PySem.W.plainGet K C Str.empty=true
 hd:PySem.W.hasDictIn K C=true
 po:PySem.W.plainOver K C=true
 sa:PySem.W.findIn K (.ref C) "__setattr__" = some (some (.builtin "object.__setattr__"))
theorem Cls.get {K:Frag} {C:Addr} (c:Cls K C) (f:Str):PySem.W.plainGet K C f=true:=c.pg
section
variable {X:Cx} {pins:List (Addr×Obj)} {σ:St} {H:Hp} {s:Shared} {a C dx:Addr} {fs:List (Str×V)} {f:Str} {v:V} {A:Around} {E:Value→Shared→Prop}
end
section
variable {X:Cx} {o e value:Expr} {f:Str} {pos pos' tpos:Pos} {ta tv:TE}
end
section
variable {X:Cx} {pins:List (Addr×Obj)} {σ:St} {H:Hp} {s:Shared} {A:Around} {E:Value→Shared→Prop} {Q:Value→Shared→Prop} {c:Value} {b:Bool}
inductive yj8 (K:Frag) (H:Hp):V→Value→Prop where
 | non:yj8 K H .non (.type "NoneType")
 | bl (x:Bool):yj8 K H (.bl x) (.type "bool")
 | int (i:Int):yj8 K H (.int i) (.type "int")
 | str (x:Str):yj8 K H (.str x) (.type "str")
 | flt (x:UInt64):yj8 K H (.flt x) (.type "float")
 | lst {a:Addr} {xs:List V} (e:H a=some (.lst xs)):yj8 K H (.ref a) (.type "list")
 | frz {a:Addr} {o:Obj} {xs:List V} (e:H a=some (.frz o (.lst xs))):yj8 K H (.ref a) (.type "list")
 | tup {a:Addr} {xs:List V} (e:H a=some (.tup xs)):yj8 K H (.ref a) (.type "tuple")
 | dK {a:Addr} {kvs:List (Key×V)} (e:H a=some (.dK kvs)):yj8 K H (.ref a) (.type "dict")
 | dT {a:Addr} {kvs:List (List Key×V)} (e:H a=some (.dT kvs)):yj8 K H (.ref a) (.type "dict")
 | ins {a C dx:Addr} {fs:List (Str×V)} (e:H a=some (.ins C dx fs)) (cl:Cls K C) (ha:PySem.W.findIn K (.ref C) "__class__" = some (some (.builtin "object.__class__")))
   (hn:PySem.W.specialIn K (.builtin "object.__class__") "__get__" = some (some (.builtin "getset_descriptor.__get__"))) (htk:PySem.W.takesIn K (.builtin "object.__class__")=some true)
   (hm:PySem.W.mroIn K C (.type "object")=some true):yj8 K H (.ref a) (.ref C)
theorem zz3 {x:V} {u t:Value} (I:Inv X pins σ H s) (rx:RelV x u) (ty:yj8 X.K H x t) (e:PySem.W.kitOne X.K t c=some b) (h:∀ tk,Q (.bool b) { s with toks:=tk }) :
  wpAny (model X.prog X.w) A (call (.builtin "isinstance") [u,c]) Q E s:=by
 cases ty with
 | non=>cases (show u=Value.none from rx);exact PySem.W.kia_one PySem.W.kitx_none I.kIn True.intro e (fun z=>nomatch z) h
 | bl y=>cases (show u=Value.bool y from rx);exact PySem.W.kia_one PySem.W.kitx_bool I.kIn True.intro e (fun z=>nomatch z) h
 | int i=>obtain ⟨t,q⟩:=(show ∃ t,u=Value.int i t from rx);cases q;exact PySem.W.kia_one PySem.W.kitx_int I.kIn True.intro e (fun z=>nomatch z) h
 | str y=>obtain ⟨t,q⟩:=(show ∃ t,u=Value.str y t from rx);cases q;exact PySem.W.kia_one PySem.W.kitx_str I.kIn True.intro e (fun z=>nomatch z) h
 | flt y=>obtain ⟨t,q⟩:=(show ∃ t,u=Value.float y t from rx);cases q;exact PySem.W.kia_one PySem.W.kitx_float I.kIn True.intro e (fun z=>nomatch z) h
 | @lst a xs ea =>
  cases (show u=Value.ref a from rx)
  obtain ⟨_,_,n,_,h1⟩:=(show zk0 X.prog X.w H s.heap a (.lst xs) from I.hok a _ ea)
  exact PySem.W.kia_one PySem.W.kitx_list I.kIn ⟨_,h1,rfl⟩ e (fun z=>nomatch z) h
 | @frz a ob xs ea =>
  cases (show u=Value.ref a from rx)
  obtain ⟨_,_,_,n,_,h1⟩:=(show zk0 X.prog X.w H s.heap a (.frz ob (.lst xs)) from I.hok a _ ea)
  exact PySem.W.kia_one PySem.W.kitx_list I.kIn ⟨_,h1,rfl⟩ e (fun z=>nomatch z) h
 | @tup a xs ea =>
  cases (show u=Value.ref a from rx)
  obtain ⟨_,_,_,p⟩:=(show zk0 X.prog X.w H s.heap a (.tup xs) from I.hok a _ ea)
  obtain ⟨o,h1,h2,_⟩:=p
  exact PySem.W.kia_one PySem.W.kitx_tuple I.kIn ⟨o,h1,h2⟩ e (fun z=>nomatch z) h
 | @dK a kvs ea =>
  cases (show u=Value.ref a from rx)
  obtain ⟨_,_,vs,_,p⟩:=(show zk0 X.prog X.w H s.heap a (.dK kvs) from I.hok a _ ea)
  obtain ⟨o,es,ep,h1,h2,_⟩:=p
  exact PySem.W.kia_one PySem.W.kitx_dict I.kIn ⟨o,h1,h2.1⟩ e (fun z=>nomatch z) h
 | @dT a kvs ea =>
  cases (show u=Value.ref a from rx)
  obtain ⟨_,_,xs,_,o,es,ep,h1,h2,_⟩:=(show zk0 X.prog X.w H s.heap a (.dT kvs) from I.hok a _ ea)
  exact PySem.W.kia_one PySem.W.kitx_dict I.kIn ⟨o,h1,h2.1⟩ e (fun z=>nomatch z) h
 | @ins a C dx fs ea cl ha hn htk hm =>
  cases (show u=Value.ref a from rx)
  obtain ⟨mA,O,_⟩:=yG9 I.hok ea
  obtain ⟨od,J,_⟩:=O.look
  exact PySem.W.kia_one (PySem.W.kitx_own (cl.get _) cl.hd ha hn htk hm) I.kIn J e (fun z=>nomatch z) h
end
structure zn4 (k:Nat) (A:Around):Prop where
 hd:A.handled=none
 dp:A.depth+3 * k+5<recursionLimit
 un:A.units+16 * k+200<cLine
 gd:A.guards=some []
theorem zn4.deeper {k:Nat} {A:Around} (r:zn4 (k+1) A) (env:Env):zn4 k (A.deeper env) :=
 ⟨r.hd,by have:=r.dp;show A.depth+1+3 * k+5<_;lia,by have:=r.un;show A.units+3+16 * k+200<_;lia,r.gd⟩
theorem zn4.depth {k:Nat} {A:Around} (r:zn4 k A):A.depth<recursionLimit:=by have:=r.dp;lia
noncomputable def tNil:TA:=fun _ H Q=>Q [] H
noncomputable def xe3 (ta:TE) (tr:TA):TA:=fun σ H Q=>ta σ H fun x H1=>tr σ H1 fun xs H2=>Q (x::xs) H2
section
variable {X:Cx} {e:Expr} {es:List Expr} {te:TE} {t:TA} {pos:Pos}
theorem yB9:PA X [] tNil:=fun _ _ _ _ H Q I h=>Calls.spliced_nil ⟨[],H,I,.nil,h⟩
theorem ya6 (ha:PE X e te) (hr:PA X es t) (hs:starEach (e::es) X.env=(false,eval e X.env)::starEach es X.env):PA X (e::es) (xe3 te t):=by
 intro pos pins s σ H Q I h
 rw [hs]
 show wpAny _ _ (spliced ((false,eval e X.env)::backTo pos (starEach es X.env))) _ _ s
 refine Calls.spliced_cons (thn (ha pins s σ H _ I h) fun u s1 h_=>?_)
 obtain ⟨x,H1,I1,r1,q1⟩:=h_
 exact thn (hr pos pins s1 σ H1 _ I1 q1) fun us s2 ⟨xs,H2,I2,r2,q2⟩=>⟨x::xs,H2,I2,.cons r1 r2,q2⟩
noncomputable def tTup (t:TA):TE:=fun σ H Q=>t σ H fun xs H1=>xs.length≤sizeLine∧∀ p,H1 p=none→Q (.ref p) (upd H1 p (.tup xs))
noncomputable def tLst (t:TA):TE:=fun σ H Q=>t σ H fun xs H1=>xs.length≤sizeLine∧∀ p,H1 p=none→Q (.ref p) (upd H1 p (.lst xs))
theorem yV5 {x1} (h:PA X es t):PE X (.Tuple es x1 pos) (tTup t):=by
 intro pins s σ H Q I hq
 refine wpAny_Tuple_spliced (thn (h pos pins s σ H _ I hq) fun us s1 ⟨xs,H1,I1,r,z,q⟩=>⟨by rw [← r.length];exact z,?_⟩)
 have hf:H1 s1.heap.objs.size=none:=I1.hok.fresh (Nat.le_refl _)
 refine ⟨.ref s1.heap.objs.size,upd H1 s1.heap.objs.size (.tup xs),I1.laid (t':=s1.toks) (fun b u e=>Heap.get?_push_of_some _ e) (Nat.le_refl _) ?_,rfl,q _ hf⟩
 exact ⟨z,us,r,⟨_,Heap.get?_push_size _ rfl,rfl,rfl,_,rfl⟩⟩
theorem yS9 (h:PA X es t):PE X (.List es pos) (tLst t):=by
 intro pins s σ H Q I hq
 refine wpAny_List_spliced (thn (h pos pins s σ H _ I hq) fun us s1 ⟨xs,H1,I1,r,z,q⟩=>⟨by rw [← r.length];exact z,?_⟩)
 have hf:H1 s1.heap.objs.size=none:=I1.hok.fresh (Nat.le_refl _)
 refine ⟨.ref s1.heap.objs.size,upd H1 s1.heap.objs.size (.lst xs),I1.laid (t':=s1.toks) (fun b u e=>Heap.get?_push_of_some _ e) (Nat.le_refl _) ?_,rfl,q _ hf⟩
 exact ⟨z,us,0,r,Heap.get?_push_size _ rfl⟩
end
noncomputable abbrev Sp:=List V→Hp→VK→XK→Prop
noncomputable abbrev CXT:=List Env→Hp→Shared→XK→Value→Shared→Prop
structure yZ1 (P:Program) (w:World) (K:Frag) (mg:Str→Option Value) (base:Heap) (A:Around) (outer:List Env) (s:Shared) (H:Hp):Prop where
 frames:A.frames=some outer
 mod:Mod K mg base
 bs:∀ b o,base.get? b=some o→s.heap.get? b=some o∧H b=none
 bsz:base.objs.size≤s.heap.objs.size
 funs:s.heap.FunFrames base outer
 frf:∀ b∈frs outer,H b=none
 hok:HOk P w H s.heap
 bare:AllBare s.gens
def CE (outer:List Env) (P:Program) (w:World) (H:Hp) (s:Shared) (Q:VK) (u:Value) (s':Shared):Prop :=
 ∃ v H',s'.os=s.os∧AllBare s'.gens∧Un (frs outer) [] H H' s.heap s'.heap∧HOk P w H' s'.heap∧RelV v u∧Q v H'
def CR (CX:CXT) (outer:List Env) (P:Program) (w:World) (H:Hp) (s:Shared) (Q:VK) (E:XK) (r:Result) (s':Shared):Prop :=
 match r with
 | .ok (.ret u)=>CE outer P w H s Q u s'
 | .ok _=>False
 | .error e=>CX outer H s E e s'
structure zp8 (P:Program) (w:World) (K:Frag) (mg:Str→Option Value) (base:Heap) (CX:CXT) (k:Nat) (f:Addr) (fd:FuncData) (ps:List Str) (sp:Sp):Prop where
 len:∀ vs H Q E,sp vs H Q E→vs.length=ps.length
 run:∀ (A:Around) (outer:List Env) (s:Shared) (H:Hp) (args:Args) (us:List Value) (vs:List V) (Q:VK) (E:XK),zn4 k A→yZ1 P w K mg base A outer s H→BindsTo s fd args (ps.zip us)→zh0 vs us→sp vs H Q E →
  codeAny (model P w) A (.call (.ref f) args) (CR CX outer P w H s Q E) s
section
variable {X:Cx} {pins:List (Addr×Obj)} {σ:St} {H:Hp} {s s':Shared}
theorem Inv.env0 (I:Inv X pins σ H s):yZ1 X.prog X.w X.K X.mg X.base X.A X.stack s H :=
 ⟨I.ok.frames,I.ok.mod,I.bs,Nat.le_trans I.ok.bsz I.sz,I.stack,I.stkFree,I.hok,I.bare⟩
theorem Inv.after {Q:VK} {u:Value} (I:Inv X pins σ H s) (h:CE X.stack X.prog X.w H s Q u s'):EP X pins σ Q u s':=by
 obtain ⟨v,H',os,bare,un,hok,r,q⟩:=h
 obtain ⟨hh,g,d,t,os'⟩:=s'
 obtain rfl:os'=s.os:=os
 exact ⟨v,H',I.call (h':=hh) (g':=g) (d':=d) (t':=t) (ch:=[]) un hok bare (fun b z=>absurd z (by simp)),r,q⟩
end
noncomputable def yR0 (sp:Sp) (dvs:List V) (E:XK) (t:TA):TE:=fun σ H Q=>t σ H fun vs H1=>sp (vs++dvs) H1 Q E
def Binds (K:Frag) (fd:FuncData) (ps:List Str) (ds:List Value):Prop :=
 ∀ (s:Shared) (us:List Value),K.In s.heap→(us++ds).length=ps.length→BindsTo s fd ⟨us,[]⟩ (ps.zip (us++ds))
theorem Binds.all {K:Frag} {fd:FuncData} {ps:List Str} (h:∀ us:List Value,us.length=ps.length→bindArgs fd ⟨us,[]⟩=pure (ps.zip us)):Binds K fd ps []:=fun s us _ hl=>by
 rw [List.append_nil] at hl ⊢
 exact .of_eq (h us hl)
def yd3 (CX:CXT) (X:Cx) (E:XK):Prop:=∀ (pins:List (Addr×Obj)) (σ:St) (H:Hp) (s:Shared) (e:Value) (s':Shared),Inv X pins σ H s→CX X.stack H s E e s'→X.xe e s'
section
variable {X:Cx} {CX:CXT} {k:Nat} {f C:Addr} {fd:FuncData} {ps:List Str} {sp:Sp} {dvs:List V} {ds:List Value} {E:XK} {x m:Str} {p pos apos:Pos} {e o:Expr} {es:List Expr} {ta:TE} {t:TA}
theorem yD5 {pins:List (Addr×Obj)} {σ:St} {H:Hp} {s:Shared} {Q:VK} {us:List Value} {vs:List V} (F:zp8 X.prog X.w X.K X.mg X.base CX k f fd ps sp) (hr:zn4 k X.A) (hb:Binds X.K fd ps ds) (hd:zh0 dvs ds) (hx:yd3 CX X E)
  (I:Inv X pins σ H s) (r:zh0 vs us) (h:sp (vs++dvs) H Q E):wpAny (model X.prog X.w) X.A (call (.ref f) us) (EP X pins σ Q) X.xe s:=by
 have r2:zh0 (vs++dvs) (us++ds):=r.append hd
 have hl:(us++ds).length=ps.length:=by rw [← r2.length];exact F.len _ _ _ _ h
 refine wpAny_call (codeAny_mono (F.run X.A X.stack s H ⟨us,[]⟩ (us++ds) (vs++dvs) Q E hr I.env0 (hb s us I.kIn hl) r2 h) fun r s' hq=>?_)
 cases r with
 | error e=>exact hx pins σ H s e s' I hq
 | ok fl =>
  cases fl with
  | ret u=>exact I.after hq
  | next=>exact False.elim hq
  | brk=>exact False.elim hq
  | cont=>exact False.elim hq
theorem yJ0 (F:zp8 X.prog X.w X.K X.mg X.base CX k f fd ps sp) (hr:zn4 k X.A) (hg:Gl X x) (hm:X.mg x=some (.ref f)) (hk:keepIn X.K (.ref f)=true) (hb:Binds X.K fd ps ds) (hd:zh0 dvs ds) (hx:yd3 CX X E)
  (ha:PA X (e::es) t) (hdb:(x==("__debug__" : Str))=false) (he:starEach (e::es) X.env=(false,eval e X.env)::starEach es X.env) (hpl:(backTo pos (starEach es X.env)).any (·.1)=false) :
  PE X (.Call (.Name x p) (e::es) [] pos) (yR0 sp dvs E t):=by
 intro pins s σ H Q I h
 refine wpAny_Call_Name_kw (zX5 I hg hm ?_ hdb)
 refine PySem.W.callWith_K (h₀:=X.base) I.ok.mod.kin hk (thn (ha pos pins s σ H _ I h) fun us s1 ⟨vs,H1,I1,r,q⟩=>⟨I1.kIn,?_⟩) he hpl
 exact yD5 F hr hb hd hx I1 r q
theorem yx0 (F:zp8 X.prog X.w X.K X.mg X.base CX k f fd ps sp) (hr:zn4 k X.A) (hg:Gl X x) (hm:X.mg x=some (.ref f)) (hk:keepIn X.K (.ref f)=true) (hb:Binds X.K fd ps ds) (hd:zh0 dvs ds) (hx:yd3 CX X E)
  (hdb:(x==("__debug__" : Str))=false):PE X (.Call (.Name x p) [] [] pos) (yR0 sp dvs E tNil):=by
 intro pins s σ H Q I h
 refine wpAny_Call_Name_kw (zX5 I hg hm ?_ hdb)
 exact PySem.W.callWith_K0 I.kIn hk (yD5 (us:=[]) F hr hb hd hx I .nil h)
end
section
variable {X:Cx} {CX:CXT} {k:Nat} {f C:Addr} {fd:FuncData} {ps ks:List Str} {sp:Sp} {E:XK} {x m:Str} {p pos apos kpos:Pos} {e o:Expr} {es:List Expr} {kws:List Keyword} {te ta:TE} {t tk:TA} {nm:Option Str}
variable {g:List Value→List Value→List Value} {gV:List V→List V→List V}
end
structure zc8 (N P:List Str) (sc:Scope):Prop where
 kind:sc.kind=.function
 co:sc.isCoroutine=false
 gen:sc.isGenerator=false
 nd:N.Nodup
 pre:N.take P.length=P
 par:∀ x∈P,sc.names.lookup x=some .local∨sc.names.lookup x=some .cell
 nofree:∀ y∈sc.names,y.2≠.free
theorem zV2 {kindOf:Str→Option NameKind} {x:Str}:∀ {binds:List (Str×Value)} {m:Str→Option Value},(∀ v,(x,v)∉binds)→bindL kindOf binds m x=m x
 | [],_,_=>rfl
 | (n,v)::r,m,h=>by
  unfold bindL
  rw [zV2 fun w hw=>h w (List.mem_cons_of_mem _ hw)]
  split
  ·have:x≠n:=by rintro rfl;exact h v List.mem_cons_self
   simp [this]
  ·rfl
theorem zU0 {kindOf:Str→Option NameKind} {x:Str}:∀ {binds:List (Str×Value)} {m:Str→Option Value},(∀ v,(x,v)∉binds)→bindC kindOf binds m x=m x
 | [],_,_=>rfl
 | (n,v)::r,m,h=>by
  unfold bindC
  rw [zU0 fun w hw=>h w (List.mem_cons_of_mem _ hw)]
  split
  ·rfl
  ·have:x≠n:=by rintro rfl;exact h v List.mem_cons_self
   simp [this]
theorem zQ9 {kindOf:Str→Option NameKind} {x:Str} {v:Value}:∀ {P:List Str} {vs:List Value} {i:Nat} {m:Str→Option Value},P.Nodup→P[i]?=some x→vs[i]?=some v→kindOf x=some .local →
  bindL kindOf (P.zip vs) m x=some v
 | [],_,_,_,_,h,_,_=>by simp at h
 | _::_,[],_,_,_,_,h,_=>by simp at h
 | p::P,w::vs,0,m,nd,h1,h2,hk=>by
  simp at h1 h2;subst h1;subst h2
  show bindL kindOf ((p,w)::P.zip vs) m p=_
  unfold bindL
  rw [zV2 fun v hv=>(List.nodup_cons.mp nd).1 (List.of_mem_zip hv).1,if_pos hk]
  simp
 | p::P,w::vs,i+1,m,nd,h1,h2,hk=>by
  show bindL kindOf ((p,w)::P.zip vs) m x=_
  unfold bindL
  exact zQ9 (i:=i) (List.nodup_cons.mp nd).2 (by simpa using h1) (by simpa using h2) hk
theorem zV4 {kindOf:Str→Option NameKind} {x:Str} {v:Value}:∀ {P:List Str} {vs:List Value} {i:Nat} {m:Str→Option Value},P.Nodup→P[i]?=some x→vs[i]?=some v→kindOf x≠some .local →
  bindC kindOf (P.zip vs) m x=some v
 | [],_,_,_,_,h,_,_=>by simp at h
 | _::_,[],_,_,_,_,h,_=>by simp at h
 | p::P,w::vs,0,m,nd,h1,h2,hk=>by
  simp at h1 h2;subst h1;subst h2
  show bindC kindOf ((p,w)::P.zip vs) m p=_
  unfold bindC
  rw [zU0 fun v hv=>(List.nodup_cons.mp nd).1 (List.of_mem_zip hv).1,if_neg hk]
  simp
 | p::P,w::vs,i+1,m,nd,h1,h2,hk=>by
  show bindC kindOf ((p,w)::P.zip vs) m x=_
  unfold bindC
  exact zV4 (i:=i) (List.nodup_cons.mp nd).2 (by simpa using h1) (by simpa using h2) hk
noncomputable def start (N:List Str) (vs:List V):St:=vs.map some++List.replicate (N.length - vs.length) none
noncomputable def zt6 (CX:CXT) (P:Program) (w:World) (K:Frag) (mg:Str→Option Value) (base:Heap) (N:List Str) (qual:Str) (scope:Scope) (f:Addr) (cd:Value) (A:Around) (outer:List Env) (s:Shared) (H:Hp) (E:XK):Cx where
 prog:=P
 w:=w
 K:=K
 mg:=mg
 base:=base
 A:=A.deeper (envOfC qual scope s.heap.objs.size f cd)
 N:=N
 s₀:=s
 H₀:=H
 env:=envOfC qual scope s.heap.objs.size f cd
 outer:=outer
 stack:=envOfC qual scope s.heap.objs.size f cd::outer
 ex:=[]
 calm:=true
 fn:=fun _=>true
 pn:=[]
 xe:=fun e s'=>wpAny (model P w) (A.deeper (envOfC qual scope s.heap.objs.size f cd)) (leaving (envOfC qual scope s.heap.objs.size f cd) e) (fun _ s''=>CX outer H s E e s'') (fun e' s''=>CX outer H s E e' s'') s'
theorem yf0 {sc:Scope} {n:Nat} {x:Str} (h:sc.names.lookup x=some .cell):∃ c,(cellsFrom n sc.names []).lookup x=some c:=by
 have q:=PySem.W.cellsFrom_some sc.names n [] (.inl h)
 exact Option.isSome_iff_exists.mp q
theorem yr3 {CX:CXT} {P:Program} {w:World} {K:Frag} {mg:Str→Option Value} {base:Heap} {N ps:List Str} {qual:Str} {scope:Scope} {f:Addr} {cd:Value} {A:Around} {outer:List Env} {s s1:Shared} {H:Hp} {E:XK} {us:List Value} {vs:List V}
  (S:zc8 N ps scope) (hd:A.handled=none) (e0:yZ1 P w K mg base A outer s H) (hl:vs.length=ps.length) (r:zh0 vs us)
  (x:InCallC s s.heap.objs.size (bindL (envOfC qual scope s.heap.objs.size f cd).kindOf (ps.zip us) fun _=>none) (cellsFrom (s.heap.objs.size+1) scope.names []) (bindC (envOfC qual scope s.heap.objs.size f cd).kindOf (ps.zip us) fun _=>none) s1) :
  Inv (zt6 CX P w K mg base N qual scope f cd A outer s H E) [] (start N vs) H s1:=by
 have hpl:ps.length≤N.length:=by have:=congrArg List.length S.pre;rw [List.length_take] at this;lia
 obtain ⟨h1,tk,rfl,hk⟩:=x.done
 have noA:∀ b:Addr,b∉(zt6 CX P w K mg base N qual scope f cd A outer s H E).ex:=fun b z=>absurd (show b∈([]:List Addr) from z) (by simp)
 refine ⟨⟨e0.mod,S.kind,rfl,rfl,Nat.le_refl _,fun y z c h1 h2=>?_,fun y hy=>?_,fun y c _ h=>?_,fun _=>hd,Around.frames_deeper e0.frames,.inr ⟨rfl,rfl⟩,fun b z=>absurd z (noA b),e0.bs,e0.bsz,fun b _ _=>noA b,fun b z=>absurd z (noA b),e0.funs,e0.frf⟩,
  rfl,e0.bare,Un.kept hk,⟨_,x.toInCall.ns,fun i y v h1 h2 h3=>?_⟩,fun y c h=>⟨_,x.cell y c h⟩,e0.hok.fresh (Nat.le_refl _),fun y c h=>?_,fun p hp=>absurd (show p∈([]:List (Addr×Obj)) from hp) (by simp),e0.hok.kept hk,?_⟩
 ·exact name_of_addr x.apart (PySem.mem_of_lookup h1) (PySem.mem_of_lookup h2)
 ·have hy:scope.names.lookup y=some .cell∨scope.names.lookup y=some .free:=hy
  rcases hy with hy | hy
  ·exact yf0 hy
  ·exact absurd rfl (S.nofree _ (PySem.mem_of_lookup hy))
 ·exact Nat.le_of_lt (x.above y c (PySem.mem_of_lookup h))
 ·have hi:i<vs.length:=by
   unfold start at h2
   by_cases hi:i<vs.length
   ·exact hi
   ·rw [List.getElem?_append_right (by simpa using hi)] at h2
    rw [List.getElem?_replicate] at h2
    split at h2 <;> cases h2
  have ha:vs[i]?=some v:=by
   unfold start at h2
   rw [List.getElem?_append_left (by simpa using hi),List.getElem?_map] at h2
   cases e:vs[i]? with
   | none=>rw [e] at h2;cases h2
   | some a=>rw [e] at h2;cases h2;rfl
  obtain ⟨u,hu,rv⟩:=r.get ha
  have hp:ps[i]?=some y:=by
   rw [← S.pre,List.getElem?_take_of_lt (by lia)];exact h1
  have ndP:ps.Nodup:=by rw [← S.pre];exact S.nd.sublist (List.take_sublist _ _)
  refine ⟨u,rv,?_⟩
  rcases S.par y (List.mem_of_getElem? hp) with k | k
  ·exact .inl ⟨k,zQ9 ndP hp hu k⟩
  ·obtain ⟨c,e⟩:=yf0 (n:=s.heap.objs.size+1) k
   refine .inr ⟨.inl k,c,e,?_⟩
   have q:=x.cell y c e
   rw [zV4 ndP hp hu (by show scope.names.lookup y≠_;rw [k];decide)] at q
   exact q
 ·exact e0.hok.fresh (Nat.le_of_lt (x.above y c (PySem.mem_of_lookup h)))
 ·unfold start
  show _=N.length
  rw [List.length_append,List.length_map,List.length_replicate]
  lia
theorem xf2 {CX:CXT} {P:Program} {w:World} {K:Frag} {mg:Str→Option Value} {base:Heap} {k:Nat} {f:Addr} {name qual:Str} {params:Arguments} {body:List Stmt} {scope:Scope} {dV kV doc pm cdv ct oc:Value} {an od:Option Addr}
  {osl:Array (Option Value)} {N ps:List Str} {sp:Sp} (lk:K.lookup f=some ⟨oc,od,.func (fnOf name qual params body scope dV kV doc pm an cdv ct),osl⟩) (hcd:codeIn K cdv qual=true) (S:zc8 N ps scope)
  (len:∀ vs H Q E,sp vs H Q E→vs.length=ps.length)
  (hbody:∀ (A:Around) (outer:List Env) (s:Shared) (H:Hp) (vs:List V) (Q:VK) (E:XK),zn4 k (A.deeper (envOfC qual scope s.heap.objs.size f cdv))→sp vs H Q E →
   ∃ t,PSs (zt6 CX P w K mg base N qual scope f cdv A outer s H E) body t∧t { nx:=fun _ H'=>Q .non H',rt:=Q } (start N vs) H) :
  zp8 P w K mg base CX (k+1) f (fnOf name qual params body scope dV kV doc pm an cdv ct) ps sp:=by
 refine ⟨len,fun A outer s H args us vs Q E hr e0 hb r hsp=>?_⟩
 have hl:=len _ _ _ _ hsp
 have KX:K.In s.heap:=e0.mod.kin.keeps fun b o e=>(e0.bs b o e).1
 have lim:s.heap.NoLimit:=e0.mod.nolimit.keeps fun b o e=>(e0.bs b o e).1
 have hkind:∀ y∈ps.zip us,scope.names.lookup y.1=some .local∨(scope.names.lookup y.1=some .cell∧((cellsFrom (s.heap.objs.size+1) scope.names []).lookup y.1).isSome=true):=fun ⟨n,v⟩ hy=>by
  rcases S.par n (List.of_mem_zip hy).1 with q | q
  ·exact .inl q
  ·exact .inr ⟨q,PySem.W.cellsFrom_some _ _ _ (.inl q)⟩
 refine codeAny_call_function hr.depth (KX _ _ lk) rfl S.co S.gen rfl (PySem.W.codeRec_of KX hcd) (hb _ _ _ _ ?_)
 refine wpAny_newFunctionEnv_cells S.kind hkind fun env he s1 x=>?_
 subst he
 refine ⟨lim.keeps x.toInCall.keep,codeAny_func ?_⟩
 obtain ⟨t,ht,hq⟩:=hbody A outer s H vs Q E (hr.deeper _) hsp
 have I:Inv (zt6 CX P w K mg base N qual scope f cdv A outer s H E) [] (start N vs) H s1:=yr3 S hr.hd e0 hl r x
 refine wpAny_mono (ht [] s1 (start N vs) H _ I hq) (fun fl s' hs=>?_) fun e s' hs=>hs
 have fin:∀ {σ':St} {H':Hp} {v:V} {u:Value},Inv (zt6 CX P w K mg base N qual scope f cdv A outer s H E) [] σ' H' s'→RelV v u→Q v H'→CE outer P w H s Q u s' :=
  fun {σ' H' v u} J rv q=>⟨v,H',J.os,J.bare,J.base,J.hok,rv,q⟩
 cases fl with
 | ret u =>
  obtain ⟨v,σ',H',J,rv,q⟩:=hs
  exact fin J rv q
 | next =>
  obtain ⟨σ',H',J,q⟩:=hs
  exact fin (v:=V.non) (u:=Value.none) J rfl q
 | brk =>
  obtain ⟨_,_,_,q⟩:=hs
  exact False.elim q
 | cont =>
  obtain ⟨_,_,_,q⟩:=hs
  exact False.elim q
section
variable {X:Cx} {x:Str} {p pos:Pos} {e:Expr} {es:List Expr} {t:TA} {id T:String} {r:List V→Hp→VK→Prop}
noncomputable def tCB (r:List V→Hp→VK→Prop) (t:TA):TE:=fun σ H Q=>t σ H fun vs H1=>r vs H1 Q
theorem ye6 (hc:zN5 X (.builtin id) r) (hg:Gl X x) (hm:X.mg x=none) (hv:bootBuiltins x=some (.builtin id)) (ha:PA X (e::es) t) (hn:x ≠ "__name__") (hdb:(x==("__debug__" : Str))=false)
  (he:starEach (e::es) X.env=(false,eval e X.env)::starEach es X.env) (hpl:(backTo pos (starEach es X.env)).any (·.1)=false):PE X (.Call (.Name x p) (e::es) [] pos) (tCB r t):=by
 intro pins s σ H Q I h
 refine wpAny_Call_Name_kw (zw1 I hg hm hv ?_ hn hdb)
 exact PyProof.Rows.callWith_builtin1 (thn (ha pos pins s σ H _ I h) fun us s1 ⟨vs,H1,I1,r1,q1⟩=>hc pins s1 σ H1 vs us Q I1 r1 q1) he hpl
theorem ym0 (hc:zN5 X (.type T) r) (hg:Gl X x) (hm:X.mg x=none) (hv:bootBuiltins x=some (.type T)) (ha:PA X (e::es) t) (hn:x ≠ "__name__") (hdb:(x==("__debug__" : Str))=false)
  (he:starEach (e::es) X.env=(false,eval e X.env)::starEach es X.env) (hpl:(backTo pos (starEach es X.env)).any (·.1)=false):PE X (.Call (.Name x p) (e::es) [] pos) (tCB r t):=by
 intro pins s σ H Q I h
 refine wpAny_Call_Name_kw (zw1 I hg hm hv ?_ hn hdb)
 exact PyProof.Rows.callWith_type1 (thn (ha pos pins s σ H _ I h) fun us s1 ⟨vs,H1,I1,r1,q1⟩=>hc pins s1 σ H1 vs us Q I1 r1 q1) he hpl
end
section
variable {κ:Type} [DecidableEq κ]
noncomputable def yc5 (kvs:List (κ×V)) (k:κ):Option V:=(kvs.find? fun kv=>decide (kv.1=k)).map (·.2)
noncomputable def zL1 (kvs:List (κ×V)) (k:κ) (v:V):List (κ×V) :=
 if (kvs.any fun kv=>decide (kv.1=k))=true then kvs.map (fun kv=>if kv.1=k then (kv.1,v) else kv) else kvs++[(k,v)]
theorem zE1 {p:κ×V} {r:List (κ×V)} {k:κ} (e:p.1=k):yc5 (p::r) k=some p.2:=by simp [yc5,List.find?_cons,e]
theorem zy0 {p:κ×V} {r:List (κ×V)} {k:κ} (e:¬ p.1=k):yc5 (p::r) k=yc5 r k:=by simp [yc5,List.find?_cons,e]
theorem ye0 (k:κ):∀ kvs:List (κ×V),(kvs.any fun kv=>decide (kv.1=k))=(yc5 kvs k).isSome
 | []=>rfl
 | p::r=>by
  rw [List.any_cons]
  by_cases e:p.1=k
  ·simp only [zE1 e,decide_eq_true e,Bool.true_or,Option.isSome_some]
  ·rw [zy0 e,decide_eq_false e,Bool.false_or];exact ye0 k r
theorem zx0 (kvs:List (κ×V)) (k:κ) (v:V):(zL1 kvs k v).length≤kvs.length+1:=by
 unfold zL1
 split
 ·rw [List.length_map];lia
 ·rw [List.length_append,List.length_cons,List.length_nil];lia
theorem yf5.isSome_eq {o:Option V} {u:Option Value} (r:yf5 o u):o.isSome=u.isSome:=by
 cases o with
 | none=>cases u with
  | none=>rfl
  | some _=>exact (show False from r).elim
 | some _=>cases u with
  | none=>exact (show False from r).elim
  | some _=>rfl
theorem yf5.getD {o:Option V} {u:Option Value} {d:V} {d':Value} (r:yf5 o u) (rd:RelV d d'):RelV (o.getD d) (u.getD d'):=by
 cases o with
 | none=>cases u with
  | none=>exact rd
  | some _=>exact (show False from r).elim
 | some _=>cases u with
  | none=>exact (show False from r).elim
  | some _=>exact r
theorem KV.val {kvs:List (κ×V)} {vs:List (κ×Value)} (r:KV kvs vs) (k:κ):yf5 (yc5 kvs k) (valueAt vs k):=by
 unfold KV at r
 induction r with
 | nil=>exact True.intro
 | @cons p q ps qs h t ih =>
  obtain ⟨h1,h2⟩:=h
  by_cases e:p.1=k
  ·have e':q.1=k:=h1.symm.trans e
   have b:valueAt (q::qs) k=some q.2:=by simp [valueAt,List.find?_cons,e']
   rw [zE1 e,b];exact h2
  ·have e':¬ q.1=k:=fun z=>e (h1.trans z)
   have b:valueAt (q::qs) k=valueAt qs k:=by simp [valueAt,List.find?_cons,e']
   rw [zy0 e,b];exact ih
theorem KV.any {kvs:List (κ×V)} {vs:List (κ×Value)} (r:KV kvs vs) (k:κ):(kvs.any fun kv=>decide (kv.1=k))=vs.any fun kv=>decide (kv.1=k):=by
 unfold KV at r
 induction r with
 | nil=>rfl
 | cons h t ih=>rw [List.any_cons,List.any_cons,ih,h.1]
theorem KV.repl {kvs:List (κ×V)} {vs:List (κ×Value)} (r:KV kvs vs) (k:κ) {y:V} {u:Value} (ry:RelV y u) :
  KV (kvs.map fun kv=>if kv.1=k then (kv.1,y) else kv) (vs.map fun kv=>if kv.1=k then (kv.1,u) else kv):=by
 unfold KV at r ⊢
 induction r with
 | nil=>exact .nil
 | @cons p q ps qs h t ih =>
  rw [List.map_cons,List.map_cons]
  refine .cons ?_ ih
  obtain ⟨h1,h2⟩:=h
  by_cases e:p.1=k
  ·rw [if_pos e,if_pos (h1.symm.trans e)];exact ⟨h1,ry⟩
  ·rw [if_neg e,if_neg (fun z=>e (h1.trans z))];exact ⟨h1,h2⟩
theorem KV.put {kvs:List (κ×V)} {vs:List (κ×Value)} (r:KV kvs vs) (k:κ) {y:V} {u:Value} (ry:RelV y u):KV (zL1 kvs k y) (stored vs k u):=by
 unfold zL1 stored
 rw [r.any k]
 by_cases e:(vs.any fun kv=>decide (kv.1=k))=true
 ·rw [if_pos e,if_pos e];exact r.repl k ry
 ·rw [if_neg e,if_neg e];exact Paired.snoc r ⟨rfl,ry⟩
theorem KV.length {kvs:List (κ×V)} {vs:List (κ×Value)} (r:KV kvs vs):kvs.length=vs.length:=Paired.length r
end
theorem yk3 {P:Program} {w:World} {k:Key} {u:Value} (r:RelV (kV k) u):(zj4 P w).is k u=true:=by
 cases k with
 | inl i=>obtain ⟨t,e⟩:=(show ∃ t,u=Value.int i t from r);subst e;exact zX1 P w i t
 | inr x=>obtain ⟨t,e⟩:=(show ∃ t,u=Value.str x t from r);subst e;exact zY1 P w x t
theorem zU6 {P:Program} {w:World}:∀ {ks:List Key} {us:List Value},zh0 (ks.map kV) us→ItemsAre (zj4 P w) ks us
 | [],_,r=>by rw [List.map_nil] at r;cases r;exact .nil
 | k::ks,_,r=>by
  rw [List.map_cons] at r
  cases r with
  | cons h t=>exact .cons (yk3 h) (zU6 t)
noncomputable abbrev KT (H:Hp):List (List Key×V)→List (List Key×Addr×Value)→Prop:=Paired fun p q=>p.1=q.1∧H q.2.1=some (.tup (p.1.map kV))∧RelV p.2 q.2.2
theorem KT.val {H:Hp} {kvs:List (List Key×V)} {xs:List (List Key×Addr×Value)} (r:KT H kvs xs) (k:List Key):yf5 (yc5 kvs k) ((atKey xs k).map (·.2)):=by
 induction r with
 | nil=>exact True.intro
 | @cons p q ps qs h t ih =>
  obtain ⟨h1,_,h2⟩:=h
  by_cases e:p.1=k
  ·have e':q.1=k:=h1.symm.trans e
   have b:atKey (q::qs) k=some q.2:=by simp [atKey,List.find?_cons,e']
   rw [zE1 e,b];exact h2
  ·have e':¬ q.1=k:=fun z=>e (h1.trans z)
   have b:atKey (q::qs) k=atKey qs k:=by simp [atKey,List.find?_cons,e']
   rw [zy0 e,b];exact ih
theorem KT.repl {H:Hp} {kvs:List (List Key×V)} {xs:List (List Key×Addr×Value)} (r:KT H kvs xs) (k:List Key) {y:V} {u:Value} (ry:RelV y u) :
  KT H (kvs.map fun kv=>if kv.1=k then (kv.1,y) else kv) (xs.map (putAt k u)):=by
 induction r with
 | nil=>exact .nil
 | @cons p q ps qs h t ih =>
  rw [List.map_cons,List.map_cons]
  refine .cons ?_ ih
  obtain ⟨h1,h2,h3⟩:=h
  unfold putAt
  by_cases e:p.1=k
  ·rw [if_pos e,if_pos (h1.symm.trans e)];exact ⟨h1,h2,ry⟩
  ·rw [if_neg e,if_neg (fun z=>e (h1.trans z))];exact ⟨h1,h2,h3⟩
theorem KT.put {H:Hp} {kvs:List (List Key×V)} {xs:List (List Key×Addr×Value)} (r:KT H kvs xs) (k:List Key) {b:Addr} {y:V} {u:Value} (hb:H b=some (.tup (k.map kV))) (ry:RelV y u) :
  KT H (zL1 kvs k y) (storedH xs k b u):=by
 have e:(kvs.any fun kv=>decide (kv.1=k))=(atKey xs k).isSome:=by
  rw [ye0,(r.val k).isSome_eq,Option.isSome_map]
 unfold zL1 storedH
 rw [e]
 by_cases q:(atKey xs k).isSome=true
 ·rw [if_pos q,if_pos q];exact r.repl k ry
 ·rw [if_neg q,if_neg q];exact Paired.snoc r ⟨rfl,hb,ry⟩
theorem KT.keeps {H H':Hp} {kvs:List (List Key×V)} {xs:List (List Key×Addr×Value)} (r:KT H kvs xs) (ht:∀ b ys,H b=some (.tup ys)→H' b=some (.tup ys)):KT H' kvs xs :=
 Paired.mapP r fun _ _ z=>⟨z.1,ht _ _ z.2.1,z.2.2⟩
section
variable {P:Program} {w:World} {H:Hp} {h:Heap} {a:Addr}
theorem yR7 {u:HO} (ok:HOk P w H h) (e:Rd H a u):zk0 P w H h a u:=e.ok ok
theorem ys9 {kvs:List (Key×V)} (ok:HOk P w H h) (e:Rd H a (.dK kvs)):kvs.length≤sizeLine∧(a==sysModules)=false∧∃ vs,KV kvs vs∧h.DictOf (zj4 P w) a vs :=
 show zk0 P w H h a (.dK kvs) from yR7 ok e
theorem xc7 {kvs:List (Key×V)} (ok:HOk P w H h) (e:H a=some (.dK kvs)):kvs.length≤sizeLine∧(a==sysModules)=false∧∃ vs,KV kvs vs∧h.DictOf (zj4 P w) a vs:=ys9 ok (.inl e)
theorem yd5 {ks:List Key} (ok:HOk P w H h) (e:H a=some (.tup (ks.map kV))):(tupleKind (zj4 P w)).is h ks a:=by
 obtain ⟨_,its,r,o,h1,h2,_,n,h3⟩:=(show zk0 P w H h a (.tup (ks.map kV)) from ok a _ e)
 exact ⟨o,its.toArray,n,h1,h2,h3,by simpa using zU6 r⟩
theorem yo6 {kvs:List (List Key×V)} (ok:HOk P w H h) (e:Rd H a (.dT kvs)):kvs.length≤sizeLine∧(a==sysModules)=false ∧
  ∃ xs,KT H kvs xs∧h.DictOfH (tupleKind (zj4 P w)) a xs:=by
 obtain ⟨z,y,xs,r,o,es,ep,h1,h2,h3,h4,h5⟩:=(show zk0 P w H h a (.dT kvs) from yR7 ok e)
 refine ⟨z,y,xs,r,o,es,ep,h1,h2,h3,h4,fun x hx=>?_,h5⟩
 have all:∀ {l:List (List Key×V)} {m:List (List Key×Addr×Value)},KT H l m→∀ x∈m,(tupleKind (zj4 P w)).is h x.1 x.2.1:=by
  intro l m q
  induction q with
  | nil=>intro x hx;exact nomatch hx
  | @cons p q ps qs hq t ih =>
   intro x hx
   rcases List.mem_cons.mp hx with e | hx
   ·subst e
    exact yd5 ok (by rw [← hq.1];exact hq.2.1)
   ·exact ih x hx
 exact all r x hx
theorem xf9 {kvs:List (List Key×V)} (ok:HOk P w H h) (e:H a=some (.dT kvs)):kvs.length≤sizeLine∧(a==sysModules)=false ∧
  ∃ xs,KT H kvs xs∧h.DictOfH (tupleKind (zj4 P w)) a xs:=yo6 ok (.inl e)
end
def yB4 (H:Hp) (a:Addr) (y:V) (r:Option V):Prop :=
 (∃ kvs k,Rd H a (.dK kvs)∧y=kV k∧r=yc5 kvs k)∨∃ kvs k b,Rd H a (.dT kvs)∧y=.ref b∧H b=some (.tup (k.map kV))∧r=yc5 kvs k
def yO5 (H:Hp) (a:Addr) (y v:V) (H':Hp):Prop :=
 (∃ kvs k,H a=some (.dK kvs)∧y=kV k∧kvs.length<sizeLine∧H'=upd H a (.dK (zL1 kvs k v))) ∨
 ∃ kvs k b,H a=some (.dT kvs)∧y=.ref b∧H b=some (.tup (k.map kV))∧kvs.length<sizeLine∧H'=upd H a (.dT (zL1 kvs k v))
theorem yB4.k {H:Hp} {a:Addr} {kvs:List (Key×V)} {k:Key} (e:H a=some (.dK kvs)):yB4 H a (kV k) (yc5 kvs k):=.inl ⟨kvs,k,.inl e,rfl,rfl⟩
theorem yO5.k {H:Hp} {a:Addr} {kvs:List (Key×V)} {k:Key} {v:V} (e:H a=some (.dK kvs)) (hl:kvs.length<sizeLine):yO5 H a (kV k) v (upd H a (.dK (zL1 kvs k v))):=.inl ⟨kvs,k,e,rfl,hl,rfl⟩
section
variable {X:Cx} {pins:List (Addr×Obj)} {σ:St} {H:Hp} {s:Shared} {a:Addr} {y v:V} {u r:Value} {o:Option V} {A:Around} {E:Value→Shared→Prop}
theorem Inv.big (I:Inv X pins σ H s):sysModules<s.heap.objs.size:=by
 have h:mainGlobals<s.heap.objs.size:=(I.mod.glob.keeps I.bk).lt
 exact Nat.lt_trans (by decide) h
theorem ys2 {Q:Value→Shared→Prop} (hu:A.units+1<cLine) (I:Inv X pins σ H s) (g:yB4 H a y (some v)) (ry:RelV y u) (h:∀ w' s',Inv X pins σ H s'→RelV v w'→Q w' s') :
  wpAny (model X.prog X.w) A (getItem (.ref a) u) Q E s:=by
 rcases g with ⟨kvs,k,e,ey,l⟩ | ⟨kvs,k,b,e,ey,eb,l⟩
 ·subst ey
  obtain ⟨z,hd,vs,rel,dd⟩:=ys9 I.hok e
  obtain ⟨w',hw,rw'⟩:=yf5.some_of (v:=v) (o:=valueAt vs k) (by rw [l];exact rel.val k)
  exact wpAny_getItem_of (yk3 ry) dd.mapOf hw (h w' _ (I.tok _) rw')
 ·subst ey
  cases (show u=Value.ref b from ry)
  obtain ⟨z,hd,xs,rel,dd⟩:=yo6 I.hok e
  obtain ⟨w',hw,rw'⟩:=yf5.some_of (v:=v) (o:=(atKey xs k).map (·.2)) (by rw [l];exact rel.val k)
  obtain ⟨p,hp,hp2⟩:=Option.map_eq_some_iff.mp hw
  refine wpAny_getItem_heap (tupleKind_room_in1 hu) (yd5 I.hok eb) dd hp ?_
  rw [hp2]
  exact h w' _ (I.tok _) rw'
theorem yk1 {h':Heap} {t':Nat} {ob:HO} (I:Inv X pins σ H s) (mu:Mut (H a)) (hs:Heap.SameBut a s.heap h') (he:∃ q,h'.get? a=some q) (new:zk0 X.prog X.w (upd H a ob) h' a ob) :
  Inv X pins σ (upd H a ob) { s with heap:=h',toks:=t' } :=
 I.write (x:=a) (e:=a) mu (.inl rfl) (fun b q hb z=>(hs.2 b hb).trans z) he new
theorem yC3 {P:Program} {w:World} {H':Hp} {h':Heap} {kvs:List (Key×V)} {vs:List (Key×Value)} (z:kvs.length≤sizeLine) (hd:(a==sysModules)=false) (rel:KV kvs vs) (dd:h'.DictOf (zj4 P w) a vs) :
  zk0 P w H' h' a (.dK kvs):=⟨z,hd,vs,rel,dd⟩
theorem yn9 {H':Hp} {Q:Unit→Shared→Prop} (hu:A.units+1<cLine) (I:Inv X pins σ H s) (g:yO5 H a y v H') (ry:RelV y u) (rv:RelV v r) (h:∀ s',Inv X pins σ H' s'→Q () s') :
  wpAny (model X.prog X.w) A (setItem (.ref a) u r) Q E s:=by
 rcases g with ⟨kvs,k,e,ey,l,eH⟩ | ⟨kvs,k,b,e,ey,eb,l,eH⟩
 ·subst ey eH
  obtain ⟨z,hd,vs,rel,dd⟩:=xc7 I.hok e
  have hz:vs.length≤sizeLine:=by rw [← rel.length];exact z
  have hl:(zL1 kvs k v).length≤sizeLine:=by have:=zx0 kvs k v;lia
  refine wpAny_setItem_pairs (hsz:=hz) (yk3 ry) dd fun h' dd' hs=>h _ ?_
  have he:∃ q,h'.get? a=some q:=let ⟨q,_,_,hq,_⟩:=dd';⟨q,hq⟩
  exact yk1 I (by rw [e];exact True.intro) hs he (yC3 hl hd (rel.put k rv) dd')
 ·subst ey eH
  cases (show u=Value.ref b from ry)
  obtain ⟨z,hd,xs,rel,dd⟩:=xf9 I.hok e
  have hz:xs.length≤sizeLine:=by rw [← Paired.length rel];exact z
  have hl:(zL1 kvs k v).length≤sizeLine:=by have:=zx0 kvs k v;lia
  refine wpAny_setItem_heap (hsz:=hz) (tupleKind_room_in1 hu) (yd5 I.hok eb) dd fun h' dd' hs=>h _ ?_
  obtain ⟨q,es,ep,hq,h2,h3,h4,_,h5⟩:=dd'
  refine yk1 I (by rw [e];exact True.intro) hs ⟨q,hq⟩ ⟨hl,hd,_,(rel.put k eb rv).keeps fun c ys ec=>?_,q,es,ep,hq,h2,h3,h4,h5⟩
  rw [zd7 (xg4 ec e (fun z=>nomatch z))]
  exact ec
end
section
variable {X:Cx} {pins:List (Addr×Obj)} {σ:St} {H:Hp} {s:Shared} {a:Addr} {kvs:List (Key×V)} {k:Key} {u:Value} {A:Around} {E:Value→Shared→Prop}
end
theorem zV9 {X:Cx} {pins:List (Addr×Obj)} {σ:St} {H:Hp} {s:Shared} {a:Addr} {y:V} {o:Option V} (I:Inv X pins σ H s) (g:yB4 H a y o):s.TypeIs (.ref a) "dict" := by
 rcases g with ⟨kvs,k,e,_,_⟩ | ⟨kvs,k,b,e,_,_,_⟩
 ·obtain ⟨_,_,vs,_,dd⟩:=ys9 I.hok e
  exact dd.typeIs
 ·obtain ⟨_,_,xs,_,dd⟩:=yo6 I.hok e
  exact dd.typeIs
section
variable {X:Cx} {o i e value:Expr} {pos pos' tpos:Pos} {td ty tv:TE}
end
section
variable {X:Cx} {pos:Pos}
end
noncomputable def zt8 (kvs more:List (Key×V)):List (Key×V):=more.foldl (fun acc kv=>zL1 acc kv.1 kv.2) kvs
theorem KV.merge:∀ {more:List (Key×V)} {rs:List (Key×Value)} {kvs:List (Key×V)} {vs:List (Key×Value)},KV more rs→KV kvs vs→KV (zt8 kvs more) (merged vs rs):=by
 intro more rs kvs vs r
 unfold KV at r
 induction r generalizing kvs vs with
 | nil=>intro q;exact q
 | @cons p q ps qs h t ih =>
  intro r0
  have e:KV (zL1 kvs p.1 p.2) (stored vs q.1 q.2):=by
   have:=r0.put p.1 h.2
   rw [← h.1];exact this
  exact ih e
theorem zz8:∀ (more kvs:List (Key×V)),(zt8 kvs more).length≤kvs.length+more.length
 | [],kvs=>by show kvs.length≤kvs.length+0;lia
 | p::r,kvs=>by
  have h1:=zz8 r (zL1 kvs p.1 p.2)
  have h2:=zx0 kvs p.1 p.2
  show (zt8 (zL1 kvs p.1 p.2) r).length≤_
  rw [List.length_cons];lia
structure M2 (X:Cx) (o:Expr) (m:Str) (apos:Pos) (e f:Expr) (cpos:Pos):Prop where
 base:attributeBase o m X.env (eval o X.env)=eval o X.env
 few:((backTo cpos (starEach [e,f] X.env)).all (fun x=>!x.1)&&(backToKw cpos (keywordEach [] X.env)).all (fun x=>x.1.isSome)
  && decide (([e,f]:List Expr).length+([]:List Keyword).length+(if ([]:List Keyword).isEmpty then 0 else 1)<30))=true
 line:(apos.endLine==cpos.line)=true
 trees:backTo cpos (starEach [e,f] X.env)=[(false,eval e X.env),(false,eval f X.env)]
def IsD (H:Hp) (a:Addr):Prop:=(∃ kvs,Rd H a (.dK kvs))∨∃ kvs,Rd H a (.dT kvs)
theorem yU5 {X:Cx} {pins:List (Addr×Obj)} {σ:St} {H:Hp} {s:Shared} {a:Addr} (I:Inv X pins σ H s) (d:IsD H a) :
  s.TypeIs (.ref a) "dict" ∧ (∀ b,Value.ref a=.ref b→∃ ob,s.heap.get? b=some ob∧ob.dict=none)∧(a==sysModules)=false:=by
 rcases d with ⟨kvs,e⟩ | ⟨kvs,e⟩
 ·obtain ⟨_,hd,vs,_,dd⟩:=ys9 I.hok e
  refine ⟨dd.typeIs,fun b q=>?_,hd⟩
  cases q
  obtain ⟨ob,_,_,h1,h2,_⟩:=dd
  exact ⟨ob,h1,h2.2.1⟩
 ·obtain ⟨_,hd,xs,_,dd⟩:=yo6 I.hok e
  refine ⟨dd.typeIs,fun b q=>?_,hd⟩
  cases q
  obtain ⟨ob,_,_,h1,h2,_⟩:=dd
  exact ⟨ob,h1,h2.2.1⟩
section
variable {X:Cx} {pins:List (Addr×Obj)} {σ:St} {H:Hp} {s:Shared} {a:Addr} {y d:V} {u r:Value} {o:Option V} {A:Around} {E:Value→Shared→Prop}
theorem yU8 {Q:Value→Shared→Prop} (hu:A.units+1<cLine) (I:Inv X pins σ H s) (g:yB4 H a y o) (ry:RelV y u) (rd:RelV d r) (h:∀ w' s',Inv X pins σ H s'→RelV (o.getD d) w'→Q w' s') :
  wpAny (model X.prog X.w) A (call (.builtin "dict.get") [.ref a,u,r]) Q E s:=by
 rcases g with ⟨kvs,k,e,ey,l⟩ | ⟨kvs,k,b,e,ey,eb,l⟩
 ·subst ey
  obtain ⟨z,hd,vs,rel,dd⟩:=ys9 I.hok e
  refine call_meetsIn PySem.F.slot_dict_get dd.typeIs PySem.F.entry_dict_get (PySem.F.args_dict_get_3 _ _ _) (meets_dict_get_default (zj4 X.prog X.w) a (yk3 ry) hd r) ⟨_,dd.mapOf,h _ _ (I.tok _) ?_⟩
  rw [l]
  exact (rel.val k).getD rd
 ·subst ey
  cases (show u=Value.ref b from ry)
  obtain ⟨z,hd,xs,rel,dd⟩:=yo6 I.hok e
  refine call_meetsIn PySem.F.slot_dict_get dd.typeIs PySem.F.entry_dict_get (PySem.F.args_dict_get_3 _ _ _) (meetsH_dict_get_default (tupleKind (zj4 X.prog X.w)) a b hd r) ⟨tupleKind_room_in1 hu,k,xs,yd5 I.hok eb,dd,h _ _ (I.tok _) ?_⟩
  rw [l]
  exact (rel.val k).getD rd
end
noncomputable def yO7 (td ty tx:TE):TE:=fun σ H Q=>td σ H fun x H1=>∃ a,x=.ref a∧IsD H1 a∧ty σ H1 fun y H2=>tx σ H2 fun z H3=>∃ o,yB4 H3 a y o∧Q (o.getD z) H3
section
variable {X:Cx} {o e f:Expr} {apos cpos:Pos} {td ty tx:TE}
theorem yu7 (hu:X.A.units+1<cLine) (ho:PE X o td) (he:PE X e ty) (hf:PE X f tx) (m:M2 X o "get" apos e f cpos):PE X (.Call (.Attribute o "get" apos) [e,f] [] cpos) (yO7 td ty tx):=by
 intro pins s σ H Q I h
 refine wpAny_Call_method m.base m.few m.line PySem.F.plainAttrs_dict PySem.F.slot_dict_get PySem.F.type_dict_get (thn (ho pins s σ H _ I h) fun u s1 h_=>?_)
 obtain ⟨x,H1,I1,rx,a,ex,d,q1⟩:=h_
 subst ex
 obtain rfl:u=Value.ref a:=rx
 obtain ⟨t1,t2,_⟩:=yU5 I1 d
 refine ⟨t1,t2,?_⟩
 rw [m.trees]
 refine Calls.callWith_builtin rfl (Calls.evalArgs_plain (Calls.spliced_cons (thn (he pins s1 σ H1 _ I1 q1) fun iv s2 ⟨y,H2,I2,ry,q2⟩ =>
  Calls.spliced_cons (thn (hf pins s2 σ H2 _ I2 q2) fun fv s3 ⟨z,H3,I3,rz,ov,g,q3⟩=>Calls.spliced_nil ?_))))
 exact yU8 hu I3 g ry rz fun w' s4 I4 rw'=>⟨_,H3,I4,rw',q3⟩
end
section
variable {X:Cx} {pins:List (Addr×Obj)} {σ:St} {H:Hp} {s:Shared} {a:Addr} {kvs:List (Key×V)} {A:Around} {E:Value→Shared→Prop}
end
section
variable {X:Cx} {pins:List (Addr×Obj)} {σ:St} {H:Hp} {s:Shared} {a:Addr} {y:V} {u:Value} {A:Around} {E:Value→Shared→Prop}
end
end L2
namespace HT
open PySem PyProof.Rows
section
open PySem.SeqAt
open PySem.AutoSeq1 (wpAny_loadPart')
open PySem.MeetsSeq PySem.MeetsSeq2 PySem.MeetsSeq3
end
section
variable {prog:Program} {w:World} {A:Around} {E:Value→Shared→Prop} {s:Shared}
theorem cat_tup {t b:Addr} {vs ws:List Value} {Q:Value→Shared→Prop} (ht:IsTup s.heap t vs.toArray) (hb:IsTup s.heap b ws.toArray) (hv:vs≠[])
  (h1:ws=[]→Q (.ref t) s) (h2:ws≠[]→Q (.ref s.heap.objs.size) { s with heap:=s.heap.push { cls:=.type "tuple", data:=.seq (vs++ws).toArray } })
  (hsz:vs.length+ws.length≤sizeLine):wpAny (model prog w) A (binaryOp .Add (.ref t) (.ref b)) Q E s:=by
 obtain ⟨⟨cls,dd,data,sl⟩,ho,hc,n,hd⟩:=id ht
 obtain ⟨⟨cls2,dd2,data2,sl2⟩,ho2,hc2,n2,hd2⟩:=id hb
 simp only at hc hd hc2 hd2
 subst hc hd hc2 hd2
 have e:vs.toArray++ws.toArray=(vs++ws).toArray:=by simp
 by_cases hw:ws=[]
 ·exact concat_meets ⟨_,ho,rfl⟩ ⟨_,ho2,rfl⟩ noFill_tuple_add seq_tuple_add PySem.F.slot_tuple_add PySem.F.entry_tuple_add (PySem.F.args_tuple_add_2 _ _)
   (tuple_addW1 t b vs.toArray ws.toArray n n2 dd dd2 sl sl2 (by simpa using hv) (by simp [hw])) ⟨ho,ho2,h1 hw⟩
 ·refine concat_meets ⟨_,ho,rfl⟩ ⟨_,ho2,rfl⟩ noFill_tuple_add seq_tuple_add PySem.F.slot_tuple_add PySem.F.entry_tuple_add (PySem.F.args_tuple_add_2 _ _)
   (tuple_addW2 t b vs.toArray ws.toArray n n2 dd dd2 sl sl2 (by simpa using hv) (by simpa using hw) (by rw [List.size_toArray,List.size_toArray];exact hsz)) ⟨ho,ho2,?_⟩
  rw [e]
  exact h2 hw
noncomputable def sIx (n d:Nat):Option Int→Nat
 | none=>d
 | some v=>if v<0 then (v+(n:Int)).toNat else min v.toNat n
theorem sIx_le (n d:Nat) (hd:d≤n) (o:Option Int):sIx n d o≤n:=by
 cases o with
 | none=>exact hd
 | some v =>
  show (if v<0 then (v+(n:Int)).toNat else min v.toNat n)≤n
  by_cases hv:v<0
  ·rw [if_pos hv];lia
  ·rw [if_neg hv];exact Nat.min_le_right _ _
theorem clip_eq (v:Int) (n d:Nat):(if v<0 then max (v+(n:Int)) 0 else min v (n:Int))=((sIx n d (some v):Nat):Int):=by
 show (if v<0 then max (v+(n:Int)) 0 else min v (n:Int))=(((if v<0 then (v+(n:Int)).toNat else min v.toNat n):Nat):Int)
 by_cases hv:v<0
 ·simp only [if_pos hv];lia
 ·simp only [if_neg hv];lia
theorem adjust_gen (lo hi:Option Int) (n:Nat):Builtin.Slice.sliceAdjust lo hi 1 (n:Int)=(((sIx n 0 lo:Nat):Int),((sIx n n hi:Nat):Int)):=by
 have h1:¬ ((1:Int)<0):=by lia
 unfold Builtin.Slice.sliceAdjust
 simp only [h1,if_false]
 refine Prod.ext ?_ ?_
 ·cases lo with
  | none=>rfl
  | some v=>exact clip_eq v n 0
 ·cases hi with
  | none=>rfl
  | some v=>exact clip_eq v n n
theorem places_gen (i j:Nat):Builtin.Slice.slicePlaces (i:Int) (j:Int) 1=j - i:=by
 unfold Builtin.Slice.slicePlaces
 have h1:(1:Int) > 0:=by lia
 simp only [h1,if_true,Int.ediv_one]
 split <;> lia
theorem slicePart_ {v:Value} {o:Option Int} {Q:Option Int→Shared→Prop} (p:IsPart v o) (h:Q o s):wpAny (model prog w) A (Builtin.Slice.slicePartIndex v) Q E s:=by
 cases p with
 | none=>exact slicePart_none h
 | int i t=>exact slicePart_int h
theorem sliceApplied_gen {sl:Addr} {vl vu:Value} {lo hi:Option Int} {n:Nat} {Q:Int×Int×Nat→Shared→Prop} (hs:s.heap.IsSliceOf sl vl vu .none) (pl:IsPart vl lo) (pu:IsPart vu hi)
  (h:Q (((sIx n 0 lo:Nat):Int),1,sIx n n hi - sIx n 0 lo) s):wpAny (model prog w) A (Builtin.Slice.sliceApplied (.ref sl) (pure (n:Int))) Q E s:=by
 obtain ⟨os,hos,hcs,hds⟩:=id hs
 unfold Builtin.Slice.sliceApplied Builtin.Slice.sliceFields
 refine wpAny_bind (wpAny_bind (wpAny_field hos hds (x:=vl) rfl (wpAny_bind (wpAny_field hos hds (x:=vu) rfl (wpAny_bind (wpAny_field hos hds (x:=.none) rfl (wpAny_pure ?_)))))))
 refine wpAny_bind (slicePart_none ?_)
 show wpAny _ _ (if ((1:Int)==0)=true then _ else _) _ _ s
 rw [if_neg (by decide)]
 refine wpAny_bind (slicePart_ pl (wpAny_bind (slicePart_ pu (wpAny_bind (wpAny_pure ?_)))))
 show wpAny _ _ (match Builtin.Slice.sliceAdjust lo hi 1 (n:Int) with | (lo,hi)=>pure (lo,(1:Int),Builtin.Slice.slicePlaces lo hi 1)) _ _ s
 rw [adjust_gen lo hi n]
 show wpAny _ _ (pure (((sIx n 0 lo:Nat):Int),(1:Int),Builtin.Slice.slicePlaces ((sIx n 0 lo:Nat):Int) ((sIx n n hi:Nat):Int) 1)) _ _ s
 rw [places_gen]
 exact wpAny_pure h
theorem pick_gen (xs:Array Value) (i k:Nat):((List.range k).filterMap fun (m:Nat)=>xs[((i:Int)+(m:Int) * 1).toNat]?).toArray=((xs.toList.drop i).take k).toArray:=by
 have e:(fun (m:Nat)=>xs[((i:Int)+(m:Int) * 1).toNat]?)=fun m=>xs[i+m]?:=by
  funext m
  have:((i:Int)+(m:Int) * 1).toNat=i+m:=by lia
  rw [this]
 rw [e]
 have:=pick_run xs i k
 rw [List.filterMap_map] at this
 have e2:((fun x=>xs[x]?)∘fun x=>i+x)=fun m=>xs[i+m]?:=rfl
 rw [e2] at this
 rw [this]
theorem getItem_tuple_cut {t sl:Addr} {zd6:Array Value} {vl vu:Value} {lo hi:Option Int} {Q:Value→Shared→Prop} (ht:IsTup s.heap t zd6) (hs:s.heap.IsSliceOf sl vl vu .none) (pl:IsPart vl lo) (pu:IsPart vu hi)
  (hw:¬ (sIx zd6.size 0 lo=0∧sIx zd6.size zd6.size hi=zd6.size))
  (h:Q (.ref s.heap.objs.size) { s with heap:=s.heap.push { cls:=.type "tuple", data:=.seq ((zd6.toList.drop (sIx zd6.size 0 lo)).take (sIx zd6.size zd6.size hi - sIx zd6.size 0 lo)).toArray } })
  (hsz:zd6.size≤sizeLine):wpAny (model prog w) A (getItem (.ref t) (.ref sl)) Q E s:=by
 have htake:sizeOk (.seq ((zd6.toList.drop (sIx zd6.size 0 lo)).take (sIx zd6.size zd6.size hi - sIx zd6.size 0 lo)).toArray):=by
  show ((zd6.toList.drop (sIx zd6.size 0 lo)).take (sIx zd6.size zd6.size hi - sIx zd6.size 0 lo)).toArray.size≤sizeLine
  rw [List.size_toArray,List.length_take,List.length_drop,Array.length_toList]
  lia
 have hj:sIx zd6.size zd6.size hi≤zd6.size:=sIx_le _ _ (Nat.le_refl _) hi
 obtain ⟨os,hos,hcs,hds⟩:=id hs
 have hTs:s.TypeIs (.ref sl) "slice" := ⟨os,hos,hcs⟩
 unfold getItem
 try with_reducible refine wpAny_holding ?_
 first | refine wpAny_bind (wpAny_pure ?_) | skip
 refine wpAny_bind (wpAny_sequenceKey ht.typeIs (by decide) ?_)
 refine wpAny_bind (wpAny_callSpecial?_slot (name:=Str.ofString "__getitem__") ht.typeIs PyProof.Rows.slot_tuple_getitem
  (wpAny_call_entry PyProof.Rows.slot_tuple_getitem ht.typeIs entry_tuple_getitem ?_ (args_tuple_getitem _ _)))
 show wpAny _ _ (Builtin.Tuple.tupleItemsOf (.ref t) >>= _) _ _ s
 refine wpAny_bind (tupleItemsOf_ ht ?_)
 refine wpAny_bind (wpAny_typeOf hTs ?_)
 rw [if_pos (by decide)]
 refine wpAny_bind (sliceApplied_gen hs pl pu ?_)
 have hno:¬ ((((sIx zd6.size 0 lo:Nat):Int)==0&&(1:Int)==1&&(sIx zd6.size zd6.size hi - sIx zd6.size 0 lo)==zd6.size)=true):=by
  intro q
  rw [Bool.and_eq_true,Bool.and_eq_true] at q
  have q1:((sIx zd6.size 0 lo:Nat):Int)=0:=eq_of_beq q.1.1
  have q2:sIx zd6.size zd6.size hi - sIx zd6.size 0 lo=zd6.size:=eq_of_beq q.2
  exact hw ⟨by lia,by lia⟩
 show wpAny _ _ (if (((sIx zd6.size 0 lo:Nat):Int)==0&&(1:Int)==1&&(sIx zd6.size zd6.size hi - sIx zd6.size 0 lo)==zd6.size)=true then _ else _) _ _ s
 rw [if_neg hno,pick_gen]
 first
  | exact wpAny_bind (m:=Builtin.Tuple.tupleExact _) (wpAny_newObj_type (wpAny_pure ⟨_,rfl,wpAny_pure h⟩) htake)
  | exact wpAny_bind (m:=Builtin.Tuple.tupleExact _) (wpAny_newObj_type (wpAny_bind (wpAny_pure (wpAny_pure ⟨_,rfl,wpAny_pure h⟩))) htake)
  | exact wpAny_bind (wpAny_bind (m:=Builtin.Tuple.tupleExact _) (wpAny_newObj_type (wpAny_pure (wpAny_pure ⟨_,rfl,wpAny_pure h⟩)) htake))
  | exact wpAny_bind (wpAny_bind (m:=Builtin.Tuple.tupleExact _) (wpAny_newObj_type (wpAny_pure ⟨_,rfl,wpAny_pure h⟩) htake))
end
end HT
namespace L2
open PySem PySem.Spec PyProof.Rows
noncomputable abbrev TO:=St→Hp→(Option Int→Hp→Prop)→Prop
def PO (X:Cx) (e:Option Expr) (t:TO):Prop :=
 ∀ (pins:List (Addr×Obj)) (s:Shared) (σ:St) (H:Hp) (Q:Option Int→Hp→Prop),Inv X pins σ H s→t σ H Q →
  wpAny (model X.prog X.w) X.A (evalPart e X.env) (fun u s'=>∃ o H',Inv X pins σ H' s'∧IsPart u o∧Q o H') X.xe s
noncomputable def xf1:TO:=fun _ H Q=>Q none H
noncomputable def xd0 (t:TE):TO:=fun σ H Q=>t σ H fun x H1=>∃ i,x=.int i∧Q (some i) H1
section
variable {X:Cx} {e:Expr} {te:TE} {lo hi:Option Expr} {tl th:TO} {pos p2:Pos}
theorem yF5:PO X none xf1:=by
 intro pins s σ H Q I h
 rw [evalPart_none]
 exact wpAny_pure ⟨none,H,I,.none,h⟩
theorem yH1 (h:PE X e te):PO X (some e) (xd0 te):=by
 intro pins s σ H Q I hw
 rw [evalPart_some]
 refine thn (h pins s σ H _ I hw) fun u s1 h_=>?_
 obtain ⟨x,H1,I1,r1,q1⟩:=h_
 obtain ⟨i,rfl,q⟩:=q1
 obtain ⟨t,rfl⟩:=r1
 exact ⟨some i,H1,I1,.int i t,q⟩
def SlR (X:Cx) (r:V→Option Int→Option Int→Hp→VK→Prop):Prop :=
 ∀ (pins:List (Addr×Obj)) (s:Shared) (σ:St) (H:Hp) (x:V) (v vl vu:Value) (lo hi:Option Int) (sl:Addr) (Q:VK),Inv X pins σ H s→RelV x v→s.heap.IsSliceOf sl vl vu .none→IsPart vl lo→IsPart vu hi→r x lo hi H Q →
  ∃ T id,typeLookup (.type T) "__getitem__" = pure (some (.builtin id))∧s.TypeIs v T∧wpAny (model X.prog X.w) X.A (getItem v (.ref sl)) (EP X pins σ Q) X.xe s
noncomputable def tSl (r:V→Option Int→Option Int→Hp→VK→Prop) (te:TE) (tl th:TO):TE:=fun σ H Q=>te σ H fun x H1=>tl σ H1 fun l H2=>th σ H2 fun u H3=>r x l u H3 Q
theorem yw5 {r:V→Option Int→Option Int→Hp→VK→Prop} (hr:SlR X r) (he:PE X e te) (hl:PO X lo tl) (hu:PO X hi th):PE X (.Subscript e (.Slice lo hi none p2) pos) (tSl r te tl th):=by
 intro pins s σ H Q I h
 refine Subscript_ (thn (he pins s σ H _ I h) fun v s1 h_=>?_)
 obtain ⟨x,H1,I1,r1,q1⟩:=h_
 refine wpAny_Slice (thn (hl pins s1 σ H1 _ I1 q1) fun vl s2 ⟨l,H2,I2,pl,q2⟩=>thn (hu pins s2 σ H2 _ I2 q2) fun vu s3 h_=>?_)
 obtain ⟨u,H3,I3,pu,q3⟩:=h_
 rw [evalPart_none]
 refine wpAny_pure ?_
 have I4:Inv X pins σ H3 { s3 with heap:=s3.heap.push { cls:=.type "slice", data:=.fields #[vl,vu,.none] } }:=I3.kept (t':=s3.toks) fun b ob q=>Heap.get?_push_of_some _ q
 obtain ⟨T,id,hT,ht,hg⟩:=hr pins { s3 with heap:=s3.heap.push { cls:=.type "slice", data:=.fields #[vl,vu,.none] } } σ H3 x v vl vu l u s3.heap.objs.size Q I4 r1 (Heap.IsSliceOf.new ..) pl pu q3
 show wpAny (model X.prog X.w) X.A (subscriptTail e (.Slice lo hi none p2) v (.ref s3.heap.objs.size)) (EP X pins σ Q) X.xe { s3 with heap:=s3.heap.push { cls:=.type "slice", data:=.fields #[vl,vu,.none] } }
 exact tail_any (ops:=[.ref s3.heap.objs.size,v]) ht hT hg (by with_unfolding_all rfl)
noncomputable def yC2 (xs:List V) (lo hi:Option Int):List V:=(xs.drop (HT.sIx xs.length 0 lo)).take (HT.sIx xs.length xs.length hi - HT.sIx xs.length 0 lo)
theorem zF7 (xs:List V) (lo hi:Option Int):(yC2 xs lo hi).length≤xs.length:=by
 unfold yC2
 rw [List.length_take,List.length_drop]
 lia
def rSlT (K:Frag):V→Option Int→Option Int→Hp→VK→Prop:=fun x lo hi H Q=>∃ a xs,x=.ref a∧SqT K H a xs ∧
 ¬ (HT.sIx xs.length 0 lo=0∧HT.sIx xs.length xs.length hi=xs.length)∧∀ p,H p=none→Q (.ref p) (upd H p (.tup (yC2 xs lo hi)))
theorem yT6:SlR X (rSlT X.K):=by
 intro pins s σ H x v vl vu lo hi sl Q I rx hs pl pu h
 obtain ⟨a,xs,rfl,hx,hw,q⟩:=h
 cases rx
 obtain ⟨its,r,ht,hz⟩:=I.tuple hx
 have hlen:its.toArray.size=xs.length:=by rw [List.size_toArray];exact r.length.symm
 refine ⟨"tuple", _,PyProof.Rows.slot_tuple_getitem.lookup,ht.typeIs,?_⟩
 refine HT.getItem_tuple_cut ht hs pl pu (by rw [hlen];exact hw) ?_ (by rw [hlen];exact hz)
 rw [hlen]
 refine ⟨.ref s.heap.objs.size,_,I.laid (t':=s.toks) (o:=.tup (yC2 xs lo hi)) (fun b ob q=>Heap.get?_push_of_some _ q) (Nat.le_refl _) ?_,rfl,q _ (I.hok.fresh (Nat.le_refl _))⟩
 exact ⟨Nat.le_trans (zF7 xs lo hi) hz,_,(r.drop (HT.sIx xs.length 0 lo)).take (HT.sIx xs.length xs.length hi - HT.sIx xs.length 0 lo),zD4.new _ _⟩
noncomputable def xh9 (K:Frag):R2:=fun x y H Q=>∃ a b xs ys,x=.ref a∧y=.ref b∧SqT K H a xs∧SqT K H b ys∧xs≠[]∧xs.length+ys.length≤sizeLine ∧
 (ys=[]→Q (.ref a) H)∧(ys≠[]→∀ p,H p=none→Q (.ref p) (upd H p (.tup (xs++ys))))
theorem zh0.nil_iff {xs:List V} {us:List Value} (r:zh0 xs us):us=[]↔xs=[]:=by
 cases r with
 | nil=>simp
 | cons _ _=>simp
theorem yF0:OpR X (binaryOp .Add) (xh9 X.K):=by
 intro pins s σ H x y v u Q I rx ry h
 obtain ⟨a,b,xs,ys,rfl,rfl,ha,hb,hx,hz,q1,q2⟩:=h
 cases rx
 cases ry
 obtain ⟨its,r1,p1,_⟩:=I.tuple ha
 obtain ⟨its2,r2,p2,_⟩:=I.tuple hb
 refine HT.cat_tup p1 p2 (fun z=>hx (r1.nil_iff.mp z)) (fun z=>⟨.ref a,H,I,rfl,q1 (r2.nil_iff.mp z)⟩) (fun z=>?_) (by rw [← r1.length,← r2.length];exact hz)
 refine ⟨.ref s.heap.objs.size,_,I.laid (t':=s.toks) (o:=.tup (xs++ys)) (fun b ob q=>Heap.get?_push_of_some _ q) (Nat.le_refl _) ?_,rfl,q2 (fun w=>z (r2.nil_iff.mpr w)) _ (I.hok.fresh (Nat.le_refl _))⟩
 exact ⟨by rw [List.length_append];exact hz,_,r1.append r2,zD4.new _ _⟩
end
noncomputable def ixN (n:Nat) (i:Int):Option Nat:=if 0≤i then (if i<n then some i.toNat else none) else if -(n:Int)≤i then some (i+n).toNat else none
noncomputable def atI {α:Type} (xs:List α) (i:Int):Option α:=(ixN xs.length i).bind fun j=>xs[j]?
theorem yl9 {n:Nat} {i:Int} {j:Nat} (h:ixN n i=some j):seqIndex? i n=some j∧j<n∧-(n:Int)≤i∧i<n:=by
 unfold ixN at h
 by_cases h0:0≤i
 ·rw [if_pos h0] at h
  by_cases h1:i<n
  ·rw [if_pos h1] at h
   have e:i.toNat=j:=Option.some.inj h
   exact ⟨by rw [seqIndex_of h0 h1,e],by lia,by lia,h1⟩
  ·rw [if_neg h1] at h;cases h
 ·rw [if_neg h0] at h
  by_cases h1:-(n:Int)≤i
  ·rw [if_pos h1] at h
   have e:(i+n).toNat=j:=Option.some.inj h
   exact ⟨by rw [seqIndex_neg (by lia) h1,e],by lia,h1,by lia⟩
  ·rw [if_neg h1] at h;cases h
theorem zX0 {α:Type} {xs:List α} {i:Int} {v:α} (h:atI xs i=some v):∃ j,seqIndex? i xs.length=some j∧xs[j]?=some v∧j<xs.length∧-(xs.length:Int)≤i∧i<xs.length:=by
 unfold atI at h
 cases e:ixN xs.length i with
 | none=>rw [e] at h;cases h
 | some j =>
  rw [e] at h
  obtain ⟨h1,h2,h3,h4⟩:=yl9 e
  exact ⟨j,h1,h,h2,h3,h4⟩
def zW5 (b:Expr):Prop:=∀ o i,subscripted b false o i=operate [o,i] (getItem o i)
def IxR (X:Cx) (r:R2):Prop :=
 ∀ (value slice:Expr) (pins:List (Addr×Obj)) (s:Shared) (σ:St) (H:Hp) (x y:V) (v u:Value) (Q:VK),Inv X pins σ H s→RelV x v→RelV y u→r x y H Q →
  subscripted slice false v u=operate [v,u] (getItem v u)→wpAny (model X.prog X.w) X.A (subscriptTail value slice v u) (EP X pins σ Q) X.xe s
def MtR (X:Cx) (id:String) (r:V→List V→Hp→VK→Prop):Prop :=
 ∀ (pins:List (Addr×Obj)) (s:Shared) (σ:St) (H:Hp) (x:V) (xs:List V) (v:Value) (us:List Value) (Q:VK),Inv X pins σ H s→RelV x v→zh0 xs us→r x xs H Q →
  wpAny (model X.prog X.w) X.A (call (.builtin id) (v::us)) (EP X pins σ Q) X.xe s
section
variable {X:Cx} {a b:Expr} {ta tb:TE} {pos:Pos}
theorem IxR.or {r r':R2} (h:IxR X r) (h':IxR X r'):IxR X (fun x y H Q=>r x y H Q∨r' x y H Q):=by
 intro value slice pins s σ H x y v u Q I rx ry q hs
 rcases q with q | q
 ·exact h value slice pins s σ H x y v u Q I rx ry q hs
 ·exact h' value slice pins s σ H x y v u Q I rx ry q hs
theorem xc1 {r:R2} (hr:IxR X r) (ha:PE X a ta) (hb:PE X b tb) (hs:zW5 b):PE X (.Subscript a b pos) (tOp r ta tb):=by
 intro pins s σ H Q I h
 exact Subscript_ (xb1 ha hb I h fun v u s2 x y H2 I2 rx ry q=>hr a b pins s2 σ H2 x y v u Q I2 rx ry q (hs _ _))
noncomputable def rIxL (K:Frag):R2:=fun x y H Q=>∃ p xs i v,x=.ref p∧y=.int i∧SqL K H p xs∧atI xs i=some v∧Q v H
noncomputable def rIxT (K:Frag):R2:=fun x y H Q=>∃ p xs i v,x=.ref p∧y=.int i∧SqT K H p xs∧atI xs i=some v∧Q v H
noncomputable def rIxS:R2:=fun x y H Q=>∃ z i c,x=.str z∧y=.int i∧z.length≤sizeLine∧atI z.cps.toList i=some c∧Q (.str ⟨#[c]⟩) H
theorem yK1:IxR X (rIxL X.K):=by
 intro value slice pins s σ H x y v u Q I rx ry h hs
 obtain ⟨p,xs,i,z,rfl,rfl,hq,he,q⟩:=h
 cases rx
 obtain ⟨t,rfl⟩:=ry
 obtain ⟨its,r,pl,hz⟩:=I.list hq
 obtain ⟨j,h1,h2,h3,h4,h5⟩:=zX0 he
 obtain ⟨w,ew,rw'⟩:=r.get h2
 have hl:=r.length
 have hn:=zL0
 have fin:EP X pins σ Q w s:=⟨z,H,I,rw',q⟩
 by_cases h0:0≤i
 ·have hj:i.toNat=j:=by
   rw [seqIndex_of h0 h5] at h1
   exact Option.some.inj h1
  exact item_listR pl.isList h0 (by lia) (by rw [hj];simpa using ew) fin hs
 ·have hj:(i+(its.toArray.size:Int)).toNat=j:=by
   rw [seqIndex_neg (by lia) h4] at h1
   rw [List.size_toArray,← hl]
   exact Option.some.inj h1
  exact subscriptTail_builtinR (x:=w) pl.isList.typeIs slot_list_getitem.lookup
   (wpAny_getItem_list_neg (Q:=fun r s'=>r=w∧EP X pins σ Q r s') pl.isList (by lia) (by rw [List.size_toArray] <;> lia) (by lia) (by rw [hj];simpa using ew) ⟨rfl,fin⟩) hs
theorem yV6:IxR X (rIxT X.K):=by
 intro value slice pins s σ H x y v u Q I rx ry h hs
 obtain ⟨p,xs,i,z,rfl,rfl,hq,he,q⟩:=h
 cases rx
 obtain ⟨t,rfl⟩:=ry
 obtain ⟨its,r,pl,hz⟩:=I.tuple hq
 obtain ⟨j,h1,h2,h3,h4,h5⟩:=zX0 he
 obtain ⟨w,ew,rw'⟩:=r.get h2
 have hl:=r.length
 have hn:=zL0
 have fin:EP X pins σ Q w s:=⟨z,H,I,rw',q⟩
 exact subscriptTail_builtinR (x:=w) pl.typeIs slot_tuple_getitem.lookup
  (getItem_tuple (j:=j) (Q:=fun r s'=>r=w∧EP X pins σ Q r s') pl (by lia) (by lia) (by rw [List.size_toArray,← hl];exact h1) (by simpa using ew) ⟨rfl,fin⟩) hs
theorem yN9:IxR X rIxS:=by
 intro value slice pins s σ H x y v u Q I rx ry h hs
 obtain ⟨z,i,c,rfl,rfl,hz,he,q⟩:=h
 obtain ⟨t,rfl⟩:=rx
 obtain ⟨t',rfl⟩:=ry
 obtain ⟨j,h1,h2,h3,h4,h5⟩:=zX0 he
 have hl:z.cps.toList.length=z.length:=by simp [Str.length]
 rw [hl] at h1 h4 h5
 have hn:=zL0
 exact tail_any (typeIs_str s z t) slot_str_getitem.lookup (getItem_str (c:=c) (by
  have e1:decide (i < -(2 ^ 63:Int))=false:=decide_eq_false (by lia)
  have e2:decide (i ≥ 2 ^ 63)=false:=decide_eq_false (by lia)
  rw [e1,e2,Bool.or_false]) (by rw [h1];simpa using h2) ⟨.str ⟨#[c]⟩,H,I.tok _,⟨_,rfl⟩,q⟩) hs
noncomputable def rIx (K:Frag):R2:=fun x y H Q=>rIxL K x y H Q∨rIxT K x y H Q∨rIxS x y H Q
theorem yU9:IxR X (rIx X.K):=yK1.or (yV6.or yN9)
theorem yh8 (its:List Value) (n j:Nat) (u:Value):Obj.mapSeq (·.setIfInBounds j u) { cls:=.type "list", data:=.seq its.toArray n }={ cls:=.type "list", data:=.seq (its.set j u).toArray n }:=by
 simp [Obj.mapSeq]
theorem Inv.lst {pins:List (Addr×Obj)} {σ:St} {H:Hp} {s:Shared} {p:Addr} {xs:List V} (I:Inv X pins σ H s) (h:H p=some (.lst xs)) :
  ∃ (its:List Value) (n:Nat),zh0 xs its∧s.heap.get? p=some { cls:=.type "list", data:=.seq its.toArray n }∧xs.length≤sizeLine:=by
 obtain ⟨z,its,n,r,e⟩:=I.hok p _ h
 exact ⟨its,n,r,e,z⟩
theorem Inv.lstUpd {pins:List (Addr×Obj)} {σ:St} {H:Hp} {s:Shared} {p:Addr} {xs ys:List V} {its its':List Value} {n n':Nat} {f:Obj→Obj} (I:Inv X pins σ H s) (h:H p=some (.lst xs))
  (ho:s.heap.get? p=some { cls:=.type "list", data:=.seq its.toArray n }) (hf:f { cls:=.type "list", data:=.seq its.toArray n }={ cls:=.type "list", data:=.seq its'.toArray n' }) (r:zh0 ys its') (hz:ys.length≤sizeLine) (t:Nat) :
  Inv X pins σ (upd H p (.lst ys)) { s with heap:=s.heap.update p f,toks:=t }:=by
 have e:(s.heap.update p f).get? p=some { cls:=.type "list", data:=.seq its'.toArray n' }:=by
  rw [Heap.get?_update_self f ho (by rw [hf] <;> rfl),hf]
 refine I.write (x:=p) (e:=p) (by rw [h];trivial) (.inl rfl) (fun b u hb q=>(Heap.get?_update_other _ _ (Ne.symm hb)).trans q) ⟨_,e⟩ ?_
 exact ⟨hz,its',n',r,e⟩
def rSetL:V→V→V→Hp→(Hp→Prop)→Prop:=fun o i v H Q=>∃ p xs k j,o=.ref p∧i=.int k∧H p=some (.lst xs)∧ixN xs.length k=some j∧Q (upd H p (.lst (xs.set j v)))
theorem yt9:yD4 X rSetL:=by
 intro pins s σ H o i v ov iv u Q I ro ri rv h
 obtain ⟨p,xs,k,j,rfl,rfl,hp,hj,q⟩:=h
 cases ro
 obtain ⟨t,rfl⟩:=ri
 obtain ⟨its,n,r,ho,hz⟩:=I.lst hp
 obtain ⟨h1,h2,h3,h4⟩:=yl9 hj
 have hl:=r.length
 have hn:=zL0
 have I':Inv X pins σ (upd H p (.lst (xs.set j v))) { s with heap:=s.heap.update p (Obj.mapSeq (·.setIfInBounds j u)) } :=
  I.lstUpd hp ho (yh8 its n j u) (r.set rv j) (by rw [List.length_set];exact hz) s.toks
 by_cases h0:0≤k
 ·have hk:k.toNat=j:=by
   rw [seqIndex_of h0 h4] at h1
   exact Option.some.inj h1
  exact PySem.W.ki_setAt ho h0 (by lia) (by rw [List.size_toArray,← hl];exact h4) (by rw [hk];exact ⟨_,I',q⟩)
 ·have hk:(k+(its.toArray.size:Int)).toNat=j:=by
   rw [seqIndex_neg (by lia) h3] at h1
   rw [List.size_toArray,← hl]
   exact Option.some.inj h1
  exact PySem.W.ki_setBack ho (by lia) (by rw [List.size_toArray,← hl];exact h3) (by lia) (by rw [hk];exact ⟨_,I',q⟩)
theorem zT0 (lo hi:Option Int) (n:Nat):(sliceBounds lo hi none n).1=((HT.sIx n 0 lo:Nat):Int)∧(sliceBounds lo hi none n).2.1=((HT.sIx n n hi:Nat):Int)∧(sliceBounds lo hi none n).2.2=1:=by
 refine ⟨?_,?_,rfl⟩
 ·cases lo with
  | none=>simp [sliceBounds,HT.sIx]
  | some i =>
   simp only [sliceBounds,HT.sIx,Option.getD_none,show (1:Int) > 0 by decide,if_true]
   by_cases h:i<0
   ·simp only [h,if_true] <;> lia
   ·simp only [h,if_false] <;> lia
 ·cases hi with
  | none=>simp [sliceBounds,HT.sIx]
  | some i =>
   simp only [sliceBounds,HT.sIx,Option.getD_none,show (1:Int) > 0 by decide,if_true]
   by_cases h:i<0
   ·simp only [h,if_true] <;> lia
   ·simp only [h,if_false] <;> lia
theorem zP1 (its:List Value) (lo hi:Option Int):slicePick its.toArray lo hi none=((its.drop (HT.sIx its.length 0 lo)).take (HT.sIx its.length its.length hi - HT.sIx its.length 0 lo)).toArray:=by
 obtain ⟨h1,h2,h3⟩:=zT0 lo hi its.toArray.size
 unfold slicePick
 rw [h1,h2,h3]
 simp only [sliceRange_one,pick_run,List.size_toArray] <;> rfl
def rSlL (K:Frag):V→Option Int→Option Int→Hp→VK→Prop:=fun x lo hi H Q=>∃ a xs,x=.ref a∧SqL K H a xs∧∀ p,H p=none→Q (.ref p) (upd H p (.lst (yC2 xs lo hi)))
theorem yG4:SlR X (rSlL X.K):=by
 intro pins s σ H x v vl vu lo hi sl Q I rx hs pl pu h
 obtain ⟨a,xs,rfl,hx,q⟩:=h
 cases rx
 obtain ⟨its,r,ht,hz⟩:=I.list hx
 have hlen:=r.length
 refine ⟨"list", _,slot_list_getitem.lookup,ht.isList.typeIs,?_⟩
 refine wpAny_getItem_list_slice ht.isList hs pl pu .none (by simp) ?_ (by rw [List.size_toArray] <;> lia)
 rw [zP1,← hlen]
 refine ⟨.ref s.heap.objs.size,_,I.laid (t':=s.toks) (o:=.lst (yC2 xs lo hi)) (fun b ob q=>Heap.get?_push_of_some _ q) (Nat.le_refl _) ?_,rfl,q _ (I.hok.fresh (Nat.le_refl _))⟩
 exact ⟨Nat.le_trans (zF7 xs lo hi) hz,_,0,(r.drop (HT.sIx xs.length 0 lo)).take (HT.sIx xs.length xs.length hi - HT.sIx xs.length 0 lo),Heap.get?_push_size _ rfl⟩
theorem zD0:zN5 X (.builtin "len") (fun xs H Q=>∃ p ys,xs=[.ref p]∧(SqL X.K H p ys∨SqT X.K H p ys)∧Q (.int ys.length) H):=by
 intro pins s σ H xs us Q I r h
 obtain ⟨p,ys,rfl,hq,q⟩:=h
 obtain ⟨u,rfl,rx⟩:=yf7 r
 cases rx
 have hn:=zL0
 rcases hq with hq | hq
 ·obtain ⟨its,r',pl,hz⟩:=I.list hq
  have hlen:=r'.length
  exact Calls.call_len_list pl.isList (by simp only [List.size_toArray] <;> lia) ⟨.int ys.length,H,I.tok _,⟨s.toks+1,by rw [List.size_toArray,hlen]⟩,q⟩
 ·obtain ⟨its,r',pl,hz⟩:=I.tuple hq
  have hlen:=r'.length
  exact len_tuple pl (by simp only [List.size_toArray] <;> lia) ⟨.int ys.length,H,I.tok _,⟨s.toks+1,by rw [List.size_toArray,hlen]⟩,q⟩
theorem zR8:zN5 X (.builtin "len") (fun xs H Q=>∃ z,xs=[.str z]∧z.length≤sizeLine∧Q (.int z.length) H):=by
 intro pins s σ H xs us Q I r h
 obtain ⟨z,rfl,hz,q⟩:=h
 obtain ⟨u,rfl,t,rfl⟩:=yf7 r
 have hn:=zL0
 exact len_str (by lia) ⟨.int z.length,H,I.tok _,⟨_,rfl⟩,q⟩
theorem zT3:zN5 X (.type "list") (fun xs H Q=>∃ p ys,xs=[.ref p]∧(SqL X.K H p ys∨SqT X.K H p ys)∧∀ l,H l=none→Q (.ref l) (upd H l (.lst ys))):=by
 intro pins s σ H xs us Q I r h
 obtain ⟨p,ys,rfl,hq,q⟩:=h
 obtain ⟨u,rfl,rx⟩:=yf7 r
 cases rx
 have fin:∀ (its:List Value),zh0 ys its→ys.length≤sizeLine→∀ (h':Heap) (c':Nat),(∀ b o',s.heap.get? b=some o'→h'.get? b=some o') →
   h'.get? s.heap.objs.size=some { cls:=.type "list", dict:=none,data:=.seq its.toArray c',slots:=#[] }→EP X pins σ Q (.ref s.heap.objs.size) { s with heap:=h' }:=fun its r' hz h' c' kp e =>
  ⟨.ref s.heap.objs.size,_,I.laid (t':=s.toks) kp (Nat.le_refl _) (show zk0 X.prog X.w _ h' _ (.lst ys) from ⟨hz,its,c',r',e⟩),rfl,q _ (I.hok.fresh (Nat.le_refl _))⟩
 rcases hq with hq | hq
 ·obtain ⟨its,r',pl,hz⟩:=I.list hq
  have hlen:=r'.length
  obtain ⟨o,ho,hc,n,hd⟩:=pl.isList
  exact call_list_seq p (.inl rfl) ho hc hd (fun h' c' kp e=>fin its r' hz h' c' kp e) (by simp only [List.size_toArray] <;> lia)
 ·obtain ⟨its,r',pl,hz⟩:=I.tuple hq
  have hlen:=r'.length
  obtain ⟨o,ho,hc,n,hd⟩:=pl
  exact call_list_seq p (.inr rfl) ho hc hd (fun h' c' kp e=>fin its r' hz h' c' kp e) (by simp only [List.size_toArray] <;> lia)
theorem zy9:zN5 X (.type "tuple") (fun xs H Q=>∃ p ys,xs=[.ref p]∧((SqL X.K H p ys∧∀ l,H l=none→Q (.ref l) (upd H l (.tup ys)))∨(SqT X.K H p ys∧Q (.ref p) H))):=by
 intro pins s σ H xs us Q I r h
 obtain ⟨p,ys,rfl,h⟩:=h
 obtain ⟨u,rfl,rx⟩:=yf7 r
 cases rx
 rcases h with ⟨hq,q⟩ | ⟨hq,q⟩
 ·obtain ⟨its,r',pl,hz⟩:=I.list hq
  have hlen:=r'.length
  refine call_tuple_list pl.isList (fun h' kp=>?_) (by simp only [List.size_toArray] <;> lia)
  have I1:Inv X pins σ H { s with heap:=h' }:=I.kept (t':=s.toks) kp
  have I2:Inv X pins σ (upd H h'.objs.size (.tup ys)) { s with heap:=h'.push { cls:=.type "tuple", data:=.seq its.toArray } } :=
   I1.laid (t':=s.toks) (fun b o e=>Heap.get?_push_of_some _ e) (Nat.le_refl _) (show zk0 X.prog X.w _ _ _ (.tup ys) from ⟨hz,its,r',zD4.new _ _⟩)
  exact ⟨.ref h'.objs.size,_,I2,rfl,q _ (I1.hok.fresh (Nat.le_refl _))⟩
 ·obtain ⟨its,r',pl,hz⟩:=I.tuple hq
  exact call_tuple_same pl ⟨.ref p,H,I,rfl,q⟩
def tyV (K:Frag) (T:String) (x:V) (H:Hp):Prop:=match x with
 | .str _=>T = "str"
 | .int _=>T = "int"
 | .ref p=>(T = "list" ∧ ∃ xs,SqL K H p xs)∨(T = "tuple" ∧ ∃ o,K.lookup p=some o∧o.cls=.type "tuple" ∧ o.dict=none) ∨
   (T = "dict" ∧ ((∃ kvs,H p=some (.dK kvs))∨∃ kvs,H p=some (.dT kvs)))∨(T = "set" ∧ ∃ S n,H p=some (.set S n))
 | _=>False
theorem yV8 {pins:List (Addr×Obj)} {σ:St} {H:Hp} {s:Shared} {T:String} {x:V} {v:Value} (I:Inv X pins σ H s) (r:RelV x v) (ty:tyV X.K T x H) :
  s.TypeIs v T∧∀ a,v=.ref a→∃ ob,s.heap.get? a=some ob∧ob.dict=none:=by
 cases x with
 | str z =>
  obtain ⟨t,rfl⟩:=r
  cases (show T = "str" from ty)
  exact ⟨typeIs_str s z t,fun _ e=>nomatch e⟩
 | int i =>
  obtain ⟨t,rfl⟩:=r
  cases (show T = "int" from ty)
  exact ⟨typeIs_int s i t,fun _ e=>nomatch e⟩
 | ref p =>
  cases r
  rcases ty with ⟨rfl,xs,hq⟩ | ⟨rfl,o,hk,hc,hd⟩ | ⟨rfl,hk⟩ | ⟨rfl,S,n,hk⟩
  ·obtain ⟨its,_,pl,_⟩:=I.list hq
   refine ⟨pl.isList.typeIs,fun a e=>?_⟩
   cases e
   obtain ⟨o,n,e,c,hd,_⟩:=pl
   exact ⟨o,e,hd⟩
  ·refine ⟨⟨o,I.kIn p o hk,hc⟩,fun a e=>?_⟩
   cases e
   exact ⟨o,I.kIn _ o hk,hd⟩
  ·have z:∃ o,s.heap.get? p=some o∧o.ExactDict:=by
    rcases hk with ⟨kvs,hk⟩ | ⟨kvs,hk⟩
    ·obtain ⟨_,_,_,_,o,_,_,e,ex,_⟩:=I.hok p _ hk
     exact ⟨o,e,ex⟩
    ·obtain ⟨_,_,_,_,o,_,_,e,ex,_⟩:=I.hok p _ hk
     exact ⟨o,e,ex⟩
   obtain ⟨o,e,ex⟩:=z
   refine ⟨⟨o,e,ex.1⟩,fun a e2=>?_⟩
   cases e2
   exact ⟨o,e,ex.2.1⟩
  ·obtain ⟨o,_,_,_,e,ex,_⟩:=I.hok p _ hk
   refine ⟨⟨o,e,ex.1⟩,fun a e2=>?_⟩
   cases e2
   exact ⟨o,e,ex.2.1⟩
 | _=>exact False.elim ty
noncomputable def tBM (K:Frag) (T:String) (r:V→List V→Hp→VK→Prop) (to:TE) (t:TA):TE:=fun σ H Q=>to σ H fun x H1=>tyV K T x H1∧t σ H1 fun xs H2=>r x xs H2 Q
variable {o e:Expr} {es:List Expr} {to:TE} {t:TA} {name:Str} {apos cpos:Pos} {T id:String} {r:V→List V→Hp→VK→Prop}
theorem yN1 (pa:PlainAttrs T) (slot:Slot T name id) (hty:typeOf (.builtin id)=pure (.type "method_descriptor")) (hm:MtR X id r) (ho:PE X o to) (ha:PA X (e::es) t)
  (hbase:attributeBase o name X.env (eval o X.env)=eval o X.env)
  (hfew:((backTo cpos (starEach (e::es) X.env)).all (fun x=>!x.1)&&(backToKw cpos (keywordEach [] X.env)).all (fun x=>x.1.isSome)
   && decide ((e::es).length+([]:List Keyword).length+(if ([]:List Keyword).isEmpty then 0 else 1)<30))=true)
  (hline:(apos.endLine==cpos.line)=true) (hs:starEach (e::es) X.env=(false,eval e X.env)::starEach es X.env) (hplain:(backTo cpos (starEach es X.env)).any (·.1)=false) :
  PE X (.Call (.Attribute o name apos) (e::es) [] cpos) (tBM X.K T r to t):=by
 intro pins s σ H Q I h
 refine wpAny_Call_method_late hbase hfew hline rfl (thn (ho pins s σ H _ I h) fun v s1 h_=>?_)
 obtain ⟨x,H1,I1,r1,ty,q1⟩:=h_
 obtain ⟨h1,h2⟩:=yV8 I1 r1 ty
 refine ⟨T,id,pa,slot,hty,h1,h2,?_⟩
 have hA:=ha cpos pins s1 σ H1 _ I1 q1
 rw [hs] at hA ⊢
 refine Calls.callWith_builtin (by show (false || (backTo cpos (starEach es X.env)).any (·.1))=false;rw [hplain] <;> rfl) (Calls.evalArgs_plain ?_)
 exact thn hA fun us s2 ⟨vs,H2,I2,r2,q2⟩=>hm pins s2 σ H2 x vs v us Q I2 r1 r2 q2
end
def MtM (X:Cx) (id:String) (r:V→List V→Hp→VK→Prop):Prop :=
 ∀ (pins:List (Addr×Obj)) (s:Shared) (σ:St) (H:Hp) (x:V) (xs:List V) (v:Value) (us:List Value) (Q:VK),Inv X pins σ H s→RelV x v→zh0 xs us→r x xs H Q →
  wpAny (model X.prog X.w) X.A (call (.builtin id) (v::us)) (EP X pins σ Q) X.xe s
theorem zh0.one:∀ {x:V} {us:List Value},zh0 [x] us→∃ u,us=[u]∧RelV x u
 | _,_,.cons r .nil=>⟨_,rfl,r⟩
section
variable {X:Cx} {pins:List (Addr×Obj)} {σ:St} {H:Hp} {s:Shared} {l b:Addr} {xs ys zs:List V}
theorem Inv.lset {its its':List Value} {n:Nat} {f:Array Value→Array Value} {t':Nat} (I:Inv X pins σ H s) (hH:H l=some (.lst xs))
  (e:s.heap.get? l=some { cls:=.type "list", data:=.seq its.toArray n }) (hf:f its.toArray=its'.toArray) (hv:zh0 ys its') (hz:ys.length≤sizeLine) :
  Inv X pins σ (upd H l (.lst ys)) { s with heap:=s.heap.update l (Obj.mapSeq f),toks:=t' }:=by
 have q:=PySem.IsL.update e f
 rw [hf] at q
 refine I.write (x:=l) (e:=l) (by rw [hH];exact trivial) (.inl rfl) (fun b' u hb hu=>(Heap.get?_update_other s.heap (Obj.mapSeq f) (Ne.symm hb)).trans hu) ⟨_,q⟩ ?_
 exact ⟨hz,its',_,hv,q⟩
theorem Inv.lnew {its:List Value} {t':Nat} (I:Inv X pins σ H s) (hv:zh0 ys its) (hz:ys.length≤sizeLine) :
  Inv X pins σ (upd H s.heap.objs.size (.lst ys)) { s with heap:=s.heap.push { cls:=.type "list", data:=.seq its.toArray },toks:=t' } :=
 I.laid (fun _ _ q=>Heap.get?_push_of_some _ q) (Nat.le_refl _) ⟨hz,its,0,hv,Heap.get?_push_size _ rfl⟩
theorem Inv.fresh (I:Inv X pins σ H s):H s.heap.objs.size=none:=I.hok.fresh (Nat.le_refl _)
theorem Inv.lstM (I:Inv X pins σ H s) (hH:H l=some (.lst xs)):xs.length≤sizeLine∧∃ (its:List Value) (n:Nat),zh0 xs its∧xs.length=its.length∧s.heap.get? l=some { cls:=.type "list", data:=.seq its.toArray n }:=by
 obtain ⟨z,its,n,r,e⟩:=I.hok l _ hH
 exact ⟨z,its,n,r,r.length,e⟩
theorem yA4 {n:Nat} (h:n≤sizeLine):Builtin.List.listTooLong n=false:=by
 unfold Builtin.List.listTooLong
 exact decide_eq_false (by lia)
end
section
variable {X:Cx}
def xf7:V→List V→Hp→VK→Prop:=fun x vs H Q=>∃ l xs y,x=.ref l∧vs=[y]∧H l=some (.lst xs)∧xs.length<sizeLine∧Q .non (upd H l (.lst (xs++[y])))
theorem zH3:MtM X "list.append" xf7:=by
 intro pins s σ H x vs v us Q I rx rv h
 obtain ⟨l,xs,y,rfl,rfl,hH,hz,q⟩:=h
 cases rx
 obtain ⟨u,rfl,ru⟩:=rv.one
 obtain ⟨z,its,n,r,hl,e⟩:=I.lstM hH
 refine call_meets F.slot_list_append ⟨_,e,rfl⟩ F.entry_list_append (F.args_list_append_2 _ _) (PySem.list_append l its.toArray n u (by rw [List.size_toArray];lia)) ⟨e,?_⟩
 refine ⟨.non,_,I.lset (its':=its++[u]) hH e (by simp) (r.append (.cons ru .nil)) ?_,rfl,q⟩
 rw [List.length_append,List.length_singleton]
 lia
end
section
variable {prog:Program} {w:World} {A:Around} {E:Value→Shared→Prop} {s:Shared}
set_option maxRecDepth 100000 in
end
section
variable {X:Cx}
end
end L2
namespace Att
open PySem PySem.W PySem.Calls PyProof.Rows
theorem ints_of_wellAll {P:Params} {h:Heap}:∀ (ns:List Int) (vs:List Value),WellAll P h vs (ns.map WData.int)→IntsAre vs ns:=by
 intro ns
 induction ns with
 | nil =>
  intro vs w
  rw [List.map_nil] at w
  cases w
  exact .nil
 | cons n ns ih =>
  intro vs w
  rw [List.map_cons] at w
  cases w with
  | cons a b =>
   cases a
   exact .cons _ _ (ih _ b)
theorem script_of {l:OpenLaw} {n:Nat} (hn:l.most=some n) {P:Params} {h:Heap} {args:List WData} {vals:List Value}
  (hpre:l.row.toRowW.claim.pre args=true) (hwl:WellAll P h vals args) :
  ∃ a vs ns,vals=[Value.ref a]∧args=[WData.list (ns.map WData.int)]∧h.get? a=some { cls:=.type "list", data:=.seq vs.toArray }∧IntsAre vs ns∧ns.length≤n:=by
 have hsh:WShape.hasAll [] args [.list .int]=true:=(pre_splitW hpre).1
 have hc:l.pre.holds [] { args:=args }=true:=(pre_splitW hpre).2
 obtain ⟨d,r,rfl,h1,h2⟩:=hasAllW_cons hsh
 obtain rfl:=hasAllW_nil h2
 obtain ⟨xs,rfl,h3⟩:=hasW_list h1
 obtain ⟨ns,rfl⟩:=items_int h3
 have hlen:ns.length≤n:=by
  unfold OpenLaw.pre at hc
  have h4:(WTm.not (.lt (.lit (.int (n:Int))) (.len (.arg 0)))).holds [] { args:=[.list (ns.map .int)] }=true:=by
   have h4:=(holds_andW hc).1
   rw [hn] at h4
   exact h4
  have h5:=condW_of h4 (w_not (w_lt w_lit (w_len_list (w_arg rfl))))
  rw [List.length_map] at h5
  refine Nat.le_of_not_lt fun q=>?_
  have q':(n:Int)<((ns.length:Nat):Int):=by lia
  first
   | (rw [decide_eq_true q'] at h5;exact absurd h5 (by decide))
   | (simp at h5;lia)
 cases hwl with
 | cons w1 w2 =>
  cases w2
  cases w1 with
  | list ho hall=>exact ⟨_,_,ns,rfl,rfl,ho,ints_of_wellAll ns _ hall,hlen⟩
theorem post_true (l:OpenLaw) (args:List WData):l.row.toRowW.claim.post args (.bool true) args=true :=
 postW_of (r:=l.row.toRowW) (X:=(true==true))
  (show WShape.has [] (.bool true) .bool=true by first | rfl | decide | simp [WShape.has,WShape.arms,WShape.armsAll])
  (show (WTm.eq .res (.lit (.bool true))).value [] { args:=args,res:=some (.bool true),after:=args }=some (.bool (true==true)) from w_eq_bool (w_res rfl) w_lit) rfl
theorem attach_call {l:OpenLaw} {n:Nat} {q:Program} {loose:List Str} {XP:(Str→Option Value)→Heap→Prop} {YP:World→Heap→Prop} {d:DefRec}
  (hn:l.most=some n) (hdf:d.params.defaults=[])
  (call:∀ (w:World) (s₀ s₁:Shared) (mg mb:Str→Option Value) (fa:Addr) (o:Obj) (pm cd doc:Value) (a:Addr) (vs:List Value) (ns:List Int),
   Ground q loose [] XP w s₀ mg mb s₁.heap→YP w s₁.heap →
   s₁.heap.get? fa=some o→o.data=.func (docDef d.name d.params d.body d.scope pm cd doc)→s₁.heap.CodeRec cd d.name→mg d.name=some (.ref fa) →
   s₁.heap.get? a=some { cls:=.type "list", data:=.seq vs.toArray }→IntsAre vs ns→ns.length≤n→s₁.gens=#[] →
   codeAny (model l.prog w) callerA (.call (.ref fa) ⟨[.ref a],[]⟩) (fun r s'=>r=.ok (.ret (.bool true))∧OldK s₁.heap s'.heap∧s'.os=s₁.os∧AllBare s'.gens) s₁) :
  WalkO q loose XP YP l.row.toRowW d [] (fun f vs=>PySem.call f vs):=by
 intro w s₀ s₁ mg mb G Y fa o pm cd doc dV kV ho hd hcd hD hmg hg args vals as hpre hlay hrd hwl hlo
 obtain rfl:dV=.none:=Dflts.none hD hdf
 obtain rfl:kV=.none:=Dflts.noKw hD
 obtain ⟨a,vs,ns,rfl,rfl,hobj,hints,hlen⟩:=script_of hn hpre hwl
 refine enter_call (codeAny_mono (call w s₀ s₁ mg mb fa o pm cd doc a vs ns G Y ho (fd_plain hd) hcd hmg hobj hints hlen hg) fun r s' hq=>?_)
 obtain ⟨rfl,h2,h3,h4⟩:=hq
 exact ⟨.inl ⟨.bool true,.bool true,[],rfl,fun _=>rfl,.bool true,post_true l _,fun _=>⟨List.Pairwise.nil,fun _ hm=>(nomatch hm)⟩⟩,h2,h3,h4⟩
section
variable {prog:Program} {w:World} {A:Around} {E:Value→Shared→Prop} {s:Shared} {K:Frag}
end
end Att
namespace L2
open PySem PySem.Spec PyProof.Rows
theorem zV1:∀ {vs:List Value} {ns:List Int},IntsAre vs ns→zh0 (ns.map V.int) vs
 | _,_,.nil=>.nil
 | _,_,.cons n t h=>.cons ⟨t,rfl⟩ (zV1 h)
def xc2 (H:Hp):Prop:=∀ b,H b=none∨∃ o xs,H b=some (.frz o (.lst xs))
theorem yw6 {P:Program} {w:World} {K:Frag} {mg mb:Str→Option Value} {CX:CXT} {k:Nat} {fa a:Addr} {fd:FuncData} {x:Str} {sp:Sp} {s₁:Shared} {vs:List Value} {ns:List Int}
  (KX:K.In s₁.heap) (hns:s₁.heap.Ns mainGlobals mg) (hb:s₁.heap.Ns builtinsNs mb) (hbb:∀ x:Str,x ≠ "__name__" → mb x=bootBuiltins x) (hlim:s₁.heap.NoLimit) (hg:s₁.gens=#[])
  (ha:s₁.heap.get? a=some { cls:=.type "list", data:=.seq vs.toArray }) (hi:IntsAre vs ns) (hl:ns.length≤sizeLine) (hr:zn4 k callerA)
  (F:∀ base:Heap,K.In base→base.Ns mainGlobals mg→zp8 P w K mg base CX k fa fd [x] sp) (hbind:∀ (s:Shared) (u:Value),BindsTo s fd ⟨[u],[]⟩ [(x,u)])
  (hsp:∀ H:Hp,xc2 H→SqL K H a (ns.map V.int)→sp [.ref a] H (fun v _=>v=.bl true) fun _ _ _=>False)
  (hCX:∀ H e s',CX [] H s₁ (fun _ _ _=>False) e s'→False) :
  codeAny (model P w) callerA (.call (.ref fa) ⟨[.ref a],[]⟩) (fun r s'=>r=.ok (.ret (.bool true))∧OldK s₁.heap s'.heap∧s'.os=s₁.os∧AllBare s'.gens) s₁:=by
 have rv:=zV1 hi
 have lenV:=hi.length
 -- from an abstract heap in which nothing but the script may be tracked
 have core:∀ H:Hp,xc2 H→SqL K H a (ns.map V.int)→HOk P w H s₁.heap→(∀ b,H b≠none→b=a)→(H a≠none→K.lookup a=none) →
   codeAny (model P w) callerA (.call (.ref fa) ⟨[.ref a],[]⟩) (fun r s'=>r=.ok (.ret (.bool true))∧OldK s₁.heap s'.heap∧s'.os=s₁.os∧AllBare s'.gens) s₁:=by
  intro H hO hS hok hA hK
  have base_of:∀ {b:Addr} {o:Obj},s₁.heap.get? b=some o→H b=none→(yy3 s₁.heap H).get? b=some o:=fun e n=>yu0 e n
  have noA:∀ {b:Addr} {o:Obj} {es:Array DictEntry} {ep:Nat},s₁.heap.get? b=some o→o.data=.dict es ep→H b=none:=fun {b o es ep} e d=>by
   cases q:H b with
   | none=>rfl
   | some u =>
    have e':b=a:=hA b (by rw [q];simp)
    subst e'
    rw [ha] at e;cases e
    have d':Data.seq vs.toArray _=Data.dict es ep:=d
    cases d'
  have nsK:∀ {b:Addr} {m:Str→Option Value},s₁.heap.Ns b m→(yy3 s₁.heap H).Ns b m:=fun {b m} ⟨o,es,ep,e,d,r⟩=>⟨o,es,ep,base_of e (noA e d),d,r⟩
  have hKb:K.In (yy3 s₁.heap H):=fun b o e=>base_of (KX b o e) (by
   cases q:H b with
   | none=>rfl
   | some u =>
    have e':b=a:=hA b (by rw [q];simp)
    subst e'
    rw [hK (by rw [q];simp)] at e;cases e)
  have hM:Mod K mg (yy3 s₁.heap H):=⟨hKb,nsK hns,⟨mb,nsK hb,hbb⟩,let ⟨mc,h1,h2⟩:=hlim;⟨mc,nsK h1,h2⟩⟩
  have e0:yZ1 P w K mg (yy3 s₁.heap H) callerA [] s₁ H:=⟨rfl,hM,fun b o e=>yI9 e,Nat.le_of_eq (yq8 _ _),trivial,fun b hb=>absurd (show b∈([]:List Addr) from hb) (by simp),hok,.of_eq hg⟩
  refine codeAny_mono ((F _ hKb (nsK hns)).run callerA [] s₁ H ⟨[.ref a],[]⟩ [.ref a] [.ref a] _ _ hr e0 (hbind s₁ (.ref a)) (.cons rfl .nil) (hsp H hO hS)) fun r s' h=>?_
  cases r with
  | error e=>exact (hCX H e s' h).elim
  | ok fl =>
   cases fl with
   | next=>exact False.elim h
   | brk=>exact False.elim h
   | cont=>exact False.elim h
   | ret u =>
    obtain ⟨v,H',os,bare,un,hok',r',q⟩:=h
    have q':v=.bl true:=q
    subst q'
    obtain rfl:u=Value.bool true:=r'
    refine ⟨rfl,OldK.of_keep fun b o e=>?_,os,bare⟩
    cases q:H b with
    | none=>exact un.keep b o e q (by intro z;exact absurd (show b∈([]:List Addr) from z) (by simp)) (by simp)
    | some u =>
     rcases hO b with z | ⟨ob,xs,z⟩
     ·rw [q] at z;cases z
     ·have z2:=un.frzs b ob _ z
      obtain ⟨e1,_⟩:=hok b _ z
      obtain ⟨e2,_⟩:=hok' b _ z2
      rw [e] at e1;cases e1
      exact e2
 cases hk:K.lookup a with
 | some o =>
  -- the script is one of the module's own objects
  have e:=KX a o hk
  rw [ha] at e
  cases e
  refine core (fun _=>none) (fun _=>.inl rfl) (.inr ⟨_,vs.toArray,_,hk,rfl,rfl,rfl,by rw [List.size_toArray,lenV];exact hl,by simpa using rv⟩) (fun b u z=>by have z':(none:Option HO)=some u:=z;cases z') (fun b z=>absurd rfl z) fun z=>absurd rfl z
 | none =>
  refine core (fun b=>if b=a then some (.frz { cls:=.type "list", data:=.seq vs.toArray } (.lst (ns.map V.int))) else none) (fun b=>?_) (.inl (.inr ⟨{ cls:=.type "list", data:=.seq vs.toArray },if_pos rfl⟩)) (fun b u z=>?_) (fun b z=>?_) fun _=>hk
  ·by_cases hb:b=a
   ·exact .inr ⟨_,_,if_pos hb⟩
   ·exact .inl (if_neg hb)
  ·by_cases hb:b=a
   ·have z':=(if_pos hb).symm.trans z
    cases z'
    subst hb
    exact ⟨ha,by rw [List.length_map];exact hl,vs,_,rv,ha⟩
   ·have z':=(if_neg hb).symm.trans z
    cases z'
  ·by_cases hb:b=a
   ·exact hb
   ·exact absurd (if_neg hb) z
theorem xc4 {l:PySem.W.OpenLaw} {n k:Nat} {q:Program} {loose:List Str} {XP:(Str→Option Value)→Heap→Prop} {YP:World→Heap→Prop} {d:DefRec} {K:Params→Frag} {CX:World→CXT} {sp:World→Sp} {x:Str}
  (hn:l.most=some n) (hn2:n≤sizeLine) (hdf:d.params.defaults=[]) (hr:zn4 k callerA)
  (hY:∀ (w:World) (h:Heap),YP w h→(K w.params).In h)
  (F:∀ (w:World) (mg:Str→Option Value) (fa:Addr) (h:Heap),(K w.params).In h→h.Ns mainGlobals mg→mg d.name=some (.ref fa) →
   ∃ fd:FuncData,(∀ (s:Shared) (u:Value),BindsTo s fd ⟨[u],[]⟩ [(x,u)]) ∧
    ∀ base:Heap,(K w.params).In base→base.Ns mainGlobals mg→zp8 l.prog w (K w.params) mg base (CX w) k fa fd [x] (sp w))
  (hsp:∀ (w:World) (H:Hp) (a:Addr) (ns:List Int),ns.length≤n→xc2 H→SqL (K w.params) H a (ns.map V.int)→sp w [.ref a] H (fun v _=>v=.bl true) fun _ _ _=>False)
  (hCX:∀ (w:World) (H:Hp) (s:Shared) (e:Value) (s':Shared),CX w [] H s (fun _ _ _=>False) e s'→False) :
  PySem.W.WalkO q loose XP YP l.row.toRowW d [] (fun f vs=>PySem.call f vs):=by
 refine Att.attach_call hn hdf fun w s₀ s₁ mg mb fa o pm cd doc a vs ns G Y ho hd hcd hmg hobj hints hlen hg=>?_
 have KX:=hY w _ Y
 obtain ⟨fd,hb,hF⟩:=F w mg fa _ KX G.T.g hmg
 exact yw6 KX G.T.g G.T.b G.T.builtins G.T.nolimit hg hobj hints (Nat.le_trans hlen hn2) hr hF hb (fun H hO hS=>hsp w H a ns hlen hO hS) fun H e s'=>hCX w H s₁ e s'
noncomputable def zb2 (s:Stmt):Arguments:=match s with
 | .FunctionDef _ a _ _ _ _ _ _ _ _=>a
 | _=>{ posonlyargs:=[],args:=[],vararg:=none,kwonlyargs:=[],kw_defaults:=[],kwarg:=none,defaults:=[] }
noncomputable def za8 (s:Stmt):List Stmt:=match s with
 | .FunctionDef _ _ b _ _ _ _ _ _ _=>b
 | _=>[]
noncomputable def za2 (s:Stmt):Scope:=match s with
 | .FunctionDef _ _ _ _ _ _ sc _ _ _=>sc
 | _=>{ kind:=.function,names:=[],isGenerator:=false,isCoroutine:=false }
noncomputable abbrev CX0:CXT:=fun _ _ _ _ _ _=>False
noncomputable abbrev E0:XK:=fun _ _ _=>False
theorem yR3 {X:Cx}:yd3 CX0 X E0:=fun _ _ _ _ _ _ _ h=>h.elim
structure Fun (K:Frag) (x qual:Str) (st:Stmt) (f:Addr) (fd:FuncData):Prop where
 ex:∃ (oc:Value) (od:Option Addr) (kV doc pm:Value) (an:Option Addr) (cdv ct:Value) (osl:Array (Option Value)),
  fd=fnOf x qual (zb2 st) (za8 st) (za2 st) .none kV doc pm an cdv ct∧K.lookup f=some ⟨oc,od,.func fd,osl⟩∧codeIn K cdv qual=true
 kp:keepIn K (.ref f)=true
section
variable {P:Program} {w:World} {K:Frag} {mg:Str→Option Value} {base:Heap}
theorem Fun.ok {x qual:Str} {st:Stmt} {f:Addr} {fd:FuncData} {N ps:List Str} {k:Nat} {sp:Sp} (F:Fun K x qual st f fd) (S:zc8 N ps (za2 st)) (len:∀ vs H Q E,sp vs H Q E→vs.length=ps.length)
  (hbody:∀ (cdv:Value) (A:Around) (outer:List Env) (s:Shared) (H:Hp) (vs:List V) (Q:VK) (E:XK),zn4 k (A.deeper (envOfC qual (za2 st) s.heap.objs.size f cdv))→sp vs H Q E →
   ∃ t,PSs (zt6 CX0 P w K mg base N qual (za2 st) f cdv A outer s H E).nox (za8 st) t∧t { nx:=fun _ H'=>Q .non H',rt:=Q } (start N vs) H):zp8 P w K mg base CX0 (k+1) f fd ps sp:=by
 obtain ⟨oc,od,kV,doc,pm,an,cdv,ct,osl,rfl,lk,hcd⟩:=F.ex
 refine xf2 lk hcd S len fun A outer s H vs Q E hr hsp=>?_
 obtain ⟨t,h,q⟩:=hbody cdv A outer s H vs Q E hr hsp
 exact ⟨t,h.nox,q⟩
theorem Fun.binds {x qual:Str} {st:Stmt} {f:Addr} {fd:FuncData} {ps:List Str} (F:Fun K x qual st f fd)
  (h:∀ (kV doc pm:Value) (an:Option Addr) (cdv ct:Value) (us:List Value),us.length=ps.length→bindArgs (fnOf x qual (zb2 st) (za8 st) (za2 st) .none kV doc pm an cdv ct) ⟨us,[]⟩=pure (ps.zip us)):Binds K fd ps []:=by
 obtain ⟨oc,od,kV,doc,pm,an,cdv,ct,osl,rfl,lk,hcd⟩:=F.ex
 exact .all (h kV doc pm an cdv ct)
theorem zh4 {x qual:Str} {st:Stmt} {f:Addr} {oc:Value} {od an:Option Addr} {osl:Array (Option Value)} {kV doc pm cdv ct:Value} (l:K.lookup f=some ⟨oc,od,.func (fnOf x qual (zb2 st) (za8 st) (za2 st) .none kV doc pm an cdv ct),osl⟩)
  (c:codeIn K cdv qual=true) (k:keepIn K (.ref f)=true):Fun K x qual st f (fnOf x qual (zb2 st) (za8 st) (za2 st) .none kV doc pm an cdv ct):=⟨⟨oc,od,kV,doc,pm,an,cdv,ct,osl,rfl,l,c⟩,k⟩
end
section
variable {X:Cx}
theorem pv (i:Nat) {x:Str} {pos:Pos} (hN:X.N[i]?=some x) (hv:Vis X.env.scope x) (hd:(x==("__debug__" : Str))=false)
  (hcd:(x==("__classdict__" : Str))=false):PE X (.Name x pos) (tVar i):=yB7 hN hv hd hcd
end
def zl3 (H H':Hp):Prop:=∀ b o,H b=some o→H' b=some o
theorem zl3.refl (H:Hp):zl3 H H:=fun _ _ h=>h
theorem zl3.seq {K:Frag} {H H':Hp} {a:Addr} {xs:List V} (e:zl3 H H') (h:SqL K H a xs):SqL K H' a xs:=by
 rcases h with (h | ⟨o,h⟩) | h
 ·exact .inl (.inl (e _ _ h))
 ·exact .inl (.inr ⟨o,e _ _ h⟩)
 ·exact .inr h
end L2
namespace HT
open PySem
def Rise (xs:Array Nat):Prop:=xs.toList.Pairwise (· < ·)
theorem Rise.at {xs:Array Nat} (h:Rise xs) {i k:Nat} (hik:i<k) (hk:k<xs.size):xs[i]'(by omega)<xs[k]:=by
 have:=List.pairwise_iff_getElem.mp h i k (by simp;omega) (by simpa using hk) hik
 simpa using this
structure Low (xs:Array Nat) (j r:Nat):Prop where
 le:r≤xs.size
 lo:∀ i (h:i<xs.size),i<r→xs[i]<j
 hi:∀ i (h:i<xs.size),r≤i→j≤xs[i]
theorem below_go {xs:Array Nat} {j:Nat} (hr:Rise xs):∀ (f lo hi:Nat),hi - lo≤f→lo≤hi→hi≤xs.size→(∀ i (h:i<xs.size),i<lo→xs[i]<j)→(∀ i (h:i<xs.size),hi≤i→j≤xs[i])→Low xs j (SetTable.below.go xs j f lo hi)
 | 0,lo,hi,hf,h1,h2,h3,h4=>by
  have:lo=hi:=by omega
  subst this
  exact ⟨h2,h3,h4⟩
 | f+1,lo,hi,hf,h1,h2,h3,h4=>by
  rw [SetTable.below.go]
  by_cases c:lo<hi
  ·rw [if_pos c]
   have hm:(lo+hi) / 2<xs.size:=by omega
   have e:xs.getD ((lo+hi) / 2) j=xs[(lo+hi) / 2]:=by simp [Array.getD,hm]
   dsimp only
   rw [e]
   by_cases c2:xs[(lo+hi) / 2]<j
   ·rw [if_pos c2]
    refine below_go hr f _ _ (by omega) (by omega) h2 (fun i h hq=>?_) h4
    by_cases e2:i=(lo+hi) / 2
    ·subst e2;exact c2
    ·exact Nat.lt_trans (hr.at (show i<(lo+hi) / 2 by omega) hm) c2
   ·rw [if_neg c2]
    refine below_go hr f _ _ (by omega) (by omega) (by omega) h3 (fun i h hq=>?_)
    by_cases e2:i=(lo+hi) / 2
    ·subst e2;omega
    ·have:=hr.at (show (lo+hi) / 2<i by omega) h
     omega
  ·rw [if_neg c]
   have:lo=hi:=by omega
   subst this
   exact ⟨h2,h3,h4⟩
theorem below_low {xs:Array Nat} {j:Nat} (hr:Rise xs):Low xs j (SetTable.below xs j) :=
 below_go hr _ _ _ (by omega) (by omega) (Nat.le_refl _) (fun i _ h=>absurd h (Nat.not_lt_zero _)) (fun i h h2=>absurd h (by omega))
theorem Low.eq {xs:Array Nat} {j r r':Nat} (a:Low xs j r) (b:Low xs j r'):r=r':=by
 rcases Nat.lt_trichotomy r r' with h | h | h
 ·have h1:=b.lo r (by have:=b.le;omega) h
  have h2:=a.hi r (by have:=b.le;omega) (Nat.le_refl _)
  omega
 ·exact h
 ·have h1:=a.lo r' (by have:=a.le;omega) h
  have h2:=b.hi r' (by have:=a.le;omega) (Nat.le_refl _)
  omega
theorem rise_insert {xs:Array Nat} {j:Nat} (hr:Rise xs) (hj:¬ xs[SetTable.below xs j]?=some j):Rise (SetTable.insertAt xs (SetTable.below xs j) j):=by
 have L:=below_low (j:=j) hr
 generalize SetTable.below xs j=p at *
 unfold Rise SetTable.insertAt
 have e:((xs.extract 0 p).push j++xs.extract p xs.size).toList=xs.toList.take p++j::xs.toList.drop p:=by
  simp [Array.toList_extract,List.extract_eq_drop_take]
  exact List.take_of_length_le (by simp)
 rw [e,List.pairwise_append]
 have hp:∀ x∈xs.toList.take p,x<j:=by
  intro x hx
  obtain ⟨i,hi,rfl⟩:=List.mem_iff_getElem.mp hx
  simp at hi
  have:=L.lo i (by omega) (by omega)
  simpa using this
 have hq:∀ x∈xs.toList.drop p,j<x:=by
  intro x hx
  obtain ⟨i,hi,rfl⟩:=List.mem_iff_getElem.mp hx
  simp at hi
  have h1:=L.hi (p+i) (by omega) (by omega)
  have h2:xs[p+i]≠j:=by
   intro e2
   by_cases c:i=0
   ·subst c
    exact hj (by rw [← e2];exact Array.getElem?_eq_getElem _)
   ·have h3:=hr.at (show p<p+i by omega) (by omega)
    have h4:=L.hi p (by omega) (Nat.le_refl _)
    omega
  simp
  omega
 refine ⟨hr.sublist (List.take_sublist _ _),?_,?_⟩
 ·rw [List.pairwise_cons]
  exact ⟨hq,hr.sublist (List.drop_sublist _ _)⟩
 ·intro a ha b hb
  rcases List.mem_cons.mp hb with rfl | hb
  ·exact hp a ha
  ·exact Nat.lt_trans (hp a ha) (hq b hb)
theorem rise_range (n:Nat):Rise (Array.range n):=by
 unfold Rise
 rw [Array.toList_range]
 exact List.pairwise_lt_range
theorem rise_live {α:Type} (f:Nat→Option α) (n:Nat):Rise (((List.range n).filterMap fun j=>(f j).map (j,·)).map (·.1)).toArray:=by
 unfold Rise
 rw [List.toList_toArray]
 have:((List.range n).filterMap fun j=>(f j).map (j,·)).map (·.1)=(List.range n).filter fun j=>(f j).isSome:=by
  generalize List.range n=l
  induction l with
  | nil=>rfl
  | cons x r ih =>
   cases h:f x with
   | none=>simp [h,ih]
   | some y=>simp [h,ih]
 rw [this]
 exact List.pairwise_lt_range.sublist List.filter_sublist
end HT
namespace HT
open PySem
theorem free_not {t:SetTable} {f:Nat→Int} {h:Int}:∀ (n:Nat) (p:SetTable.Probe) {j:Nat} {d:Option Nat},(∀ x,p.dummy=some x→¬ t.place[SetTable.below t.place x]?=some x)→SetTable.probe.go t f h n p=some (.empty j d)→¬ t.place[SetTable.below t.place (d.getD j)]?=some (d.getD j)
 | 0,p,j,d,hp,e=>by rw [SetTable.probe.go] at e;cases e
 | n+1,p,j,d,hp,e=>by
  rw [SetTable.probe.go] at e
  have adv:∀ q:SetTable.Probe,(t.advance q).dummy=q.dummy:=fun q=>by
   unfold SetTable.advance
   split <;> rfl
  have slot:∀ (x:Nat),(t.slot x=.empty∨t.slot x=.dummy)→¬ t.place[SetTable.below t.place x]?=some x:=by
   intro x hx hc
   have e:t.slot x=.live (SetTable.below t.place x):=by
    unfold SetTable.slot
    simp [hc]
   rw [e] at hx
   rcases hx with hx | hx <;> cases hx
  cases hs:t.slot p.j with
  | empty =>
   rw [hs] at e
   dsimp only at e
   cases e
   cases hd:p.dummy with
   | none=>exact slot _ (.inl hs)
   | some x=>exact hp x hd
  | dummy =>
   rw [hs] at e
   dsimp only at e
   refine free_not n _ ?_ e
   intro x hx
   rw [adv] at hx
   cases hx
   exact slot _ (.inr hs)
  | live i =>
   rw [hs] at e
   dsimp only at e
   split at e
   ·cases e
   ·refine free_not n _ ?_ e
    intro x hx
    rw [adv] at hx
    exact hp x hx
theorem freeSlot_not {t:SetTable} {h:Int} {j:Nat} {b:Bool} (e:t.freeSlot h=some (j,b)):¬ t.place[SetTable.below t.place j]?=some j:=by
 unfold SetTable.freeSlot at e
 split at e
 ·rename_i j' d hq
  cases e
  exact free_not _ _ (by intro x hx;cases hx) hq
 ·cases e
theorem orStandIn_rise {t:SetTable} (n:Nat) (hr:Rise t.place):Rise (t.orStandIn n).place∧(t.orStandIn n).led=t.led:=by
 unfold SetTable.orStandIn
 split
 ·exact ⟨hr,rfl⟩
 ·exact ⟨rise_range _,rfl⟩
theorem layNew_rise {t:SetTable} (es:Array (Int×Value)) (h:Int) (x:Value) (hr:Rise t.place):Rise (layNew t es h x).2.1.place∧(layNew t es h x).2.1.led=t.led:=by
 unfold layNew
 split
 ·rename_i j b hq
  exact orStandIn_rise (t:=(t.put j).1) _ (rise_insert hr (freeSlot_not hq))
 ·exact ⟨rise_range _,rfl⟩
theorem relayAll_rise {t:SetTable} (es:Array (Int×Value)) (n:Nat):Rise (relayAll t es n).2.1.place∧(relayAll t es n).2.1.led=t.led:=by
 unfold relayAll
 split
 ·rename_i t' ord hq
  dsimp only
  split
  ·unfold SetTable.relaid SetTable.laid at hq
   obtain ⟨ow,_,e⟩:=Option.bind_eq_some_iff.mp hq
   cases e
   exact ⟨rise_live _ _,rfl⟩
  ·exact ⟨rise_range _,rfl⟩
 ·exact ⟨rise_range _,rfl⟩
end HT
namespace HT
open PySem
noncomputable def byText (w:World):Bool:=w.params.followText "set-order"
section
variable {prog:Program} {w:World} {K:Type} [DecidableEq K] {knd:KeyKind prog w K} {A:Around} {E:Value→Shared→Prop} {s:Shared}
structure STab (knd:KeyKind prog w K) (es:Array (Int×Value)) (t:SetTable) (ks:List K):Prop where
 el:ElemsOf knd es.toList
 mem:∀ k,k∈ks↔∃ e∈es.toList,knd.is k e.2=true
 len:es.size=ks.length
 few:es.size<scanBound
 fits:t.fits es.size=true
 rise:Rise t.place
 led:t.led = !byText w
def SetI (knd:KeyKind prog w K) (h:Heap) (a:Addr) (ks:List K):Prop :=
 ∃ o es ep t,h.get? a=some o∧o.ExactSet∧o.data=.set es ep t∧STab knd es t ks
theorem STab.fresh:STab knd #[] (.fresh 0 0 (!byText w)) [] :=
 ⟨fun e he=>by simp at he,fun k=>by simp,rfl,by decide,rfl,List.Pairwise.nil,rfl⟩
theorem STab.relay {es t ks} (T:STab knd es t ks) (n:Nat):STab knd (relayAll t es n).1 (relayAll t es n).2.1 ks:=by
 have p:=relayAll_perm t es n
 have hs:(relayAll t es n).1.size=es.size:=by simpa using p.length_eq
 refine ⟨T.el.perm p,fun k=>(T.mem k).trans ?_,by rw [hs,T.len],by rw [hs];exact T.few,relayAll_fits t es n,(relayAll_rise es n).1,(relayAll_rise es n).2.trans T.led⟩
 exact ⟨fun ⟨e,h1,h2⟩=>⟨e,p.mem_iff.mpr h1,h2⟩,fun ⟨e,h1,h2⟩=>⟨e,p.mem_iff.mp h1,h2⟩⟩
theorem STab.lay {es t ks} (T:STab knd es t ks) {k:K} {x:Value} (hx:knd.is k x=true) (hsc:x.scannable=true) (hk:k∉ks) (hroom:ks.length+1<scanBound) :
  STab knd (layNew t es (knd.hash k) x).1 (layNew t es (knd.hash k) x).2.1 (ks++[k]):=by
 have p:=layNew_perm t es (knd.hash k) x
 rw [Array.toList_push] at p
 have hs:(layNew t es (knd.hash k) x).1.size=es.size+1:=by simpa using p.length_eq
 have r:=layNew_rise es (knd.hash k) x T.rise
 refine ⟨(T.el.push hx hsc).perm p,fun j=>?_,by rw [hs,T.len];simp,by rw [hs,T.len];exact hroom,layNew_fits t es _ x,r.1,r.2.trans T.led⟩
 rw [List.mem_append,T.mem j,List.mem_singleton]
 constructor
 ·rintro (⟨e,h1,h2⟩ | rfl)
  ·exact ⟨e,p.mem_iff.mpr (List.mem_append_left _ h1),h2⟩
  ·exact ⟨_,p.mem_iff.mpr (List.mem_append_right _ (List.mem_singleton.mpr rfl)),hx⟩
 ·rintro ⟨e,h1,h2⟩
  rcases List.mem_append.mp (p.mem_iff.mp h1) with h | h
  ·exact .inl ⟨e,h,h2⟩
  ·rw [List.mem_singleton] at h
   subst h
   exact .inr (knd.inj x j k h2 hx)
theorem STab.off {es t ks} (T:STab knd es t ks):STab knd es { t with plain:=false } ks :=
 ⟨T.el,T.mem,T.len,T.few,by have:=T.fits;cases t;exact this,T.rise,T.led⟩
noncomputable def adds (ks:List K) (k:K):List K:=if k∈ks then ks else ks++[k]
theorem put_at {h:Heap} {a:Addr} {o:Obj} {es:Array (Int×Value)} {ep:Nat} {t:SetTable} (ho:h.get? a=some o) (hd:o.data=.set es ep t) (es':Array (Int×Value)) (t':SetTable) :
  (h.update a (Obj.putSet es' t')).get? a=some { o with data:=.set es' (ep+1) t' }:=by
 have g:=Heap.get?_update_self (Obj.putSet es' t') ho (by rw [putSet_of es' t' hd];rfl)
 rwa [putSet_of es' t' hd] at g
theorem add_tail {g:Bool→Sem Unit} (hg:∀ (b:Bool) (s₁:Shared) (Q':Unit→Shared→Prop),Q' () s₁→wpAny (model prog w) A (g b) Q' E s₁)
  {a:Addr} {o:Obj} {es:Array (Int×Value)} {ep:Nat} {t:SetTable} (ho:s.heap.get? a=some o) (hex:o.ExactSet) (hd:o.data=.set es ep t)
  {es':Array (Int×Value)} {t':SetTable} {ks:List K} (T:STab knd es' t' ks) {b:Bool} {R:Option Bool→Shared→Prop}
  (h:∀ h',Heap.SameBut a s.heap h'→SetI knd h' a ks→R (some true) { s with heap:=h' }) :
  wpAny (model prog w) A (do
    storeSet a es' t'
    if (!b&&t'.tooFull)=true then do
      g (relayAll t' es' (SetTable.grown es'.size)).2.2
      storeSet a (relayAll t' es' (SetTable.grown es'.size)).1 (relayAll t' es' (SetTable.grown es'.size)).2.1
      pure (some true)
     else pure (some true)) R E s:=by
 refine wpAny_bind (wpAny_storeSet_of ho hd ?_ (fits_of_scanBound T.few))
 have h1:=put_at ho hd es' t'
 have b1:=Heap.SameBut.update s.heap a (Obj.putSet es' t')
 split
 ·have T2:=T.relay (SetTable.grown es'.size)
  generalize relayAll t' es' (SetTable.grown es'.size)=Z at T2 ⊢
  refine wpAny_bind (hg _ _ _ ?_)
  refine wpAny_bind (wpAny_storeSet_of h1 rfl ?_ (fits_of_scanBound T2.few))
  exact wpAny_pure (h _ (b1.trans (Heap.SameBut.update _ a _)) ⟨_,_,_,_,put_at h1 rfl _ _,hex,rfl,T2⟩)
 ·exact wpAny_pure (h _ b1 ⟨_,_,_,_,h1,hex,rfl,T⟩)
theorem set_add {a:Addr} {ks:List K} {k:K} {x:Value} {Q:Bool→Shared→Prop} (hx:knd.is k x=true) (hsc:x.scannable=true) (hS:SetI knd s.heap a ks) (hroom:ks.length+1<scanBound)
  (h:∀ h' b,Heap.SameBut a s.heap h'→SetI knd h' a (adds ks k)→Q b { s with heap:=h' }) :
  wpAny (model prog w) A (setAddHashed a x (knd.hash k)) Q E s:=by
 obtain ⟨o,es,ep,t,ho,hex,hd,T⟩:=hS
 unfold setAddHashed setAddHashedIn
 refine wpAny_holding (wpAny_bind (wpAny_setState_of ho hd T.fits ?_))
 dsimp only
 rw [byScan_of hsc T.few T.el]
 simp only [↓reduceIte]
 unfold setAddByScan
 refine wpAny_bind (wpAny_bind (wpAny_rule (wpAny_bind (wpAny_setScan_of hx ho hd T.fits T.el ?_))))
 cases hr:List.findIdx? (fun e=>knd.is k e.2) es.toList with
 | some j =>
  dsimp only
  obtain ⟨hj,hp,_⟩:=List.findIdx?_eq_some_iff_getElem.mp hr
  have hk:k∈ks:=(T.mem k).mpr ⟨_,List.getElem_mem hj,hp⟩
  have q:=h s.heap false (Heap.SameBut.refl a s.heap) (by rw [adds,if_pos hk];exact ⟨o,es,ep,t,ho,hex,hd,T⟩)
  exact wpAny_pure (wpAny_pure (by cases s;exact q))
 | none =>
  dsimp only
  have hk:k∉ks:=fun hk=>by
   obtain ⟨e,he,hp⟩:=(T.mem k).mp hk
   have:=List.findIdx?_eq_none_iff.mp hr e he
   rw [hp] at this
   cases this
  have T1:=T.lay hx hsc hk hroom
  rw [adds,if_neg hk] at h
  have gw:∀ (b:Bool) (s₁:Shared) (Q':Unit→Shared→Prop),Q' () s₁→wpAny (model prog w) A (match b with | true=>rule "set.scan.the-table-gave-way" | false=>pure ()) Q' E s₁:=by
   intro b s₁ Q' q
   cases b
   ·exact wpAny_pure q
   ·exact wpAny_rule q
  generalize layNew t es (knd.hash k) x=L at T1 ⊢
  obtain ⟨es1,t1,wd,gave⟩:=L
  dsimp only at T1 ⊢
  refine wpAny_bind (gw _ _ _ ?_)
  split
  ·refine wpAny_bind ?_
   rw [hashByValue_scannable 8 hsc]
   refine wpAny_pure ?_
   refine add_tail (knd:=knd) (fun b s₁ Q' q=>by cases b <;> first | exact wpAny_pure q | exact wpAny_rule q) ho hex hd (ks:=ks++[k]) ?_ ?_
   ·split
    ·exact T1
    ·exact T1.off
   ·intro h' hb hS
    exact wpAny_pure (h h' _ hb hS)
  ·refine wpAny_bind (wpAny_pure ?_)
   simp only [↓reduceIte]
   refine add_tail (knd:=knd) (fun b s₁ Q' q=>by cases b <;> first | exact wpAny_pure q | exact wpAny_rule q) ho hex hd T1 ?_
   intro h' hb hS
   exact wpAny_pure (h h' _ hb hS)
end
end HT
namespace HT
open PySem PyProof.Rows
section
variable {K:Type} [DecidableEq K]
noncomputable def once (ns:List K):List K:=ns.foldl adds []
theorem once_snoc (ns:List K) (k:K):once (ns++[k])=adds (once ns) k:=by simp [once]
theorem once_len:∀ ns:List K,(once ns).length≤ns.length:=by
 have:∀ r:List K,(once r.reverse).length≤r.length:=by
  intro r
  induction r with
  | nil=>simp [once]
  | cons k r ih =>
   rw [List.reverse_cons,once_snoc,adds]
   split
   ·simp;omega
   ·simp;omega
 intro ns
 have:=this ns.reverse
 simpa using this
theorem once_take {ns:List K} {i:Nat} {k:K} (h:ns[i]?=some k):once (ns.take (i+1))=adds (once (ns.take i)) k:=by
 rw [List.take_succ,h,Option.toList_some,once_snoc]
end
section
variable {prog:Program} {w:World} {K:Type} [DecidableEq K] {knd:KeyKind prog w K}
theorem SetI.kept {h h':Heap} {a:Addr} {ks:List K} (S:SetI knd h a ks) (e:∀ o,h.get? a=some o→h'.get? a=some o):SetI knd h' a ks:=by
 obtain ⟨o,es,ep,t,ho,r⟩:=S
 exact ⟨o,es,ep,t,e o ho,r⟩
variable {A:Around} {R:Result→Shared→Prop} {I:Addr} {fp wr:List Addr} {G:Array GenState→Array GenState→Prop} {n:Nat} {P:Nat→Value→Prop} {St:Nat→Shared→Prop}
theorem update_loop (W:WalksS prog w A.in1 I fp wr G n P St) (a:Addr) (ha:a∉fp) {ns:List K} (hn:ns.length=n) (hval:∀ i v,P i v→∃ k,ns[i]?=some k∧knd.is k v=true∧v.scannable=true) (hb:n+1<scanBound) :
  ∀ (k i:Nat) (s:Shared),n - i=k→i≤n→St i s→SetI knd s.heap a (once (ns.take i)) →
   (∀ s',Moved (a::wr) G s s'→SetI knd s'.heap a (once ns)→R (.ok (.ret .none)) s') →
   codeAny (model prog w) A (.builtin "set.update.loop" ⟨[.ref a,.ref I],[]⟩) R s:=by
 have haw:a∉wr:=fun h=>ha (W.sub _ h)
 have sub:∀ b∈wr,b∈a::wr:=fun b hb=>List.mem_cons_of_mem _ hb
 intro k
 induction k with
 | zero =>
  intro i s hk hi hst hS hR
  obtain rfl:i=n:=by omega
  refine codeAny_builtin PyProof.Rows.F.entry_set_update_loop ?_
  rw [Around.under_plainId PyProof.Rows.F.plain_set_update_loop _]
  show wpAny _ A.in1 (pyNext (.ref I) >>= _) _ _ s
  refine wpAny_bind (W.done s _ _ hst fun s' hm=>?_)
  show wpAny _ A.in1 (ret Value.none) _ _ s'
  rw [← hn,List.take_length] at hS
  exact wpAny_pure (hR s' (hm.mono sub) (hS.kept fun o e=>hm.heap a o haw e))
 | succ k ih =>
  intro i s hk hi hst hS hR
  have hlt:i<n:=by omega
  refine codeAny_builtin PyProof.Rows.F.entry_set_update_loop ?_
  rw [Around.under_plainId PyProof.Rows.F.plain_set_update_loop _]
  show wpAny _ A.in1 (pyNext (.ref I) >>= _) _ _ s
  refine wpAny_bind (W.item i s _ _ hlt hst fun v s1 hP hst1 hm=>?_)
  obtain ⟨k0,hk0,hv1,hv2⟩:=hval i v hP
  have S1:=hS.kept fun o e=>hm.heap a o haw e
  show wpAny _ A.in1 (holding [v] (setAdd a v) >>= _) _ _ s1
  refine wpAny_bind (wpAny_holding ?_)
  unfold setAdd
  refine wpAny_holding (wpAny_bind (knd.pyHash (k:=k0) hv1 ?_))
  have hl:=once_len (ns.take i)
  refine set_add (s:={ s1 with toks:=s1.toks+1 }) hv1 hv2 S1 (by simp at hl;omega) fun h' b hsb S2=>?_
  rw [← once_take hk0] at S2
  refine wpAny_pure ⟨plainId_quiet PyProof.Rows.F.plain_set_update_loop _,ih (i+1) _ (by omega) hlt (W.frame _ s1 _ _ hst1 (Nat.le_succ _) fun b hb o e=>?_) S2 fun s2 hm2 S3=>?_⟩
  ·rw [hsb.2 b (fun h:b=a=>ha (h▸hb))];exact e
  ·refine hR s2 (Moved.trans W.gtrans ((hm.mono sub).then_heap (Nat.le_succ _) fun b o hb e=>?_) hm2) S3
   rw [hsb.2 b (fun h:b=a=>hb (h▸List.mem_cons_self))];exact e
end
section
variable {prog:Program} {w:World} {A:Around} {E:Value→Shared→Prop} {s:Shared}
noncomputable abbrev newS (w:World):Obj:={ cls:=.type "set", dict:=none,data:=.set #[] 0 (.fresh 0 0 (!byText w)) }
theorem set_new (a:Value) {Q:Value→Shared→Prop} (h:Q (.ref s.heap.objs.size) { s with heap:=s.heap.push (newS w) }) :
  codeAny (model prog w) A (.call (.builtin "set.__new__") ⟨[.type "set", a],[]⟩) (wants Q E) s:=by
 refine codeAny_of_tree ?_
 show wpAny _ A.in1 (do checkBuiltinCall "set.__new__" ⟨[.type "set", a],[]⟩;again (.builtin "set.__new__" ⟨[.type "set", a],[]⟩)) _ _ s
 refine wpAny_bind (wpAny_of_eq (PySem.F.newCall_set_1 a) (wpAny_pure ⟨plainId_quiet PySem.F.plain_set_new _,codeAny_builtin PySem.F.entry_set_new ?_⟩))
 rw [Around.under_plainId PySem.F.plain_set_new _]
 unfold Builtin.«set.__new__» Builtin.Frozenset.newClass
 have hsub:=PySem.sub_set_self
 obtain ⟨hp,g,d,tk,os⟩:=s
 dsimp only
 wp_walk
 refine wpAny_askSetting (wpAny_pure ?_)
 dsimp only
 simp only [newObj]
 exact wpAny_bind (wpAny_alloc (wpAny_pure (wpAny_pure h)))
end
end HT
namespace HT
open PySem PyProof.Rows
section
variable {prog:Program} {w:World} {K:Type} [DecidableEq K] {knd:KeyKind prog w K} {A:Around} {E:Value→Shared→Prop} {s:Shared}
theorem set_init {l:Addr} {vs:Array Value} {ns:List K} {Q:Value→Shared→Prop} (hh:A.handled=none) (hl:s.heap.IsList l vs) (hlen:ns.length=vs.size) (hi:∀ (i:Nat) (v:Value),vs[i]?=some v→∃ k,ns[i]?=some k∧knd.is k v=true∧v.scannable=true) (hb:vs.size+1<scanBound)
  (h:∀ (h':Heap) (tk:Nat),SetI knd h' s.heap.objs.size (once ns)→(∀ b o,b<s.heap.objs.size→s.heap.get? b=some o→h'.get? b=some o)→Q .none { s with heap:=h',toks:=tk }) :
  codeAny (model prog w) A (.call (.builtin "set.__init__") ⟨[.ref s.heap.objs.size,.ref l],[]⟩) (wants Q E) { s with heap:=s.heap.push (newS w) }:=by
 have hS:(s.heap.push (newS w)).get? s.heap.objs.size=some (newS w):=Heap.get?_push_size _ rfl
 have hT:Shared.TypeIs { s with heap:=s.heap.push (newS w) } (.ref s.heap.objs.size) "set" := ⟨_,hS,rfl⟩
 refine codeAny_call_builtin PySem.F.called_set.init.plain PySem.F.entry_set_init (PySem.check_set_init_1 hT ?_)
 obtain ⟨ol,hol,hcl,nl,hdl⟩:=hl
 obtain ⟨ocls,odict,odata,oslots⟩:=ol
 simp only at hcl hdl
 subst hcl hdl
 have hol':(s.heap.push (newS w)).get? l=some { cls:=.type "list", dict:=odict,data:=.seq vs nl,slots:=oslots }:=Heap.get?_push_of_some _ hol
 have q1:=PySem.F.sub_list_set
 have q2:=PySem.F.sub_list_frozenset
 have q3:(Value.type "list" == Value.type "dict")=false:=by decide
 have hl1:(s.heap.push (newS w)).IsList l vs:=⟨_,hol',rfl,nl,rfl⟩
 unfold Builtin.«set.__init__» noKeywords Builtin.Frozenset.updateFrom
 generalize hPI:pyIter=PI
 wp_walk
 subst hPI
 refine wpAny_pyIter_list hl1 (wpAny_bind (wpAny_runValue ?_))
 have hlS:l<s.heap.objs.size:=Heap.lt_size hol
 have z2:(s.heap.push (newS w)).objs.size=s.heap.objs.size+1:=Heap.size_push _ _
 have hne:l≠(s.heap.push (newS w)).objs.size:=Nat.ne_of_lt (by rw [z2];exact Nat.lt_succ_of_lt hlS)
 have hf:s.heap.objs.size∉[(s.heap.push (newS w)).objs.size,l]:=by
  simp only [List.mem_cons,List.not_mem_nil,or_false,not_or]
  exact ⟨Nat.ne_of_lt (by rw [z2];exact Nat.lt_succ_self _),Nat.ne_of_gt hlS⟩
 refine update_loop ((Walks.list (by simp [hh]) _ l hne vs).toS) s.heap.objs.size hf hlen hi hb (vs.size - 0) 0 _ (by omega) (Nat.zero_le _) ⟨⟨_,Heap.get?_push_size _ rfl,rfl,rfl⟩,(hl1.push _)⟩ ⟨_,_,_,_,Heap.get?_push_of_some _ hS,⟨rfl,rfl,rfl⟩,rfl,STab.fresh⟩ ?_
 intro s1 hm S1
 obtain ⟨h1,g1,d1,tk1,os1⟩:=s1
 have eg:g1=s.gens:=hm.gens
 have ed:d1=s.drawn:=hm.drawn
 have eo:os1=s.os:=hm.os
 subst eg ed eo
 show wpAny _ _ _ _ _ _
 refine wpAny_pure ?_
 show wpAny _ _ (ret Value.none) _ _ _
 refine wpAny_pure (h h1 tk1 S1 fun b o hb e=>?_)
 refine hm.heap b o ?_ (Heap.get?_push_of_some _ (Heap.get?_push_of_some _ e))
 simp only [List.mem_cons,List.not_mem_nil,or_false,not_or]
 exact ⟨Nat.ne_of_lt hb,Nat.ne_of_lt (by rw [z2];exact Nat.lt_succ_of_lt hb)⟩
theorem call_set {l:Addr} {vs:Array Value} {ns:List K} {Q:Value→Shared→Prop} (hh:A.handled=none) (hl:s.heap.IsList l vs) (hlen:ns.length=vs.size) (hi:∀ (i:Nat) (v:Value),vs[i]?=some v→∃ k,ns[i]?=some k∧knd.is k v=true∧v.scannable=true) (hb:vs.size+1<scanBound)
  (h:∀ (h':Heap) (tk:Nat),SetI knd h' s.heap.objs.size (once ns)→(∀ b o,b<s.heap.objs.size→s.heap.get? b=some o→h'.get? b=some o)→Q (.ref s.heap.objs.size) { s with heap:=h',toks:=tk }) :
  wpAny (model prog w) A (call (.type "set") [.ref l]) Q E s:=by
 obtain ⟨c,tl,hmro⟩:=PySem.F.called_set.mro
 have hmade:=PySem.F.called_set.made
 have hsub:=PySem.F.called_set.sub
 have h1:=PySem.F.called_set.notType
 have h2:=PySem.F.called_set.canCreate
 have hct:=PySem.F.typeCall_set_1 (.ref l)
 refine wpAny_call (codeAny_of_tree ?_)
 show wpAny _ _ (callAny (.type "set") _) _ _ _
 refine wpAny_pure ⟨Code.quiet_builtin _ (by decide +kernel),codeAny_builtin PySem.F.entry_type_call ?_⟩
 rw [Around.under_plain (weight_type_call_type "set" [.ref l] []) rfl]
 repeat (any_goals (first | assumption | wp_step))
 refine codeAny_mono (set_new (.ref l) (E:=E) (Q:=fun obj z=>obj=.ref s.heap.objs.size∧z={ s with heap:=s.heap.push (newS w) }) ⟨rfl,rfl⟩) fun r z hr=>?_
 cases r with
 | error e=>exact hr
 | ok fl =>
  cases fl with
  | ret obj =>
   obtain ⟨rfl,rfl⟩:=hr
   have hS:(s.heap.push (newS w)).get? s.heap.objs.size=some (newS w):=Heap.get?_push_size _ rfl
   have hT:Shared.TypeIs { s with heap:=s.heap.push (newS w) } (.ref s.heap.objs.size) "set" := ⟨_,hS,rfl⟩
   have hli:=PySem.F.called_set.init.lookup
   have hbi:=PySem.F.called_set.init.bind (.ref s.heap.objs.size)
   repeat (any_goals (first | assumption | wp_step))
   refine codeAny_mono (set_init (E:=E) (Q:=fun r z=>r=.none∧∃ h' tk,z={ s with heap:=h',toks:=tk }∧SetI knd h' s.heap.objs.size (once ns)∧(∀ b o,b<s.heap.objs.size→s.heap.get? b=some o→h'.get? b=some o)) ?_ hl hlen hi hb fun h' tk a1 a2=>⟨rfl,h',tk,rfl,a1,a2⟩) fun r2 z2 hr2=>?_
   ·simp [hh]
   ·cases r2 with
    | error e=>exact hr2
    | ok fl2 =>
     cases fl2 with
     | ret r =>
      obtain ⟨rfl,h',tk,rfl,a1,a2⟩:=hr2
      repeat (any_goals (first | assumption | wp_step))
      exact h _ _ a1 a2
     | _=>exact hr2.elim
  | _=>exact hr.elim
end
end HT
namespace HT
open PySem PyProof.Rows
theorem erase_perm {α:Type}:∀ {l:List α} {i:Nat} {x:α},l[i]?=some x→(x::l.eraseIdx i).Perm l
 | [],i,x,h=>by simp at h
 | y::r,0,x,h=>by
  simp at h;subst h
  exact List.Perm.refl _
 | y::r,i+1,x,h=>by
  have h:r[i]?=some x:=by simpa using h
  rw [List.eraseIdx_cons_succ]
  exact (List.Perm.swap y x _).trans ((erase_perm h).cons y)
theorem pick_go {α:Type} (nx:Nat→Nat):∀ (f k:Nat) (l:List α) (out:Array α),l.length≤f→(pickOrder.go nx f k l out).toList.Perm (out.toList++l)
 | 0,k,l,out,h=>by
  have:l=[]:=List.eq_nil_of_length_eq_zero (by omega)
  subst this
  rw [pickOrder.go,List.append_nil]
 | f+1,k,l,out,h=>by
  rw [pickOrder.go]
  cases l with
  | nil =>
   simp
  | cons y r =>
   have hlt:nx k % (y::r).length<(y::r).length:=Nat.mod_lt _ (by simp)
   rw [List.getElem?_eq_getElem hlt]
   dsimp only
   refine (pick_go nx f (k+1) _ _ (by rw [List.length_eraseIdx,if_pos hlt];simp at h ⊢;omega)).trans ?_
   rw [Array.toList_push,List.append_assoc]
   exact List.Perm.append_left _ (erase_perm (List.getElem?_eq_getElem hlt))
theorem pick_perm {α:Type} (nx:Nat→Nat) (xs:Array α):(pickOrder nx xs).toList.Perm xs.toList:=by
 have:=pick_go nx xs.size 0 xs.toList #[] (by simp)
 simpa [pickOrder] using this
section
variable {prog:Program} {w:World} {A:Around} {E:Value→Shared→Prop} {s:Shared}
theorem wp_pick {src:Source} {n:Nat} {Q:Nat→Shared→Prop} (h:n≠0) (q:∀ i d,i<n→Q i { s with drawn:=d }):wpAny (model prog w) A (choose src n) Q E s:=by
 intro Γ p hΓ
 unfold choose
 rw [Sem.wp_choose]
 exact ⟨h,by simpa using q _ _ (Nat.mod_lt _ (Nat.pos_of_ne_zero h))⟩
theorem wp_draws {α:Type}:∀ (n:Nat) (xs:List α) (s:Shared) {Q:List α→Shared→Prop},xs.length≤n→(∀ ys d,ys.Perm xs→Q ys { s with drawn:=d })→wpAny (model prog w) A (drawOrder n xs) Q E s
 | 0,xs,s,Q,h,q=>by
  have:xs=[]:=List.eq_nil_of_length_eq_zero (by omega)
  subst this
  rw [drawOrder]
  exact wpAny_pure (q [] s.drawn (List.Perm.refl _))
 | n+1,[],s,Q,h,q=>by
  rw [drawOrder]
  ·exact wpAny_pure (q [] s.drawn (List.Perm.refl _))
  ·simp
 | n+1,x::r,s,Q,h,q=>by
  rw [drawOrder]
  ·refine wpAny_bind (wp_pick (by simp) fun i d hi=>?_)
   rw [List.getElem?_eq_getElem hi]
   dsimp only
   refine wpAny_bind (wp_draws n _ _ (by rw [List.length_eraseIdx,if_pos hi];simp at h ⊢;omega) fun ys d2 hp=>?_)
   exact wpAny_pure (q _ d2 ((hp.cons _).trans (erase_perm (List.getElem?_eq_getElem hi))))
  ·simp
end
end HT
namespace HT
open PySem PyProof.Rows
section
variable {prog:Program} {w:World} {A:Around} {E:Value→Shared→Prop} {s:Shared}
theorem sets_by {Q:Bool→Shared→Prop} (h:Q (byText w) s):wpAny (model prog w) A setsByText Q E s:=by
 unfold setsByText
 exact wpAny_bind (wpAny_askSetting (wpAny_pure h))
noncomputable def isDrawn (es:Array (Int×Value)) (t:SetTable):Bool:=!t.plain&&decide (es.size > 1)
theorem next_text {a:Addr} {o:Obj} {es:Array (Int×Value)} {ep:Nat} {t:SetTable} {k i:Nat} {Q:Option (Value×Nat)→Shared→Prop} (hT:byText w=true) (ho:s.heap.get? a=some o) (hd:o.data=.set es ep t) (hf:t.fits es.size=true)
  (h:Q (((pickOrder (w.params.setOrder a ep) es)[i]?).map fun e=>(e.2,k)) s):wpAny (model prog w) A (setNext a k i ep) Q E s:=by
 unfold setNext
 refine wpAny_bind (wpAny_setState_of ho hd hf ?_)
 dsimp only
 refine wpAny_bind (sets_by ?_)
 rw [hT]
 simp only [↓reduceIte,bne_self_eq_false,Bool.false_eq_true]
 refine wpAny_bind ?_
 unfold setWalk
 refine wpAny_bind (wpAny_setState_of ho hd hf ?_)
 dsimp only
 refine wpAny_bind (sets_by ?_)
 rw [hT]
 simp only [↓reduceIte]
 exact wpAny_bind (wpAny_askSetting (wpAny_pure (wpAny_pure h)))
theorem next_plain {a:Addr} {o:Obj} {es:Array (Int×Value)} {ep:Nat} {t:SetTable} {k i j:Nat} {Q:Option (Value×Nat)→Shared→Prop} (hT:byText w=false) (hdr:isDrawn es t=false) (hled:t.led=true) (ho:s.heap.get? a=some o) (hd:o.data=.set es ep t) (hf:t.fits es.size=true)
  (hj:SetTable.below t.place k=j)
  (h:Q (match es[j]?,t.place[j]? with | some (_,x),some p=>some (x,p+1) | _,_=>none) s):wpAny (model prog w) A (setNext a k i ep) Q E s:=by
 unfold setNext
 refine wpAny_bind (wpAny_setState_of ho hd hf ?_)
 dsimp only
 refine wpAny_bind (sets_by ?_)
 rw [hT]
 simp only [Bool.false_eq_true,↓reduceIte]
 show wpAny _ _ (if (!t.plain&&decide (es.size > 1))=true then _ else _) _ _ _
 rw [if_neg (by rw [show (!t.plain&&decide (es.size > 1))=false from hdr];simp)]
 refine wpAny_bind ?_
 show wpAny _ _ (if (!t.led && !es.isEmpty)=true then _ else pure ()) _ _ _
 rw [if_neg (by rw [hled];simp)]
 refine wpAny_pure ?_
 rw [hj]
 exact wpAny_pure h
theorem next_drawn {a:Addr} {o:Obj} {es:Array (Int×Value)} {ep:Nat} {t:SetTable} {j:Nat} {e:Int×Value} {Q:Value→Shared→Prop} (ho:s.heap.get? a=some o) (hd:o.data=.set es ep t) (hf:t.fits es.size=true) (hj:es[j]?=some e) (h:Q e.2 s) :
  wpAny (model prog w) A (setNextDrawn a j ep) Q E s:=by
 unfold setNextDrawn
 refine wpAny_bind (wpAny_setState_of ho hd hf ?_)
 dsimp only
 simp only [bne_self_eq_false,Bool.false_eq_true,↓reduceIte]
 rw [hj]
 exact wpAny_pure h
end
end HT
namespace HT
open PySem PyProof.Rows
theorem slot_next:Slot "set_iterator" "__next__" "set_iterator.__next__" :=
 .of (owner := "set_iterator") (n := "__next__") (by rw [typeLookup_type,builtinLookup_eq_fast];kernel_rfl) (by decide +kernel) (by decide +kernel) (by decide +kernel) (by first | exact .inl (by decide +kernel) | exact .inr (by decide +kernel)) (by rw [isSubtype_type];kernel_rfl)
theorem entry_next:entryFor table "set_iterator.__next__" = some Builtin.«set_iterator.__next__»:=entryFor_of_fast (by kernel_rfl)
theorem args_next (a:Value):argsOk "set_iterator.__next__" ⟨[a],[]⟩:=by unfold argsOk;kernel_rfl
theorem entry_iter:entryFor table "set.__iter__" = some Builtin.«frozenset.__iter__»:=entryFor_alias (id' := "frozenset.__iter__") (by kernel_rfl) rfl (by decide +kernel) (by kernel_rfl)
def SetIt (h:Heap) (it:Addr) (first:Value) (i:Nat) (a:Addr) (n ep:Nat):Prop :=
 ∃ o,h.get? it=some o∧o.cls=.type "set_iterator" ∧ o.data=.fields #[first,.int i 0,.ref a,.int n 0,.int ep 0]
theorem SetIt.type {s:Shared} {it first i a n ep} (x:SetIt s.heap it first i a n ep):s.TypeIs (.ref it) "set_iterator" := let ⟨o,ho,hc,_⟩:=x;⟨o,ho,hc⟩
section
variable {prog:Program} {w:World} {A:Around} {E:Value→Shared→Prop} {s:Shared}
theorem put_it {h:Heap} {it:Addr} {o:Obj} (ho:h.get? it=some o) (hc:o.cls=.type "set_iterator") {fs:Array Value} (hd:o.data=.fields fs) (k:Nat) (v:Value) :
  ∃ o',(h.update it (Obj.mapFields (·.setIfInBounds k v))).get? it=some o'∧o'.cls=.type "set_iterator" ∧ o'.data=.fields (fs.setIfInBounds k v) :=
 ⟨_,Heap.get?_update_self _ ho (Obj.isFreed_of_fields (Obj.data_mapFields hd _)),(Obj.cls_mapFields ..).trans hc,by rw [Obj.data_mapFields hd]⟩
theorem next_item {it a:Addr} {k k' i n ep:Nat} {o:Obj} {es:Array (Int×Value)} {t:SetTable} {v:Value} {Q:Option Value→Shared→Prop} (hit:SetIt s.heap it (.int k 0) i a n ep) (ho:s.heap.get? a=some o) (hd:o.data=.set es ep t) (hf:t.fits es.size=true) (hn:es.size=n)
  (hx:∀ (A':Around) (E':Value→Shared→Prop) (Q':Option (Value×Nat)→Shared→Prop),Q' (some (v,k')) s→wpAny (model prog w) A' (setNext a k i ep) Q' E' s)
  (hQ:∀ h',SetIt h' it (.int k' 0) (i+1) a n ep→Heap.SameBut it s.heap h'→Q (some v) { s with heap:=h' }):wpAny (model prog w) A (pyNext (.ref it)) Q E s:=by
 obtain ⟨oi,hoi,hci,hdi⟩:=id hit
 unfold pyNext
 refine wpAny_bind (wpAny_attempt (wpAny_callSpecial?_slot (name:=Str.ofString "__next__") hit.type slot_next (wpAny_call_entry slot_next hit.type entry_next ?_ (args_next _))))
 unfold Builtin.«set_iterator.__next__»
 refine wpAny_bind (wpAny_pure ?_)
 refine wpAny_bind (wpAny_fieldsOf hoi hdi ?_)
 dsimp only
 refine wpAny_bind (wpAny_setEntries_of ho hd hf ?_)
 rw [if_neg (by rw [hn];simp)]
 refine wpAny_bind (hx _ _ _ ?_)
 dsimp only
 refine wpAny_bind (wpAny_setField hoi hdi (by simp) ?_)
 obtain ⟨o1,ho1,hc1,hd1⟩:=put_it hoi hci hdi 0 (rawInt k')
 refine wpAny_bind (wpAny_setField ho1 hd1 (by simp) ?_)
 obtain ⟨o2,ho2,hc2,hd2⟩:=put_it ho1 hc1 hd1 1 (rawInt ((i:Int)+1))
 refine wpAny_pure ⟨v,rfl,wpAny_pure (hQ _ ⟨o2,ho2,hc2,?_⟩ ((Heap.SameBut.update _ _ _).trans (Heap.SameBut.update _ _ _)))⟩
 rw [hd2]
 simp [rawInt]
theorem stop_raise {α:Type} {Q:α→Shared→Prop} {E:Value→Shared→Prop} (hh:A.handled=none) (h:∀ (b:Addr) (h':Heap),(∀ c o,s.heap.get? c=some o→h'.get? c=some o)→Shared.TypeIs { s with heap:=h' } (.ref b) "StopIteration" → E (.ref b) { s with heap:=h' }) :
  wpAny (model prog w) A (newExc (.type "StopIteration") [] >>= fun e=>(raiseNew e:Sem α)) Q E s:=by
 refine wpAny_bind ?_
 simp only [newExc,newTuple]
 refine wpAny_bind (wpAny_newObj_type ?_ (by size_fits))
 refine wpAny_bind (m:=firstArgMember _ _) (wpAny_of_eq (a:=Value.none) (by first | rfl | (simp only [firstArgMember];rfl)) ?_)
 refine wpAny_newObj_type ?_ (by size_fits)
 simp only [raiseNew]
 refine wpAny_bind (wpAny_handled ?_)
 rw [hh]
 refine wpAny_bind (wpAny_pure (wpAny_throw ?_))
 exact h _ _ (fun c o e=>Heap.get?_push_of_some _ (Heap.get?_push_of_some _ e)) ⟨_,Heap.get?_push_size _ rfl,rfl⟩
theorem next_end {it a:Addr} {k i n ep:Nat} {o:Obj} {es:Array (Int×Value)} {t:SetTable} {Q:Option Value→Shared→Prop} (hh:A.handled=none) (hit:SetIt s.heap it (.int k 0) i a n ep) (ho:s.heap.get? a=some o) (hd:o.data=.set es ep t) (hf:t.fits es.size=true) (hn:es.size=n)
  (hx:∀ (A':Around) (E':Value→Shared→Prop) (Q':Option (Value×Nat)→Shared→Prop),Q' none s→wpAny (model prog w) A' (setNext a k i ep) Q' E' s)
  (hQ:∀ h',Heap.ExtBut it s.heap h'→Q none { s with heap:=h' }):wpAny (model prog w) A (pyNext (.ref it)) Q E s:=by
 obtain ⟨oi,hoi,hci,hdi⟩:=id hit
 unfold pyNext
 refine wpAny_bind (wpAny_attempt (wpAny_callSpecial?_slot (name:=Str.ofString "__next__") hit.type slot_next (wpAny_call_entry slot_next hit.type entry_next ?_ (args_next _))))
 unfold Builtin.«set_iterator.__next__»
 refine wpAny_bind (wpAny_pure ?_)
 refine wpAny_bind (wpAny_fieldsOf hoi hdi ?_)
 dsimp only
 refine wpAny_bind (wpAny_setEntries_of ho hd hf ?_)
 rw [if_neg (by rw [hn];simp)]
 refine wpAny_bind (hx _ _ _ ?_)
 dsimp only
 refine wpAny_bind (wpAny_setField hoi hdi (by simp) ?_)
 refine stop_raise hh fun b h' hk hT=>?_
 refine wpAny_bind (wpAny_isInstance (T := "StopIteration") (b:=true) hT isSubtype_stop ?_)
 exact wpAny_pure (hQ _ fun c o hc e=>hk c o ((Heap.SameBut.update _ _ _).extBut c o hc e))
theorem draw_item {it a u:Addr} {i n ep j:Nat} {o:Obj} {es:Array (Int×Value)} {t:SetTable} {x:Int×Value} {ps:Array Value} {Q:Option Value→Shared→Prop} (hit:SetIt s.heap it (.ref u) i a n ep) (ho:s.heap.get? a=some o) (hd:o.data=.set es ep t) (hf:t.fits es.size=true) (hn:es.size=n)
  (hu:s.heap.IsTuple u ps) (hp:ps[i]?=some (.int j 0)) (hj:es[j]?=some x)
  (hQ:∀ h',SetIt h' it (.ref u) (i+1) a n ep→Heap.SameBut it s.heap h'→Q (some x.2) { s with heap:=h' }):wpAny (model prog w) A (pyNext (.ref it)) Q E s:=by
 obtain ⟨oi,hoi,hci,hdi⟩:=id hit
 obtain ⟨ou,hou,_,nu,hdu⟩:=hu
 unfold pyNext
 refine wpAny_bind (wpAny_attempt (wpAny_callSpecial?_slot (name:=Str.ofString "__next__") hit.type slot_next (wpAny_call_entry slot_next hit.type entry_next ?_ (args_next _))))
 unfold Builtin.«set_iterator.__next__»
 refine wpAny_bind (wpAny_pure ?_)
 refine wpAny_bind (wpAny_fieldsOf hoi hdi ?_)
 dsimp only
 refine wpAny_bind (wpAny_setEntries_of ho hd hf ?_)
 rw [if_neg (by rw [hn];simp)]
 refine wpAny_bind (wpAny_seqItems hou hdu ?_)
 simp only [Int.toNat_natCast,hp]
 refine wpAny_bind (next_drawn ho hd hf hj ?_)
 refine wpAny_bind (wpAny_setField hoi hdi (by simp) ?_)
 obtain ⟨o1,ho1,hc1,hd1⟩:=put_it hoi hci hdi 1 (rawInt ((i:Int)+1))
 refine wpAny_pure ⟨x.2,rfl,wpAny_pure (hQ _ ⟨o1,ho1,hc1,?_⟩ (Heap.SameBut.update _ _ _))⟩
 rw [hd1]
 simp [rawInt]
theorem draw_end {it a u:Addr} {i n ep:Nat} {o:Obj} {es:Array (Int×Value)} {t:SetTable} {ps:Array Value} {Q:Option Value→Shared→Prop} (hh:A.handled=none) (hit:SetIt s.heap it (.ref u) i a n ep) (ho:s.heap.get? a=some o) (hd:o.data=.set es ep t) (hf:t.fits es.size=true) (hn:es.size=n)
  (hu:s.heap.IsTuple u ps) (hp:ps[i]?=none)
  (hQ:∀ h',Heap.ExtBut it s.heap h'→Q none { s with heap:=h' }):wpAny (model prog w) A (pyNext (.ref it)) Q E s:=by
 obtain ⟨oi,hoi,hci,hdi⟩:=id hit
 obtain ⟨ou,hou,_,nu,hdu⟩:=hu
 unfold pyNext
 refine wpAny_bind (wpAny_attempt (wpAny_callSpecial?_slot (name:=Str.ofString "__next__") hit.type slot_next (wpAny_call_entry slot_next hit.type entry_next ?_ (args_next _))))
 unfold Builtin.«set_iterator.__next__»
 refine wpAny_bind (wpAny_pure ?_)
 refine wpAny_bind (wpAny_fieldsOf hoi hdi ?_)
 dsimp only
 refine wpAny_bind (wpAny_setEntries_of ho hd hf ?_)
 rw [if_neg (by rw [hn];simp)]
 refine wpAny_bind (wpAny_seqItems hou hdu ?_)
 simp only [Int.toNat_natCast,hp]
 refine wpAny_bind (wpAny_setField hoi hdi (by simp) ?_)
 obtain ⟨o1,ho1,hc1,hd1⟩:=put_it hoi hci hdi 0 (rawInt 0)
 refine wpAny_bind (wpAny_setField ho1 hd1 (by simp) ?_)
 refine stop_raise hh fun b h' hk hT=>?_
 refine wpAny_bind (wpAny_isInstance (T := "StopIteration") (b:=true) hT isSubtype_stop ?_)
 exact wpAny_pure (hQ _ fun c o hc e=>hk c o (((Heap.SameBut.update _ _ _).trans (Heap.SameBut.update _ _ _)).extBut c o hc e))
end
end HT
namespace HT
open PySem PyProof.Rows
theorem slot_self:Slot "set_iterator" "__iter__" "set_iterator.__iter__" :=
 .of (owner := "set_iterator") (n := "__iter__") (by rw [typeLookup_type,builtinLookup_eq_fast];kernel_rfl) (by decide +kernel) (by decide +kernel) (by decide +kernel) (by first | exact .inl (by decide +kernel) | exact .inr (by decide +kernel)) (by rw [isSubtype_type];kernel_rfl)
theorem entry_self:entryFor table "set_iterator.__iter__" = some Builtin.«dict_keyiterator.__iter__»:=entryFor_alias (id' := "dict_keyiterator.__iter__") (by kernel_rfl) rfl (by decide +kernel) (by kernel_rfl)
theorem args_self (a:Value):argsOk "set_iterator.__iter__" ⟨[a],[]⟩:=by unfold argsOk;kernel_rfl
noncomputable abbrev sameG (a b:Array GenState):Prop:=b=a
section
variable {prog:Program} {w:World} {A:Around} {E:Value→Shared→Prop} {s:Shared}
theorem iter_self {it first i a n ep} {Q:Value→Shared→Prop} (hit:SetIt s.heap it first i a n ep) (h:Q (.ref it) s):wpAny (model prog w) A (pyIter (.ref it)) Q E s:=by
 refine wpAny_pyIter_slot hit.type slot_self (wpAny_call_entry slot_self hit.type entry_self ?_ (args_self _))
 show wpAny _ _ (ret (.ref it)) _ _ s
 exact wpAny_pure ⟨_,rfl, "set_iterator", _,hit.type,slot_next.lookup,h⟩
theorem SetIt.at {h h':Heap} {it first i a n ep} (x:SetIt h it first i a n ep) (e:∀ o,h.get? it=some o→h'.get? it=some o):SetIt h' it first i a n ep:=let ⟨o,ho,r⟩:=x;⟨o,e o ho,r⟩
theorem walk_slot (hh:A.handled=none) {it a:Addr} (hne:a≠it) {n ep:Nat} {o:Obj} {es:Array (Int×Value)} {t:SetTable} (hd:o.data=.set es ep t) (hf:t.fits es.size=true) (hn:es.size=n) (kf:Nat→Nat) (vs:List Value) (hv:vs.length=n)
  (hx:∀ i,i<n→∀ (A':Around) (E':Value→Shared→Prop) (z:Shared) (Q':Option (Value×Nat)→Shared→Prop),z.heap.get? a=some o→(∀ v,vs[i]?=some v→Q' (some (v,kf (i+1))) z)→wpAny (model prog w) A' (setNext a (kf i) i ep) Q' E' z)
  (hy:∀ (A':Around) (E':Value→Shared→Prop) (z:Shared) (Q':Option (Value×Nat)→Shared→Prop),z.heap.get? a=some o→Q' none z→wpAny (model prog w) A' (setNext a (kf n) n ep) Q' E' z) :
  WalksS prog w A it [it,a] [it] sameG n (fun i v=>vs[i]?=some v) (fun i z=>SetIt z.heap it (.int (kf i) 0) i a n ep∧z.heap.get? a=some o) where
 sub:=fun b hb=>by simp at hb;simp [hb]
 grefl:=fun _=>rfl
 gtrans:=fun _ _ _ h g=>g.trans h
 frame:=fun i z h' tk st _ hk=>⟨st.1.at fun o e=>hk it (by simp) o e,hk a (by simp) o st.2⟩
 item:=fun i z Q E hi st hQ=>by
  have hvi:vs[i]?=some (vs[i]'(by omega)):=List.getElem?_eq_getElem _
  refine next_item (k':=kf (i+1)) (v:=vs[i]'(by omega)) st.1 st.2 hd hf hn (fun A' E' Q' q=>hx i hi A' E' z Q' st.2 fun v e=>by rw [hvi] at e;cases e;exact q) fun h' S B=>?_
  exact hQ _ _ hvi ⟨S,(B.2 a hne).trans st.2⟩ ⟨fun b o hb e=>B.extBut b o (fun h=>hb (by simp [h])) e,rfl,rfl,rfl,Nat.le_refl _⟩
 done:=fun z Q E st hQ=>by
  refine next_end hh st.1 st.2 hd hf hn (fun A' E' Q' q=>hy A' E' z Q' st.2 q) fun h' B=>?_
  exact hQ _ ⟨fun b o hb e=>B b o (fun h=>hb (by simp [h])) e,rfl,rfl,rfl,Nat.le_refl _⟩
 self:=fun i z Q E st q=>iter_self st.1 q
theorem walk_drawn (hh:A.handled=none) {it a u:Addr} (hne:a≠it) (hnu:u≠it) {n ep:Nat} {o:Obj} {es:Array (Int×Value)} {t:SetTable} (hd:o.data=.set es ep t) (hf:t.fits es.size=true) (hn:es.size=n) (ps:List Nat) (hp:ps.Perm (List.range n)) (vs:List Value) (hv:vs=ps.filterMap fun j=>(es[j]?).map (·.2)) :
  WalksS prog w A it [it,a,u] [it] sameG n (fun i v=>vs[i]?=some v) (fun i z=>SetIt z.heap it (.ref u) i a n ep∧z.heap.get? a=some o∧z.heap.IsTuple u (ps.map fun (j:Nat)=>Value.int (j:Int) 0).toArray):=by
 have hl:ps.length=n:=by rw [hp.length_eq,List.length_range]
 have hm:∀ j∈ps,j<es.size:=fun j hj=>by rw [hn];exact List.mem_range.mp (hp.mem_iff.mp hj)
 have at':∀ i (h:i<ps.length),∃ e,es[ps[i]]?=some e∧vs[i]?=some e.2:=by
  have key:∀ (qs:List Nat),(∀ j∈qs,j<es.size)→∀ i (h:i<qs.length),∃ e,es[qs[i]]?=some e∧(qs.filterMap fun j=>(es[j]?).map (·.2))[i]?=some e.2:=by
   intro qs
   induction qs with
   | nil=>intro _ i h;simp at h
   | cons q r ih =>
    intro hq i h
    have hq0:es[q]?=some (es[q]'(hq q (by simp))):=Array.getElem?_eq_getElem _
    cases i with
    | zero=>exact ⟨_,hq0,by simp [hq0]⟩
    | succ i =>
     obtain ⟨e,e1,e2⟩:=ih (fun j hj=>hq j (List.mem_cons_of_mem _ hj)) i (by simpa using h)
     exact ⟨e,by simpa using e1,by simp [hq0];simpa using e2⟩
  intro i h
  rw [hv]
  exact key ps hm i h
 exact {
  sub:=fun b hb=>by simp at hb;simp [hb]
  grefl:=fun _=>rfl
  gtrans:=fun _ _ _ h g=>g.trans h
  frame:=fun i z h' tk st _ hk=>⟨st.1.at fun o e=>hk it (by simp) o e,hk a (by simp) o st.2.1,st.2.2.at fun o e=>hk u (by simp) o e⟩
  item:=fun i z Q E hi st hQ=>by
   obtain ⟨e,e1,e2⟩:=at' i (by omega)
   refine draw_item st.1 st.2.1 hd hf hn st.2.2 (by simp [show i<ps.length by omega]) e1 fun h' S B=>?_
   exact hQ _ _ e2 ⟨S,(B.2 a hne).trans st.2.1,st.2.2.at fun o e=>(B.2 u hnu).trans e⟩ ⟨fun b o hb e=>B.extBut b o (fun h=>hb (by simp [h])) e,rfl,rfl,rfl,Nat.le_refl _⟩
  done:=fun z Q E st hQ=>by
   refine draw_end hh st.1 st.2.1 hd hf hn st.2.2 (by simp;omega) fun h' B=>?_
   exact hQ _ ⟨fun b o hb e=>B b o (fun h=>hb (by simp [h])) e,rfl,rfl,rfl,Nat.le_refl _⟩
  self:=fun i z Q E st q=>iter_self st.1 q }
end
end HT
namespace HT
open PySem PyProof.Rows
structure SW (prog:Program) (w:World) (I:Addr) (fp:List Addr) (vs:List Value) (St:Nat→Shared→Prop):Prop where
 walk:∀ B:Around,B.handled=none→WalksS prog w B I fp [I] sameG vs.length (fun i v=>vs[i]?=some v) St
 typ:∀ i z,St i z→z.TypeIs (.ref I) "set_iterator"
noncomputable def kfP (pl:Array Nat) (i:Nat):Nat:=if i=0 then 0 else pl.getD (i - 1) 0+1
theorem kfP_low {pl:Array Nat} (hr:Rise pl) {i:Nat} (h:i≤pl.size):SetTable.below pl (kfP pl i)=i:=by
 refine (below_low hr).eq ⟨h,fun j hj hji=>?_,fun j hj hij=>?_⟩
 ·have:kfP pl i=pl[i - 1]'(by omega)+1:=by simp [kfP,show i≠0 by omega,Array.getD,show i - 1<pl.size by omega]
  rw [this]
  by_cases e:j=i - 1
  ·subst e;omega
  ·have:=hr.at (show j<i - 1 by omega) (show i - 1<pl.size by omega)
   omega
 ·by_cases e:i=0
  ·subst e;exact Nat.zero_le _
  ·have:kfP pl i=pl[i - 1]'(by omega)+1:=by simp [kfP,e,Array.getD,show i - 1<pl.size by omega]
   rw [this]
   have:=hr.at (show i - 1<j by omega) hj
   omega
section
variable {prog:Program} {w:World} {K:Type} [DecidableEq K] {knd:KeyKind prog w K} {A:Around} {E:Value→Shared→Prop} {s:Shared}
theorem sw_text (hT:byText w=true) {it a:Addr} (hne:a≠it) {ep:Nat} {o:Obj} {es:Array (Int×Value)} {t:SetTable} (hd:o.data=.set es ep t) (hf:t.fits es.size=true) :
  SW prog w it [it,a] ((pickOrder (w.params.setOrder a ep) es).toList.map (·.2)) (fun i z=>SetIt z.heap it (.int 0 0) i a es.size ep∧z.heap.get? a=some o):=by
 have hp:=pick_perm (w.params.setOrder a ep) es
 have hl:(pickOrder (w.params.setOrder a ep) es).size=es.size:=by simpa using hp.length_eq
 refine ⟨fun B hB=>?_,fun i z st=>st.1.type⟩
 have e:((pickOrder (w.params.setOrder a ep) es).toList.map (·.2)).length=es.size:=by simp [hl]
 rw [e]
 refine walk_slot hB hne hd hf rfl (fun _=>0) _ e (fun i hi A' E' z Q' hz q=>?_) (fun A' E' z Q' hz q=>?_)
 ·refine next_text hT hz hd hf ?_
  have hi':i<(pickOrder (w.params.setOrder a ep) es).size:=by omega
  rw [Array.getElem?_eq_getElem hi']
  exact q _ (by simp [hi'])
 ·refine next_text hT hz hd hf ?_
  rw [Array.getElem?_eq_none (by omega)]
  exact q
theorem sw_plain (hT:byText w=false) {it a:Addr} (hne:a≠it) {ep:Nat} {o:Obj} {es:Array (Int×Value)} {t:SetTable} {ks:List K} (hd:o.data=.set es ep t) (T:STab knd es t ks) (hdr:isDrawn es t=false) :
  SW prog w it [it,a] (es.toList.map (·.2)) (fun i z=>SetIt z.heap it (.int (kfP t.place i) 0) i a es.size ep∧z.heap.get? a=some o):=by
 have hps:t.place.size=es.size:=by
  have:=T.fits
  unfold SetTable.fits at this
  simp at this
  exact this.1
 have hled:t.led=true:=by rw [T.led,hT];rfl
 refine ⟨fun B hB=>?_,fun i z st=>st.1.type⟩
 have e:(es.toList.map (·.2)).length=es.size:=by simp
 rw [e]
 refine walk_slot hB hne hd T.fits rfl (kfP t.place) _ e (fun i hi A' E' z Q' hz q=>?_) (fun A' E' z Q' hz q=>?_)
 ·refine next_plain hT hdr hled hz hd T.fits (kfP_low T.rise (by omega)) ?_
  have hi':i<t.place.size:=by omega
  rw [Array.getElem?_eq_getElem hi,Array.getElem?_eq_getElem hi']
  have:=q es[i].2 (by simp [hi])
  simpa [kfP,Array.getD,hi'] using this
 ·refine next_plain hT hdr hled hz hd T.fits (kfP_low T.rise (by omega)) ?_
  rw [Array.getElem?_eq_none (Nat.le_refl _)]
  exact q
theorem sw_drawn {it a u:Addr} (hne:a≠it) (hnu:u≠it) {ep:Nat} {o:Obj} {es:Array (Int×Value)} {t:SetTable} (hd:o.data=.set es ep t) (hf:t.fits es.size=true) {ps:List Nat} (hp:ps.Perm (List.range es.size)) (hvl:(ps.filterMap fun j=>(es[j]?).map (·.2)).length=es.size) :
  SW prog w it [it,a,u] (ps.filterMap fun j=>(es[j]?).map (·.2)) (fun i z=>SetIt z.heap it (.ref u) i a es.size ep∧z.heap.get? a=some o∧z.heap.IsTuple u (ps.map fun (j:Nat)=>Value.int (j:Int) 0).toArray) :=
 ⟨fun B hB=>by rw [hvl];exact walk_drawn hB hne hnu hd hf rfl ps hp _ rfl,fun i z st=>st.1.type⟩
theorem filterMap_range {α:Type} (es:Array α):(List.range es.size).filterMap (fun j=>es[j]?)=es.toList:=by
 have:=filterMap_getElem?_range es
 exact this
theorem iter_set {a:Addr} {o:Obj} {es:Array (Int×Value)} {ep:Nat} {t:SetTable} {ks:List K} {Q:Value→Shared→Prop} (ho:s.heap.get? a=some o) (hex:o.ExactSet) (hd:o.data=.set es ep t) (T:STab knd es t ks)
  (hQ:∀ I fp vs St h' d,SW prog w I fp vs St→St 0 { s with heap:=h',drawn:=d }→vs.Perm (es.toList.map (·.2))→(∀ b o,s.heap.get? b=some o→h'.get? b=some o)→(∀ b∈fp,b=a∨s.heap.objs.size≤b)→I∈fp→s.heap.objs.size≤I→Q (.ref I) { s with heap:=h',drawn:=d }) :
  wpAny (model prog w) A (pyIter (.ref a)) Q E s:=by
 have hty:s.TypeIs (.ref a) "set" := ⟨o,ho,hex.1⟩
 have ha:a<s.heap.objs.size:=Heap.lt_size ho
 refine wpAny_pyIter_slot hty PySem.F.slot_set_iter (wpAny_call_entry PySem.F.slot_set_iter hty entry_iter ?_ (PySem.F.args_set_iter_1 _))
 unfold Builtin.«frozenset.__iter__» Builtin.Frozenset.slot0 slotArgs
 simp only [List.isEmpty_nil,Bool.not_true,Bool.false_eq_true,↓reduceIte,bind_assoc,List.length_nil,bne_self_eq_false]
 unfold Builtin.Frozenset.addrOf Builtin.Frozenset.sizeOf
 refine wpAny_bind (wpAny_pure ?_)
 try dsimp only
 refine wpAny_bind (wpAny_pure ?_)
 refine wpAny_bind (wpAny_bind (wpAny_setEntries_of ho hd T.fits (wpAny_pure ?_)))
 unfold setDrawn
 refine wpAny_bind (wpAny_bind (wpAny_setState_of ho hd T.fits ?_))
 dsimp only
 refine wpAny_bind (sets_by (wpAny_pure ?_))
 show wpAny _ _ (if (!byText w&&(!t.plain&&decide (es.size > 1)))=true then _ else _) _ _ _
 cases hdr:(!byText w&&(!t.plain&&decide (es.size > 1))) with
 | false =>
  rw [if_neg (by simp)]
  refine wpAny_bind (wpAny_pure ?_)
  unfold setEpoch
  refine wpAny_bind (wpAny_bind (wpAny_setState_of ho hd T.fits (wpAny_pure ?_)))
  refine wpAny_bind (wpAny_newObj_type (wpAny_pure ⟨_,rfl, "set_iterator", _,⟨_,Heap.get?_push_size _ rfl,rfl⟩,slot_next.lookup,?_⟩))
  have hne:a≠s.heap.objs.size:=Nat.ne_of_lt ha
  have hlt:∀ b∈[s.heap.objs.size,a],b=a∨s.heap.objs.size≤b:=fun b hb=>by
   simp only [List.mem_cons,List.not_mem_nil,or_false] at hb
   rcases hb with rfl | rfl
   ·exact .inr (Nat.le_refl _)
   ·exact .inl rfl
  cases hT:byText w with
  | true=>exact hQ _ _ _ _ _ s.drawn (sw_text hT hne hd T.fits) ⟨⟨_,Heap.get?_push_size _ rfl,rfl,rfl⟩,Heap.get?_push_of_some _ ho⟩ ((pick_perm _ es).map _) (fun b o e=>Heap.get?_push_of_some _ e) hlt (by simp) (Nat.le_refl _)
  | false=>exact hQ _ _ _ _ _ s.drawn (sw_plain hT hne hd T (by rw [hT] at hdr;simpa [isDrawn] using hdr)) ⟨⟨_,Heap.get?_push_size _ rfl,rfl,rfl⟩,Heap.get?_push_of_some _ ho⟩ (List.Perm.refl _) (fun b o e=>Heap.get?_push_of_some _ e) hlt (by simp) (Nat.le_refl _)
 | true =>
  rw [if_pos rfl]
  refine wpAny_bind (wp_draws _ _ _ (by simp) fun ps d hp=>?_)
  have hpl:ps.length=es.size:=by rw [hp.length_eq,List.length_range]
  refine wpAny_bind (wpAny_newTuple ?_ (hsz:=by rw [List.length_map,hpl];exact fits_of_scanBound T.few))
  generalize hob:({ cls:=.type "tuple", data:=.seq (ps.map fun (i:Nat)=>rawInt i).toArray }:Obj)=ob
  have hd':o.data=.set es ep t:=hd
  have ho':(s.heap.push ob).get? a=some o:=Heap.get?_push_of_some _ ho
  unfold setEpoch
  refine wpAny_bind (wpAny_bind (wpAny_setState_of (s:={ s with heap:=s.heap.push ob,drawn:=d }) ho' hd T.fits (wpAny_pure ?_)))
  refine wpAny_bind (wpAny_newObj_type (wpAny_pure ⟨_,rfl, "set_iterator", _,⟨_,Heap.get?_push_size _ rfl,rfl⟩,slot_next.lookup,?_⟩))
  have z1:(s.heap.push ob).objs.size=s.heap.objs.size+1:=Heap.size_push _ _
  have hne:a≠(s.heap.push ob).objs.size:=Nat.ne_of_lt (by rw [z1];exact Nat.lt_succ_of_lt ha)
  have hnu:s.heap.objs.size≠(s.heap.push ob).objs.size:=Nat.ne_of_lt (by rw [z1];exact Nat.lt_succ_self _)
  have hvp:(ps.filterMap fun j=>(es[j]?).map (·.2)).Perm (es.toList.map (·.2)):=by
   have e:(List.range es.size).filterMap (fun j=>(es[j]?).map (·.2))=es.toList.map (·.2):=by
    rw [← filterMap_range es,List.map_filterMap]
   rw [← e]
   exact hp.filterMap _
  have hvl:(ps.filterMap fun j=>(es[j]?).map (·.2)).length=es.size:=by simpa using hvp.length_eq
  refine hQ _ _ _ _ _ d (sw_drawn hne hnu hd T.fits hp hvl) ⟨⟨_,Heap.get?_push_size _ rfl,rfl,rfl⟩,Heap.get?_push_of_some _ ho',?_⟩ hvp (fun b o e=>Heap.get?_push_of_some _ (Heap.get?_push_of_some _ e)) ?_ (by simp) (by rw [z1];exact Nat.le_succ _)
  ·subst hob
   exact ⟨_,Heap.get?_push_of_some _ (Heap.get?_push_size _ rfl),rfl,0,by simp [rawInt]⟩
  ·intro b hb
   simp only [List.mem_cons,List.not_mem_nil,or_false] at hb
   rcases hb with rfl | rfl | rfl
   ·exact .inr (by rw [z1];exact Nat.le_succ _)
   ·exact .inl rfl
   ·exact .inr (Nat.le_refl _)
end
end HT
namespace HT
open PySem PyProof.Rows
theorem items_eq {vs:List Value} {acc:Array Value} (h:ItemsOf (fun i v=>vs[i]?=some v) acc vs.length):acc.toList=vs:=by
 apply List.ext_getElem?
 intro i
 by_cases c:i<acc.size
 ·have e:acc[i]?=some acc[i]:=Array.getElem?_eq_getElem c
  rw [Array.getElem?_toList,e]
  exact (h.2 i _ e).symm
 ·rw [List.getElem?_eq_none (by simpa using c),List.getElem?_eq_none (by rw [← h.1];omega)]
section
variable {prog:Program} {w:World} {K:Type} [DecidableEq K] {knd:KeyKind prog w K} {A:Around} {E:Value→Shared→Prop} {s:Shared}
theorem hint_set {a:Addr} {Q:Bool→Shared→Prop} (hT:s.TypeIs (.ref a) "set") (h:Q false s):wpAny (model prog w) A (Builtin.List.listLengthHint (.ref a)) Q E s:=by
 unfold Builtin.List.listLengthHint
 refine wpAny_bind (wpAny_specialOf hT PySem.F.slot_set_len.lookup ?_)
 generalize hid:("set.__len__" : String)=id0
 dsimp only
 rw [show splitId id0=some ("set", "__len__") from by subst hid;decide +kernel]
 subst hid
 dsimp only
 refine wpAny_bind (wpAny_isInstance (b:=true) hT (by rw [isSubtype_type];kernel_rfl) ?_)
 simp only [Bool.not_true,Bool.false_eq_true,↓reduceIte]
 rw [if_pos (by decide +kernel)]
 refine wpAny_bind (wpAny_typeOf hT ?_)
 exact wpAny_pure h
theorem collect_set {a:Addr} {ks:List K} {Q:List Value→Shared→Prop} (hh:A.handled=none) (hS:SetI knd s.heap a ks)
  (hQ:∀ (es:Array (Int×Value)) (t:SetTable) (vs:List Value) (h':Heap) (d:Drawn) (tk:Nat),STab knd es t ks→vs.Perm (es.toList.map (·.2))→(∀ b o,s.heap.get? b=some o→h'.get? b=some o)→s.heap.objs.size≤h'.objs.size→Q vs { s with heap:=h',drawn:=d,toks:=tk }) :
  wpAny (model prog w) A (collect (.ref a)) Q E s:=by
 obtain ⟨o,es,ep,t,ho,hex,hd,T⟩:=hS
 have hty:s.TypeIs (.ref a) "set" := ⟨o,ho,hex.1⟩
 have ha:a<s.heap.objs.size:=Heap.lt_size ho
 unfold collect
 refine wpAny_bind (wpAny_runValue (codeAny_builtin PySem.F.entry_proto_collect ?_))
 rw [Around.under_plainId PySem.F.plain_proto_collect _]
 show wpAny _ A.in1 (newList [] >>= fun l=>again (.builtin "list.__iadd__" ⟨[l,.ref a],[]⟩)) _ _ s
 refine wpAny_bind (wpAny_newObj_type ?_)
 refine wpAny_pure ⟨plainId_quiet PySem.F.plain_list_iadd _,codeAny_builtin PySem.F.entry_list_iadd ?_⟩
 rw [Around.under_plainId PySem.F.plain_list_iadd _]
 generalize hL:s.heap.objs.size=L at *
 have hpush:∀ b o,s.heap.get? b=some o→(s.heap.push { cls:=.type "list", data:=.seq ([]:List Value).toArray }).get? b=some o:=fun b o e=>Heap.get?_push_of_some _ e
 have hg:(s.heap.push { cls:=.type "list", data:=.seq ([]:List Value).toArray }).get? L=some { cls:=.type "list", data:=.seq ([]:List Value).toArray }:=by rw [← hL];exact Heap.get?_push_size _ rfl
 have z1:(s.heap.push { cls:=.type "list", data:=.seq ([]:List Value).toArray }).objs.size=L+1:=by rw [Heap.size_push,hL]
 generalize hh1:s.heap.push { cls:=.type "list", data:=.seq ([]:List Value).toArray }=h1 at *
 have hty1:Shared.TypeIs { s with heap:=h1 } (.ref a) "set" := ⟨o,hpush a o ho,hex.1⟩
 show wpAny _ A.in1 (Builtin.List.listExtendWith (.ref L) (.ref a) (.ref L)) _ _ _
 unfold Builtin.List.listExtendWith
 refine wpAny_bind (wpAny_typeOf hty1 ?_)
 have hne:L≠a:=Nat.ne_of_gt ha
 have q1:Builtin.List.listSameRef (.ref L) (.ref a)=false:=by simp [Builtin.List.listSameRef,hne]
 rw [if_neg (by rw [q1];decide)]
 refine wpAny_bind (iter_set (s:={ s with heap:=h1 }) (hpush a o ho) hex hd T fun I fp vs St h2 d W st0 hp hk hfp hI hIL=>?_)
 have hLf:L∉fp:=fun hm=>by
  rcases hfp L hm with e | e
  ·exact hne e
  ·rw [z1] at e
   exact Nat.lt_irrefl _ e
 have hg2:=hk L _ hg
 have hsub:∀ b o,s.heap.get? b=some o→h2.get? b=some o:=fun b o e=>hk b o (hpush b o e)
 have hvl:vs.length<scanBound:=by rw [hp.length_eq];simpa using T.few
 have Wk:=W.walk A.in1 (by simp [hh])
 refine wpAny_bind (wpAny_holding (hint_set (s:={ s with heap:=h2,drawn:=d }) ⟨o,hsub a o ho,hex.1⟩ ?_))
 rw [if_pos (by decide +kernel)]
 refine wpAny_bind (wpAny_rule ?_)
 refine wpAny_bind ?_
 show wpAny _ A.in1 (updateSeq L (·.push .none) >>= fun _=>updateSeq L (·.pop)) _ _ _
 refine wpAny_bind (wpAny_updateSeq hg2 rfl ?_)
 have hg3:=Heap.get?_update_self (Obj.mapSeq (·.push Value.none)) hg2 rfl
 refine wpAny_updateSeq hg3 rfl ?_
 have hg4:=Heap.get?_update_self (Obj.mapSeq (·.pop)) hg3 rfl
 have oth:∀ b o,b≠L→h2.get? b=some o→((h2.update L (Obj.mapSeq (·.push Value.none))).update L (Obj.mapSeq (·.pop))).get? b=some o:=fun b o hb e=>(Heap.get?_update_other _ _ (Ne.symm hb)).trans ((Heap.get?_update_other _ _ (Ne.symm hb)).trans e)
 refine wpAny_pure ⟨plainId_quiet PySem.F.plain_extend_loop _,codeAny_extend_loopS Wk (fits_of_scanBound hvl) L hLf _ vs.length 0 _ _ _ rfl (Nat.zero_le _) (Wk.frame 0 { s with heap:=h2,drawn:=d } _ s.toks st0 (Nat.le_refl _) fun b hb o e=>oth b o (fun h=>hLf (h▸hb)) e) hg4 (ItemsOf.nil _) fun z acc c hm hz hacc=>?_⟩
 show wpAny _ A (load L >>= _) _ _ z
 refine wpAny_bind (wpAny_load hz ?_)
 obtain ⟨hz1,g1,d1,tk1,os1⟩:=z
 have eg:g1=s.gens:=hm.gens
 have ed:d1=d:=hm.drawn
 have eo:os1=s.os:=hm.os
 subst eg ed eo
 show wpAny _ _ (pure acc.toList) _ _ _
 rw [show acc.toList=vs from items_eq hacc]
 refine wpAny_pure (hQ es t vs hz1 _ tk1 T hp (fun b o e=>?_) (Nat.le_of_lt (Heap.lt_size hz)))
 have hbL:b<L:=by rw [← hL];exact Heap.lt_size e
 refine hm.heap b o ?_ (oth b o (Nat.ne_of_lt hbL) (hsub b o e))
 simp only [List.mem_cons,List.not_mem_nil,or_false,not_or]
 refine ⟨Nat.ne_of_lt hbL,Nat.ne_of_lt (Nat.lt_of_lt_of_le hbL (Nat.le_trans (Nat.le_succ L) ?_))⟩
 have q:h1.objs.size≤I:=hIL
 rw [z1] at q
 exact q
end
end HT
namespace HT
open PySem PyProof.Rows
theorem perm_of_sub {K:Type} [DecidableEq K]:∀ {ks l:List K},ks.Nodup→(∀ k∈ks,k∈l)→l.length≤ks.length→l.Perm ks
 | [],l,_,_,h=>by
  have:l=[]:=List.eq_nil_of_length_eq_zero (by simpa using h)
  rw [this]
 | k::r,l,nd,hm,h=>by
  rw [List.nodup_cons] at nd
  have hk:=hm k (by simp)
  have hl:=List.length_erase_of_mem hk
  have hp:0<l.length:=List.length_pos_of_mem hk
  refine (List.perm_cons_erase hk).trans ((perm_of_sub nd.2 (fun j hj=>?_) (by simp at h;omega)).cons k)
  have hne:j≠k:=fun e=>nd.1 (e▸hj)
  exact (List.mem_erase_of_ne hne).mpr (hm j (List.mem_cons_of_mem _ hj))
theorem adds_nodup {K:Type} [DecidableEq K] {ks:List K} {k:K} (h:ks.Nodup):(adds ks k).Nodup:=by
 unfold adds
 split
 ·exact h
 ·rename_i hk
  rw [List.nodup_append]
  refine ⟨h,by simp,fun a ha b hb e=>?_⟩
  simp at hb
  exact hk (hb▸e▸ha)
theorem once_nodup {K:Type} [DecidableEq K] (ns:List K):(once ns).Nodup:=by
 have:∀ r:List K,(once r.reverse).Nodup:=by
  intro r
  induction r with
  | nil=>exact List.Pairwise.nil
  | cons k r ih=>rw [List.reverse_cons,once_snoc];exact adds_nodup ih
 have h:=this ns.reverse
 rwa [List.reverse_reverse] at h
theorem once_mem {K:Type} [DecidableEq K] (ns:List K) (k:K):k∈once ns↔k∈ns:=by
 have:∀ r:List K,k∈once r.reverse↔k∈r:=by
  intro r
  induction r with
  | nil=>simp [once]
  | cons j r ih =>
   rw [List.reverse_cons,once_snoc,adds]
   split
   ·rename_i hj
    rw [ih,List.mem_cons]
    refine ⟨.inr,fun h=>h.elim (fun e=>?_) id⟩
    rw [e]
    have:j∈once r.reverse:=hj
    clear ih
    exact e▸((by
     have key:∀ (r:List K) (j:K),j∈once r.reverse→j∈r:=by
      intro r
      induction r with
      | nil=>intro j h;simp [once] at h
      | cons x r ih =>
       intro j h
       rw [List.reverse_cons,once_snoc,adds] at h
       split at h
       ·exact List.mem_cons_of_mem _ (ih j h)
       ·rcases List.mem_append.mp h with h | h
        ·exact List.mem_cons_of_mem _ (ih j h)
        ·simp at h;simp [h]
     exact key r j this):j∈r)
   ·rw [List.mem_append,ih,List.mem_singleton,List.mem_cons,or_comm]
 have h:=this ns.reverse
 rwa [List.reverse_reverse,List.mem_reverse] at h
noncomputable def intVal:Value→Int
 | .int i _=>i
 | _=>0
section
variable {prog:Program} {w:World} {A:Around} {E:Value→Shared→Prop} {s:Shared}
theorem isInt_of {k:Int} {v:Value} (h:(intKind prog w).is k v=true):∃ t,v=.int k t:=by
 cases v <;> simp [intKind,Value.isInt] at h
 exact ⟨_,by rw [h]⟩
theorem ints_are:∀ {vs:List Value},(∀ v∈vs,∃ k t,v=.int k t)→IntsAre vs (vs.map intVal)
 | [],_=>.nil
 | v::r,h=>by
  obtain ⟨k,t,rfl⟩:=h v (by simp)
  exact .cons k t (ints_are fun u hu=>h u (List.mem_cons_of_mem _ hu))
theorem STab.perm {es t} {ks:List Int} (T:STab (intKind prog w) es t ks) (nd:ks.Nodup) {vs:List Value} (hp:vs.Perm (es.toList.map (·.2))):IntsAre vs (vs.map intVal)∧(vs.map intVal).Perm ks:=by
 have hv:∀ v∈vs,∃ k t,v=.int k t:=by
  intro v hv
  obtain ⟨e,he,rfl⟩:=List.mem_map.mp (hp.mem_iff.mp hv)
  obtain ⟨⟨k,hk,_⟩,_⟩:=T.el e he
  exact ⟨k,isInt_of hk⟩
 refine ⟨ints_are hv,perm_of_sub nd (fun k hk=>?_) ?_⟩
 ·obtain ⟨e,he,h⟩:=(T.mem k).mp hk
  obtain ⟨t',ht⟩:=isInt_of h
  exact List.mem_map.mpr ⟨e.2,hp.mem_iff.mpr (List.mem_map_of_mem he),by rw [ht];rfl⟩
 ·rw [List.length_map,hp.length_eq,← T.len]
  simp
theorem sorted_set {a:Addr} {ks:List Int} {Q:Value→Shared→Prop} (hh:A.handled=none) (hS:SetI (intKind prog w) s.heap a ks) (nd:ks.Nodup) (h64:ks.length<64)
  (hQ:∀ (out:List Value) (ns:List Int) (L:Addr) (h':Heap) (d:Drawn) (tk c:Nat),IntsAre out ns→ns.Perm ks→ns.Pairwise (·≤·)→s.heap.objs.size≤L→h'.get? L=some (seqObj "list" out.toArray c)→(∀ b o,s.heap.get? b=some o→h'.get? b=some o)→Q (.ref L) { s with heap:=h',drawn:=d,toks:=tk }) :
  wpAny (model prog w) A (call (.builtin "sorted") [.ref a]) Q E s:=by
 refine Calls.call_function_entry kind_sorted plain_sorted entry_sorted (args_sorted1 _) ?_
 unfold Builtin.«sorted»
 refine wpAny_bind (m:=checkCount "sorted" 1 1 _) (wpAny_pure ?_)
 refine wpAny_bind (collect_set (by simp [hh]) hS fun es t vs h1 d tk T hp hk hle=>?_)
 obtain ⟨i1,i2⟩:=T.perm nd hp
 have hvl:vs.length<64:=by rw [← List.length_map (f:=intVal),i2.length_eq];exact h64
 refine wpAny_bind (wpAny_newList ?_ (hsz:=by have:sizeLine=sizeLine:=rfl;exact Nat.le_trans (Nat.le_of_lt hvl) (by decide)))
 generalize hob:({ cls:=.type "list", data:=.seq vs.toArray }:Obj)=ob
 have hg:(h1.push ob).get? h1.objs.size=some ob:=Heap.get?_push_size _ (by subst hob;rfl)
 subst hob
 refine wpAny_bind (wpAny_holding (wpAny_call_entry slot_list_sort ⟨_,hg,rfl⟩ entry_list_sort (list_sort_tree (s:={ s with heap:=h1.push _,drawn:=d,toks:=tk }) hg i1 hvl fun out ns a1 a2 a3=>⟨_,rfl,?_⟩) (args_list_sort _)))
 refine wpAny_pure ⟨_,rfl,?_⟩
 obtain ⟨e1,g1⟩:∃ e1,((h1.push (seqObj "list" vs.toArray 0)).update h1.objs.size (Obj.mapSeq fun _=>#[])).get? h1.objs.size=some (seqObj "list" #[] e1):=⟨_,get?_update_seq hg fun _=>#[]⟩
 have g2:=get?_update_seq (Heap.get?_push_of_some (seqObj "list" #[] 0) (Heap.get?_push_of_some (seqObj "tuple" vs.toArray 0) g1)) fun _=>out
 refine hQ out.toList ns _ _ d tk _ a1 (a2.trans i2) a3 hle g2 fun b o e=>?_
 have hb:b<h1.objs.size:=Nat.lt_of_lt_of_le (Heap.lt_size e) hle
 have hne:h1.objs.size≠b:=Nat.ne_of_gt hb
 show (sortedHeap _ _ _ _).get? b=some o
 unfold sortedHeap
 rw [Heap.get?_update_other _ _ hne]
 refine Heap.get?_push_of_some _ (Heap.get?_push_of_some _ ?_)
 rw [Heap.get?_update_other _ _ hne]
 exact Heap.get?_push_of_some _ (hk b o e)
theorem call_setI {l:Addr} {vs:Array Value} {ns:List Int} {Q:Value→Shared→Prop} (hh:A.handled=none) (hl:s.heap.IsList l vs) (hi:IntsAre vs.toList ns) (hb:vs.size+1<scanBound)
  (h:∀ (h':Heap) (tk:Nat),SetI (intKind prog w) h' s.heap.objs.size (once ns)→(∀ b o,b<s.heap.objs.size→s.heap.get? b=some o→h'.get? b=some o)→Q (.ref s.heap.objs.size) { s with heap:=h',toks:=tk }) :
  wpAny (model prog w) A (call (.type "set") [.ref l]) Q E s:=by
 have hlen:ns.length=vs.size:=by rw [← IntsAre.length hi,Array.length_toList]
 refine call_set (knd:=intKind prog w) hh hl hlen (fun i v hv=>?_) hb h
 obtain ⟨t,rfl⟩:=IntsAre.int_at hi i v (by rw [Array.getElem?_toList];exact hv)
 have hlt:i<ns.length:=by
  rw [hlen]
  exact (Array.getElem?_eq_some_iff.mp hv).1
 refine ⟨ns[i],List.getElem?_eq_getElem hlt,?_,rfl⟩
 have:ns.getD i 0=ns[i]:=by simp [List.getD,hlt]
 rw [this]
 exact intKind_is _ _ _ _
theorem strs_at:∀ {vs:List Value} {ss:List Str},StrsAre vs ss→∀ (i:Nat) (v:Value),vs[i]?=some v→∃ x t,ss[i]?=some x∧v=.str x t
 | _,_,.nil,i,v,h=>by simp at h
 | _,_,.cons x t r,0,v,h=>by
  simp at h
  exact ⟨x,t,rfl,h.symm⟩
 | _,_,.cons x t r,i+1,v,h=>by
  obtain ⟨y,u,h1,h2⟩:=strs_at r i v (by simpa using h)
  exact ⟨y,u,by simpa using h1,h2⟩
theorem strs_len:∀ {vs:List Value} {ss:List Str},StrsAre vs ss→ss.length=vs.length
 | _,_,.nil=>rfl
 | _,_,.cons x t r=>by simp [strs_len r]
theorem call_setS {l:Addr} {vs:Array Value} {ss:List Str} {Q:Value→Shared→Prop} (hh:A.handled=none) (hl:s.heap.IsList l vs) (hi:StrsAre vs.toList ss) (hb:vs.size+1<scanBound)
  (h:∀ (h':Heap) (tk:Nat),SetI (PySem.strKind prog w) h' s.heap.objs.size (once ss)→(∀ b o,b<s.heap.objs.size→s.heap.get? b=some o→h'.get? b=some o)→Q (.ref s.heap.objs.size) { s with heap:=h',toks:=tk }) :
  wpAny (model prog w) A (call (.type "set") [.ref l]) Q E s:=by
 have hlen:ss.length=vs.size:=by rw [strs_len hi,Array.length_toList]
 refine call_set (knd:=PySem.strKind prog w) hh hl hlen (fun i v hv=>?_) hb h
 obtain ⟨x,t,h1,rfl⟩:=strs_at hi i v (by rw [Array.getElem?_toList];exact hv)
 exact ⟨x,h1,by simp [PySem.strKind,Value.isStrOf],rfl⟩
theorem STab.permS {es t} {ks:List Str} (T:STab (PySem.strKind prog w) es t ks) (nd:ks.Nodup) {vs:List Value} (hp:vs.Perm (es.toList.map (·.2))):StrsAre vs (vs.map strOf)∧(vs.map strOf).Perm ks:=by
 have hv:∀ v∈vs,∃ x t,v=.str x t:=by
  intro v hv
  obtain ⟨e,he,rfl⟩:=List.mem_map.mp (hp.mem_iff.mp hv)
  obtain ⟨⟨k,hk,_⟩,_⟩:=T.el e he
  obtain ⟨t,h⟩:=Value.isStrOf_shape hk
  exact ⟨k,t,h⟩
 refine ⟨strsAre_map vs hv,perm_of_sub nd (fun k hk=>?_) ?_⟩
 ·obtain ⟨e,he,h⟩:=(T.mem k).mp hk
  obtain ⟨t',ht⟩:=Value.isStrOf_shape h
  exact List.mem_map.mpr ⟨e.2,hp.mem_iff.mpr (List.mem_map_of_mem he),by rw [ht];rfl⟩
 ·rw [List.length_map,hp.length_eq,← T.len]
  simp
theorem sorted_setS {a:Addr} {ks:List Str} {Q:Value→Shared→Prop} (hh:A.handled=none) (hS:SetI (PySem.strKind prog w) s.heap a ks) (nd:ks.Nodup) (h64:ks.length<64)
  (hQ:∀ (out:List Value) (ns:List Str) (L:Addr) (h':Heap) (d:Drawn) (tk c:Nat),StrsAre out ns→ns.Perm ks→sortedS ns=true→s.heap.objs.size≤L→h'.get? L=some (seqObj "list" out.toArray c)→(∀ b o,s.heap.get? b=some o→h'.get? b=some o)→Q (.ref L) { s with heap:=h',drawn:=d,toks:=tk }) :
  wpAny (model prog w) A (call (.builtin "sorted") [.ref a]) Q E s:=by
 refine Calls.call_function_entry kind_sorted plain_sorted entry_sorted (args_sorted1 _) ?_
 unfold Builtin.«sorted»
 refine wpAny_bind (m:=checkCount "sorted" 1 1 _) (wpAny_pure ?_)
 refine wpAny_bind (collect_set (by simp [hh]) hS fun es t vs h1 d tk T hp hk hle=>?_)
 obtain ⟨i1,i2⟩:=T.permS nd hp
 have hvl:vs.length<64:=by rw [← List.length_map (f:=strOf),i2.length_eq];exact h64
 refine wpAny_bind (wpAny_newList ?_ (hsz:=by have:sizeLine=sizeLine:=rfl;exact Nat.le_trans (Nat.le_of_lt hvl) (by decide)))
 generalize hob:({ cls:=.type "list", data:=.seq vs.toArray }:Obj)=ob
 have hg:(h1.push ob).get? h1.objs.size=some ob:=Heap.get?_push_size _ (by subst hob;rfl)
 subst hob
 refine wpAny_bind (wpAny_holding (wpAny_call_entry slot_list_sort ⟨_,hg,rfl⟩ entry_list_sort (list_sort_treeK (s:={ s with heap:=h1.push _,drawn:=d,toks:=tk }) strKind_oneLt hg i1.keysOf (fun v₁ v₂ zp3 e=>keyKind_strs (by rw [← e];exact i1)) hvl fun st a1 a2=>⟨_,rfl,?_⟩) (args_list_sort _)))
 refine wpAny_pure ⟨_,rfl,?_⟩
 obtain ⟨ns,b1,b2,b3⟩:=sorted_out_str i1 a1 a2
 generalize Array.map (fun x=>x.2) (arrOf st)=out at b1 ⊢
 obtain ⟨e1,g1⟩:∃ e1,((h1.push (seqObj "list" vs.toArray 0)).update h1.objs.size (Obj.mapSeq fun _=>#[])).get? h1.objs.size=some (seqObj "list" #[] e1):=⟨_,get?_update_seq hg fun _=>#[]⟩
 have g2:=get?_update_seq (Heap.get?_push_of_some (seqObj "list" #[] 0) (Heap.get?_push_of_some (seqObj "tuple" vs.toArray 0) g1)) fun _=>out
 refine hQ out.toList ns _ _ d tk _ b1 (b2.trans i2) b3 hle g2 fun b o e=>?_
 have hb:b<h1.objs.size:=Nat.lt_of_lt_of_le (Heap.lt_size e) hle
 have hne:h1.objs.size≠b:=Nat.ne_of_gt hb
 show (sortedHeap _ _ _ _).get? b=some o
 unfold sortedHeap
 rw [Heap.get?_update_other _ _ hne]
 refine Heap.get?_push_of_some _ (Heap.get?_push_of_some _ ?_)
 rw [Heap.get?_update_other _ _ hne]
 exact Heap.get?_push_of_some _ (hk b o e)
end
end HT
namespace OR
open PySem L2
mutual
/-- a pure value stands at v;lv: the mutable objects' addresses -/
noncomputable def RP (K:Frag) (H:Hp) (lv:Addr→Prop):PV→V→Prop
 | .non,v=>v=.non
 | .bl b,v=>v=.bl b
 | .int i,v=>v=.int i
 | .str cs,v=>v=.str ⟨cs.toArray⟩∧cs.length≤sizeLine
 | .tup xs,v=>∃ a vs,v=.ref a∧SqT K H a vs∧RPs K H lv xs vs
 | .lst xs,v=>∃ a vs,v=.ref a∧SqL K H a vs∧¬ lv a∧RPs K H lv xs vs
noncomputable def RPs (K:Frag) (H:Hp) (lv:Addr→Prop):List PV→List V→Prop
 | [],vs=>vs=[]
 | x::r,vs=>∃ v vr,vs=v::vr∧RP K H lv x v∧RPs K H lv r vr
end
structure Al where
 adr:List Addr
 rsv:Addr→Prop
def zf1 (α:Al) (st:za6) (a:Addr):Prop:=α.rsv a∨∃ n o,α.adr[n]?=some a∧zb5 st n=some o∧o≠.dead
noncomputable def zu4:PV→Option Key
 | .int i=>some (.inl i)
 | .str cs=>some (.inr ⟨cs.toArray⟩)
 | _=>none
def RKV (K:Frag) (H:Hp) (lv:Addr→Prop):List (PV×PV)→List (Key×V)→Prop
 | [],l=>l=[]
 | (k,x)::r,l=>∃ k' v l',l=(k',v)::l'∧zu4 k=some k'∧RP K H lv x v∧RKV K H lv r l'
structure RSt (K:Frag) (α:Al) (st:za6) (H:Hp):Prop where
 len:α.adr.length=st.length
 lst:∀ n xs,zb5 st n=some (.lst xs)→∃ a vs,α.adr[n]?=some a∧H a=some (.lst vs)∧RPs K H (zf1 α st) xs vs
 dct:∀ n kvs,zb5 st n=some (.dct kvs)→∃ a l,α.adr[n]?=some a∧H a=some (.dK l)∧RKV K H (zf1 α st) kvs l
 inj:∀ (n m:Nat) a o o',n≠m→α.adr[n]?=some a→α.adr[m]?=some a→zb5 st n=some o→zb5 st m=some o'→o=.dead∨o'=.dead
 nk:∀ a,zf1 α st a→K.lookup a=none
 dis:∀ (n:Nat) a o,α.adr[n]?=some a→zb5 st n=some o→o≠.dead→¬ α.rsv a
 rsv:∀ a,α.rsv a→∃ vs,H a=some (.lst vs)
def RV (K:Frag) (α:Al) (st:za6) (H:Hp):Val→V→Prop
 | .p x,v=>RP K H (zf1 α st) x v
 | .ref n,v=>∃ a,v=.ref a∧α.adr[n]?=some a
structure Ext (K:Frag) (α:Al) (st:za6) (H:Hp) (α':Al) (st':za6) (H':Hp):Prop where
 pre:∀ (n:Nat) a,α.adr[n]?=some a→α'.adr[n]?=some a
 tup:∀ a vs,SqT K H a vs→SqT K H' a vs
 lst:∀ a vs,SqL K H a vs→¬ zf1 α st a→SqL K H' a vs∧¬ zf1 α' st' a
 rsv:α'.rsv=α.rsv
 raw:∀ a,α.rsv a→H' a=H a
section
variable {K:Frag} {α α' α2:Al} {st st' st2:za6} {H H' H2:Hp} {lv lv':Addr→Prop}
theorem Ext.refl:Ext K α st H α st H:=⟨fun _ _ h=>h,fun _ _ h=>h,fun _ _ h n=>⟨h,n⟩,rfl,fun _ _=>rfl⟩
theorem Ext.trans (a:Ext K α st H α' st' H') (b:Ext K α' st' H' α2 st2 H2):Ext K α st H α2 st2 H2 :=
 ⟨fun n x h=>b.pre n x (a.pre n x h),fun x vs h=>b.tup x vs (a.tup x vs h),fun x vs h n=>let ⟨h1,n1⟩:=a.lst x vs h n;b.lst x vs h1 n1,b.rsv.trans a.rsv,fun x h=>(b.raw x (by rw [a.rsv];exact h)).trans (a.raw x h)⟩
mutual
theorem RP.mono (ht:∀ a vs,SqT K H a vs→SqT K H' a vs) (hl:∀ a vs,SqL K H a vs→¬ lv a→SqL K H' a vs∧¬ lv' a):∀ (x:PV) (v:V),RP K H lv x v→RP K H' lv' x v
 | .non,v,h=>by rw [RP] at h ⊢;exact h
 | .bl b,v,h=>by rw [RP] at h ⊢;exact h
 | .int i,v,h=>by rw [RP] at h ⊢;exact h
 | .str cs,v,h=>by rw [RP] at h ⊢;exact h
 | .tup xs,v,h=>by
  rw [RP] at h ⊢
  obtain ⟨a,vs,e,q,r⟩:=h
  exact ⟨a,vs,e,ht a vs q,RPs.mono ht hl xs vs r⟩
 | .lst xs,v,h=>by
  rw [RP] at h ⊢
  obtain ⟨a,vs,e,q,n,r⟩:=h
  obtain ⟨q',n'⟩:=hl a vs q n
  exact ⟨a,vs,e,q',n',RPs.mono ht hl xs vs r⟩
theorem RPs.mono (ht:∀ a vs,SqT K H a vs→SqT K H' a vs) (hl:∀ a vs,SqL K H a vs→¬ lv a→SqL K H' a vs∧¬ lv' a):∀ (xs:List PV) (vs:List V),RPs K H lv xs vs→RPs K H' lv' xs vs
 | [],vs,h=>by rw [RPs] at h ⊢;exact h
 | x::r,vs,h=>by
  rw [RPs] at h ⊢
  obtain ⟨v,vr,e,q,t⟩:=h
  exact ⟨v,vr,e,RP.mono ht hl x v q,RPs.mono ht hl r vr t⟩
end
theorem RKV.mono (ht:∀ a vs,SqT K H a vs→SqT K H' a vs) (hl:∀ a vs,SqL K H a vs→¬ lv a→SqL K H' a vs∧¬ lv' a):∀ (kvs:List (PV×PV)) (l:List (Key×V)),RKV K H lv kvs l→RKV K H' lv' kvs l
 | [],l,h=>by rw [RKV] at h ⊢;exact h
 | (k,x)::r,l,h=>by
  rw [RKV] at h ⊢
  obtain ⟨k',v,l',e,ek,q,t⟩:=h
  exact ⟨k',v,l',e,ek,RP.mono ht hl x v q,RKV.mono ht hl r l' t⟩
theorem Ext.rp (e:Ext K α st H α' st' H') {x:PV} {v:V} (h:RP K H (zf1 α st) x v):RP K H' (zf1 α' st') x v:=RP.mono e.tup e.lst x v h
theorem Ext.rps (e:Ext K α st H α' st' H') {x:List PV} {v:List V} (h:RPs K H (zf1 α st) x v):RPs K H' (zf1 α' st') x v:=RPs.mono e.tup e.lst x v h
theorem Ext.rv (e:Ext K α st H α' st' H') {x:Val} {v:V} (h:RV K α st H x v):RV K α' st' H' x v:=by
 cases x with
 | p x=>exact e.rp h
 | ref n=>obtain ⟨a,h1,h2⟩:=h;exact ⟨a,h1,e.pre n a h2⟩
theorem SqT.same {a:Addr} {vs:List V} (s:zl3 H H') (h:SqT K H a vs):SqT K H' a vs:=by
 rcases h with (h | ⟨o,h⟩) | h
 ·exact .inl (.inl (s _ _ h))
 ·exact .inl (.inr ⟨o,s _ _ h⟩)
 ·exact .inr h
theorem Ext.of_same (r:RSt K α st H) (s:zl3 H H'):Ext K α st H α st H':=⟨fun _ _ h=>h,fun _ _ h=>SqT.same s h,fun _ _ h n=>⟨zl3.seq s h,n⟩,rfl,fun a ha=>by
 obtain ⟨vs,e⟩:=r.rsv a ha
 rw [e,s _ _ e]⟩
theorem RSt.same (s:zl3 H H') (r:RSt K α st H):RSt K α st H':=by
 refine ⟨r.len,fun n xs h=>?_,fun n kvs h=>?_,r.inj,r.nk,r.dis,fun a ha=>let ⟨vs,e⟩:=r.rsv a ha;⟨vs,s _ _ e⟩⟩
 ·obtain ⟨a,vs,h1,h2,h3⟩:=r.lst n xs h
  exact ⟨a,vs,h1,s _ _ h2,(Ext.of_same r s).rps h3⟩
 ·obtain ⟨a,vs,h1,h2,h3⟩:=r.dct n kvs h
  exact ⟨a,vs,h1,s _ _ h2,RKV.mono (fun _ _ h=>SqT.same s h) (fun _ _ h n=>⟨zl3.seq s h,n⟩) _ _ h3⟩
theorem ze8 {p:Addr} (h:H p=none) (o:HO):zl3 H (upd H p o):=fun b u q=>by rw [zd7 (zn8 q h)];exact q
theorem RSt.live (r:RSt K α st H) {a:Addr} (h:zf1 α st a):(∃ vs,H a=some (.lst vs))∨∃ l,H a=some (.dK l):=by
 rcases h with h | ⟨n,o,h1,h2,h3⟩
 ·exact .inl (r.rsv a h)
 cases o with
 | lst xs=>obtain ⟨a',vs,e1,e2,_⟩:=r.lst n xs h2;rw [h1] at e1;cases e1;exact .inl ⟨vs,e2⟩
 | dct kvs=>obtain ⟨a',vs,e1,e2,_⟩:=r.dct n kvs h2;rw [h1] at e1;cases e1;exact .inr ⟨vs,e2⟩
 | dead=>exact absurd rfl h3
theorem RSt.notlive (r:RSt K α st H) {a:Addr} (h:H a=none):¬ zf1 α st a:=fun l=>by
 rcases r.live l with ⟨_,e⟩ | ⟨_,e⟩ <;> rw [h] at e <;> cases e
theorem RPs.length:∀ {xs:List PV} {vs:List V},RPs K H lv xs vs→xs.length=vs.length
 | [],vs,h=>by rw [RPs] at h;subst h;rfl
 | x::r,vs,h=>by
  rw [RPs] at h
  obtain ⟨v,vr,e,_,t⟩:=h
  subst e
  simp [RPs.length t]
theorem RPs.get:∀ {xs:List PV} {vs:List V} {i:Nat} {x:PV},RPs K H lv xs vs→xs[i]?=some x→∃ v,vs[i]?=some v∧RP K H lv x v
 | [],_,_,_,_,e=>by simp at e
 | y::r,vs,0,x,h,e=>by
  rw [RPs] at h
  obtain ⟨v,vr,e',q,t⟩:=h
  subst e'
  simp at e;subst e
  exact ⟨v,rfl,q⟩
 | y::r,vs,i+1,x,h,e=>by
  rw [RPs] at h
  obtain ⟨v,vr,e',q,t⟩:=h
  subst e'
  obtain ⟨w,h1,h2⟩:=RPs.get (i:=i) (x:=x) t (by simpa using e)
  exact ⟨w,by simpa using h1,h2⟩
theorem RPs.append:∀ {xs ys:List PV} {vs ws:List V},RPs K H lv xs vs→RPs K H lv ys ws→RPs K H lv (xs++ys) (vs++ws)
 | [],_,vs,_,h,t=>by rw [RPs] at h;subst h;exact t
 | x::r,ys,vs,ws,h,t=>by
  rw [RPs] at h
  obtain ⟨v,vr,e,q,t'⟩:=h
  subst e
  rw [List.cons_append,List.cons_append,RPs]
  exact ⟨v,_,rfl,q,RPs.append t' t⟩
theorem RPs.snoc {xs:List PV} {vs:List V} {x:PV} {v:V} (h:RPs K H lv xs vs) (q:RP K H lv x v):RPs K H lv (xs++[x]) (vs++[v]) :=
 h.append (by rw [RPs];exact ⟨v,[],rfl,q,by rw [RPs]⟩)
theorem RPs.take:∀ (n:Nat) {xs:List PV} {vs:List V},RPs K H lv xs vs→RPs K H lv (xs.take n) (vs.take n)
 | 0,_,_,_=>by rw [List.take_zero,List.take_zero,RPs]
 | n+1,[],vs,h=>by rw [RPs] at h;subst h;rw [List.take_nil,List.take_nil,RPs]
 | n+1,x::r,vs,h=>by
  rw [RPs] at h
  obtain ⟨v,vr,e,q,t⟩:=h
  subst e
  rw [List.take_succ_cons,List.take_succ_cons,RPs]
  exact ⟨v,_,rfl,q,RPs.take n t⟩
theorem RPs.drop:∀ (n:Nat) {xs:List PV} {vs:List V},RPs K H lv xs vs→RPs K H lv (xs.drop n) (vs.drop n)
 | 0,_,_,h=>h
 | n+1,[],vs,h=>by rw [RPs] at h;subst h;rw [List.drop_nil,List.drop_nil,RPs]
 | n+1,x::r,vs,h=>by
  rw [RPs] at h
  obtain ⟨v,vr,e,q,t⟩:=h
  subst e
  exact RPs.drop n t
def RW (K:Frag) (α:Al) (st:za6) (H:Hp) (x:PV) (v:V):Prop :=
 RP K H (zf1 α st) x v∨∃ xs a vs,x=.lst xs∧v=.ref a∧SqL K H a vs∧RPs K H (zf1 α st) xs vs
theorem RV.view {x:Val} {v:V} {y:PV} (r:RSt K α st H) (h:RV K α st H x v) (e:view st x=some y):RW K α st H y v:=by
 cases x with
 | p z=>cases e;exact .inl h
 | ref n =>
  obtain ⟨a,rfl,ha⟩:=h
  have e:(match zb5 st n with | some (.lst xs)=>some (PV.lst xs) | _=>none)=some y:=e
  cases q:zb5 st n with
  | none=>rw [q] at e;cases e
  | some o =>
   cases o with
   | lst xs =>
    rw [q] at e
    cases e
    obtain ⟨a',vs,h1,h2,h3⟩:=r.lst n xs q
    rw [ha] at h1;cases h1
    exact .inr ⟨xs,a,vs,rfl,rfl,SqL.of h2,h3⟩
   | dct _=>rw [q] at e;cases e
   | dead=>rw [q] at e;cases e
end
structure Lk (K:Frag) (α:Al) (st:za6) (H:Hp) (α':Al) (st':za6) (H':Hp):Prop where
 pre:∀ (n:Nat) a,α.adr[n]?=some a→α'.adr[n]?=some a
 tup:∀ a vs,SqT K H a vs→SqT K H' a vs
 lst:∀ a vs,SqL K H a vs→¬ zf1 α st a→SqL K H' a vs∧¬ zf1 α' st' a
 sub:∀ a,α.rsv a→α'.rsv a
 raw:∀ a,α.rsv a→H' a=H a
theorem Lk.step {K:Frag} {α α' α2:Al} {st st' st2:za6} {H H' H2:Hp} (l:Lk K α st H α' st' H') (e:Ext K α' st' H' α2 st2 H2):Lk K α st H α2 st2 H2 :=
 ⟨fun n a h=>e.pre n a (l.pre n a h),fun a vs h=>e.tup a vs (l.tup a vs h),fun a vs h n=>let ⟨h1,n1⟩:=l.lst a vs h n;e.lst a vs h1 n1,fun a h=>by rw [e.rsv];exact l.sub a h,fun a h=>(e.raw a (l.sub a h)).trans (l.raw a h)⟩
theorem Ext.lk {K:Frag} {α α':Al} {st st':za6} {H H':Hp} (e:Ext K α st H α' st' H'):Lk K α st H α' st' H':=⟨e.pre,e.tup,e.lst,fun a h=>by rw [e.rsv];exact h,e.raw⟩
theorem Lk.rps {K:Frag} {α α':Al} {st st':za6} {H H':Hp} (e:Lk K α st H α' st' H') {x:List PV} {v:List V} (h:RPs K H (zf1 α st) x v):RPs K H' (zf1 α' st') x v:=RPs.mono e.tup e.lst x v h
open PySem L2
theorem Res.bind_inv {α β:Type} {r:Res α} {f:α→za6→Res β} {b:β} {st':za6} (h:r.bind f=.ok b st'):∃ a st1,r=.ok a st1∧f a st1=.ok b st':=by
 cases r with
 | ok a st1=>exact ⟨a,st1,rfl,h⟩
 | exn c as st=>cases h
 | stuck=>cases h
theorem Res.bindB_inv {β:Type} {r:Res Val} {f:Bool→za6→Res β} {b:β} {st':za6} (h:r.bindB f=.ok b st'):∃ k st1,r=.ok (.p (.bl k)) st1∧f k st1=.ok b st':=by
 obtain ⟨v,st1,h1,h2⟩:=Res.bind_inv h
 cases v with
 | ref n=>cases h2
 | p x =>
  cases x with
  | bl k=>exact ⟨k,st1,h1,h2⟩
  | _=>cases h2
theorem Res.bindP_inv {β:Type} {r:Res Val} {f:PV→za6→Res β} {b:β} {st':za6} (h:r.bindP f=.ok b st'):∃ x st1,r=.ok (.p x) st1∧f x st1=.ok b st':=by
 obtain ⟨v,st1,h1,h2⟩:=Res.bind_inv h
 cases v with
 | ref n=>cases h2
 | p x=>exact ⟨x,st1,h1,h2⟩
theorem Res.bindV_inv {β:Type} {r:Res Val} {f:PV→za6→Res β} {b:β} {st':za6} (h:r.bindV f=.ok b st'):∃ v x st1,r=.ok v st1∧view st1 v=some x∧f x st1=.ok b st':=by
 obtain ⟨v,st1,h1,h2⟩:=Res.bind_inv h
 cases e:view st1 v with
 | none=>rw [e] at h2;cases h2
 | some x=>rw [e] at h2;exact ⟨v,x,st1,h1,e,h2⟩
theorem zI0 {o:Option PV} {st st':za6} {v:Val} (h:okO o st=.ok v st'):∃ x,o=some x∧v=.p x∧st'=st:=by
 cases o with
 | none=>cases h
 | some x=>cases h;exact ⟨x,rfl,rfl,rfl⟩
theorem yJ2 {f:PV→Option PV} {v:Val} {st st':za6} {z:Val} (h:op1 f v st=.ok z st'):∃ x y,view st v=some x∧f x=some y∧z=.p y∧st'=st:=by
 unfold op1 at h
 cases e:view st v with
 | none=>rw [e] at h;cases h
 | some x =>
  rw [e] at h
  obtain ⟨y,h1,h2,h3⟩:=zI0 h
  exact ⟨x,y,rfl,h1,h2,h3⟩
theorem zY6 {f:PV→PV→Option PV} {v w:Val} {st st':za6} {z:Val} (h:op2 f v w st=.ok z st'):∃ x y u,view st v=some x∧view st w=some y∧f x y=some u∧z=.p u∧st'=st:=by
 unfold op2 at h
 cases e:view st v with
 | none=>rw [e] at h;cases h
 | some x =>
  rw [e] at h
  cases e2:view st w with
  | none=>rw [e2] at h;cases h
  | some y =>
   rw [e2] at h
   obtain ⟨u,h1,h2,h3⟩:=zI0 h
   exact ⟨x,y,u,rfl,rfl,h1,h2,h3⟩
structure At (K:Frag) (α:Al) (st:za6) (H:Hp) (env:Env) (σ:L2.St):Prop where
 len:env.length=σ.length
 rs:RSt K α st H
 env:∀ (i:Nat) v,env[i]?=some (some v)→∃ w,σ[i]?=some (some w)∧RV K α st H v w
theorem At.next {K:Frag} {α α':Al} {st st':za6} {H H':Hp} {env:Env} {σ:L2.St} (a:At K α st H env σ) (e:Ext K α st H α' st' H') (r:RSt K α' st' H'):At K α' st' H' env σ :=
 ⟨a.len,r,fun i v h=>let ⟨w,h1,h2⟩:=a.env i v h;⟨w,h1,e.rv h2⟩⟩
noncomputable def tP (K:Frag) (C:zb9) (ir:E):TE:=fun σ H Q=>∃ env α st v st',At K α st H env σ∧evalE C ir env st=.ok v st' ∧
 ∀ w H' α',Ext K α st H α' st' H'→RSt K α' st' H'→RV K α' st' H' v w→Q w H'
noncomputable def tT (K:Frag) (C:zb9) (ir:E):TT:=fun σ H Q=>∃ env α st b st',At K α st H env σ∧evalE C ir env st=.ok (.p (.bl b)) st' ∧
 ∀ H' α',Ext K α st H α' st' H'→RSt K α' st' H'→Q b H'
noncomputable abbrev SE (X:Cx) (C:zb9) (e:Expr) (ir:E):Prop:=PE X e (tP X.K C ir)
noncomputable abbrev ST (X:Cx) (C:zb9) (e:Expr) (ir:E):Prop:=PT X e (tT X.K C ir)
theorem PE.mono {X:Cx} {e:Expr} {t t':TE} (h:PE X e t) (m:∀ σ H Q,t' σ H Q→t σ H Q):PE X e t':=fun pins s σ H Q I q=>h pins s σ H Q I (m _ _ _ q)
theorem PT.mono {X:Cx} {e:Expr} {t t':TT} (h:PT X e t) (m:∀ σ H Q,t' σ H Q→t σ H Q):PT X e t':=fun pins s σ H Q I q=>h pins s σ H Q I (m _ _ _ q)
theorem PW.mono {X:Cx} {e:Expr} {t t':TT} (h:PW X e t) (m:∀ σ H Q,t' σ H Q→t σ H Q):PW X e t':=fun wh pins s σ H Q I q=>h wh pins s σ H Q I (m _ _ _ q)
section
variable {X:Cx} {C:zb9} {a b c:Expr} {ia ib ic:E} {pos:Pos}
theorem xg7 {K:Frag} {ir:E} {σ:L2.St} {H:Hp} {Q:Bool→Hp→Prop} (h:tT K C ir σ H Q):tB (tP K C ir) σ H Q:=by
 obtain ⟨env,α,st,b,st',a,e,q⟩:=h
 exact ⟨env,α,st,_,st',a,e,fun w H' α' x r v=>by
  have v':w=.bl b:=by simpa [RV,RP] using v
  exact ⟨b,v',q H' α' x r⟩⟩
theorem yV4 {e:Expr} {ir:E} (h:SE X C e ir) (he:∀ whole,isTrue e X.env whole=(do let v ← whole;standAt e.pos;holding [v] (truthy v))):ST X C e ir :=
 PT.mono (yT7 h he) fun _ _ _ q=>xg7 q
theorem yS8 {i:Nat} {x:Str} (hN:X.N[i]?=some x) (hv:Vis X.env.scope x) (hd:(x==("__debug__" : Str))=false) (hcd:(x==("__classdict__" : Str))=false):SE X C (.Name x pos) (.var i) :=
 PE.mono (yB7 hN hv hd hcd) fun σ H Q h_=>by
  obtain ⟨env,α,st,v,st',a,e,q⟩:=h_
  rw [yX0] at e
  unfold zK1 at e
  cases h:env[i]? with
  | none=>rw [h] at e;cases e
  | some o =>
   cases o with
   | none=>rw [h] at e;cases e
   | some u =>
    rw [h] at e
    cases e
    obtain ⟨w,h1,h2⟩:=a.env i _ h
    exact ⟨w,h1,q w H α .refl a.rs h2⟩
theorem yR4 {e:Expr} {v:V} {x:PV} (h:PE X e (tC v)) (r:∀ H lv,RP X.K H lv x v):SE X C e (.const x) :=
 PE.mono h fun σ H Q h_=>by
  obtain ⟨env,α,st,u,st',a,e,q⟩:=h_
  rw [yy6] at e
  cases e
  exact q v H α .refl a.rs (r _ _)
theorem yR9 {i j}:SE X C (.Constant (.int i) j pos) (.const (.int i)):=yR4 yU0 fun _ _=>by rw [RP]
theorem xg6 {i j}:SE X C (.Constant (.bool i) j pos) (.const (.bl i)):=yR4 xe2 fun _ _=>by rw [RP]
theorem yN6 {j}:SE X C (.Constant .none j pos) (.const .non):=yR4 yN0 fun _ _=>by rw [RP]
theorem yQ2 {x j} {cs:List Nat} (h:x=⟨cs.toArray⟩) (hl:cs.length≤1000):SE X C (.Constant (.str x) j pos) (.const (.str cs)):=yR4 yU3 fun _ _=>by
 rw [RP];exact ⟨by rw [h],Nat.le_trans hl (by decide)⟩
def Op2 (X:Cx) (f:Value→Value→Sem Value) (g:PV→PV→Option PV):Prop :=
 OpR X f fun x y H Q=>∃ α st px py z,RSt X.K α st H∧RW X.K α st H px x∧RW X.K α st H py y∧g px py=some z ∧
  ∀ w H',zl3 H H'→RP X.K H' (zf1 α st) z w→Q w H'
theorem xd2 {op:Operator} {g:PV→PV→Option PV} {ir:E} (ho:Op2 X (binaryOp op) g) (ha:SE X C a ia) (hb:SE X C b ib)
  (hi:∀ env st,evalE C ir env st=(evalE C ia env st).bind fun x st=>(evalE C ib env st).bind fun y st=>op2 g x y st):SE X C (.BinOp a op b pos) ir :=
 PE.mono (xb5 ho ha hb) fun σ H Q h_=>by
  obtain ⟨env,α,st,v,st',at',e,q⟩:=h_
  rw [hi] at e
  obtain ⟨va,st1,e1,e⟩:=Res.bind_inv e
  obtain ⟨vb,st2,e2,e⟩:=Res.bind_inv e
  obtain ⟨x,y,u,h1,h2,h3,h4,h5⟩:=zY6 e
  subst h4 h5
  refine ⟨env,α,st,va,st1,at',e1,fun w H1 α1 x1 r1 v1=>?_⟩
  refine ⟨env,α1,st1,vb,st',at'.next x1 r1,e2,fun w2 H2 α2 x2 r2 v2=>?_⟩
  refine ⟨α2,st',x,y,u,r2,(x2.rv v1).view r2 h1,v2.view r2 h2,h3,fun w3 H3 s3 rp=>?_⟩
  exact q w3 H3 α2 (x1.trans (x2.trans (.of_same r2 s3))) (r2.same s3) rp
theorem yT4 {op:CmpOp} {g:PV→PV→Option PV} {ir:E} (ho:Op2 X (compareOp op) g) (ha:SE X C a ia) (hb:SE X C b ib) (hm:behindInMarks op b=false)
  (hi:∀ env st,evalE C ir env st=(evalE C ia env st).bind fun x st=>(evalE C ib env st).bind fun y st=>op2 g x y st):SE X C (.Compare a [op] [b] pos) ir :=
 PE.mono (yK4 ho ha hb hm) fun σ H Q h_=>by
  obtain ⟨env,α,st,v,st',at',e,q⟩:=h_
  rw [hi] at e
  obtain ⟨va,st1,e1,e⟩:=Res.bind_inv e
  obtain ⟨vb,st2,e2,e⟩:=Res.bind_inv e
  obtain ⟨x,y,u,h1,h2,h3,h4,h5⟩:=zY6 e
  subst h4 h5
  refine ⟨env,α,st,va,st1,at',e1,fun w H1 α1 x1 r1 v1=>?_⟩
  refine ⟨env,α1,st1,vb,st',at'.next x1 r1,e2,fun w2 H2 α2 x2 r2 v2=>?_⟩
  refine ⟨α2,st',x,y,u,r2,(x2.rv v1).view r2 h1,v2.view r2 h2,h3,fun w3 H3 s3 rp=>?_⟩
  exact q w3 H3 α2 (x1.trans (x2.trans (.of_same r2 s3))) (r2.same s3) rp
end
open PySem L2 PySem.SeqAt PyProof.Rows
theorem xe1 (a:Int) (t:Tok) (l:Addr) (is:Array Value) (n:Nat) (dd:Option Addr) (sl:Array (Option Value)) :
  Meets (Builtin.«int.__rmul__» ⟨[.int a t,.ref l],[]⟩) (fun _ R s=>s.heap.get? l=some { cls:=.type "list", dict:=dd,data:=.seq is n,slots:=sl } ∧
   R (.ok (.ret Value.notImplemented)) s) :=
 .of_wp fun prog w A R s0 hh=>by
  obtain ⟨hp,gg,dw,tk,oo⟩:=s0
  obtain ⟨k1,k2⟩:=hh
  wp_walk
  exact ⟨_,rfl,k2⟩
theorem mulW (l:Addr) (is:Array Value) (n:Nat) (x:Int) (u:Tok) (dd:Option Addr) (sl:Array (Option Value)) (h0:¬(!Builtin.List.listFitsIndex x)=true) (h1:¬is.size * x.toNat > (2 ^ 63 - 1) / 8) (h2:¬Builtin.List.listTooLong (is.size * x.toNat)=true) :
  Meets (Builtin.«list.__mul__» ⟨[.ref l,.int x u],[]⟩) (fun _ R s=>s.heap.get? l=some { cls:=.type "list", dict:=dd,data:=.seq is n,slots:=sl } ∧
   R (.ok (.ret (Value.ref s.heap.objs.size))) { s with heap:=s.heap.push { cls:=.type "list", data:=.seq (List.foldl (fun x1 x2=>x1++x2) #[] (List.replicate (if is.isEmpty=true then 0 else x.toNat) is)) },toks:=s.toks }) :=
 .of_wp fun prog w A R s0 hh=>by
  obtain ⟨hp,gg,dw,tk,oo⟩:=s0
  obtain ⟨k1,k2⟩:=hh
  have g1:=AutoSeq1.idx_int
  have g2:=AutoListH.joined_fits h2
  wp_walk using AutoSeq1.wpAny_loadPart' k1
  refine wpAny_ite_false (decide_eq_false (Nat.not_lt.mpr g2)) ?_
  wp_walk using AutoSeq1.wpAny_loadPart' k1
  exact ⟨_,rfl,k2⟩
open PySem L2 PySem.SeqAt
section
variable {K:Frag} {α:Al} {st:za6} {H:Hp} {x:V}
theorem RW.int {i:Int} (h:RW K α st H (.int i) x):x=.int i:=by
 rcases h with h | ⟨_,_,_,e,_⟩
 ·rw [RP] at h;exact h
 ·cases e
theorem RW.bl {b:Bool} (h:RW K α st H (.bl b) x):x=.bl b:=by
 rcases h with h | ⟨_,_,_,e,_⟩
 ·rw [RP] at h;exact h
 ·cases e
theorem RW.non (h:RW K α st H .non x):x=.non:=by
 rcases h with h | ⟨_,_,_,e,_⟩
 ·rw [RP] at h;exact h
 ·cases e
theorem RW.str {cs:List Nat} (h:RW K α st H (.str cs) x):x=.str ⟨cs.toArray⟩∧cs.length≤sizeLine:=by
 rcases h with h | ⟨_,_,_,e,_⟩
 ·rw [RP] at h;exact h
 ·cases e
theorem RW.tup {xs:List PV} (h:RW K α st H (.tup xs) x):∃ a vs,x=.ref a∧SqT K H a vs∧RPs K H (zf1 α st) xs vs:=by
 rcases h with h | ⟨_,_,_,e,_⟩
 ·rw [RP] at h;exact h
 ·cases e
theorem RW.lst {xs:List PV} (h:RW K α st H (.lst xs) x):∃ a vs,x=.ref a∧SqL K H a vs∧RPs K H (zf1 α st) xs vs:=by
 rcases h with h | ⟨xs',a,vs,e,e2,q,r⟩
 ·rw [RP] at h
  obtain ⟨a,vs,e,q,_,r⟩:=h
  exact ⟨a,vs,e,q,r⟩
 ·cases e;exact ⟨a,vs,e2,q,r⟩
theorem zQ7:SZ=sizeLine:=by unfold SZ;decide
end
section
variable {X:Cx}
theorem Op2.ints {f:Value→Value→Sem Value} {Cn:Int→Int→Prop} {k:Int→Int→V} {g:PV→PV→Option PV} (ho:OpR X f (rI Cn k))
  (hg:∀ x y z,g x y=some z→∃ i j,x=.int i∧y=.int j∧Cn i j∧∀ H lv,RP X.K H lv z (k i j)):Op2 X f g:=by
 rintro pins s σ H x y v u Q I rx ry ⟨α,st,px,py,z,r,hx,hy,hz,q⟩
 obtain ⟨i,j,rfl,rfl,hc,hk⟩:=hg _ _ _ hz
 exact ho pins s σ H x y v u Q I rx ry ⟨i,j,hx.int,hy.int,hc,q _ _ (zl3.refl H) (hk _ _)⟩
theorem Op2.ints0 {f:Value→Value→Sem Value} {k:Int→Int→V} {g:PV→PV→Option PV} (ho:OpR X f (rI0 k))
  (hg:∀ x y z,g x y=some z→∃ i j,x=.int i∧y=.int j∧∀ H lv,RP X.K H lv z (k i j)):Op2 X f g:=by
 rintro pins s σ H x y v u Q I rx ry ⟨α,st,px,py,z,r,hx,hy,hz,q⟩
 obtain ⟨i,j,rfl,rfl,hk⟩:=hg _ _ _ hz
 exact ho pins s σ H x y v u Q I rx ry ⟨i,j,hx.int,hy.int,q _ _ (zl3.refl H) (hk _ _)⟩
theorem yH0:Op2 X (binaryOp .Sub) bSub:=Op2.ints0 yO6 fun x y z h=>by
 cases x <;> cases y <;> simp [bSub] at h
 exact ⟨_,_,rfl,rfl,fun _ _=>by rw [← h,RP]⟩
theorem yY1:OpR X (binaryOp .Mult) (fun x y H Q=>∃ i j,x=.int i∧y=.int j∧(zj3 i || zj3 j)=true∧Q (.int (i * j)) H):=by
 rintro pins s σ H x y v u Q I rx ry ⟨i,j,h1,h2,hc,q⟩
 refine yP1 pins s σ H x y v u Q I rx ry ⟨i,j,h1,h2,?_,q⟩
 rcases (Bool.or_eq_true _ _).mp hc with c | c
 ·exact .inl (of_decide_eq_true c)
 ·exact .inr (of_decide_eq_true c)
theorem yi8 (n:Nat) (a:List Nat):(List.replicate n a.toArray).foldl (· ++ ·) #[]=((List.replicate n a).flatten).toArray:=by
 have gen:∀ (n:Nat) (b:List Nat),(List.replicate n a.toArray).foldl (· ++ ·) b.toArray=(b++(List.replicate n a).flatten).toArray:=by
  intro n
  induction n with
  | zero=>intro b;simp
  | succ n ih =>
   intro b
   rw [List.replicate_succ,List.foldl_cons,List.append_toArray,ih,List.replicate_succ,List.flatten_cons,List.append_assoc]
 exact gen n []
theorem yc4 (n:Nat) (a:List Nat):(List.replicate n a).flatten.length=a.length * n:=by
 rw [List.length_flatten,List.map_replicate,List.sum_replicate_nat,Nat.mul_comm]
theorem zD8 (cs:List Nat):(Str.length ⟨cs.toArray⟩)=cs.length:=by simp [Str.length]
theorem zX9 (n:Nat) (a:List Value):(List.replicate n a.toArray).foldl (fun x1 x2=>x1++x2) #[]=((List.replicate n a).flatten).toArray:=by
 have gen:∀ (n:Nat) (b:List Value),(List.replicate n a.toArray).foldl (fun x1 x2=>x1++x2) b.toArray=(b++(List.replicate n a).flatten).toArray:=by
  intro n
  induction n with
  | zero=>intro b;simp
  | succ n ih =>
   intro b
   rw [List.replicate_succ,List.foldl_cons,List.append_toArray,ih,List.replicate_succ,List.flatten_cons,List.append_assoc]
 exact gen n []
theorem ys6 {α:Type} (n:Nat) (a:List α):(List.replicate n a).flatten.length=a.length * n:=by
 rw [List.length_flatten,List.map_replicate,List.sum_replicate_nat,Nat.mul_comm]
theorem zU1 {vs:List V} {its:List Value} (h:zh0 vs its):∀ n:Nat,zh0 (List.replicate n vs).flatten (List.replicate n its).flatten
 | 0=>.nil
 | n+1=>by rw [List.replicate_succ,List.replicate_succ,List.flatten_cons,List.flatten_cons];exact h.append (zU1 h n)
theorem yb5 {K:Frag} {H:Hp} {lv:Addr→Prop} {xs:List PV} {vs:List V} (h:RPs K H lv xs vs):∀ n:Nat,RPs K H lv (List.replicate n xs).flatten (List.replicate n vs).flatten
 | 0=>by simp [RPs]
 | n+1=>by rw [List.replicate_succ,List.replicate_succ,List.flatten_cons,List.flatten_cons];exact h.append (yb5 h n)
theorem zY8:Op2 X (binaryOp .Mult) bMul:=by
 rintro pins s σ H x y v u Q I rx ry ⟨α,st,px,py,z,r,hx,hy,hz,q⟩
 cases px <;> cases py <;> simp only [bMul,Option.ite_none_right_eq_some,reduceCtorEq,Option.some.injEq] at hz
 ·obtain ⟨hc,hz⟩:=hz
  exact yY1 pins s σ H x y v u Q I rx ry ⟨_,_,hx.int,hy.int,hc,q _ _ (zl3.refl H) (by rw [← hz,RP])⟩
 ·rename_i a n
  obtain ⟨⟨h0,h1,h2⟩,hz⟩:=hz
  rw [zQ7] at h2
  obtain ⟨e1,hl⟩:=hx.str
  have e2:=hy.int
  subst e1 e2
  obtain ⟨t1,rfl⟩:=rx
  obtain ⟨t2,rfl⟩:=ry
  have hsz:sizeLine=16777216:=by decide
  refine PySem.P.mul_str (by simp;lia) (fun g1 g2=>?_) (fun g1 g2=>?_) ?_
  ·rw [zD8]
   have:(16777216:Int)≤(2 ^ 63 - 1) / n:=by
    rw [Int.le_ediv_iff_mul_le (by lia)]
    lia
   lia
  ·rw [zD8]
   unfold Builtin.Str.tooLong
   exact decide_eq_false (by lia)
  ·split
   ·have e0:n=0:=by lia
    subst e0
    exact ⟨by decide,.str _,H,I.tok _,⟨_,rfl⟩,q _ _ (zl3.refl H) (by rw [← hz,RP];exact ⟨by rfl,by simp⟩)⟩
   ·split
    ·rename_i g1 g2
     refine ⟨.str _,H,I,⟨_,rfl⟩,q _ _ (zl3.refl H) ?_⟩
     rw [← hz,RP]
     rcases (Bool.or_eq_true _ _).mp g2 with c | c
     ·have c':n=1:=eq_of_beq c
      subst c'
      have:(List.replicate (1:Int).toNat a).flatten=a:=by simp
      rw [this]
      exact ⟨rfl,hl⟩
     ·have c':a.length=0:=by rw [zD8] at c;exact eq_of_beq c
      have c2:a=[]:=List.eq_nil_of_length_eq_zero c'
      subst c2
      have:(List.replicate n.toNat ([]:List Nat)).flatten=[]:=by simp
      rw [this]
      exact ⟨rfl,by simp⟩
    ·have e3:(List.replicate n.toNat (⟨a.toArray⟩:Str).cps).foldl (· ++ ·) #[]=((List.replicate n.toNat a).flatten).toArray:=yi8 n.toNat a
     rw [e3]
     exact ⟨by rw [zD8,yc4];exact h2,.str _,H,I.tok _,⟨_,rfl⟩,q _ _ (zl3.refl H) (by rw [← hz,RP];exact ⟨rfl,by rw [yc4];exact h2⟩)⟩
 ·rename_i a n
  obtain ⟨⟨h0,h1,h2⟩,hz⟩:=hz
  rw [zQ7] at h2
  have hsz:sizeLine=16777216:=by decide
  obtain ⟨l1,vs,rfl,hl1,hl2⟩:=hx.lst
  have e2:=hy.int
  subst e2
  cases rx
  obtain ⟨t2,rfl⟩:=ry
  obtain ⟨its,r1,p1,_⟩:=I.list hl1
  obtain ⟨⟨cls,dd,data,sl⟩,nn,ho,hc,_,hd⟩:=id p1
  simp only at hc hd
  subst hc hd
  have q1:=r1.length
  have q2:=hl2.length
  have hsize:its.toArray.size * n.toNat≤16777216:=by rw [List.size_toArray,← q1,← q2];lia
  have ty:∀ s':Shared,s'.TypeIs (Value.int n t2) "int" := fun s'=>typeIs_int s' n t2
  have inner:wpAny (model X.prog X.w) X.A (call (.builtin "list.__mul__") [.ref l1,.int n t2]) (EP X pins σ Q) X.xe s:=by
   refine call_meets F.slot_list_mul ⟨_,ho,rfl⟩ F.entry_list_mul (F.args_list_mul_2 _ _)
    (mulW l1 its.toArray nn n t2 dd sl (by simp [Builtin.List.listFitsIndex];lia) (by lia) (by simp only [Builtin.List.listTooLong,hsz];simpa using hsize)) ⟨ho,?_⟩
   have ea:List.foldl (fun x1 x2=>x1++x2) #[] (List.replicate (if its.toArray.isEmpty=true then 0 else n.toNat) its.toArray)=((List.replicate n.toNat its).flatten).toArray:=by
    by_cases hb:its=[]
    ·subst hb
     simp
    ·rw [if_neg (by simpa using hb)]
     exact zX9 _ _
   rw [ea]
   have s1:zl3 H (upd H s.heap.objs.size (.lst (List.replicate n.toNat vs).flatten)):=ze8 I.fresh _
   refine ⟨.ref _,_,I.lnew (t':=s.toks) (zU1 r1 n.toNat) (by rw [ys6,← q2];lia),rfl,q _ _ s1 ?_⟩
   rw [← hz,RP]
   exact ⟨_,_,rfl,SqL.of zd3,r.notlive I.fresh,yb5 ((Ext.of_same r s1).rps hl2) n.toNat⟩
  exact wpAny_binaryOp_repeat_ref (T := "list") (U := "int") (by decide) ⟨_,ho,rfl⟩ ty noFill_list_mul F.fills_int_mul F.slot_int_rmul repeat_list
   F.slot_int_index.lookup (call_meets F.slot_int_rmul (ty s) F.entry_int_rmul (F.args_int_rmul_2 _ _) (xe1 n t2 l1 its.toArray nn dd sl) ⟨ho,rfl,⟨_,ho,rfl⟩,inner⟩)
theorem yv3:OpR X (binaryOp .FloorDiv) (rI (fun _ j=>0<j∧j<1000000000000000000000000000000) fun i j=>.int (i / j)):=opI fun i j _ _ _ _ _ hc q=>by
 have h1:(0:Int)<j:=hc.1
 have h2:j<1000000000000000000000000000000:=hc.2
 refine PyProof.Rows.floordiv_int (by lia) (by rw [Int.fdiv_eq_ediv_of_nonneg i (by lia)];exact q) (.inl (PyProof.noPylong_of_log2 ?_))
 have h3:j.natAbs.log2<100:=(Nat.log2_lt (by lia)).mpr (by lia)
 lia
theorem yD8:Op2 X (binaryOp .FloorDiv) yT5:=Op2.ints yv3 fun x y z h=>by
 cases x <;> cases y <;> simp only [yT5,Option.ite_none_right_eq_some,reduceCtorEq,Option.some.injEq] at h
 exact ⟨_,_,rfl,rfl,h.1,fun _ _=>by rw [← h.2,RP]⟩
theorem zK2:Op2 X (binaryOp .Mod) bMod:=Op2.ints yU4 fun x y z h=>by
 cases x <;> cases y <;> simp only [bMod,Option.ite_none_right_eq_some,reduceCtorEq,Option.some.injEq] at h
 exact ⟨_,_,rfl,rfl,h.1,fun _ _=>by rw [← h.2,RP]⟩
theorem yE3:Op2 X (binaryOp .Pow) bPow:=Op2.ints yW2 fun x y z h=>by
 cases x <;> cases y <;> simp only [bPow,Option.ite_none_right_eq_some,reduceCtorEq,Option.some.injEq] at h
 obtain ⟨⟨h1,h2,h3⟩,h⟩:=h
 refine ⟨_,_,rfl,rfl,⟨h1,h2,?_⟩,fun _ _=>by rw [← h,RP]⟩
 have:=of_decide_eq_true h3
 lia
theorem xa3:Op2 X (compareOp .Lt) (yt8 fun i j=>decide (i<j)):=Op2.ints0 xc6 fun x y z h=>by
 cases x <;> cases y <;> simp only [yt8,reduceCtorEq,Option.some.injEq] at h
 exact ⟨_,_,rfl,rfl,fun _ _=>by rw [← h,RP]⟩
theorem o_gt:Op2 X (compareOp .Gt) (yt8 fun i j=>decide (j<i)):=Op2.ints0 xe5 fun x y z h=>by
 cases x <;> cases y <;> simp only [yt8,reduceCtorEq,Option.some.injEq] at h
 exact ⟨_,_,rfl,rfl,fun _ _=>by rw [← h,RP]⟩
theorem o_ge:Op2 X (compareOp .GtE) (yt8 fun i j=>decide (j≤i)):=Op2.ints0 xh5 fun x y z h=>by
 cases x <;> cases y <;> simp only [yt8,reduceCtorEq,Option.some.injEq] at h
 exact ⟨_,_,rfl,rfl,fun _ _=>by rw [← h,RP]⟩
theorem zl8 (cs:List Nat):(Str.length ⟨cs.toArray⟩)=cs.length:=by simp [Str.length]
theorem yF6 (a b:List Nat):((⟨a.toArray⟩:Str)++(⟨b.toArray⟩:Str))=⟨(a++b).toArray⟩:=by
 show (Str.mk (a.toArray++b.toArray))=_
 simp
theorem zi8:Op2 X (binaryOp .Add) bAdd:=by
 rintro pins s σ H x y v u Q I rx ry ⟨α,st,px,py,z,r,hx,hy,hz,q⟩
 cases px <;> cases py <;> simp only [bAdd,Option.ite_none_right_eq_some,reduceCtorEq,Option.some.injEq] at hz
 ·exact yP9 pins s σ H x y v u Q I rx ry ⟨_,_,hx.int,hy.int,q _ _ (zl3.refl H) (by rw [← hz,RP])⟩
 ·rename_i a b
  obtain ⟨hl,hz⟩:=hz
  rw [zQ7] at hl
  refine yi6 pins s σ H x y v u Q I rx ry ⟨_,_,hx.str.1,hy.str.1,by rw [zl8,zl8];exact hl,?_⟩
  rw [yF6]
  exact q _ _ (zl3.refl H) (by rw [← hz,RP];exact ⟨rfl,by rw [List.length_append];exact hl⟩)
 ·rename_i a b
  obtain ⟨hl,hz⟩:=hz
  rw [zQ7] at hl
  obtain ⟨l1,vs,rfl,h1,h2⟩:=hx.tup
  obtain ⟨l2,ws,rfl,h3,h4⟩:=hy.tup
  have e1:=h2.length
  have e2:=h4.length
  by_cases hn:a=[]
  ·subst hn
   have ev:vs=[]:=List.eq_nil_of_length_eq_zero (by simpa using e1.symm)
   subst ev
   cases rx
   cases ry
   obtain ⟨its,r1,p1,_⟩:=I.tuple h1
   obtain ⟨its2,r2,p2,_⟩:=I.tuple h3
   have ei:its=[]:=List.eq_nil_of_length_eq_zero (by simpa using r1.length.symm)
   subst ei
   obtain ⟨⟨cls,dd,data,sl⟩,ho,hc,n,hd⟩:=id p1
   obtain ⟨⟨cls2,dd2,data2,sl2⟩,ho2,hc2,n2,hd2⟩:=id p2
   simp only at hc hd hc2 hd2
   subst hc hd hc2 hd2
   refine PySem.concat_meets ⟨_,ho,rfl⟩ ⟨_,ho2,rfl⟩ PySem.noFill_tuple_add PySem.seq_tuple_add PySem.F.slot_tuple_add PySem.F.entry_tuple_add (PySem.F.args_tuple_add_2 _ _) (PyProof.Rows.tuple_addW0 l1 l2 _ its2.toArray n n2 dd dd2 sl sl2 (by simp)) ⟨ho,ho2,?_⟩
   exact ⟨.ref l2,H,I,rfl,q _ _ (zl3.refl H) (by rw [← hz,RP,List.nil_append];exact ⟨l2,ws,rfl,h3,h4⟩)⟩
  refine yF0 pins s σ H _ _ v u Q I rx ry ⟨l1,l2,vs,ws,rfl,rfl,h1,h3,fun e=>hn (by subst e;simpa using e1),by lia,fun e=>?_,fun e p hp=>?_⟩
  ·subst e
   have:b=[]:=by simpa using e2
   subst this
   exact q _ _ (zl3.refl H) (by rw [← hz,RP,List.append_nil];exact ⟨l1,vs,rfl,h1,h2⟩)
  ·have s1:zl3 H (upd H p (.tup (vs++ws))):=ze8 hp _
   refine q _ _ s1 ?_
   rw [← hz,RP]
   exact ⟨p,_,rfl,SqT.of zd3,((Ext.of_same r s1).rps h2).append ((Ext.of_same r s1).rps h4)⟩
 ·rename_i a b
  obtain ⟨hl,hz⟩:=hz
  rw [zQ7] at hl
  obtain ⟨l1,vs,rfl,h1,h2⟩:=hx.lst
  obtain ⟨l2,ws,rfl,h3,h4⟩:=hy.lst
  have e1:=h2.length
  have e2:=h4.length
  cases rx
  cases ry
  obtain ⟨its,r1,p1,_⟩:=I.list h1
  obtain ⟨its2,r2,p2,_⟩:=I.list h3
  obtain ⟨⟨cls,dd,data,sl⟩,n,ho,hc,_,hd⟩:=id p1
  obtain ⟨⟨cls2,dd2,data2,sl2⟩,n2,ho2,hc2,_,hd2⟩:=id p2
  simp only at hc hd hc2 hd2
  subst hc hd hc2 hd2
  have q1:=r1.length
  have q2:=r2.length
  refine PySem.concat_meets ⟨_,ho,rfl⟩ ⟨_,ho2,rfl⟩ PySem.noFill_list_add PySem.seq_list_add PySem.F.slot_list_add PySem.F.entry_list_add (PySem.F.args_list_add_2 _ _) (PyProof.Rows.list_addW l1 l2 its.toArray its2.toArray n n2 dd dd2 sl sl2 (by simp;lia)) ⟨ho,ho2,?_⟩
  have ea:its.toArray++its2.toArray=(its++its2).toArray:=by simp
  rw [ea]
  have s1:zl3 H (upd H s.heap.objs.size (.lst (vs++ws))):=ze8 I.fresh _
  refine ⟨.ref _,_,I.lnew (t':=s.toks) (r1.append r2) (by rw [List.length_append];lia),rfl,q _ _ s1 ?_⟩
  rw [← hz,RP]
  exact ⟨_,_,rfl,SqL.of zd3,r.notlive I.fresh,((Ext.of_same r s1).rps h2).append ((Ext.of_same r s1).rps h4)⟩
end
open PySem L2 PySem.SeqAt
mutual
theorem pyEq_refl:∀ x:PV,pyEq x x=true
 | .non=>by simp [pyEq]
 | .bl _=>by simp [pyEq]
 | .int _=>by simp [pyEq]
 | .str _=>by simp [pyEq]
 | .tup xs=>by rw [pyEq];exact pyEqs_refl xs
 | .lst xs=>by rw [pyEq];exact pyEqs_refl xs
theorem pyEqs_refl:∀ xs:List PV,pyEqs xs xs=true
 | []=>by simp [pyEqs]
 | x::r=>by rw [pyEqs,pyEq_refl x,pyEqs_refl r];rfl
end
theorem zo4:∀ xs ys:List PV,pyEqs xs ys=((List.range (min xs.length ys.length)).all (fun j=>pyEq (xs.getD j .non) (ys.getD j .non))&&(xs.length==ys.length))
 | [],[]=>by simp [pyEqs]
 | [],_::_=>by simp [pyEqs]
 | _::_,[]=>by simp [pyEqs]
 | x::r,y::s=>by
  rw [pyEqs,zo4 r s]
  have e:min (x::r).length (y::s).length=min r.length s.length+1:=by simp
  rw [e,List.range_succ_eq_map,List.all_cons,List.all_map]
  have e2:((x::r).length==(y::s).length)=(r.length==s.length):=by simp
  rw [e2,Bool.and_assoc]
  rfl
theorem zP5:∀ {xs:List PV} {j:Nat} {x:PV},xs[j]?=some x→dep x≤deps xs
 | [],_,_,h=>by simp at h
 | y::r,0,x,h=>by simp at h;subst h;simp;lia
 | y::r,j+1,x,h=>by
  have:=zP5 (xs:=r) (j:=j) (x:=x) (by simpa using h)
  simp;lia
theorem yC9 (a b:List Nat):((⟨a.toArray⟩:Str)==⟨b.toArray⟩)=decide (a=b):=by
 by_cases h:a=b
 ·subst h;simp
 ·rw [decide_eq_false h,beq_eq_false_iff_ne]
  intro e
  injection e with e
  exact h (by simpa using congrArg Array.toList e)
section
variable {X:Cx} {pins:List (Addr×Obj)} {σ:L2.St} {H:Hp} {s:Shared} {lv:Addr→Prop}
theorem zO1 {a:Addr} {vs ws:List V} (I:Inv X pins σ H s) (h1:SqT X.K H a vs) (h2:SqL X.K H a ws):False:=by
 obtain ⟨_,_,p1,_⟩:=I.tuple h1
 obtain ⟨_,_,p2,_⟩:=I.list h2
 exact ne_of_list_tuple p2.isList p1 rfl
mutual
theorem RP.inj (I:Inv X pins σ H s):∀ (x y:PV) (v:V),RP X.K H lv x v→RP X.K H lv y v→x=y
 | .non,y,v,h,g=>by
  rw [RP] at h;subst h
  cases y with
  | non=>rfl
  | bl c=>rw [RP] at g;cases g
  | int c=>rw [RP] at g;cases g
  | str c=>rw [RP] at g;cases g.1
  | tup c=>rw [RP] at g;obtain ⟨_,_,e,_⟩:=g;cases e
  | lst c=>rw [RP] at g;obtain ⟨_,_,e,_⟩:=g;cases e
 | .bl b,y,v,h,g=>by
  rw [RP] at h;subst h
  cases y with
  | non=>rw [RP] at g;cases g
  | bl c=>rw [RP] at g;cases g;rfl
  | int c=>rw [RP] at g;cases g
  | str c=>rw [RP] at g;cases g.1
  | tup c=>rw [RP] at g;obtain ⟨_,_,e,_⟩:=g;cases e
  | lst c=>rw [RP] at g;obtain ⟨_,_,e,_⟩:=g;cases e
 | .int b,y,v,h,g=>by
  rw [RP] at h;subst h
  cases y with
  | non=>rw [RP] at g;cases g
  | bl c=>rw [RP] at g;cases g
  | int c=>rw [RP] at g;cases g;rfl
  | str c=>rw [RP] at g;cases g.1
  | tup c=>rw [RP] at g;obtain ⟨_,_,e,_⟩:=g;cases e
  | lst c=>rw [RP] at g;obtain ⟨_,_,e,_⟩:=g;cases e
 | .str cs,y,v,h,g=>by
  rw [RP] at h
  obtain ⟨h,_⟩:=h
  subst h
  cases y with
  | str c =>
   rw [RP] at g
   obtain ⟨e,_⟩:=g
   injection e with e
   injection e with e
   exact congrArg PV.str (by simpa using congrArg Array.toList e)
  | tup c=>rw [RP] at g;obtain ⟨_,_,e,_⟩:=g;cases e
  | lst c=>rw [RP] at g;obtain ⟨_,_,e,_⟩:=g;cases e
  | non=>rw [RP] at g;cases g
  | bl c=>rw [RP] at g;cases g
  | int c=>rw [RP] at g;cases g
 | .tup xs,y,v,h,g=>by
  rw [RP] at h
  obtain ⟨a,vs,rfl,h1,h2⟩:=h
  cases y with
  | tup ys =>
   rw [RP] at g
   obtain ⟨b,ws,e,g1,g2⟩:=g
   cases e
   have:=I.tuple_inj h1 g1
   subst this
   rw [RPs.inj I xs ys vs h2 g2]
  | lst ys =>
   rw [RP] at g
   obtain ⟨b,ws,e,g1,_⟩:=g
   cases e
   exact (zO1 I h1 g1).elim
  | str _=>rw [RP] at g;cases g.1
  | _=>rw [RP] at g;cases g
 | .lst xs,y,v,h,g=>by
  rw [RP] at h
  obtain ⟨a,vs,rfl,h1,_,h2⟩:=h
  cases y with
  | lst ys =>
   rw [RP] at g
   obtain ⟨b,ws,e,g1,_,g2⟩:=g
   cases e
   have:=I.list_inj h1 g1
   subst this
   rw [RPs.inj I xs ys vs h2 g2]
  | tup ys =>
   rw [RP] at g
   obtain ⟨b,ws,e,g1,_⟩:=g
   cases e
   exact (zO1 I g1 h1).elim
  | str _=>rw [RP] at g;cases g.1
  | _=>rw [RP] at g;cases g
theorem RPs.inj (I:Inv X pins σ H s):∀ (xs ys:List PV) (vs:List V),RPs X.K H lv xs vs→RPs X.K H lv ys vs→xs=ys
 | [],ys,vs,h,g=>by
  rw [RPs] at h;subst h
  cases ys with
  | nil=>rfl
  | cons y r=>rw [RPs] at g;obtain ⟨_,_,e,_⟩:=g;cases e
 | x::r,ys,vs,h,g=>by
  rw [RPs] at h
  obtain ⟨v,vr,rfl,h1,h2⟩:=h
  cases ys with
  | nil=>rw [RPs] at g;cases g
  | cons y q =>
   rw [RPs] at g
   obtain ⟨w,wr,e,g1,g2⟩:=g
   cases e
   rw [RP.inj I x y _ h1 g1,RPs.inj I r q _ h2 g2]
end
theorem RPs.at {xs:List PV} {vs:List V} {its:List Value} (h:RPs X.K H lv xs vs) (r:zh0 vs its) {j:Nat} (hj:j<its.length) :
  ∃ x v,xs[j]?=some x∧xs.getD j .non=x∧RP X.K H lv x v∧RelV v its[j]:=by
 have e1:=h.length
 have e2:=r.length
 have hx:xs[j]?=some xs[j]:=List.getElem?_eq_getElem (by lia)
 obtain ⟨v,h1,h2⟩:=h.get hx
 obtain ⟨u,h3,h4⟩:=r.get h1
 refine ⟨xs[j],v,hx,by rw [List.getD_eq_getElem?_getD,hx];rfl,h2,?_⟩
 rw [List.getElem?_eq_getElem hj] at h3
 cases h3
 exact h4
theorem RW.inj {α:Al} {st:za6} (I:Inv X pins σ H s) {x y:PV} {v:V} (h:RW X.K α st H x v) (g:RW X.K α st H y v):x=y:=by
 rcases h with h | ⟨xs,a,vs,rfl,rfl,h1,h2⟩
 ·rcases g with g | ⟨ys,b,ws,rfl,rfl,g1,g2⟩
  ·exact RP.inj I x y v h g
  ·cases x with
   | lst xs =>
    rw [RP] at h
    obtain ⟨a,vs,e,h1,_,h2⟩:=h
    cases e
    have:=I.list_inj h1 g1
    subst this
    rw [RPs.inj I _ _ _ h2 g2]
   | tup xs =>
    rw [RP] at h
    obtain ⟨a,vs,e,h1,h2⟩:=h
    cases e
    exact (zO1 I h1 g1).elim
   | str _=>rw [RP] at h;cases h.1
   | _=>rw [RP] at h;cases h
 ·cases y with
  | lst ys =>
   obtain ⟨b,ws,e,g1,g2⟩:=g.lst
   cases e
   have:=I.list_inj h1 g1
   subst this
   rw [RPs.inj I _ _ _ h2 g2]
  | tup ys =>
   obtain ⟨b,ws,e,g1,g2⟩:=g.tup
   cases e
   exact (zO1 I g1 h1).elim
  | str _=>cases g.str.1
  | int _=>cases g.int
  | bl _=>cases g.bl
  | non=>cases g.non
theorem zs1 {α:Al} {st:za6} {n:Nat} {A:Around} {xs ys:List PV} {vs ws:List V} {its its2:List Value}
  (ih:∀ (px py:PV) (x y:V) (v u:Value) (A:Around),RW X.K α st H px x→RW X.K α st H py y→RelV x v→RelV y u→(dep px≤n∨dep py≤n)→A.units+n+1<cLine→RcAt A s v u (pyEq px py)∧EqAt A s v u (pyEq px py))
  (hx:RPs X.K H (zf1 α st) xs vs) (hy:RPs X.K H (zf1 α st) ys ws) (r1:zh0 vs its) (r2:zh0 ws its2) (hd:deps xs≤n∨deps ys≤n) (hu:A.units+(n+1)+1<cLine) :
  ∀ j (h1:j<its.toArray.size) (h2:j<its2.toArray.size),EqAt A.in1 s its.toArray[j] its2.toArray[j] (pyEq (xs.getD j .non) (ys.getD j .non)):=by
 intro j h1 h2
 simp only [List.size_toArray] at h1 h2
 obtain ⟨x,v,a1,a2,a3,a4⟩:=hx.at r1 h1
 obtain ⟨y,u,b1,b2,b3,b4⟩:=hy.at r2 h2
 rw [a2,b2]
 have da:=zP5 a1
 have db:=zP5 b1
 have hu':A.in1.units+n+1<cLine:=by show A.units+1+n+1<cLine;lia
 simpa using (ih x y v u _ _ A.in1 (.inl a3) (.inl b3) a4 b4 (by lia) hu').2
theorem zK5 {α:Al} {st:za6} (I:Inv X pins σ H s) {n:Nat}
  (ih:0<n→∀ (px py:PV) (x y:V) (v u:Value) (A:Around),RW X.K α st H px x→RW X.K α st H py y→RelV x v→RelV y u→(dep px≤n - 1∨dep py≤n - 1)→A.units+(n - 1)+1<cLine→RcAt A s v u (pyEq px py)∧EqAt A s v u (pyEq px py))
  (px py:PV) (x y:V) (v u:Value) (A:Around) (hx:RW X.K α st H px x) (hy:RW X.K α st H py y) (rx:RelV x v) (ry:RelV y u) (hd:dep px≤n∨dep py≤n) (hu:A.units+n+1<cLine) :
  RcAt A s v u (pyEq px py)∧EqAt A s v u (pyEq px py):=by
 have hu0:A.units<cLine:=by lia
 have seqT:∀ {xs:List PV} {w:V} {uu:Value},RW X.K α st H (.tup xs) w→RelV w uu→∃ a vs its,w=.ref a∧uu=.ref a∧RPs X.K H (zf1 α st) xs vs∧zh0 vs its∧s.heap.IsTuple a its.toArray:=fun h r=>by
  obtain ⟨a,vs,rfl,h1,h2⟩:=h.tup
  cases r
  obtain ⟨its,r1,p,_⟩:=I.tuple h1
  exact ⟨a,vs,its,rfl,rfl,h2,r1,p⟩
 have seqL:∀ {xs:List PV} {w:V} {uu:Value},RW X.K α st H (.lst xs) w→RelV w uu→∃ a vs its,w=.ref a∧uu=.ref a∧RPs X.K H (zf1 α st) xs vs∧zh0 vs its∧s.heap.IsList a its.toArray:=fun h r=>by
  obtain ⟨a,vs,rfl,h1,h2⟩:=h.lst
  cases r
  obtain ⟨its,r1,p,_⟩:=I.list h1
  exact ⟨a,vs,its,rfl,rfl,h2,r1,p.isList⟩
 cases px with
 | non =>
  cases py with
  | non =>
   obtain rfl:x=V.non:=hx.non
   obtain rfl:v=Value.none:=rx
   obtain rfl:y=V.non:=hy.non
   obtain rfl:u=Value.none:=ry
   have e:pyEq .non .non=true:=by simp [pyEq]
   rw [e]
   exact ⟨.none_none,.same _⟩
  | bl e2 =>
   obtain rfl:x=V.non:=hx.non
   obtain rfl:v=Value.none:=rx
   obtain rfl:=hy.bl
   obtain rfl:u=Value.bool _:=ry
   have e:pyEq .non (.bl e2)=false:=by simp [pyEq]
   rw [e]
   exact ⟨.none_bool _,.none_bool _⟩
  | int e2 =>
   obtain rfl:x=V.non:=hx.non
   obtain rfl:v=Value.none:=rx
   obtain rfl:=hy.int
   obtain ⟨t',rfl⟩:=ry
   have e:pyEq .non (.int e2)=false:=by simp [pyEq]
   rw [e]
   exact ⟨.none_int _ _,.none_int _ _⟩
  | str e2 =>
   obtain rfl:x=V.non:=hx.non
   obtain rfl:v=Value.none:=rx
   obtain rfl:=hy.str.1
   obtain ⟨t',rfl⟩:=ry
   have e:pyEq .non (.str e2)=false:=by simp [pyEq]
   rw [e]
   exact ⟨.none_str _ _,.none_str _ _⟩
  | tup e2 =>
   obtain rfl:x=V.non:=hx.non
   obtain rfl:v=Value.none:=rx
   obtain ⟨b,ws,its2,rfl,rfl,q2,r2,p2⟩:=seqT hy ry
   have e:pyEq .non (.tup e2)=false:=by simp [pyEq]
   rw [e]
   exact ⟨.none_tuple p2 hu0,.none_tuple p2 hu0⟩
  | lst e2 =>
   obtain rfl:x=V.non:=hx.non
   obtain rfl:v=Value.none:=rx
   obtain ⟨b,ws,its2,rfl,rfl,q2,r2,p2⟩:=seqL hy ry
   have e:pyEq .non (.lst e2)=false:=by simp [pyEq]
   rw [e]
   exact ⟨.none_list p2 hu0,.none_list p2 hu0⟩
 | bl e1 =>
  cases py with
  | non =>
   obtain rfl:=hx.bl
   obtain rfl:v=Value.bool _:=rx
   obtain rfl:y=V.non:=hy.non
   obtain rfl:u=Value.none:=ry
   have e:pyEq (.bl e1) .non=false:=by simp [pyEq]
   rw [e]
   exact ⟨.bool_none _,.bool_none _⟩
  | bl e2 =>
   obtain rfl:=hx.bl
   obtain rfl:v=Value.bool _:=rx
   obtain rfl:=hy.bl
   obtain rfl:u=Value.bool _:=ry
   rw [pyEq]
   exact ⟨.bool_bool _ _,.bool_bool _ _⟩
  | int e2 =>
   obtain rfl:=hx.bl
   obtain rfl:v=Value.bool _:=rx
   obtain rfl:=hy.int
   obtain ⟨t',rfl⟩:=ry
   rw [pyEq]
   exact ⟨.bool_int _ _ _,.bool_int _ _ _⟩
  | str e2 =>
   obtain rfl:=hx.bl
   obtain rfl:v=Value.bool _:=rx
   obtain rfl:=hy.str.1
   obtain ⟨t',rfl⟩:=ry
   have e:pyEq (.bl e1) (.str e2)=false:=by simp [pyEq]
   rw [e]
   exact ⟨.bool_str _ _ _,.bool_str _ _ _⟩
  | tup e2 =>
   obtain rfl:=hx.bl
   obtain rfl:v=Value.bool _:=rx
   obtain ⟨b,ws,its2,rfl,rfl,q2,r2,p2⟩:=seqT hy ry
   have e:pyEq (.bl e1) (.tup e2)=false:=by simp [pyEq]
   rw [e]
   exact ⟨.bool_tuple _ p2 hu0,.bool_tuple _ p2 hu0⟩
  | lst e2 =>
   obtain rfl:=hx.bl
   obtain rfl:v=Value.bool _:=rx
   obtain ⟨b,ws,its2,rfl,rfl,q2,r2,p2⟩:=seqL hy ry
   have e:pyEq (.bl e1) (.lst e2)=false:=by simp [pyEq]
   rw [e]
   exact ⟨.bool_list _ p2 hu0,.bool_list _ p2 hu0⟩
 | int e1 =>
  cases py with
  | non =>
   obtain rfl:=hx.int
   obtain ⟨t,rfl⟩:=rx
   obtain rfl:y=V.non:=hy.non
   obtain rfl:u=Value.none:=ry
   have e:pyEq (.int e1) .non=false:=by simp [pyEq]
   rw [e]
   exact ⟨.int_none _ _,.int_none _ _⟩
  | bl e2 =>
   obtain rfl:=hx.int
   obtain ⟨t,rfl⟩:=rx
   obtain rfl:=hy.bl
   obtain rfl:u=Value.bool _:=ry
   rw [pyEq]
   exact ⟨.int_bool _ _ _,.int_bool _ _ _⟩
  | int e2 =>
   obtain rfl:=hx.int
   obtain ⟨t,rfl⟩:=rx
   obtain rfl:=hy.int
   obtain ⟨t',rfl⟩:=ry
   rw [pyEq]
   exact ⟨.int_int _ _ _ _,.int_int _ _ _ _⟩
  | str e2 =>
   obtain rfl:=hx.int
   obtain ⟨t,rfl⟩:=rx
   obtain rfl:=hy.str.1
   obtain ⟨t',rfl⟩:=ry
   have e:pyEq (.int e1) (.str e2)=false:=by simp [pyEq]
   rw [e]
   exact ⟨.int_str _ _ _ _,.int_str _ _ _ _⟩
  | tup e2 =>
   obtain rfl:=hx.int
   obtain ⟨t,rfl⟩:=rx
   obtain ⟨b,ws,its2,rfl,rfl,q2,r2,p2⟩:=seqT hy ry
   have e:pyEq (.int e1) (.tup e2)=false:=by simp [pyEq]
   rw [e]
   exact ⟨.int_tuple _ _ p2 hu0,.int_tuple _ _ p2 hu0⟩
  | lst e2 =>
   obtain rfl:=hx.int
   obtain ⟨t,rfl⟩:=rx
   obtain ⟨b,ws,its2,rfl,rfl,q2,r2,p2⟩:=seqL hy ry
   have e:pyEq (.int e1) (.lst e2)=false:=by simp [pyEq]
   rw [e]
   exact ⟨.int_list _ _ p2 hu0,.int_list _ _ p2 hu0⟩
 | str e1 =>
  cases py with
  | non =>
   obtain rfl:=hx.str.1
   obtain ⟨t,rfl⟩:=rx
   obtain rfl:y=V.non:=hy.non
   obtain rfl:u=Value.none:=ry
   have e:pyEq (.str e1) .non=false:=by simp [pyEq]
   rw [e]
   exact ⟨.str_none _ _,.str_none _ _⟩
  | bl e2 =>
   obtain rfl:=hx.str.1
   obtain ⟨t,rfl⟩:=rx
   obtain rfl:=hy.bl
   obtain rfl:u=Value.bool _:=ry
   have e:pyEq (.str e1) (.bl e2)=false:=by simp [pyEq]
   rw [e]
   exact ⟨.str_bool _ _ _,.str_bool _ _ _⟩
  | int e2 =>
   obtain rfl:=hx.str.1
   obtain ⟨t,rfl⟩:=rx
   obtain rfl:=hy.int
   obtain ⟨t',rfl⟩:=ry
   have e:pyEq (.str e1) (.int e2)=false:=by simp [pyEq]
   rw [e]
   exact ⟨.str_int _ _ _ _,.str_int _ _ _ _⟩
  | str e2 =>
   obtain rfl:=hx.str.1
   obtain ⟨t,rfl⟩:=rx
   obtain rfl:=hy.str.1
   obtain ⟨t',rfl⟩:=ry
   have e:pyEq (.str e1) (.str e2)=((⟨e1.toArray⟩:Str)==⟨e2.toArray⟩):=by rw [yC9,pyEq]
   rw [e]
   exact ⟨.str_str _ _ _ _,.str_str _ _ _ _⟩
  | tup e2 =>
   obtain rfl:=hx.str.1
   obtain ⟨t,rfl⟩:=rx
   obtain ⟨b,ws,its2,rfl,rfl,q2,r2,p2⟩:=seqT hy ry
   have e:pyEq (.str e1) (.tup e2)=false:=by simp [pyEq]
   rw [e]
   exact ⟨.str_tuple _ _ p2 hu0,.str_tuple _ _ p2 hu0⟩
  | lst e2 =>
   obtain rfl:=hx.str.1
   obtain ⟨t,rfl⟩:=rx
   obtain ⟨b,ws,its2,rfl,rfl,q2,r2,p2⟩:=seqL hy ry
   have e:pyEq (.str e1) (.lst e2)=false:=by simp [pyEq]
   rw [e]
   exact ⟨.str_list _ _ p2 hu0,.str_list _ _ p2 hu0⟩
 | tup e1 =>
  cases py with
  | non =>
   obtain ⟨a,vs,its,rfl,rfl,q1,r1,p1⟩:=seqT hx rx
   obtain rfl:y=V.non:=hy.non
   obtain rfl:u=Value.none:=ry
   have e:pyEq (.tup e1) .non=false:=by simp [pyEq]
   rw [e]
   exact ⟨.tuple_none p1 hu0,.tuple_none p1 hu0⟩
  | bl e2 =>
   obtain ⟨a,vs,its,rfl,rfl,q1,r1,p1⟩:=seqT hx rx
   obtain rfl:=hy.bl
   obtain rfl:u=Value.bool _:=ry
   have e:pyEq (.tup e1) (.bl e2)=false:=by simp [pyEq]
   rw [e]
   exact ⟨.tuple_bool _ p1 hu0,.tuple_bool _ p1 hu0⟩
  | int e2 =>
   obtain ⟨a,vs,its,rfl,rfl,q1,r1,p1⟩:=seqT hx rx
   obtain rfl:=hy.int
   obtain ⟨t',rfl⟩:=ry
   have e:pyEq (.tup e1) (.int e2)=false:=by simp [pyEq]
   rw [e]
   exact ⟨.tuple_int _ _ p1 hu0,.tuple_int _ _ p1 hu0⟩
  | str e2 =>
   obtain ⟨a,vs,its,rfl,rfl,q1,r1,p1⟩:=seqT hx rx
   obtain rfl:=hy.str.1
   obtain ⟨t',rfl⟩:=ry
   have e:pyEq (.tup e1) (.str e2)=false:=by simp [pyEq]
   rw [e]
   exact ⟨.tuple_str _ _ p1 hu0,.tuple_str _ _ p1 hu0⟩
  | tup e2 =>
   obtain ⟨a,vs,its,rfl,rfl,q1,r1,p1⟩:=seqT hx rx
   obtain ⟨b,ws,its2,rfl,rfl,q2,r2,p2⟩:=seqT hy ry
   have hn:0<n:=by simp at hd;lia
   have hd':deps e1≤n - 1∨deps e2≤n - 1:=by simp at hd;lia
   have it:=zs1 (n:=n - 1) (A:=A) (ih hn) q1 q2 r1 r2 hd' (by lia)
   have l1:=q1.length
   have l2:=q2.length
   have m1:=r1.length
   have m2:=r2.length
   have rc:RcAt A s (.ref a) (.ref b) (pyEq (.tup e1) (.tup e2)):=by
    have z:=RcAt.tuples p1 p2 hu0 it
    rw [pyEq,zo4]
    simp only [List.size_toArray] at z
    rw [l1,l2,m1,m2]
    exact z
   refine ⟨rc,?_⟩
   by_cases hab:a=b
   ·subst hab
    have e:=RW.inj I hx hy
    injection e with e
    subst e
    rw [pyEq_refl]
    exact EqAt.same _
   ·exact .of_refs hab rc
  | lst e2 =>
   obtain ⟨a,vs,its,rfl,rfl,q1,r1,p1⟩:=seqT hx rx
   obtain ⟨b,ws,its2,rfl,rfl,q2,r2,p2⟩:=seqL hy ry
   have e:pyEq (.tup e1) (.lst e2)=false:=by simp [pyEq]
   rw [e]
   exact ⟨.tuple_list p1 p2 hu0,.tuple_list p1 p2 hu0⟩
 | lst e1 =>
  cases py with
  | non =>
   obtain ⟨a,vs,its,rfl,rfl,q1,r1,p1⟩:=seqL hx rx
   obtain rfl:y=V.non:=hy.non
   obtain rfl:u=Value.none:=ry
   have e:pyEq (.lst e1) .non=false:=by simp [pyEq]
   rw [e]
   exact ⟨.list_none p1 hu0,.list_none p1 hu0⟩
  | bl e2 =>
   obtain ⟨a,vs,its,rfl,rfl,q1,r1,p1⟩:=seqL hx rx
   obtain rfl:=hy.bl
   obtain rfl:u=Value.bool _:=ry
   have e:pyEq (.lst e1) (.bl e2)=false:=by simp [pyEq]
   rw [e]
   exact ⟨.list_bool _ p1 hu0,.list_bool _ p1 hu0⟩
  | int e2 =>
   obtain ⟨a,vs,its,rfl,rfl,q1,r1,p1⟩:=seqL hx rx
   obtain rfl:=hy.int
   obtain ⟨t',rfl⟩:=ry
   have e:pyEq (.lst e1) (.int e2)=false:=by simp [pyEq]
   rw [e]
   exact ⟨.list_int _ _ p1 hu0,.list_int _ _ p1 hu0⟩
  | str e2 =>
   obtain ⟨a,vs,its,rfl,rfl,q1,r1,p1⟩:=seqL hx rx
   obtain rfl:=hy.str.1
   obtain ⟨t',rfl⟩:=ry
   have e:pyEq (.lst e1) (.str e2)=false:=by simp [pyEq]
   rw [e]
   exact ⟨.list_str _ _ p1 hu0,.list_str _ _ p1 hu0⟩
  | tup e2 =>
   obtain ⟨a,vs,its,rfl,rfl,q1,r1,p1⟩:=seqL hx rx
   obtain ⟨b,ws,its2,rfl,rfl,q2,r2,p2⟩:=seqT hy ry
   have e:pyEq (.lst e1) (.tup e2)=false:=by simp [pyEq]
   rw [e]
   exact ⟨.list_tuple p1 p2 hu0,.list_tuple p1 p2 hu0⟩
  | lst e2 =>
   obtain ⟨a,vs,its,rfl,rfl,q1,r1,p1⟩:=seqL hx rx
   obtain ⟨b,ws,its2,rfl,rfl,q2,r2,p2⟩:=seqL hy ry
   have hn:0<n:=by simp at hd;lia
   have hd':deps e1≤n - 1∨deps e2≤n - 1:=by simp at hd;lia
   have it:=zs1 (n:=n - 1) (A:=A) (ih hn) q1 q2 r1 r2 hd' (by lia)
   have l1:=q1.length
   have l2:=q2.length
   have m1:=r1.length
   have m2:=r2.length
   have rc:RcAt A s (.ref a) (.ref b) (pyEq (.lst e1) (.lst e2)):=by
    by_cases hz:its.length=its2.length
    ·have z:=RcAt.lists p1 p2 (by simpa using hz) hu0 it
     rw [pyEq,zo4]
     simp only [List.size_toArray] at z
     rw [l1,l2,m1,m2,← hz,Nat.min_self,beq_self_eq_true,Bool.and_true]
     exact z
    ·have z:=RcAt.lists_lengths p1 p2 (by simpa using hz) hu0
     have e:pyEq (.lst e1) (.lst e2)=false:=by
      rw [pyEq,zo4,Bool.and_eq_false_iff]
      exact .inr (by rw [beq_eq_false_iff_ne];lia)
     rw [e]
     exact z
   refine ⟨rc,?_⟩
   by_cases hab:a=b
   ·subst hab
    have e:=RW.inj I hx hy
    injection e with e
    subst e
    rw [pyEq_refl]
    exact EqAt.same _
   ·exact .of_refs hab rc
theorem yL4 {α:Al} {st:za6} (I:Inv X pins σ H s):∀ (n:Nat) (px py:PV) (x y:V) (v u:Value) (A:Around),RW X.K α st H px x→RW X.K α st H py y→RelV x v→RelV y u →
  (dep px≤n∨dep py≤n)→A.units+n+1<cLine→RcAt A s v u (pyEq px py)∧EqAt A s v u (pyEq px py):=by
 intro n
 induction n with
 | zero =>
  intro px py x y v u A hx hy rx ry hd hu
  exact zK5 I (fun h=>absurd h (by lia)) px py x y v u A hx hy rx ry hd hu
 | succ n ih=>exact fun px py x y v u A hx hy rx ry hd hu=>zK5 I (fun _=>ih) px py x y v u A hx hy rx ry hd hu
theorem yf6 (hu:X.A.units+200<cLine):Op2 X (compareOp .Eq) (fun x y=>if zq3 (dep x) (dep y) then some (.bl (pyEq x y)) else none):=by
 rintro pins s σ H x y v u Q I rx ry ⟨α,st,px,py,z,r,hx,hy,hz,q⟩
 simp only [Option.ite_none_right_eq_some,Option.some.injEq] at hz
 obtain ⟨hd,hz⟩:=hz
 have hd':dep px≤100∨dep py≤100:=by simpa [zq3] using hd
 exact (yL4 I 100 px py x y v u X.A hx hy rx ry hd' (by lia)).1 _ _ _ _ ⟨.bl _,H,I,rfl,q _ _ (zl3.refl H) (by rw [← hz,RP])⟩
end
open PySem L2 PySem.SeqAt PySem.StrLaws
open PySem.Builtin PySem.Builtin.Str
theorem ye4 (x y:Str) (hi k f:Nat):∀ l:List Nat,(forIn l ((#[k]:Array Nat),f) (occBody x y hi 1)).run.fst=#[k]
 | []=>rfl
 | a::l=>by
  rw [List.forIn_cons]
  unfold occBody
  split
  ·rename_i hc
   simp at hc
  ·exact ye4 x y hi k f l
theorem yn7 (cs bs:List Nat) (i:Nat) (hi:i≤cs.length):(i+bs.length≤cs.length∧subAt ⟨cs.toArray⟩ ⟨bs.toArray⟩ i=true)↔bs.isPrefixOf (cs.drop i)=true:=by
 rw [List.isPrefixOf_iff_prefix,List.prefix_iff_eq_take]
 unfold subAt
 have e:(⟨bs.toArray⟩:Str).length=bs.length:=zl8 bs
 rw [e]
 have e2:(cs.toArray.extract i (i+bs.length))=((cs.drop i).take bs.length).toArray:=by
  apply Array.ext'
  simp [List.extract_eq_take_drop]
 constructor
 ·rintro ⟨_,h⟩
  have h':cs.toArray.extract i (i+bs.length)=bs.toArray:=by simpa using h
  rw [e2] at h'
  have:=congrArg Array.toList h'
  simpa using this.symm
 ·intro h
  have hl:=congrArg List.length h
  rw [List.length_take,List.length_drop] at hl
  refine ⟨by lia,?_⟩
  show (cs.toArray.extract i (i+bs.length)==bs.toArray)=true
  rw [e2,← h]
  simp
theorem ya9 (cs bs:List Nat):∀ (n i:Nat),i+n=cs.length →
  (forIn (List.range' i (n+1)) ((#[]:Array Nat),0) (occBody ⟨cs.toArray⟩ ⟨bs.toArray⟩ cs.length 1)).run.fst.toList=match findIn bs (cs.drop i) i with | some k=>[k] | none=>[]
 | 0,i,h=>by
  have hd:cs.drop i=[]:=List.drop_eq_nil_of_le (by lia)
  rw [List.range'_succ,List.forIn_cons]
  have q:=yn7 cs bs i (by lia)
  rw [hd] at q ⊢
  unfold occBody
  have e:(⟨bs.toArray⟩:Str).length=bs.length:=zl8 bs
  by_cases hb:bs=[]
  ·subst hb
   have hs:=q.mpr (by simp)
   rw [if_pos (by rw [e];simp;exact ⟨by lia,hs.2⟩)]
   simp [findIn,List.range']
  ·have hs:¬ bs.isPrefixOf ([]:List Nat)=true:=by cases bs <;> simp at hb ⊢
   rw [if_neg (by
    intro hc
    rw [e] at hc
    simp at hc
    exact hs (q.mp ⟨by lia,by have:=hc.2;simpa using this⟩))]
   simp [findIn,List.range',hb]
 | n+1,i,h=>by
  rw [List.range'_succ,List.forIn_cons]
  have q:=yn7 cs bs i (by lia)
  obtain ⟨c,hc⟩:∃ c,cs.drop i=c::cs.drop (i+1):=⟨cs[i],by rw [List.drop_eq_getElem_cons (by lia)]⟩
  have e:(⟨bs.toArray⟩:Str).length=bs.length:=zl8 bs
  rw [hc] at q ⊢
  rw [findIn]
  unfold occBody
  by_cases hp:bs.isPrefixOf (c::cs.drop (i+1))=true
  ·have hs:=q.mpr hp
   rw [if_pos (by rw [e];simp;exact ⟨by lia,hs.2⟩),if_pos hp]
   have:=ye4 ⟨cs.toArray⟩ ⟨bs.toArray⟩ cs.length i (i+(⟨bs.toArray⟩:Str).length) (List.range' (i+1) (n+1))
   unfold occBody at this
   simpa using congrArg Array.toList this
  ·rw [if_neg (by
    intro hc
    rw [e] at hc
    simp at hc
    exact hp (q.mp ⟨by lia,by have:=hc.2;simpa using this⟩)),if_neg hp]
   have ih:=ya9 cs bs n (i+1) (by lia)
   unfold occBody at ih
   simpa using ih
theorem yy1 (cs bs:List Nat):occurrences ⟨cs.toArray⟩ ⟨bs.toArray⟩ 0 (Str.length ⟨cs.toArray⟩) 1=match findIn bs cs 0 with | some k=>[k] | none=>[]:=by
 rw [occ_eq,zl8]
 have:=ya9 cs bs cs.length 0 (by lia)
 rw [List.drop_zero] at this
 exact this
theorem zL8 (bs:List Nat):∀ (cs:List Nat) (k:Nat),zf9 bs cs=(findIn bs cs k).isSome
 | [],k=>by rw [zf9,findIn];split <;> simp_all
 | c::r,k=>by
  rw [zf9,findIn]
  split
  ·rename_i h;rw [h];rfl
  ·rename_i h;rw [zL8 bs r (k+1)];simp at h;simp [h]
section
variable {X:Cx}
theorem yM2 (hu:X.A.units+200<cLine):Op2 X (compareOp .In) (fun x y=>(isIn x y).map .bl):=by
 rintro pins s σ H x y v u Q I rx ry ⟨α,st,px,py,z,r,hx,hy,hz,q⟩
 obtain ⟨b,hb,hz2⟩:=Option.map_eq_some_iff.mp hz
 have fin:EP X pins σ Q (.bool b) s:=⟨.bl b,H,I,rfl,q _ _ (zl3.refl H) (by rw [← hz2,RP])⟩
 have seq:∀ {xs:List PV} {vs:List V} {its:List Value},RPs X.K H (zf1 α st) xs vs→zh0 vs its→zq3 (dep px) (deps xs)=true →
   ∃ e:Value→Bool,(∀ w,w∈its.toArray→EqAt X.A.in1 s w v (e w))∧its.toArray.any e=zu2 px xs:=by
  intro xs vs its h r1 hd
  have hd':dep px≤100∨deps xs≤100:=by simpa [zq3] using hd
  classical
  have l1:=h.length
  have l2:=r1.length
  have val:∀ (j:Nat) (hj:j<its.length),∃ y,xs[j]?=some y∧EqAt X.A.in1 s its[j] v (pyEq y px)∧∃ w,RP X.K H (zf1 α st) y w∧RelV w its[j]:=fun j hj=>by
   obtain ⟨y,w,a1,a2,a3,a4⟩:=h.at r1 hj
   have da:=zP5 a1
   exact ⟨y,a1,(yL4 I 100 y px w x its[j] v X.A.in1 (.inl a3) hx a4 rx (by lia) (by show X.A.units+1+100+1<cLine;lia)).2,w,a3,a4⟩
  refine ⟨fun w=>decide (∃ (j:Nat) (y:PV),its[j]?=some w∧xs[j]?=some y∧pyEq y px=true),fun w hw=>?_,?_⟩
  ·have hw':w∈its:=by simpa using hw
   obtain ⟨j,hj,rfl⟩:=List.getElem_of_mem hw'
   obtain ⟨y,a1,a2,w1,a3,a4⟩:=val j hj
   have e:decide (∃ (k:Nat) (y:PV),its[k]?=some its[j]∧xs[k]?=some y∧pyEq y px=true)=pyEq y px:=by
    rw [Bool.eq_iff_iff,decide_eq_true_eq]
    constructor
    ·rintro ⟨k,y',b1,b2,b3⟩
     obtain ⟨hk,b1⟩:=List.getElem?_eq_some_iff.mp b1
     obtain ⟨y2,c1,_,w2,c3,c4⟩:=val k hk
     rw [b2] at c1;cases c1
     rw [b1] at c4
     have:=a4.inj c4
     subst this
     rw [RP.inj I y y' _ a3 c3]
     exact b3
    ·intro hp
     exact ⟨j,y,List.getElem?_eq_getElem hj,a1,hp⟩
   dsimp only
   rw [e]
   exact a2
  ·rw [Bool.eq_iff_iff]
   unfold zu2
   simp only [List.any_toArray,List.any_eq_true,decide_eq_true_eq]
   constructor
   ·rintro ⟨w,_,j,y,b1,b2,b3⟩
    exact ⟨y,List.mem_of_getElem? b2,b3⟩
   ·rintro ⟨y,hy',b3⟩
    obtain ⟨j,hj,rfl⟩:=List.getElem_of_mem hy'
    have hj':j<its.length:=by lia
    exact ⟨its[j],List.getElem_mem hj',j,xs[j],List.getElem?_eq_getElem hj',List.getElem?_eq_getElem hj,b3⟩
 cases py with
 | str cs =>
  cases px with
  | str bs =>
   have hb':zf9 bs cs=b:=by simpa [isIn] using hb
   refine yt3 pins s σ H x y v u Q I rx ry ⟨_,_,hx.str.1,hy.str.1,?_⟩
   rw [yy1]
   have e:(!(match findIn bs cs 0 with | some k=>[k] | none=>([]:List Nat)).isEmpty)=b:=by
    rw [← hb',zL8 bs cs 0]
    cases findIn bs cs 0 <;> rfl
   rw [e]
   exact q _ _ (zl3.refl H) (by rw [← hz2,RP])
  | _=>simp [isIn] at hb
 | tup xs =>
  obtain ⟨a,vs,rfl,h1,h2⟩:=hy.tup
  cases ry
  obtain ⟨its,r1,p,_⟩:=I.tuple h1
  have hc:zq3 (dep px) (deps xs)=true∧zu2 px xs=b:=by cases px <;> simpa [isIn] using hb
  obtain ⟨e,he,hany⟩:=seq h2 r1 hc.1
  exact in_tupleAt e p he (by rw [hany,hc.2];exact fin)
 | lst xs =>
  obtain ⟨a,vs,rfl,h1,h2⟩:=hy.lst
  cases ry
  obtain ⟨its,r1,p,_⟩:=I.list h1
  have hc:zq3 (dep px) (deps xs)=true∧zu2 px xs=b:=by cases px <;> simpa [isIn] using hb
  obtain ⟨e,he,hany⟩:=seq h2 r1 hc.1
  exact in_listAt e p.isList he (by rw [hany,hc.2];exact fin)
 | _=>cases px <;> simp [isIn] at hb
end
open PySem L2 PySem.SeqAt
section
variable {X:Cx} {C:zb9} {a b c:Expr} {ia ib ic:E} {pos:Pos} {zp3:List Expr}
theorem yR6 (ha:ST X C a ia):ST X C (.UnaryOp .Not a pos) (.not ia) :=
 PT.mono (yX1 ha) fun σ H Q h_=>by
  obtain ⟨env,α,st,k,st',at',e,q⟩:=h_
  rw [yQ8] at e
  obtain ⟨k',st1,e1,e⟩:=Res.bindB_inv e
  cases e
  exact ⟨env,α,st,k',st',at',e1,q⟩
noncomputable abbrev SW (X:Cx) (C:zb9) (e:Expr) (ir:E):Prop:=PW X e (tT X.K C ir)
theorem xd9 {e:Expr} {ir:E} (h:SW X C e ir):ST X C e ir:=h.pt
theorem yI0 (ha:ST X C a ia):SW X C (.BoolOp .And [a] pos) ia:=yF3 ha
theorem yW9 (ha:ST X C a ia):SW X C (.BoolOp .Or [a] pos) ia:=yP0 ha
theorem yY3 (ha:ST X C a ia) (hb:SW X C (.BoolOp .And (b::zp3) pos) ib):SW X C (.BoolOp .And (a::b::zp3) pos) (.and ia ib) :=
 PW.mono (yO1 ha hb) fun σ H Q h_=>by
  obtain ⟨env,α,st,k,st',at',e,q⟩:=h_
  rw [yE1] at e
  obtain ⟨k',st1,e1,e⟩:=Res.bindB_inv e
  refine ⟨env,α,st,k',st1,at',e1,fun H1 α1 x1 r1=>?_⟩
  cases k' with
  | true=>exact ⟨env,α1,st1,k,st',at'.next x1 r1,e,fun H2 α2 x2 r2=>q H2 α2 (x1.trans x2) r2⟩
  | false=>cases e;exact q H1 α1 x1 r1
theorem xi0 (ha:ST X C a ia) (hb:SW X C (.BoolOp .Or (b::zp3) pos) ib):SW X C (.BoolOp .Or (a::b::zp3) pos) (.or ia ib) :=
 PW.mono (xe8 ha hb) fun σ H Q h_=>by
  obtain ⟨env,α,st,k,st',at',e,q⟩:=h_
  rw [xc5] at e
  obtain ⟨k',st1,e1,e⟩:=Res.bindB_inv e
  refine ⟨env,α,st,k',st1,at',e1,fun H1 α1 x1 r1=>?_⟩
  cases k' with
  | false=>exact ⟨env,α1,st1,k,st',at'.next x1 r1,e,fun H2 α2 x2 r2=>q H2 α2 (x1.trans x2) r2⟩
  | true=>cases e;exact q H1 α1 x1 r1
theorem yO3 {K:Frag} {α:Al} {st:za6} {H:Hp} {k:Bool} {w:V} (h:RV K α st H (.p (.bl k)) w):w=.bl k:=by simpa [RV,RP] using h
theorem yR2 {op} (h:SE X C a ia):SE X C (.BoolOp op [a] pos) ia:=yV3 h
theorem yQ7 (ha:SE X C a ia) (hb:SE X C (.BoolOp .And (b::zp3) pos) ib):SE X C (.BoolOp .And (a::b::zp3) pos) (.and ia ib) :=
 PE.mono (yO9 ha hb) fun σ H Q h_=>by
  obtain ⟨env,α,st,v,st',at',e,q⟩:=h_
  rw [yE1] at e
  obtain ⟨k',st1,e1,e⟩:=Res.bindB_inv e
  refine ⟨env,α,st,_,st1,at',e1,fun w H1 α1 x1 r1 v1=>⟨k',yO3 v1,?_⟩⟩
  cases k' with
  | true=>exact ⟨env,α1,st1,v,st',at'.next x1 r1,e,fun w H2 α2 x2 r2=>q w H2 α2 (x1.trans x2) r2⟩
  | false=>cases e;exact q _ H1 α1 x1 r1 (by rw [RV,RP])
theorem yQ6 {op:CmpOp} {g:PV→PV→Option PV} {ir:E} (ho:Op2 X (compareOp op) g) (ha:SE X C a ia) (hb:SE X C b ib) (hm:behindInMarks op b=false)
  (hi:∀ env st,evalE C ir env st=(evalE C ia env st).bind fun x st=>(evalE C ib env st).bind fun y st=>op2 g x y st):ST X C (.Compare a [op] [b] pos) ir :=
 PT.mono (yL6 ho ha hb hm) fun σ H Q h_=>by
  obtain ⟨env,α,st,k,st',at',e,q⟩:=h_
  rw [hi] at e
  obtain ⟨va,st1,e1,e⟩:=Res.bind_inv e
  obtain ⟨vb,st2,e2,e⟩:=Res.bind_inv e
  obtain ⟨x,y,u,h1,h2,h3,h4,h5⟩:=zY6 e
  cases h4
  subst h5
  refine ⟨env,α,st,va,st1,at',e1,fun w H1 α1 x1 r1 v1=>?_⟩
  refine ⟨env,α1,st1,vb,st',at'.next x1 r1,e2,fun w2 H2 α2 x2 r2 v2=>?_⟩
  refine ⟨α2,st',x,y,_,r2,(x2.rv v1).view r2 h1,v2.view r2 h2,h3,fun w3 H3 s3 rp=>?_⟩
  exact ⟨k,by rw [RP] at rp;exact rp,q H3 α2 (x1.trans (x2.trans (.of_same r2 s3))) (r2.same s3)⟩
noncomputable def tPs (K:Frag) (C:zb9) (irs:List E):TA:=fun σ H Q=>∃ env α st vs st',At K α st H env σ∧evalEs C irs env st=.ok vs st' ∧
 ∀ ws H' α',Ext K α st H α' st' H'→RSt K α' st' H'→Paired (RV K α' st' H') vs ws→Q ws H'
noncomputable abbrev SA (X:Cx) (C:zb9) (es:List Expr) (irs:List E):Prop:=PA X es (tPs X.K C irs)
theorem PA.mono {es:List Expr} {t t':TA} (h:PA X es t) (m:∀ σ H Q,t' σ H Q→t σ H Q):PA X es t':=fun pos pins s σ H Q I q=>h pos pins s σ H Q I (m _ _ _ q)
theorem yE0:SA X C [] []:=PA.mono yB9 fun σ H Q h_=>by
 obtain ⟨env,α,st,vs,st',at',e,q⟩:=h_
 rw [zs5] at e
 cases e
 exact q [] H α .refl at'.rs .nil
theorem yp5 {es:List Expr} {irs:List E} (ha:SE X C a ia) (hr:SA X C es irs) (hs:starEach (a::es) X.env=(false,eval a X.env)::starEach es X.env):SA X C (a::es) (ia::irs) :=
 PA.mono (ya6 ha hr hs) fun σ H Q h_=>by
  obtain ⟨env,α,st,vs,st',at',e,q⟩:=h_
  rw [zm8] at e
  obtain ⟨v,st1,e1,e⟩:=Res.bind_inv e
  obtain ⟨vr,st2,e2,e⟩:=Res.bind_inv e
  cases e
  exact ⟨env,α,st,v,st1,at',e1,fun w H1 α1 x1 r1 v1=>⟨env,α1,st1,vr,st',at'.next x1 r1,e2,fun ws H2 α2 x2 r2 p=>q _ H2 α2 (x1.trans x2) r2 (.cons (x2.rv v1) p)⟩⟩
theorem zG9:∀ {irs:List E} {env:Env} {st st':za6} {xs:List PV},evalPs C irs env st=.ok xs st'→evalEs C irs env st=.ok (xs.map .p) st'
 | [],env,st,st',xs,h=>by rw [yb4] at h;cases h;rw [zs5];rfl
 | i::r,env,st,st',xs,h=>by
  rw [zA6] at h
  obtain ⟨x,st1,e1,h⟩:=Res.bindP_inv h
  obtain ⟨ys,st2,e2,h⟩:=Res.bind_inv h
  cases h
  rw [zm8,e1,Res.bind_ok,zG9 e2]
  rfl
theorem ye8 {K:Frag} {α:Al} {st:za6} {H:Hp}:∀ {xs:List PV} {ws:List V},Paired (RV K α st H) (xs.map .p) ws→RPs K H (zf1 α st) xs ws
 | [],ws,h=>by cases h;rw [RPs]
 | x::r,ws,h=>by
  cases h with
  | cons q t=>rw [RPs];exact ⟨_,_,rfl,q,ye8 t⟩
theorem zD7:∀ {irs:List E} {env:Env} {st st':za6} {xs:List PV},evalPs C irs env st=.ok xs st'→xs.length=irs.length
 | [],env,st,st',xs,h=>by rw [yb4] at h;cases h;rfl
 | i::r,env,st,st',xs,h=>by
  rw [zA6] at h
  obtain ⟨x,st1,e1,h⟩:=Res.bindP_inv h
  obtain ⟨ys,st2,e2,h⟩:=Res.bind_inv h
  cases h
  simp [zD7 e2]
theorem yP5 {es:List Expr} {irs:List E} {x1} (h:SA X C es irs) (hl:es.length≤1000) (hi:irs.length=es.length):SE X C (.Tuple es x1 pos) (.tup irs) :=
 PE.mono (yV5 h) fun σ H Q h_=>by
  obtain ⟨env,α,st,v,st',at',e,q⟩:=h_
  rw [yP6] at e
  obtain ⟨xs,st1,e1,e⟩:=Res.bind_inv e
  cases e
  refine ⟨env,α,st,_,st',at',zG9 e1,fun ws H1 α1 x1 r1 p=>?_⟩
  have rp:=ye8 p
  refine ⟨?_,fun a ha=>?_⟩
  ·rw [← rp.length,zD7 e1,hi]
   exact Nat.le_trans hl (by decide)
  ·have s1:zl3 H1 (upd H1 a (.tup ws)):=ze8 ha _
   exact q _ _ α1 (x1.trans (.of_same r1 s1)) (r1.same s1) (by rw [RV,RP];exact ⟨a,ws,rfl,SqT.of zd3,(Ext.of_same r1 s1).rps rp⟩)
theorem yQ5 {es:List Expr} {irs:List E} (h:SA X C es irs) (hl:es.length≤1000) (hi:irs.length=es.length):SE X C (.List es pos) (.list false irs) :=
 PE.mono (yS9 h) fun σ H Q h_=>by
  obtain ⟨env,α,st,v,st',at',e,q⟩:=h_
  rw [yt4] at e
  obtain ⟨xs,st1,e1,e⟩:=Res.bind_inv e
  simp only [mk,Bool.false_eq_true,if_false] at e
  cases e
  refine ⟨env,α,st,_,st',at',zG9 e1,fun ws H1 α1 x1 r1 p=>?_⟩
  have rp:=ye8 p
  refine ⟨?_,fun a ha=>?_⟩
  ·rw [← rp.length,zD7 e1,hi]
   exact Nat.le_trans hl (by decide)
  ·have s1:zl3 H1 (upd H1 a (.lst ws)):=ze8 ha _
   exact q _ _ α1 (x1.trans (.of_same r1 s1)) (r1.same s1) (by rw [RV,RP];exact ⟨a,ws,rfl,SqL.of zd3,r1.notlive ha,(Ext.of_same r1 s1).rps rp⟩)
end
open PySem L2 PySem.SeqAt PyProof.Rows
section
variable {X:Cx} {C:zb9} {a b c:Expr} {ia ib ic:E} {pos:Pos}
theorem yF2 (hu:X.A.units+1<cLine):IxR X (fun x y H Q=>∃ a v,x=.ref a∧yB4 H a y (some v)∧Q v H):=by
 intro value slice pins s σ H x y v u Q I rx ry ⟨a,w,ex,g,q⟩ hs
 subst ex
 obtain rfl:v=Value.ref a:=rx
 have hT:=zV9 I g
 have h2:wpAny (model X.prog X.w) X.A (getItem (.ref a) u) (EP X pins σ Q) X.xe s:=ys2 hu I g ry fun w' s3 I3 rw'=>⟨w,H,I3,rw',q⟩
 unfold subscriptTail
 refine wpAny_bind ?_
 rw [getitemInPython_of_ne hT.not_modules]
 refine wpAny_bind (wpAny_specialOf hT PySem.F.slot_dict_getitem.lookup ?_)
 have fin:wpAny (model X.prog X.w) X.A (subscripted slice false (.ref a) u) (fun r s₃=>wpAny (model X.prog X.w) X.A (letTemporaryGo value (.ref a) r >>= fun _=>pure r) (EP X pins σ Q) X.xe s₃) X.xe s:=by
  rw [hs]
  exact wpAny_operating (wpAny_mono h2 (fun r s₃ h₃=>wpAny_bind (wpAny_letTemporaryGo (wpAny_pure h₃))) fun _ _ x=>x)
 first
  | exact wpAny_pure (wpAny_bind fin)
  | exact wpAny_bind (wpAny_pure (wpAny_bind fin))
  | exact wpAny_bind fin
theorem zy1 {a b:PV} {k:Key} (h1:zu4 a=some k) (h2:zu4 b=some k):a=b:=by
 cases a <;> simp only [zu4,reduceCtorEq,Option.some.injEq] at h1 <;> cases b <;> simp only [zu4,reduceCtorEq,Option.some.injEq] at h2 <;> subst h1
 ·cases h2;rfl
 ·cases h2
 ·cases h2
 ·injection h2 with h2
  injection h2 with h2
  exact congrArg PV.str (by simpa using (congrArg Array.toList h2).symm)
theorem zW8 {K:Frag} {H:Hp} {lv:Addr→Prop} {k x:PV} {k':Key} (hk:zu4 k=some k'):∀ {kvs:List (PV×PV)} {l:List (Key×V)},RKV K H lv kvs l→zt5 k kvs=some x→∃ v,yc5 l k'=some v∧RP K H lv x v
 | [],l,h,e=>by simp [zt5] at e
 | (k1,x1)::r,l,h,e=>by
  rw [RKV] at h
  obtain ⟨k2,v,l',rfl,h1,h2,h3⟩:=h
  rw [zt5] at e
  by_cases hc:k1=k
  ·subst hc
   rw [if_pos rfl] at e
   cases e
   rw [h1] at hk;cases hk
   exact ⟨v,zE1 rfl,h2⟩
  ·rw [if_neg hc] at e
   obtain ⟨w,g1,g2⟩:=zW8 hk h3 e
   refine ⟨w,?_,g2⟩
   rw [zy0]
   ·exact g1
   ·intro e'
    have:k2=k':=e'
    subst this
    exact hc (zy1 h1 hk)
theorem yq1 {K:Frag} {H:Hp} {lv:Addr→Prop} {k x:PV}:∀ {kvs:List (PV×PV)} {l:List (Key×V)},RKV K H lv kvs l→zt5 k kvs=some x→∃ k',zu4 k=some k'
 | [],l,h,e=>by simp [zt5] at e
 | (k1,x1)::r,l,h,e=>by
  rw [RKV] at h
  obtain ⟨k2,v,l',rfl,h1,h2,h3⟩:=h
  rw [zt5] at e
  by_cases hc:k1=k
  ·subst hc;exact ⟨k2,h1⟩
  ·rw [if_neg hc] at e
   exact yq1 h3 e
theorem yk5 {K:Frag} {α:Al} {st:za6} {H:Hp} {x:PV} {v:V} {k:Key} (h:RW K α st H x v) (e:zu4 x=some k):v=kV k:=by
 cases x with
 | int i=>cases e;exact h.int
 | str cs=>cases e;exact h.str.1
 | _=>cases e
theorem xi2 (hu:X.A.units+1<cLine) (ha:SE X C a ia) (hb:SE X C b ib) (hs:zW5 b):SE X C (.Subscript a b pos) (.ix ia ib) :=
 PE.mono (xc1 (yU9.or (yF2 hu)) ha hb hs) fun σ H Q h_=>by
  obtain ⟨env,α,st,v,st',at',e,q⟩:=h_
  rw [xf6] at e
  obtain ⟨o,st1,e1,e⟩:=Res.bind_inv e
  obtain ⟨iv,i,st2,e2,hi,e⟩:=Res.bindV_inv e
  refine ⟨env,α,st,o,st1,at',e1,fun w H1 α1 x1 r1 v1=>?_⟩
  refine ⟨env,α1,st1,iv,st2,at'.next x1 r1,e2,fun w2 H2 α2 x2 r2 v2=>?_⟩
  have wi:=v2.view r2 hi
  have ro:=x2.rv v1
  have seq:∀ {x:PV},RW X.K α2 st2 H2 x w→okO (yt7 x i) st2=.ok v st'→(rIx X.K w w2 H2 Q):=by
   intro x rx hx
   obtain ⟨z,h1,h2,h3⟩:=zI0 hx
   subst h2 h3
   have fin:∀ {u:V},RP X.K H2 (zf1 α2 st') z u→Q u H2:=fun h=>q _ H2 α2 (x1.trans x2) r2 h
   cases x with
   | tup xs =>
    cases i with
    | int k =>
     obtain ⟨p,vs,rfl,g1,g2⟩:=rx.tup
     obtain ⟨j,hj,hz⟩:=Option.bind_eq_some_iff.mp (show (zi5 xs.length k).bind (fun j=>xs[j]?)=some z from h1)
     obtain ⟨u,hu1,hu2⟩:=g2.get hz
     exact .inr (.inl ⟨p,vs,k,u,rfl,wi.int,g1,by show (zi5 vs.length k).bind (fun j=>vs[j]?)=some u;rw [← g2.length,hj];exact hu1,fin hu2⟩)
    | _=>simp [yt7] at h1
   | lst xs =>
    cases i with
    | int k =>
     obtain ⟨p,vs,rfl,g1,g2⟩:=rx.lst
     obtain ⟨j,hj,hz⟩:=Option.bind_eq_some_iff.mp (show (zi5 xs.length k).bind (fun j=>xs[j]?)=some z from h1)
     obtain ⟨u,hu1,hu2⟩:=g2.get hz
     exact .inl ⟨p,vs,k,u,rfl,wi.int,g1,by show (zi5 vs.length k).bind (fun j=>vs[j]?)=some u;rw [← g2.length,hj];exact hu1,fin hu2⟩
    | _=>simp [yt7] at h1
   | str cs =>
    cases i with
    | int k =>
     obtain ⟨j,hj,hz⟩:=Option.bind_eq_some_iff.mp (show (zi5 cs.length k).bind (fun j=>(cs[j]?).map fun c=>PV.str [c])=some z from h1)
     obtain ⟨ch,hc1,hc2⟩:=Option.map_eq_some_iff.mp hz
     obtain ⟨g1,g2⟩:=rx.str
     refine .inr (.inr ⟨_,k,ch,g1,wi.int,by rw [zl8];exact g2,?_,fin (by rw [← hc2,RP];exact ⟨rfl,by show 1≤sizeLine;decide⟩)⟩)
     show (zi5 cs.toArray.toList.length k).bind (fun j=>cs.toArray.toList[j]?)=some ch
     simp only [List.toList_toArray]
     rw [hj]
     exact hc1
    | _=>simp [yt7] at h1
   | _=>cases i <;> simp [yt7] at h1
  cases o with
  | p x=>exact .inl (seq (.inl ro) e)
  | ref n =>
   have e:(match zb5 st2 n with | some (.lst xs)=>okO (yt7 (.lst xs) i) st2 | some (.dct kvs)=>okO (zt5 i kvs) st2 | _=>.stuck)=Res.ok v st':=e
   obtain ⟨p,hw,hp⟩:=id ro
   cases ho:zb5 st2 n with
   | none=>rw [ho] at e;cases e
   | some ob =>
    rw [ho] at e
    cases ob with
    | dead=>cases e
    | lst xs =>
     refine .inl (seq (x:=.lst xs) ?_ e)
     obtain ⟨p',vs,h1,h2,h3⟩:=r2.lst n xs ho
     rw [hp] at h1;cases h1
     exact .inr ⟨xs,p,vs,rfl,hw,SqL.of h2,h3⟩
    | dct kvs =>
     obtain ⟨z,h1,h2,h3⟩:=zI0 e
     subst h2 h3
     obtain ⟨p',l,g1,g2,g3⟩:=r2.dct n kvs ho
     rw [hp] at g1;cases g1
     cases hk:zu4 i with
     | none =>
      obtain ⟨k',hk'⟩:=yq1 g3 h1
      rw [hk] at hk';cases hk'
     | some k =>
      obtain ⟨u,f1,f2⟩:=zW8 hk g3 h1
      refine .inr ⟨p,u,hw,?_,q _ H2 α2 (x1.trans x2) r2 f2⟩
      rw [yk5 wi hk,← f1]
      exact yB4.k g2
end
open PySem L2 PySem.SeqAt PyProof.Rows
section
variable {X:Cx} {C:zb9} {e:Expr} {es:List Expr} {irs:List E} {pos p:Pos}
def zH4 (X:Cx) (f:Value) (g:List PV→Option PV):Prop :=
 zN5 X f fun ws H Q=>∃ α st xs z,RSt X.K α st H∧Paired (RW X.K α st H) xs ws∧g xs=some z∧∀ w H',zl3 H H'→RP X.K H' (zf1 α st) z w→Q w H'
theorem zP7 {K:Frag} {α:Al} {st:za6} {H:Hp} (r:RSt K α st H):∀ {vs:List Val} {ws:List V} {xs:List PV},Paired (RV K α st H) vs ws→zn7 st vs=some xs→Paired (RW K α st H) xs ws
 | [],ws,xs,h,e=>by cases h;cases e;exact .nil
 | v::vr,ws,xs,h,e=>by
  cases h with
  | cons q t =>
   unfold zn7 at e
   cases e1:view st v with
   | none=>rw [e1] at e;cases e
   | some x =>
    rw [e1] at e
    cases e2:zn7 st vr with
    | none=>rw [e2] at e;cases e
    | some xr =>
     rw [e2] at e
     cases e
     exact .cons (q.view r e1) (zP7 r t e2)
theorem zI1 {g:List PV→Option PV} {σ:L2.St} {H:Hp} {Q:VK} {irs:List E} {ir:E} (hi:∀ env st,evalE C ir env st=(evalEs C irs env st).bind fun vs st=>opN g vs st)
  (h:tP X.K C ir σ H Q):tCB (fun ws H Q=>∃ α st xs z,RSt X.K α st H∧Paired (RW X.K α st H) xs ws∧g xs=some z∧∀ w H',zl3 H H'→RP X.K H' (zf1 α st) z w→Q w H') (tPs X.K C irs) σ H Q:=by
 obtain ⟨env,α,st,v,st',at',e,q⟩:=h
 rw [hi] at e
 obtain ⟨vs,st1,e1,e⟩:=Res.bind_inv e
 refine ⟨env,α,st,vs,st1,at',e1,fun ws H1 α1 x1 r1 pr=>?_⟩
 unfold opN at e
 cases e2:zn7 st1 vs with
 | none=>rw [e2] at e;cases e
 | some xs =>
  rw [e2] at e
  obtain ⟨z,h1,h2,h3⟩:=zI0 e
  subst h2 h3
  exact ⟨α1,st',xs,z,r1,zP7 r1 pr e2,h1,fun w H2 s2 rp=>q w H2 α1 (x1.trans (.of_same r1 s2)) (r1.same s2) rp⟩
theorem yB3 {x:Str} {id:String} {g:List PV→Option PV} {ir:E} (hc:zH4 X (.builtin id) g) (hi:∀ env st,evalE C ir env st=(evalEs C irs env st).bind fun vs st=>opN g vs st) (hg:Gl X x) (hm:X.mg x=none) (hv:bootBuiltins x=some (.builtin id))
  (ha:SA X C (e::es) irs) (hn:x ≠ "__name__") (hdb:(x==("__debug__" : Str))=false) (he:starEach (e::es) X.env=(false,eval e X.env)::starEach es X.env) (hpl:(backTo pos (starEach es X.env)).any (·.1)=false) :
  SE X C (.Call (.Name x p) (e::es) [] pos) ir:=PE.mono (ye6 hc hg hm hv ha hn hdb he hpl) fun _ _ _ h=>zI1 hi h
theorem yl8 {x:Str} {T:String} {g:List PV→Option PV} {ir:E} (hc:zH4 X (.type T) g) (hi:∀ env st,evalE C ir env st=(evalEs C irs env st).bind fun vs st=>opN g vs st) (hg:Gl X x) (hm:X.mg x=none) (hv:bootBuiltins x=some (.type T))
  (ha:SA X C (e::es) irs) (hn:x ≠ "__name__") (hdb:(x==("__debug__" : Str))=false) (he:starEach (e::es) X.env=(false,eval e X.env)::starEach es X.env) (hpl:(backTo pos (starEach es X.env)).any (·.1)=false) :
  SE X C (.Call (.Name x p) (e::es) [] pos) ir:=PE.mono (ym0 hc hg hm hv ha hn hdb he hpl) fun _ _ _ h=>zI1 hi h
theorem zI2:zH4 X (.builtin "len") (f1 yZ7):=by
 rintro pins s σ H ws us Q I rs ⟨α,st,xs,z,r,pr,hz,q⟩
 cases pr with
 | nil=>cases hz
 | cons h t =>
  cases t with
  | cons _ _=>cases hz
  | nil =>
   rename_i x w
   have hz:yZ7 x=some z:=hz
   have fin:∀ {n:Int},z=.int n→Q (.int n) H:=fun e=>q _ _ (zl3.refl H) (by rw [e,RP])
   cases x with
   | tup l =>
    obtain ⟨a,vs,rfl,h1,h2⟩:=h.tup
    exact zD0 pins s σ H _ us Q I rs ⟨a,vs,rfl,.inr h1,fin (by rw [← h2.length];cases hz;rfl)⟩
   | lst l =>
    obtain ⟨a,vs,rfl,h1,h2⟩:=h.lst
    exact zD0 pins s σ H _ us Q I rs ⟨a,vs,rfl,.inl h1,fin (by rw [← h2.length];cases hz;rfl)⟩
   | str cs =>
    obtain ⟨h1,h2⟩:=h.str
    subst h1
    refine zR8 pins s σ H _ us Q I rs ⟨_,rfl,by rw [zl8];exact h2,fin ?_⟩
    rw [zl8];cases hz;rfl
   | _=>cases hz
theorem yT2 {xs:List PV} {z:PV} (h:f1 xd6 xs=some z):(∃ i,xs=[.int i])∨∃ b,xs=[.bl b]:=by
 match xs with
 | [.int i]=>exact .inl ⟨i,rfl⟩
 | [.bl b]=>exact .inr ⟨b,rfl⟩
 | [.non]=>cases h
 | [.str _]=>cases h
 | [.tup _]=>cases h
 | [.lst _]=>cases h
 | []=>cases h
 | _::_::_=>cases h
theorem xh2:zH4 X (.type "int") (f1 xd6):=by
 rintro pins s σ H ws us Q I rs ⟨α,st,xs,z,r,pr,hz,q⟩
 rcases yT2 hz with ⟨i,rfl⟩ | ⟨b,rfl⟩
 ·cases pr with
  | cons h1 t =>
   cases t
   have e1:=h1.int
   subst e1
   exact zS9 pins s σ H _ us Q I rs (.inl ⟨i,rfl,q _ _ (zl3.refl H) (by cases hz;rw [RP])⟩)
 ·cases pr with
  | cons h1 t =>
   cases t
   have e1:=h1.bl
   subst e1
   exact zS9 pins s σ H _ us Q I rs (.inr ⟨b,rfl,q _ _ (zl3.refl H) (by cases hz;rw [RP])⟩)
noncomputable def tS (K:Frag) (C:zb9) (W:Nat) (ss:List S):TS:=fun D σ H=>∃ env α st fl st',At K α st H env σ∧execSs C W ss env st=.ok fl st' ∧
 match fl with
 | .next env'=>∀ σ' H' α',Ext K α st H α' st' H'→At K α' st' H' env' σ'→D.nx σ' H'
 | .ret v=>∀ w H' α',Ext K α st H α' st' H'→RSt K α' st' H'→RV K α' st' H' v w→D.rt w H'
noncomputable def tS1 (K:Frag) (C:zb9) (W:Nat) (ss:S):TS:=fun D σ H=>∃ env α st fl st',At K α st H env σ∧execS C W ss env st=.ok fl st' ∧
 match fl with
 | .next env'=>∀ σ' H' α',Ext K α st H α' st' H'→At K α' st' H' env' σ'→D.nx σ' H'
 | .ret v=>∀ w H' α',Ext K α st H α' st' H'→RSt K α' st' H'→RV K α' st' H' v w→D.rt w H'
noncomputable abbrev SSs (X:Cx) (C:zb9) (W:Nat) (b:List Stmt) (ss:List S):Prop:=PSs X b (tS X.K C W ss)
noncomputable abbrev SS (X:Cx) (C:zb9) (W:Nat) (b:Stmt) (ss:S):Prop:=PS X b (tS1 X.K C W ss)
variable {W:Nat}
theorem PS.mono {st:Stmt} {t t':TS} (h:PS X st t) (m:∀ D σ H,t' D σ H→t D σ H):PS X st t':=fun pins s σ H D I q=>h pins s σ H D I (m _ _ _ q)
theorem PSs.mono {st:List Stmt} {t t':TS} (h:PSs X st t) (m:∀ D σ H,t' D σ H→t D σ H):PSs X st t':=fun pins s σ H D I q=>h pins s σ H D I (m _ _ _ q)
theorem At.set {K:Frag} {α:Al} {st:za6} {H:Hp} {env:Env} {σ:L2.St} {i:Nat} {v:Val} {w:V} (a:At K α st H env σ) (h:RV K α st H v w):At K α st H (env.set i (some v)) (σ.set i (some w)):=by
 refine ⟨by simp [a.len],a.rs,fun j u hj=>?_⟩
 by_cases hij:i=j
 ·subst hij
  by_cases hl:i<env.length
  ·rw [List.getElem?_set_self hl] at hj
   cases hj
   exact ⟨w,by rw [List.getElem?_set_self (by rw [← a.len];exact hl)],h⟩
  ·rw [List.getElem?_eq_none (by simp;lia)] at hj
   cases hj
 ·rw [List.getElem?_set_ne hij] at hj
  obtain ⟨w',h1,h2⟩:=a.env j u hj
  exact ⟨w',by rw [List.getElem?_set_ne hij];exact h1,h2⟩
theorem yV1:SSs X C W [] []:=PSs.mono yG3 fun D σ H h_=>by
 obtain ⟨env,α,st,fl,st',at',e,q⟩:=h_
 rw [exs_nil] at e
 cases e
 exact q σ H α .refl at'
theorem yI4 {st:Stmt} {zp3:List Stmt} {i:S} {ir:List S} (h1:SS X C W st i) (h2:SSs X C W zp3 ir):SSs X C W (st::zp3) (i::ir) :=
 PSs.mono (yz9 h1 h2) fun D σ H h_=>by
  obtain ⟨env,α,st,fl,st',at',e,q⟩:=h_
  rw [exs_cons] at e
  obtain ⟨f1,st1,e1,e⟩:=Res.bind_inv e
  refine ⟨env,α,st,f1,st1,at',e1,?_⟩
  cases f1 with
  | ret v =>
   cases e
   exact q
  | next env1 =>
   intro σ1 H1 α1 x1 at1
   refine ⟨env1,α1,st1,fl,st',at1,e,?_⟩
   cases fl with
   | next env2=>exact fun σ2 H2 α2 x2 at2=>q σ2 H2 α2 (x1.trans x2) at2
   | ret v=>exact fun w H2 α2 x2 r2 rv=>q w H2 α2 (x1.trans x2) r2 rv
theorem yH4 {ie:E} (h:SE X C e ie) (hs:swapsWith e none pos.line X.env=pure false):SS X C W (.Expr e pos) (.expr ie) :=
 PS.mono (yH7 h hs) fun D σ H h_=>by
  obtain ⟨env,α,st,fl,st',at',e,q⟩:=h_
  rw [yJ8] at e
  obtain ⟨v,st1,e1,e⟩:=Res.bind_inv e
  cases e
  exact ⟨env,α,st,v,st',at',e1,fun w H1 α1 x1 r1 v1=>q σ H1 α1 x1 (at'.next x1 r1)⟩
theorem yW1 {ie:E} (h:SE X C e ie):SS X C W (.Return (some e) pos) (.ret ie) :=
 PS.mono (yN7 h) fun D σ H h_=>by
  obtain ⟨env,α,st,fl,st',at',e,q⟩:=h_
  rw [yP3] at e
  obtain ⟨v,st1,e1,e⟩:=Res.bind_inv e
  cases e
  exact ⟨env,α,st,v,st',at',e1,q⟩
theorem xe4 {c:Expr} {ic:E} {a b:List Stmt} {sa sb:List S} (hc:ST X C c ic) (ha:SSs X C W a sa) (hb:SSs X C W b sb):SS X C W (.If c a b pos) (.ite ic sa sb) :=
 PS.mono (xh0 hc ha hb) fun D σ H h_=>by
  obtain ⟨env,α,st,fl,st',at',e,q⟩:=h_
  rw [yp1] at e
  obtain ⟨k,st1,e1,e⟩:=Res.bindB_inv e
  refine ⟨env,α,st,k,st1,at',e1,fun H1 α1 x1 r1=>?_⟩
  have go:∀ {ss:List S},execSs C W ss env st1=.ok fl st'→tS X.K C W ss D σ H1:=fun {ss} e2=>by
   refine ⟨env,α1,st1,fl,st',at'.next x1 r1,e2,?_⟩
   cases fl with
   | next env2=>exact fun σ2 H2 α2 x2 at2=>q σ2 H2 α2 (x1.trans x2) at2
   | ret v=>exact fun w H2 α2 x2 r2 rv=>q w H2 α2 (x1.trans x2) r2 rv
  cases k with
  | true=>exact go e
  | false=>exact go e
theorem yN3 {i:Nat} {x:Str} {ie:E} {pos':Pos} (hN:X.N.Nodup) (hi:X.N[i]?=some x) (hx:Loc X.env.scope x) (h:SE X C e ie) (hs:swapsWith e (some (.Name x pos')) pos.line X.env=pure false) (hf:X.fn x=true∨X.env.scope.names.lookup x=some .local) :
  SS X C W (.Assign [.Name x pos'] e pos) (.set i ie) :=
 PS.mono (yT8 hN hi hx h hs hf) fun D σ H h_=>by
  obtain ⟨env,α,st,fl,st',at',e,q⟩:=h_
  rw [yq0] at e
  obtain ⟨v,st1,e1,e⟩:=Res.bind_inv e
  cases e
  exact ⟨env,α,st,v,st',at',e1,fun w H1 α1 x1 r1 v1=>q _ H1 α1 x1 ((at'.next x1 r1).set v1)⟩
end
open PySem L2 PySem.SeqAt PyProof.Rows
noncomputable def Its (cs:List Nat):L2.It:=⟨fun i _=>i<cs.length,fun i H x H'=>H'=H∧∃ c,cs[i]?=some c∧x=.str ⟨#[c]⟩,fun i _=>cs.length≤i⟩
theorem yd9 {P:Program} {w:World} {K:Frag} {tg:Expr} (it:Addr) (cs:List Nat) (t:Tok) (ty:String)
  (hty:["enumerate", "zip", "dict_itemiterator", "dict_reverseitemiterator", "odict_iterator", "itertools.zip_longest", "itertools.pairwise"].contains ty=false)
  (item:∀ {A:Around} {E:Value→Shared→Prop} {s:Shared} {i c:Nat} {Q:Option Value→Shared→Prop},s.heap.IsStrIter it ty ⟨cs.toArray⟩ t i→(⟨cs.toArray⟩:Str).cps[i]?=some c →
   (∀ h',h'.IsStrIter it ty ⟨cs.toArray⟩ t (i+1)→Heap.SameBut it s.heap h'→Q (some (.str ⟨#[c]⟩ s.toks)) { s with heap:=h',toks:=s.toks+1 })→wpAny (model P w) A (pyNext (.ref it)) Q E s)
  (done:∀ {A:Around} {E:Value→Shared→Prop} {s:Shared} {i:Nat} {Q:Option Value→Shared→Prop},A.handled=none→s.heap.IsStrIter it ty ⟨cs.toArray⟩ t i→(⟨cs.toArray⟩:Str).cps[i]?=none →
   (∀ h',Heap.ExtBut it s.heap h'→Q none { s with heap:=h' })→wpAny (model P w) A (pyNext (.ref it)) Q E s)
  (self:∀ {A:Around} {E:Value→Shared→Prop} {s:Shared} {i:Nat} {Q:Value→Shared→Prop},s.heap.IsStrIter it ty ⟨cs.toArray⟩ t i→Q (.ref it) s→wpAny (model P w) A (pyIter (.ref it)) Q E s) :
  yH5 P w K tg (Its cs) [it] it (fun i h=>h.IsStrIter it ty ⟨cs.toArray⟩ t i) where
 mem:=by simp
 obj:=fun i h st b hb=>by
  have e:b=it:=by simpa using hb
  subst e
  obtain ⟨o,e,c,d⟩:=st
  exact ⟨o,e,fun v z=>by rw [d] at z;cases z⟩
 keep:=fun i h h' st k=>by
  obtain ⟨o,e,c,d⟩:=st
  exact ⟨o,k it (by simp) o e,c,d⟩
 item:=by
  intro X hP hw hK hc i pins s σ H E I hf st hg
  subst hP hw hK
  obtain ⟨f0,f1,f2,f3,f4,f5⟩:=hf it (by simp)
  have hg:i<cs.length:=hg
  refine item st (c:=cs[i]) (by simp [hg]) fun h' st' sb=>?_
  have I1:Inv X pins σ H { s with heap:=h',toks:=s.toks+1 }:=I.turned (fun b o hb e=>(sb.2 b hb).trans e) f0 f1 f3 f4 f5
  obtain ⟨o,e,c,d⟩:=id st'
  exact ⟨_,rfl,yw1 (s:={ s with heap:=h',toks:=s.toks+1 }) e c d hty ⟨.str ⟨#[cs[i]]⟩,H,I1,⟨_,rfl⟩,⟨rfl,cs[i],by simp [hg],rfl⟩,st',fun b hb=>(hf b hb).1⟩⟩
 done:=by
  intro X hP hw hK hc i pins s σ H E I hf st hg
  subst hP hw hK
  obtain ⟨f0,f1,f2,f3,f4,f5⟩:=hf it (by simp)
  have hg:cs.length≤i:=hg
  exact done (I.ok.hd hc) st (by simp [hg]) fun h' eb=>⟨rfl,I.turned (t':=s.toks) (fun b o hb e=>eb b o hb e) f0 f1 f3 f4 f5⟩
 self:=fun _ _ _ _ _ st h=>self st h
noncomputable def iSeq (K:Frag) (tl:TE):TI:=fun σ H R=>tl σ H fun x H1 =>
 (∃ a xs,x=.ref a∧SqL K H1 a xs∧(xs.length≤sizeLine→R (Itl K a) H1))∨(∃ a xs,x=.ref a∧SqT K H1 a xs∧(xs.length≤sizeLine→R (Itt K a) H1))∨∃ cs,x=.str ⟨cs.toArray⟩∧R (Its cs) H1
theorem yO8 {X:Cx} {tg l:Expr} {tl:TE} (hl:PE X l tl):PI X tg l (iSeq X.K tl):=by
 intro pins s σ H R I h
 refine thn (hl pins s σ H _ I h) fun v s1 h_=>?_
 obtain ⟨x,H1,I1,r1,q1⟩:=h_
 rcases q1 with ⟨a,xs,e,hq,q⟩ | ⟨a,xs,e,hq,q⟩ | ⟨cs,e,q⟩
 ·subst e
  cases r1
  obtain ⟨its,rv,p,hz⟩:=I1.list hq
  refine wpAny_pyIter_list p.isList ?_
  refine ⟨s1.heap.objs.size,[s1.heap.objs.size],_,_,H1,rfl,I1.kept (t':=s1.toks) fun b o e=>Heap.get?_push_of_some _ e,yq2 a _,⟨_,Heap.get?_push_size _ rfl,rfl,rfl⟩,fun b hb=>?_,q hz⟩
  have e:b=s1.heap.objs.size:=by simpa using hb
  subst e
  exact I1.fpOk (Nat.le_refl _) (I1.hok.fresh (Nat.le_refl _))
 ·subst e
  cases r1
  obtain ⟨its,rv,p,hz⟩:=I1.tuple hq
  refine wpAny_pyIter_tuple (show s1.heap.IsTuple a its.toArray from p) ?_
  refine ⟨s1.heap.objs.size,[s1.heap.objs.size],_,_,H1,rfl,I1.kept (t':=s1.toks) fun b o e=>Heap.get?_push_of_some _ e,yi9 a _,⟨_,Heap.get?_push_size _ rfl,rfl,rfl⟩,fun b hb=>?_,q hz⟩
  have e:b=s1.heap.objs.size:=by simpa using hb
  subst e
  exact I1.fpOk (Nat.le_refl _) (I1.hok.fresh (Nat.le_refl _))
 ·subst e
  obtain ⟨t,rfl⟩:=r1
  have fp:∀ b∈[s1.heap.objs.size],zV7 X pins H1 b:=fun b hb=>by
   have e:b=s1.heap.objs.size:=by simpa using hb
   subst e
   exact I1.fpOk (Nat.le_refl _) (I1.hok.fresh (Nat.le_refl _))
  cases ha:(⟨cs.toArray⟩:Str).cps.all (· < 128)
  ·refine wpAny_pyIter_wide ha ?_
   exact ⟨s1.heap.objs.size,[s1.heap.objs.size],_,_,H1,rfl,I1.kept (t':=s1.toks) fun b o e=>Heap.get?_push_of_some _ e,
    yd9 _ cs t "str_iterator" (by decide) (fun h1 h2 h3=>wpAny_pyNext_wide_item h1 h2 h3) (fun h0 h1 h2 h3=>wpAny_pyNext_wide_end h0 h1 h2 h3) (fun h1 h2=>wpAny_pyIter_striter_wide h1 h2),⟨_,Heap.get?_push_size _ rfl,rfl,rfl⟩,fp,q⟩
  ·refine wpAny_pyIter_ascii ha ?_
   exact ⟨s1.heap.objs.size,[s1.heap.objs.size],_,_,H1,rfl,I1.kept (t':=s1.toks) fun b o e=>Heap.get?_push_of_some _ e,
    yd9 _ cs t "str_ascii_iterator" (by decide) (fun h1 h2 h3=>wpAny_pyNext_ascii_item h1 h2 h3) (fun h0 h1 h2 h3=>wpAny_pyNext_ascii_end h0 h1 h2 h3) (fun h1 h2=>wpAny_pyIter_striter_ascii h1 h2),⟨_,Heap.get?_push_size _ rfl,rfl,rfl⟩,fp,q⟩
structure WalkAt (K:Frag) (α:Al) (st:za6) (H:Hp) (J:L2.It) (xs:List PV):Prop where
 go:∀ (i:Nat),i<xs.length→J.go i H
 yld:∀ (i:Nat) x w H',xs[i]?=some x→J.yld i H w H'→zl3 H H'∧RP K H' (zf1 α st) x w
 stop:∀ (i:Nat),xs.length≤i→J.stop i H
def Walk (K:Frag) (α:Al) (st:za6) (H:Hp) (J:L2.It) (src:Option (Nat×List PV)) (xs:List PV):Prop:=∀ α' st' H',Lk K α st H α' st' H'→RSt K α' st' H'→zw5 st' src=true→WalkAt K α' st' H' J xs
noncomputable def tI (K:Frag) (C:zb9) (it:It):TI:=fun σ H R=>∃ env α st xs src st',At K α st H env σ∧evalIt C it env st=.ok (xs,src) st' ∧
 ∀ J H' α',Ext K α st H α' st' H'→RSt K α' st' H'→Walk K α' st' H' J src xs→xs.length≤sizeLine→R J H'
noncomputable abbrev SI (X:Cx) (C:zb9) (tg iter:Expr) (it:It):Prop:=PI X tg iter (tI X.K C it)
theorem PI.mono {X:Cx} {tg iter:Expr} {t t':TI} (h:PI X tg iter t) (m:∀ σ H R,t' σ H R→t σ H R):PI X tg iter t':=fun pins s σ H R I q=>h pins s σ H R I (m _ _ _ q)
section
variable {X:Cx} {C:zb9} {W:Nat} {tg l:Expr} {il:E} {pos p:Pos}
theorem yY6 (hl:SE X C l il):SI X C tg l (.of il):=PI.mono (yO8 hl) fun σ H R h_=>by
 obtain ⟨env,α,st,xs,src,st',at',e,q⟩:=h_
 rw [yG0] at e
 obtain ⟨v,st1,e1,e⟩:=Res.bind_inv e
 refine ⟨env,α,st,v,st1,at',e1,fun w H1 α1 x1 r1 v1=>?_⟩
 unfold walkOf at e
 cases v with
 | ref n =>
  cases hv:view st1 (.ref n) with
  | none=>rw [hv] at e;cases e
  | some y =>
   rw [hv] at e
   have hy:∃ ys,y=.lst ys∧zb5 st1 n=some (.lst ys):=by
    have hv:(match zb5 st1 n with | some (.lst xs)=>some (PV.lst xs) | _=>none)=some y:=hv
    cases ho:zb5 st1 n with
    | none=>rw [ho] at hv;cases hv
    | some ob =>
     rw [ho] at hv
     cases ob with
     | lst ys=>cases hv;exact ⟨ys,rfl,rfl⟩
     | dct _=>cases hv
     | dead=>cases hv
   obtain ⟨ys,rfl,ho⟩:=hy
   cases e
   obtain ⟨a,hw,ha⟩:=v1
   obtain ⟨a',vs,h1,h2,h3⟩:=r1.lst n xs ho
   rw [ha] at h1;cases h1
   refine .inl ⟨a,vs,hw,SqL.of h2,fun hz=>q _ _ _ x1 r1 (fun α2 st2 H2 x2 r2 so=>?_) (by rw [h3.length];exact hz)⟩
   have so:view st2 (.ref n)=some (.lst xs):=of_decide_eq_true so
   have ho2:zb5 st2 n=some (.lst xs):=by
    have so:(match zb5 st2 n with | some (.lst xs)=>some (PV.lst xs) | _=>none)=some (.lst xs):=so
    cases ho:zb5 st2 n with
    | none=>rw [ho] at so;cases so
    | some ob =>
     rw [ho] at so
     cases ob with
     | lst ys=>cases so;rfl
     | dct _=>cases so
     | dead=>cases so
   obtain ⟨a',vs2,k1,k2,g2⟩:=r2.lst n xs ho2
   rw [x2.pre n a ha] at k1;cases k1
   have g1:SqL X.K H2 a vs2:=SqL.of k2
   have gl:=g2.length
   refine ⟨fun i hi=>⟨vs2,vs2[i],g1,List.getElem?_eq_getElem (by omega)⟩,fun i x w H' hx ⟨hy1,hy2⟩=>?_,fun i hi=>⟨vs2,g1,by omega⟩⟩
   subst hy1
   obtain ⟨u,hu1,hu2⟩:=g2.get hx
   rw [hy2 vs2 g1] at hu1
   cases hu1
   exact ⟨zl3.refl _,hu2⟩
 | p y =>
  have e:(match zd6 y with | some xs=>Res.ok (xs,none) st1 | none=>.stuck)=Res.ok (xs,src) st':=e
  cases y with
  | tup ys =>
   cases e
   have v1:RP X.K H1 (zf1 α1 st') (.tup xs) w:=v1
   rw [RP] at v1
   obtain ⟨a,vs,rfl,h1,h2⟩:=v1
   refine .inr (.inl ⟨a,vs,rfl,h1,fun hz=>q _ _ _ x1 r1 (fun α2 st2 H2 x2 _ _=>?_) (by rw [h2.length];exact hz)⟩)
   have g1:=x2.tup a vs h1
   have g2:=x2.rps h2
   have gl:=g2.length
   refine ⟨fun i hi=>⟨vs,vs[i],g1,List.getElem?_eq_getElem (by omega)⟩,fun i x w H' hx ⟨hy1,hy2⟩=>?_,fun i hi=>⟨vs,g1,by omega⟩⟩
   subst hy1
   obtain ⟨u,hu1,hu2⟩:=g2.get hx
   rw [hy2 vs g1] at hu1
   cases hu1
   exact ⟨zl3.refl _,hu2⟩
  | lst ys =>
   cases e
   have v1:RP X.K H1 (zf1 α1 st') (.lst xs) w:=v1
   rw [RP] at v1
   obtain ⟨a,vs,rfl,h1,h0,h2⟩:=v1
   refine .inl ⟨a,vs,rfl,h1,fun hz=>q _ _ _ x1 r1 (fun α2 st2 H2 x2 _ _=>?_) (by rw [h2.length];exact hz)⟩
   have g1:=(x2.lst a vs h1 h0).1
   have g2:=x2.rps h2
   have gl:=g2.length
   refine ⟨fun i hi=>⟨vs,vs[i],g1,List.getElem?_eq_getElem (by omega)⟩,fun i x w H' hx ⟨hy1,hy2⟩=>?_,fun i hi=>⟨vs,g1,by omega⟩⟩
   subst hy1
   obtain ⟨u,hu1,hu2⟩:=g2.get hx
   rw [hy2 vs g1] at hu1
   cases hu1
   exact ⟨zl3.refl _,hu2⟩
  | str cs =>
   cases e
   have v1:RP X.K H1 (zf1 α1 st') (.str cs) w:=v1
   rw [RP] at v1
   refine .inr (.inr ⟨cs,v1.1,q _ _ _ x1 r1 (fun α2 st2 H2 x2 _ _=>?_) (by simpa using v1.2)⟩)
   refine ⟨fun i hi=>by simpa [Its] using hi,fun i x w H' hx ⟨hy1,c,hc,hw⟩=>?_,fun i hi=>by simpa [Its] using hi⟩
   subst hy1
   refine ⟨zl3.refl _,?_⟩
   rw [List.getElem?_map,hc] at hx
   cases hx
   rw [RP]
   exact ⟨hw,by show 1≤sizeLine;decide⟩
  | _=>cases e
theorem yA2 {a:Expr} {ia:E} (hg:Gl X "range") (hm:X.mg "range" = none) (ha:SE X C a ia) (hs:starEach [a] X.env=[(false,eval a X.env)]):SI X C tg (.Call (.Name "range" p) [a] [] pos) (.range ia) :=
 PI.mono (yl3 hg hm (yp5 ha yE0 hs) hs) fun σ H R h_=>by
  obtain ⟨env,α,st,xs,src,st',at',e,q⟩:=h_
  rw [yi2] at e
  obtain ⟨v,y,st1,e1,hv,e⟩:=Res.bindV_inv e
  refine ⟨env,α,st,[v],st1,at',by rw [zm8,e1];rfl,fun ws H1 α1 x1 r1 pr=>?_⟩
  cases pr with
  | cons h t =>
   cases t
   cases y with
   | int i =>
    have e:(if -1000000≤i∧i≤SZ then Res.ok ((List.range i.toNat).map (fun k:Nat=>PV.int (k:Int)),none) st1 else .stuck)=Res.ok (xs,src) st':=e
    by_cases hc:-1000000≤i∧i≤SZ
    ·rw [if_pos hc] at e
     cases e
     have hi:=(h.view r1 hv).int
     subst hi
     obtain ⟨c1,c2⟩:=hc
     unfold SZ at c2
     have hzl:((List.range i.toNat).map (fun k:Nat=>PV.int (k:Int))).length≤sizeLine:=by
      have e:sizeLine=16777216:=by decide
      rw [List.length_map,List.length_range,e]
      omega
     refine ⟨i,rfl,by omega,by omega,q _ _ _ x1 r1 (fun α2 st2 H2 x2 _ _=>?_) hzl⟩
     refine ⟨fun k hk=>by simpa [Itr] using hk,fun k x w H' hx ⟨hy1,hy2⟩=>?_,fun k hk=>by simpa [Itr] using hk⟩
     subst hy1 hy2
     refine ⟨zl3.refl _,?_⟩
     have hk:k<i.toNat:=by
      have:=(List.getElem?_eq_some_iff.mp hx).1
      simpa using this
     rw [List.getElem?_map,List.getElem?_range hk] at hx
     cases hx
     rw [RP]
     simp
    ·rw [if_neg hc] at e;cases e
   | _=>cases e
noncomputable def tG (K:Frag) (t:Tg):TG:=fun v σ H Q=>∃ env α st x env',At K α st H env σ∧RP K H (zf1 α st) x v∧zr3 t (.p x) st env=some env'∧∀ σ',At K α st H env' σ'→Q σ' H
noncomputable abbrev SG (X:Cx) (tg:Expr) (t:Tg):Prop:=PG X tg (tG X.K t)
theorem PG.mono {t t':TG} (h:PG X tg t) (m:∀ v σ H Q,t' v σ H Q→t v σ H Q):PG X tg t':=fun pins s σ H v u Q I r q=>h pins s σ H v u Q I r (m _ _ _ _ q)
theorem yI3 {i:Nat} {x:Str} (hN:X.N.Nodup) (hi:X.N[i]?=some x) (hx:Loc X.env.scope x) (hf:X.fn x=true∨X.env.scope.names.lookup x=some .local):SG X (.Name x pos) (.name i) :=
 PG.mono (ys4 hN hi hx hf) fun v σ H Q h_=>by
  obtain ⟨env,α,st,x,env',at',rp,e,q⟩:=h_
  cases e
  exact q _ (at'.set rp)
theorem yY7 {iter:Expr} {body:List Stmt} {it:It} {t:Tg} {ib:List S} (hp:PassesOwn (model X.prog X.w) X.A X.env X.xe) (hc:X.calm=true) (hi:SI X C tg iter it) (hg:SG X tg t) (hb:SSs X C W body ib)
  (hs:∀ x,foldedSetIterable iter X.env x=pure x):SS X C W (.For tg iter body [] pos) (.for t it ib) :=
 PS.mono (yS3 hp hc hi hg hb hs) fun D σ H h_=>by
  obtain ⟨env,α,st,fl,st',at',e,q⟩:=h_
  rw [yU6] at e
  obtain ⟨⟨xs,src⟩,st1,e1,e⟩:=Res.bind_inv e
  refine ⟨env,α,st,xs,src,st1,at',e1,fun J H1 α1 x1 r1 wk _=>?_⟩
  have e:zp1 (execSs C W ib) t src xs env st1=.ok fl st':=e
  let Pv:Nat→L2.St→Hp→Prop:=fun i σ H2=>∃ env2 α2 st2,At X.K α2 st2 H2 env2 σ∧Ext X.K α1 st1 H1 α2 st2 H2∧zp1 (execSs C W ib) t src (xs.drop i) env2 st2=.ok fl st'
  refine ⟨fun i m σ H2=>m=xs.length - i∧i≤xs.length∧Pv i σ H2,⟨xs.length,by simp,Nat.zero_le _,env,α1,st1,at'.next x1 r1,.refl,e⟩,?_⟩
  rintro i m σ2 H2 ⟨rfl,hil,env2,α2,st2,at2,x2,e2⟩
  by_cases hlt:i<xs.length
  ·rw [List.drop_eq_getElem_cons hlt,zp1] at e2
   by_cases so:zw5 st2 src=true
   ·rw [if_pos so] at e2
    have wa:=wk α2 st2 H2 x2.lk at2.rs so
    refine .inr ⟨wa.go i hlt,Pv (i+1),fun σ3 H3 p3=>⟨xs.length - (i+1),by omega,rfl,hlt,p3⟩,fun w H3 hy=>?_⟩
    obtain ⟨s3,rp⟩:=wa.yld i xs[i] w H3 (List.getElem?_eq_getElem hlt) hy
    have x3:Ext X.K α2 st2 H2 α2 st2 H3:=.of_same at2.rs s3
    have at3:=at2.next x3 (at2.rs.same s3)
    cases hbt:zr3 t (.p xs[i]) st2 env2 with
    | none=>rw [hbt] at e2;cases e2
    | some env3 =>
     rw [hbt] at e2
     obtain ⟨f,st4,e4,e2⟩:=Res.bind_inv e2
     refine ⟨env2,α2,st2,xs[i],env3,at3,rp,hbt,fun σ3 at3'=>?_⟩
     refine ⟨env3,α2,st2,f,st4,at3',e4,?_⟩
     cases f with
     | next env4=>exact fun σ5 H5 α5 x5 at5=>⟨env4,α5,st4,at5,x2.trans (x3.trans x5),e2⟩
     | ret v =>
      cases e2
      exact fun w H5 α5 x5 r5 rv=>q w H5 α5 (x1.trans (x2.trans (x3.trans x5))) r5 rv
   ·rw [if_neg so] at e2;cases e2
  ·have hie:xs.drop i=[]:=List.drop_eq_nil_of_le (by omega)
   rw [hie,zp1] at e2
   by_cases so:zw5 st2 src=true
   ·rw [if_pos so] at e2
    cases e2
    exact .inl ⟨(wk α2 st' H2 x2.lk at2.rs so).stop i (by omega),q σ2 H2 α2 (x1.trans x2) at2⟩
   ·rw [if_neg so] at e2;cases e2
end
open PySem L2 PySem.SeqAt PyProof.Rows
theorem zB8 {env:PySem.Env} (f:(Str×NameKind)→List (Str×Addr)→Sem (ForInStep (List (Str×Addr))))
  (h1:∀ x r c,x.2=.free→env.cells.lookup x.1=some c→f x r=pure (.yield ((x.1,c)::r))) (h2:∀ x r,x.2≠.free→f x r=pure (.yield r)) :
  ∀ (l:List (Str×NameKind)) (acc:List (Str×Addr)),(∀ x∈l,x.2=.free→∃ c,env.cells.lookup x.1=some c)→(∀ x c,acc.lookup x=some c→env.cells.lookup x=some c) →
   ∃ cl,forIn l acc f=pure cl∧(∀ x c,cl.lookup x=some c→env.cells.lookup x=some c)∧(∀ x∈l,x.2=.free→∃ c,cl.lookup x.1=some c)∧∀ x,(∃ c,acc.lookup x=some c)→∃ c,cl.lookup x=some c
 | [],acc,_,ha=>⟨acc,rfl,ha,fun x hx=>absurd hx (by simp),fun x h=>h⟩
 | y::r,acc,hl,ha=>by
  by_cases hy:y.2=.free
  ·obtain ⟨c,hc⟩:=hl y List.mem_cons_self hy
   have ha':∀ x c',((y.1,c)::acc).lookup x=some c'→env.cells.lookup x=some c':=fun x c' e=>by
    rw [List.lookup_cons] at e
    split at e
    ·rename_i hx
     cases e
     have:x=y.1:=by simpa using hx
     rw [this];exact hc
    ·exact ha x c' e
   obtain ⟨cl,g1,g2,g3,g4⟩:=zB8 f h1 h2 r ((y.1,c)::acc) (fun x hx=>hl x (List.mem_cons_of_mem _ hx)) ha'
   have keep:∀ x,(∃ c',acc.lookup x=some c')→∃ c',((y.1,c)::acc).lookup x=some c':=fun x h_=>by
    obtain ⟨c',e⟩:=h_
    rw [List.lookup_cons]
    split
    ·exact ⟨c,rfl⟩
    ·exact ⟨c',e⟩
   refine ⟨cl,?_,g2,fun x hx hf=>?_,fun x hx=>g4 x (keep x hx)⟩
   ·rw [List.forIn_cons,h1 y acc c hy hc]
    exact g1
   ·rcases List.mem_cons.mp hx with e | hx
    ·subst e
     exact g4 _ ⟨c,by rw [List.lookup_cons];simp⟩
    ·exact g3 x hx hf
  ·obtain ⟨cl,g1,g2,g3,g4⟩:=zB8 f h1 h2 r acc (fun x hx=>hl x (List.mem_cons_of_mem _ hx)) ha
   refine ⟨cl,?_,g2,fun x hx hf=>?_,g4⟩
   ·rw [List.forIn_cons,h2 y acc hy]
    exact g1
   ·rcases List.mem_cons.mp hx with e | hx
    ·subst e;exact absurd hf hy
    ·exact g3 x hx hf
theorem zM1 {env:PySem.Env} {scope:Scope} (h:∀ x∈scope.names,x.2=.free→∃ c,env.cells.lookup x.1=some c) :
  ∃ cl,closureFor scope env=pure cl∧(∀ x c,cl.lookup x=some c→env.cells.lookup x=some c)∧∀ x∈scope.names,x.2=.free→∃ c,cl.lookup x.1=some c:=by
 unfold closureFor
 obtain ⟨cl,g1,g2,g3,_⟩:=zB8 (env:=env) (fun (x:Str×NameKind) (r:List (Str×Addr))=>(match x with
  | (name,kind)=>if (kind == .free)=true then (do
    let c ← cellOf env name
    pure (ForInStep.yield ((name,c)::r))) else pure (ForInStep.yield r):Sem (ForInStep (List (Str×Addr)))))
  (fun x r c hx hc=>by
   obtain ⟨n,k⟩:=x
   simp only at hx hc ⊢
   subst hx
   unfold cellOf
   rw [hc]
   rfl)
  (fun x r hx=>by
   obtain ⟨n,k⟩:=x
   simp only at hx ⊢
   rw [if_neg (by simpa using hx)])
  scope.names [] h (fun x c e=>by simp at e)
 refine ⟨cl,?_,g2,g3⟩
 show (forIn scope.names [] _ >>= fun cs=>pure cs)=pure cl
 rw [show (forIn scope.names ([]:List (Str×Addr)) _)=pure cl from g1]
 rfl
noncomputable def zf2 (X:Cx) (scope:Scope) (N:List Str) (cl:List (Str×Addr)) (s₀:Shared) (H₀:Hp) (ex:List Addr) (pn:List (Addr×Obj)):Cx where
 prog:=X.prog
 w:=X.w
 K:=X.K
 mg:=X.mg
 base:=X.base
 A:=X.A
 N:=N
 s₀:=s₀
 H₀:=H₀
 env:=compEnvC scope cl s₀.heap.objs.size X.env
 outer:=X.stack
 stack:=X.stack
 ex:=ex
 fn:=fun _=>false
 calm:=X.calm
 pn:=pn
 xe:=fun _ _=>False
section
variable {X:Cx} {pins:List (Addr×Obj)} {σ:L2.St} {H:Hp} {s:Shared} {scope:Scope} {N:List Str} {cl:List (Str×Addr)} {fp:List Addr} {caps:List Nat}
theorem yd7 {h1:Heap} {σ':L2.St} (I:Inv X pins σ H s) (hk:scope.kind=.function) (hcl:∀ x c,cl.lookup x=some c→X.env.cells.lookup x=some c) (hclf:∀ x,(compEnvC scope cl s.heap.objs.size X.env).kindOf x=some .cell∨(compEnvC scope cl s.heap.objs.size X.env).kindOf x=some .free→∃ c,cl.lookup x=some c)
  (hfp:∀ b∈fp,zV7 X pins H b) (hfs:∀ b∈fp,b<s.heap.objs.size) (hn:h1.Ns s.heap.objs.size fun _=>none) (hkept:∀ b o,s.heap.get? b=some o→h1.get? b=some o) (hl:σ'.length=N.length)
  (hσ:∀ (j:Nat) x v,N[j]?=some x→σ'[j]?=some (some v)→∃ (i:Nat),X.N[i]?=some x∧σ[i]?=some (some v)∧(X.env.kindOf x=some .cell∨X.env.kindOf x=some .free)∧((compEnvC scope cl s.heap.objs.size X.env).kindOf x=some .cell∨(compEnvC scope cl s.heap.objs.size X.env).kindOf x=some .free)∧Vis X.env.scope x) :
  Inv (zf2 X scope N cl s H fp (X.pn++pins)) [] σ' H { s with heap:=h1 }:=by
 have nofr:∀ {b:Addr},b≠X.env.locals→b∉X.fs→b∉frs X.stack:=fun h1 h2 z=>by
  rcases List.mem_cons.mp (I.stkSub _ z) with e | e
  ·exact h1 e
  ·exact h2 e
 refine ⟨⟨I.ok.mod,hk,I.ok.glob,I.ok.blt,Nat.le_refl _,fun x y c e1 e2=>I.ok.inj x y c (hcl x c e1) (hcl y c e2),hclf,fun x c e _=>(by cases e),I.ok.hd,I.ok.frames,.inl rfl,fun b hb=>?_,I.bs,Nat.le_trans I.ok.bsz I.sz,fun b o e hb=>?_,fun b hb=>?_,I.stack,I.stkFree⟩,
  rfl,I.bare,Un.kept hkept,⟨_,hn,fun j x v e1 e2 e3=>?_⟩,fun x c e=>?_,I.hok.fresh (Nat.le_refl _),fun x c e=>I.freeC x c (hcl x c e),fun p hp=>?_,I.hok.kept hkept,hl⟩
 ·exact ⟨Nat.ne_of_lt (hfs b hb),fun x c e=>(hfp b hb).2.2.2.2.1 x c (hcl x c e)⟩
 ·have hb:b∈fp:=hb
  obtain ⟨_,_,_,f3,_⟩:=hfp b hb
  rcases f3 with z | z
  ·exact I.ok.noex b o e z
  ·exact absurd (Nat.lt_of_lt_of_le (Heap.lt_size e) (Nat.le_trans I.ok.bsz z)) (Nat.lt_irrefl _)
 ·have hb:b∈fp:=hb
  obtain ⟨_,f1,f2,_⟩:=hfp b hb
  exact nofr f1 f2
 ·obtain ⟨i,a1,a2,a3,a4,a5⟩:=hσ j x v e1 e2
  obtain ⟨m,hm,hlk⟩:=I.loc
  obtain ⟨u,r,l⟩:=hlk i x v a1 a2 a5
  refine ⟨u,r,.inr ⟨a4,?_⟩⟩
  rcases l with ⟨k,_⟩ | ⟨_,c,e,z⟩
  ·rcases a3 with a3 | a3 <;> rw [k] at a3 <;> cases a3
  ·obtain ⟨c',hc'⟩:=hclf x a4
   have:=hcl x c' hc'
   rw [e] at this
   cases this
   obtain ⟨o,ho,hd⟩:=z
   exact ⟨c,hc',o,hkept c o ho,hd⟩
 ·obtain ⟨v,o,ho,hd⟩:=I.cell x c (hcl x c e)
  exact ⟨v,o,hkept c o ho,hd⟩
 ·have hp:p∈(X.pn++pins)++[]:=hp
  rw [List.append_nil] at hp
  obtain ⟨e,n,ne,nf,d⟩:=I.pin p hp
  exact ⟨hkept _ _ e,n,Nat.ne_of_lt (Heap.lt_size e),nofr ne nf,d⟩
end
open PySem L2 PySem.SeqAt PyProof.Rows
section
variable {prog:Program} {w:World} {A:Around} {R:Result→Shared→Prop} {s:Shared}
theorem zR9 {elt target iter:Expr} {ifs:List Expr} {scope:Scope} {pos:Pos} {it acc:Value} {env:PySem.Env} (I:Nat→Shared→Prop)
  (turn:∀ n s,I n s→wpAny (model prog w) A (pyNext it) (fun r s₁=>match r with
   | none=>R (.ok .next) s₁
   | some v=>wpAny (model prog w) A (letOwnedTupleGo target it v) (fun _ s₁'=>wpAny (model prog w) A (assign target env v) (fun _ s₂ =>
     wpAny (model prog w) A (forIn ifs true fun c r=>if r=true then do let ok ← isTrue c env (eval c env);pure (ForInStep.yield ok) else pure (ForInStep.yield r)) (fun ok s₃ =>
      if ok=true then wpAny (model prog w) A (eval elt env) (fun x s₄ =>
       wpAny (model prog w) A (call (.builtin "list.append") [acc,x]) (fun _ s₅=>∃ m,m<n∧I m s₅) (fun _ _=>False) s₄) (fun _ _=>False) s₃
      else ∃ m,m<n∧I m s₃) (fun _ _=>False) s₂) (fun _ _=>False) s₁') (fun _ _=>False) s₁) (fun _ _=>False) s)
  (n:Nat) (h:I n s):codeAny (model prog w) A (.compLoop (.ListComp elt [⟨target,iter,ifs,0⟩] scope pos) 0 it acc env) R s:=by
 refine codeAny_loop rfl I (fun n s hI=>?_) n h
 show wpAny _ A ((compTurn (.ListComp elt [⟨target,iter,ifs,0⟩] scope pos) 0 it acc env).onRaise (fun x=>do noteFrame x env;theTreesLotGoes x)) _ _ s
 refine wpAny_noted ?_
 rw [compTurn_list]
 refine wpAny_bind (wpAny_standAt (wpAny_bind (wpAny_mono (turn n s hI) (fun r s₁ h₁=>?_) fun _ _ h'=>h'.elim)))
 cases r with
 | none=>exact wpAny_pure h₁
 | some v =>
  refine wpAny_bind (wpAny_mono h₁ (fun _ s₁' h₁'=>?_) fun _ _ h'=>h'.elim)
  refine wpAny_bind (wpAny_mono h₁' (fun _ s₂ h₂=>wpAny_bind (wpAny_mono h₂ (fun ok s₃ h₃=>?_) fun _ _ h'=>h'.elim)) fun _ _ h'=>h'.elim)
  cases ok with
  | false=>exact wpAny_pure ⟨rfl,h₃⟩
  | true =>
   exact wpAny_bind (wpAny_bind (wpAny_mono h₃ (fun x s₄ h₄=>wpAny_bind (wpAny_mono h₄ (fun _ s₅ h₅=>wpAny_pure (wpAny_pure ⟨rfl,h₅⟩)) fun _ _ h'=>h'.elim)) fun _ _ h'=>h'.elim))
end
noncomputable def capsσ (caps:List Nat) (n:Nat) (σ:L2.St):L2.St:=caps.map (fun i=>(σ[i]?).join)++List.replicate n none
noncomputable def yu9 (K:Frag) (caps:List Nat) (n:Nat) (wi:TI) (g:TG) (tc:TT) (te:TE):TE:=fun σ H Q=>wi σ H fun J H1=>∀ D,H1 D=none→K.lookup D=none→∃ W:Nat→Nat→L2.St→Hp→List V→Prop,
 (∃ m,W 0 m (capsσ caps n σ) (upd H1 D (.lst [])) []) ∧
 ∀ i m σ' H' ys,W i m σ' H' ys→H' D=some (.lst ys)∧((J.stop i H'∧Q (.ref D) H')∨(J.go i H'∧ys.length<sizeLine∧∀ x H2,J.yld i H' x H2→g x σ' H2 fun σ2 H3=>tc σ2 H3 fun b H4 =>
  if b=true then te σ2 H4 fun y H5=>H5 D=some (.lst ys)∧∃ m',m'<m∧W (i+1) m' σ2 (upd H5 D (.lst (ys++[y]))) (ys++[y]) else ∃ m',m'<m∧W (i+1) m' σ2 H4 ys))
def PTs (X:Cx) (ifs:List Expr) (t:TT):Prop :=
 ∀ (pins:List (Addr×Obj)) (s:Shared) (σ:L2.St) (H:Hp) (Q:Bool→Hp→Prop),Inv X pins σ H s→t σ H Q →
  wpAny (model X.prog X.w) X.A (forIn ifs true fun c r=>if r=true then do let ok ← isTrue c X.env (eval c X.env);pure (ForInStep.yield ok) else pure (ForInStep.yield r)) (TP X pins σ Q) X.xe s
theorem yK2 {X:Cx}:PTs X [] (fun _ H Q=>Q true H):=fun pins s σ H Q I h=>wpAny_tests_nil ⟨H,I,h⟩
theorem yJ4 {X:Cx} {c:Expr} {t:TT} (h:PT X c t):PTs X [c] t:=fun pins s σ H Q I q=>wpAny_tests_one (h pins s σ H Q I q)
open PySem L2 PySem.SeqAt PyProof.Rows
structure zG3 (X:Cx) (scope:Scope) (N:List Str) (caps:List Nat) (n:Nat):Prop where
 kind:scope.kind=.function
 names:∀ x∈scope.names,x.2=.local→scope.names.lookup x.1=some .local
 cell:∀ x∈scope.names,x.2≠.cell
 free:∀ x∈scope.names,x.2=.free→X.env.kindOf x.1=some .cell∨X.env.kindOf x.1=some .free
 look:∀ x,scope.names.lookup x=some .free→∃ k,(relabel scope X.env).names.lookup x=some k∧(k=.cell∨k=.free)
 back:∀ x,(relabel scope X.env).names.lookup x=some .cell∨(relabel scope X.env).names.lookup x=some .free→(x,NameKind.free)∈scope.names
 cap:∀ (j i:Nat),caps[j]?=some i→∃ x,N[j]?=some x∧X.N[i]?=some x∧scope.names.lookup x=some .free
 len:N.length=caps.length+n
theorem zL5 {X:Cx} {pins:List (Addr×Obj)} {σ σ':L2.St} {H3 H':Hp} {s3 s1:Shared} {h':Heap} {scope:Scope} {N:List Str} {cl:List (Str×Addr)} {fp:List Addr} (I3:Inv X pins σ H3 s3)
  (I':Inv (zf2 X scope N cl s3 H3 fp (X.pn++pins)) [] σ' H' s1) (hsb:Heap.SameBut s3.heap.objs.size s1.heap h') (hfp:∀ b∈fp,zV7 X pins H3 b):Inv X pins σ H' { s1 with heap:=h' }:=by
 have old:∀ b o,s3.heap.get? b=some o→∀ o',s1.heap.get? b=some o'→h'.get? b=some o':=fun b o e o' e'=>(hsb.2 b (Nat.ne_of_lt (Heap.lt_size e))).trans e'
 have B:=I'.base
 have free:H' s3.heap.objs.size=none:=I'.free
 refine I3.call' (s':={ s1 with heap:=h' }) (ch:=fp) I'.os ⟨fun b o e n hb hx=>?_,fun b o e n hb hx=>?_,fun b o e n hx=>B.free b o e n hx,fun b o e hx=>?_,B.tups,B.frzs,B.tbls⟩ (fun b u e=>?_) I'.bare (fun b hb=>?_)
 ·exact old b o e _ (B.keep b o e n hb hx)
 ·obtain ⟨sl,e1⟩:=B.slot b o e n hb hx
  exact ⟨sl,old b o e _ e1⟩
 ·obtain ⟨o',e1⟩:=B.there b o e hx
  exact ⟨o',old b o e _ e1⟩
 ·refine (I'.hok b u e).stay (fun c v hc q=>(hsb.2 c ?_).trans q) (fun _ q=>q) fun _ _ q=>q
  rintro rfl
  rcases hc with z | z
  ·rw [← z,free] at e;cases e
  ·rw [free] at z;cases z
 ·obtain ⟨f0,f1,f2,f3,f4,f5⟩:=hfp b hb
  exact ⟨f3,f1,f4,f5⟩
section
variable {X:Cx} {elt iter tg:Expr} {ifs:List Expr} {scope:Scope} {pos:Pos} {N:List Str} {caps:List Nat} {n:Nat} {wi:TI} {g:TG} {tc:TT} {te:TE}
theorem zo8 {l:List (Str×NameKind)} {x:Str} {k:NameKind} (h:l.lookup x=some k):(x,k)∈l:=PySem.mem_of_lookup h
theorem yE8 (hcalm:X.calm=true) (ok:zG3 X scope N caps n) (hi:PI X tg iter wi)
  (hg:∀ cl s₀ H₀ ex pn,PG (zf2 X scope N cl s₀ H₀ ex pn) tg g) (ht:∀ cl s₀ H₀ ex pn,PTs (zf2 X scope N cl s₀ H₀ ex pn) ifs tc) (he:∀ cl s₀ H₀ ex pn,PE (zf2 X scope N cl s₀ H₀ ex pn) elt te)
  (hs:∀ x,foldedSetIterable iter X.env x=pure x):PE X (.ListComp elt [⟨tg,iter,ifs,0⟩] scope pos) (yu9 X.K caps n wi g tc te):=by
 intro pins s σ H Q I h
 have hcells:∀ x∈scope.names,x.2=.free→∃ c,X.env.cells.lookup x.1=some c:=fun x hx hf=>I.ok.has x.1 (ok.free x hx hf)
 obtain ⟨cl,hclo,hcl,hclf⟩:=zM1 hcells
 rw [eval_ListComp]
 refine wpAny_comprehension_free (use:=none) rfl hs hclo ok.kind ok.names (thn (hi pins s σ H _ I h) fun xv s1 h1=>thn h1 fun itv s2 h2=>?_)
 obtain ⟨it,fp,tn,J,H2,rfl,I2,T,st2,f2,q2⟩:=h2
 have hKD:X.K.lookup s2.heap.objs.size=none:=by
  cases e:X.K.lookup s2.heap.objs.size with
  | none=>rfl
  | some o=>exact absurd (Heap.lt_size (I2.kIn _ _ e)) (Nat.lt_irrefl _)
 obtain ⟨W,⟨m0,w0⟩,turn⟩:=q2 s2.heap.objs.size I2.fresh hKD
 refine wpAny_newObj_type ?_
 have I3:Inv X pins σ (upd H2 s2.heap.objs.size (.lst [])) { s2 with heap:=s2.heap.push { cls:=.type "list", data:=.seq ([]:List Value).toArray },toks:=s2.toks }:=I2.lnew .nil (by decide)
 generalize hD:s2.heap.objs.size=D at *
 generalize hs3:({ s2 with heap:=s2.heap.push { cls:=.type "list", data:=.seq ([]:List Value).toArray },toks:=s2.toks }:Shared)=s3 at I3
 refine wpAny_newFunctionEnv ok.cell (by intro y hy;simp at hy) (fun h1 hns hsb=>?_) ok.kind
 have e3:s3.heap.objs.size=D+1:=by rw [← hs3,← hD];exact Heap.size_push _ _
 have hkept:∀ b o,s3.heap.get? b=some o→h1.get? b=some o:=fun b o e=>(hsb.2 b (Nat.ne_of_lt (Heap.lt_size e))).trans (Heap.get?_push_of_some _ e)
 have h23:∀ b o,s2.heap.get? b=some o→s3.heap.get? b=some o:=fun b o e=>by rw [← hs3];exact Heap.get?_push_of_some _ e
 have hfD:∀ b∈fp,b<D:=fun b hb=>by
  obtain ⟨o,e,_⟩:=T.obj 0 _ st2 b hb
  rw [← hD];exact Heap.lt_size e
 have f3:∀ b∈fp,zV7 X pins (upd H2 D (.lst [])) b:=fun b hb=>⟨by rw [zd7 (Nat.ne_of_lt (hfD b hb))];exact (f2 b hb).1,(f2 b hb).2⟩
 have kX:∀ x,X.env.kindOf x=X.env.scope.names.lookup x:=fun x=>rfl
 have I4:Inv (zf2 X scope N cl s3 (upd H2 D (.lst [])) fp (X.pn++pins)) [] (capsσ caps n σ) (upd H2 D (.lst [])) { s3 with heap:=h1 }:=by
  refine yd7 I3 ok.kind hcl (fun x hx=>hclf (x,.free) (ok.back x hx) rfl) f3 (fun b hb=>by rw [e3];exact Nat.lt_succ_of_lt (hfD b hb)) (by simpa using hns) hkept ?_ (fun j x v e1 e2=>?_)
  ·unfold capsσ
   rw [List.length_append,List.length_map,List.length_replicate,ok.len]
  ·have hj:j<caps.length:=by
    by_cases hj:j<caps.length
    ·exact hj
    ·unfold capsσ at e2
     rw [List.getElem?_append_right (by simpa using hj),List.getElem?_replicate] at e2
     split at e2 <;> cases e2
   unfold capsσ at e2
   rw [List.getElem?_append_left (by simpa using hj),List.getElem?_map,List.getElem?_eq_getElem hj] at e2
   obtain ⟨x',a1,a2,a3⟩:=ok.cap j caps[j] (List.getElem?_eq_getElem hj)
   rw [e1] at a1;cases a1
   have fr:=ok.free (x,.free) (zo8 a3) rfl
   obtain ⟨k,b1,b2⟩:=ok.look x a3
   refine ⟨caps[j],a2,?_,fr,?_,?_⟩
   ·have e2:(σ[caps[j]]?).join=some v:=Option.some.inj e2
    cases hσ:σ[caps[j]]? with
    | none=>rw [hσ] at e2;cases e2
    | some o=>rw [hσ] at e2;exact congrArg some e2
   ·rcases b2 with rfl | rfl
    ·exact .inl b1
    ·exact .inr b1
   ·rcases fr with z | z
    ·exact .inr (.inl z)
    ·exact .inr (.inr z)
 have fpc:∀ {H':Hp},(∀ b∈fp,H' b=none)→∀ b∈fp,zV7 (zf2 X scope N cl s3 (upd H2 D (.lst [])) fp (X.pn++pins)) [] H' b:=fun {H'} hn b hb=>by
  obtain ⟨f0,f1,f2',f3',f4,f5⟩:=f3 b hb
  refine ⟨hn b hb,Nat.ne_of_lt (show b<s3.heap.objs.size by rw [e3];exact Nat.lt_succ_of_lt (hfD b hb)),fun z=>?_,.inl hb,fun x c e=>f4 x c (hcl x c e),fun p hp=>f5 p (by have hp:p∈(X.pn++pins)++[]:=hp;rwa [List.append_nil] at hp)⟩
  rcases List.mem_cons.mp (I3.stkSub _ z) with e | e
  ·exact f1 e
  ·exact f2' e
 have st4:tn 0 h1:=T.keep 0 _ _ st2 fun b _ o e=>hkept b o (h23 b o e)
 have loop:∀ s4:Shared,s4={ s3 with heap:=h1 }→codeAny (model X.prog X.w) X.A (.compLoop (.ListComp elt [⟨tg,iter,ifs,0⟩] scope pos) 0 (.ref it) (.ref D) (compEnvC scope cl s3.heap.objs.size X.env))
   (compPost (model X.prog X.w) X.A X.xe none (EP X pins σ Q) (.ref D) s3.heap.objs.size) s4:=by
  rintro s4 rfl
  refine zR9 (fun m s'=>∃ i σ' H' ys,Inv (zf2 X scope N cl s3 (upd H2 D (.lst [])) fp (X.pn++pins)) [] σ' H' s'∧tn i s'.heap∧(∀ b∈fp,H' b=none)∧W i m σ' H' ys) ?_ m0 ⟨0,_,_,[],I4,st4,fun b hb=>(f3 b hb).1,w0⟩
  rintro m s5 ⟨i,σ5,H5,ys,I5,st5,fr5,w5⟩
  obtain ⟨hDl,tu⟩:=turn i m σ5 H5 ys w5
  rcases tu with ⟨stop,qn⟩ | ⟨go,hz,step⟩
  ·refine thn (T.done (zf2 X scope N cl s3 (upd H2 D (.lst [])) fp (X.pn++pins)) rfl rfl rfl hcalm i [] s5 σ5 H5 (fun _ _=>False) I5 (fpc fr5) st5 stop) fun r s6 h_=>?_
   obtain ⟨hr,I6⟩:=h_
   subst hr
   obtain ⟨mm,hmm,_⟩:=I6.loc
   exact ⟨mm,hmm,fun h' hb'=>⟨.ref D,H5,zL5 I3 I6 hb' f3,rfl,qn⟩⟩
  ·refine thn (T.item (zf2 X scope N cl s3 (upd H2 D (.lst [])) fp (X.pn++pins)) rfl rfl rfl hcalm i [] s5 σ5 H5 (fun _ _=>False) I5 (fpc fr5) st5 go) fun r s6 h_=>?_
   obtain ⟨u,hr,h6⟩:=h_
   subst hr
   refine thn h6 fun _ s7 h_=>?_
   obtain ⟨x,H7,I7,r7,y7,st7,fr7⟩:=h_
   have I7':=I7.pinned (fpc fr7) (T.obj _ _ st7)
   refine thn (hg _ _ _ _ _ _ s7 σ5 H7 x u _ I7' r7 (step x H7 y7)) fun _ s8 h_=>?_
   obtain ⟨σ8,H8,I8,q8⟩:=h_
   refine thn (ht _ _ _ _ _ _ s8 σ8 H8 _ I8 q8) fun b s9 h_=>?_
   obtain ⟨H9,I9,q9⟩:=h_
   have pinsK:∀ {σ7:L2.St} {Hx:Hp} {sx:Shared},Inv (zf2 X scope N cl s3 (upd H2 D (.lst [])) fp (X.pn++pins)) ([]++zK9 fp s7.heap) σ7 Hx sx→tn (i+1) sx.heap∧∀ b∈fp,Hx b=none:=fun Ix=>by
    refine ⟨T.keep _ _ _ st7 fun b hb o e=>(Ix.pin (b,o) (List.mem_append_right _ (List.mem_append_right _ (zo0 hb e)))).1,fun b hb=>?_⟩
    obtain ⟨o,e,d⟩:=T.obj _ _ st7 b hb
    exact (Ix.pin (b,o) (List.mem_append_right _ (List.mem_append_right _ (zo0 hb e)))).2.1
   cases b with
   | false =>
    obtain ⟨m',hm,w9⟩:=q9
    exact ⟨m',hm,i+1,σ8,H9,ys,I9.unpinned,(pinsK I9).1,(pinsK I9).2,w9⟩
   | true =>
    refine thn (he _ _ _ _ _ _ s9 σ8 H9 _ I9 q9) fun yv s10 h_=>?_
    obtain ⟨y,H10,I10,r10,hD10,m',hm,w10⟩:=h_
    refine thn (zH3 _ s10 σ8 H10 (.ref D) [y] (.ref D) [yv] (fun v Hx=>v=.non∧Hx=upd H10 D (.lst (ys++[y]))) I10 rfl (.cons r10 .nil) ⟨D,ys,y,rfl,rfl,hD10,hz,rfl,rfl⟩) fun _ s11 h_=>?_
    obtain ⟨_,H11,I11,_,_,e11⟩:=h_
    subst e11
    exact ⟨m',hm,i+1,σ8,_,ys++[y],I11.unpinned,(pinsK I11).1,(pinsK I11).2,w10⟩
 exact codeAny_compStart_list (loop _ rfl) (T.self _ 0 _ _ _ st4 (loop _ rfl))
end
open PySem L2 PySem.SeqAt PyProof.Rows
section
variable {X:Cx} {C:zb9} {elt iter tg:Expr} {ielt:E} {it:It} {t:Tg} {scope:Scope} {pos:Pos} {N:List Str} {caps:List Nat} {n:Nat}
noncomputable def Al.hold (α:Al) (D:Addr):Al:=⟨α.adr,fun a=>a=D∨α.rsv a⟩
theorem zR2 {α:Al} {st:za6} {D a:Addr}:zf1 (α.hold D) st a↔a=D∨zf1 α st a:=by
 unfold zf1 Al.hold
 simp only
 constructor
 ·rintro ((h | h) | h)
  ·exact .inl h
  ·exact .inr (.inl h)
  ·exact .inr (.inr h)
 ·rintro (h | h | h)
  ·exact .inl (.inl h)
  ·exact .inl (.inr h)
  ·exact .inr h
theorem zF5 {K:Frag} {α:Al} {st:za6} {H:Hp} {D:Addr} {o:HO} (hD:H D=none) (hK:K.lookup D=none) :
  (∀ a vs,SqT K H a vs→SqT K (upd H D o) a vs)∧∀ a vs,SqL K H a vs→¬ zf1 α st a→SqL K (upd H D o) a vs∧¬ zf1 (α.hold D) st a:=by
 have s:=ze8 hD o
 refine ⟨fun a vs h=>SqT.same s h,fun a vs h n=>⟨zl3.seq s h,fun l=>?_⟩⟩
 rcases zR2.mp l with e | e
 ·subst e
  rcases h with (h | ⟨_,h⟩) | ⟨_,_,_,h,_⟩
  ·rw [hD] at h;cases h
  ·rw [hD] at h;cases h
  ·rw [hK] at h;cases h
 ·exact n e
theorem yw7 {K:Frag} {α:Al} {st:za6} {H:Hp} {D:Addr} {vs:List V} (r:RSt K α st H) (hD:H D=none) (hK:K.lookup D=none):RSt K (α.hold D) st (upd H D (.lst vs)):=by
 obtain ⟨mt,ml⟩:=zF5 (α:=α) (st:=st) (o:=.lst vs) hD hK
 have s:=ze8 hD (.lst vs)
 refine ⟨r.len,fun m xs h=>?_,fun m kvs h=>?_,r.inj,fun a h=>?_,fun m a o h1 h2 h3 hr=>?_,fun a h=>?_⟩
 ·obtain ⟨a,ws,h1,h2,h3⟩:=r.lst m xs h
  exact ⟨a,ws,h1,s _ _ h2,RPs.mono mt ml _ _ h3⟩
 ·obtain ⟨a,ws,h1,h2,h3⟩:=r.dct m kvs h
  exact ⟨a,ws,h1,s _ _ h2,RKV.mono mt ml _ _ h3⟩
 ·rcases zR2.mp h with e | e
  ·subst e;exact hK
  ·exact r.nk a e
 ·rcases hr with e | e
  ·subst e
   rcases r.live (.inr ⟨m,o,h1,h2,h3⟩) with ⟨_,z⟩ | ⟨_,z⟩ <;> rw [hD] at z <;> cases z
  ·exact r.dis m a o h1 h2 h3 e
 ·rcases h with e | e
  ·subst e;exact ⟨vs,zd3⟩
  ·obtain ⟨ws,h1⟩:=r.rsv a e
   exact ⟨ws,s _ _ h1⟩
theorem zV5 {K:Frag} {α:Al} {st:za6} {H:Hp} {D:Addr} {ys zs:List V} (hr:α.rsv D) (hH:H D=some (.lst ys)) (hK:K.lookup D=none) :
  (∀ a vs,SqT K H a vs→SqT K (upd H D (.lst zs)) a vs)∧∀ a vs,SqL K H a vs→¬ zf1 α st a→SqL K (upd H D (.lst zs)) a vs∧¬ zf1 α st a:=by
 refine ⟨fun a vs h=>?_,fun a vs h n=>⟨?_,n⟩⟩
 ·rcases h with (h | ⟨o,h⟩) | h
  ·exact .inl (.inl (by rw [zd7 (by rintro rfl;rw [hH] at h;cases h)];exact h))
  ·exact .inl (.inr ⟨o,by rw [zd7 (by rintro rfl;rw [hH] at h;cases h)];exact h⟩)
  ·exact .inr h
 ·have ne:a≠D:=by rintro rfl;exact n (.inl hr)
  rcases h with (h | ⟨o,h⟩) | h
  ·exact .inl (.inl (by rw [zd7 ne];exact h))
  ·exact .inl (.inr ⟨o,by rw [zd7 ne];exact h⟩)
  ·exact .inr h
theorem yB5 {K:Frag} {α:Al} {st:za6} {H:Hp} {D:Addr} {ys zs:List V} (r:RSt K α st H) (hr:α.rsv D) (hH:H D=some (.lst ys)):RSt K α st (upd H D (.lst zs)):=by
 have hK:=r.nk D (.inl hr)
 obtain ⟨mt,ml⟩:=zV5 (K:=K) (α:=α) (st:=st) (zs:=zs) hr hH hK
 have ne:∀ {m:Nat} {a:Addr} {o:zA5},α.adr[m]?=some a→zb5 st m=some o→o≠.dead→a≠D:=fun h1 h2 h3 e=>r.dis _ _ _ h1 h2 h3 (e▸hr)
 refine ⟨r.len,fun m xs h=>?_,fun m kvs h=>?_,r.inj,r.nk,r.dis,fun a h=>?_⟩
 ·obtain ⟨a,ws,h1,h2,h3⟩:=r.lst m xs h
  exact ⟨a,ws,h1,by rw [zd7 (ne h1 h (by intro z;cases z))];exact h2,RPs.mono mt ml _ _ h3⟩
 ·obtain ⟨a,ws,h1,h2,h3⟩:=r.dct m kvs h
  exact ⟨a,ws,h1,by rw [zd7 (ne h1 h (by intro z;cases z))];exact h2,RKV.mono mt ml _ _ h3⟩
 ·by_cases e:a=D
  ·subst e;exact ⟨zs,zd3⟩
  ·obtain ⟨ws,h1⟩:=r.rsv a h
   exact ⟨ws,by rw [zd7 e];exact h1⟩
end
open PySem L2 PySem.SeqAt PyProof.Rows
noncomputable def Al.as (α:Al) (ρ:Addr→Prop):Al:=⟨α.adr,ρ⟩
theorem zI8 {α:Al} {ρ:Addr→Prop} {st:za6} {a:Addr} (hs:∀ a,ρ a→α.rsv a) (h:zf1 (α.as ρ) st a):zf1 α st a:=by
 rcases h with h | h
 ·exact .inl (hs a h)
 ·exact .inr h
theorem RSt.as {K:Frag} {α:Al} {ρ:Addr→Prop} {st:za6} {H:Hp} (r:RSt K α st H) (hs:∀ a,ρ a→α.rsv a):RSt K (α.as ρ) st H:=by
 have ml:∀ a vs,SqL K H a vs→¬ zf1 α st a→SqL K H a vs∧¬ zf1 (α.as ρ) st a:=fun a vs h n=>⟨h,fun l=>n (zI8 hs l)⟩
 refine ⟨r.len,fun m xs h=>?_,fun m kvs h=>?_,r.inj,fun a h=>r.nk a (zI8 hs h),fun m a o h1 h2 h3 h4=>r.dis m a o h1 h2 h3 (hs a h4),fun a h=>r.rsv a (hs a h)⟩
 ·obtain ⟨a,ws,h1,h2,h3⟩:=r.lst m xs h
  exact ⟨a,ws,h1,h2,RPs.mono (fun _ _ h=>h) ml _ _ h3⟩
 ·obtain ⟨a,ws,h1,h2,h3⟩:=r.dct m kvs h
  exact ⟨a,ws,h1,h2,RKV.mono (fun _ _ h=>h) ml _ _ h3⟩
section
variable {X:Cx} {C:zb9} {elt iter tg:Expr} {ifs:List Expr} {ielt:E} {it:It} {t:Tg} {scope:Scope} {pos:Pos} {N:List Str} {caps:List Nat} {n:Nat}
theorem yN2 {K:Frag} {α:Al} {st:za6} {H:Hp} {env:Env} {σ:L2.St} (a:At K α st H env σ):At K α st H (zy8 caps n env) (capsσ caps n σ):=by
 refine ⟨by simp [zy8,capsσ],a.rs,fun j v h=>?_⟩
 unfold zy8 at h
 unfold capsσ
 by_cases hj:j<caps.length
 ·rw [List.getElem?_append_left (by simpa using hj),List.getElem?_map,List.getElem?_eq_getElem hj] at h ⊢
  have h:(env[caps[j]]?).join=some v:=Option.some.inj h
  cases he:env[caps[j]]? with
  | none=>rw [he] at h;cases h
  | some o =>
   rw [he] at h
   have h:o=some v:=h
   subst h
   obtain ⟨w,h1,h2⟩:=a.env _ v he
   exact ⟨w,by show some ((σ[caps[j]]?).join)=some (some w);rw [h1];rfl,h2⟩
 ·rw [List.getElem?_append_right (by simpa using hj),List.getElem?_replicate] at h
  split at h <;> cases h
noncomputable def tTs (K:Frag) (C:zb9):Option E→TT
 | none=>fun _ H Q=>Q true H
 | some c=>tT K C c
noncomputable def yg4 (C:zb9):Option E→Option (Env→za6→Res Val)
 | none=>none
 | some c=>some (evalE C c)
theorem yu6 {cond:Option E} {src:Option (Nat×List PV)} {xs:List PV} {env:Env} {st:za6} {acc:List PV}:zr2 C ielt cond t src xs env st acc=compLoop (evalE C ielt) (yg4 C cond) t src xs env st acc:=by cases cond <;> rfl
theorem yy7 {cond:Option E} {σ:L2.St} {H:Hp} {Q:VK} {env:Env} {α:Al} {st st1 st':za6} {xs zs:List PV} {src:Option (Nat×List PV)} (at':At X.K α st H env σ) (e1:evalIt C it env st=.ok (xs,src) st1) (e2:zr2 C ielt cond t src xs (zy8 caps n env) st1 []=.ok zs st')
  (fin:∀ D ys α1 st1 H1 α2 H2,Ext X.K α st H α1 st1 H1→Lk X.K α1 st1 H1 α2 st' H2→RSt X.K α2 st' H2→α2.rsv=(α1.hold D).rsv→¬ α1.rsv D→H2 D=some (.lst ys)→RPs X.K H2 (zf1 α2 st') zs ys→Q (.ref D) H2) :
  yu9 X.K caps n (tI X.K C it) (tG X.K t) (tTs X.K C cond) (tP X.K C ielt) σ H Q:=by
 refine ⟨env,α,st,xs,src,st1,at',e1,fun J H1 α1 x1 r1 wk hz D hD hK=>?_⟩
 rw [yu6] at e2
 have at1:=at'.next x1 r1
 have nD:¬ α1.rsv D:=fun h=>by obtain ⟨vs,z⟩:=r1.rsv D h;rw [hD] at z;cases z
 refine ⟨fun i m σ' H' ys=>m=xs.length - i∧i≤xs.length∧H' D=some (.lst ys)∧∃ env2 α2 st2 acc,At X.K α2 st2 H' env2 σ'∧(α2.rsv=(α1.hold D).rsv)∧Lk X.K α1 st1 H1 α2 st2 H'∧RPs X.K H' (zf1 α2 st2) acc ys∧acc.length≤i ∧
  compLoop (evalE C ielt) (yg4 C cond) t src (xs.drop i) env2 st2 acc=.ok zs st',⟨xs.length,by simp,Nat.zero_le _,zd3,zy8 caps n env,α1.hold D,st1,[],?_,rfl,?_,by rw [RPs],Nat.le_refl _,e2⟩,?_⟩
 ·have rh:=yw7 (vs:=[]) at1.rs hD hK
  obtain ⟨mt,ml⟩:=zF5 (α:=α1) (st:=st1) (o:=.lst []) hD hK
  have a2:At X.K (α1.hold D) st1 (upd H1 D (.lst [])) env σ:=⟨at1.len,rh,fun i v h=>by
   obtain ⟨w,h1,h2⟩:=at1.env i v h
   refine ⟨w,h1,?_⟩
   cases v with
   | p x=>exact RP.mono mt ml _ _ h2
   | ref k=>exact h2⟩
  exact yN2 a2
 ·obtain ⟨mt,ml⟩:=zF5 (K:=X.K) (α:=α1) (st:=st1) (o:=.lst []) hD hK
  exact ⟨fun _ _ h=>h,mt,ml,fun a h=>.inr h,fun a h=>by rw [zd7 (by rintro rfl;exact nD h)]⟩
 rintro i m σ2 H2 ys ⟨rfl,hil,hDl,env2,α2,st2,acc,at2,hrs,lk,rps,hacc,e3⟩
 have hrD:α2.rsv D:=by rw [hrs];exact .inl rfl
 refine ⟨hDl,?_⟩
 -- the walk as it stands here: seen without the list under way
 have sub1:∀ a,α1.rsv a→α2.rsv a:=lk.sub
 have exB:Ext X.K α1 st1 H1 (α2.as α1.rsv) st2 H2:=⟨lk.pre,lk.tup,fun a vs h nn=>let ⟨h1,n1⟩:=lk.lst a vs h nn;⟨h1,fun l=>n1 (zI8 sub1 l)⟩,rfl,lk.raw⟩
 have rsB:RSt X.K (α2.as α1.rsv) st2 H2:=at2.rs.as sub1
 by_cases hlt:i<xs.length
 ·rw [List.drop_eq_getElem_cons hlt,compLoop] at e3
  by_cases so:zw5 st2 src=true
  ·rw [if_pos so] at e3
   have wa:=wk α2 st2 H2 lk at2.rs so
   have lyl:acc.length=ys.length:=rps.length
   refine .inr ⟨wa.go i hlt,by omega,fun w H3 hy=>?_⟩
   obtain ⟨s3,rp⟩:=wa.yld i xs[i] w H3 (List.getElem?_eq_getElem hlt) hy
   have x3:Ext X.K α2 st2 H2 α2 st2 H3:=.of_same at2.rs s3
   have at3:=at2.next x3 (at2.rs.same s3)
   have lk3:=lk.step x3
   have rps3:=x3.rps rps
   have hD3:H3 D=some (.lst ys):=s3 _ _ hDl
   cases hbt:zr3 t (.p xs[i]) st2 env2 with
   | none=>rw [hbt] at e3;cases e3
   | some env3 =>
    rw [hbt] at e3
    refine ⟨env2,α2,st2,xs[i],env3,at3,rp,hbt,fun σ3 at3'=>?_⟩
    -- behind the test
    have go:∀ {b:Bool} {st4:za6} {H4:Hp} {α4:Al},Ext X.K α2 st2 H3 α4 st4 H4→RSt X.K α4 st4 H4 →
      (if b then (evalE C ielt env3 st4).bindP fun y st5=>compLoop (evalE C ielt) (yg4 C cond) t src (xs.drop (i+1)) env3 st5 (acc++[y]) else compLoop (evalE C ielt) (yg4 C cond) t src (xs.drop (i+1)) env3 st4 acc)=.ok zs st' →
      if b=true then tP X.K C ielt σ3 H4 (fun y H5=>H5 D=some (.lst ys)∧∃ m',m'<xs.length - i∧(m'=xs.length - (i+1)∧i+1≤xs.length∧(upd H5 D (.lst (ys++[y]))) D=some (.lst (ys++[y]))∧∃ env2 α2 st2 acc,At X.K α2 st2 (upd H5 D (.lst (ys++[y]))) env2 σ3∧(α2.rsv=(α1.hold D).rsv)∧Lk X.K α1 st1 H1 α2 st2 (upd H5 D (.lst (ys++[y])))∧RPs X.K (upd H5 D (.lst (ys++[y]))) (zf1 α2 st2) acc (ys++[y])∧acc.length≤i+1 ∧
        compLoop (evalE C ielt) (yg4 C cond) t src (xs.drop (i+1)) env2 st2 acc=.ok zs st'))
      else ∃ m',m'<xs.length - i∧(m'=xs.length - (i+1)∧i+1≤xs.length∧H4 D=some (.lst ys)∧∃ env2 α2 st2 acc,At X.K α2 st2 H4 env2 σ3∧(α2.rsv=(α1.hold D).rsv)∧Lk X.K α1 st1 H1 α2 st2 H4∧RPs X.K H4 (zf1 α2 st2) acc ys∧acc.length≤i+1 ∧
        compLoop (evalE C ielt) (yg4 C cond) t src (xs.drop (i+1)) env2 st2 acc=.ok zs st'):=by
     intro b st4 H4 α4 x4 r4 e4
     have at4:=at3'.next x4 r4
     have hD4:H4 D=some (.lst ys):=(x4.raw D hrD).trans hD3
     cases b with
     | false=>exact ⟨_,by omega,rfl,hlt,hD4,env3,α4,st4,acc,at4,x4.rsv.trans hrs,lk3.step x4,x4.rps rps3,by omega,e4⟩
     | true =>
      obtain ⟨y0,st5,e5,e6⟩:=Res.bindP_inv e4
      refine ⟨env3,α4,st4,_,st5,at4,e5,fun y H5 α5 x5 r5 rv=>?_⟩
      have hr5:α5.rsv D:=by rw [x5.rsv,x4.rsv];exact hrD
      have hD5:H5 D=some (.lst ys):=(x5.raw D (by rw [x4.rsv];exact hrD)).trans hD4
      have at5:=at4.next x5 r5
      have lk5:=(lk3.step x4).step x5
      obtain ⟨mt,ml⟩:=zV5 (K:=X.K) (α:=α5) (st:=st5) (zs:=ys++[y]) hr5 hD5 (r5.nk D (.inl hr5))
      refine ⟨hD5,_,by omega,rfl,hlt,zd3,env3,α5,st5,acc++[y0],⟨at5.len,yB5 r5 hr5 hD5,fun k v h=>?_⟩,x5.rsv.trans (x4.rsv.trans hrs),⟨lk5.pre,fun a vs h=>mt a vs (lk5.tup a vs h),fun a vs h nn=>let ⟨h1,n1⟩:=lk5.lst a vs h nn;ml a vs h1 n1,lk5.sub,fun a h=>?_⟩,?_,by simp;omega,e6⟩
      ·obtain ⟨w',h1,h2⟩:=at5.env k v h
       refine ⟨w',h1,?_⟩
       cases v with
       | p z=>exact RP.mono mt ml _ _ h2
       | ref _=>exact h2
      ·rw [zd7 (by rintro rfl;exact nD h)]
       exact lk5.raw a h
      ·exact RPs.mono mt ml _ _ ((x5.rps (x4.rps rps3)).snoc rv)
    cases cond with
    | none=>exact go (b:=true) .refl at3.rs e3
    | some c =>
     obtain ⟨b,st4,e4,e5⟩:=Res.bindB_inv e3
     exact ⟨env3,α2,st2,b,st4,at3',e4,fun H4 α4 x4 r4=>go x4 r4 e5⟩
  ·rw [if_neg so] at e3;cases e3
 ·have hie:xs.drop i=[]:=List.drop_eq_nil_of_le (by omega)
  rw [hie,compLoop] at e3
  by_cases so:zw5 st2 src=true
  ·rw [if_pos so] at e3
   cases e3
   exact .inl ⟨(wk α2 st' H2 lk at2.rs so).stop i (by omega),fin D ys α1 st1 H1 α2 H2 x1 lk at2.rs hrs nD hDl rps⟩
  ·rw [if_neg so] at e3;cases e3
theorem yx3 {K:Frag} {α α1 α2:Al} {st st1 st':za6} {H H1 H2:Hp} {D:Addr} {ys:List V} {zs:List PV} (x1:Ext K α st H α1 st1 H1) (lk:Lk K α1 st1 H1 α2 st' H2) (r2:RSt K α2 st' H2) (hrs:α2.rsv=(α1.hold D).rsv) (nD:¬ α1.rsv D) (hDl:H2 D=some (.lst ys)) (rps:RPs K H2 (zf1 α2 st') zs ys) :
  Ext K α st H (α2.as α1.rsv) st' H2∧RSt K (α2.as α1.rsv) st' H2∧RV K (α2.as α1.rsv) st' H2 (.p (.lst zs)) (.ref D):=by
 have hrD:α2.rsv D:=by rw [hrs];exact .inl rfl
 have sub1:∀ a,α1.rsv a→α2.rsv a:=lk.sub
 refine ⟨x1.trans ⟨lk.pre,lk.tup,fun a vs h nn=>let ⟨h1,n1⟩:=lk.lst a vs h nn;⟨h1,fun l=>n1 (zI8 sub1 l)⟩,rfl,lk.raw⟩,r2.as sub1,?_⟩
 rw [RV,RP]
 refine ⟨D,ys,rfl,SqL.of hDl,fun l=>?_,RPs.mono (fun _ _ h=>h) (fun a vs h nn=>⟨h,fun l=>nn (zI8 sub1 l)⟩) _ _ rps⟩
 rcases l with l | ⟨k,o,l1,l2,l3⟩
 ·exact nD l
 ·exact r2.dis k D o l1 l2 l3 hrD
theorem zU9 {cond:Option E} {σ:L2.St} {H:Hp} {Q:VK} (h:tP X.K C (.comp false ielt t it cond caps n) σ H Q):yu9 X.K caps n (tI X.K C it) (tG X.K t) (tTs X.K C cond) (tP X.K C ielt) σ H Q:=by
 obtain ⟨env,α,st,v,st',at',e,q⟩:=h
 rw [yG2] at e
 obtain ⟨⟨xs,src⟩,st1,e1,e⟩:=Res.bind_inv e
 obtain ⟨zs,st2,e2,e⟩:=Res.bind_inv e
 simp only [mk,Bool.false_eq_true,if_false] at e
 cases e
 refine yy7 at' e1 e2 fun D ys α1 st1 H1 α2 H2 x1 lk r2 hrs nD hDl rps=>?_
 obtain ⟨a,b,c⟩:=yx3 x1 lk r2 hrs nD hDl rps
 exact q _ H2 _ a b c
theorem yJ9 {cond:Option E} (hcalm:X.calm=true) (ok:zG3 X scope N caps n) (hi:SI X C tg iter it)
  (hg:∀ cl s₀ H₀ ex pn,SG (zf2 X scope N cl s₀ H₀ ex pn) tg t) (ht:∀ cl s₀ H₀ ex pn,PTs (zf2 X scope N cl s₀ H₀ ex pn) ifs (tTs X.K C cond)) (he:∀ cl s₀ H₀ ex pn,SE (zf2 X scope N cl s₀ H₀ ex pn) C elt ielt)
  (hs:∀ x,foldedSetIterable iter X.env x=pure x):SE X C (.ListComp elt [⟨tg,iter,ifs,0⟩] scope pos) (.comp false ielt t it cond caps n) :=
 PE.mono (yE8 (g:=tG X.K t) (te:=tP X.K C ielt) hcalm ok hi hg ht he hs) fun _ _ _ h=>zU9 h
end
open PySem L2 PySem.SeqAt PyProof.Rows
noncomputable def spF (K:Frag) (P:List FD) (W d k:Nat) (np:Nat):Sp:=fun vs H Q _=>vs.length=np∧∃ α st us v st',RSt K α st H∧Paired (RV K α st H) us vs∧zg1 P W d k us st=.ok v st' ∧
 ∀ w H' α',Ext K α st H α' st' H'→RSt K α' st' H'→RV K α' st' H' v w→Q w H'
noncomputable def Al.cut (α:Al) (k:Nat):Al:=⟨α.adr.take k,α.rsv⟩
theorem zn9 {st:za6} {k n:Nat} {o:zA5} (h:zb5 (st.take k) n=some o):n<k∧zb5 st n=some o:=by
 unfold zb5 at h ⊢
 rw [List.getElem?_take] at h
 split at h
 ·exact ⟨by assumption,h⟩
 ·cases h
theorem zE4 {l:List Addr} {k n:Nat} {a:Addr} (h:(l.take k)[n]?=some a):l[n]?=some a:=by
 rw [List.getElem?_take] at h
 split at h
 ·exact h
 ·cases h
theorem zE0 {α:Al} {st:za6} {k:Nat} {a:Addr} (h:zf1 (α.cut k) (st.take k) a):zf1 α st a:=by
 rcases h with h | ⟨n,o,h1,h2,h3⟩
 ·exact .inl h
 ·exact .inr ⟨n,o,zE4 h1,(zn9 h2).2,h3⟩
theorem RSt.cut {K:Frag} {α:Al} {st:za6} {H:Hp} (r:RSt K α st H) (k:Nat):RSt K (α.cut k) (st.take k) H:=by
 have ml:∀ a vs,SqL K H a vs→¬ zf1 α st a→SqL K H a vs∧¬ zf1 (α.cut k) (st.take k) a:=fun a vs h n=>⟨h,fun l=>n (zE0 l)⟩
 have up:∀ {n:Nat} {a:Addr},n<k→α.adr[n]?=some a→(α.adr.take k)[n]?=some a:=fun hn h=>by rw [List.getElem?_take,if_pos hn];exact h
 refine ⟨?_,fun m xs h=>?_,fun m kvs h=>?_,fun n m a o o' hne h1 h2 h3 h4=>r.inj n m a o o' hne (zE4 h1) (zE4 h2) (zn9 h3).2 (zn9 h4).2,fun a h=>r.nk a (zE0 h),fun m a o h1 h2 h3=>r.dis m a o (zE4 h1) (zn9 h2).2 h3,r.rsv⟩
 ·show (α.adr.take k).length=(st.take k).length
  rw [List.length_take,List.length_take,r.len]
 ·obtain ⟨hm,h⟩:=zn9 h
  obtain ⟨a,ws,h1,h2,h3⟩:=r.lst m xs h
  exact ⟨a,ws,up hm h1,h2,RPs.mono (fun _ _ h=>h) ml _ _ h3⟩
 ·obtain ⟨hm,h⟩:=zn9 h
  obtain ⟨a,ws,h1,h2,h3⟩:=r.dct m kvs h
  exact ⟨a,ws,up hm h1,h2,RKV.mono (fun _ _ h=>h) ml _ _ h3⟩
theorem Ext.cut {K:Frag} {α α':Al} {st st':za6} {H H':Hp} (e:Ext K α st H α' st' H') (hl:α.adr.length=st.length):Ext K α st H (α'.cut st.length) (st'.take st.length) H':=by
 refine ⟨fun n a h=>?_,e.tup,fun a vs h n=>let ⟨h1,n1⟩:=e.lst a vs h n;⟨h1,fun l=>n1 (zE0 l)⟩,e.rsv,e.raw⟩
 have hn:n<st.length:=by rw [← hl];exact (List.getElem?_eq_some_iff.mp h).1
 show (α'.adr.take st.length)[n]?=some a
 rw [List.getElem?_take,if_pos hn]
 exact e.pre n a h
theorem zC3 {α β:Type} {F:α→β→Prop} {a:List α} {b:List β} (h:Paired F a b):a.length=b.length:=Paired.length h
theorem yA0 {K:Frag} {α:Al} {st:za6} {H:Hp} {N:List Str}:∀ {us:List Val} {vs:List V},RSt K α st H→Paired (RV K α st H) us vs→At K α st H (us.map some++List.replicate (N.length - us.length) none) (L2.start N vs):=by
 intro us vs r p
 have hl:=zC3 p
 refine ⟨by unfold L2.start;simp [hl],r,fun i v h=>?_⟩
 have get:∀ {us:List Val} {vs:List V} {i:Nat} {v:Val},Paired (RV K α st H) us vs→us[i]?=some v→∃ w,vs[i]?=some w∧RV K α st H v w:=by
  intro us vs i v p
  induction p generalizing i with
  | nil=>intro h;simp at h
  | cons q t ih =>
   intro h
   cases i with
   | zero=>simp at h;subst h;exact ⟨_,rfl,q⟩
   | succ i=>simpa using ih (by simpa using h)
 by_cases hi:i<us.length
 ·rw [List.getElem?_append_left (by simpa using hi),List.getElem?_map,List.getElem?_eq_getElem hi] at h
  cases h
  obtain ⟨w,h1,h2⟩:=get p (List.getElem?_eq_getElem hi)
  refine ⟨w,?_,h2⟩
  unfold L2.start
  rw [List.getElem?_append_left (by rw [List.length_map];lia),List.getElem?_map,h1]
  rfl
 ·rw [List.getElem?_append_right (by simpa using hi),List.getElem?_replicate] at h
  split at h <;> cases h
section
variable {P:Program} {w:World} {K:Frag} {mg:Str→Option Value} {base:Heap} {PR:List FD} {W d k:Nat}
theorem ze2 {f:Addr} {fd:FuncData} {ps:List Str}:zp8 P w K mg base CX0 0 f fd ps (spF K PR W 0 k ps.length):=by
 refine ⟨fun vs H Q E h=>h.1,fun A outer s H args us vs Q E _ _ _ _ h=>?_⟩
 obtain ⟨_,α,st,us',v,st',_,_,e,_⟩:=h
 cases e
theorem yH2 {x qual:Str} {st:Stmt} {f:Addr} {fd:FuncData} {N ps:List Str} {ib:List S} (F:Fun K x qual st f fd) (S:zc8 N ps (za2 st)) (hP:PR[k]?=some ⟨ps.length,N.length,ib⟩)
  (hb:∀ (cdv:Value) (A:Around) (outer:List PySem.Env) (s:Shared) (H:Hp) (E:XK),zn4 d (A.deeper (envOfC qual (za2 st) s.heap.objs.size f cdv)) →
   SSs (zt6 CX0 P w K mg base N qual (za2 st) f cdv A outer s H E).nox (zg1 PR W d) W (za8 st) ib):zp8 P w K mg base CX0 (d+1) f fd ps (spF K PR W (d+1) k ps.length):=by
 refine F.ok S (fun vs H Q E h=>h.1) fun cdv A outer s H vs Q E hr h=>⟨_,hb cdv A outer s H E hr,?_⟩
 obtain ⟨hl,α,st0,us,v,st',r,pr,e,q⟩:=h
 have hus:us.length=ps.length:=by rw [zC3 pr,hl]
 rw [zc3 hP (by exact hus)] at e
 obtain ⟨fl,st1,e1,e2⟩:=Res.bind_inv e
 have at0:=yA0 (N:=N) r pr
 rw [hus] at at0
 refine ⟨_,α,st0,fl,st1,at0,e1,?_⟩
 cases fl with
 | next env' =>
  intro σ' H' α' x1 at1
  cases e2
  exact q _ H' (α'.cut st0.length) (x1.cut r.len) (at1.rs.cut _) (by rw [RV,RP])
 | ret u =>
  intro w1 H' α' x1 r1 rv
  rw [yo5] at e2
  cases e2
  cases v with
  | p y=>exact q _ H' (α'.cut st0.length) (x1.cut r.len) (r1.cut _) (RP.mono (fun _ _ h=>h) (fun a vs h n=>⟨h,fun l=>n (zE0 l)⟩) _ _ rv)
  | ref m =>
   unfold yC1 at q
   by_cases hm:m<st0.length
   ·simp only [hm,if_true] at q
    obtain ⟨a,h1,h2⟩:=rv
    exact q _ H' (α'.cut st0.length) (x1.cut r.len) (r1.cut _) ⟨a,h1,by show (α'.adr.take st0.length)[m]?=some a;rw [List.getElem?_take,if_pos hm];exact h2⟩
   ·simp only [hm,if_false] at q
    exact q _ H' α' x1 r1 rv
end
section
variable {X:Cx} {PR:List FD} {W d k:Nat} {e:Expr} {es:List Expr} {irs:List E} {pos p:Pos}
theorem yL0 {x:Str} {f:Addr} {fd:FuncData} {ps:List Str} (F:zp8 X.prog X.w X.K X.mg X.base CX0 d f fd ps (spF X.K PR W d k ps.length)) (hr:zn4 d X.A) (hg:Gl X x) (hm:X.mg x=some (.ref f)) (hk:keepIn X.K (.ref f)=true) (hb:Binds X.K fd ps [])
  (ha:SA X (zg1 PR W d) (e::es) irs) (hn:irs.length=ps.length) (hdb:(x==("__debug__" : Str))=false) (he:starEach (e::es) X.env=(false,eval e X.env)::starEach es X.env) (hpl:(backTo pos (starEach es X.env)).any (·.1)=false) :
  SE X (zg1 PR W d) (.Call (.Name x p) (e::es) [] pos) (.call k irs) :=
 PE.mono (yJ0 F hr hg hm hk hb .nil yR3 ha hdb he hpl) fun σ H Q h_=>by
  obtain ⟨env,α,st,v,st',at',e,q⟩:=h_
  rw [yo1] at e
  obtain ⟨vs,st1,e1,e⟩:=Res.bind_inv e
  refine ⟨env,α,st,vs,st1,at',e1,fun ws H1 α1 x1 r1 pr=>?_⟩
  show spF X.K PR W d k ps.length (ws++[]) H1 Q E0
  rw [List.append_nil]
  have lv:∀ {irs:List E} {env:Env} {st st':za6} {vs:List Val},evalEs (zg1 PR W d) irs env st=.ok vs st'→vs.length=irs.length:=by
   intro irs
   induction irs with
   | nil=>intro env st st' vs h;rw [zs5] at h;cases h;rfl
   | cons i r ih =>
    intro env st st' vs h
    rw [zm8] at h
    obtain ⟨x,st1,e1,h⟩:=Res.bind_inv h
    obtain ⟨ys,st2,e2,h⟩:=Res.bind_inv h
    cases h
    simp [ih e2]
  exact ⟨by rw [← zC3 pr,lv e1,hn],α1,st1,vs,v,st',r1,pr,e,fun w H2 α2 x2 r2 rv=>q w H2 α2 (x1.trans x2) r2 rv⟩
end
open PySem L2 PySem.SeqAt PyProof.Rows
section
variable {K:Frag} {α:Al} {st:za6} {H:Hp} {n:Nat} {a:Addr} {o o':zA5}
theorem zd0 {m:Nat} {x:zA5} (h:zb5 (st.set n o') m=some x):(m=n∧x=o')∨(m≠n∧zb5 st m=some x):=by
 by_cases hm:m=n
 ·subst hm
  have hl:m<st.length:=by have:=zp9 h;simpa using this
  rw [zA3 hl] at h
  cases h
  exact .inl ⟨rfl,rfl⟩
 ·rw [zp6 hm] at h
  exact .inr ⟨hm,h⟩
theorem ye1 (ho:zb5 st n=some o) (h1:o≠.dead) (h2:o'≠.dead) {b:Addr}:zf1 α (st.set n o') b↔zf1 α st b:=by
 constructor
 ·rintro (h | ⟨m,x,e1,e2,e3⟩)
  ·exact .inl h
  ·rcases zd0 e2 with ⟨rfl,rfl⟩ | ⟨_,e2⟩
   ·exact .inr ⟨m,o,e1,ho,h1⟩
   ·exact .inr ⟨m,x,e1,e2,e3⟩
 ·rintro (h | ⟨m,x,e1,e2,e3⟩)
  ·exact .inl h
  ·by_cases hm:m=n
   ·subst hm
    exact .inr ⟨m,o',e1,zA3 (zp9 ho),h2⟩
   ·exact .inr ⟨m,x,e1,by rw [zp6 hm];exact e2,e3⟩
theorem zP3 {h':HO} (r:RSt K α st H) (ha:α.adr[n]?=some a) (ho:zb5 st n=some o) (h1:o≠.dead) (h2:o'≠.dead):Ext K α st H α (st.set n o') (upd H a h'):=by
 have la:zf1 α st a:=.inr ⟨n,o,ha,ho,h1⟩
 have nt:∀ b vs,SqT K H b vs→SqT K (upd H a h') b vs:=fun b vs h=>by
  rcases h with (h | ⟨x,h⟩) | h
  ·refine .inl (.inl ?_)
   rw [zd7]
   ·exact h
   ·rintro rfl
    rcases r.live la with ⟨_,z⟩ | ⟨_,z⟩ <;> rw [z] at h <;> cases h
  ·refine .inl (.inr ⟨x,?_⟩)
   rw [zd7]
   ·exact h
   ·rintro rfl
    rcases r.live la with ⟨_,z⟩ | ⟨_,z⟩ <;> rw [z] at h <;> cases h
  ·exact .inr h
 refine ⟨fun _ _ h=>h,nt,fun b vs h nl=>⟨?_,fun l=>nl ((ye1 ho h1 h2).mp l)⟩,rfl,fun b hb=>?_⟩
 ·have ne:b≠a:=by rintro rfl;exact nl la
  rcases h with (h | ⟨x,h⟩) | h
  ·exact .inl (.inl (by rw [zd7 ne];exact h))
  ·exact .inl (.inr ⟨x,by rw [zd7 ne];exact h⟩)
  ·exact .inr h
 ·rw [zd7]
  rintro rfl
  exact r.dis n _ o ha ho h1 hb
theorem zW1 {h':HO} (r:RSt K α st H) (ha:α.adr[n]?=some a) (ho:zb5 st n=some o) (h1:o≠.dead) (h2:o'≠.dead)
  (hl:∀ xs,o'=.lst xs→∃ vs,h'=.lst vs∧RPs K H (zf1 α st) xs vs) (hd:∀ kvs,o'=.dct kvs→∃ l,h'=.dK l∧RKV K H (zf1 α st) kvs l):RSt K α (st.set n o') (upd H a h'):=by
 have ex:=zP3 (h':=h') r ha ho h1 h2
 have ne:∀ {m:Nat} {b:Addr} {x:zA5},m≠n→α.adr[m]?=some b→zb5 st m=some x→x≠.dead→b≠a:=fun hm e1 e2 e3 z=>by
  subst z
  rcases r.inj _ _ _ _ _ hm e1 ha e2 ho with z | z
  ·exact e3 z
  ·exact h1 z
 refine ⟨by rw [List.length_set];exact r.len,fun m xs h=>?_,fun m kvs h=>?_,fun m m' b x x' hne e1 e2 e3 e4=>?_,fun b h=>r.nk b ((ye1 ho h1 h2).mp h),fun m b x e1 e2 e3=>?_,fun b hb=>?_⟩
 ·rcases zd0 h with ⟨rfl,e⟩ | ⟨hm,h⟩
  ·obtain ⟨vs,rfl,rp⟩:=hl xs e.symm
   exact ⟨a,vs,ha,zd3,ex.rps rp⟩
  ·obtain ⟨b,vs,e1,e2,e3⟩:=r.lst m xs h
   exact ⟨b,vs,e1,by rw [zd7 (ne hm e1 h (by intro z;cases z))];exact e2,ex.rps e3⟩
 ·rcases zd0 h with ⟨rfl,e⟩ | ⟨hm,h⟩
  ·obtain ⟨l,rfl,rp⟩:=hd kvs e.symm
   exact ⟨a,l,ha,zd3,RKV.mono ex.tup ex.lst _ _ rp⟩
  ·obtain ⟨b,vs,e1,e2,e3⟩:=r.dct m kvs h
   exact ⟨b,vs,e1,by rw [zd7 (ne hm e1 h (by intro z;cases z))];exact e2,RKV.mono ex.tup ex.lst _ _ e3⟩
 ·rcases zd0 e3 with ⟨rfl,rfl⟩ | ⟨hm,e3'⟩
  ·rcases zd0 e4 with ⟨rfl,rfl⟩ | ⟨hm',e4⟩
   ·exact absurd rfl hne
   ·rcases r.inj m m' b o x' hne e1 e2 ho e4 with z | z
    ·exact absurd z h1
    ·exact .inr z
  ·rcases zd0 e4 with ⟨rfl,rfl⟩ | ⟨hm',e4⟩
   ·rcases r.inj m m' b x o hne e1 e2 e3' ho with z | z
    ·exact .inl z
    ·exact absurd z h1
   ·exact r.inj m m' b x x' hne e1 e2 e3' e4
 ·rcases zd0 e2 with ⟨rfl,rfl⟩ | ⟨hm,e2⟩
  ·exact r.dis m b o e1 ho h1
  ·exact r.dis m b x e1 e2 e3
 ·obtain ⟨vs,e⟩:=r.rsv b hb
  refine ⟨vs,?_⟩
  rw [zd7]
  ·exact e
  ·rintro rfl
   exact r.dis n _ o ha ho h1 hb
theorem yq4 {lv:Addr→Prop} {k:PV} {k':Key} (hk:zu4 k=some k'):∀ {kvs:List (PV×PV)} {l:List (Key×V)},RKV K H lv kvs l→(kvs.any fun p=>decide (p.1=k))=l.any fun kv=>decide (kv.1=k')
 | [],l,h=>by rw [RKV] at h;subst h;rfl
 | (k1,x1)::r,l,h=>by
  rw [RKV] at h
  obtain ⟨k2,v,l',rfl,h1,h2,h3⟩:=h
  rw [List.any_cons,List.any_cons,yq4 hk h3]
  congr 1
  by_cases e:k1=k
  ·subst e
   rw [hk] at h1;cases h1
   simp
  ·have:k2≠k':=fun z=>e (zy1 h1 (z▸hk))
   simp [e,this]
theorem ym3 {lv:Addr→Prop} {k x:PV} {k':Key} {v:V} (hk:zu4 k=some k') (hx:RP K H lv x v):∀ {kvs:List (PV×PV)} {l:List (Key×V)},RKV K H lv kvs l→RKV K H lv (kvs.map fun p=>if p.1=k then (p.1,x) else p) (l.map fun kv=>if kv.1=k' then (kv.1,v) else kv)
 | [],l,h=>by rw [RKV] at h;subst h;rw [List.map_nil,List.map_nil,RKV]
 | (k1,x1)::r,l,h=>by
  rw [RKV] at h
  obtain ⟨k2,v2,l',rfl,h1,h2,h3⟩:=h
  rw [List.map_cons,List.map_cons]
  have ih:=ym3 hk hx h3
  by_cases e:k1=k
  ·subst e
   rw [hk] at h1;cases h1
   rw [if_pos rfl,if_pos rfl,RKV]
   exact ⟨_,v,_,rfl,hk,hx,ih⟩
  ·have:k2≠k':=fun z=>e (zy1 h1 (z▸hk))
   rw [if_neg e,if_neg this,RKV]
   exact ⟨k2,v2,_,rfl,h1,h2,ih⟩
theorem yf4 {lv:Addr→Prop} {k x:PV} {k':Key} {v:V} (hk:zu4 k=some k') (hx:RP K H lv x v):∀ {kvs:List (PV×PV)} {l:List (Key×V)},RKV K H lv kvs l→RKV K H lv (kvs++[(k,x)]) (l++[(k',v)])
 | [],l,h=>by rw [RKV] at h;subst h;rw [List.nil_append,List.nil_append,RKV];exact ⟨k',v,[],rfl,hk,hx,by rw [RKV]⟩
 | (k1,x1)::r,l,h=>by
  rw [RKV] at h
  obtain ⟨k2,v2,l',rfl,h1,h2,h3⟩:=h
  rw [List.cons_append,List.cons_append,RKV]
  exact ⟨k2,v2,_,rfl,h1,h2,yf4 hk hx h3⟩
theorem yk0 {lv:Addr→Prop} {k x:PV} {k':Key} {v:V} (hk:zu4 k=some k') (hx:RP K H lv x v) {kvs:List (PV×PV)} {l:List (Key×V)} (h:RKV K H lv kvs l):RKV K H lv (zF4 k x kvs) (zL1 l k' v):=by
 unfold zF4 zL1
 rw [yq4 hk h]
 split
 ·exact ym3 hk hx h
 ·exact yf4 hk hx h
theorem RKV.length {lv:Addr→Prop}:∀ {kvs:List (PV×PV)} {l:List (Key×V)},RKV K H lv kvs l→kvs.length=l.length
 | [],l,h=>by rw [RKV] at h;subst h;rfl
 | (k1,x1)::r,l,h=>by
  rw [RKV] at h
  obtain ⟨k2,v2,l',rfl,h1,h2,h3⟩:=h
  simp [RKV.length h3]
end
section
variable {X:Cx} {C:zb9} {W:Nat} {o i value:Expr} {io ii iv:E} {pos pos':Pos}
theorem yq3 (hu:X.A.units+1<cLine):yD4 X (fun o i v H Q=>∃ a H',o=.ref a∧yO5 H a i v H'∧Q H'):=by
 rintro pins s σ H o i v ov iv u Q I ro ri rv ⟨a,H',e,g,q⟩
 subst e
 obtain rfl:ov=Value.ref a:=ro
 exact yn9 hu I g ri rv fun s' I'=>⟨H',I',q⟩
theorem yD4.or {t t':xf5} (h:yD4 X t) (h':yD4 X t'):yD4 X (fun o i v H Q=>t o i v H Q∨t' o i v H Q):=by
 intro pins s σ H o i v ov iv u Q I ro ri rv q
 rcases q with q | q
 ·exact h pins s σ H o i v ov iv u Q I ro ri rv q
 ·exact h' pins s σ H o i v ov iv u Q I ro ri rv q
theorem yB2 (hu:X.A.units+1<cLine) (ho:SE X C o io) (hi:SE X C i ii) (hv:SE X C value iv)
  (ha:∀ v,assign (.Subscript o i pos') X.env v=(do
   let ov ← holding [v] (eval o X.env)
   let iv ← holding [v,ov] (eval i X.env)
   standAt pos'
   holding [v,ov,iv] (setItem ov iv v)
   release [v,ov,iv] []))
  (hs:swapsWithSole [.Subscript o i pos'] value pos.line X.env=pure false) (hw:swappedStores [.Subscript o i pos'] value X.env=pure none)
  (h1:(assignEach [.Subscript o i pos'] X.env).map (·.2)=[assign (.Subscript o i pos') X.env]):SS X C W (.Assign [.Subscript o i pos'] value pos) (.setIx io ii iv) :=
 PS.mono (yO0 hv (yT9 ho hi (yD4.or yt9 (yq3 hu)) ha) hs hw h1) fun D σ H h_=>by
  obtain ⟨env,α,st,fl,st',at',e,q⟩:=h_
  rw [yv1] at e
  obtain ⟨x,st1,e1,e⟩:=Res.bindP_inv e
  obtain ⟨ov,st2,e2,e⟩:=Res.bind_inv e
  obtain ⟨iv',y,st3,e3,hy,e⟩:=Res.bindV_inv e
  obtain ⟨_,st4,e4,e⟩:=Res.bind_inv e
  cases e
  refine ⟨env,α,st,_,st1,at',e1,fun w H1 α1 x1 r1 v1=>?_⟩
  refine ⟨env,α1,st1,ov,st2,at'.next x1 r1,e2,fun w2 H2 α2 x2 r2 v2=>?_⟩
  refine ⟨env,α2,st2,iv',st3,(at'.next x1 r1).next x2 r2,e3,fun w3 H3 α3 x3 r3 v3=>?_⟩
  have rx:=(x2.trans x3).rv v1
  have ro:=x3.rv v2
  have wy:=v3.view r3 hy
  have at3:=((at'.next x1 r1).next x2 r2).next x3 r3
  cases ov with
  | p z=>cases e4
  | ref n =>
   obtain ⟨a,rfl,ha⟩:=ro
   have e4:(match zb5 st3 n with | some (.lst xs)=>(match yZ0 xs y x with | some ys=>Res.ok () (st3.set n (.lst ys)) | none=>.stuck) | some (.dct kvs)=>(if kvs.length<1000000∧zu5 y=true then Res.ok () (st3.set n (.dct (zF4 y x kvs))) else .stuck) | _=>.stuck)=Res.ok () st':=e4
   cases hob:zb5 st3 n with
   | none=>rw [hob] at e4;cases e4
   | some ob =>
    rw [hob] at e4
    cases ob with
    | dead=>cases e4
    | lst xs =>
     cases hsl:yZ0 xs y x with
     | none=>simp only [hsl] at e4;cases e4
     | some ys =>
      simp only [hsl] at e4
      cases e4
      obtain ⟨a',vs,g1,g2,g3⟩:=r3.lst n xs hob
      rw [ha] at g1;cases g1
      cases y with
      | int k =>
       obtain ⟨j,hj,hys⟩:=Option.map_eq_some_iff.mp (show (zi5 xs.length k).map (fun j=>xs.set j x)=some ys from hsl)
       subst hys
       have nd1:zA5.lst xs≠.dead:=by intro z;cases z
       have nd2:zA5.lst (xs.set j x)≠.dead:=by intro z;cases z
       refine .inl ⟨a,vs,k,j,rfl,wy.int,g2,by rw [← g3.length];exact hj,?_⟩
       have setR:∀ {xs:List PV} {vs:List V} (j:Nat),RPs X.K H3 (zf1 α3 st3) xs vs→RPs X.K H3 (zf1 α3 st3) (xs.set j x) (vs.set j w):=by
        intro xs
        induction xs with
        | nil=>intro vs j h;rw [RPs] at h;subst h;rw [List.set_nil,List.set_nil,RPs]
        | cons z zs ih =>
         intro vs j h
         rw [RPs] at h
         obtain ⟨u,ur,rfl,h1,h2⟩:=h
         cases j with
         | zero=>rw [List.set_cons_zero,List.set_cons_zero,RPs];exact ⟨w,ur,rfl,rx,h2⟩
         | succ j=>rw [List.set_cons_succ,List.set_cons_succ,RPs];exact ⟨u,_,rfl,h1,ih j h2⟩
       have ex:=zP3 (o':=.lst (xs.set j x)) (h':=.lst (vs.set j w)) r3 ha hob nd1 nd2
       have rs:=zW1 (o':=.lst (xs.set j x)) (h':=.lst (vs.set j w)) r3 ha hob nd1 nd2 (fun ys e=>by cases e;exact ⟨_,rfl,setR j g3⟩) (fun kvs e=>by cases e)
       exact q σ _ α3 (x1.trans (x2.trans (x3.trans ex))) (at3.next ex rs)
      | _=>simp [yZ0] at hsl
    | dct kvs =>
     by_cases hlen:kvs.length<1000000∧zu5 y=true
     ·simp only [hlen,and_self,if_true] at e4
      cases e4
      obtain ⟨a',l,g1,g2,g3⟩:=r3.dct n kvs hob
      rw [ha] at g1;cases g1
      obtain ⟨k,hk⟩:∃ k,zu4 y=some k:=by
       cases y with
       | int z=>exact ⟨_,rfl⟩
       | str z=>exact ⟨_,rfl⟩
       | _=>cases hlen.2
      have nd1:zA5.dct kvs≠.dead:=by intro z;cases z
      have nd2:zA5.dct (zF4 y x kvs)≠.dead:=by intro z;cases z
      have hz:sizeLine=16777216:=by decide
      have ll:=g3.length
      refine .inr ⟨a,_,rfl,by rw [yk5 wy hk];exact yO5.k g2 (by rw [hz];lia),?_⟩
      have ex:=zP3 (o':=.dct (zF4 y x kvs)) (h':=.dK (zL1 l k w)) r3 ha hob nd1 nd2
      have rs:=zW1 (o':=.dct (zF4 y x kvs)) (h':=.dK (zL1 l k w)) r3 ha hob nd1 nd2 (fun ys e=>by cases e) (fun kvs' e=>by cases e;exact ⟨_,rfl,yk0 hk rx g3⟩)
      exact q σ _ α3 (x1.trans (x2.trans (x3.trans ex))) (at3.next ex rs)
     ·have e4:(if kvs.length<1000000∧zu5 y=true then Res.ok () (st3.set n (.dct (zF4 y x kvs))) else .stuck)=Res.ok () st':=e4
      rw [if_neg hlen] at e4
      cases e4
end
open PySem L2 PySem.SeqAt PyProof.Rows
section
variable {X:Cx}
theorem zH5:∀ {xs:List PV} {b:Bool},zn5 xs=some b→∃ bs:List Bool,xs=bs.map .bl∧b=bs.all id
 | [],b,h=>by cases h;exact ⟨[],rfl,rfl⟩
 | x::r,b,h=>by
  cases x with
  | bl k =>
   obtain ⟨c,h1,h2⟩:=Option.map_eq_some_iff.mp (show (zn5 r).map (k && ·)=some b from h)
   obtain ⟨bs,rfl,rfl⟩:=zH5 h1
   exact ⟨k::bs,rfl,by rw [← h2];rfl⟩
  | _=>cases h
theorem zS8 {K:Frag} {H:Hp} {lv:Addr→Prop}:∀ {bs:List Bool} {vs:List V},RPs K H lv (bs.map .bl) vs→vs=bs.map .bl
 | [],vs,h=>by rw [List.map_nil,RPs] at h;exact h
 | b::r,vs,h=>by
  rw [List.map_cons,RPs] at h
  obtain ⟨v,vr,rfl,h1,h2⟩:=h
  rw [RP] at h1
  rw [h1,zS8 h2]
  rfl
theorem zM7:∀ {bs:List Bool} {its:List Value},zh0 (bs.map .bl) its→its=bs.map .bool
 | [],its,h=>by cases h;rfl
 | b::r,its,h=>by
  cases h with
  | cons q t =>
   obtain rfl:=(show _=Value.bool b from q)
   rw [zM7 t]
   rfl
theorem yr1 (bs:List Bool):(List.range bs.length).all (fun i=>bs.getD i false)=bs.all id:=by
 induction bs with
 | nil=>rfl
 | cons b r ih =>
  rw [List.length_cons,List.range_succ_eq_map,List.all_cons,List.all_map,List.all_cons,← ih]
  rfl
theorem xe0 (hc:X.calm=true):zH4 X (.builtin "all") (f1 (zJ7 fun l=>(zn5 l).map .bl)):=by
 rintro pins s σ H ws us Q I rs ⟨α,st,xs,z,r,pr,hz,q⟩
 cases pr with
 | nil=>cases hz
 | cons h t =>
  cases t with
  | cons _ _=>cases hz
  | nil =>
   rename_i x w
   cases x with
   | lst l =>
    obtain ⟨b,hb,hz2⟩:=Option.map_eq_some_iff.mp (show (zn5 l).map PV.bl=some z from hz)
    obtain ⟨bs,rfl,rfl⟩:=zH5 hb
    obtain ⟨a,vs,rfl,h1,h2⟩:=h.lst
    cases rs with
    | cons ra rt =>
     cases rt
     obtain rfl:=(show _=Value.ref a from ra)
     obtain ⟨its,r1,p,_⟩:=I.list h1
     have ev:=zS8 h2
     subst ev
     have ei:=zM7 r1
     subst ei
     refine call_all_walk (wpAny_pyIter_list p.isList ?_)
     have hne:a≠s.heap.objs.size:=by
      obtain ⟨o,_,e,_⟩:=p
      exact Nat.ne_of_lt (Heap.lt_size e)
     refine ⟨_,_,_,_,_,_,fun i=>bs.getD i false,rfl,Walks.list (A:=X.A.in1) (show X.A.in1.handled=none from I.ok.hd hc) s.heap.objs.size a hne (bs.map Value.bool).toArray,⟨⟨_,Heap.get?_push_size _ rfl,rfl,rfl⟩,?_⟩,?_,fun h' tk hk=>?_⟩
     ·obtain ⟨o,n,e,c,_,d⟩:=p
      exact ⟨o,Heap.get?_push_of_some _ e,c,n,d⟩
     ·intro i v s' Q' E' hv hQ
      have hv:(bs.map Value.bool).toArray[i]?=some v:=hv
      rw [List.getElem?_toArray,List.getElem?_map] at hv
      obtain ⟨b,hb',rfl⟩:=Option.map_eq_some_iff.mp hv
      have e:bs.getD i false=b:=by rw [List.getD_eq_getElem?_getD,hb'];rfl
      have hQ:Q' (bs.getD i false) s':=hQ
      rw [e] at hQ
      exact wpAny_truthy_bool hQ
     ·refine ⟨.bl _,H,I.kept (fun b o e=>hk b o ?_ (Heap.get?_push_of_some _ e)),rfl,?_⟩
      ·simp only [List.mem_singleton]
       exact Nat.ne_of_lt (Heap.lt_size e)
      ·have:(List.range (bs.map Value.bool).toArray.size).all (fun i=>bs.getD i false)=bs.all id:=by
        rw [List.size_toArray,List.length_map];exact yr1 bs
       rw [this]
       exact q _ _ (zl3.refl H) (by rw [← hz2,RP])
   | _=>cases hz
theorem yp6:∀ {xs:List PV} {ns:List Int},zy4 xs=some ns→xs=ns.map .int
 | [],ns,h=>by cases h;rfl
 | x::r,ns,h=>by
  cases x with
  | int i =>
   obtain ⟨ms,h1,h2⟩:=Option.map_eq_some_iff.mp (show (zy4 r).map (i :: ·)=some ns from h)
   rw [← h2,yp6 h1]
   rfl
  | _=>cases h
theorem yc8 {K:Frag} {H:Hp} {lv:Addr→Prop}:∀ {ns:List Int} {vs:List V},RPs K H lv (ns.map .int) vs→vs=ns.map .int
 | [],vs,h=>by rw [List.map_nil,RPs] at h;exact h
 | b::r,vs,h=>by
  rw [List.map_cons,RPs] at h
  obtain ⟨v,vr,rfl,h1,h2⟩:=h
  rw [RP] at h1
  rw [h1,yc8 h2]
  rfl
theorem zM5:∀ {ns:List Int} {its:List Value},zh0 (ns.map .int) its→∃ ps:List (Int×Tok),its=ps.map (fun p=>Value.int p.1 p.2)∧ps.map (·.1)=ns
 | [],its,h=>by cases h;exact ⟨[],rfl,rfl⟩
 | b::r,its,h=>by
  cases h with
  | cons q t =>
   obtain ⟨tk,rfl⟩:=q
   obtain ⟨ps,rfl,h2⟩:=zM5 t
   exact ⟨(b,tk)::ps,rfl,by rw [List.map_cons,h2]⟩
end
open PySem L2 PySem.SeqAt PyProof.Rows
noncomputable def zS2:Ty→String
 | .int => "int"
 | .str => "str"
 | .bool => "bool"
 | .list => "list"
 | .tuple => "tuple"
section
variable {X:Cx} {C:zb9} {a:Expr} {ia:E} {pos p p2:Pos}
theorem ya5 (t:Ty):zN5 X (.builtin "isinstance") (fun ws H Q=>∃ α st px x,ws=[x,.ty (zS2 t)]∧RSt X.K α st H∧RW X.K α st H px x∧Q (.bl (yZ9 t px)) H):=by
 rintro pins s σ H ws us Q I rs ⟨α,st,px,x,e,r,h,q⟩
 subst e
 cases rs with
 | cons rx rt =>
  cases rt with
  | cons r2 rt =>
   cases rt
   obtain rfl:=(show _=Value.type (zS2 t) from r2)
   have fin:∀ tk,EP X pins σ Q (.bool (yZ9 t px)) { s with toks:=tk }:=fun tk=>⟨.bl _,H,I.tok tk,rfl,q⟩
   cases px with
   | non=>have e:=h.non;subst e;exact zz3 I rx .non (by cases t <;> rfl) fin
   | bl b=>have e:=h.bl;subst e;exact zz3 I rx (.bl b) (by cases t <;> rfl) fin
   | int i=>have e:=h.int;subst e;exact zz3 I rx (.int i) (by cases t <;> rfl) fin
   | str cs=>have e:=h.str.1;subst e;exact zz3 I rx (.str _) (by cases t <;> rfl) fin
   | tup xs =>
    obtain ⟨b,vs,rfl,h1,_⟩:=h.tup
    obtain rfl:=(show _=Value.ref b from rx)
    obtain ⟨its,_,⟨o,e1,e2,_⟩,_⟩:=I.tuple h1
    exact PySem.W.kia_one PySem.W.kitx_tuple I.kIn ⟨o,e1,e2⟩ (by cases t <;> rfl) (fun z=>nomatch z) fin
   | lst xs =>
    obtain ⟨b,vs,rfl,h1,_⟩:=h.lst
    obtain rfl:=(show _=Value.ref b from rx)
    obtain ⟨its,_,⟨o,n,e1,e2,_⟩,_⟩:=I.list h1
    exact PySem.W.kia_one PySem.W.kitx_list I.kIn ⟨o,e1,e2⟩ (by cases t <;> rfl) (fun z=>nomatch z) fin
theorem ym1 {x:Str} (t:Ty) (hg:Gl X "isinstance") (hm:X.mg "isinstance" = none) (hv:bootBuiltins "isinstance" = some (.builtin "isinstance")) (hg2:Gl X x) (hm2:X.mg x=none) (hv2:bootBuiltins x=some (.type (zS2 t)))
  (ha:SE X C a ia) (hn2:x ≠ "__name__") (hd2:(x==("__debug__" : Str))=false)
  (hs:starEach [a,.Name x p2] X.env=(false,eval a X.env)::starEach [.Name x p2] X.env) (hs2:starEach [.Name x p2] X.env=(false,eval (.Name x p2) X.env)::starEach [] X.env)
  (hpl:(backTo pos (starEach [.Name x p2] X.env)).any (·.1)=false):SE X C (.Call (.Name "isinstance" p) [a,.Name x p2] [] pos) (.blt (.isinst t) [ia]) :=
 PE.mono (ye6 (ya5 t) hg hm hv (ya6 ha (ya6 (yG6 hg2 hm2 hv2 (v:=.ty (zS2 t)) rfl hn2 hd2) yB9 hs2) hs) (by decide) (by decide) hs hpl) fun σ H Q h_=>by
  obtain ⟨env,α,st,v,st',at',e,q⟩:=h_
  rw [zh5,zm8] at e
  obtain ⟨vs,st1,e1,e⟩:=Res.bind_inv e
  obtain ⟨va,st2,e2,e1⟩:=Res.bind_inv e1
  rw [zs5] at e1
  cases e1
  refine ⟨env,α,st,va,st1,at',e2,fun w H1 α1 x1 r1 v1=>?_⟩
  unfold opN at e
  cases hv':view st1 va with
  | none=>simp only [zn7,hv'] at e;cases e
  | some y =>
   simp only [zn7,hv'] at e
   cases e
   exact ⟨α1,st',y,w,rfl,r1,v1.view r1 hv',q _ H1 α1 x1 r1 (by rw [RV,RP])⟩
variable {o e:Expr} {es:List Expr} {io:E} {irs:List E} {apos cpos:Pos} {name:Str} {id:String} {m:Mt}
end
open PySem L2 PySem.SeqAt PyProof.Rows
open PySem.Builtin PySem.Builtin.Str
section
variable {X:Cx}
end
open PySem L2 PySem.SeqAt PyProof.Rows
open PySem.Builtin PySem.Builtin.Str
theorem zH0 (n d:Nat) (o:Option Int):HT.sIx n d o=sIx n d o:=by
 cases o with
 | none=>rfl
 | some i =>
  show (if i<0 then (i+(n:Int)).toNat else min i.toNat n)=(if 0≤i then min i.toNat n else ((n:Int)+i).toNat)
  by_cases h:0≤i
  ·rw [if_neg (by lia),if_pos h]
  ·rw [if_pos (by lia),if_neg h]
   congr 1
   lia
theorem ym6 (i:Int) (n d:Nat):max 0 (min (if i<0 then i+(n:Int) else i) (n:Int))=((sIx n d (some i):Nat):Int):=by
 show max 0 (min (if i<0 then i+(n:Int) else i) (n:Int))=(((if 0≤i then min i.toNat n else ((n:Int)+i).toNat):Nat):Int)
 by_cases h:0≤i
 ·rw [if_neg (by lia),if_pos h];lia
 ·rw [if_pos (by lia),if_neg h];lia
theorem yW8 (lo hi:Option Int) (n:Nat):strSliceIndices lo hi 1 n=(List.range (sIx n n hi - sIx n 0 lo)).map (sIx n 0 lo + ·):=by
 rw [← sliceRange_one]
 have h1:(1:Int) > 0:=by decide
 unfold strSliceIndices
 simp only [h1,if_true]
 congr 1
 ·cases lo with
  | none=>rfl
  | some i=>exact ym6 i n 0
 ·cases hi with
  | none=>rfl
  | some i=>exact ym6 i n n
section
variable {prog:Program} {w:World} {A:Around} {E:Value→Shared→Prop} {s:Shared}
theorem zx3 {t sl:Addr} {zd6:Array Value} {vl vu:Value} {lo hi:Option Int} {Q:Value→Shared→Prop} (ht:IsTup s.heap t zd6) (hs:s.heap.IsSliceOf sl vl vu .none) (pl:IsPart vl lo) (pu:IsPart vu hi)
  (hw:HT.sIx zd6.size 0 lo=0∧HT.sIx zd6.size zd6.size hi=zd6.size) (h:Q (.ref t) s):wpAny (model prog w) A (getItem (.ref t) (.ref sl)) Q E s:=by
 obtain ⟨os,hos,hcs,hds⟩:=id hs
 have hTs:s.TypeIs (.ref sl) "slice" := ⟨os,hos,hcs⟩
 unfold getItem
 try with_reducible refine wpAny_holding ?_
 first | refine wpAny_bind (wpAny_pure ?_) | skip
 refine wpAny_bind (wpAny_sequenceKey ht.typeIs (by decide) ?_)
 refine wpAny_bind (wpAny_callSpecial?_slot (name:=Str.ofString "__getitem__") ht.typeIs PyProof.Rows.slot_tuple_getitem
  (wpAny_call_entry PyProof.Rows.slot_tuple_getitem ht.typeIs entry_tuple_getitem ?_ (args_tuple_getitem _ _)))
 show wpAny _ _ (Builtin.Tuple.tupleItemsOf (.ref t) >>= _) _ _ s
 refine wpAny_bind (tupleItemsOf_ ht ?_)
 refine wpAny_bind (wpAny_typeOf hTs ?_)
 rw [if_pos (by decide)]
 refine wpAny_bind (HT.sliceApplied_gen hs pl pu ?_)
 have hyes:(((HT.sIx zd6.size 0 lo:Nat):Int)==0&&(1:Int)==1&&(HT.sIx zd6.size zd6.size hi - HT.sIx zd6.size 0 lo)==zd6.size)=true:=by
  rw [hw.1,hw.2];simp
 show wpAny _ _ (if (((HT.sIx zd6.size 0 lo:Nat):Int)==0&&(1:Int)==1&&(HT.sIx zd6.size zd6.size hi - HT.sIx zd6.size 0 lo)==zd6.size)=true then _ else _) _ _ s
 rw [if_pos hyes]
 refine wpAny_bind (m:=Builtin.Tuple.tupleIsExact (.ref t)) ?_
 unfold Builtin.Tuple.tupleIsExact
 refine wpAny_bind (wpAny_typeOf ht.typeIs (wpAny_pure ?_))
 rw [if_pos (by decide)]
 exact wpAny_bind (wpAny_rule (wpAny_pure ⟨_,rfl,wpAny_pure h⟩))
end
section
variable {X:Cx} {C:zb9} {e:Expr} {ie:E} {pos p2:Pos}
theorem ye2 {α:Type} (xs:List α) (lo hi:Option Int):(cut xs lo hi).length≤xs.length:=by
 unfold cut
 rw [List.length_take,List.length_drop]
 lia
theorem yp4 {α:Type} (xs:List α) (lo hi:Option Int) (h:(cut xs lo hi).length=xs.length):cut xs lo hi=xs :=
 (((List.take_sublist _ _).trans (List.drop_sublist _ _)):(cut xs lo hi).Sublist xs).eq_of_length h
def rSlS:V→Option Int→Option Int→Hp→VK→Prop:=fun x lo hi H Q=>∃ cs:List Nat,x=.str ⟨cs.toArray⟩∧cs.length≤sizeLine∧Q (.str ⟨(cut cs lo hi).toArray⟩) H
theorem yn8 {v:Value} {o:Option Int} (p:IsPart v o):∃ l:Option (Int×Tok),v=partValue l∧l.map (·.1)=o:=by
 cases p with
 | none=>exact ⟨none,rfl,rfl⟩
 | int i t=>exact ⟨some (i,t),rfl,rfl⟩
theorem yY5:SlR X rSlS:=by
 rintro pins s σ H x v vl vu lo hi sl Q I rx hs pl pu ⟨cs,e,hl,q⟩
 subst e
 obtain ⟨t,rfl⟩:=rx
 obtain ⟨l,rfl,rfl⟩:=yn8 pl
 obtain ⟨u,rfl,rfl⟩:=yn8 pu
 have pk:slicePicked ⟨cs.toArray⟩ l u none=(List.range (sIx cs.length cs.length (u.map (·.1)) - sIx cs.length 0 (l.map (·.1)))).map (sIx cs.length 0 (l.map (·.1)) + ·):=by
  unfold slicePicked
  rw [zl8]
  exact yW8 _ _ _
 have pf:(slicePicked ⟨cs.toArray⟩ l u none).filterMap (fun i=>(⟨cs.toArray⟩:Str).cps[i]?)=cut cs (l.map (·.1)) (u.map (·.1)):=by
  rw [pk]
  exact pick_run cs.toArray _ _
 refine ⟨"str", _,PySem.F.slot_str_getitem.lookup,typeIs_str _ _ _,wpAny_getItem_str_slice (l:=l) (u:=u) (st:=none) hs rfl ?_⟩
 unfold sliceMade
 split
 ·rename_i h
  have h2:(slicePicked ⟨cs.toArray⟩ l u none).length=cs.length:=by
   have:=(Bool.and_eq_true _ _▸h:_∧_).2
   rw [zl8] at this
   exact eq_of_beq this
  have h3:cut cs (l.map (·.1)) (u.map (·.1))=cs:=by
   refine yp4 _ _ _ ?_
   rw [pk,List.length_map,List.length_range] at h2
   unfold cut
   rw [List.length_take,List.length_drop]
   have h4:sIx cs.length cs.length (u.map (·.1))≤cs.length:=by rw [← zH0];exact HT.sIx_le _ _ (Nat.le_refl _) _
   lia
  rw [h3] at q
  exact ⟨.str _,H,I,⟨t,rfl⟩,q⟩
 ·rw [pf]
  exact ⟨by rw [zl8];exact Nat.le_trans (ye2 _ _ _) hl,.str _,H,I.tok _,⟨_,rfl⟩,q⟩
theorem RPs.cut {K:Frag} {H:Hp} {lv:Addr→Prop} {xs:List PV} {vs:List V} (lo hi:Option Int) (h:RPs K H lv xs vs):RPs K H lv (cut xs lo hi) (yC2 vs lo hi):=by
 unfold OR.cut yC2
 rw [zH0,zH0,← h.length]
 exact RPs.take _ (RPs.drop _ h)
theorem yX6:SlR X (fun x lo hi H Q=>∃ α st px z,RSt X.K α st H∧RW X.K α st H px x∧sliceOp px lo hi=some z∧∀ w H',zl3 H H'→RP X.K H' (zf1 α st) z w→Q w H'):=by
 rintro pins s σ H x v vl vu lo hi sl Q I rx hs pl pu ⟨α,st,px,z,r,h,hz,q⟩
 cases px with
 | str cs =>
  obtain ⟨h1,h2⟩:=h.str
  subst h1
  refine yY5 pins s σ H _ v vl vu lo hi sl Q I rx hs pl pu ⟨cs,rfl,h2,q _ _ (zl3.refl H) ?_⟩
  cases hz
  rw [RP]
  exact ⟨rfl,Nat.le_trans (ye2 _ _ _) h2⟩
 | lst xs =>
  obtain ⟨a,vs,rfl,h1,h2⟩:=h.lst
  refine yG4 pins s σ H _ v vl vu lo hi sl Q I rx hs pl pu ⟨a,vs,rfl,h1,fun p hp=>q _ _ (ze8 hp _) ?_⟩
  cases hz
  rw [RP]
  exact ⟨p,_,rfl,SqL.of zd3,r.notlive hp,(Ext.of_same r (ze8 hp _)).rps (h2.cut lo hi)⟩
 | tup xs =>
  obtain ⟨a,vs,rfl,h1,h2⟩:=h.tup
  cases hz
  by_cases hw:sIx xs.length 0 lo=0∧sIx xs.length xs.length hi=xs.length
  ·have ec:OR.cut xs lo hi=xs:=by
    unfold OR.cut
    rw [hw.1,hw.2,List.drop_zero,Nat.sub_zero,List.take_length]
   rw [ec] at q
   cases rx
   obtain ⟨its,r1,ht,hz'⟩:=I.tuple h1
   have hlen:its.toArray.size=xs.length:=by rw [List.size_toArray,h2.length];exact r1.length.symm
   refine ⟨"tuple", _,PyProof.Rows.slot_tuple_getitem.lookup,ht.typeIs,?_⟩
   refine zx3 ht hs pl pu (by rw [hlen,zH0,zH0];exact hw) ?_
   exact ⟨.ref a,H,I,rfl,q _ _ (zl3.refl H) (by rw [RP];exact ⟨a,vs,rfl,h1,h2⟩)⟩
  ·refine yT6 pins s σ H _ v vl vu lo hi sl Q I rx hs pl pu ⟨a,vs,rfl,h1,by rw [zH0,zH0,← h2.length];exact hw,fun p hp=>q _ _ (ze8 hp _) ?_⟩
   rw [RP]
   exact ⟨p,_,rfl,SqT.of zd3,(Ext.of_same r (ze8 hp _)).rps (h2.cut lo hi)⟩
 | _=>cases hz
noncomputable def tO (K:Frag) (C:zb9) (ir:Option E):TO:=fun σ H Q=>∃ env α st o st',At K α st H env σ∧evalO C ir env st=.ok o st' ∧
 ∀ H' α',Ext K α st H α' st' H'→RSt K α' st' H'→Q o H'
noncomputable abbrev SO (X:Cx) (C:zb9) (e:Option Expr) (ir:Option E):Prop:=PO X e (tO X.K C ir)
theorem PO.mono {e:Option Expr} {t t':TO} (h:PO X e t) (m:∀ σ H Q,t' σ H Q→t σ H Q):PO X e t':=fun pins s σ H Q I q=>h pins s σ H Q I (m _ _ _ q)
theorem yE2:SO X C none none:=PO.mono yF5 fun σ H Q h_=>by
 obtain ⟨env,α,st,o,st',at',e,q⟩:=h_
 rw [yx2] at e
 cases e
 exact q H α .refl at'.rs
theorem yK5 (h:SE X C e ie):SO X C (some e) (some ie):=PO.mono (yH1 h) fun σ H Q h_=>by
 obtain ⟨env,α,st,o,st',at',e,q⟩:=h_
 rw [yw9] at e
 obtain ⟨v,x,st1,e1,hv,e⟩:=Res.bindV_inv e
 refine ⟨env,α,st,v,st1,at',e1,fun w H1 α1 x1 r1 v1=>?_⟩
 cases x with
 | int i =>
  cases e
  exact ⟨i,(v1.view r1 hv).int,q H1 α1 x1 r1⟩
 | _=>cases e
theorem yz4 {lo hi:Option Expr} {ilo ihi:Option E} (he:SE X C e ie) (hl:SO X C lo ilo) (hh:SO X C hi ihi):SE X C (.Subscript e (.Slice lo hi none p2) pos) (.slice ie ilo ihi) :=
 PE.mono (yw5 yX6 he hl hh) fun σ H Q h_=>by
  obtain ⟨env,α,st,v,st',at',e,q⟩:=h_
  rw [yv4] at e
  obtain ⟨va,st1,e1,e⟩:=Res.bind_inv e
  obtain ⟨l,st2,e2,e⟩:=Res.bind_inv e
  obtain ⟨h,st3,e3,e⟩:=Res.bind_inv e
  obtain ⟨x,y,g1,g2,g3,g4⟩:=yJ2 e
  subst g3 g4
  refine ⟨env,α,st,va,st1,at',e1,fun w H1 α1 x1 r1 v1=>?_⟩
  have at1:=at'.next x1 r1
  refine ⟨env,α1,st1,l,st2,at1,e2,fun H2 α2 x2 r2=>?_⟩
  refine ⟨env,α2,st2,h,st',at1.next x2 r2,e3,fun H3 α3 x3 r3=>?_⟩
  refine ⟨α3,st',x,y,r3,((x2.trans x3).rv v1).view r3 g1,g2,fun w3 H4 s4 rp=>?_⟩
  exact q w3 H4 α3 (x1.trans (x2.trans (x3.trans (.of_same r3 s4)))) (r3.same s4) rp
end
open PySem L2 PySem.SeqAt PyProof.Rows
noncomputable def Al.add (α:Al) (p:Addr):Al:=⟨α.adr++[p],α.rsv⟩
section
variable {K:Frag} {α:Al} {st:za6} {H:Hp} {p:Addr} {o:zA5}
theorem zm3 {n:Nat} {x:zA5} (h:zb5 (st++[o]) n=some x):(n<st.length∧zb5 st n=some x)∨(n=st.length∧x=o):=by
 by_cases hn:n<st.length
 ·rw [zA1 hn] at h
  exact .inl ⟨hn,h⟩
 ·have hl:=zp9 h
  rw [List.length_append,List.length_singleton] at hl
  have e:n=st.length:=by lia
  subst e
  rw [zh2] at h
  cases h
  exact .inr ⟨rfl,rfl⟩
theorem zy3 {l:List Addr} {n:Nat} {a:Addr} (h:(l++[p])[n]?=some a):(n<l.length∧l[n]?=some a)∨(n=l.length∧a=p):=by
 by_cases hn:n<l.length
 ·rw [List.getElem?_append_left hn] at h
  exact .inl ⟨hn,h⟩
 ·have hl:=(List.getElem?_eq_some_iff.mp h).1
  rw [List.length_append,List.length_singleton] at hl
  have e:n=l.length:=by lia
  subst e
  rw [List.getElem?_concat_length] at h
  cases h
  exact .inr ⟨rfl,rfl⟩
theorem ya8 (hl:α.adr.length=st.length) {a:Addr} (h:zf1 (α.add p) (st++[o]) a):a=p∨zf1 α st a:=by
 rcases h with h | ⟨n,x,h1,h2,h3⟩
 ·exact .inr (.inl h)
 ·rcases zy3 h1 with ⟨g1,g2⟩ | ⟨g1,g2⟩
  ·rcases zm3 h2 with ⟨_,k2⟩ | ⟨k1,_⟩
   ·exact .inr (.inr ⟨n,x,g2,k2,h3⟩)
   ·lia
  ·exact .inl g2
theorem yY4 {a:Addr} {vs:List V} (hp:H p=none) (hK:K.lookup p=none) (h:SqL K H a vs):a≠p:=by
 rintro rfl
 rcases h with (h | ⟨_,h⟩) | ⟨_,_,_,h,_⟩
 ·rw [hp] at h;cases h
 ·rw [hp] at h;cases h
 ·rw [hK] at h;cases h
theorem zW4 {h':HO} (r:RSt K α st H) (hp:H p=none) (hK:K.lookup p=none):Ext K α st H (α.add p) (st++[o]) (upd H p h'):=by
 have s:=ze8 hp h'
 refine ⟨fun n a h=>?_,fun a vs h=>SqT.same s h,fun a vs h n=>⟨zl3.seq s h,fun l=>?_⟩,rfl,fun a ha=>?_⟩
 ·show (α.adr++[p])[n]?=some a
  rw [List.getElem?_append_left (List.getElem?_eq_some_iff.mp h).1]
  exact h
 ·rcases ya8 r.len l with e | e
  ·exact yY4 hp hK h e
  ·exact n e
 ·obtain ⟨vs,e⟩:=r.rsv a ha
  rw [e,s _ _ e]
theorem yl0 {h':HO} (r:RSt K α st H) (hp:H p=none) (hK:K.lookup p=none)
  (hl:∀ xs,o=.lst xs→∃ vs,h'=.lst vs∧RPs K H (zf1 α st) xs vs) (hd:∀ kvs,o=.dct kvs→∃ l,h'=.dK l∧RKV K H (zf1 α st) kvs l):RSt K (α.add p) (st++[o]) (upd H p h'):=by
 have s:=ze8 hp h'
 have ex:=zW4 (o:=o) (h':=h') r hp hK
 have old:∀ {n:Nat} {a:Addr},α.adr[n]?=some a→(α.add p).adr[n]?=some a:=fun h=>ex.pre _ _ h
 have new:(α.add p).adr[st.length]?=some p:=by
  show (α.adr++[p])[st.length]?=some p
  rw [← r.len,List.getElem?_concat_length]
 have dead:∀ {n:Nat} {x:zA5},α.adr[n]?=some p→zb5 st n=some x→x=.dead:=fun {n x} h1 h2=>by
  by_cases hx:x=.dead
  ·exact hx
  ·exact absurd (.inr ⟨n,x,h1,h2,hx⟩) (r.notlive hp)
 refine ⟨?_,fun n xs h=>?_,fun n kvs h=>?_,fun n m a x x' hne h1 h2 h3 h4=>?_,fun a h=>?_,fun n a x h1 h2 h3 h4=>?_,fun a ha=>?_⟩
 ·show (α.adr++[p]).length=(st++[o]).length
  rw [List.length_append,List.length_append,r.len]
  rfl
 ·rcases zm3 h with ⟨_,h⟩ | ⟨rfl,e⟩
  ·obtain ⟨a,vs,e1,e2,e3⟩:=r.lst n xs h
   exact ⟨a,vs,old e1,s _ _ e2,ex.rps e3⟩
  ·obtain ⟨vs,rfl,e3⟩:=hl xs e.symm
   exact ⟨p,vs,new,zd3,ex.rps e3⟩
 ·rcases zm3 h with ⟨_,h⟩ | ⟨rfl,e⟩
  ·obtain ⟨a,vs,e1,e2,e3⟩:=r.dct n kvs h
   exact ⟨a,vs,old e1,s _ _ e2,RKV.mono ex.tup ex.lst _ _ e3⟩
  ·obtain ⟨l,rfl,e3⟩:=hd kvs e.symm
   exact ⟨p,l,new,zd3,RKV.mono ex.tup ex.lst _ _ e3⟩
 ·have ll:=r.len
  rcases zy3 h1 with ⟨a1,b1⟩ | ⟨a1,rfl⟩
  ·rcases zm3 h3 with ⟨_,h3⟩ | ⟨z,_⟩
   ·rcases zy3 h2 with ⟨a2,b2⟩ | ⟨a2,rfl⟩
    ·rcases zm3 h4 with ⟨_,h4⟩ | ⟨z,_⟩
     ·exact r.inj n m a x x' hne b1 b2 h3 h4
     ·lia
    ·exact .inl (dead b1 h3)
   ·lia
  ·rcases zy3 h2 with ⟨a2,b2⟩ | ⟨a2,_⟩
   ·rcases zm3 h4 with ⟨_,h4⟩ | ⟨z,_⟩
    ·exact .inr (dead b2 h4)
    ·lia
   ·lia
 ·rcases ya8 r.len h with rfl | e
  ·exact hK
  ·exact r.nk a e
 ·have ll:=r.len
  rcases zy3 h1 with ⟨a1,b1⟩ | ⟨a1,rfl⟩
  ·rcases zm3 h2 with ⟨_,h2⟩ | ⟨z,_⟩
   ·exact r.dis n a x b1 h2 h3 h4
   ·lia
  ·obtain ⟨vs,e⟩:=r.rsv a h4
   rw [hp] at e;cases e
 ·obtain ⟨vs,e⟩:=r.rsv a ha
  exact ⟨vs,s _ _ e⟩
theorem yD1 (r:RSt K α st H):(α.add p).adr[st.length]?=some p:=by
 show (α.adr++[p])[st.length]?=some p
 rw [← r.len,List.getElem?_concat_length]
end
section
variable {X:Cx} {C:zb9} {pos:Pos} {es:List Expr} {irs:List E} {t:TA}
theorem zL7 {pins:List (Addr×Obj)} {σ:L2.St} {H:Hp} {s:Shared} (I:Inv X pins σ H s):X.K.lookup s.heap.objs.size=none:=by
 cases e:X.K.lookup s.heap.objs.size with
 | none=>rfl
 | some o=>exact absurd (Heap.lt_size (I.kIn _ _ e)) (Nat.lt_irrefl _)
noncomputable def yt5:PV→Key
 | .int i=>.inl i
 | .str cs=>.inr ⟨cs.toArray⟩
 | _=>.inl 0
noncomputable def prs (K:Frag) (C:zb9):List PV→List E→List (TE×TE)
 | k::ks,i::is=>(tC (kV (yt5 k)),tP K C i)::prs K C ks is
 | _,_=>[]
theorem zT4 {K:Frag} {H:Hp} {lv:Addr→Prop}:∀ {ks xs:List PV} {ws:List V} {d:List (PV×PV)} {l:List (Key×V)},(∀ k∈ks,zu5 k=true)→RPs K H lv xs ws→RKV K H lv d l →
  RKV K H lv ((ks.zip xs).foldl (fun d p=>zF4 p.1 p.2 d) d) (zt8 l ((ks.zip ws).map fun kv=>(yt5 kv.1,kv.2)))
 | [],xs,ws,d,l,_,_,h=>by
  rw [List.zip_nil_left,List.zip_nil_left]
  exact h
 | k::ks,[],ws,d,l,hk,hx,h=>by
  rw [RPs] at hx
  subst hx
  exact h
 | k::ks,x::xs,ws,d,l,hk,hx,h=>by
  rw [RPs] at hx
  obtain ⟨w,wr,rfl,h1,h2⟩:=hx
  have hkk:zu4 k=some (yt5 k):=by
   have:=hk k (List.mem_cons_self ..)
   cases k <;> first | rfl | cases this
  exact zT4 (ks:=ks) (xs:=xs) (ws:=wr) (d:=zF4 k x d) (l:=zL1 l (yt5 k) w) (fun k' hk'=>hk k' (List.mem_cons_of_mem _ hk')) h2 (yk0 hkk h1 h)
noncomputable def xc3 (K:Frag) (t:TA):TE:=fun σ H Q=>t σ H fun xs H1=>xs.length≤sizeLine∧∀ p,H1 p=none→K.lookup p=none→Q (.ref p) (upd H1 p (.lst xs))
theorem yK6 (h:PA X es t):PE X (.List es pos) (xc3 X.K t):=by
 intro pins s σ H Q I hq
 refine wpAny_List_spliced (thn (h pos pins s σ H _ I hq) fun us s1 ⟨xs,H1,I1,r,z,q⟩=>⟨by rw [← r.length];exact z,?_⟩)
 have hf:H1 s1.heap.objs.size=none:=I1.hok.fresh (Nat.le_refl _)
 refine ⟨.ref s1.heap.objs.size,upd H1 s1.heap.objs.size (.lst xs),I1.laid (t':=s1.toks) (fun b u e=>Heap.get?_push_of_some _ e) (Nat.le_refl _) ?_,rfl,q _ hf (zL7 I1)⟩
 exact ⟨z,us,0,r,Heap.get?_push_size _ rfl⟩
end
open PySem L2 PySem.SeqAt PyProof.Rows
open PySem.Builtin PySem.Builtin.Str
section
variable {X:Cx} {C:zb9} {o:Expr} {io:E} {apos cpos:Pos} {name:Str} {id:String} {m:Mt}
theorem zW0:∀ {xs:List PV} {ls:List (List Nat)},zw2 xs=some ls→xs=ls.map .str
 | [],ls,h=>by cases h;rfl
 | .str c::r,ls,h=>by
  have h:(zw2 r).map (c :: ·)=some ls:=h
  obtain ⟨l,h1,rfl⟩:=Option.map_eq_some_iff.mp h
  rw [zW0 h1];rfl
 | .non::_,_,h=>by cases h
 | .bl _::_,_,h=>by cases h
 | .int _::_,_,h=>by cases h
 | .tup _::_,_,h=>by cases h
 | .lst _::_,_,h=>by cases h
noncomputable def txt (cs:List Nat):Str:=⟨cs.toArray⟩
theorem zM9 {K:Frag} {H:Hp} {lv:Addr→Prop}:∀ {ls:List (List Nat)} {vs:List V},RPs K H lv (ls.map .str) vs→vs=ls.map fun c=>V.str (txt c)
 | [],vs,h=>by rw [List.map_nil,RPs] at h;exact h
 | c::r,vs,h=>by
  rw [List.map_cons,RPs] at h
  obtain ⟨v,vr,rfl,h1,h2⟩:=h
  rw [RP] at h1
  rw [h1.1,zM9 h2]
  rfl
theorem zF0:∀ {ls:List (List Nat)} {its:List Value},zh0 (ls.map fun c=>V.str (txt c)) its→StrsAre its (ls.map txt)
 | [],its,h=>by rw [List.map_nil] at h;cases h;exact .nil
 | c::r,its,h=>by
  rw [List.map_cons] at h
  cases h with
  | cons h1 h2 =>
   obtain ⟨t,rfl⟩:=h1
   exact .cons _ t (zF0 h2)
end
open PySem L2 PySem.SeqAt PyProof.Rows
noncomputable def zD9 (scope up:Scope):List (Str×NameKind):=scope.names.map fun (n,k)=>if (k == .free&&up.kind == .function&&up.names.lookup n==some .cell) then (n,.cell) else (n,k)
noncomputable def yA5 (XN:List Str) (sc:Scope):List Nat→List Str→Bool
 | [],_=>true
 | i::caps,x::N=>decide (XN[i]?=some x)&&decide (sc.names.lookup x=some .free)&&yA5 XN sc caps N
 | _::_,[]=>false
noncomputable def yk6 (XN:List Str) (up scope:Scope) (N:List Str) (caps:List Nat) (n:Nat):Bool :=
 decide (scope.kind=.function)&&scope.names.all (fun x=>decide (x.2≠.local) || decide (scope.names.lookup x.1=some .local))&&scope.names.all (fun x=>decide (x.2≠.cell))
 && scope.names.all (fun x=>decide (x.2≠.free) || decide (up.names.lookup x.1=some .cell) || decide (up.names.lookup x.1=some .free))
 && scope.names.all (fun x=>decide (x.2≠.free) || decide ((zD9 scope up).lookup x.1=some .cell) || decide ((zD9 scope up).lookup x.1=some .free))
 && (zD9 scope up).all (fun x=>(decide (x.2≠.cell)&&decide (x.2≠.free)) || decide ((x.1,NameKind.free)∈scope.names))
 && yA5 XN scope caps N&&decide (N.length=caps.length+n)
theorem yC6 {XN:List Str} {sc:Scope}:∀ {caps:List Nat} {N:List Str},yA5 XN sc caps N=true→∀ (j i:Nat),caps[j]?=some i→∃ x,N[j]?=some x∧XN[i]?=some x∧sc.names.lookup x=some .free
 | [],_,_,j,i,e=>by simp at e
 | k::caps,[],h,_,_,_=>by cases h
 | k::caps,x::N,h,j,i,e=>by
  unfold yA5 at h
  rw [Bool.and_eq_true,Bool.and_eq_true] at h
  obtain ⟨⟨h1,h2⟩,h3⟩:=h
  cases j with
  | zero=>simp at e;subst e;exact ⟨x,rfl,of_decide_eq_true h1,of_decide_eq_true h2⟩
  | succ j=>simpa using yC6 h3 j i (by simpa using e)
theorem zg0 {X:Cx} {up scope:Scope} {XN N:List Str} {caps:List Nat} {n:Nat} (hu:X.env.scope=up) (hN:X.N=XN) (h:yk6 XN up scope N caps n=true):zG3 X scope N caps n:=by
 subst hu hN
 unfold yk6 at h
 rw [Bool.and_eq_true,Bool.and_eq_true,Bool.and_eq_true,Bool.and_eq_true,Bool.and_eq_true,Bool.and_eq_true,Bool.and_eq_true] at h
 obtain ⟨⟨⟨⟨⟨⟨⟨h1,h2⟩,h3⟩,h4⟩,h5⟩,h6⟩,h7⟩,h8⟩:=h
 rw [List.all_eq_true] at h2 h3 h4 h5 h6
 have rl:(relabel scope X.env).names=zD9 scope X.env.scope:=rfl
 refine ⟨of_decide_eq_true h1,fun x hx e=>?_,fun x hx=>of_decide_eq_true (h3 x hx),fun x hx e=>?_,fun x e=>?_,fun x e=>?_,yC6 h7,of_decide_eq_true h8⟩
 ·have:=h2 x hx
  rw [Bool.or_eq_true] at this
  rcases this with z | z
  ·exact absurd e (of_decide_eq_true z)
  ·exact of_decide_eq_true z
 ·have:=h4 x hx
  rw [Bool.or_eq_true,Bool.or_eq_true] at this
  rcases this with (z | z) | z
  ·exact absurd e (of_decide_eq_true z)
  ·exact .inl (of_decide_eq_true z)
  ·exact .inr (of_decide_eq_true z)
 ·have:=h5 (x,.free) (zo8 e)
  rw [Bool.or_eq_true,Bool.or_eq_true] at this
  rcases this with (z | z) | z
  ·exact absurd rfl (of_decide_eq_true z)
  ·exact ⟨_,by rw [rl];exact of_decide_eq_true z,.inl rfl⟩
  ·exact ⟨_,by rw [rl];exact of_decide_eq_true z,.inr rfl⟩
 ·rw [rl] at e
  rcases e with e | e
  ·have:=h6 (x,.cell) (zo8 e)
   rw [Bool.or_eq_true,Bool.and_eq_true] at this
   rcases this with z | z
   ·exact absurd rfl (of_decide_eq_true z.1)
   ·exact of_decide_eq_true z
  ·have:=h6 (x,.free) (zo8 e)
   rw [Bool.or_eq_true,Bool.and_eq_true] at this
   rcases this with z | z
   ·exact absurd rfl (of_decide_eq_true z.2)
   ·exact of_decide_eq_true z
section
variable {X:Cx} {C:zb9}
theorem sv (i:Nat) {x:Str} {pos:Pos} (hN:X.N[i]?=some x) (hv:Vis X.env.scope x) (hd:(x==("__debug__" : Str))=false)
  (hcd:(x==("__classdict__" : Str))=false):SE X C (.Name x pos) (.var i):=yS8 hN hv hd hcd
theorem pts0:PTs X [] (tTs X.K C none):=yK2
theorem pts1 {c:Expr} {ic:E} (h:ST X C c ic):PTs X [c] (tTs X.K C (some ic)):=yJ4 h
noncomputable def zv7:List (List Nat)→List Tok→List Value
 | c::cs,t::ts=>.str ⟨c.toArray⟩ t::zv7 cs ts
 | _,_=>[]
theorem xd7 {x:Str} {a:Addr} {pos:Pos} {its:Array Value} {n:Nat} {sl:Array (Option Value)} {oc:Value} {cs:List (List Nat)} {ts:List Tok} (hg:Gl X x) (hm:X.mg x=some (.ref a)) (hk:X.K.lookup a=some ⟨oc,none,.seq its n,sl⟩) (hoc:oc=.type "tuple")
  (hi:its.toList=zv7 cs ts) (hts:ts.length=cs.length) (hl:cs.length≤1000) (hcs:cs.all (fun c=>decide (c.length≤1000))=true) (hd:(x==("__debug__" : Str))=false:=by decide):SE X C (.Name x pos) (.const (.tup (cs.map .str))) :=
 yR4 (v:=.ref a) (yL7 hg hm rfl hd) fun H lv=>by
  subst hoc
  have vs:∀ {cs:List (List Nat)} {ts:List Tok},ts.length=cs.length→zh0 (cs.map fun c=>V.str ⟨c.toArray⟩) (zv7 cs ts):=by
   intro cs
   induction cs with
   | nil=>intro ts h;cases ts;exact .nil;cases h
   | cons c cs ih =>
    intro ts h
    cases ts with
    | nil=>cases h
    | cons t ts=>exact .cons ⟨t,rfl⟩ (ih (by simpa using h))
  have rp:∀ {cs:List (List Nat)},cs.all (fun c=>decide (c.length≤1000))=true→RPs X.K H lv (cs.map .str) (cs.map fun c=>V.str ⟨c.toArray⟩):=by
   intro cs
   induction cs with
   | nil=>intro _;rw [List.map_nil,List.map_nil,RPs]
   | cons c cs ih =>
    intro h
    rw [List.all_cons,Bool.and_eq_true] at h
    rw [List.map_cons,List.map_cons,RPs]
    exact ⟨_,_,rfl,by rw [RP];exact ⟨rfl,Nat.le_trans (of_decide_eq_true h.1) (by decide)⟩,ih h.2⟩
  have sl':∀ {cs:List (List Nat)} {ts:List Tok},ts.length=cs.length→(zv7 cs ts).length=cs.length:=by
   intro cs
   induction cs with
   | nil=>intro ts h;cases ts;rfl;cases h
   | cons c cs ih =>
    intro ts h
    cases ts with
    | nil=>cases h
    | cons t ts=>show (zv7 cs ts).length+1=cs.length+1;rw [ih (by simpa using h)]
  rw [RP]
  refine ⟨a,_,rfl,.inr ⟨_,its,n,hk,rfl,rfl,rfl,?_,by rw [hi];exact vs hts⟩,rp hcs⟩
  rw [← Array.length_toList,hi,sl' hts]
  exact Nat.le_trans hl (by decide)
end
end OR
namespace OR
open PySem L2 PySem.SeqAt PyProof.Rows
noncomputable def al0:Al:=⟨[],fun _=>False⟩
theorem yl2 {K:Frag} {H:Hp}:RSt K al0 [] H:=by
 have no:∀ {n:Nat} {o:zA5},zb5 [] n=some o→False:=fun {n o} h=>by unfold zb5 at h;simp at h
 refine ⟨rfl,fun n xs h=>(no h).elim,fun n kvs h=>(no h).elim,fun n m a o o' _ _ _ h _=>(no h).elim,fun a h=>?_,fun n a o _ h _=>(no h).elim,fun a h=>h.elim⟩
 rcases h with h | ⟨n,o,_,h,_⟩
 ·exact h.elim
 ·exact (no h).elim
theorem zI5 {K:Frag} {H:Hp} {lv:Addr→Prop}:∀ ns:List Int,RPs K H lv (ns.map .int) (ns.map .int)
 | []=>by rw [List.map_nil,List.map_nil,RPs]
 | i::r=>by rw [List.map_cons,List.map_cons,RPs];exact ⟨_,_,rfl,by rw [RP],zI5 r⟩
theorem ys8 {K:Frag} {H:Hp} {a:Addr} {ns:List Int} (h:SqL K H a (ns.map V.int)):Paired (RV K al0 [] H) [.p (.lst (ns.map .int))] [.ref a]:=by
 refine .cons ?_ .nil
 show RP K H (zf1 al0 []) (.lst (ns.map .int)) (.ref a)
 rw [RP]
 refine ⟨a,_,rfl,h,fun l=>?_,zI5 ns⟩
 rcases l with l | ⟨n,o,_,l,_⟩
 ·exact l
 ·unfold zb5 at l;simp at l
section
variable {K:Frag} {α:Al} {st:za6} {H:Hp} {n:Nat} {a:Addr} {o:zA5}
theorem zQ8 {b:Addr} (h:zf1 α (st.set n .dead) b):zf1 α st b:=by
 rcases h with h | ⟨m,x,e1,e2,e3⟩
 ·exact .inl h
 ·rcases zd0 e2 with ⟨_,rfl⟩ | ⟨_,e2⟩
  ·exact absurd rfl e3
  ·exact .inr ⟨m,x,e1,e2,e3⟩
theorem zN3:Ext K α st H α (st.set n .dead) H:=⟨fun _ _ h=>h,fun _ _ h=>h,fun b vs h nl=>⟨h,fun l=>nl (zQ8 l)⟩,rfl,fun _ _=>rfl⟩
theorem yz0 (r:RSt K α st H):RSt K α (st.set n .dead) H:=by
 have ex:Ext K α st H α (st.set n .dead) H:=zN3
 refine ⟨by rw [List.length_set];exact r.len,fun m xs h=>?_,fun m kvs h=>?_,fun m m' b x x' hne e1 e2 e3 e4=>?_,fun b h=>r.nk b (zQ8 h),fun m b x e1 e2 e3=>?_,r.rsv⟩
 ·rcases zd0 h with ⟨_,e⟩ | ⟨_,h⟩
  ·cases e
  ·obtain ⟨b,vs,e1,e2,e3⟩:=r.lst m xs h
   exact ⟨b,vs,e1,e2,ex.rps e3⟩
 ·rcases zd0 h with ⟨_,e⟩ | ⟨_,h⟩
  ·cases e
  ·obtain ⟨b,vs,e1,e2,e3⟩:=r.dct m kvs h
   exact ⟨b,vs,e1,e2,RKV.mono ex.tup ex.lst _ _ e3⟩
 ·rcases zd0 e3 with ⟨_,e⟩ | ⟨_,e3⟩
  ·exact .inl e
  ·rcases zd0 e4 with ⟨_,e⟩ | ⟨_,e4⟩
   ·exact .inr e
   ·exact r.inj m m' b x x' hne e1 e2 e3 e4
 ·rcases zd0 e2 with ⟨_,e⟩ | ⟨_,e2⟩
  ·exact absurd e e3
  ·exact r.dis m b x e1 e2 e3
theorem yu3 (r:RSt K α st H) (ha:α.adr[n]?=some a) (ho:zb5 st n=some o) (hd:o≠.dead):¬ zf1 α (st.set n .dead) a:=by
 rintro (h | ⟨m,x,e1,e2,e3⟩)
 ·exact r.dis n a o ha ho hd h
 ·rcases zd0 e2 with ⟨_,rfl⟩ | ⟨hm,e2⟩
  ·exact e3 rfl
  ·rcases r.inj m n a x o hm e1 ha e2 ho with z | z
   ·exact e3 z
   ·exact hd z
end
section
variable {X:Cx} {C:zb9} {W:Nat} {e a b:Expr} {ie ia ib:E} {pos:Pos}
theorem yk7 (h:SE X C e ie):SE X C e (.freeze ie) :=
 PE.mono h fun σ H Q h_=>by
  obtain ⟨env,α,st,v,st',at',e,q⟩:=h_
  rw [yo3] at e
  obtain ⟨u,st1,e1,e⟩:=Res.bind_inv e
  refine ⟨env,α,st,u,st1,at',e1,fun w H1 α1 x1 r1 v1=>?_⟩
  cases u with
  | p x=>cases e;exact q w H1 α1 x1 r1 v1
  | ref n =>
   have e:(match zb5 st1 n with | some (.lst xs)=>Res.ok (Val.p (.lst xs)) (st1.set n .dead) | _=>.stuck)=.ok v st':=e
   cases hob:zb5 st1 n with
   | none=>rw [hob] at e;cases e
   | some ob =>
    rw [hob] at e
    cases ob with
    | dct _=>cases e
    | dead=>cases e
    | lst xs =>
     cases e
     obtain ⟨b,rfl,ha⟩:=v1
     obtain ⟨b',vs,g1,g2,g3⟩:=r1.lst n xs hob
     rw [ha] at g1;cases g1
     have nd:zA5.lst xs≠.dead:=by intro z;cases z
     refine q _ H1 α1 (x1.trans zN3) (yz0 r1) ?_
     show RP X.K H1 (zf1 α1 (st1.set n .dead)) (.lst xs) (.ref b)
     rw [RP]
     exact ⟨b,vs,rfl,SqL.of g2,yu3 r1 ha hob nd,(zN3 (K:=X.K) (H:=H1)).rps g3⟩
noncomputable def tF (K:Frag) (C:zb9) (ir:E):TE:=fun σ H Q=>∃ env α st xs st',At K α st H env σ∧evalE C ir env st=.ok (.p (.lst xs)) st' ∧
 ∀ p H' α' ws,Ext K α st H α' st' H'→RSt K α' st' H'→H' p=none→K.lookup p=none→RPs K H' (zf1 α' st') xs ws→Q (.ref p) (upd H' p (.lst ws))
noncomputable abbrev SF (X:Cx) (C:zb9) (e:Expr) (ir:E):Prop:=PE X e (tF X.K C ir)
theorem yG7 (h:SF X C e ie):SE X C e (.thaw ie) :=
 PE.mono h fun σ H Q h_=>by
  obtain ⟨env,α,st,v,st',at',e,q⟩:=h_
  rw [yF4] at e
  obtain ⟨x,st1,e1,e⟩:=Res.bindP_inv e
  cases x with
  | lst xs =>
   cases e
   refine ⟨env,α,st,xs,st1,at',e1,fun p H1 α1 ws x1 r1 hp hK rp=>?_⟩
   have ex:=zW4 (o:=.lst xs) (h':=.lst ws) r1 hp hK
   have rs:=yl0 (o:=.lst xs) (h':=.lst ws) r1 hp hK (fun ys z=>by cases z;exact ⟨ws,rfl,rp⟩) (fun kvs z=>by cases z)
   exact q _ _ _ (x1.trans ex) rs ⟨p,rfl,yD1 r1⟩
  | _=>cases e
theorem yN8 {es:List Expr} {irs:List E} (h:SA X C es irs) (hl:es.length≤1000) (hi:irs.length=es.length):SF X C (.List es pos) (.list false irs) :=
 PE.mono (yK6 h) fun σ H Q h_=>by
  obtain ⟨env,α,st,xs,st',at',e,q⟩:=h_
  rw [yt4] at e
  obtain ⟨ys,st1,e1,e⟩:=Res.bind_inv e
  simp only [mk,Bool.false_eq_true,if_false] at e
  cases e
  refine ⟨env,α,st,_,st',at',zG9 e1,fun ws H1 α1 x1 r1 p=>?_⟩
  have rp:=ye8 p
  refine ⟨?_,fun a ha hK=>q a H1 α1 ws x1 r1 ha hK rp⟩
  rw [← rp.length,zD7 e1,hi]
  exact Nat.le_trans hl (by decide)
end
open PySem L2 PySem.SeqAt PyProof.Rows
section
variable {X:Cx} {C:zb9} {o e:Expr} {es:List Expr} {io:E} {irs:List E} {apos cpos:Pos} {name:Str} {id:String} {m:Mt}
def MtL (X:Cx) (id:String) (g:List PV→List PV→Option (PV×List PV)):Prop :=
 MtR X id fun x ws H Q=>∃ α st a l vs xs z l',RSt X.K α st H∧x=.ref a∧H a=some (.lst vs)∧RPs X.K H (zf1 α st) l vs∧Paired (RW X.K α st H) xs ws∧g xs l=some (z,l') ∧
  ∀ w vs',RP X.K H (zf1 α st) z w→RPs X.K H (zf1 α st) l' vs'→Q w (upd H a (.lst vs'))
def MtK (X:Cx) (id:String) (g:List PV→List PV→Option (PV×List PV)):Prop :=
 MtR X id fun x ws H Q=>∃ α st a l vs xs z l',RSt X.K α st H∧x=.ref a∧H a=some (.lst vs)∧RPs X.K H (zf1 α st) l vs∧RPs X.K H (zf1 α st) xs ws∧g xs l=some (z,l') ∧
  ∀ w vs',RP X.K H (zf1 α st) z w→RPs X.K H (zf1 α st) l' vs'→Q w (upd H a (.lst vs'))
theorem yc3 {K:Frag} {α:Al} {st:za6} {H:Hp}:∀ {vs:List Val} {ws:List V} {xs:List PV},Paired (RV K α st H) vs ws→yr4 vs=some xs→RPs K H (zf1 α st) xs ws
 | [],ws,xs,h,e=>by cases h;cases e;rw [RPs]
 | .ref _::_,ws,xs,h,e=>by cases e
 | .p x::r,ws,xs,h,e=>by
  cases h with
  | cons q t =>
   unfold yr4 at e
   cases e2:yr4 r with
   | none=>rw [e2] at e;cases e
   | some ys =>
    rw [e2] at e
    cases e
    rw [RPs]
    exact ⟨_,_,rfl,q,yc3 t e2⟩
theorem zR4 {ov:Val} {st st':za6} {g:List PV→Option (PV×List PV)} {v:Val} (h:zB6 ov st g=.ok v st'):∃ n l z l',ov=.ref n∧zb5 st n=some (.lst l)∧g l=some (z,l')∧v=.p z∧st'=st.set n (.lst l'):=by
 cases ov with
 | p _=>cases h
 | ref n =>
  have h:(match ys7 st n with | some l=>(match g l with | some (x,l')=>Res.ok (Val.p x) (st.set n (.lst l')) | none=>.stuck) | none=>.stuck)=.ok v st':=h
  unfold ys7 at h
  cases ho:zb5 st n with
  | none=>rw [ho] at h;cases h
  | some ob =>
   rw [ho] at h
   cases ob with
   | dct _=>cases h
   | dead=>cases h
   | lst l =>
    simp only at h
    cases hg:g l with
    | none=>rw [hg] at h;cases h
    | some p =>
     obtain ⟨z,l'⟩:=p
     rw [hg] at h
     cases h
     exact ⟨n,l,z,l',rfl,ho,hg,rfl,rfl⟩
theorem yt0 {K:Frag} {α:Al} {st:za6} {H:Hp} {n:Nat} {a:Addr} {l l':List PV} {vs':List V} (r:RSt K α st H) (ha:α.adr[n]?=some a) (ho:zb5 st n=some (.lst l)) (h:RPs K H (zf1 α st) l' vs') :
  Ext K α st H α (st.set n (.lst l')) (upd H a (.lst vs'))∧RSt K α (st.set n (.lst l')) (upd H a (.lst vs')):=by
 have nd:∀ l,zA5.lst l≠.dead:=fun l z=>by cases z
 exact ⟨zP3 r ha ho (nd _) (nd _),zW1 r ha ho (nd _) (nd _) (fun xs z=>by cases z;exact ⟨_,rfl,h⟩) fun kvs z=>by cases z⟩
theorem yC4 {K:Frag} {α:Al} {st:za6} {H:Hp} {n:Nat} {a:Addr} {x:PV} (r:RSt K α st H) (ha:α.adr[n]?=some a) (hv:view st (.ref n)=some x):tyV K "list" (.ref a) H:=by
 have w0:=(show RV K α st H (.ref n) (.ref a) from ⟨a,rfl,ha⟩).view r hv
 have hx:∃ xs,x=.lst xs:=by
  have h:(match zb5 st n with | some (.lst xs)=>some (PV.lst xs) | _=>none)=some x:=hv
  split at h
  ·exact ⟨_,(Option.some.inj h).symm⟩
  ·cases h
 obtain ⟨ys,rfl⟩:=hx
 obtain ⟨b,us,eb,h1,_⟩:=w0.lst
 cases eb
 exact .inl ⟨rfl,us,h1⟩
theorem yX7 {g:List PV→List PV→Option (PV×List PV)} (slot:Slot "list" name id) (hty:typeOf (.builtin id)=pure (.type "method_descriptor")) (hm:MtL X id g) (ho:SE X C o io) (ha:SA X C (e::es) irs)
  (hg:∀ v vs st,zz0 m v vs st=(match zn7 st vs with | some xs=>zB6 v st (g xs) | none=>.stuck))
  (hbase:attributeBase o name X.env (eval o X.env)=eval o X.env)
  (hfew:((backTo cpos (starEach (e::es) X.env)).all (fun x=>!x.1)&&(backToKw cpos (keywordEach [] X.env)).all (fun x=>x.1.isSome)
   && decide ((e::es).length+([]:List Keyword).length+(if ([]:List Keyword).isEmpty then 0 else 1)<30))=true)
  (hline:(apos.endLine==cpos.line)=true) (hs:starEach (e::es) X.env=(false,eval e X.env)::starEach es X.env) (hplain:(backTo cpos (starEach es X.env)).any (·.1)=false) :
  SE X C (.Call (.Attribute o name apos) (e::es) [] cpos) (.meth m io irs) :=
 PE.mono (yN1 PySem.F.plainAttrs_list slot hty hm ho ha hbase hfew hline hs hplain) fun σ H Q h_=>by
  obtain ⟨env,α,st,v,st',at',e,q⟩:=h_
  rw [yr0] at e
  obtain ⟨ov,st1,e1,e⟩:=Res.bind_inv e
  obtain ⟨_,st0,e0,e⟩:=Res.bind_inv e
  obtain ⟨⟨x0,hv0⟩,hst⟩:=yc1 e0
  rw [hst] at e
  obtain ⟨vs,st2,e2,e⟩:=Res.bind_inv e
  rw [hg] at e
  cases hv:zn7 st2 vs with
  | none=>rw [hv] at e;cases e
  | some xs =>
   rw [hv] at e
   obtain ⟨n,l,z,l',rfl,hob,hgz,rfl,rfl⟩:=zR4 e
   refine ⟨env,α,st,_,st1,at',e1,fun w H1 α1 x1 r1 v1=>?_⟩
   obtain ⟨a,rfl,ha⟩:=v1
   refine ⟨yC4 r1 ha hv0,env,α1,st1,vs,st2,at'.next x1 r1,e2,fun ws H2 α2 x2 r2 pr=>?_⟩
   ·have ha2:=x2.pre n a ha
    obtain ⟨a',us,g1,g2,g3⟩:=r2.lst n l hob
    rw [ha2] at g1;cases g1
    refine ⟨α2,st2,a,l,us,xs,z,l',r2,rfl,g2,g3,zP7 r2 pr hv,hgz,fun w us' rw' rps'=>?_⟩
    obtain ⟨c1,c2⟩:=yt0 r2 ha2 hob rps'
    exact q w _ α2 (x1.trans (x2.trans c1)) c2 (c1.rp rw')
theorem yW0 {g:List PV→List PV→Option (PV×List PV)} (slot:Slot "list" name id) (hty:typeOf (.builtin id)=pure (.type "method_descriptor")) (hm:MtK X id g) (ho:SE X C o io) (ha:SA X C (e::es) irs)
  (hg:∀ v vs st,zz0 m v vs st=(match yr4 vs with | some xs=>zB6 v st (g xs) | none=>.stuck))
  (hbase:attributeBase o name X.env (eval o X.env)=eval o X.env)
  (hfew:((backTo cpos (starEach (e::es) X.env)).all (fun x=>!x.1)&&(backToKw cpos (keywordEach [] X.env)).all (fun x=>x.1.isSome)
   && decide ((e::es).length+([]:List Keyword).length+(if ([]:List Keyword).isEmpty then 0 else 1)<30))=true)
  (hline:(apos.endLine==cpos.line)=true) (hs:starEach (e::es) X.env=(false,eval e X.env)::starEach es X.env) (hplain:(backTo cpos (starEach es X.env)).any (·.1)=false) :
  SE X C (.Call (.Attribute o name apos) (e::es) [] cpos) (.meth m io irs) :=
 PE.mono (yN1 PySem.F.plainAttrs_list slot hty hm ho ha hbase hfew hline hs hplain) fun σ H Q h_=>by
  obtain ⟨env,α,st,v,st',at',e,q⟩:=h_
  rw [yr0] at e
  obtain ⟨ov,st1,e1,e⟩:=Res.bind_inv e
  obtain ⟨_,st0,e0,e⟩:=Res.bind_inv e
  obtain ⟨⟨x0,hv0⟩,hst⟩:=yc1 e0
  rw [hst] at e
  obtain ⟨vs,st2,e2,e⟩:=Res.bind_inv e
  rw [hg] at e
  cases hv:yr4 vs with
  | none=>rw [hv] at e;cases e
  | some xs =>
   rw [hv] at e
   obtain ⟨n,l,z,l',rfl,hob,hgz,rfl,rfl⟩:=zR4 e
   refine ⟨env,α,st,_,st1,at',e1,fun w H1 α1 x1 r1 v1=>?_⟩
   obtain ⟨a,rfl,ha⟩:=v1
   refine ⟨yC4 r1 ha hv0,env,α1,st1,vs,st2,at'.next x1 r1,e2,fun ws H2 α2 x2 r2 pr=>?_⟩
   have ha2:=x2.pre n a ha
   obtain ⟨a',us,g1,g2,g3⟩:=r2.lst n l hob
   rw [ha2] at g1;cases g1
   refine ⟨α2,st2,a,l,us,xs,z,l',r2,rfl,g2,g3,yc3 pr hv,hgz,fun w us' rw' rps'=>?_⟩
   obtain ⟨c1,c2⟩:=yt0 r2 ha2 hob rps'
   exact q w _ α2 (x1.trans (x2.trans c1)) c2 (c1.rp rw')
theorem zz9:MtK X "list.append" zt9:=by
 rintro pins s σ H x ws v us Q I rx rs ⟨α,st,a,l,vs,xs,z,l',r,e,hH,hl,hx,hg,q⟩
 subst e
 unfold zt9 at hg
 match xs,hx,hg with
 | [],_,hg=>cases hg
 | _::_::_,_,hg=>cases hg
 | [y],hx,hg =>
  have hg:(if l.length<SZ then some (PV.non,l++[y]) else none)=some (z,l'):=hg
  by_cases hc:l.length<SZ
  ·rw [if_pos hc] at hg
   cases hg
   rw [RPs] at hx
   obtain ⟨w,wr,rfl,h1,h2⟩:=hx
   rw [RPs] at h2
   subst h2
   rw [zQ7] at hc
   exact zH3 pins s σ H _ _ v us Q I rx rs ⟨a,vs,w,rfl,rfl,hH,by rw [← hl.length];exact hc,q _ _ (by rw [RP]) (hl.snoc h1)⟩
  ·rw [if_neg hc] at hg;cases hg
theorem zz2 (v:Val) (vs:List Val) (st:za6):zz0 .append v vs st=(match yr4 vs with | some xs=>zB6 v st (zt9 xs) | none=>.stuck):=by
 show (match yr4 vs with | some xs=>zL2 .append v xs st | none=>.stuck)=_
 cases yr4 vs <;> rfl
end
open PySem L2 PySem.SeqAt PyProof.Rows
section
variable {X:Cx} {C:zb9} {W:Nat} {es:List Expr} {is:List Nat} {pos:Pos}
theorem PGs.mono {t t':TGs} (h:PGs X es t) (m:∀ vs σ H Q,t' vs σ H Q→t vs σ H Q):PGs X es t':=fun pins s σ H vs us Q I r q=>h pins s σ H vs us Q I r (m _ _ _ _ q)
noncomputable def yC7 (is:List Nat) (xs:List PV) (env:Env):Env:=(is.zip xs).foldl (fun e p=>e.set p.1 (some (.p p.2))) env
noncomputable def tGs (K:Frag) (is:List Nat):TGs:=fun vs σ H Q=>∃ env α st xs,At K α st H env σ∧RPs K H (zf1 α st) xs vs∧xs.length=is.length∧∀ σ',At K α st H (yC7 is xs env) σ'→Q σ' H
theorem yH6:PGs X [] (tGs X.K []):=PGs.mono yH9 fun vs σ H Q h_=>by
 obtain ⟨env,α,st,xs,at',rp,hl,q⟩:=h_
 have e:xs=[]:=List.eq_nil_of_length_eq_zero (by simpa using hl)
 subst e
 rw [RPs] at rp
 exact ⟨rp,q σ at'⟩
theorem yw2 {i:Nat} {x:Str} (hN:X.N.Nodup) (hi:X.N[i]?=some x) (hx:Loc X.env.scope x) (h:PGs X es (tGs X.K is)) (hf:X.fn x=true∨X.env.scope.names.lookup x=some .local)
  (hs:(assignEach (.Name x pos::es) X.env).map (·.2)=assign (.Name x pos) X.env::(assignEach es X.env).map (·.2)):PGs X (.Name x pos::es) (tGs X.K (i::is)) :=
 PGs.mono (yx9 (ys4 hN hi hx hf) h hs) fun vs σ H Q h_=>by
  obtain ⟨env,α,st,xs,at',rp,hl,q⟩:=h_
  cases xs with
  | nil=>cases hl
  | cons y ys =>
   rw [RPs] at rp
   obtain ⟨v,vr,rfl,h1,h2⟩:=rp
   exact ⟨v,vr,rfl,env.set i (some (.p y)),α,st,ys,at'.set h1,h2,by simpa using hl,q⟩
theorem yV2 {k:Nat} (hc:X.calm=true) (h:PGs X es (tGs X.K is)) (hn:(assignEach es X.env).length=is.length) (hst:(assignEach es X.env).findIdx? (·.1)=none):SG X (.Tuple es k pos) (.tup is) :=
 PG.mono (yT1 hc h hn hst) fun v σ H Q h_=>by
  obtain ⟨env,α,st,x,env',at',rp,e,q⟩:=h_
  cases x with
  | tup xs =>
   have e:(if is.length=xs.length then some (yC7 is xs env) else none)=some env':=e
   by_cases hl:is.length=xs.length
   ·rw [if_pos hl] at e
    cases e
    rw [RP] at rp
    obtain ⟨a,vs,rfl,h1,h2⟩:=rp
    exact ⟨a,vs,rfl,h1,by rw [← h2.length,hl],env,α,st,xs,at',h2,hl.symm,q⟩
   ·rw [if_neg hl] at e;cases e
  | _=>cases e
end
open PySem L2 PySem.SeqAt PyProof.Rows
section
variable {X:Cx} {pins:List (Addr×Obj)} {σ:L2.St} {H:Hp} {s:Shared} {lv:Addr→Prop}
theorem yj0 {α:Al} {st:za6} (I:Inv X pins σ H s) {n:Nat}
  (ih:0<n→∀ (px py:PV) (x y:V) (v u:Value) (A:Around),RW X.K α st H px x→RW X.K α st H py y→RelV x v→RelV y u→(dep px≤n - 1∨dep py≤n - 1)→A.units+(n - 1)+1<cLine→RcAt A s v u (pyEq px py)∧EqAt A s v u (pyEq px py))
  (px py:PV) (x y:V) (v u:Value) (A:Around) (hx:RW X.K α st H px x) (hy:RW X.K α st H py y) (rx:RelV x v) (ry:RelV y u) (hd:dep px≤n∨dep py≤n) (hu:A.units+n+1<cLine) :
  RcNeAt A s v u (!pyEq px py):=by
 have hu0:A.units<cLine:=by lia
 have seqT:∀ {xs:List PV} {w:V} {uu:Value},RW X.K α st H (.tup xs) w→RelV w uu→∃ a vs its,w=.ref a∧uu=.ref a∧RPs X.K H (zf1 α st) xs vs∧zh0 vs its∧s.heap.IsTuple a its.toArray:=fun h r=>by
  obtain ⟨a,vs,rfl,h1,h2⟩:=h.tup
  cases r
  obtain ⟨its,r1,p,_⟩:=I.tuple h1
  exact ⟨a,vs,its,rfl,rfl,h2,r1,p⟩
 have seqL:∀ {xs:List PV} {w:V} {uu:Value},RW X.K α st H (.lst xs) w→RelV w uu→∃ a vs its,w=.ref a∧uu=.ref a∧RPs X.K H (zf1 α st) xs vs∧zh0 vs its∧s.heap.IsList a its.toArray:=fun h r=>by
  obtain ⟨a,vs,rfl,h1,h2⟩:=h.lst
  cases r
  obtain ⟨its,r1,p,_⟩:=I.list h1
  exact ⟨a,vs,its,rfl,rfl,h2,r1,p.isList⟩
 cases px with
 | non =>
  cases py with
  | non =>
   obtain rfl:x=V.non:=hx.non
   obtain rfl:v=Value.none:=rx
   obtain rfl:y=V.non:=hy.non
   obtain rfl:u=Value.none:=ry
   have e:pyEq .non .non=true:=by simp [pyEq]
   rw [e]
   exact .none_none
  | bl e2 =>
   obtain rfl:x=V.non:=hx.non
   obtain rfl:v=Value.none:=rx
   obtain rfl:=hy.bl
   obtain rfl:u=Value.bool _:=ry
   have e:pyEq .non (.bl e2)=false:=by simp [pyEq]
   rw [e]
   exact .none_bool _
  | int e2 =>
   obtain rfl:x=V.non:=hx.non
   obtain rfl:v=Value.none:=rx
   obtain rfl:=hy.int
   obtain ⟨t',rfl⟩:=ry
   have e:pyEq .non (.int e2)=false:=by simp [pyEq]
   rw [e]
   exact .none_int _ _
  | str e2 =>
   obtain rfl:x=V.non:=hx.non
   obtain rfl:v=Value.none:=rx
   obtain rfl:=hy.str.1
   obtain ⟨t',rfl⟩:=ry
   have e:pyEq .non (.str e2)=false:=by simp [pyEq]
   rw [e]
   exact .none_str _ _
  | tup e2 =>
   obtain rfl:x=V.non:=hx.non
   obtain rfl:v=Value.none:=rx
   obtain ⟨b,ws,its2,rfl,rfl,q2,r2,p2⟩:=seqT hy ry
   have e:pyEq .non (.tup e2)=false:=by simp [pyEq]
   rw [e]
   exact .none_tuple p2 hu0
  | lst e2 =>
   obtain rfl:x=V.non:=hx.non
   obtain rfl:v=Value.none:=rx
   obtain ⟨b,ws,its2,rfl,rfl,q2,r2,p2⟩:=seqL hy ry
   have e:pyEq .non (.lst e2)=false:=by simp [pyEq]
   rw [e]
   exact .none_list p2 hu0
 | bl e1 =>
  cases py with
  | non =>
   obtain rfl:=hx.bl
   obtain rfl:v=Value.bool _:=rx
   obtain rfl:y=V.non:=hy.non
   obtain rfl:u=Value.none:=ry
   have e:pyEq (.bl e1) .non=false:=by simp [pyEq]
   rw [e]
   exact .bool_none _
  | bl e2 =>
   obtain rfl:=hx.bl
   obtain rfl:v=Value.bool _:=rx
   obtain rfl:=hy.bl
   obtain rfl:u=Value.bool _:=ry
   rw [pyEq]
   exact .bool_bool _ _
  | int e2 =>
   obtain rfl:=hx.bl
   obtain rfl:v=Value.bool _:=rx
   obtain rfl:=hy.int
   obtain ⟨t',rfl⟩:=ry
   rw [pyEq]
   exact .bool_int _ _ _
  | str e2 =>
   obtain rfl:=hx.bl
   obtain rfl:v=Value.bool _:=rx
   obtain rfl:=hy.str.1
   obtain ⟨t',rfl⟩:=ry
   have e:pyEq (.bl e1) (.str e2)=false:=by simp [pyEq]
   rw [e]
   exact .bool_str _ _ _
  | tup e2 =>
   obtain rfl:=hx.bl
   obtain rfl:v=Value.bool _:=rx
   obtain ⟨b,ws,its2,rfl,rfl,q2,r2,p2⟩:=seqT hy ry
   have e:pyEq (.bl e1) (.tup e2)=false:=by simp [pyEq]
   rw [e]
   exact .bool_tuple _ p2 hu0
  | lst e2 =>
   obtain rfl:=hx.bl
   obtain rfl:v=Value.bool _:=rx
   obtain ⟨b,ws,its2,rfl,rfl,q2,r2,p2⟩:=seqL hy ry
   have e:pyEq (.bl e1) (.lst e2)=false:=by simp [pyEq]
   rw [e]
   exact .bool_list _ p2 hu0
 | int e1 =>
  cases py with
  | non =>
   obtain rfl:=hx.int
   obtain ⟨t,rfl⟩:=rx
   obtain rfl:y=V.non:=hy.non
   obtain rfl:u=Value.none:=ry
   have e:pyEq (.int e1) .non=false:=by simp [pyEq]
   rw [e]
   exact .int_none _ _
  | bl e2 =>
   obtain rfl:=hx.int
   obtain ⟨t,rfl⟩:=rx
   obtain rfl:=hy.bl
   obtain rfl:u=Value.bool _:=ry
   rw [pyEq]
   exact .int_bool _ _ _
  | int e2 =>
   obtain rfl:=hx.int
   obtain ⟨t,rfl⟩:=rx
   obtain rfl:=hy.int
   obtain ⟨t',rfl⟩:=ry
   rw [pyEq]
   exact .int_int _ _ _ _
  | str e2 =>
   obtain rfl:=hx.int
   obtain ⟨t,rfl⟩:=rx
   obtain rfl:=hy.str.1
   obtain ⟨t',rfl⟩:=ry
   have e:pyEq (.int e1) (.str e2)=false:=by simp [pyEq]
   rw [e]
   exact .int_str _ _ _ _
  | tup e2 =>
   obtain rfl:=hx.int
   obtain ⟨t,rfl⟩:=rx
   obtain ⟨b,ws,its2,rfl,rfl,q2,r2,p2⟩:=seqT hy ry
   have e:pyEq (.int e1) (.tup e2)=false:=by simp [pyEq]
   rw [e]
   exact .int_tuple _ _ p2 hu0
  | lst e2 =>
   obtain rfl:=hx.int
   obtain ⟨t,rfl⟩:=rx
   obtain ⟨b,ws,its2,rfl,rfl,q2,r2,p2⟩:=seqL hy ry
   have e:pyEq (.int e1) (.lst e2)=false:=by simp [pyEq]
   rw [e]
   exact .int_list _ _ p2 hu0
 | str e1 =>
  cases py with
  | non =>
   obtain rfl:=hx.str.1
   obtain ⟨t,rfl⟩:=rx
   obtain rfl:y=V.non:=hy.non
   obtain rfl:u=Value.none:=ry
   have e:pyEq (.str e1) .non=false:=by simp [pyEq]
   rw [e]
   exact .str_none _ _
  | bl e2 =>
   obtain rfl:=hx.str.1
   obtain ⟨t,rfl⟩:=rx
   obtain rfl:=hy.bl
   obtain rfl:u=Value.bool _:=ry
   have e:pyEq (.str e1) (.bl e2)=false:=by simp [pyEq]
   rw [e]
   exact .str_bool _ _ _
  | int e2 =>
   obtain rfl:=hx.str.1
   obtain ⟨t,rfl⟩:=rx
   obtain rfl:=hy.int
   obtain ⟨t',rfl⟩:=ry
   have e:pyEq (.str e1) (.int e2)=false:=by simp [pyEq]
   rw [e]
   exact .str_int _ _ _ _
  | str e2 =>
   obtain rfl:=hx.str.1
   obtain ⟨t,rfl⟩:=rx
   obtain rfl:=hy.str.1
   obtain ⟨t',rfl⟩:=ry
   have e:pyEq (.str e1) (.str e2)=((⟨e1.toArray⟩:Str)==⟨e2.toArray⟩):=by rw [yC9,pyEq]
   rw [e]
   exact .str_str _ _ _ _
  | tup e2 =>
   obtain rfl:=hx.str.1
   obtain ⟨t,rfl⟩:=rx
   obtain ⟨b,ws,its2,rfl,rfl,q2,r2,p2⟩:=seqT hy ry
   have e:pyEq (.str e1) (.tup e2)=false:=by simp [pyEq]
   rw [e]
   exact .str_tuple _ _ p2 hu0
  | lst e2 =>
   obtain rfl:=hx.str.1
   obtain ⟨t,rfl⟩:=rx
   obtain ⟨b,ws,its2,rfl,rfl,q2,r2,p2⟩:=seqL hy ry
   have e:pyEq (.str e1) (.lst e2)=false:=by simp [pyEq]
   rw [e]
   exact .str_list _ _ p2 hu0
 | tup e1 =>
  cases py with
  | non =>
   obtain ⟨a,vs,its,rfl,rfl,q1,r1,p1⟩:=seqT hx rx
   obtain rfl:y=V.non:=hy.non
   obtain rfl:u=Value.none:=ry
   have e:pyEq (.tup e1) .non=false:=by simp [pyEq]
   rw [e]
   exact .tuple_none p1 hu0
  | bl e2 =>
   obtain ⟨a,vs,its,rfl,rfl,q1,r1,p1⟩:=seqT hx rx
   obtain rfl:=hy.bl
   obtain rfl:u=Value.bool _:=ry
   have e:pyEq (.tup e1) (.bl e2)=false:=by simp [pyEq]
   rw [e]
   exact .tuple_bool _ p1 hu0
  | int e2 =>
   obtain ⟨a,vs,its,rfl,rfl,q1,r1,p1⟩:=seqT hx rx
   obtain rfl:=hy.int
   obtain ⟨t',rfl⟩:=ry
   have e:pyEq (.tup e1) (.int e2)=false:=by simp [pyEq]
   rw [e]
   exact .tuple_int _ _ p1 hu0
  | str e2 =>
   obtain ⟨a,vs,its,rfl,rfl,q1,r1,p1⟩:=seqT hx rx
   obtain rfl:=hy.str.1
   obtain ⟨t',rfl⟩:=ry
   have e:pyEq (.tup e1) (.str e2)=false:=by simp [pyEq]
   rw [e]
   exact .tuple_str _ _ p1 hu0
  | tup e2 =>
   obtain ⟨a,vs,its,rfl,rfl,q1,r1,p1⟩:=seqT hx rx
   obtain ⟨b,ws,its2,rfl,rfl,q2,r2,p2⟩:=seqT hy ry
   have hn:0<n:=by simp at hd;lia
   have hd':deps e1≤n - 1∨deps e2≤n - 1:=by simp at hd;lia
   have it:=zs1 (n:=n - 1) (A:=A) (ih hn) q1 q2 r1 r2 hd' (by lia)
   have l1:=q1.length
   have l2:=q2.length
   have m1:=r1.length
   have m2:=r2.length
   have rc:RcNeAt A s (.ref a) (.ref b) (!pyEq (.tup e1) (.tup e2)):=by
    have z:=RcNeAt.tuples p1 p2 hu0 it
    rw [pyEq,zo4]
    simp only [List.size_toArray] at z
    rw [l1,l2,m1,m2]
    exact z
   exact rc
  | lst e2 =>
   obtain ⟨a,vs,its,rfl,rfl,q1,r1,p1⟩:=seqT hx rx
   obtain ⟨b,ws,its2,rfl,rfl,q2,r2,p2⟩:=seqL hy ry
   have e:pyEq (.tup e1) (.lst e2)=false:=by simp [pyEq]
   rw [e]
   exact .tuple_list p1 p2 hu0
 | lst e1 =>
  cases py with
  | non =>
   obtain ⟨a,vs,its,rfl,rfl,q1,r1,p1⟩:=seqL hx rx
   obtain rfl:y=V.non:=hy.non
   obtain rfl:u=Value.none:=ry
   have e:pyEq (.lst e1) .non=false:=by simp [pyEq]
   rw [e]
   exact .list_none p1 hu0
  | bl e2 =>
   obtain ⟨a,vs,its,rfl,rfl,q1,r1,p1⟩:=seqL hx rx
   obtain rfl:=hy.bl
   obtain rfl:u=Value.bool _:=ry
   have e:pyEq (.lst e1) (.bl e2)=false:=by simp [pyEq]
   rw [e]
   exact .list_bool _ p1 hu0
  | int e2 =>
   obtain ⟨a,vs,its,rfl,rfl,q1,r1,p1⟩:=seqL hx rx
   obtain rfl:=hy.int
   obtain ⟨t',rfl⟩:=ry
   have e:pyEq (.lst e1) (.int e2)=false:=by simp [pyEq]
   rw [e]
   exact .list_int _ _ p1 hu0
  | str e2 =>
   obtain ⟨a,vs,its,rfl,rfl,q1,r1,p1⟩:=seqL hx rx
   obtain rfl:=hy.str.1
   obtain ⟨t',rfl⟩:=ry
   have e:pyEq (.lst e1) (.str e2)=false:=by simp [pyEq]
   rw [e]
   exact .list_str _ _ p1 hu0
  | tup e2 =>
   obtain ⟨a,vs,its,rfl,rfl,q1,r1,p1⟩:=seqL hx rx
   obtain ⟨b,ws,its2,rfl,rfl,q2,r2,p2⟩:=seqT hy ry
   have e:pyEq (.lst e1) (.tup e2)=false:=by simp [pyEq]
   rw [e]
   exact .list_tuple p1 p2 hu0
  | lst e2 =>
   obtain ⟨a,vs,its,rfl,rfl,q1,r1,p1⟩:=seqL hx rx
   obtain ⟨b,ws,its2,rfl,rfl,q2,r2,p2⟩:=seqL hy ry
   have hn:0<n:=by simp at hd;lia
   have hd':deps e1≤n - 1∨deps e2≤n - 1:=by simp at hd;lia
   have it:=zs1 (n:=n - 1) (A:=A) (ih hn) q1 q2 r1 r2 hd' (by lia)
   have l1:=q1.length
   have l2:=q2.length
   have m1:=r1.length
   have m2:=r2.length
   have rc:RcNeAt A s (.ref a) (.ref b) (!pyEq (.lst e1) (.lst e2)):=by
    by_cases hz:its.length=its2.length
    ·have z:=RcNeAt.lists p1 p2 (by simpa using hz) hu0 it
     rw [pyEq,zo4]
     simp only [List.size_toArray] at z
     rw [l1,l2,m1,m2,← hz,Nat.min_self,beq_self_eq_true,Bool.and_true]
     exact z
    ·have z:=RcNeAt.lists_lengths p1 p2 (by simpa using hz) hu0
     have e:pyEq (.lst e1) (.lst e2)=false:=by
      rw [pyEq,zo4,Bool.and_eq_false_iff]
      exact .inr (by rw [beq_eq_false_iff_ne];lia)
     rw [e]
     exact z
   exact rc
theorem yZ2 (hu:X.A.units+200<cLine):Op2 X (compareOp .NotEq) (fun x y=>if zq3 (dep x) (dep y) then some (.bl (!pyEq x y)) else none):=by
 rintro pins s σ H x y v u Q I rx ry ⟨α,st,px,py,z,r,hx,hy,hz,q⟩
 simp only [Option.ite_none_right_eq_some,Option.some.injEq] at hz
 obtain ⟨hd,hz⟩:=hz
 have hd':dep px≤100∨dep py≤100:=by simpa [zq3] using hd
 exact (yj0 I (n:=100) (fun _=>yL4 I 99) px py x y v u X.A hx hy rx ry hd' (by lia)) _ _ _ _ ⟨.bl _,H,I,rfl,q _ _ (zl3.refl H) (by rw [← hz,RP])⟩
end
open PySem L2 PySem.SeqAt PyProof.Rows
section
variable {X:Cx}
end
open PySem L2 PySem.SeqAt PyProof.Rows
section
variable {X:Cx} {C:zb9} {e:Expr} {ie:E} {pos p:Pos}
theorem zs4:zH4 X (.type "tuple") (f1 yD0):=by
 rintro pins s σ H ws us Q I rs ⟨α,st,xs,z,r,pr,hz,q⟩
 cases pr with
 | nil=>cases hz
 | cons h t =>
  cases t with
  | cons _ _=>cases hz
  | nil =>
   rename_i x w
   cases x with
   | tup l =>
    obtain ⟨a,vs,rfl,h1,h2⟩:=h.tup
    cases hz
    exact zy9 pins s σ H _ us Q I rs ⟨a,vs,rfl,.inr ⟨h1,q _ _ (zl3.refl H) (by rw [RP];exact ⟨a,vs,rfl,h1,h2⟩)⟩⟩
   | lst l =>
    obtain ⟨a,vs,rfl,h1,h2⟩:=h.lst
    cases hz
    refine zy9 pins s σ H _ us Q I rs ⟨a,vs,rfl,.inl ⟨h1,fun b hb=>?_⟩⟩
    have s1:zl3 H (upd H b (.tup vs)):=ze8 hb _
    exact q _ _ s1 (by rw [RP];exact ⟨b,vs,rfl,SqT.of zd3,(Ext.of_same r s1).rps h2⟩)
   | _=>cases hz
theorem yR1:zH4 X (.type "list") (f1 yQ4):=by
 rintro pins s σ H ws us Q I rs ⟨α,st,xs,z,r,pr,hz,q⟩
 cases pr with
 | nil=>cases hz
 | cons h t =>
  cases t with
  | cons _ _=>cases hz
  | nil =>
   rename_i x w
   have go:∀ {l:List PV} {a:Addr} {vs:List V},z=.lst l→w=.ref a→(SqL X.K H a vs∨SqT X.K H a vs)→RPs X.K H (zf1 α st) l vs→wpAny (model X.prog X.w) X.A (call (.type "list") us) (EP X pins σ Q) X.xe s:=fun {l a vs} ez ew h1 h2=>by
    subst ew ez
    refine zT3 pins s σ H _ us Q I rs ⟨a,vs,rfl,h1,fun b hb=>?_⟩
    have s1:zl3 H (upd H b (.lst vs)):=ze8 hb _
    exact q _ _ s1 (by rw [RP];exact ⟨b,vs,rfl,SqL.of zd3,r.notlive hb,(Ext.of_same r s1).rps h2⟩)
   cases x with
   | tup l =>
    obtain ⟨a,vs,ew,h1,h2⟩:=h.tup
    exact go (Option.some.inj hz).symm ew (.inr h1) h2
   | lst l =>
    obtain ⟨a,vs,ew,h1,h2⟩:=h.lst
    exact go (Option.some.inj hz).symm ew (.inl h1) h2
   | _=>cases hz
end
open PySem L2 PySem.SeqAt PyProof.Rows
section
variable {X:Cx} {C:zb9} {W:Nat} {pos:Pos}
end
open PySem L2 PySem.SeqAt PyProof.Rows
open PySem.Builtin PySem.Builtin.Str
mutual
noncomputable def toD:PV→PyData
 | .non=>.none
 | .bl b=>.bool b
 | .int i=>.int i
 | .str cs=>.str ⟨cs.toArray⟩
 | .tup xs=>.tuple (toDs xs)
 | .lst xs=>.list (toDs xs)
noncomputable def toDs:List PV→List PyData
 | []=>[]
 | x::r=>toD x::toDs r
end
mutual
theorem toD_depth:∀ x:PV,(toD x).depth=dep x
 | .non=>by rw [toD,PyData.depth,yG1]
 | .bl b=>by rw [toD,PyData.depth,yQ3]
 | .int i=>by rw [toD,PyData.depth,yI8]
 | .str cs=>by rw [toD,PyData.depth,yL3]
 | .tup xs=>by rw [toD,PyData.depth,ya2,toDs_depth xs]
 | .lst xs=>by rw [toD,PyData.depth,zX4,toDs_depth xs]
theorem toDs_depth:∀ xs:List PV,PyData.depthAll (toDs xs)=deps xs
 | []=>by rw [toDs,PyData.depthAll,yB6]
 | x::r=>by rw [toDs,PyData.depthAll,yp7,toD_depth x,toDs_depth r]
end
mutual
theorem toD_noDict:∀ x:PV,(toD x).hasDict=false
 | .non=>by rw [toD,PyData.hasDict]
 | .bl b=>by rw [toD,PyData.hasDict]
 | .int i=>by rw [toD,PyData.hasDict]
 | .str cs=>by rw [toD,PyData.hasDict]
 | .tup xs=>by rw [toD,PyData.hasDict,toDs_noDict xs]
 | .lst xs=>by rw [toD,PyData.hasDict,toDs_noDict xs]
theorem toDs_noDict:∀ xs:List PV,PyData.hasDictAll (toDs xs)=false
 | []=>by rw [toDs,PyData.hasDictAll]
 | x::r=>by rw [toDs,PyData.hasDictAll,toD_noDict x,toDs_noDict r];rfl
end
section
variable {X:Cx} {pins:List (Addr×Obj)} {σ:L2.St} {H:Hp} {s:Shared} {lv:Addr→Prop}
mutual
theorem reads_of (I:Inv X pins σ H s):∀ (x:PV) (v:V) (u:Value),RP X.K H lv x v→RelV v u→∃ as,Reads s.heap u (toD x) as
 | .non,v,u,h,r=>by
  rw [RP] at h;subst h;obtain rfl:u=Value.none:=r;rw [toD];exact ⟨[],.none⟩
 | .bl b,v,u,h,r=>by
  rw [RP] at h;subst h;obtain rfl:u=Value.bool b:=r;rw [toD];exact ⟨[],.bool b⟩
 | .int i,v,u,h,r=>by
  rw [RP] at h;subst h;obtain ⟨t,rfl⟩:=r;rw [toD];exact ⟨[],.int i t⟩
 | .str cs,v,u,h,r=>by
  rw [RP] at h;obtain ⟨h,_⟩:=h;subst h;obtain ⟨t,rfl⟩:=r;rw [toD];exact ⟨[],.str _ t⟩
 | .tup xs,v,u,h,r=>by
  rw [RP] at h
  obtain ⟨a,vs,rfl,h1,h2⟩:=h
  obtain rfl:u=Value.ref a:=r
  obtain ⟨its,r1,⟨o,e1,e2,n,e3⟩,_⟩:=I.tuple h1
  obtain ⟨as,ra⟩:=readsAll_of I xs vs its h2 r1
  rw [toD]
  exact ⟨as,.tuple e1 e2 e3 (by simpa using ra)⟩
 | .lst xs,v,u,h,r=>by
  rw [RP] at h
  obtain ⟨a,vs,rfl,h1,_,h2⟩:=h
  obtain rfl:u=Value.ref a:=r
  obtain ⟨its,r1,⟨o,n,e1,e2,_,e3⟩,_⟩:=I.list h1
  obtain ⟨as,ra⟩:=readsAll_of I xs vs its h2 r1
  rw [toD]
  exact ⟨a::as,.list e1 e2 e3 (by simpa using ra)⟩
theorem readsAll_of (I:Inv X pins σ H s):∀ (xs:List PV) (vs:List V) (us:List Value),RPs X.K H lv xs vs→zh0 vs us→∃ as,ReadsAll s.heap us (toDs xs) as
 | [],vs,us,h,r=>by
  rw [RPs] at h;subst h;cases r;rw [toDs];exact ⟨[],.nil⟩
 | x::xr,vs,us,h,r=>by
  rw [RPs] at h
  obtain ⟨v,vr,rfl,h1,h2⟩:=h
  cases r with
  | cons r1 r2 =>
   obtain ⟨as,a1⟩:=reads_of I x _ _ h1 r1
   obtain ⟨bs,b1⟩:=readsAll_of I xr _ _ h2 r2
   rw [toDs]
   exact ⟨as++bs,.cons a1 b1⟩
end
end
theorem yV0:∀ c:Nat,c<127→okC c=true→reprChar 39 c=[c]:=by decide +kernel
theorem yu5 {cs:List Nat} (h:cs.all okC=true):reprQuote (⟨cs.toArray⟩:Str)=39:=by
 unfold reprQuote
 have h39:¬ 39∈cs:=fun z=>by
  have:=List.all_eq_true.mp h 39 z
  revert this;decide
 have e:(⟨cs.toArray⟩:Str).cps.contains 39=false:=by simpa using h39
 simp [h39]
theorem yf3:∀ {cs:List Nat} {acc:List Nat},cs.all okC=true→cs.foldl (fun out c=>out++(reprChar 39 c).toArray) acc.toArray=(acc++cs).toArray
 | [],acc,_=>by simp
 | c::r,acc,h=>by
  rw [List.all_cons,Bool.and_eq_true] at h
  have hc:c<127:=by have:=h.1;unfold okC at this;have:=of_decide_eq_true this;lia
  rw [List.foldl_cons,yV0 c hc h.1,List.append_toArray,yf3 h.2]
  simp
theorem yx1 {cs:List Nat} (h:cs.all okC=true):reprText (⟨cs.toArray⟩:Str)=txt ([39]++cs++[39]):=by
 unfold reprText
 rw [yu5 h]
 show (⟨Array.push (cs.toArray.foldl (fun (out:Array Nat) (c:Nat)=>out++(reprChar 39 c).toArray) #[39]) 39⟩:Str)=_
 rw [← Array.foldl_toList]
 have e:=yf3 (acc:=[39]) h
 have e2:(cs.toArray.toList.foldl (fun out c=>out++(reprChar 39 c).toArray) #[39])=([39]++cs).toArray:=e
 rw [e2]
 simp [txt]
theorem yH3 (i:Int):(Str.ofString (toString i))=txt (zI6 i):=by
 rw [Str.ofString_eq_toList]
 rfl
noncomputable def cm:List Nat:=[44,32]
theorem zU7:∀ ts:List (List Nat),Str.join (Str.ofString ", ") (ts.map txt)=txt (zl4 ts)
 | []=>rfl
 | [x]=>rfl
 | x::y::r=>by
  have ih:=zU7 (y::r)
  have ec:Str.ofString ", " = txt cm:=by decide +kernel
  show txt x++Str.ofString ", " ++ Str.join (Str.ofString ", ") ((y::r).map txt)=txt (x++[44,32]++zl4 (y::r))
  rw [ih,ec]
  show (⟨(x.toArray++cm.toArray)++(zl4 (y::r)).toArray⟩:Str)=⟨(x++[44,32]++zl4 (y::r)).toArray⟩
  simp [cm]
theorem zq5 (a b:List Nat):txt a++txt b=txt (a++b):=by
 show (⟨a.toArray++b.toArray⟩:Str)=⟨(a++b).toArray⟩
 simp
theorem yL2 (ts:List (List Nat)):tupleText (ts.map txt)=txt (zK7 ts):=by
 unfold tupleText zK7
 have e1:(Str.ofString "(")=txt [40]:=by decide +kernel
 have e2:(Str.ofString ",)")=txt [44,41]:=by decide +kernel
 have e3:(Str.ofString ")")=txt [41]:=by decide +kernel
 rw [zU7,e1,List.length_map]
 by_cases h:ts.length=1
 ·rw [if_pos (by simp [h]),if_pos h]
  show txt [40]++txt (zl4 ts)++Str.ofString ",)" = _
  rw [e2,zq5,zq5]
 ·rw [if_neg (by simp [h]),if_neg h]
  show txt [40]++txt (zl4 ts)++Str.ofString ")" = _
  rw [e3,zq5,zq5]
theorem yd0:∀ (ts:List (List Nat)) (k:Nat) (acc:List Nat),0<k→textFrom k (txt acc) (ts.map txt)=txt (acc++(ts.map fun t=>cm++t).flatten)
 | [],k,acc,_=>by simp [textFrom]
 | t::r,k,acc,hk=>by
  have ec:Str.ofString ", " = txt cm:=by decide +kernel
  rw [List.map_cons,textFrom,if_pos hk]
  show textFrom (k+1) (txt acc++Str.ofString ", " ++ txt t) (r.map txt)=_
  rw [ec,zq5,zq5,yd0 r (k+1) _ (by lia)]
  simp
theorem zL6:∀ (t:List Nat) (r:List (List Nat)),zl4 (t::r)=t++(r.map fun t=>cm++t).flatten
 | t,[]=>by simp [zl4]
 | t,u::r=>by
  show t++[44,32]++zl4 (u::r)=_
  rw [zL6 u r]
  simp [cm]
theorem yI5 (ts:List (List Nat)):listText (ts.map txt)=txt (zL4 ts):=by
 unfold listText zL4
 have e1:(Str.ofString "[")=txt [91]:=by decide +kernel
 have e2:(Str.ofString "]")=txt [93]:=by decide +kernel
 have e3:(Str.ofString "")=txt []:=by decide +kernel
 cases ts with
 | nil =>
  show Str.ofString "[" ++ Str.ofString "]" = _
  rw [e1,e2,zq5]
  rfl
 | cons t r =>
  show textFrom 1 (Str.ofString "[" ++ Str.ofString "" ++ txt t) (r.map txt)++Str.ofString "]" = _
  rw [e1,e2,e3,zq5,zq5,yd0 r 1 _ (by lia),zq5,zL6]
  simp
mutual
theorem shown_txt:∀ (x:PV) (t:List Nat),shownP x=some t→(toD x).showable=true∧(toD x).shown=txt t
 | .non,t,h=>by rw [shownP] at h;cases h;rw [toD,PyData.showable,PyData.shown];exact ⟨rfl,by decide +kernel⟩
 | .bl true,t,h=>by rw [shownP] at h;cases h;rw [toD,PyData.showable,PyData.shown];exact ⟨rfl,by decide +kernel⟩
 | .bl false,t,h=>by rw [shownP] at h;cases h;rw [toD,PyData.showable,PyData.shown];exact ⟨rfl,by decide +kernel⟩
 | .int i,t,h=>by
  rw [shownP] at h
  split at h
  ·rename_i hc
   cases h
   rw [toD,PyData.showable,PyData.shown]
   exact ⟨decide_eq_true hc,yH3 i⟩
  ·cases h
 | .str cs,t,h=>by
  rw [shownP] at h
  split at h
  ·rename_i hc
   cases h
   rw [toD,PyData.showable,PyData.shown]
   exact ⟨rfl,yx1 hc⟩
  ·cases h
 | .tup xs,t,h=>by
  rw [shownP] at h
  split at h
  ·rename_i ts hts
   cases h
   obtain ⟨h1,h2⟩:=showns_txt xs ts hts
   rw [toD,PyData.showable,PyData.shown,h2]
   exact ⟨h1,yL2 ts⟩
  ·cases h
 | .lst xs,t,h=>by
  rw [shownP] at h
  split at h
  ·rename_i ts hts
   cases h
   obtain ⟨h1,h2⟩:=showns_txt xs ts hts
   rw [toD,PyData.showable,PyData.shown,h2]
   exact ⟨h1,yI5 ts⟩
  ·cases h
theorem showns_txt:∀ (xs:List PV) (ts:List (List Nat)),shownPs xs=some ts→PyData.showableAll (toDs xs)=true∧PyData.shownAll (toDs xs)=ts.map txt
 | [],ts,h=>by rw [shownPs] at h;cases h;rw [toDs,PyData.showableAll,PyData.shownAll];exact ⟨rfl,rfl⟩
 | x::r,ts,h=>by
  rw [shownPs] at h
  split at h
  ·rename_i t ht
   split at h
   ·rename_i tr htr
    cases h
    obtain ⟨h1,h2⟩:=shown_txt x t ht
    obtain ⟨h3,h4⟩:=showns_txt r tr htr
    rw [toDs,PyData.showableAll,PyData.shownAll,h1,h2,h3,h4]
    exact ⟨rfl,rfl⟩
   ·cases h
  ·cases h
end
section
variable {X:Cx}
theorem yO4 (hu:X.A.units+200<cLine) (hg:X.A.guards=some []):zH4 X (.builtin "repr") (f1 fun v=>(zF1 v).map .str):=by
 rintro pins s σ H ws us Q I rs ⟨α,st,xs,z,r,pr,hz,q⟩
 cases pr with
 | nil=>cases hz
 | cons h t =>
  cases t with
  | cons _ _=>cases hz
  | nil =>
   rename_i x w
   have hz:(zF1 x).map PV.str=some z:=hz
   obtain ⟨tx,hr,rfl⟩:=Option.map_eq_some_iff.mp hz
   have hs:shownP x=some tx∧dep x≤100∧tx.length≤sizeLine:=by
    have dr:∀ {y},zs6 y=some tx→shownP y=some tx∧dep y≤100∧tx.length≤sizeLine:=fun {y} h=>by
     unfold zs6 at h
     split at h
     ·rename_i t ht
      split at h
      ·rename_i hc
       cases h
       rw [zQ7] at hc
       exact ⟨ht,hc⟩
      ·cases h
     ·cases h
    cases x with
    | bl b =>
     cases b
     ·have h:some ye5=some tx:=hr
      cases h
      exact ⟨by rw [shownP],by simp,by decide⟩
     ·have h:some yy8=some tx:=hr
      cases h
      exact ⟨by rw [shownP],by simp,by decide⟩
    | non=>exact dr hr
    | int i=>exact dr hr
    | str i=>exact dr hr
    | tup i=>exact dr hr
    | lst i=>exact dr hr
   obtain ⟨h1,h2,h3⟩:=hs
   obtain ⟨k1,k2⟩:=shown_txt x tx h1
   cases rs with
   | cons ra rt =>
    cases rt
    have fin:∀ {s':Shared} {t':Tok},Inv X pins σ H s'→EP X pins σ Q (.str (txt tx) t') s':=fun I'=>⟨.str _,H,I',⟨_,rfl⟩,q _ _ (zl3.refl H) (by rw [RP];exact ⟨rfl,h3⟩)⟩
    have hsz:((toD x).shown).length≤sizeLine:=by rw [k2];show (Str.length ⟨tx.toArray⟩)≤sizeLine;rw [zl8];exact h3
    have deep:∀ {a:Addr} {as:List Addr},Reads s.heap (.ref a) (toD x) as→wpAny (model X.prog X.w) X.A (call (.builtin "repr") [.ref a]) (EP X pins σ Q) X.xe s:=fun {a as} rd =>
     repr_of_reads' rd k1 (PyData.noDict_hsm (toD_noDict x)) hg (by rw [toD_depth];lia) (fun _ _ e=>e) (fun h' u tk hk=>by rw [k2];exact fin (I.kept hk)) hsz
    cases x with
    | non =>
     have e:=h.non;subst e
     obtain rfl:=(show _=Value.none from ra)
     have e:(Str.ofString "None")=txt tx:=by rw [shownP] at h1;cases h1;decide +kernel
     refine PySem.P.repr_of_none ?_
     show EP X pins σ Q (.str (Str.ofString "None") _) _
     rw [e];exact fin (I.tok _)
    | bl b =>
     have e:=h.bl;subst e
     obtain rfl:=(show _=Value.bool b from ra)
     refine PySem.P.repr_of_bool ?_
     have e:(if b=true then Str.ofString "True" else Str.ofString "False")=txt tx:=by cases b <;> (rw [shownP] at h1;cases h1;decide +kernel)
     show EP X pins σ Q (.str (if b=true then Str.ofString "True" else Str.ofString "False") _) _
     rw [e];exact fin (I.tok _)
    | int i =>
     have e:=h.int;subst e
     obtain ⟨t1,rfl⟩:=(show ∃ t,_=Value.int i t from ra)
     have hi:i.natAbs.log2<1920:=by rw [toD,PyData.showable] at k1;exact of_decide_eq_true k1
     refine PySem.P.repr_of_int hi ?_
     rw [toD,PyData.shown] at k2
     show EP X pins σ Q (.str (Str.ofString (toString i)) _) _
     rw [show Str.ofString (toString i)=txt tx from k2]
     exact fin (I.tok _)
    | str cs =>
     have e:=h.str.1;subst e
     obtain ⟨t1,rfl⟩:=(show ∃ t,_=Value.str _ t from ra)
     rw [toD,PyData.shown] at k2 hsz
     refine PySem.P.repr_of_str ?_ hsz
     rw [k2];exact fin (I.tok _)
    | tup l =>
     obtain ⟨a,vs,rfl,g1,g2⟩:=h.tup
     obtain rfl:=(show _=Value.ref a from ra)
     obtain ⟨as,rd⟩:=reads_of (lv:=zf1 α st) I (.tup l) (.ref a) (.ref a) (by rw [RP];exact ⟨a,vs,rfl,g1,g2⟩) rfl
     exact deep rd
    | lst l =>
     obtain ⟨a,vs,rfl,g1,g2⟩:=h.lst
     obtain rfl:=(show _=Value.ref a from ra)
     obtain ⟨its,r1,⟨o,n,e1,e2,_,e3⟩,_⟩:=I.list g1
     obtain ⟨as,rd⟩:=readsAll_of (lv:=zf1 α st) I l vs its g2 r1
     have:Reads s.heap (.ref a) (toD (.lst l)) (a::as):=by rw [toD];exact .list e1 e2 e3 (by simpa using rd)
     exact deep this
end
open PySem L2 PySem.SeqAt PyProof.Rows
section
variable {X:Cx} {elt iter tg:Expr} {ifs:List Expr} {scope:Scope} {pos:Pos} {N:List Str} {caps:List Nat} {n:Nat} {wi:TI} {g:TG} {tc:TT} {te:TE}
theorem yH8 {i:Nat} {y:Str} {py spos:Pos} (hN:X.N.Nodup) (hyi:X.N[i]?=some y) (hyl:X.env.scope.names.lookup y=some .local) (hcalm:X.calm=true) (ok:zG3 X scope N caps n) (hi:PI X tg iter wi)
  (hg:∀ cl s₀ H₀ ex pn,PG (zf2 X scope N cl s₀ H₀ ex pn) tg g) (ht:∀ cl s₀ H₀ ex pn,PTs (zf2 X scope N cl s₀ H₀ ex pn) ifs tc) (he:∀ cl s₀ H₀ ex pn,PE (zf2 X scope N cl s₀ H₀ ex pn) elt te)
  (hs:∀ x,foldedSetIterable iter X.env x=pure x) (hsw:swapsWith (.ListComp elt [⟨tg,iter,ifs,0⟩] scope pos) (some (.Name y py)) spos.line X.env=pure true):PS X (.Assign [.Name y py] (.ListComp elt [⟨tg,iter,ifs,0⟩] scope pos) spos) (xb4 (yu9 X.K caps n wi g tc te) (yK8 i)):=by
 intro pins s σ H Dn I h
 have hcells:∀ x∈scope.names,x.2=.free→∃ c,X.env.cells.lookup x.1=some c:=fun x hx hf=>I.ok.has x.1 (ok.free x hx hf)
 obtain ⟨cl,hclo,hcl,hclf⟩:=zM1 hcells
 rw [exec_Assign_Name_used _ _ _ _ hsw]
 refine wpAny_bind (wpAny_standAt (wpAny_bind ?_))
 show wpAny _ X.A (do let _ ← comprehension (.ListComp elt [⟨tg,iter,ifs,0⟩] scope pos) scope X.env _ (newList []) false (eval iter X.env) (some (assign (.Name y py) X.env))) _ _ s
 refine wpAny_bind (thn (wpAny_comprehension_free (use:=some (assign (.Name y py) X.env)) (Q:=fun _ s'=>∃ σ' H',Inv X pins σ' H' s'∧Dn.nx σ' H') rfl hs hclo ok.kind ok.names (thn (hi pins s σ H _ I h) fun xv s1 h1=>thn h1 fun itv s2 h2=>?_)) fun _ s' hq=>wpAny_pure (wpAny_pure hq))
 obtain ⟨it,fp,tn,J,H2,rfl,I2,T,st2,f2,q2⟩:=h2
 have hKD:X.K.lookup s2.heap.objs.size=none:=by
  cases e:X.K.lookup s2.heap.objs.size with
  | none=>rfl
  | some o=>exact absurd (Heap.lt_size (I2.kIn _ _ e)) (Nat.lt_irrefl _)
 obtain ⟨W,⟨m0,w0⟩,turn⟩:=q2 s2.heap.objs.size I2.fresh hKD
 refine wpAny_newObj_type ?_
 have I3:Inv X pins σ (upd H2 s2.heap.objs.size (.lst [])) { s2 with heap:=s2.heap.push { cls:=.type "list", data:=.seq ([]:List Value).toArray },toks:=s2.toks }:=I2.lnew .nil (by decide)
 generalize hD:s2.heap.objs.size=D at *
 generalize hs3:({ s2 with heap:=s2.heap.push { cls:=.type "list", data:=.seq ([]:List Value).toArray },toks:=s2.toks }:Shared)=s3 at I3
 refine wpAny_newFunctionEnv ok.cell (by intro y hy;simp at hy) (fun h1 hns hsb=>?_) ok.kind
 have e3:s3.heap.objs.size=D+1:=by rw [← hs3,← hD];exact Heap.size_push _ _
 have hkept:∀ b o,s3.heap.get? b=some o→h1.get? b=some o:=fun b o e=>(hsb.2 b (Nat.ne_of_lt (Heap.lt_size e))).trans (Heap.get?_push_of_some _ e)
 have h23:∀ b o,s2.heap.get? b=some o→s3.heap.get? b=some o:=fun b o e=>by rw [← hs3];exact Heap.get?_push_of_some _ e
 have hfD:∀ b∈fp,b<D:=fun b hb=>by
  obtain ⟨o,e,_⟩:=T.obj 0 _ st2 b hb
  rw [← hD];exact Heap.lt_size e
 have f3:∀ b∈fp,zV7 X pins (upd H2 D (.lst [])) b:=fun b hb=>⟨by rw [zd7 (Nat.ne_of_lt (hfD b hb))];exact (f2 b hb).1,(f2 b hb).2⟩
 have kX:∀ x,X.env.kindOf x=X.env.scope.names.lookup x:=fun x=>rfl
 have I4:Inv (zf2 X scope N cl s3 (upd H2 D (.lst [])) fp (X.pn++pins)) [] (capsσ caps n σ) (upd H2 D (.lst [])) { s3 with heap:=h1 }:=by
  refine yd7 I3 ok.kind hcl (fun x hx=>hclf (x,.free) (ok.back x hx) rfl) f3 (fun b hb=>by rw [e3];exact Nat.lt_succ_of_lt (hfD b hb)) (by simpa using hns) hkept ?_ (fun j x v e1 e2=>?_)
  ·unfold capsσ
   rw [List.length_append,List.length_map,List.length_replicate,ok.len]
  ·have hj:j<caps.length:=by
    by_cases hj:j<caps.length
    ·exact hj
    ·unfold capsσ at e2
     rw [List.getElem?_append_right (by simpa using hj),List.getElem?_replicate] at e2
     split at e2 <;> cases e2
   unfold capsσ at e2
   rw [List.getElem?_append_left (by simpa using hj),List.getElem?_map,List.getElem?_eq_getElem hj] at e2
   obtain ⟨x',a1,a2,a3⟩:=ok.cap j caps[j] (List.getElem?_eq_getElem hj)
   rw [e1] at a1;cases a1
   have fr:=ok.free (x,.free) (zo8 a3) rfl
   obtain ⟨k,b1,b2⟩:=ok.look x a3
   refine ⟨caps[j],a2,?_,fr,?_,?_⟩
   ·have e2:(σ[caps[j]]?).join=some v:=Option.some.inj e2
    cases hσ:σ[caps[j]]? with
    | none=>rw [hσ] at e2;cases e2
    | some o=>rw [hσ] at e2;exact congrArg some e2
   ·rcases b2 with rfl | rfl
    ·exact .inl b1
    ·exact .inr b1
   ·rcases fr with z | z
    ·exact .inr (.inl z)
    ·exact .inr (.inr z)
 have fpc:∀ {H':Hp},(∀ b∈fp,H' b=none)→∀ b∈fp,zV7 (zf2 X scope N cl s3 (upd H2 D (.lst [])) fp (X.pn++pins)) [] H' b:=fun {H'} hn b hb=>by
  obtain ⟨f0,f1,f2',f3',f4,f5⟩:=f3 b hb
  refine ⟨hn b hb,Nat.ne_of_lt (show b<s3.heap.objs.size by rw [e3];exact Nat.lt_succ_of_lt (hfD b hb)),fun z=>?_,.inl hb,fun x c e=>f4 x c (hcl x c e),fun p hp=>f5 p (by have hp:p∈(X.pn++pins)++[]:=hp;rwa [List.append_nil] at hp)⟩
  rcases List.mem_cons.mp (I3.stkSub _ z) with e | e
  ·exact f1 e
  ·exact f2' e
 have st4:tn 0 h1:=T.keep 0 _ _ st2 fun b _ o e=>hkept b o (h23 b o e)
 have loop:∀ s4:Shared,s4={ s3 with heap:=h1 }→codeAny (model X.prog X.w) X.A (.compLoop (.ListComp elt [⟨tg,iter,ifs,0⟩] scope pos) 0 (.ref it) (.ref D) (compEnvC scope cl s3.heap.objs.size X.env))
   (compPost (model X.prog X.w) X.A X.xe (some (assign (.Name y py) X.env)) (fun _ s'=>∃ σ' H',Inv X pins σ' H' s'∧Dn.nx σ' H') (.ref D) s3.heap.objs.size) s4:=by
  rintro s4 rfl
  refine zR9 (fun m s'=>∃ i σ' H' ys,Inv (zf2 X scope N cl s3 (upd H2 D (.lst [])) fp (X.pn++pins)) [] σ' H' s'∧tn i s'.heap∧(∀ b∈fp,H' b=none)∧W i m σ' H' ys) ?_ m0 ⟨0,_,_,[],I4,st4,fun b hb=>(f3 b hb).1,w0⟩
  rintro m s5 ⟨i,σ5,H5,ys,I5,st5,fr5,w5⟩
  obtain ⟨hDl,tu⟩:=turn i m σ5 H5 ys w5
  rcases tu with ⟨stop,qn⟩ | ⟨go,hz,step⟩
  ·refine thn (T.done (zf2 X scope N cl s3 (upd H2 D (.lst [])) fp (X.pn++pins)) rfl rfl rfl hcalm i [] s5 σ5 H5 (fun _ _=>False) I5 (fpc fr5) st5 stop) fun r s6 h_=>?_
   obtain ⟨hr,I6⟩:=h_
   subst hr
   obtain ⟨mm,hmm,_⟩:=I6.loc
   have IX:Inv X pins σ H5 s6:=zL5 I3 I6 (Heap.SameBut.refl _ _) f3
   refine wpAny_assign_Name (zT7 IX hN hyi (.inl hyl) (v:=.ref D) (u:=.ref D) rfl (fun s7 I7 ⟨a7,hsb7,ha7⟩=>?_) (.inr hyl))
   have hC3:∀ {o:Obj},s3.heap.get? s3.heap.objs.size=some o→False:=fun e=>absurd (Heap.lt_size e) (Nat.lt_irrefl _)
   have locL:X.env.locals<s3.heap.objs.size:=by
    obtain ⟨m3,⟨o3,_,_,e3',_⟩,_⟩:=I3.loc
    exact Heap.lt_size e3'
   have cellL:∀ {x:Str} {c:Addr},X.env.cells.lookup x=some c→c<s3.heap.objs.size:=fun {x c} e=>by
    obtain ⟨v3,o3,e3',_⟩:=I3.cell x c e
    exact Heap.lt_size e3'
   have hne:s3.heap.objs.size≠a7:=by
    rcases ha7 with z | z
    ·rw [z];exact Nat.ne_of_gt locL
    ·exact Nat.ne_of_gt (cellL z)
   have fr7:H5 s3.heap.objs.size=none:=I6.free
   refine ⟨mm,hmm.sameBut hsb7 hne,fun h' hb'=>⟨_,H5,?_,qn⟩⟩
   have st7:∀ b o,b≠s3.heap.objs.size→s7.heap.get? b=some o→h'.get? b=some o:=fun b o hb e=>(hb'.2 b hb).trans e
   refine I7.call' (s':={ s7 with heap:=h' }) (ch:=[s3.heap.objs.size]) rfl ⟨fun b o e n hb hx=>st7 b o (by simpa using hx) e,fun b o e n hb hx=>⟨o.slots,st7 b o (by simpa using hx) e⟩,fun b o e n hx=>n,fun b o e hx=>⟨o,st7 b o (by simpa using hx) e⟩,fun _ _ e=>e,fun _ _ _ e=>e,fun _ ps e=>⟨#[],by rw [Array.append_empty];exact e⟩⟩ (fun b u e=>?_) I7.bare (fun b hb=>?_)
   ·refine (I7.hok b u e).stay (fun c v hc q=>st7 c v ?_ q) (fun _ q=>q) fun _ _ q=>q
    rintro rfl
    rcases hc with z | z
    ·rw [← z,fr7] at e;cases e
    ·rw [fr7] at z;cases z
   ·have eb:b=s3.heap.objs.size:=by simpa using hb
    subst eb
    refine ⟨.inr (Nat.le_trans I3.ok.above (Nat.le_of_lt locL)),Nat.ne_of_gt locL,fun x c e=>Nat.ne_of_lt (cellL e),fun p hp e=>?_⟩
    have hpin:=(I3.pin p hp).1
    rw [e] at hpin
    exact hC3 hpin
  ·refine thn (T.item (zf2 X scope N cl s3 (upd H2 D (.lst [])) fp (X.pn++pins)) rfl rfl rfl hcalm i [] s5 σ5 H5 (fun _ _=>False) I5 (fpc fr5) st5 go) fun r s6 h_=>?_
   obtain ⟨u,hr,h6⟩:=h_
   subst hr
   refine thn h6 fun _ s7 h_=>?_
   obtain ⟨x,H7,I7,r7,y7,st7,fr7⟩:=h_
   have I7':=I7.pinned (fpc fr7) (T.obj _ _ st7)
   refine thn (hg _ _ _ _ _ _ s7 σ5 H7 x u _ I7' r7 (step x H7 y7)) fun _ s8 h_=>?_
   obtain ⟨σ8,H8,I8,q8⟩:=h_
   refine thn (ht _ _ _ _ _ _ s8 σ8 H8 _ I8 q8) fun b s9 h_=>?_
   obtain ⟨H9,I9,q9⟩:=h_
   have pinsK:∀ {σ7:L2.St} {Hx:Hp} {sx:Shared},Inv (zf2 X scope N cl s3 (upd H2 D (.lst [])) fp (X.pn++pins)) ([]++zK9 fp s7.heap) σ7 Hx sx→tn (i+1) sx.heap∧∀ b∈fp,Hx b=none:=fun Ix=>by
    refine ⟨T.keep _ _ _ st7 fun b hb o e=>(Ix.pin (b,o) (List.mem_append_right _ (List.mem_append_right _ (zo0 hb e)))).1,fun b hb=>?_⟩
    obtain ⟨o,e,d⟩:=T.obj _ _ st7 b hb
    exact (Ix.pin (b,o) (List.mem_append_right _ (List.mem_append_right _ (zo0 hb e)))).2.1
   cases b with
   | false =>
    obtain ⟨m',hm,w9⟩:=q9
    exact ⟨m',hm,i+1,σ8,H9,ys,I9.unpinned,(pinsK I9).1,(pinsK I9).2,w9⟩
   | true =>
    refine thn (he _ _ _ _ _ _ s9 σ8 H9 _ I9 q9) fun yv s10 h_=>?_
    obtain ⟨y,H10,I10,r10,hD10,m',hm,w10⟩:=h_
    refine thn (zH3 _ s10 σ8 H10 (.ref D) [y] (.ref D) [yv] (fun v Hx=>v=.non∧Hx=upd H10 D (.lst (ys++[y]))) I10 rfl (.cons r10 .nil) ⟨D,ys,y,rfl,rfl,hD10,hz,rfl,rfl⟩) fun _ s11 h_=>?_
    obtain ⟨_,H11,I11,_,_,e11⟩:=h_
    subst e11
    exact ⟨m',hm,i+1,σ8,_,ys++[y],I11.unpinned,(pinsK I11).1,(pinsK I11).2,w10⟩
 exact codeAny_compStart_list (loop _ rfl) (T.self _ 0 _ _ _ st4 (loop _ rfl))
end
section
variable {X:Cx} {C:zb9} {W:Nat} {elt iter tg:Expr} {ifs:List Expr} {ielt:E} {it:It} {t:Tg} {scope:Scope} {pos:Pos} {N:List Str} {caps:List Nat} {n:Nat}
theorem yK0 {i:Nat} {y:Str} {py spos:Pos} {cond:Option E} (hN:X.N.Nodup) (hyi:X.N[i]?=some y) (hyl:X.env.scope.names.lookup y=some .local) (hcalm:X.calm=true) (ok:zG3 X scope N caps n) (hi:SI X C tg iter it)
  (hg:∀ cl s₀ H₀ ex pn,SG (zf2 X scope N cl s₀ H₀ ex pn) tg t) (ht:∀ cl s₀ H₀ ex pn,PTs (zf2 X scope N cl s₀ H₀ ex pn) ifs (tTs X.K C cond)) (he:∀ cl s₀ H₀ ex pn,SE (zf2 X scope N cl s₀ H₀ ex pn) C elt ielt)
  (hs:∀ x,foldedSetIterable iter X.env x=pure x) (hsw:swapsWith (.ListComp elt [⟨tg,iter,ifs,0⟩] scope pos) (some (.Name y py)) spos.line X.env=pure true) :
  SS X C W (.Assign [.Name y py] (.ListComp elt [⟨tg,iter,ifs,0⟩] scope pos) spos) (.set i (.comp false ielt t it cond caps n)) :=
 PS.mono (yH8 (g:=tG X.K t) (te:=tP X.K C ielt) hN hyi hyl hcalm ok hi hg ht he hs hsw) fun D σ H h_=>by
  obtain ⟨env,α,st,fl,st',at',e,q⟩:=h_
  rw [yq0] at e
  obtain ⟨v,st1,e1,e⟩:=Res.bind_inv e
  cases e
  exact zU9 ⟨env,α,st,v,st',at',e1,fun w H1 α1 x1 r1 v1=>q _ H1 α1 x1 ((at'.next x1 r1).set v1)⟩
end
open PySem L2 PySem.SeqAt PyProof.Rows
section
variable {X:Cx} {C:zb9} {W:Nat} {elt iter tg:Expr} {ifs:List Expr} {ielt:E} {it:It} {t:Tg} {scope:Scope} {pos:Pos} {N:List Str} {caps:List Nat} {n:Nat}
end
open PySem L2 PySem.SeqAt PyProof.Rows
theorem extW (T:String) (hT:T = "list" ∨ T = "tuple") (l:Addr) (is:Array Value) (n:Nat) (b:Addr) (js:Array Value) (m:Nat) (dd:Option Addr) (sl:Array (Option Value))
  (h0:¬(!is.isEmpty&&Builtin.List.listTooLong (is.size+js.size))=true) (h1:is.size≤sizeLine) (h2:is.size+js.size≤sizeLine+1) :
  Meets (Builtin.«list.extend» ⟨[.ref l,.ref b],[]⟩) (fun _ R s=>s.heap.get? l=some { cls:=.type "list", dict:=none,data:=.seq is n,slots:=#[] } ∧
   s.heap.get? b=some { cls:=.type T,dict:=dd,data:=.seq js m,slots:=sl } ∧
   R (.ok (.ret Value.none)) { s with heap:=s.heap.update l (Obj.mapSeq fun x=>x++js),toks:=s.toks }):=by
 have hz':(is++js).size≤sizeLine+1:=by rw [Array.size_append];exact h2
 rcases hT with rfl | rfl
 ·exact .of_wp fun prog w A R s0 hh=>by
   obtain ⟨hp,gg,dw,tk,oo⟩:=s0
   obtain ⟨k1,k2,k3⟩:=hh
   have g1:=AutoSeq1.idx_int
   have g2:=AutoSeq1.sub_tuple_tuple
   have g3:=AutoSeq1.sub_list_list
   have g4:=AutoSeq1.sub_tuple_list
   have g5:=AutoSeq1.sub_list_tuple
   wp_walk using (wpAny_updateSeq k1 rfl (hz:=h1) (_hz':=hz')),AutoSeq1.wpAny_loadPart' k1,AutoSeq1.wpAny_loadPart' k2
   exact ⟨_,rfl,k3⟩
 ·exact .of_wp fun prog w A R s0 hh=>by
   obtain ⟨hp,gg,dw,tk,oo⟩:=s0
   obtain ⟨k1,k2,k3⟩:=hh
   have g1:=AutoSeq1.idx_int
   have g2:=AutoSeq1.sub_tuple_tuple
   have g3:=AutoSeq1.sub_list_list
   have g4:=AutoSeq1.sub_tuple_list
   have g5:=AutoSeq1.sub_list_tuple
   wp_walk using (wpAny_updateSeq k1 rfl (hz:=h1) (_hz':=hz')),AutoSeq1.wpAny_loadPart' k1,AutoSeq1.wpAny_loadPart' k2
   exact ⟨_,rfl,k3⟩
section
variable {X:Cx}
theorem zy6:MtL X "list.extend" zx1:=by
 rintro pins s σ H x ws v us Q I rx rs ⟨α,st,a,l,vs,xs,z,l',r,e,hH,hl,hx,hg,q⟩
 subst e
 obtain rfl:=(show v=Value.ref a from rx)
 obtain ⟨z1,its,n,r1,hl1,e1⟩:=I.lstM hH
 have ll:=hl.length
 have go:∀ {T:String} {b:Addr} {ys:List PV} {us2:List V} {js:List Value} {m:Nat} {dd:Option Addr} {sl:Array (Option Value)},(T = "list" ∨ T = "tuple")→us=[.ref b]→l.length+ys.length≤SZ→z=.non→l'=l++ys→RPs X.K H (zf1 α st) ys us2→zh0 us2 js →
   s.heap.get? b=some { cls:=.type T,dict:=dd,data:=.seq js.toArray m,slots:=sl }→wpAny (model X.prog X.w) X.A (call (.builtin "list.extend") (.ref a::us)) (EP X pins σ Q) X.xe s:=by
  intro T b ys us2 js m dd sl hT eu hc ez el hy ry e2
  subst eu ez el
  rw [zQ7] at hc
  have ly:=hy.length
  have lj:=ry.length
  have hsz:its.toArray.size+js.toArray.size≤sizeLine:=by rw [List.size_toArray,List.size_toArray];lia
  have hlong:¬ (!its.toArray.isEmpty&&Builtin.List.listTooLong (its.toArray.size+js.toArray.size))=true:=by
   rw [yA4 hsz,Bool.and_false]
   exact Bool.false_ne_true
  refine PySem.call_meets PySem.F.slot_list_extend ⟨_,e1,rfl⟩ PySem.F.entry_list_extend (PySem.F.args_list_extend_2 _ _) (extW T hT a its.toArray n b js.toArray m dd sl hlong (by rw [List.size_toArray];lia) (by lia)) ⟨e1,e2,?_⟩
  refine ⟨.non,_,I.lset (its':=its++js) (ys:=vs++us2) hH e1 (by simp) (r1.append ry) (by rw [List.length_append];lia),rfl,q _ _ (by rw [RP]) (hl.append hy)⟩
 cases hx with
 | nil=>cases hg
 | cons h t =>
  cases t with
  | cons _ _=>rename_i y _ _ _ _ _ _ _;cases y <;> cases hg
  | nil =>
   rename_i y w
   cases rs with
   | cons ra rt =>
    cases rt
    cases y with
    | lst ys =>
     have hg:(if l.length+ys.length≤SZ then some (PV.non,l++ys) else none)=some (z,l'):=hg
     by_cases hc:l.length+ys.length≤SZ
     ·rw [if_pos hc] at hg
      obtain ⟨b,us2,rfl,h1,h2⟩:=h.lst
      obtain rfl:=(show _=Value.ref b from ra)
      obtain ⟨js,ry,⟨⟨cls,dd,data,sl⟩,m,e2,c1,c2,c3⟩,_⟩:=I.list h1
      simp only at c1 c3
      subst c1 c3
      have hg:=Option.some.inj hg
      exact go (.inl rfl) rfl hc (congrArg Prod.fst hg).symm (congrArg Prod.snd hg).symm h2 ry e2
     ·rw [if_neg hc] at hg;cases hg
    | tup ys =>
     have hg:(if l.length+ys.length≤SZ then some (PV.non,l++ys) else none)=some (z,l'):=hg
     by_cases hc:l.length+ys.length≤SZ
     ·rw [if_pos hc] at hg
      obtain ⟨b,us2,rfl,h1,h2⟩:=h.tup
      obtain rfl:=(show _=Value.ref b from ra)
      obtain ⟨js,ry,⟨⟨cls,dd,data,sl⟩,e2,c1,m,c3⟩,_⟩:=I.tuple h1
      simp only at c1 c3
      subst c1 c3
      have hg:=Option.some.inj hg
      exact go (.inr rfl) rfl hc (congrArg Prod.fst hg).symm (congrArg Prod.snd hg).symm h2 ry e2
     ·rw [if_neg hc] at hg;cases hg
    | _=>cases hg
theorem zz7 (v:Val) (vs:List Val) (st:za6):zz0 .extend v vs st=(match zn7 st vs with | some xs=>zB6 v st (zx1 xs) | none=>.stuck):=by
 show (match zn7 st vs with | some xs=>zL2 .extend v xs st | none=>.stuck)=_
 cases zn7 st vs <;> rfl
end
open PySem L2 PySem.SeqAt PyProof.Rows
section
variable {X:Cx} {C:zb9} {a b c:Expr} {ia ib ic:E} {pos:Pos}
end
open PySem L2 PySem.SeqAt PyProof.Rows
section
variable {prog:Program} {w:World} {A:Around} {E:Value→Shared→Prop} {s:Shared}
end
section
variable {X:Cx} {C:zb9} {e:Expr} {ie:E} {pos p2 p3 p4:Pos}
end
open PySem L2 PySem.SeqAt PyProof.Rows
section
variable {X:Cx} {C:zb9} {o e:Expr} {io ie:E} {apos cpos:Pos} {pins:List (Addr×Obj)} {s:Shared} {σ:L2.St} {H:Hp}
end
open PySem
structure Sb where
 it:Addr
 l:Addr
 tp:Bool
 its:List Value
def Sb.on (b:Sb) (i:Nat) (h:Heap):Prop:=if b.tp=true then h.IsTupleIter b.it b.l i∧h.IsTuple b.l b.its.toArray else h.IsListIter b.it b.l i∧h.IsList b.l b.its.toArray
theorem Sb.frame {b:Sb} {i:Nat} {h h':Heap} (x:b.on i h) (k1:∀ o,h.get? b.it=some o→h'.get? b.it=some o) (k2:∀ o,h.get? b.l=some o→h'.get? b.l=some o):b.on i h':=by
 unfold Sb.on at *
 split at x
 ·rename_i ht
  rw [if_pos ht]
  exact ⟨x.1.at k1,let ⟨o,e,r⟩:=x.2;⟨o,k2 o e,r⟩⟩
 ·rename_i ht
  rw [if_neg ht]
  exact ⟨x.1.at k1,x.2.at k2⟩
theorem Sb.obj {b:Sb} {i:Nat} {h:Heap} (x:b.on i h):∃ o,h.get? b.it=some o∧∀ v,o.data≠.cell v:=by
 unfold Sb.on at x
 split at x
 ·obtain ⟨⟨o,e,c,d⟩,_⟩:=x
  exact ⟨o,e,fun v z=>by rw [d] at z;cases z⟩
 ·obtain ⟨⟨o,e,c,d⟩,_⟩:=x
  exact ⟨o,e,fun v z=>by rw [d] at z;cases z⟩
section
variable {prog:Program} {w:World} {A:Around} {E:Value→Shared→Prop} {s:Shared}
theorem yg6 {b t:Addr} {k:Nat} {vs:Array Value} {y:Value} {R:Value→Shared→Prop} (x1:s.heap.IsTupleIter b t k) (x2:s.heap.IsTuple t vs) (x3:vs[k]?=some y)
  (q:∀ h2,h2.IsTupleIter b t (k+1)→Heap.SameBut b s.heap h2→R y { s with heap:=h2 }):wpAny (model prog w) A (Builtin.SmallTypes.nextOf (.ref b)) R E s:=by
 obtain ⟨u,hu,hcu,hdu⟩:=id x1
 obtain ⟨ut,hut,_,m,hdt⟩:=x2
 unfold Builtin.SmallTypes.nextOf
 refine wpAny_bind (wpAny_callSpecial?_slot (name:=Str.ofString "__next__") x1.typeIs F.slot_tuple_iterator_next
   (wpAny_call_entry F.slot_tuple_iterator_next x1.typeIs F.entry_tuple_iterator_next ?_ (F.args_tuple_iterator_next_1 _)))
 show wpAny _ _ (field (.ref b) 0 >>= _) _ _ _
 refine wpAny_bind (wpAny_field hu hdu (x:=.ref t) (by rfl) ?_)
 have ne:¬ ((Value.ref t==Value.none)=true):=Bool.false_ne_true
 show wpAny _ _ (if (Value.ref t==Value.none)=true then _ else _) _ _ _
 rw [if_neg ne]
 show wpAny _ _ (field (.ref b) 1 >>= _) _ _ _
 refine wpAny_bind (wpAny_field hu hdu (x:=.int k 0) (by rfl) ?_)
 show wpAny _ _ (seqItems? (.ref t) >>= _) _ _ _
 refine wpAny_bind (wpAny_seqItems hut hdt ?_)
 simp only [Int.toNat_natCast,x3]
 refine wpAny_bind (wpAny_setField hu hdu (by simp) (wpAny_pure ⟨y,rfl,wpAny_pure (q _ ⟨_,Heap.get?_update_self _ hu (Obj.isFreed_of_fields (Obj.data_mapFields hdu _)),(Obj.cls_mapFields ..).trans hcu,?_⟩ (Heap.SameBut.update ..))⟩))
 rw [Obj.data_mapFields hdu]
 simp [rawInt]
theorem yr6 {b t:Addr} {k:Nat} {vs:Array Value} {R:Value→Shared→Prop} (hh:A.handled=none) (x1:s.heap.IsTupleIter b t k) (x2:s.heap.IsTuple t vs) (x3:vs[k]?=none)
  (q:∀ h2 e,Heap.ExtBut b s.heap h2→(∃ o,h2.get? e=some o∧o.cls=.type "StopIteration")→E (.ref e) { s with heap:=h2 }):wpAny (model prog w) A (Builtin.SmallTypes.nextOf (.ref b)) R E s:=by
 obtain ⟨u,hu,hcu,hdu⟩:=id x1
 obtain ⟨ut,hut,_,m,hdt⟩:=x2
 unfold Builtin.SmallTypes.nextOf
 refine wpAny_bind (wpAny_callSpecial?_slot (name:=Str.ofString "__next__") x1.typeIs F.slot_tuple_iterator_next
   (wpAny_call_entry F.slot_tuple_iterator_next x1.typeIs F.entry_tuple_iterator_next ?_ (F.args_tuple_iterator_next_1 _)))
 show wpAny _ _ (field (.ref b) 0 >>= _) _ _ _
 refine wpAny_bind (wpAny_field hu hdu (x:=.ref t) (by rfl) ?_)
 have ne:¬ ((Value.ref t==Value.none)=true):=Bool.false_ne_true
 show wpAny _ _ (if (Value.ref t==Value.none)=true then _ else _) _ _ _
 rw [if_neg ne]
 show wpAny _ _ (field (.ref b) 1 >>= _) _ _ _
 refine wpAny_bind (wpAny_field hu hdu (x:=.int k 0) (by rfl) ?_)
 show wpAny _ _ (seqItems? (.ref t) >>= _) _ _ _
 refine wpAny_bind (wpAny_seqItems hut hdt ?_)
 simp only [Int.toNat_natCast,x3]
 refine wpAny_bind (wpAny_rule (wpAny_bind (wpAny_setField hu hdu (by simp) ?_)))
 show wpAny _ _ (newExc (.type "StopIteration") [] >>= _) _ _ _
 refine wpAny_bind ?_
 simp only [newExc,newTuple]
 refine wpAny_bind (wpAny_newObj_type ?_ (by size_fits))
 refine wpAny_bind (m:=firstArgMember _ _) (wpAny_of_eq (a:=Value.none) (by first | rfl | (simp only [firstArgMember];rfl)) ?_)
 refine wpAny_newObj_type ?_ (by size_fits)
 simp only [raiseNew]
 refine wpAny_bind (wpAny_handled ?_)
 first | rw [show A.in1.handled=none from hh] | rw [hh]
 refine wpAny_bind (wpAny_pure (wpAny_throw ?_))
 exact q _ _ (((Heap.SameBut.update ..).extBut.push _).push _) ⟨_,Heap.get?_push_size _ rfl,rfl⟩
theorem Sb.item {b:Sb} {k:Nat} {y:Value} {R:Value→Shared→Prop} (x:b.on k s.heap) (hy:b.its[k]?=some y)
  (q:∀ h2,b.on (k+1) h2→Heap.SameBut b.it s.heap h2→R y { s with heap:=h2 }) (hne:b.l≠b.it):wpAny (model prog w) A (Builtin.SmallTypes.nextOf (.ref b.it)) R E s:=by
 by_cases ht:b.tp=true
 ·have x':=x
  unfold Sb.on at x'
  rw [if_pos ht] at x'
  refine yg6 x'.1 x'.2 (by simpa using hy) fun h2 z1 z2=>q h2 ?_ z2
  unfold Sb.on
  rw [if_pos ht]
  exact ⟨z1,x'.2.extBut z2.extBut hne⟩
 ·have x':=x
  unfold Sb.on at x'
  rw [if_neg ht] at x'
  refine wpAny_nextOf_list_item x'.1 x'.2 (by simpa using hy) fun h2 z1 z2=>q h2 ?_ z2
  unfold Sb.on
  rw [if_neg ht]
  exact ⟨z1,x'.2.extBut z2.extBut hne⟩
theorem Sb.fin {b:Sb} {k:Nat} {R:Value→Shared→Prop} (hh:A.handled=none) (x:b.on k s.heap) (hy:b.its[k]?=none)
  (q:∀ h2 e,Heap.ExtBut b.it s.heap h2→(∃ o,h2.get? e=some o∧o.cls=.type "StopIteration")→E (.ref e) { s with heap:=h2 }):wpAny (model prog w) A (Builtin.SmallTypes.nextOf (.ref b.it)) R E s:=by
 by_cases ht:b.tp=true
 ·unfold Sb.on at x
  rw [if_pos ht] at x
  exact yr6 hh x.1 x.2 (by simpa using hy) q
 ·unfold Sb.on at x
  rw [if_neg ht] at x
  exact wpAny_nextOf_list_end hh x.1 x.2 (by simpa using hy) q
end
open PySem
noncomputable abbrev TupAt (h:Heap) (T:Addr) (vs:List Value):Prop:=h.get? T=some { cls:=.type "tuple", data:=.seq vs.toArray }
structure ZAp (z TI TO:Addr) (bs:List Sb):Prop where
 ne:bs≠[]
 len:bs.length≤1000
 zT:TO≠z
 iz:∀ b∈bs,b.it≠z∧b.it≠TO∧b.it≠TI
 lz:∀ b∈bs,b.l≠z∧b.l≠TO∧∀ c∈bs,b.l≠c.it
 nd:(bs.map Sb.it).Nodup
 Tz:TI≠z∧TI≠TO
noncomputable def zq0 (bs:List Sb):List Value:=bs.map fun b=>.ref b.it
section
variable {prog:Program} {w:World} {A:Around} {E:Value→Shared→Prop} {s:Shared}
def ZIv (s:Shared) (z TI TO:Addr) (bs:List Sb) (i:Nat) (zp3:List (Value×Nat)) (b:Option Fin×Unit) (s':Shared):Prop :=
 b=(none,())∧∃ k h',s'={ s with heap:=h' }∧k≤bs.length∧zp3=((zq0 bs).drop k).zipIdx k∧IsZip h' z TI TO .ellipsis ∧
  (∃ o:List Value,TupAt h' TO o∧o.length=bs.length∧∀ j<k,∀ b,bs[j]?=some b→o[j]?=b.its[i]?∧b.its[i]?≠none)∧(∀ (j:Nat) b,bs[j]?=some b→b.on (if j<k then i+1 else i) h')∧h'.objs.size=s.heap.objs.size ∧
  ∀ c o,c≠z→c≠TO→(∀ b∈bs,c≠b.it)→s.heap.get? c=some o→h'.get? c=some o
theorem yN4 {bs:List Sb} (h:(bs.map Sb.it).Nodup) {j k:Nat} {b c:Sb} (hj:bs[j]?=some b) (hk:bs[k]?=some c) (hne:j≠k):b.it≠c.it:=by
 intro e
 obtain ⟨h1,e1⟩:=List.getElem?_eq_some_iff.mp hj
 obtain ⟨h2,e2⟩:=List.getElem?_eq_some_iff.mp hk
 have p:=List.pairwise_iff_getElem.mp h
 rcases Nat.lt_or_gt_of_ne hne with hlt | hlt
 ·exact p j k (by simpa using h1) (by simpa using h2) hlt (by simp [e1,e2,e])
 ·exact p k j (by simpa using h2) (by simpa using h1) hlt (by simp [e1,e2,e])
theorem ZIv.step {z TI TO:Addr} {bs:List Sb} {i k:Nat} {b:Sb} {x:Value} {h1 h2 h3:Heap} {o:List Value} (D:ZAp z TI TO bs) (hk:bs[k]?=some b) (hx:b.its[i]?=some x)
  (hz:IsZip h1 z TI TO .ellipsis) (ho:TupAt h1 TO o) (hol:o.length=bs.length) (hov:∀ j<k,∀ b,bs[j]?=some b→o[j]?=b.its[i]?∧b.its[i]?≠none) (hon:∀ (j:Nat) b,bs[j]?=some b→b.on (if j<k then i+1 else i) h1) (hsz:h1.objs.size=s.heap.objs.size)
  (hkp:∀ c o,c≠z→c≠TO→(∀ b∈bs,c≠b.it)→s.heap.get? c=some o→h1.get? c=some o)
  (n2:b.on (i+1) h2) (s2:Heap.SameBut b.it h1 h2) (n3:TupAt h3 TO (o.set k x)) (s3:Heap.SameBut TO h2 h3) :
  ZIv s z TI TO bs i (((zq0 bs).drop (k+1)).zipIdx (k+1)) (none,()) { s with heap:=h3 }:=by
 have hmem:b∈bs:=List.mem_of_getElem? hk
 have hkl:k<bs.length:=(List.getElem?_eq_some_iff.mp hk).1
 obtain ⟨b1,b2,b3⟩:=D.iz b hmem
 refine ⟨rfl,k+1,h3,rfl,hkl,rfl,?_,⟨o.set k x,n3,by simpa using hol,?_⟩,?_,by rw [s3.1,s2.1];exact hsz,?_⟩
 ·exact s3.extBut _ _ D.zT.symm (s2.extBut _ _ b1.symm hz)
 ·intro j hj c hc
  by_cases e:j=k
  ·subst e
   rw [hk] at hc;cases hc
   rw [List.getElem?_set_self (by lia),hx]
   exact ⟨rfl,by simp⟩
  ·rw [List.getElem?_set_ne (by lia)]
   exact hov j (by lia) c hc
 ·intro j c hc
  obtain ⟨c1,c2,c3⟩:=D.iz c (List.mem_of_getElem? hc)
  obtain ⟨l1,l2,l3⟩:=D.lz c (List.mem_of_getElem? hc)
  by_cases e:j=k
  ·subst e
   rw [hk] at hc;cases hc
   rw [if_pos (by lia)]
   exact Sb.frame n2 (fun o e=>s3.extBut _ _ c2 e) fun o e=>s3.extBut _ _ l2 e
  ·have hne:=yN4 D.nd hc hk e
   have hold:=hon j c hc
   rw [show (if j<k+1 then i+1 else i)=(if j<k then i+1 else i) by by_cases h:j<k <;> simp [h] <;> lia]
   exact Sb.frame hold (fun o e=>s3.extBut _ _ c2 (s2.extBut _ _ hne e)) fun o e=>s3.extBut _ _ l2 (s2.extBut _ _ (l3 b hmem) e)
 ·intro c o' n1 n2' n3' e
  exact s3.extBut _ _ n2' (s2.extBut _ _ (n3' b hmem) (hkp c o' n1 n2' n3' e))
theorem yn1 {z TI TO:Addr} {bs:List Sb} {i:Nat} {vs ow:List Value} {R:Value→Shared→Prop} (D:ZAp z TI TO bs)
  (hz:IsZip s.heap z TI TO .none) (hTI:TupAt s.heap TI (zq0 bs)) (hTO:TupAt s.heap TO ow) (how:ow.length=bs.length) (hb:∀ b∈bs,b.on i s.heap) (hv:vs.length=bs.length)
  (hvs:∀ (k:Nat) b,bs[k]?=some b→∃ x,b.its[i]?=some x∧vs[k]?=some x)
  (q:∀ h2,IsZip h2 z TI TO (rawInt s.heap.objs.size)→TupAt h2 TO vs→(∀ b∈bs,b.on (i+1) h2)→TupAt h2 s.heap.objs.size vs→h2.objs.size=s.heap.objs.size+1 →
   (∀ c o,c≠z→c≠TO→(∀ b∈bs,c≠b.it)→s.heap.get? c=some o→h2.get? c=some o)→R (.ref s.heap.objs.size) { s with heap:=h2 }) :
  wpAny (model prog w) A (Builtin.«zip.__next__» ⟨[.ref z],[]⟩) (fun fin s'=>∃ v,fin=.done (.ret v)∧R v s') E s:=by
 show wpAny _ _ (field (.ref z) 2 >>= _) _ _ _
 refine wpAny_bind (wpAny_field hz (by rfl) (x:=.bool false) (by rfl) ?_)
 show wpAny _ _ (field (.ref z) 3 >>= _) _ _ _
 refine wpAny_bind (wpAny_field hz (by rfl) (x:=.ref TI) (by rfl) ?_)
 refine wpAny_bind (wpAny_seqItems hTI (by rfl) ?_)
 have hne:(zq0 bs).toArray.isEmpty=false:=by
  have:=D.ne
  cases bs with
  | nil=>exact absurd rfl this
  | cons b r=>rfl
 have hlen:=D.len
 simp only [hne,Bool.false_eq_true,if_false]
 refine wpAny_bind ?_
 unfold Builtin.SmallTypes.ownedTupleIsFree
 refine wpAny_bind (wpAny_field hz (by rfl) (x:=.none) (by rfl) (wpAny_pure ?_))
 simp only [if_true]
 refine wpAny_bind (wpAny_rule ?_)
 refine wpAny_bind (wpAny_field hz (by rfl) (x:=.ref TO) (by rfl) ?_)
 refine wpAny_bind (wpAny_setField_rec hz (by simp) fun ha za sa=>?_)
 replace za:IsZip ha z TI TO .ellipsis:=za
 refine wpAny_bind ?_
 refine wpAny_forIn_list _ (ZIv s z TI TO bs i) _ ?turn ?fin _ _ ?start
 case start =>
  refine ⟨rfl,0,ha,rfl,Nat.zero_le _,by simp,za,⟨ow,sa.extBut _ _ D.zT hTO,how,fun j hj=>absurd hj (by lia)⟩,fun j b hj=>?_,sa.1,fun c o c1 _ _ e=>sa.extBut _ _ c1 e⟩
  have hm:=List.mem_of_getElem? hj
  rw [if_neg (by lia)]
  exact Sb.frame (hb b hm) (fun o e=>sa.extBut _ _ (D.iz b hm).1 e) fun o e=>sa.extBut _ _ (D.lz b hm).1 e
 case turn =>
  rintro ⟨u,kk⟩ zp3 b0 s1 ⟨rfl,k,h1,rfl,hk,hr,z1,⟨o,o1,o2,o3⟩,on1,sz1,kp1⟩
  have hkl:k<bs.length:=by
   by_cases h:k<bs.length
   ·exact h
   ·rw [List.drop_of_length_le (by simp [zq0];lia)] at hr;cases hr
  obtain ⟨b,hbk⟩:∃ b,bs[k]?=some b:=⟨_,List.getElem?_eq_getElem hkl⟩
  have hm:=List.mem_of_getElem? hbk
  have hu:u=.ref b.it∧kk=k∧zp3=((zq0 bs).drop (k+1)).zipIdx (k+1):=by
   have e1:(zq0 bs).drop k=.ref b.it::(zq0 bs).drop (k+1):=by
    have hl:k<(zq0 bs).length:=by simpa [zq0] using hkl
    rw [List.drop_eq_getElem_cons hl]
    congr 1
    obtain ⟨_,e⟩:=List.getElem?_eq_some_iff.mp hbk
    simp [zq0,e]
   rw [e1,List.zipIdx_cons] at hr
   cases hr
   exact ⟨rfl,rfl,rfl⟩
  obtain ⟨rfl,rfl,rfl⟩:=hu
  obtain ⟨x,hx,hxv⟩:=hvs _ b hbk
  have ob:=on1 _ b hbk
  rw [if_neg (by lia)] at ob
  refine wpAny_bind (wpAny_onRaise ?_)
  show wpAny _ _ (Builtin.SmallTypes.nextOf (.ref b.it) >>= _) _ _ _
  refine wpAny_bind (Sb.item ob hx (fun h2 n2 s2=>wpAny_pure ?_) (((D.lz b hm).2.2 b hm)))
  have t2:TupAt h2 TO o:=s2.extBut _ _ (D.iz b hm).2.1.symm o1
  refine wpAny_bind (wpAny_seqItems t2 (by rfl) ?_)
  have hos:o.toArray.size≤sizeLine:=by
   have:sizeLine=16777216:=by decide
   simp;lia
  refine wpAny_bind (wpAny_updateSeq t2 (by rfl) ?_ hos (by simp;simp at hos;lia))
  refine wpAny_bind (wpAny_letGo (wpAny_pure ?_))
  refine ZIv.step D hbk hx z1 o1 o2 o3 on1 sz1 kp1 n2 s2 ?_ (Heap.SameBut.update ..)
  show (h2.update TO _).get? TO=_
  rw [Heap.get?_update_self _ t2 rfl]
  simp [Obj.mapSeq]
 case fin =>
  rintro b0 s1 ⟨rfl,k,h1,rfl,hk,hr,z1,⟨o,o1,o2,o3⟩,on1,sz1,kp1⟩
  have hkn:k=bs.length:=by
   by_cases h:k<bs.length
   ·have hl:k<(zq0 bs).length:=by simpa [zq0] using h
    rw [List.drop_eq_getElem_cons hl,List.zipIdx_cons] at hr;cases hr
   ·lia
  subst hkn
  have hov:o=vs:=by
   refine List.ext_getElem? fun j=>?_
   by_cases hj:j<bs.length
   ·obtain ⟨b,hbj⟩:∃ b,bs[j]?=some b:=⟨_,List.getElem?_eq_getElem hj⟩
    obtain ⟨x,e1,e2⟩:=hvs j b hbj
    rw [(o3 j hj b hbj).1,e1,e2]
   ·rw [List.getElem?_eq_none (by lia),List.getElem?_eq_none (by lia)]
  subst hov
  refine wpAny_bind (wpAny_seqItems o1 (by rfl) ?_)
  refine wpAny_bind (wpAny_newTuple ?_ ?_)
  ·show wpAny _ _ (Builtin.SmallTypes.ownedTupleHandOut (.ref z) (.ref h1.objs.size) >>= _) _ _ _
   refine wpAny_bind ?_
   unfold Builtin.SmallTypes.ownedTupleHandOut
   have z2:IsZip (h1.push { cls:=.type "tuple", data:=.seq o.toArray.toList.toArray }) z TI TO .ellipsis:=Heap.get?_push_of_some _ z1
   refine wpAny_bind (wpAny_setField_rec z2 (by simp) fun h3 z3 s3=>?_)
   replace z3:IsZip h3 z TI TO (rawInt h1.objs.size):=z3
   refine wpAny_setField_rec z3 (by simp) fun h4 z4 s4=>?_
   replace z4:IsZip h4 z TI TO (rawInt h1.objs.size):=z4
   have up:∀ c u,c≠z→h1.get? c=some u→h4.get? c=some u:=fun c u c1 e=>s4.extBut _ _ c1 (s3.extBut _ _ c1 (Heap.get?_push_of_some _ e))
   have hzl:z<h1.objs.size:=Heap.lt_size z1
   have hT:TupAt h4 h1.objs.size o:=s4.extBut _ _ (Nat.ne_of_gt hzl) (s3.extBut _ _ (Nat.ne_of_gt hzl) (by rw [Heap.get?_push_size _ rfl]))
   have h4s:h4.objs.size=h1.objs.size+1:=by rw [s4.1,s3.1,Heap.size_push]
   refine wpAny_pure ⟨_,rfl,?_⟩
   rw [sz1] at z4 hT h4s ⊢
   refine q h4 z4 (up _ _ D.zT o1) (fun b hm=>?_) hT h4s fun c u c1 c2 c3 e=>up c u c1 (kp1 c u c1 c2 c3 e)
   obtain ⟨j,hj,ej⟩:=List.getElem_of_mem hm
   have:=on1 j b (by rw [List.getElem?_eq_getElem hj,ej])
   rw [if_pos hj] at this
   exact Sb.frame this (fun u e=>up _ u (D.iz b hm).1 e) fun u e=>up _ u (D.lz b hm).1 e
  ·have:sizeLine=16777216:=by decide
   simp;lia
end
open PySem
section
variable {prog:Program} {w:World} {A:Around} {E:Value→Shared→Prop} {s:Shared}
theorem yz7 {z TI TO:Addr} {bs:List Sb} {i:Nat} {ow:List Value} {R:Fin→Shared→Prop} (hh:A.handled=none) (D:ZAp z TI TO bs)
  (hz:IsZip s.heap z TI TO .none) (hTI:TupAt s.heap TI (zq0 bs)) (hTO:TupAt s.heap TO ow) (how:ow.length=bs.length) (hb:∀ b∈bs,b.on i s.heap) (hend:∃ b∈bs,b.its[i]?=none)
  (q:∀ h2 e,(∀ c o,c≠z→c≠TO→(∀ b∈bs,c≠b.it)→s.heap.get? c=some o→h2.get? c=some o)→(∃ o,h2.get? e=some o∧o.cls=.type "StopIteration")→E (.ref e) { s with heap:=h2 }) :
  wpAny (model prog w) A (Builtin.«zip.__next__» ⟨[.ref z],[]⟩) R E s:=by
 show wpAny _ _ (field (.ref z) 2 >>= _) _ _ _
 refine wpAny_bind (wpAny_field hz (by rfl) (x:=.bool false) (by rfl) ?_)
 show wpAny _ _ (field (.ref z) 3 >>= _) _ _ _
 refine wpAny_bind (wpAny_field hz (by rfl) (x:=.ref TI) (by rfl) ?_)
 refine wpAny_bind (wpAny_seqItems hTI (by rfl) ?_)
 have hne:(zq0 bs).toArray.isEmpty=false:=by
  have:=D.ne
  cases bs with
  | nil=>exact absurd rfl this
  | cons b r=>rfl
 have hlen:=D.len
 simp only [hne,Bool.false_eq_true,if_false]
 refine wpAny_bind ?_
 unfold Builtin.SmallTypes.ownedTupleIsFree
 refine wpAny_bind (wpAny_field hz (by rfl) (x:=.none) (by rfl) (wpAny_pure ?_))
 simp only [if_true]
 refine wpAny_bind (wpAny_rule ?_)
 refine wpAny_bind (wpAny_field hz (by rfl) (x:=.ref TO) (by rfl) ?_)
 refine wpAny_bind (wpAny_setField_rec hz (by simp) fun ha za sa=>?_)
 replace za:IsZip ha z TI TO .ellipsis:=za
 refine wpAny_bind ?_
 refine wpAny_forIn_list _ (ZIv s z TI TO bs i) _ ?turn ?fin _ _ ?start
 case start =>
  refine ⟨rfl,0,ha,rfl,Nat.zero_le _,by simp,za,⟨ow,sa.extBut _ _ D.zT hTO,how,fun j hj=>absurd hj (by lia)⟩,fun j b hj=>?_,sa.1,fun c o c1 _ _ e=>sa.extBut _ _ c1 e⟩
  have hm:=List.mem_of_getElem? hj
  rw [if_neg (by lia)]
  exact Sb.frame (hb b hm) (fun o e=>sa.extBut _ _ (D.iz b hm).1 e) fun o e=>sa.extBut _ _ (D.lz b hm).1 e
 case turn =>
  rintro ⟨u,kk⟩ zp3 b0 s1 ⟨rfl,k,h1,rfl,hk,hr,z1,⟨o,o1,o2,o3⟩,on1,sz1,kp1⟩
  have hkl:k<bs.length:=by
   by_cases h:k<bs.length
   ·exact h
   ·rw [List.drop_of_length_le (by simp [zq0];lia)] at hr;cases hr
  obtain ⟨b,hbk⟩:∃ b,bs[k]?=some b:=⟨_,List.getElem?_eq_getElem hkl⟩
  have hm:=List.mem_of_getElem? hbk
  have hu:u=.ref b.it∧kk=k∧zp3=((zq0 bs).drop (k+1)).zipIdx (k+1):=by
   have e1:(zq0 bs).drop k=.ref b.it::(zq0 bs).drop (k+1):=by
    have hl:k<(zq0 bs).length:=by simpa [zq0] using hkl
    rw [List.drop_eq_getElem_cons hl]
    congr 1
    obtain ⟨_,e⟩:=List.getElem?_eq_some_iff.mp hbk
    simp [zq0,e]
   rw [e1,List.zipIdx_cons] at hr
   cases hr
   exact ⟨rfl,rfl,rfl⟩
  obtain ⟨rfl,rfl,rfl⟩:=hu
  have ob:=on1 _ b hbk
  rw [if_neg (by lia)] at ob
  refine wpAny_bind (wpAny_onRaise ?_)
  show wpAny _ _ (Builtin.SmallTypes.nextOf (.ref b.it) >>= _) _ _ _
  cases hx:b.its[i]? with
  | none =>
   refine wpAny_bind (Sb.fin hh ob hx fun h2 e k2 he=>?_)
   obtain ⟨oe,hoe,hce⟩:=he
   have z2:IsZip h2 z TI TO .ellipsis:=k2 _ _ (D.iz b hm).1.symm z1
   have hez:e≠z:=fun e'=>by subst e';rw [z2] at hoe;cases hoe;simp at hce
   refine wpAny_setField_rec z2 (by simp) fun h3 _ s3=>q h3 e (fun c u c1 c2 c3 x=>?_) ⟨oe,s3.extBut _ _ hez hoe,hce⟩
   exact s3.extBut _ _ c1 (k2 _ _ (c3 b hm) (kp1 c u c1 c2 c3 x))
  | some x =>
   refine wpAny_bind (Sb.item ob hx (fun h2 n2 s2=>wpAny_pure ?_) (((D.lz b hm).2.2 b hm)))
   have t2:TupAt h2 TO o:=s2.extBut _ _ (D.iz b hm).2.1.symm o1
   refine wpAny_bind (wpAny_seqItems t2 (by rfl) ?_)
   have hos:o.toArray.size≤sizeLine:=by
    have:sizeLine=16777216:=by decide
    simp;lia
   refine wpAny_bind (wpAny_updateSeq t2 (by rfl) ?_ hos (by simp;simp at hos;lia))
   refine wpAny_bind (wpAny_letGo (wpAny_pure ?_))
   refine ZIv.step D hbk hx z1 o1 o2 o3 on1 sz1 kp1 n2 s2 ?_ (Heap.SameBut.update ..)
   show (h2.update TO _).get? TO=_
   rw [Heap.get?_update_self _ t2 rfl]
   simp [Obj.mapSeq]
 case fin =>
  rintro b0 s1 ⟨rfl,k,h1,rfl,hk,hr,z1,⟨o,o1,o2,o3⟩,on1,sz1,kp1⟩
  have hkn:k=bs.length:=by
   by_cases h:k<bs.length
   ·have hl:k<(zq0 bs).length:=by simpa [zq0] using h
    rw [List.drop_eq_getElem_cons hl,List.zipIdx_cons] at hr;cases hr
   ·lia
  obtain ⟨b,hm,hbe⟩:=hend
  obtain ⟨j,hj,ej⟩:=List.getElem_of_mem hm
  exact absurd hbe (o3 j (by lia) b (by rw [List.getElem?_eq_getElem hj,ej])).2
theorem zD2 {z TI TO:Addr} {bs:List Sb} {i:Nat} {vs ow:List Value} {R:Option Value→Shared→Prop} (D:ZAp z TI TO bs)
  (hz:IsZip s.heap z TI TO .none) (hTI:TupAt s.heap TI (zq0 bs)) (hTO:TupAt s.heap TO ow) (how:ow.length=bs.length) (hb:∀ b∈bs,b.on i s.heap) (hv:vs.length=bs.length)
  (hvs:∀ (k:Nat) b,bs[k]?=some b→∃ x,b.its[i]?=some x∧vs[k]?=some x)
  (q:∀ h2,IsZip h2 z TI TO (rawInt s.heap.objs.size)→TupAt h2 TO vs→(∀ b∈bs,b.on (i+1) h2)→TupAt h2 s.heap.objs.size vs→h2.objs.size=s.heap.objs.size+1 →
   (∀ c o,c≠z→c≠TO→(∀ b∈bs,c≠b.it)→s.heap.get? c=some o→h2.get? c=some o)→R (some (.ref s.heap.objs.size)) { s with heap:=h2 }) :
  wpAny (model prog w) A (pyNext (.ref z)) R E s:=by
 have hty:s.TypeIs (.ref z) "zip" := ⟨_,hz,rfl⟩
 unfold pyNext
 refine wpAny_bind (wpAny_attempt (wpAny_callSpecial?_slot (name:=Str.ofString "__next__") hty F.slot_zip_next (wpAny_call_entry F.slot_zip_next hty F.entry_zip_next ?_ (F.args_zip_next_1 _))))
 exact yn1 D hz hTI hTO how hb hv hvs fun h2 a1 a2 a3 a4 a5 a6=>wpAny_pure (q h2 a1 a2 a3 a4 a5 a6)
theorem zG1 {z TI TO:Addr} {bs:List Sb} {i:Nat} {ow:List Value} {R:Option Value→Shared→Prop} (hh:A.handled=none) (D:ZAp z TI TO bs)
  (hz:IsZip s.heap z TI TO .none) (hTI:TupAt s.heap TI (zq0 bs)) (hTO:TupAt s.heap TO ow) (how:ow.length=bs.length) (hb:∀ b∈bs,b.on i s.heap) (hend:∃ b∈bs,b.its[i]?=none)
  (q:∀ h2,(∀ c o,c≠z→c≠TO→(∀ b∈bs,c≠b.it)→s.heap.get? c=some o→h2.get? c=some o)→R none { s with heap:=h2 }) :
  wpAny (model prog w) A (pyNext (.ref z)) R E s:=by
 have hty:s.TypeIs (.ref z) "zip" := ⟨_,hz,rfl⟩
 unfold pyNext
 refine wpAny_bind (wpAny_attempt (wpAny_callSpecial?_slot (name:=Str.ofString "__next__") hty F.slot_zip_next (wpAny_call_entry F.slot_zip_next hty F.entry_zip_next ?_ (F.args_zip_next_1 _))))
 refine yz7 hh D hz hTI hTO how hb hend fun h2 e k2 he=>?_
 obtain ⟨o,ho,hc⟩:=he
 exact wpAny_bind (wpAny_isInstance (T := "StopIteration") (b:=true) ⟨o,ho,hc⟩ isSubtype_stop (wpAny_pure (q _ k2)))
structure Sr where
 l:Addr
 tp:Bool
 its:List Value
def Sr.on (r:Sr) (h:Heap):Prop:=if r.tp=true then h.IsTuple r.l r.its.toArray else h.IsList r.l r.its.toArray
theorem Sr.frame {r:Sr} {h h':Heap} (x:r.on h) (k:∀ o,h.get? r.l=some o→h'.get? r.l=some o):r.on h':=by
 unfold Sr.on at *
 split at x
 ·rename_i ht
  rw [if_pos ht];exact (let ⟨o,e,q⟩:=x;⟨o,k o e,q⟩)
 ·rename_i ht
  rw [if_neg ht];exact x.at k
theorem Sr.lt {r:Sr} {h:Heap} (x:r.on h):r.l<h.objs.size:=by
 unfold Sr.on at x
 split at x
 ·obtain ⟨o,e,_⟩:=x;exact Heap.lt_size e
 ·obtain ⟨o,e,_⟩:=x;exact Heap.lt_size e
noncomputable def Sr.sb (r:Sr) (it:Addr):Sb:=⟨it,r.l,r.tp,r.its⟩
noncomputable def sbs (n:Nat) (rs:List Sr):List Sb:=(rs.zipIdx n).map fun p=>p.1.sb p.2
theorem Sr.iter {r:Sr} {R:Value→Shared→Prop} (x:r.on s.heap)
  (q:∀ h2,(r.sb s.heap.objs.size).on 0 h2→h2.objs.size=s.heap.objs.size+1→(∀ c o,s.heap.get? c=some o→h2.get? c=some o)→R (.ref s.heap.objs.size) { s with heap:=h2 }):wpAny (model prog w) A (pyIter (.ref r.l)) R E s:=by
 by_cases ht:r.tp=true
 ·have x':=x
  unfold Sr.on at x'
  rw [if_pos ht] at x'
  refine wpAny_pyIter_tuple x' (q _ ?_ (Heap.size_push _ _) fun c o e=>Heap.get?_push_of_some _ e)
  unfold Sb.on
  rw [if_pos (show (r.sb s.heap.objs.size).tp=true from ht)]
  exact ⟨⟨_,Heap.get?_push_size _ rfl,rfl,rfl⟩,x'.push _⟩
 ·have x':=x
  unfold Sr.on at x'
  rw [if_neg ht] at x'
  refine wpAny_pyIter_list x' (q _ ?_ (Heap.size_push _ _) fun c o e=>Heap.get?_push_of_some _ e)
  unfold Sb.on
  rw [if_neg (show ¬ (r.sb s.heap.objs.size).tp=true from ht)]
  exact ⟨⟨_,Heap.get?_push_size _ rfl,rfl,rfl⟩,x'.push _⟩
theorem ya3 {rs:List Sr} {R:List Value→Shared→Prop} (x:∀ r∈rs,r.on s.heap)
  (q:∀ h2,(∀ b∈sbs s.heap.objs.size rs,b.on 0 h2)→h2.objs.size=s.heap.objs.size+rs.length→(∀ c o,s.heap.get? c=some o→h2.get? c=some o)→R (zq0 (sbs s.heap.objs.size rs)) { s with heap:=h2 }) :
  wpAny (model prog w) A (Builtin.SmallTypes.iterAll (rs.map fun r=>.ref r.l)) R E s:=by
 unfold Builtin.SmallTypes.iterAll
 refine wpAny_bind ?_
 refine wpAny_forIn_list _ (fun zp3 acc s1=>∃ k h1,s1={ s with heap:=h1 }∧k≤rs.length∧zp3=(rs.drop k).map (fun r=>.ref r.l)∧acc.toList=zq0 (sbs s.heap.objs.size (rs.take k))∧(∀ b∈sbs s.heap.objs.size (rs.take k),b.on 0 h1)∧h1.objs.size=s.heap.objs.size+k∧∀ c o,s.heap.get? c=some o→h1.get? c=some o) _ ?turn ?fin _ _ ?start
 case start=>exact ⟨0,s.heap,rfl,Nat.zero_le _,by simp,by simp [sbs,zq0],by simp [sbs],by simp,fun _ _ e=>e⟩
 case turn =>
  rintro u zp3 acc s1 ⟨k,h1,rfl,hk,hr,ha,hb,hs,kp⟩
  have hkl:k<rs.length:=by
   by_cases h:k<rs.length
   ·exact h
   ·rw [List.drop_of_length_le (by lia)] at hr;cases hr
  rw [List.drop_eq_getElem_cons hkl,List.map_cons] at hr
  cases hr
  have hm:rs[k]∈rs:=List.getElem_mem _
  refine wpAny_bind (wpAny_holding (Sr.iter (Sr.frame (x _ hm) fun o e=>kp _ o e) fun h2 n2 z2 k2=>wpAny_pure ?_))
  have et:rs.take (k+1)=rs.take k++[rs[k]]:=by rw [List.take_succ,List.getElem?_eq_getElem hkl];rfl
  have es:sbs s.heap.objs.size (rs.take (k+1))=sbs s.heap.objs.size (rs.take k)++[rs[k].sb h1.objs.size]:=by
   rw [et]
   unfold sbs
   rw [List.zipIdx_append,List.map_append]
   congr 1
   simp [hs,Nat.min_eq_left (Nat.le_of_lt hkl),Nat.add_comm]
  refine ⟨k+1,h2,rfl,hkl,rfl,?_,?_,by rw [z2,hs];lia,fun c o e=>k2 c o (kp c o e)⟩
  ·rw [es]
   unfold zq0 at *
   rw [Array.toList_push,ha,List.map_append]
   rfl
  ·rw [es]
   intro b hb'
   rcases List.mem_append.mp hb' with h | h
   ·exact Sb.frame (hb b h) (fun o e=>k2 _ o e) fun o e=>k2 _ o e
   ·have:b=rs[k].sb h1.objs.size:=by simpa using h
    subst this;exact n2
 case fin =>
  rintro acc s1 ⟨k,h1,rfl,hk,hr,ha,hb,hs,kp⟩
  have hkn:k=rs.length:=by
   by_cases h:k<rs.length
   ·rw [List.drop_eq_getElem_cons h,List.map_cons] at hr;cases hr
   ·lia
  subst hkn
  rw [List.take_length] at ha hb
  refine wpAny_pure ?_
  rw [ha]
  exact q h1 hb hs kp
end
theorem zz4 (rs:List Sr):Meets (Builtin.«zip.__new__» ⟨.type "zip" :: rs.map (fun r=>.ref r.l),[]⟩) (fun _ R s=>(∀ r∈rs,r.on s.heap)∧rs.length≤1000∧∀ h2 z TI TO,z=s.heap.objs.size+rs.length+2→TI=s.heap.objs.size+rs.length→TO=s.heap.objs.size+rs.length+1→IsZip h2 z TI TO .none→TupAt h2 TI (zq0 (sbs s.heap.objs.size rs))→TupAt h2 TO ((zq0 (sbs s.heap.objs.size rs)).map fun _=>.none) →
      (∀ b∈sbs s.heap.objs.size rs,b.on 0 h2)→h2.objs.size=s.heap.objs.size+rs.length+3→(∀ c o,s.heap.get? c=some o→h2.get? c=some o)→R (.ok (.ret (.ref z))) { s with heap:=h2 }) :=
  .of_wp fun prog w A R s h=>by
    obtain ⟨hp,g,d,tk,os⟩:=s
    obtain ⟨x,hl,q⟩:=h
    have hsub:=sub_zip
    unfold Builtin.«zip.__new__»
    wp_walk using ya3 x
    intro h2 y1 y2 y3
    dsimp only at *
    have hln:(zq0 (sbs hp.objs.size rs)).length=rs.length:=by simp [zq0,sbs]
    have hsl:sizeLine=16777216:=by decide
    generalize hT:zq0 (sbs hp.objs.size rs)=ts at *
    refine wpAny_bind (wpAny_newTuple ?_ (by lia))
    refine wpAny_bind (wpAny_newTuple ?_ (by rw [List.length_map];lia))
    dsimp only
    have e1:(h2.push { cls:=.type "tuple", data:=.seq ts.toArray }).objs.size=h2.objs.size+1:=Heap.size_push ..
    have g1:(h2.push { cls:=.type "tuple", data:=.seq ts.toArray }).get? h2.objs.size=some { cls:=.type "tuple", data:=.seq ts.toArray }:=Heap.get?_push_size _ rfl
    have g0:∀ c o,h2.get? c=some o→(h2.push { cls:=.type "tuple", data:=.seq ts.toArray }).get? c=some o:=fun c o e=>Heap.get?_push_of_some _ e
    generalize (h2.push { cls:=.type "tuple", data:=.seq ts.toArray })=h3 at *
    have e2:=Heap.size_push h3 { cls:=.type "tuple", data:=.seq (List.map (fun _=>Value.none) ts).toArray }
    have g2:(h3.push { cls:=.type "tuple", data:=.seq (List.map (fun _=>Value.none) ts).toArray }).get? h3.objs.size=some _:=Heap.get?_push_size _ rfl
    have g3:∀ c o,h3.get? c=some o→(h3.push { cls:=.type "tuple", data:=.seq (List.map (fun _=>Value.none) ts).toArray }).get? c=some o:=fun c o e=>Heap.get?_push_of_some _ e
    generalize (h3.push { cls:=.type "tuple", data:=.seq (List.map (fun _=>Value.none) ts).toArray })=h4 at *
    wp_walk
    have e3:=fun o=>Heap.size_push h4 o
    refine ⟨_,rfl,q _ _ h2.objs.size h3.objs.size (by rw [e2,e1,y2]) (by rw [y2]) (by rw [e1,y2]) (Heap.get?_push_size _ rfl) ?_ ?_ ?_ ?_ ?_⟩
    · exact Heap.get?_push_of_some _ (g3 _ _ g1)
    · exact Heap.get?_push_of_some _ g2
    · exact fun b hb=>Sb.frame (y1 b hb) (fun o e=>Heap.get?_push_of_some _ (g3 _ _ (g0 _ _ e))) fun o e=>Heap.get?_push_of_some _ (g3 _ _ (g0 _ _ e))
    · rw [e3,e2,e1,y2]
    · exact fun c o e=>Heap.get?_push_of_some _ (g3 _ _ (g0 _ _ (y3 c o e)))
open PySem
theorem yv7 {prog:Program} {w:World} {A:Around} (hh:A.handled=none) (b:Sb) (hne:b.l≠b.it):Draws prog w A b.it [b.it,b.l] b.its.length (fun i v=>b.its[i]?=some v) (fun i h=>b.on i h) where
 live:=fun i h st=>by
  obtain ⟨o,e,_⟩:=Sb.obj st
  exact ⟨o,e⟩
 frame:=fun i h h' st hk=>Sb.frame st (fun o e=>hk b.it (by simp) o e) fun o e=>hk b.l (by simp) o e
 item:=fun i s Q E hi st hQ=>by
  refine Sb.item st (List.getElem?_eq_getElem hi) (fun h2 z1 z2=>?_) hne
  exact hQ _ h2 s.toks (List.getElem?_eq_getElem hi) z1 z2
 done:=fun s Q E st hE=>Sb.fin hh st (List.getElem?_eq_none (Nat.le_refl _)) hE
theorem zJ8 (r:Sr):Meets (Builtin.«enumerate.__new__» ⟨[.type "enumerate", .ref r.l],[]⟩) (fun _ R s=>r.on s.heap∧∀ h2,IsEnum h2 (s.heap.objs.size+1) s.heap.objs.size 0 .none→(r.sb s.heap.objs.size).on 0 h2→h2.objs.size=s.heap.objs.size+2→(∀ c o,s.heap.get? c=some o→h2.get? c=some o)→R (.ok (.ret (.ref (s.heap.objs.size+1)))) { s with heap:=h2 }) :=
 .of_wp fun prog w A R s h=>by
  obtain ⟨hp,g,d,tk,os⟩:=s
  obtain ⟨x,q⟩:=h
  have hsub:=sub_enumerate
  have fin:∀ h2:Heap,(r.sb hp.objs.size).on 0 h2→h2.objs.size=hp.objs.size+1→(∀ c o,hp.get? c=some o→h2.get? c=some o) →
    R (.ok (.ret (.ref h2.objs.size))) ⟨h2.push { cls:=.type "enumerate", data:=.fields #[.none,.bool false,.ref hp.objs.size,rawInt 0,.none,.none] },g,d,tk,os⟩:=by
   intro h2 y1 y2 y3
   rw [y2]
   refine q _ ?_ (Sb.frame y1 (fun o e=>Heap.get?_push_of_some _ e) fun o e=>Heap.get?_push_of_some _ e) (by rw [Heap.size_push,y2]) fun c o e=>Heap.get?_push_of_some _ (y3 c o e)
   have:=Heap.get?_push_size h2 (o:={ cls:=.type "enumerate", data:=.fields #[.none,.bool false,.ref hp.objs.size,rawInt 0,.none,.none] }) rfl
   rw [y2] at this
   exact this
  wp_walk
  refine wpAny_stack_any fun st=>wpAny_pure ?_
  split
  ·rename_i c _ _ _ _ _
   cases (c==Value.type "enumerate")
   ·wp_walk using Sr.iter x
    intro h2 y1 y2 y3
    wp_walk
    exact ⟨_,rfl,fin h2 y1 y2 y3⟩
   ·wp_walk using Sr.iter x
    intro h2 y1 y2 y3
    wp_walk
    exact ⟨_,rfl,fin h2 y1 y2 y3⟩
  ·wp_walk using Sr.iter x
   intro h2 y1 y2 y3
   wp_walk
   exact ⟨_,rfl,fin h2 y1 y2 y3⟩
section
variable {prog:Program} {w:World} {A:Around} {E:Value→Shared→Prop} {s:Shared}
theorem yj2 (r:Sr) (x:r.on s.heap) {Q:Value→Shared→Prop} (q:∀ h2,IsEnum h2 (s.heap.objs.size+1) s.heap.objs.size 0 .none→(r.sb s.heap.objs.size).on 0 h2→h2.objs.size=s.heap.objs.size+2→(∀ c o,s.heap.get? c=some o→h2.get? c=some o)→Q (.ref (s.heap.objs.size+1)) { s with heap:=h2 }) :
  wpAny (model prog w) A (call (.type "enumerate") [.ref r.l]) Q E s :=
 callType_new F.called_enumerate (by decide) (F.typeCall_enumerate_1 _) (F.newCall_enumerate_1 _) (fun obj=>F.args_object_init_2 obj _) F.entry_enumerate_new
  (zJ8 r) ⟨x,fun h2 a b c d=>⟨⟨_,a,rfl⟩,q h2 a b c d⟩⟩
end
open PySem
theorem zY5:typeLookup (.type "zip") "keys" = pure none:=by rw [typeLookup_type,builtinLookup_eq_fast];kernel_rfl
theorem ya7:typeLookup (.type "zip") "__getattr__" = pure none:=by rw [typeLookup_type,builtinLookup_eq_fast];kernel_rfl
theorem zS7:entryFor table "zip.__getattribute__" = some Builtin.«object.__getattribute__» :=
 entryFor_alias (id' := "object.__getattribute__") (by kernel_rfl) (by decide +kernel) (by decide +kernel) (by kernel_rfl)
noncomputable def yR8 (z:Addr):PySem.Spec:=fun A R s=>A.handled=none∧(∃ TI TO,IsZip s.heap z TI TO .none)∧∀ h' tk e,Heap.NewExcOf s.heap h' e "AttributeError" → R (.error (.ref e)) { s with heap:=h',toks:=tk }
theorem zU3 (z:Addr) (u:Tok):Meets (Builtin.«object.__getattribute__» ⟨[.ref z,.str "keys" u],[]⟩) (yR8 z) :=
 Meets.of_wp fun prog w A R s hs=>by
  obtain ⟨hp,g,d,tk,os⟩:=s
  obtain ⟨hh,⟨TI,TO,ho⟩,q⟩:=hs
  dsimp only at ho
  have hT:∀ g d tk os,Shared.TypeIs ⟨hp,g,d,tk,os⟩ (.ref z) "zip" := fun _ _ _ _=>⟨_,ho,rfl⟩
  have f4:=zY5
  unfold Builtin.«object.__getattribute__»
  repeat (any_goals (first | assumption | wp_step))
  exact wpAny_raiseAttrError hh (fun h' tk e x=>q h' tk e x.of) (attrMsg_fits (by decide +kernel) (by size_fits))
section
variable {prog:Program} {w:World} {A:Around} {E:Value→Shared→Prop} {s:Shared}
theorem yr7 {z TI TO:Addr} {Q:Option Value→Shared→Prop} (hA:A.handled=none) (hz:IsZip s.heap z TI TO .none)
  (h:∀ h' tk,(∀ b ob,s.heap.get? b=some ob→h'.get? b=some ob)→Q none { s with heap:=h',toks:=tk }):wpAny (model prog w) A (getAttr? (.ref z) "keys") Q E s:=by
 obtain ⟨hp,g,d,tk,os⟩:=s
 have hT:∀ g d tk os,Shared.TypeIs ⟨hp,g,d,tk,os⟩ (.ref z) "zip" := fun _ _ _ _=>⟨_,hz,rfl⟩
 have f1:=sub_AttributeError
 have f3:=F.slot_zip_getattribute.lookup
 have f4:=F.slot_zip_getattribute.bind (.ref z)
 have f5:=ya7
 unfold getAttr? getAttrBy? getAttrBy
 repeat (any_goals (first | assumption | ((with_reducible show wpAny _ _ (call (Value.builtin "zip.__getattribute__") _ _) _ _ _);refine call_meets F.slot_zip_getattribute (hT _ _ _ _) zS7 (F.args_zip_getattribute_2 _ _) (zU3 z _) ⟨hA,⟨_,_,hz⟩,fun h' tk' e hx=>?_⟩) | wp_step))
 have hE:Shared.TypeIs ⟨h',g,d,tk',os⟩ (.ref e) "AttributeError" := by obtain ⟨ob,vs,he,hc,_⟩:=hx.there;exact ⟨ob,he,hc⟩
 show wpAny _ _ (getattributeRaised _ _ _ _ _ _ _) _ _ _
 unfold getattributeRaised
 refine wpAny_bind (wpAny_isInstance (T := "AttributeError") (b:=true) hE f1 ?_)
 simp only [if_true]
 refine wpAny_bind ?_
 show wpAny _ _ (typeLookup (.type "zip") "__getattr__") _ _ _
 rw [f5]
 refine wpAny_pure ?_
 show wpAny _ _ (throw (Value.ref e)) _ _ _
 refine wpAny_throw ?_
 show wpAny _ _ (isInstance _ _ >>= _) _ _ _
 refine wpAny_bind (wpAny_isInstance (T := "AttributeError") (b:=true) hE f1 ?_)
 exact wpAny_pure (h h' tk' hx.keeps)
end
open PySem
structure Ap2 (z:Addr) (b c:Sb):Prop where
 bz:b.it≠z
 cz:c.it≠z
 bc:b.it≠c.it
 lz:b.l≠z
 lb:b.l≠b.it
 lc:b.l≠c.it
 mz:c.l≠z
 mb:c.l≠b.it
 mc:c.l≠c.it
structure HZ (h:Heap) (z T TI TO:Addr) (b c:Sb) (i:Nat):Prop where
 zp:∃ f:Bool,h.get? z=some { cls:=.type "zip", dict:=none,data:=.fields #[rawInt T,.bool f,.bool false,.ref TI,.ref TO],slots:=#[] }
 tT:∃ vs,TupAt h T vs
 tI:TupAt h TI [.ref b.it,.ref c.it]
 ob:b.on i h
 oc:c.on i h
 nT:T≠z∧T≠b.it∧T≠c.it
 nI:TI≠z∧TI≠b.it∧TI≠c.it
theorem SameBut.up {a:Addr} {h h':Heap} (x:Heap.SameBut a h h') {c:Addr} (n:c≠a):∀ o,h.get? c=some o→h'.get? c=some o:=fun o e=>x.extBut _ _ n e
section
variable {prog:Program} {w:World} {A:Around} {E:Value→Shared→Prop} {s:Shared}
theorem ya1 {α:Type} {a:Addr} {k:Option Obj→Sem α} {Q:α→Shared→Prop} (h:wpAny (model prog w) A (k (s.heap.get? a)) Q E s):wpAny (model prog w) A (loadIfAlive a >>= k) Q E s:=fun Γ p hp=>h Γ p hp
theorem zD3 {z T TI TO:Addr} {b c:Sb} {i:Nat} {R:Bool→Shared→Prop} (P:Ap2 z b c) (hz:HZ s.heap z T TI TO b c i)
  (q:∀ h2,HZ h2 z T TI TO b c i→Heap.SameBut z s.heap h2→R false { s with heap:=h2 }):wpAny (model prog w) A (Builtin.SmallTypes.ownedTupleIsFree (.ref z)) R E s:=by
 obtain ⟨f,zp⟩:=hz.zp
 obtain ⟨vs,tT⟩:=hz.tT
 unfold Builtin.SmallTypes.ownedTupleIsFree
 refine wpAny_bind (wpAny_field zp (by rfl) (x:=rawInt T) (by rfl) ?_)
 show wpAny _ _ (loadIfAlive ((T:Int).toNat) >>= _) _ _ _
 rw [Int.toNat_natCast]
 refine ya1 ?_
 rw [tT]
 simp only [Option.isNone_some,Bool.false_eq_true,if_false]
 refine wpAny_bind (wpAny_field zp (by rfl) (x:=.bool f) (by rfl) ?_)
 cases f with
 | true=>exact wpAny_pure (q _ hz ⟨rfl,fun _ _=>rfl⟩)
 | false =>
  show wpAny _ _ (setField (.ref z) 1 (.bool true) >>= _) _ _ _
  refine wpAny_bind (wpAny_setField_rec zp (by simp) fun h2 z2 s2=>wpAny_pure (q h2 ⟨⟨true,z2⟩,⟨vs,s2.extBut _ _ hz.nT.1 tT⟩,s2.extBut _ _ hz.nI.1 hz.tI,?_,?_,hz.nT,hz.nI⟩ s2))
  ·exact Sb.frame hz.ob (SameBut.up s2 P.bz) (SameBut.up s2 P.lz)
  ·exact Sb.frame hz.oc (SameBut.up s2 P.cz) (SameBut.up s2 P.mz)
theorem yp2 {z T TI TO:Addr} {b c:Sb} {i:Nat} {x y:Value} {R:Value→Shared→Prop} (P:Ap2 z b c) (hz:HZ s.heap z T TI TO b c i) (hx:b.its[i]?=some x) (hy:c.its[i]?=some y)
  (q:∀ h2,HZ h2 z T TI TO b c (i+1)→TupAt h2 s.heap.objs.size [x,y]→h2.objs.size=s.heap.objs.size+1 →
   (∀ a o,a≠z→a≠b.it→a≠c.it→s.heap.get? a=some o→h2.get? a=some o)→R (.ref s.heap.objs.size) { s with heap:=h2 }) :
  wpAny (model prog w) A (Builtin.«zip.__next__» ⟨[.ref z],[]⟩) (fun fin s'=>∃ v,fin=.done (.ret v)∧R v s') E s:=by
 obtain ⟨f,zp⟩:=hz.zp
 show wpAny _ _ (field (.ref z) 2 >>= _) _ _ _
 refine wpAny_bind (wpAny_field zp (by rfl) (x:=.bool false) (by rfl) ?_)
 show wpAny _ _ (field (.ref z) 3 >>= _) _ _ _
 refine wpAny_bind (wpAny_field zp (by rfl) (x:=.ref TI) (by rfl) ?_)
 refine wpAny_bind (wpAny_seqItems hz.tI (by rfl) ?_)
 refine wpAny_bind (zD3 P hz fun h1 z1 s1=>?_)
 simp only [Bool.false_eq_true,if_false]
 refine wpAny_bind ?_
 rw [← Array.forIn_toList]
 show wpAny _ _ (forIn [Value.ref b.it,Value.ref c.it] _ _) _ _ _
 rw [List.forIn_cons]
 refine wpAny_bind (wpAny_bind (wpAny_holding ?_))
 show wpAny _ _ (Builtin.SmallTypes.nextOf (.ref b.it) >>= _) _ _ _
 refine wpAny_bind (Sb.item z1.ob hx (fun h2 n2 s2=>wpAny_pure (wpAny_pure ?_)) P.lb)
 dsimp only
 rw [List.forIn_cons]
 refine wpAny_bind (wpAny_bind (wpAny_holding ?_))
 show wpAny _ _ (Builtin.SmallTypes.nextOf (.ref c.it) >>= _) _ _ _
 have oc2:c.on i h2:=Sb.frame z1.oc (SameBut.up s2 P.bc.symm) (SameBut.up s2 P.mb)
 refine wpAny_bind (Sb.item oc2 hy (fun h3 n3 s3=>wpAny_pure (wpAny_pure ?_)) P.mc)
 dsimp only
 rw [List.forIn_nil]
 refine wpAny_pure ?_
 dsimp only
 refine wpAny_bind (wpAny_newTuple (wpAny_pure ⟨_,rfl,?_⟩) (by show 2≤sizeLine;decide))
 have sz:h3.objs.size=s.heap.objs.size:=by rw [s3.1,s2.1,s1.1]
 have up:∀ a o,a≠z→a≠b.it→a≠c.it→s.heap.get? a=some o→(h3.push { cls:=.type "tuple", data:=.seq #[x,y] }).get? a=some o:=fun a o a1 a2 a3 e=>Heap.get?_push_of_some _ (s3.extBut _ _ a3 (s2.extBut _ _ a2 (s1.extBut _ _ a1 e)))
 have r:=q (h3.push { cls:=.type "tuple", data:=.seq #[x,y] }) ⟨?_,?_,?_,?_,?_,hz.nT,hz.nI⟩ ?_ ?_ up
 ·rw [← sz] at r;exact r
 ·obtain ⟨f',z1'⟩:=z1.zp
  exact ⟨f',Heap.get?_push_of_some _ (s3.extBut _ _ P.cz.symm (s2.extBut _ _ P.bz.symm z1'))⟩
 ·obtain ⟨vs,t1⟩:=z1.tT
  exact ⟨vs,Heap.get?_push_of_some _ (s3.extBut _ _ hz.nT.2.2 (s2.extBut _ _ hz.nT.2.1 t1))⟩
 ·exact Heap.get?_push_of_some _ (s3.extBut _ _ hz.nI.2.2 (s2.extBut _ _ hz.nI.2.1 z1.tI))
 ·exact Sb.frame n2 (fun o e=>Heap.get?_push_of_some _ (s3.extBut _ _ P.bc e)) fun o e=>Heap.get?_push_of_some _ (s3.extBut _ _ P.lc e)
 ·exact Sb.frame n3 (fun o e=>Heap.get?_push_of_some _ e) fun o e=>Heap.get?_push_of_some _ e
 ·rw [← sz];exact Heap.get?_push_size _ rfl
 ·rw [Heap.size_push,sz]
theorem yu2 {z T TI TO:Addr} {b c:Sb} {i:Nat} {R:Fin→Shared→Prop} (hh:A.handled=none) (P:Ap2 z b c) (hz:HZ s.heap z T TI TO b c i) (hend:b.its[i]?=none∨c.its[i]?=none)
  (q:∀ h2 e,(∀ a o,a≠z→a≠b.it→a≠c.it→s.heap.get? a=some o→h2.get? a=some o)→(∃ o,h2.get? e=some o∧o.cls=.type "StopIteration")→E (.ref e) { s with heap:=h2 }) :
  wpAny (model prog w) A (Builtin.«zip.__next__» ⟨[.ref z],[]⟩) R E s:=by
 obtain ⟨f,zp⟩:=hz.zp
 show wpAny _ _ (field (.ref z) 2 >>= _) _ _ _
 refine wpAny_bind (wpAny_field zp (by rfl) (x:=.bool false) (by rfl) ?_)
 show wpAny _ _ (field (.ref z) 3 >>= _) _ _ _
 refine wpAny_bind (wpAny_field zp (by rfl) (x:=.ref TI) (by rfl) ?_)
 refine wpAny_bind (wpAny_seqItems hz.tI (by rfl) ?_)
 refine wpAny_bind (zD3 P hz fun h1 z1 s1=>?_)
 simp only [Bool.false_eq_true,if_false]
 refine wpAny_bind ?_
 rw [← Array.forIn_toList]
 show wpAny _ _ (forIn [Value.ref b.it,Value.ref c.it] _ _) _ _ _
 rw [List.forIn_cons]
 refine wpAny_bind (wpAny_bind (wpAny_holding ?_))
 show wpAny _ _ (Builtin.SmallTypes.nextOf (.ref b.it) >>= _) _ _ _
 cases hx:b.its[i]? with
 | none=>exact wpAny_bind (Sb.fin hh z1.ob hx fun h2 e k2 he=>q h2 e (fun a o a1 a2 a3 x=>k2 _ _ a2 (s1.extBut _ _ a1 x)) he)
 | some x =>
  have hy:c.its[i]?=none:=hend.resolve_left (by rw [hx];simp)
  refine wpAny_bind (Sb.item z1.ob hx (fun h2 n2 s2=>wpAny_pure (wpAny_pure ?_)) P.lb)
  dsimp only
  rw [List.forIn_cons]
  refine wpAny_bind (wpAny_bind (wpAny_holding ?_))
  show wpAny _ _ (Builtin.SmallTypes.nextOf (.ref c.it) >>= _) _ _ _
  have oc2:c.on i h2:=Sb.frame z1.oc (SameBut.up s2 P.bc.symm) (SameBut.up s2 P.mb)
  exact wpAny_bind (Sb.fin hh oc2 hy fun h3 e k3 he=>q h3 e (fun a o a1 a2 a3 x=>k3 _ _ a3 (s2.extBut _ _ a2 (s1.extBut _ _ a1 x))) he)
theorem zT6 {z T TI TO:Addr} {b c:Sb} {i:Nat} {x y:Value} {R:Option Value→Shared→Prop} (P:Ap2 z b c) (hz:HZ s.heap z T TI TO b c i) (hx:b.its[i]?=some x) (hy:c.its[i]?=some y)
  (q:∀ h2,HZ h2 z T TI TO b c (i+1)→TupAt h2 s.heap.objs.size [x,y]→h2.objs.size=s.heap.objs.size+1 →
   (∀ a o,a≠z→a≠b.it→a≠c.it→s.heap.get? a=some o→h2.get? a=some o)→R (some (.ref s.heap.objs.size)) { s with heap:=h2 }) :
  wpAny (model prog w) A (pyNext (.ref z)) R E s:=by
 have hty:s.TypeIs (.ref z) "zip" := by obtain ⟨f,zp⟩:=hz.zp;exact ⟨_,zp,rfl⟩
 unfold pyNext
 refine wpAny_bind (wpAny_attempt (wpAny_callSpecial?_slot (name:=Str.ofString "__next__") hty F.slot_zip_next (wpAny_call_entry F.slot_zip_next hty F.entry_zip_next ?_ (F.args_zip_next_1 _))))
 exact yp2 P hz hx hy fun h2 a1 a2 a3 a4=>wpAny_pure (q h2 a1 a2 a3 a4)
theorem zY9 {z T TI TO:Addr} {b c:Sb} {i:Nat} {R:Option Value→Shared→Prop} (hh:A.handled=none) (P:Ap2 z b c) (hz:HZ s.heap z T TI TO b c i) (hend:b.its[i]?=none∨c.its[i]?=none)
  (q:∀ h2,(∀ a o,a≠z→a≠b.it→a≠c.it→s.heap.get? a=some o→h2.get? a=some o)→R none { s with heap:=h2 }) :
  wpAny (model prog w) A (pyNext (.ref z)) R E s:=by
 have hty:s.TypeIs (.ref z) "zip" := by obtain ⟨f,zp⟩:=hz.zp;exact ⟨_,zp,rfl⟩
 unfold pyNext
 refine wpAny_bind (wpAny_attempt (wpAny_callSpecial?_slot (name:=Str.ofString "__next__") hty F.slot_zip_next (wpAny_call_entry F.slot_zip_next hty F.entry_zip_next ?_ (F.args_zip_next_1 _))))
 refine yu2 hh P hz hend fun h2 e k2 he=>?_
 obtain ⟨o,ho,hc⟩:=he
 exact wpAny_bind (wpAny_isInstance (T := "StopIteration") (b:=true) ⟨o,ho,hc⟩ isSubtype_stop (wpAny_pure (q _ k2)))
end
open PySem
theorem zS1:entryFor table "dict.update.loop" = some Builtin.«dict.update.loop»:=entryFor_of_tree (by kernel_rfl)
theorem zy7:plainId "dict.update.loop" = true:=by decide +kernel
def LZ (h:Heap) (z TO:Addr) (b c:Sb) (i:Nat):Prop :=
 (∃ TI,i=0∧ZAp z TI TO [b,c]∧IsZip h z TI TO .none∧TupAt h TI (zq0 [b,c])∧(∃ ow,TupAt h TO ow∧ow.length=2)∧b.on 0 h∧c.on 0 h)∨∃ T TI,HZ h z T TI TO b c i
def zM3 (h:Heap) (d:Addr):Prop:=∃ o,h.get? d=some o∧o.cls=.type "dict"
theorem zM3.ne {h:Heap} {d e:Addr} {o:Obj} {T:String} (x:zM3 h d) (he:h.get? e=some o) (hc:o.cls=.type T) (ht:T ≠ "dict"):e≠d:=by
 obtain ⟨o',h1,h2⟩:=x
 rintro rfl
 rw [he] at h1;cases h1
 rw [hc] at h2;cases h2
 exact ht rfl
theorem zM3.sb {h:Heap} {d:Addr} {b:Sb} {i:Nat} (x:zM3 h d) (o:b.on i h):b.it≠d∧b.l≠d:=by
 unfold Sb.on at o
 split at o
 ·obtain ⟨⟨u,e1,c1,_⟩,⟨v,e2,c2,_⟩⟩:=o
  exact ⟨x.ne e1 c1 (by decide),x.ne e2 c2 (by decide)⟩
 ·obtain ⟨⟨u,e1,c1,_⟩,⟨v,e2,c2,_⟩⟩:=o
  exact ⟨x.ne e1 c1 (by decide),x.ne e2 c2 (by decide)⟩
theorem LZ.frame {h h':Heap} {z TO d:Addr} {b c:Sb} {i:Nat} (x:LZ h z TO b c i) (hd:zM3 h d) (k:∀ a o,a≠d→h.get? a=some o→h'.get? a=some o):LZ h' z TO b c i:=by
 rcases x with ⟨TI,rfl,D,hz,tI,⟨ow,tO,hl⟩,ob,oc⟩ | ⟨T,TI,X⟩
 ·exact .inl ⟨TI,rfl,D,k _ _ (hd.ne hz rfl (by decide)) hz,k _ _ (hd.ne tI rfl (by decide)) tI,⟨ow,k _ _ (hd.ne tO rfl (by decide)) tO,hl⟩,
   Sb.frame ob (fun o e=>k _ _ (hd.sb ob).1 e) (fun o e=>k _ _ (hd.sb ob).2 e),Sb.frame oc (fun o e=>k _ _ (hd.sb oc).1 e) (fun o e=>k _ _ (hd.sb oc).2 e)⟩
 ·obtain ⟨f,zp⟩:=X.zp
  obtain ⟨vs,tT⟩:=X.tT
  exact .inr ⟨T,TI,⟨f,k _ _ (hd.ne zp rfl (by decide)) zp⟩,⟨vs,k _ _ (hd.ne tT rfl (by decide)) tT⟩,k _ _ (hd.ne X.tI rfl (by decide)) X.tI,
   Sb.frame X.ob (fun o e=>k _ _ (hd.sb X.ob).1 e) (fun o e=>k _ _ (hd.sb X.ob).2 e),Sb.frame X.oc (fun o e=>k _ _ (hd.sb X.oc).1 e) (fun o e=>k _ _ (hd.sb X.oc).2 e),X.nT,X.nI⟩
section
variable {prog:Program} {w:World} {A:Around} {E:Value→Shared→Prop} {s:Shared}
theorem LZ.item {z TO:Addr} {b c:Sb} {i:Nat} {x y:Value} {R:Option Value→Shared→Prop} (P:Ap2 z b c) (hz:LZ s.heap z TO b c i) (hx:b.its[i]?=some x) (hy:c.its[i]?=some y)
  (q:∀ h2,LZ h2 z TO b c (i+1)→TupAt h2 s.heap.objs.size [x,y]→h2.objs.size=s.heap.objs.size+1 →
   (∀ a o,a≠z→a≠TO→a≠b.it→a≠c.it→s.heap.get? a=some o→h2.get? a=some o)→R (some (.ref s.heap.objs.size)) { s with heap:=h2 }) :
  wpAny (model prog w) A (pyNext (.ref z)) R E s:=by
 rcases hz with ⟨TI,rfl,D,hz,tI,⟨ow,tO,hl⟩,ob,oc⟩ | ⟨T,TI,X⟩
 ·have hb:∀ e∈[b,c],e.on 0 s.heap:=by
   intro e he
   simp only [List.mem_cons,List.not_mem_nil,or_false] at he
   rcases he with rfl | rfl <;> assumption
  refine zD2 (vs:=[x,y]) D hz tI tO hl hb rfl ?_ fun h2 a1 a2 a3 a4 a5 a6=>?_
  ·intro k e he
   match k with
   | 0=>cases he;exact ⟨x,hx,rfl⟩
   | 1=>cases he;exact ⟨y,hy,rfl⟩
   | k+2=>simp at he
  ·have hzl:=Heap.lt_size hz
   have hbl:b.it<s.heap.objs.size:=by obtain ⟨o,e,_⟩:=Sb.obj ob;exact Heap.lt_size e
   have hcl:c.it<s.heap.objs.size:=by obtain ⟨o,e,_⟩:=Sb.obj oc;exact Heap.lt_size e
   refine q h2 (.inr ⟨_,TI,⟨false,a1⟩,⟨_,a4⟩,?_,a3 b (by simp),a3 c (by simp),⟨Nat.ne_of_gt hzl,Nat.ne_of_gt hbl,Nat.ne_of_gt hcl⟩,⟨D.Tz.1,((D.iz b (by simp)).2.2).symm,((D.iz c (by simp)).2.2).symm⟩⟩) a4 a5 fun a o n1 n2 n3 n4 e=>a6 a o n1 n2 ?_ e
   ·refine a6 TI _ D.Tz.1 D.Tz.2 ?_ tI
    intro e he
    exact ((D.iz e he).2.2).symm
   ·intro e he
    simp only [List.mem_cons,List.not_mem_nil,or_false] at he
    rcases he with rfl | rfl <;> assumption
 ·exact zT6 P X hx hy fun h2 a1 a2 a3 a4=>q h2 (.inr ⟨T,TI,a1⟩) a2 a3 fun a o n1 _ n3 n4 e=>a4 a o n1 n3 n4 e
theorem LZ.fin {z TO:Addr} {b c:Sb} {i:Nat} {R:Option Value→Shared→Prop} (hh:A.handled=none) (P:Ap2 z b c) (hz:LZ s.heap z TO b c i) (hend:b.its[i]?=none∨c.its[i]?=none)
  (q:∀ h2,(∀ a o,a≠z→a≠TO→a≠b.it→a≠c.it→s.heap.get? a=some o→h2.get? a=some o)→R none { s with heap:=h2 }) :
  wpAny (model prog w) A (pyNext (.ref z)) R E s:=by
 rcases hz with ⟨TI,rfl,D,hz,tI,⟨ow,tO,hl⟩,ob,oc⟩ | ⟨T,TI,X⟩
 ·have hb:∀ e∈[b,c],e.on 0 s.heap:=by
   intro e he
   simp only [List.mem_cons,List.not_mem_nil,or_false] at he
   rcases he with rfl | rfl <;> assumption
  refine zG1 hh D hz tI tO hl hb ?_ fun h2 k2=>q h2 fun a o n1 n2 n3 n4 e=>k2 a o n1 n2 ?_ e
  ·rcases hend with h | h
   ·exact ⟨b,by simp,h⟩
   ·exact ⟨c,by simp,h⟩
  ·intro e he
   simp only [List.mem_cons,List.not_mem_nil,or_false] at he
   rcases he with rfl | rfl <;> assumption
 ·exact zY9 hh P X hend fun h2 k2=>q h2 fun a o n1 _ n3 n4 e=>k2 a o n1 n3 n4 e
variable {K:Type} [DecidableEq K] {knd:KeyKind prog w K}
theorem DictOf.at {h:Heap} {d:Addr} {kvs:List (K×Value)} (x:h.DictOf knd d kvs):zM3 h d:=by
 obtain ⟨o,es,ep,ho,hc,_⟩:=x
 exact ⟨o,ho,hc.1⟩
theorem yA9 {z TO d:Addr} {b c:Sb} {ks:List K} {R:Result→Shared→Prop} (hh:A.handled=none) (P:Ap2 z b c) (hlen:ks.length=b.its.length) (hk:∀ (j:Nat) x k,b.its[j]?=some x→ks[j]?=some k→knd.is k x=true)
  (dz:d≠z) (dO:d≠TO) (db:d≠b.it) (dc:d≠c.it) :
  ∀ (ps:List (K×Value)) (i:Nat) (kvs:List (K×Value)) (s:Shared),(ks.zip c.its).drop i=ps→kvs.length+ps.length≤1000→LZ s.heap z TO b c i→s.heap.DictOf knd d kvs →
   (∀ h' tk,h'.DictOf knd d (merged kvs ps)→(∀ a o,a≠z→a≠TO→a≠b.it→a≠c.it→a≠d→s.heap.get? a=some o→h'.get? a=some o)→R (.ok (.ret .none)) { s with heap:=h',toks:=tk }) →
   codeAny (model prog w) A (.builtin "dict.update.loop" ⟨[.ref d,.ref z,rawInt i,.none],[]⟩) R s:=by
 intro ps
 induction ps with
 | nil =>
  intro i kvs s hd hl X D q
  have hend:b.its[i]?=none∨c.its[i]?=none:=by
   have:=List.drop_eq_nil_iff.mp hd
   rw [List.length_zip] at this
   by_cases h:i<b.its.length
   ·exact .inr (List.getElem?_eq_none (by lia))
   ·exact .inl (List.getElem?_eq_none (by lia))
  refine codeAny_builtin zS1 ?_
  rw [Around.under_plainId zy7 _]
  show wpAny _ A.in1 (pyNext (.ref z) >>= _) _ _ s
  refine wpAny_bind (LZ.fin (show A.in1.handled=none from hh) P X hend fun h2 k2=>?_)
  show wpAny _ A.in1 (Builtin.Dict.addKeywords d [] >>= _) _ _ _
  obtain ⟨o,es,ep,ho,r⟩:=D
  exact wpAny_bind (wpAny_pure (wpAny_pure (q h2 s.toks ⟨o,es,ep,k2 _ _ dz dO db dc ho,r⟩ fun a o n1 n2 n3 n4 _ e=>k2 a o n1 n2 n3 n4 e)))
 | cons p ps ih =>
  intro i kvs s hd hl X D q
  obtain ⟨k,v⟩:=p
  have hi:(ks.zip c.its)[i]?=some (k,v):=by
   have:=congrArg (fun l=>l[0]?) hd
   simpa using this
  obtain ⟨hki,hvi⟩:=List.getElem?_zip_eq_some.mp hi
  have hib:i<b.its.length:=by rw [← hlen];exact (List.getElem?_eq_some_iff.mp hki).1
  have hxi:b.its[i]?=some b.its[i]:=List.getElem?_eq_getElem hib
  have hkx:=hk i _ k hxi hki
  refine codeAny_builtin zS1 ?_
  rw [Around.under_plainId zy7 _]
  show wpAny _ A.in1 (pyNext (.ref z) >>= _) _ _ s
  refine wpAny_bind (LZ.item P X hxi hvi fun h2 X2 t2 z2 k2=>?_)
  have D2:h2.DictOf knd d kvs:=by
   obtain ⟨o,es,ep,ho,r⟩:=D
   exact ⟨o,es,ep,k2 _ _ dz dO db dc ho,r⟩
  show wpAny _ A.in1 (holding [.ref s.heap.objs.size] _ >>= _) _ _ _
  refine wpAny_bind (wpAny_holding (wpAny_bind (wpAny_tryCatch ?_)))
  unfold Builtin.Dict.pairItems
  refine wpAny_bind (wpAny_typeOf (T := "tuple") ⟨_,t2,rfl⟩ ?_)
  rw [if_pos (by decide)]
  refine wpAny_bind (wpAny_seqItems t2 (by rfl) (wpAny_pure ?_))
  show wpAny _ A.in1 (holding [b.its[i],v] (dictSet d b.its[i] v)) _ _ _
  have hz0:kvs.length≤sizeLine:=by
   have:sizeLine=16777216:=by decide
   simp only [List.length_cons] at hl
   lia
  refine wpAny_holding (wpAny_dictSet_pairs (s:={ s with heap:=h2 }) hkx D2 (fun h3 D3 s3=>?_) (hsz:=hz0))
  have X3:LZ h3 z TO b c (i+1):=X2.frame (DictOf.at D2) fun a o n e=>s3.extBut _ _ n e
  have hsl:=stored_length_le kvs k v
  refine wpAny_pure ⟨plainId_quiet zy7 _,ih (i+1) (stored kvs k v) _ ?_ (by simp only [List.length_cons] at hl;lia) X3 D3 fun h' tk D' k'=>?_⟩
  ·have:=congrArg List.tail hd
   simpa [List.tail_drop] using this
  ·exact q h' tk D' fun a o n1 n2 n3 n4 n5 e=>k' a o n1 n2 n3 n4 n5 (s3.extBut _ _ n5 (k2 a o n1 n2 n3 n4 e))
theorem zO7 {z TI TO:Addr} {b c:Sb} {ks:List K} {ow:List Value} {Q:Value→Shared→Prop} (hh:A.handled=none) (D:ZAp z TI TO [b,c]) (P:Ap2 z b c) (hz:IsZip s.heap z TI TO .none) (tI:TupAt s.heap TI (zq0 [b,c])) (tO:TupAt s.heap TO ow) (hl:ow.length=2) (ob:b.on 0 s.heap) (oc:c.on 0 s.heap)
  (hlen:ks.length=b.its.length) (hk:∀ (j:Nat) x k,b.its[j]?=some x→ks[j]?=some k→knd.is k x=true) (hks:ks.length≤1000)
  (q:∀ h' tk,h'.DictOf knd s.heap.objs.size (merged [] (ks.zip c.its))→(∀ a o,a≠z→a≠TO→a≠b.it→a≠c.it→s.heap.get? a=some o→h'.get? a=some o)→Q (.ref s.heap.objs.size) { s with heap:=h',toks:=tk }) :
  wpAny (model prog w) A (call (.type "dict") [.ref z]) Q E s:=by
 refine callType_codes (Q₁:=fun obj s₁=>obj=.ref s.heap.objs.size∧s₁={ s with heap:=s.heap.push { cls:=.type "dict", data:=.dict #[] } }) F.kt_called_dict (F.kt_typeCall_dict_1 _) F.entry_dict_init (kt_code_dict_new _ ⟨rfl,rfl⟩) ?_
 rintro obj s₁ ⟨rfl,rfl⟩
 have hnew:(s.heap.push { cls:=.type "dict", data:=.dict #[] }).DictOf knd s.heap.objs.size []:=Heap.DictOf.new s.heap
 have hz':IsZip (s.heap.push { cls:=.type "dict", data:=.dict #[] }) z TI TO .none:=Heap.get?_push_of_some _ hz
 refine ⟨hnew.typeIs,F.args_dict_init_2 _ _,?_⟩
 unfold Builtin.«dict.__init__»
 refine wpAny_bind ?_
 unfold Builtin.Dict.selfAndRest
 refine wpAny_bind (wpAny_notOrdered_dict hnew.typeIs ?_)
 show wpAny _ _ (pure (s.heap.objs.size,[Value.ref z])) _ _ _
 refine wpAny_pure ?_
 show wpAny _ _ (Builtin.Dict.updateFrom "dict.__init__" s.heap.objs.size (.ref z) [] .none) _ _ _
 unfold Builtin.Dict.updateFrom
 refine wpAny_bind (wpAny_typeOf (T := "zip") ⟨_,hz',rfl⟩ ?_)
 rw [if_pos (by decide)]
 refine wpAny_bind (yr7 (show _ from hh) hz' fun h1 tk1 k1=>?_)
 have hz1:IsZip h1 z TI TO .none:=k1 _ _ hz'
 have hT1:Shared.TypeIs { s with heap:=h1,toks:=tk1 } (.ref z) "zip" := ⟨_,hz1,rfl⟩
 have up:∀ a o,s.heap.get? a=some o→h1.get? a=some o:=fun a o e=>k1 _ _ (Heap.get?_push_of_some _ e)
 show wpAny _ _ (rule _ >>= _) _ _ _
 refine wpAny_bind (wpAny_rule (wpAny_bind ?_))
 refine wpAny_pyIter_zip (s:={ s with heap:=h1,toks:=tk1 }) hz1 (wpAny_pure ⟨plainId_quiet zy7 _,?_⟩)
 have D1:h1.DictOf knd s.heap.objs.size []:=by
  obtain ⟨o,es,ep,ho,r⟩:=hnew
  exact ⟨o,es,ep,k1 _ _ ho,r⟩
 have hlt:∀ a o,s.heap.get? a=some o→s.heap.objs.size≠a:=fun a o e=>Nat.ne_of_gt (Heap.lt_size e)
 obtain ⟨uo,eb,_⟩:=Sb.obj ob
 obtain ⟨vo,ec,_⟩:=Sb.obj oc
 refine yA9 (show A.in1.handled=none from hh) P hlen hk (hlt _ _ hz) (hlt _ _ tO) (hlt _ _ eb) (hlt _ _ ec) (ks.zip c.its) 0 [] _ (by simp) (by rw [List.length_zip];simp;lia) ?_ D1 fun h' tk D' k'=>⟨rfl,?_⟩
 ·exact .inl ⟨TI,rfl,D,hz1,up _ _ tI,⟨ow,up _ _ tO,hl⟩,Sb.frame ob (fun o e=>up _ _ e) fun o e=>up _ _ e,Sb.frame oc (fun o e=>up _ _ e) fun o e=>up _ _ e⟩
 ·exact q h' tk D' fun a o n1 n2 n3 n4 e=>k' a o n1 n2 n3 n4 (hlt _ _ e).symm (up _ _ e)
end
open PySem L2 PySem.SeqAt PyProof.Rows
theorem zJ9 (a b c:Value):checkTypeCall "zip" ⟨[a,b,c],[]⟩=pure ():=by kernel_rfl
theorem zN8 (a b c:Value):checkBuiltinCall "zip.__new__" ⟨[.type "zip", a,b,c],[]⟩=pure ():=by kernel_rfl
theorem zW6 (a b c d:Value):argsOk "object.__init__" ⟨[a,b,c,d],[]⟩:=by
 unfold argsOk
 rw [signature?_of (id := "object.__init__") (n:=['_','_','t','i','n','i','_','_']) (o:=['t','c','e','j','b','o'])
   (by kernel_rfl) F.owner_object]
 kernel_rfl
section
variable {prog:Program} {w:World} {A:Around} {E:Value→Shared→Prop} {s:Shared}
def NewZ (s:Shared) (rs:List Sr) (Q:Value→Shared→Prop):Prop:=∀ h2 z TI TO,z=s.heap.objs.size+rs.length+2→TI=s.heap.objs.size+rs.length→TO=s.heap.objs.size+rs.length+1→IsZip h2 z TI TO .none→TupAt h2 TI (zq0 (sbs s.heap.objs.size rs))→TupAt h2 TO ((zq0 (sbs s.heap.objs.size rs)).map fun _=>.none) →
      (∀ b∈sbs s.heap.objs.size rs,b.on 0 h2)→h2.objs.size=s.heap.objs.size+rs.length+3→(∀ c o,s.heap.get? c=some o→h2.get? c=some o)→Q (.ref z) { s with heap:=h2 }
theorem zS3 (rs:List Sr) (hn:rs.length=2∨rs.length=3) (x:∀ r∈rs,r.on s.heap) {Q:Value→Shared→Prop} (q:NewZ s rs Q):wpAny (model prog w) A (call (.type "zip") (rs.map fun r=>.ref r.l)) Q E s:=by
 have go:(∀ h2 z TI TO,z=s.heap.objs.size+rs.length+2→TI=s.heap.objs.size+rs.length→TO=s.heap.objs.size+rs.length+1→IsZip h2 z TI TO .none→TupAt h2 TI (zq0 (sbs s.heap.objs.size rs))→TupAt h2 TO ((zq0 (sbs s.heap.objs.size rs)).map fun _=>.none) →
   (∀ b∈sbs s.heap.objs.size rs,b.on 0 h2)→h2.objs.size=s.heap.objs.size+rs.length+3→(∀ c o,s.heap.get? c=some o→h2.get? c=some o)→wants (fun obj s₁=>s₁.TypeIs obj "zip" ∧ Q obj s₁) E (.ok (.ret (.ref z))) { s with heap:=h2 }):=by
  intro h2 z TI TO e1 e2 e3 g1 g2 g3 g4 g5 g6
  exact ⟨⟨_,g1,rfl⟩,q h2 z TI TO e1 e2 e3 g1 g2 g3 g4 g5 g6⟩
 match rs,hn,x,q,go with
 | [a,b],_,x,q,go=>exact callType_new F.called_zip (by decide) (F.typeCall_zip_2 _ _) (F.newCall_zip_2 _ _) (fun obj=>F.args_object_init_3 obj _ _) F.entry_zip_new (zz4 [a,b]) ⟨x,by simp,go⟩
 | [a,b,c],_,x,q,go=>exact callType_new F.called_zip (by decide) (zJ9 _ _ _) (zN8 _ _ _) (fun obj=>zW6 obj _ _ _) F.entry_zip_new (zz4 [a,b,c]) ⟨x,by simp,go⟩
 | [],h,_,_,_=>simp at h
 | [_],h,_,_,_=>simp at h
 | _::_::_::_::_,h,_,_,_=>simp at h
end
def zl7 (K:Frag) (H:Hp) (p:Nat×Bool) (vs:List V):Prop:=if p.2=true then SqT K H p.1 vs else SqL K H p.1 vs
noncomputable def Itz (K:Frag) (ps:List (Nat×Bool)):L2.It :=
  ⟨fun i H=>∃ vss,Paired (zl7 K H) ps vss∧∀ vs∈vss,i<vs.length,
   fun i H x H'=>∃ T row,H T=none∧x=.ref T∧H'=upd H T (.tup row)∧∀ vss,Paired (zl7 K H) ps vss→row=vss.map fun vs=>vs.getD i .non,
   fun i H=>∃ vss,Paired (zl7 K H) ps vss∧∃ vs∈vss,vs.length≤i⟩
section
variable {X:Cx} {pins:List (Addr×Obj)} {σ:L2.St} {H:Hp} {s:Shared}
theorem zl7.inj {p:Nat×Bool} {vs ws:List V} (I:Inv X pins σ H s) (h:zl7 X.K H p vs) (g:zl7 X.K H p ws):vs=ws:=by
 unfold zl7 at h g
 split at h
 ·rename_i ht;rw [if_pos ht] at g;exact I.tuple_inj h g
 ·rename_i ht;rw [if_neg ht] at g;exact I.list_inj h g
theorem zl7.injs (I:Inv X pins σ H s):∀ {ps:List (Nat×Bool)} {vss wss:List (List V)},Paired (zl7 X.K H) ps vss→Paired (zl7 X.K H) ps wss→vss=wss
 | _,_,_,.nil,.nil=>rfl
 | _,_,_,.cons a t,.cons b u=>by rw [zl7.inj I a b,zl7.injs I t u]
theorem zl7.src {p:Nat×Bool} {vs:List V} (I:Inv X pins σ H s) (h:zl7 X.K H p vs):∃ its:List Value,zh0 vs its∧(⟨p.1,p.2,its⟩:Sr).on s.heap∧vs.length≤sizeLine:=by
 unfold zl7 at h
 split at h
 ·rename_i ht
  obtain ⟨its,r,q,z⟩:=I.tuple h
  refine ⟨its,r,?_,z⟩
  unfold Sr.on
  rw [if_pos ht];exact q
 ·rename_i ht
  obtain ⟨its,r,q,z⟩:=I.list h
  refine ⟨its,r,?_,z⟩
  unfold Sr.on
  rw [if_neg ht];exact q.isList
theorem zl7.srcs (I:Inv X pins σ H s):∀ {ps:List (Nat×Bool)} {vss:List (List V)},Paired (zl7 X.K H) ps vss→∃ rs:List Sr,rs.map (fun r=>(r.l,r.tp))=ps∧Paired (fun vs (r:Sr)=>zh0 vs r.its) vss rs∧∀ r∈rs,r.on s.heap
 | [],[],.nil=>⟨[],rfl,.nil,by simp⟩
 | p::ps,vs::vss,.cons a t=>by
  obtain ⟨its,r,q,_⟩:=zl7.src I a
  obtain ⟨rs,e,pr,on⟩:=zl7.srcs I t
  refine ⟨⟨p.1,p.2,its⟩::rs,by simp [e],.cons r pr,fun r' hr=>?_⟩
  rcases List.mem_cons.mp hr with rfl | hr
  ·exact q
  ·exact on r' hr
theorem Inv.turnedL {t':Nat} {h':Heap} {ch:List Addr} (I:Inv X pins σ H s) (k:∀ b o,b∉ch→s.heap.get? b=some o→h'.get? b=some o) (hf:∀ b∈ch,zV7 X pins H b):Inv X pins σ H { s with heap:=h',toks:=t' }:=by
 refine I.step (g':=s.gens) (d':=s.drawn) (ch:=ch) (fun b hb=>?_) (fun b o _ _ hc e _=>k b o hc e) (fun b o _ _ hc e _=>⟨o.slots,k b o hc e⟩) (fun _ _ _ _ n=>n) (fun b o hc e=>⟨o,k b o hc e⟩)
  (fun _ _ e=>e) (fun _ _ _ e=>e) (fun b ps e=>⟨#[],by rw [e];simp⟩) (fun m hm=>?_) (fun b u e=>?_) I.bare
 ·obtain ⟨_,f1,_,f3,f4,f5⟩:=hf b hb
  exact ⟨f3,f1,f4,f5⟩
 ·obtain ⟨o,es,ep,ho,r⟩:=hm
  exact ⟨o,es,ep,k _ o (fun z=>(hf _ z).2.1 rfl) ho,r⟩
 ·have no:∀ c u,H c=some u→c∉ch:=fun c u e z=>by rw [(hf c z).1] at e;cases e
  refine (I.hok b u e).stay (fun c v hc q=>k c v ?_ q) (fun _ q=>q) fun _ _ q=>q
  rcases hc with z | z
  ·rw [z];exact no b u e
  ·exact no c _ z
end
def yj7 (it l:Nat) (tp:Bool) (i:Nat) (h:Heap):Prop:=if tp=true then h.IsTupleIter it l i else h.IsListIter it l i
theorem zH1 {b:Sb} {i:Nat} {h:Heap}:b.on i h↔yj7 b.it b.l b.tp i h∧(⟨b.l,b.tp,b.its⟩:Sr).on h:=by
 unfold Sb.on yj7 Sr.on
 by_cases ht:b.tp=true
 ·rw [if_pos ht,if_pos ht,if_pos ht]
 ·rw [if_neg ht,if_neg ht,if_neg ht]
theorem yj7.keep {it l:Nat} {tp:Bool} {i:Nat} {h h':Heap} (x:yj7 it l tp i h) (k:∀ o,h.get? it=some o→h'.get? it=some o):yj7 it l tp i h':=by
 unfold yj7 at *
 split at x
 ·rename_i ht;rw [if_pos ht];exact x.at k
 ·rename_i ht;rw [if_neg ht];exact x.at k
theorem yj7.obj {it l:Nat} {tp:Bool} {i:Nat} {h:Heap} (x:yj7 it l tp i h):∃ o,h.get? it=some o∧∀ v,o.data≠.cell v:=by
 unfold yj7 at x
 split at x
 ·obtain ⟨o,e,c,d⟩:=x;exact ⟨o,e,fun v z=>by rw [d] at z;cases z⟩
 ·obtain ⟨o,e,c,d⟩:=x;exact ⟨o,e,fun v z=>by rw [d] at z;cases z⟩
def ZTn (n0 z TI TO:Nat) (ps:List (Nat×Bool)) (i:Nat) (h:Heap):Prop :=
 IsZip h z TI TO .none∧TupAt h TI ((List.range ps.length).map fun k=>.ref (n0+k))∧(∃ ow:List Value,TupAt h TO ow∧ow.length=ps.length)∧∀ (k:Nat) p,ps[k]?=some p→yj7 (n0+k) p.1 p.2 i h
noncomputable def ZFp (n0 z TI TO:Nat) (n:Nat):List Nat:=z::TI::TO::(List.range n).map (n0 + ·)
theorem zq6 {n0:Nat} {rs:List Sr} {k:Nat}:(sbs n0 rs)[k]?=(rs[k]?).map fun r=>r.sb (n0+k):=by
 unfold sbs
 rw [List.getElem?_map,List.getElem?_zipIdx]
 cases rs[k]? <;> simp
theorem zN7 {n0:Nat} {rs:List Sr}:zq0 (sbs n0 rs)=(List.range rs.length).map fun k=>.ref (n0+k):=by
 refine List.ext_getElem? fun k=>?_
 unfold zq0
 rw [List.getElem?_map,zq6,List.getElem?_map]
 by_cases h:k<rs.length
 ·rw [List.getElem?_eq_getElem h,List.getElem?_range h];rfl
 ·rw [List.getElem?_eq_none (by lia),List.getElem?_eq_none (by simpa using h)];rfl
theorem zF9 {n0:Nat} {rs:List Sr}:(sbs n0 rs).length=rs.length:=by simp [sbs]
theorem zmem {n0 z TI TO b:Nat} {n:Nat} (h:b∈ZFp n0 z TI TO n):b=z∨b=TI∨b=TO∨∃ k,k<n∧b=n0+k:=by
 simp only [ZFp,List.mem_cons,List.mem_map,List.mem_range] at h
 rcases h with h | h | h | ⟨k,hk,e⟩
 ·exact .inl h
 ·exact .inr (.inl h)
 ·exact .inr (.inr (.inl h))
 ·exact .inr (.inr (.inr ⟨k,hk,e.symm⟩))
theorem get?_of_push {h:Heap} {o u:Obj} {b:Nat} (hb:b≠h.objs.size) (e:(h.push o).get? b=some u):h.get? b=some u:=by
 have hl:=Heap.lt_size e
 rw [Heap.size_push] at hl
 have hl:b<h.objs.size+1:=hl
 have hlt:b<h.objs.size:=by lia
 unfold Heap.get? Heap.push at *
 simp only [Array.getElem?_push] at e
 rw [if_neg (by lia)] at e
 exact e
theorem yD2 {n0 z TI TO:Nat} {ps:List (Nat×Bool)} {rs:List Sr} (hn:1≤ps.length∧ps.length≤3) (hz:z=n0+ps.length+2) (hTI:TI=n0+ps.length) (hTO:TO=n0+ps.length+1) (hlt:∀ p∈ps,p.1<n0) (e:rs.map (fun r=>(r.l,r.tp))=ps):ZAp z TI TO (sbs n0 rs):=by
 have hrl:rs.length=ps.length:=by rw [← e];simp
 have mem:∀ b∈sbs n0 rs,∃ k r,k<ps.length∧rs[k]?=some r∧b=r.sb (n0+k):=fun b hb=>by
  obtain ⟨k,hk,ek⟩:=List.getElem_of_mem hb
  have hg:=List.getElem?_eq_getElem hk
  rw [ek,zq6] at hg
  obtain ⟨r,hr,rfl⟩:=Option.map_eq_some_iff.mp hg
  exact ⟨k,r,by have:=(List.getElem?_eq_some_iff.mp hr).1;lia,hr,rfl⟩
 have ll:∀ r∈rs,@LT.lt Nat _ r.l n0:=fun r hr=>hlt (r.l,r.tp) (by rw [← e];exact List.mem_map.mpr ⟨r,hr,rfl⟩)
 refine ⟨fun h=>?_,by rw [zF9];lia,(show @Ne Nat TO z by lia),fun b hb=>?_,fun b hb=>?_,?_,(show @Ne Nat TI z by lia),(show @Ne Nat TI TO by lia)⟩
 ·have:rs.length=0:=by rw [← zF9 (n0:=n0),h];rfl
  lia
 ·obtain ⟨k,r,hk,hr,rfl⟩:=mem b hb
  exact ⟨(show @Ne Nat (n0+k) z by lia),(show @Ne Nat (n0+k) TO by lia),(show @Ne Nat (n0+k) TI by lia)⟩
 ·obtain ⟨k,r,hk,hr,rfl⟩:=mem b hb
  have:=ll r (List.mem_of_getElem? hr)
  refine ⟨?_,?_,fun c hc=>?_⟩
  ·show @Ne Nat r.l z;lia
  ·show @Ne Nat r.l TO;lia
  ·obtain ⟨k2,r2,_,_,rfl⟩:=mem c hc
   show @Ne Nat r.l (n0+k2);lia
 ·have:(sbs n0 rs).map Sb.it=(List.range rs.length).map (n0 + ·):=by
   refine List.ext_getElem? fun k=>?_
   rw [List.getElem?_map,zq6,List.getElem?_map]
   by_cases h:k<rs.length
   ·rw [List.getElem?_eq_getElem h,List.getElem?_range h];rfl
   ·rw [List.getElem?_eq_none (by lia),List.getElem?_eq_none (by simpa using h)];rfl
  rw [this]
  unfold List.Nodup
  rw [List.pairwise_map]
  exact List.nodup_range.imp fun h e=>h (Nat.add_left_cancel e)
theorem zon {n0:Nat} {ps:List (Nat×Bool)} {rs:List Sr} {i:Nat} {h:Heap} (e:rs.map (fun r=>(r.l,r.tp))=ps) (t4:∀ (k:Nat) p,ps[k]?=some p→yj7 (n0+k) p.1 p.2 i h) (on:∀ r∈rs,r.on h):∀ b∈sbs n0 rs,b.on i h:=fun b hb=>by
 obtain ⟨k,hk,ek⟩:=List.getElem_of_mem hb
 have hg:=List.getElem?_eq_getElem hk
 rw [ek,zq6] at hg
 obtain ⟨r,hr,rfl⟩:=Option.map_eq_some_iff.mp hg
 refine zH1.mpr ⟨?_,on r (List.mem_of_getElem? hr)⟩
 exact t4 k (r.l,r.tp) (by rw [← e,List.getElem?_map,hr];rfl)
theorem zrow {i:Nat}:∀ {vss:List (List V)} {rs:List Sr},Paired (fun vs (r:Sr)=>zh0 vs r.its) vss rs→(∀ vs∈vss,i<vs.length)→∃ (row:List V) (us:List Value),row=vss.map (fun vs=>vs.getD i .non)∧zh0 row us∧us.length=rs.length∧∀ (k:Nat) r,rs[k]?=some r→∃ x,r.its[i]?=some x∧us[k]?=some x
 | [],[],.nil,_=>⟨[],[],rfl,.nil,rfl,fun k r h=>by simp at h⟩
 | vs::vss,r::rs,.cons h t,hl=>by
  obtain ⟨row,us,e1,e2,e3,e4⟩:=zrow t fun v hv=>hl v (List.mem_cons_of_mem _ hv)
  have hi:=hl vs (by simp)
  obtain ⟨u,hu,ru⟩:=h.get (List.getElem?_eq_getElem hi)
  refine ⟨vs[i]::row,u::us,?_,.cons ru e2,by simp [e3],fun k r' hr=>?_⟩
  ·rw [List.map_cons,e1,List.getD_eq_getElem?_getD,List.getElem?_eq_getElem hi];rfl
  ·cases k with
   | zero=>simp at hr;subst hr;exact ⟨u,hu,rfl⟩
   | succ k =>
    obtain ⟨x,b1,b2⟩:=e4 k r' (by simpa using hr)
    exact ⟨x,b1,by simpa using b2⟩
theorem zend {n0:Nat} {i:Nat}:∀ {vss:List (List V)} {rs:List Sr},Paired (fun vs (r:Sr)=>zh0 vs r.its) vss rs→(∃ vs∈vss,vs.length≤i)→∃ b∈sbs n0 rs,b.its[i]?=none:=by
 intro vss rs h hv
 obtain ⟨vs,hm,hle⟩:=hv
 have:∃ r∈rs,r.its[i]?=none:=by
  clear n0
  induction h with
  | nil=>cases hm
  | cons hh t ih =>
   rcases List.mem_cons.mp hm with rfl | hm
   ·exact ⟨_,List.mem_cons_self,List.getElem?_eq_none (by have:=hh.length;lia)⟩
   ·obtain ⟨r,hr,e⟩:=ih hm
    exact ⟨r,List.mem_cons_of_mem _ hr,e⟩
 obtain ⟨r,hr,e⟩:=this
 obtain ⟨k,hk,ek⟩:=List.getElem_of_mem hr
 exact ⟨r.sb (n0+k),List.mem_of_getElem? (by rw [zq6,List.getElem?_eq_getElem hk,ek];rfl),e⟩
theorem yx6 {P:Program} {w:World} {K:Frag} {elts:List Expr} {x1} {pos:Pos} (n0 z TI TO:Nat) (ps:List (Nat×Bool)) (hn:1≤ps.length∧ps.length≤3) (hz:z=n0+ps.length+2) (hTI:TI=n0+ps.length) (hTO:TO=n0+ps.length+1) (hlt:∀ p∈ps,p.1<n0) :
  yH5 P w K (.Tuple elts x1 pos) (Itz K ps) (ZFp n0 z TI TO ps.length) z (ZTn n0 z TI TO ps) where
 mem:=by simp [ZFp]
 obj:=fun i h st b hb=>by
  obtain ⟨t1,t2,⟨ow,t3,_⟩,t4⟩:=st
  simp only [ZFp,List.mem_cons,List.mem_map,List.mem_range] at hb
  rcases hb with rfl | rfl | rfl | ⟨k,hk,rfl⟩
  ·exact ⟨_,t1,fun v e=>by cases e⟩
  ·exact ⟨_,t2,fun v e=>by cases e⟩
  ·exact ⟨_,t3,fun v e=>by cases e⟩
  ·exact (t4 k _ (List.getElem?_eq_getElem hk)).obj
 keep:=fun i h h' st k=>by
  obtain ⟨t1,t2,⟨ow,t3,t3'⟩,t4⟩:=st
  refine ⟨k z (by simp [ZFp]) _ t1,k TI (by simp [ZFp]) _ t2,⟨ow,k TO (by simp [ZFp]) _ t3,t3'⟩,fun j p hj=>(t4 j p hj).keep fun o e=>k _ ?_ o e⟩
  have:=(List.getElem?_eq_some_iff.mp hj).1
  simp only [ZFp,List.mem_cons,List.mem_map,List.mem_range]
  exact .inr (.inr (.inr ⟨j,this,rfl⟩))
 item:=by
  intro X hP hw hK hc i pins s σ H E I hf st hg
  subst hP hw hK
  obtain ⟨t1,t2,⟨ow,t3,t3'⟩,t4⟩:=st
  obtain ⟨vss,pr,hlen⟩:=hg
  obtain ⟨rs,ers,prs,on⟩:=zl7.srcs I pr
  have hrl:rs.length=ps.length:=by rw [← ers];simp
  have F:=yD2 hn hz hTI hTO hlt ers
  have hzl:z<s.heap.objs.size:=Heap.lt_size t1
  have hTOl:TO<s.heap.objs.size:=Heap.lt_size t3
  obtain ⟨row,vs,hrow,hvs,hvl,hget⟩:=zrow prs hlen
  refine zD2 (bs:=sbs n0 rs) (i:=i) (vs:=vs) (ow:=ow) F t1 (by rw [zN7,hrl];exact t2) t3 (by rw [t3',zF9,hrl]) (zon ers t4 on) (by rw [hvl,zF9]) (by
   intro k b hb
   rw [zq6] at hb
   obtain ⟨r,hr,rfl⟩:=Option.map_eq_some_iff.mp hb
   exact hget k r hr) fun h2 z2 to2 on2 tup2 sz2 kp2=>⟨_,rfl,?_⟩
  refine wpAny_letOwnedTupleGo_zip z2 fun h3 z3 s3=>?_
  have hTne:s.heap.objs.size≠z:=Nat.ne_of_gt hzl
  have hfresh:=I.fresh
  -- the new tuple laid,then the zip's own objects turned
  have hrz:row.length≤sizeLine:=by
   have e:=hvs.length
   have:sizeLine=16777216:=by decide
   lia
  have I1:Inv X pins σ (upd H s.heap.objs.size (.tup row)) { s with heap:=s.heap.push { cls:=.type "tuple", data:=.seq vs.toArray } } :=
   I.laid (t':=s.toks) (fun b o e=>Heap.get?_push_of_some _ e) (Nat.le_refl _) (show zk0 X.prog X.w _ _ _ (.tup row) from ⟨hrz,vs,hvs,zD4.new _ _⟩)
  have fpn:∀ b∈ZFp n0 z TI TO ps.length,b≠s.heap.objs.size:=fun b hb e=>by
   subst e
   rcases zmem hb with rfl | rfl | rfl | ⟨k,hk,e⟩
   ·exact hTne rfl
   ·exact absurd (Heap.lt_size t2) (by lia)
   ·exact absurd hTOl (by lia)
   ·obtain ⟨o,e1,_⟩:=(t4 k _ (List.getElem?_eq_getElem hk)).obj
    have:=Heap.lt_size e1
    lia
  have hf1:∀ b∈ZFp n0 z TI TO ps.length,zV7 X pins (upd H s.heap.objs.size (.tup row)) b:=fun b hb=>⟨by rw [zd7 (fpn b hb)];exact (hf b hb).1,(hf b hb).2⟩
  have I2:Inv X pins σ (upd H s.heap.objs.size (.tup row)) { s with heap:=h3 }:=by
   refine Inv.turnedL (s:={ s with heap:=s.heap.push { cls:=.type "tuple", data:=.seq vs.toArray } }) (t':=s.toks) (ch:=ZFp n0 z TI TO ps.length) I1 (fun b o hb e=>?_) hf1
   have nb:b≠z∧b≠TO∧∀ c∈sbs n0 rs,b≠c.it:=by
    refine ⟨fun e=>hb (by simp [ZFp,e]),fun e=>hb (by simp [ZFp,e]),fun c hc e=>hb ?_⟩
    obtain ⟨k,hk,ek⟩:=List.getElem_of_mem hc
    have hg:=List.getElem?_eq_getElem hk
    rw [ek,zq6] at hg
    obtain ⟨r,hr,rfl⟩:=Option.map_eq_some_iff.mp hg
    have hkl:=(List.getElem?_eq_some_iff.mp hr).1
    simp only [ZFp,List.mem_cons,List.mem_map,List.mem_range]
    exact .inr (.inr (.inr ⟨k,by lia,by rw [e];rfl⟩))
   by_cases hbs:b=s.heap.objs.size
   ·subst hbs
    have e:some { cls:=Value.type "tuple", data:=Data.seq vs.toArray }=some o:=by rw [← e];exact (Heap.get?_push_size _ rfl).symm
    cases e
    exact s3.extBut _ _ hTne tup2
   ·have e':s.heap.get? b=some o:=get?_of_push hbs e
    exact s3.extBut _ _ nb.1 (kp2 b o nb.1 nb.2.1 nb.2.2 e')
  refine ⟨.ref s.heap.objs.size,_,I2,rfl,⟨_,row,hfresh,rfl,rfl,fun wss pw=>?_⟩,⟨z3,?_,⟨vs,s3.extBut _ _ F.zT to2,by rw [hvl,hrl]⟩,?_⟩,fun b hb=>by rw [zd7 (fpn b hb)];exact (hf b hb).1⟩
  ·rw [hrow,zl7.injs I pw pr]
  ·have:=kp2 TI _ F.Tz.1 F.Tz.2 (fun b hb=>(F.iz b hb).2.2.symm) t2
   exact s3.extBut _ _ F.Tz.1 this
  ·intro k p hk
   have hr:∃ r,rs[k]?=some r∧(r.l,r.tp)=p:=by
    rw [← ers,List.getElem?_map] at hk
    obtain ⟨r,e1,e2⟩:=Option.map_eq_some_iff.mp hk
    exact ⟨r,e1,e2⟩
   obtain ⟨r,hr,rfl⟩:=hr
   have hb:(sbs n0 rs)[k]?=some (r.sb (n0+k)):=by rw [zq6,hr];rfl
   have hm:=List.mem_of_getElem? hb
   exact ((zH1.mp (on2 _ hm)).1).keep fun o e=>s3.extBut _ _ (F.iz _ hm).1 e
 done:=by
  intro X hP hw hK hc i pins s σ H E I hf st hg
  subst hP hw hK
  obtain ⟨t1,t2,⟨ow,t3,t3'⟩,t4⟩:=st
  obtain ⟨vss,pr,hend⟩:=hg
  obtain ⟨rs,ers,prs,on⟩:=zl7.srcs I pr
  have hrl:rs.length=ps.length:=by rw [← ers];simp
  have F:=yD2 hn hz hTI hTO hlt ers
  refine zG1 (bs:=sbs n0 rs) (i:=i) (ow:=ow) (I.ok.hd hc) F t1 (by rw [zN7,hrl];exact t2) t3 (by rw [t3',zF9,hrl]) (zon ers t4 on) (zend prs hend) fun h2 kp2=>⟨rfl,?_⟩
  refine Inv.turnedL (t':=s.toks) (ch:=ZFp n0 z TI TO ps.length) I (fun b o hb e=>?_) hf
  refine kp2 b o (fun e=>hb (by simp [ZFp,e])) (fun e=>hb (by simp [ZFp,e])) (fun c hc e=>hb ?_) e
  obtain ⟨k,hk,ek⟩:=List.getElem_of_mem hc
  have hg:=List.getElem?_eq_getElem hk
  rw [ek,zq6] at hg
  obtain ⟨r,hr,rfl⟩:=Option.map_eq_some_iff.mp hg
  have hkl:=(List.getElem?_eq_some_iff.mp hr).1
  simp only [ZFp,List.mem_cons,List.mem_map,List.mem_range]
  exact .inr (.inr (.inr ⟨k,by lia,by rw [e];rfl⟩))
 self:=fun _ _ _ _ _ st h=>wpAny_pyIter_zip st.1 h
open PySem L2 PySem.SeqAt PyProof.Rows
noncomputable def iZip (K:Frag) (ta:TA):TI:=fun σ H R=>ta σ H fun vs H1=>∃ ps:List (Nat×Bool),vs=ps.map (fun p=>V.ref p.1)∧(ps.length=2∨ps.length=3)∧∃ vss,Paired (zl7 K H1) ps vss∧((∀ vs∈vss,vs.length≤sizeLine)→R (Itz K ps) H1)
section
variable {X:Cx} {C:zb9} {e:Expr} {es elts:List Expr} {x1:Nat} {tpos pos p:Pos} {ta:TA} {irs:List E}
theorem zA4:∀ {ps:List (Nat×Bool)} {us:List Value},zh0 (ps.map fun p=>V.ref p.1) us→us=ps.map fun p=>Value.ref p.1
 | [],_,.nil=>rfl
 | p::ps,_,.cons r t=>by rw [zA4 t,show _=Value.ref p.1 from r];rfl
theorem zl7.sizes {pins:List (Addr×Obj)} {σ:L2.St} {H:Hp} {s:Shared} (I:Inv X pins σ H s):∀ {ps:List (Nat×Bool)} {vss:List (List V)},Paired (zl7 X.K H) ps vss→∀ vs∈vss,vs.length≤sizeLine
 | _,_,.nil=>fun vs h=>by cases h
 | _,_,.cons a t=>fun vs h=>by
  rcases List.mem_cons.mp h with rfl | h
  ·obtain ⟨_,_,_,z⟩:=zl7.src I a;exact z
  ·exact zl7.sizes I t vs h
theorem yV9 (hg:Gl X "zip") (hm:X.mg "zip" = none) (hv:bootBuiltins "zip" = some (.type "zip")) (ha:PA X (e::es) ta)
  (he:starEach (e::es) X.env=(false,eval e X.env)::starEach es X.env) (hpl:(backTo pos (starEach es X.env)).any (·.1)=false):PI X (.Tuple elts x1 tpos) (.Call (.Name "zip" p) (e::es) [] pos) (iZip X.K ta):=by
 intro pins s σ H R I h
 refine wpAny_Call_Name_kw (zw1 I hg hm hv ?_)
 refine PyProof.Rows.callWith_type1 (thn (ha pos pins s σ H _ I h) fun us s1 ⟨vs,H1,I1,r1,q1⟩=>?_) he hpl
 obtain ⟨ps,rfl,hn,vss,pr,hR⟩:=q1
 have hR:=hR (zl7.sizes I1 pr)
 have hus:=zA4 r1
 subst hus
 obtain ⟨rs,ers,prs,on⟩:=zl7.srcs I1 pr
 have hrl:rs.length=ps.length:=by rw [← ers];simp
 have eus:(ps.map fun p=>Value.ref p.1)=rs.map fun r=>Value.ref r.l:=by rw [← ers,List.map_map];rfl
 rw [eus]
 refine zS3 rs (by lia) on ?_
 intro h2 z TI TO e1 e2 e3 g1 g2 g3 g4 g5 g6
 refine wpAny_pyIter_zip g1 ?_
 have hlt:∀ p∈ps,p.1<s1.heap.objs.size:=fun p hp=>by
  rw [← ers] at hp
  obtain ⟨r,hr,rfl⟩:=List.mem_map.mp hp
  exact Sr.lt (on r hr)
 have hfp:∀ b∈ZFp s1.heap.objs.size z TI TO ps.length,s1.heap.objs.size≤b:=fun b hb=>by
  rcases zmem hb with rfl | rfl | rfl | ⟨k,hk,rfl⟩ <;> lia
 refine ⟨z,ZFp s1.heap.objs.size z TI TO ps.length,ZTn s1.heap.objs.size z TI TO ps,Itz X.K ps,H1,rfl,I1.kept (t':=s1.toks) g6,yx6 _ _ _ _ _ (by lia) (by lia) (by lia) (by lia) hlt,⟨g1,?_,⟨_,g3,?_⟩,fun k p hk=>?_⟩,fun b hb=>I1.fpOk (hfp b hb) (I1.hok.fresh (hfp b hb)),hR⟩
 ·rw [zN7,hrl] at g2;exact g2
 ·rw [List.length_map,zN7,List.length_map,List.length_range,hrl]
 ·rw [← ers,List.getElem?_map] at hk
  obtain ⟨r,c1,rfl⟩:=Option.map_eq_some_iff.mp hk
  have hb:(sbs s1.heap.objs.size rs)[k]?=some (r.sb (s1.heap.objs.size+k)):=by rw [zq6,c1];rfl
  exact (zH1.mp (g4 _ (List.mem_of_getElem? hb))).1
theorem yY0 {K:Frag} {α:Al} {st:za6} {H:Hp}:∀ {xs:List PV} {ls:List (List PV)} {ws:List V},xs.mapM zj2=some ls→Paired (RV K α st H) (xs.map .p) ws →
  ∃ (ps:List (Nat×Bool)) (vss:List (List V)),ws=ps.map (fun p=>V.ref p.1)∧ps.length=xs.length∧Paired (zl7 K H) ps vss∧Paired (fun (l:List PV) vs=>RPs K H (zf1 α st) l vs) ls vss ∧
   ∀ α' st' H',Lk K α st H α' st' H'→RSt K α' st' H'→Paired (zl7 K H') ps vss∧Paired (fun (l:List PV) vs=>RPs K H' (zf1 α' st') l vs) ls vss
 | [],ls,ws,h,pr=>by
  cases pr
  cases h
  exact ⟨[],[],rfl,rfl,.nil,.nil,fun _ _ _ _ _=>⟨.nil,.nil⟩⟩
 | x::xr,ls,ws,h,pr=>by
  rw [List.map_cons] at pr
  cases pr with
  | cons hv t =>
   rw [List.mapM_cons] at h
   cases e1:zj2 x with
   | none=>rw [e1] at h;cases h
   | some l =>
    rw [e1] at h
    cases e2:xr.mapM zj2 with
    | none=>rw [e2] at h;cases h
    | some lr =>
     rw [e2] at h
     cases h
     obtain ⟨ps,vss,rfl,hl,c1,c2,c3⟩:=yY0 e2 t
     cases x with
     | tup l' =>
      cases e1
      have hv:RP K H (zf1 α st) (.tup l) _:=hv
      rw [RP] at hv
      obtain ⟨a,vs,rfl,h1,h2⟩:=hv
      refine ⟨(a,true)::ps,vs::vss,rfl,by simp [hl],.cons (by unfold zl7;rw [if_pos rfl];exact h1) c1,.cons h2 c2,fun α' st' H' lk r'=>?_⟩
      obtain ⟨d1,d2⟩:=c3 α' st' H' lk r'
      exact ⟨.cons (by unfold zl7;rw [if_pos rfl];exact lk.tup a vs h1) d1,.cons (lk.rps h2) d2⟩
     | lst l' =>
      cases e1
      have hv:RP K H (zf1 α st) (.lst l) _:=hv
      rw [RP] at hv
      obtain ⟨a,vs,rfl,h1,h0,h2⟩:=hv
      refine ⟨(a,false)::ps,vs::vss,rfl,by simp [hl],.cons (by unfold zl7;rw [if_neg (by simp)];exact h1) c1,.cons h2 c2,fun α' st' H' lk r'=>?_⟩
      obtain ⟨d1,d2⟩:=c3 α' st' H' lk r'
      exact ⟨.cons (by unfold zl7;rw [if_neg (by simp)];exact (lk.lst a vs h1 h0).1) d1,.cons (lk.rps h2) d2⟩
     | _=>cases e1
theorem yR5 {K:Frag} {H:Hp} {lv:Addr→Prop} {i:Nat}:∀ {ls:List (List PV)} {vss:List (List V)},Paired (fun (l:List PV) vs=>RPs K H lv l vs) ls vss→(∀ l∈ls,i<l.length) →
  RPs K H lv (ls.map fun l=>l.getD i .non) (vss.map fun vs=>vs.getD i .non)
 | _,_,.nil,_=>by simp [RPs]
 | l::ls,vs::vss,.cons h t,hl=>by
  have hi:=hl l (by simp)
  obtain ⟨v,hv,rp⟩:=h.get (List.getElem?_eq_getElem hi)
  rw [List.map_cons,List.map_cons,RPs]
  refine ⟨_,_,rfl,?_,yR5 t fun l' h'=>hl l' (List.mem_cons_of_mem _ h')⟩
  rw [List.getD_eq_getElem?_getD,List.getD_eq_getElem?_getD,hv,List.getElem?_eq_getElem hi]
  exact rp
theorem zZ6 {ls:List (List PV)} (hn:ls.length=2∨ls.length=3) (i:Nat):i<(zk9 ls).length↔∀ l∈ls,i<l.length:=by
 match ls,hn with
 | [a,b],_=>simp [zk9];lia
 | [a,b,c],_=>simp [zk9];lia
 | [],h=>simp at h
 | [_],h=>simp at h
 | _::_::_::_::_,h=>simp at h
theorem yF8 {ls:List (List PV)} (hn:ls.length=2∨ls.length=3) {i:Nat} {x:PV} (h:(zk9 ls)[i]?=some x):x=.tup (ls.map fun l=>l.getD i .non):=by
 have hi:=(zZ6 hn i).mp (List.getElem?_eq_some_iff.mp h).1
 match ls,hn with
 | [a,b],_ =>
  have ha:=hi a (by simp)
  have hb:=hi b (by simp)
  simp only [zk9,List.getElem?_map,Option.map_eq_some_iff] at h
  obtain ⟨⟨u,v⟩,h1,rfl⟩:=h
  obtain ⟨h2,h3⟩:=List.getElem?_zip_eq_some.mp h1
  simp [h2,h3]
 | [a,b,c],_ =>
  have ha:=hi a (by simp)
  have hb:=hi b (by simp)
  have hc:=hi c (by simp)
  simp only [zk9,List.getElem?_map,Option.map_eq_some_iff] at h
  obtain ⟨⟨u,v,y⟩,h1,rfl⟩:=h
  obtain ⟨h2,h3⟩:=List.getElem?_zip_eq_some.mp h1
  obtain ⟨h4,h5⟩:=List.getElem?_zip_eq_some.mp h3
  simp [h2,h4,h5]
 | [],h=>simp at h
 | [_],h=>simp at h
 | _::_::_::_::_,h=>simp at h
end
open PySem L2 PySem.SeqAt PyProof.Rows
section
variable {X:Cx} {C:zb9} {pos:Pos}
end
theorem len0 {fd:FuncData} {ps:List Str} (h:bindArgs fd ⟨[],[]⟩=pure (ps.zip [])):∀ us:List Value,us.length=0→bindArgs fd ⟨us,[]⟩=pure (ps.zip us)
 | [],_=>h
theorem yo0 {fd:FuncData} {ps:List Str} (h:∀ a,bindArgs fd ⟨[a],[]⟩=pure (ps.zip [a])):∀ us:List Value,us.length=1→bindArgs fd ⟨us,[]⟩=pure (ps.zip us)
 | [a],_=>h a
theorem yt6 {fd:FuncData} {ps:List Str} (h:∀ a b,bindArgs fd ⟨[a,b],[]⟩=pure (ps.zip [a,b])):∀ us:List Value,us.length=2→bindArgs fd ⟨us,[]⟩=pure (ps.zip us)
 | [a,b],_=>h a b
theorem xb3 {fd:FuncData} {ps:List Str} (h:∀ a b c,bindArgs fd ⟨[a,b,c],[]⟩=pure (ps.zip [a,b,c])):∀ us:List Value,us.length=3→bindArgs fd ⟨us,[]⟩=pure (ps.zip us)
 | [a,b,c],_=>h a b c
theorem yZ3 {fd:FuncData} {ps:List Str} (h:∀ a b c d,bindArgs fd ⟨[a,b,c,d],[]⟩=pure (ps.zip [a,b,c,d])):∀ us:List Value,us.length=4→bindArgs fd ⟨us,[]⟩=pure (ps.zip us)
 | [a,b,c,d],_=>h a b c d
theorem len5 {fd:FuncData} {ps:List Str} (h:∀ a b c d e,bindArgs fd ⟨[a,b,c,d,e],[]⟩=pure (ps.zip [a,b,c,d,e])):∀ us:List Value,us.length=5→bindArgs fd ⟨us,[]⟩=pure (ps.zip us)
 | [a,b,c,d,e],_=>h a b c d e
open PySem L2 PySem.SeqAt PyProof.Rows
section
variable {X:Cx} {pins:List (Addr×Obj)} {σ:L2.St} {H:Hp} {s:Shared} {scope:Scope} {N:List Str} {cl:List (Str×Addr)} {fp:List Addr} {caps:List Nat}
end
section
variable {X:Cx} {elt iter tg:Expr} {ifs:List Expr} {scope:Scope} {pos:Pos} {N:List Str} {caps:List Nat} {n:Nat} {wi:TI} {g:TG} {tc:TT} {te:TE}
end
section
variable {X:Cx} {C:zb9} {elt iter tg:Expr} {ifs:List Expr} {ielt:E} {it:It} {t:Tg} {scope:Scope} {pos:Pos} {N:List Str} {caps:List Nat} {n:Nat}
end
open PySem L2 PySem.SeqAt PyProof.Rows
section
variable {prog:Program} {w:World} {A:Around} {E:Value→Shared→Prop}
end
section
variable {X:Cx} {C:zb9} {W:Nat} {pos:Pos}
end
open PySem L2 PySem.SeqAt PyProof.Rows
theorem zO2 {i x:Int}:∀ {d:List Int},x∈zV8 i d↔x=i∨x∈d
 | []=>by simp [zV8]
 | y::r=>by
  rw [zV8]
  split
  ·simp
  ·split
   ·rw [List.mem_cons,zO2 (d:=r),List.mem_cons]
    constructor
    ·rintro (h | h | h)
     ·exact .inr (.inl h)
     ·exact .inl h
     ·exact .inr (.inr h)
    ·rintro (h | h | h)
     ·exact .inr (.inl h)
     ·exact .inl h
     ·exact .inr (.inr h)
   ·have:i=y:=by lia
    subst this
    simp
theorem ym9 {i:Int}:∀ {d:List Int},d.Pairwise (· < ·)→(zV8 i d).Pairwise (· < ·)
 | [],_=>by simp [zV8]
 | y::r,h=>by
  rw [List.pairwise_cons] at h
  rw [zV8]
  split
  ·rename_i c
   rw [List.pairwise_cons,List.pairwise_cons]
   refine ⟨fun x hx=>?_,h⟩
   rcases List.mem_cons.mp hx with rfl | hx
   ·exact c
   ·have:=h.1 x hx;lia
  ·split
   ·rename_i c
    rw [List.pairwise_cons]
    refine ⟨fun x hx=>?_,ym9 h.2⟩
    rcases zO2.mp hx with rfl | hx
    ·exact c
    ·exact h.1 x hx
   ·rw [List.pairwise_cons];exact h
theorem yl4 (ns:List Int):(ns.foldl (fun d i=>zV8 i d) []).Pairwise (· < ·)∧∀ x,x∈ns.foldl (fun d i=>zV8 i d) []↔x∈ns:=by
 have:∀ (ns d:List Int),d.Pairwise (· < ·)→(ns.foldl (fun d i=>zV8 i d) d).Pairwise (· < ·)∧∀ x,x∈ns.foldl (fun d i=>zV8 i d) d↔x∈d∨x∈ns:=by
  intro ns
  induction ns with
  | nil=>intro d h;exact ⟨h,fun x=>by simp⟩
  | cons i r ih =>
   intro d h
   obtain ⟨a,b⟩:=ih _ (ym9 (i:=i) h)
   refine ⟨a,fun x=>?_⟩
   rw [List.foldl_cons,b,zO2,List.mem_cons]
   constructor
   ·rintro ((h | h) | h)
    ·exact .inr (.inl h)
    ·exact .inl h
    ·exact .inr (.inr h)
   ·rintro (h | h | h)
    ·exact .inl (.inr h)
    ·exact .inl (.inl h)
    ·exact .inr h
 obtain ⟨a,b⟩:=this ns [] .nil
 exact ⟨a,fun x=>by rw [b];simp⟩
theorem yD6:∀ {a b:List Int},a.Pairwise (· < ·)→b.Pairwise (· < ·)→(∀ x,x∈a↔x∈b)→a=b
 | [],[],_,_,_=>rfl
 | [],y::_,_,_,h=>by have:=(h y).mpr (by simp);cases this
 | x::_,[],_,_,h=>by have:=(h x).mp (by simp);cases this
 | x::r,y::q,ha,hb,h=>by
  rw [List.pairwise_cons] at ha hb
  have e:x=y:=by
   rcases List.mem_cons.mp ((h x).mp (by simp)) with e | e
   ·exact e
   ·rcases List.mem_cons.mp ((h y).mpr (by simp)) with e2 | e2
    ·exact e2.symm
    ·have:=hb.1 x e;have:=ha.1 y e2;lia
  subst e
  congr 1
  refine yD6 ha.2 hb.2 fun z=>?_
  constructor
  ·intro hz
   rcases List.mem_cons.mp ((h z).mp (List.mem_cons_of_mem _ hz)) with e | e
   ·have:=ha.1 z hz;lia
   ·exact e
  ·intro hz
   rcases List.mem_cons.mp ((h z).mpr (List.mem_cons_of_mem _ hz)) with e | e
   ·have:=hb.1 z hz;lia
   ·exact e
theorem yX9:∀ {l:List Int},l.Pairwise (·≤·)→l.Nodup→l.Pairwise (· < ·)
 | [],_,_=>.nil
 | x::r,h,n=>by
  rw [List.pairwise_cons] at h ⊢
  rw [List.nodup_cons] at n
  refine ⟨fun y hy=>?_,yX9 h.2 n.2⟩
  have:=h.1 y hy
  have:x≠y:=fun e=>n.1 (e▸hy)
  lia
theorem yq9 {K:Type} [DecidableEq K]:∀ {ks l:List K},ks.Nodup→(∀ k∈ks,k∈l)→ks.length≤l.length
 | [],l,_,_=>Nat.zero_le _
 | k::r,l,nd,hm=>by
  rw [List.nodup_cons] at nd
  have hk:=hm k (by simp)
  have hl:=List.length_erase_of_mem hk
  have hp:0<l.length:=List.length_pos_of_mem hk
  have:=yq9 (l:=l.erase k) nd.2 fun j hj=>by
   have hne:j≠k:=fun e=>nd.1 (e▸hj)
   exact (List.mem_erase_of_ne hne).mpr (hm j (List.mem_cons_of_mem _ hj))
  rw [List.length_cons]
  lia
theorem yr8 (ns:List Int):(HT.once ns).length=(ns.foldl (fun d i=>zV8 i d) []).length:=by
 obtain ⟨a,b⟩:=yl4 ns
 refine (HT.perm_of_sub (a.imp fun h e=>by rw [e] at h;exact Int.lt_irrefl _ h) (fun k hk=>(HT.once_mem ns k).mpr ((b k).mp hk)) ?_).length_eq
 have nd:=HT.once_nodup ns
 exact yq9 nd fun k hk=>(b k).mpr ((HT.once_mem ns k).mp hk)
theorem zZ0 {ns ms:List Int} (hp:ms.Perm (HT.once ns)) (hs:ms.Pairwise (·≤·)):ms=ns.foldl (fun d i=>zV8 i d) []:=by
 obtain ⟨a,b⟩:=yl4 ns
 refine yD6 (yX9 hs (hp.nodup_iff.mpr (HT.once_nodup ns))) a fun x=>?_
 rw [hp.mem_iff,HT.once_mem,b]
theorem yb1:∀ a b:List Nat,strLt a b=PySem.Spec.ltCps a b
 | [],[]=>by rw [strLt];rfl
 | [],_::_=>by rw [strLt];rfl
 | _::_,[]=>by rw [strLt];rfl
 | x::r,y::s=>by
  rw [strLt,yb1 r s]
  simp only [PySem.Spec.ltCps]
  by_cases c:x<y
  ·simp [c]
  ·by_cases c2:y<x
   ·simp [c,c2];lia
   ·have:x=y:=by lia
    subst this
    simp
theorem zI7:∀ {p:Str} {l:List Str},risingS p l=true→∀ x∈l,strLt x.cps.toList p.cps.toList=false
 | p,[],_,x,hx=>by cases hx
 | p,y::r,h,x,hx=>by
  rw [risingS,Bool.and_eq_true,Bool.not_eq_true',← yb1] at h
  rcases List.mem_cons.mp hx with rfl | hx
  ·exact h.1
  ·have h2:=zI7 h.2 x hx
   cases c:strLt x.cps.toList p.cps.toList with
   | false=>rfl
   | true =>
    exfalso
    cases c2:strLt p.cps.toList y.cps.toList with
    | true=>have:=zv9 c c2;rw [h2] at this;cases this
    | false=>have e:=zu7 h.1 c2;rw [e,c] at h2;cases h2
theorem zU5:∀ {l:List Str},sortedS l=true→l.Nodup→(l.map fun s=>s.cps.toList).Pairwise (fun a b=>strLt a b=true)
 | [],_,_=>.nil
 | x::r,h,n=>by
  have h:risingS x r=true:=h
  rw [List.nodup_cons] at n
  rw [List.map_cons,List.pairwise_cons]
  refine ⟨fun y hy=>?_,zU5 ?_ n.2⟩
  ·obtain ⟨s,hs,rfl⟩:=List.mem_map.mp hy
   have h1:=zI7 h s hs
   cases c:strLt x.cps.toList s.cps.toList with
   | true=>rfl
   | false =>
    have e:=zu7 c h1
    have:x=s:=by
     cases x;cases s
     simp only [Str.mk.injEq]
     exact Array.toList_inj.mp e
    exact (n.1 (this▸hs)).elim
  ·cases r with
   | nil=>rfl
   | cons y q =>
    rw [risingS,Bool.and_eq_true] at h
    exact h.2
theorem zS6 {ls:List (List Nat)} {ms:List Str} (hp:ms.Perm (HT.once (ls.map txt))) (hs:sortedS ms=true):ms=(ls.foldl (fun d i=>zJ2 i d) []).map txt:=by
 obtain ⟨a,b⟩:=zE2 ls
 have hn:=hp.nodup_iff.mpr (HT.once_nodup (ls.map txt))
 have e:(ms.map fun s=>s.cps.toList)=ls.foldl (fun d i=>zJ2 i d) []:=by
  refine zZ7 (zU5 hs hn) a fun x=>?_
  rw [b,List.mem_map]
  constructor
  ·rintro ⟨s,h1,rfl⟩
   obtain ⟨c,hc,rfl⟩:=List.mem_map.mp ((HT.once_mem _ _).mp (hp.mem_iff.mp h1))
   simpa [txt] using hc
  ·intro hx
   exact ⟨txt x,hp.mem_iff.mpr ((HT.once_mem _ _).mpr (List.mem_map_of_mem hx)),by simp [txt]⟩
 rw [← e,List.map_map]
 have:(txt∘fun s:Str=>s.cps.toList)=fun s=>s:=by
  funext s
  simp [txt]
 rw [this,List.map_id']
theorem yj1 (ls:List (List Nat)):(HT.once (ls.map txt)).length=(ls.foldl (fun d i=>zJ2 i d) []).length:=by
 obtain ⟨a,b⟩:=zE2 ls
 have inj:∀ {x y:List Nat},txt x=txt y→x=y:=fun {x y} h=>by
  have:=congrArg (fun s:Str=>s.cps.toList) h
  simpa [txt] using this
 have nd:((ls.foldl (fun d i=>zJ2 i d) []).map txt).Nodup:=by
  refine List.Pairwise.map _ (fun x y h e=>?_) a
  have:=inj e
  subst this
  rw [zA2] at h;cases h
 have h1:∀ k∈(ls.foldl (fun d i=>zJ2 i d) []).map txt,k∈HT.once (ls.map txt):=fun k hk=>by
  obtain ⟨c,hc,rfl⟩:=List.mem_map.mp hk
  exact (HT.once_mem _ _).mpr (List.mem_map_of_mem ((b c).mp hc))
 have h2:(HT.once (ls.map txt)).length≤((ls.foldl (fun d i=>zJ2 i d) []).map txt).length :=
  yq9 (HT.once_nodup _) fun k hk=>by
   obtain ⟨c,hc,rfl⟩:=List.mem_map.mp ((HT.once_mem _ _).mp hk)
   exact List.mem_map_of_mem ((b c).mpr hc)
 have:=(HT.perm_of_sub nd h1 h2).length_eq
 rwa [List.length_map] at this
section
variable {X:Cx} {C:zb9} {e:Expr} {ie:E} {pos p pos' p':Pos}
theorem yp0 {pins:List (Addr×Obj)} {σ:List (Option V)} {H:Hp} {s:Shared} (I:Inv X pins σ H s) (d:Drawn):Inv X pins σ H { s with drawn:=d } :=
 ⟨I.ok,I.os,I.bare,I.base,I.loc,I.cell,I.free,I.freeC,I.pin,I.hok,I.len⟩
theorem ym5:∀ {its:List Value} {ns:List Int},IntsAre its ns→zh0 (ns.map V.int) its
 | _,_,.nil=>.nil
 | _,_,.cons n t h=>.cons ⟨t,rfl⟩ (ym5 h)
theorem zC7:∀ {ps:List (Int×Tok)},IntsAre (ps.map fun p=>Value.int p.1 p.2) (ps.map (·.1))
 | []=>.nil
 | p::r=>.cons p.1 p.2 zC7
theorem yd1 {K:Frag} {H:Hp} {lv:Addr→Prop}:∀ {ns:List Int},RPs K H lv (ns.map .int) (ns.map .int)
 | []=>by rw [List.map_nil,RPs];rfl
 | n::r=>by
  rw [List.map_cons,RPs]
  exact ⟨_,_,rfl,by rw [RP],yd1⟩
theorem zO3:∀ {its:List Value} {ns:List Str},StrsAre its ns→zh0 (ns.map V.str) its
 | _,_,.nil=>.nil
 | _,_,.cons x t h=>.cons ⟨t,rfl⟩ (zO3 h)
theorem zN9 {K:Frag} {H:Hp} {lv:Addr→Prop}:∀ {ls:List (List Nat)} {vs:List V},RPs K H lv (ls.map .str) vs→∀ c∈ls,c.length≤sizeLine
 | [],vs,h,c,hc=>by cases hc
 | b::r,vs,h,c,hc=>by
  rw [List.map_cons,RPs] at h
  obtain ⟨v,vr,rfl,h1,h2⟩:=h
  rw [RP] at h1
  rcases List.mem_cons.mp hc with rfl | hc
  ·exact h1.2
  ·exact zN9 h2 c hc
theorem zG4 {K:Frag} {H:Hp} {lv:Addr→Prop}:∀ {ls:List (List Nat)},(∀ c∈ls,c.length≤sizeLine)→RPs K H lv (ls.map .str) (ls.map fun c=>V.str (txt c))
 | [],_=>by rw [List.map_nil,RPs];rfl
 | n::r,h=>by
  rw [List.map_cons,RPs]
  exact ⟨_,_,rfl,by rw [RP];exact ⟨rfl,h n (by simp)⟩,zG4 fun c hc=>h c (List.mem_cons_of_mem _ hc)⟩
theorem yo4 (hc:X.calm=true) (pins:List (Addr×Obj)) (s:Shared) (σ:L2.St) (H:Hp) (ws:List V) (us:List Value) (Q:VK) (I:Inv X pins σ H s) (rs:zh0 ws us)
  (h:∃ α st xs z,RSt X.K α st H∧Paired (RW X.K α st H) xs ws∧f1 (zJ7 zm6) xs=some z∧∀ w H',zl3 H H'→RP X.K H' (zf1 α st) z w→Q w H') :
  wpAny (model X.prog X.w) X.A (call (.type "set") us) (fun u s1=>wpAny (model X.prog X.w) X.A (call (.builtin "sorted") [u]) (EP X pins σ Q) X.xe s1) X.xe s:=by
 obtain ⟨α,st,xs,z,r,pr,hz,q⟩:=h
 cases pr with
 | nil=>cases hz
 | cons h t =>
  cases t with
  | cons _ _=>cases hz
  | nil =>
   rename_i x w
   cases x with
   | lst l =>
    have hz:zm6 l=some z:=hz
    unfold zm6 at hz
    cases hi:zy4 l with
    | some ns =>
     rw [hi] at hz
     dsimp only at hz
     by_cases c:ns.length<4000∧(ns.foldl (fun d i=>zV8 i d) []).length<64
     ·rw [if_pos c] at hz
      have hz2:=Option.some.inj hz
      have el:=yp6 hi
      subst el
      obtain ⟨a,vs,rfl,h1,h2⟩:=h.lst
      cases rs with
      | cons ra rt =>
       cases rt
       obtain rfl:=(show _=Value.ref a from ra)
       obtain ⟨its,r1,pl,_⟩:=I.list h1
       have ev:=yc8 h2
       subst ev
       obtain ⟨ps,rfl,hps⟩:=zM5 r1
       have hpl:ps.length=ns.length:=by have:=congrArg List.length hps;simpa using this
       have hia:IntsAre (ps.map fun p=>Value.int p.1 p.2) ns:=by
        have:=zC7 (ps:=ps)
        rwa [hps] at this
       have hh:=I.ok.hd hc
       refine HT.call_setI (ns:=ns) hh pl.isList (by simpa using hia) (by simp only [List.size_toArray,List.length_map];unfold scanBound;lia) fun h' tk S1 k1=>?_
       have ol:=yr8 ns
       refine HT.sorted_set (s:={ s with heap:=h',toks:=tk }) hh S1 (HT.once_nodup ns) (by lia) fun out ms L h2 d tk2 c2 o1 o2 o3 o4 o5 o6=>?_
       have em:=zZ0 o2 o3
       have k2:∀ b u,s.heap.get? b=some u→h2.get? b=some u:=fun b u e=>o6 b u (k1 b u (Heap.lt_size e) e)
       have hLL:s.heap.objs.size≤L:=by
        obtain ⟨os,_,_,_,go,_⟩:=S1
        exact Nat.le_trans (Nat.le_of_lt (Heap.lt_size go)) o4
       have hv:zh0 (ms.map V.int) out:=ym5 o1
       have hln:(ms.map V.int).length≤sizeLine:=by
        rw [List.length_map,o2.length_eq]
        exact Nat.le_trans (show _≤64 by lia) (by decide)
       have I2:=(yp0 I d).laid (a:=L) (o:=.lst (ms.map V.int)) (h':=h2) (t':=tk2) k2 hLL (show zk0 X.prog X.w _ h2 _ (.lst (ms.map V.int)) from ⟨hln,out,c2,hv,o5⟩)
       have hf:H L=none:=I.hok.fresh hLL
       have s1:zl3 H (upd H L (.lst (ms.map V.int))):=ze8 hf _
       refine ⟨.ref L,_,I2,rfl,q _ _ s1 ?_⟩
       rw [← hz2,← em,RP]
       exact ⟨L,_,rfl,SqL.of zd3,r.notlive hf,yd1⟩
     ·rw [if_neg c] at hz;cases hz
    | none =>
     rw [hi] at hz
     dsimp only at hz
     cases hs:zw2 l with
     | none=>rw [hs] at hz;cases hz
     | some ls =>
      rw [hs] at hz
      dsimp only at hz
      by_cases c:ls.length<4000∧(ls.foldl (fun d i=>zJ2 i d) []).length<64
      ·rw [if_pos c] at hz
       have hz2:=Option.some.inj hz
       have el:=zW0 hs
       subst el
       obtain ⟨a,vs,rfl,h1,h2⟩:=h.lst
       cases rs with
       | cons ra rt =>
        cases rt
        obtain rfl:=(show _=Value.ref a from ra)
        obtain ⟨its,r1,pl,_⟩:=I.list h1
        have hlen:=zN9 h2
        have ev:=zM9 h2
        subst ev
        have sa:=zF0 r1
        have hil:its.length=ls.length:=by have:=HT.strs_len sa;simpa using this.symm
        have hh:=I.ok.hd hc
        refine HT.call_setS (ss:=ls.map txt) hh pl.isList (by simpa using sa) (by simp only [List.size_toArray];unfold scanBound;lia) fun h' tk S1 k1=>?_
        have ol:=yj1 ls
        refine HT.sorted_setS (s:={ s with heap:=h',toks:=tk }) hh S1 (HT.once_nodup _) (by lia) fun out ms L h2 d tk2 c2 o1 o2 o3 o4 o5 o6=>?_
        have em:=zS6 o2 o3
        have k2:∀ b u,s.heap.get? b=some u→h2.get? b=some u:=fun b u e=>o6 b u (k1 b u (Heap.lt_size e) e)
        have hLL:s.heap.objs.size≤L:=by
         obtain ⟨os,_,_,_,go,_⟩:=S1
         exact Nat.le_trans (Nat.le_of_lt (Heap.lt_size go)) o4
        have hml:ms.length≤64:=by rw [o2.length_eq];lia
        have fm:=(zE2 ls).2
        generalize ls.foldl (fun d i=>zJ2 i d) []=fs at em fm hz2
        have hv:zh0 (fs.map fun c=>V.str (txt c)) out:=by
         have:=zO3 o1
         rwa [em,List.map_map] at this
        have hln:(fs.map fun c=>V.str (txt c)).length≤sizeLine:=by
         rw [em,List.length_map] at hml
         rw [List.length_map]
         exact Nat.le_trans hml (by decide)
        have I2:=(yp0 I d).laid (a:=L) (o:=.lst (fs.map fun c=>V.str (txt c))) (h':=h2) (t':=tk2) k2 hLL (show zk0 X.prog X.w _ h2 _ (.lst (fs.map fun c=>V.str (txt c))) from ⟨hln,out,c2,hv,o5⟩)
        have hf:H L=none:=I.hok.fresh hLL
        have s1:zl3 H (upd H L (.lst (fs.map fun c=>V.str (txt c)))):=ze8 hf _
        refine ⟨.ref L,_,I2,rfl,q _ _ s1 ?_⟩
        rw [← hz2,RP]
        exact ⟨L,_,rfl,SqL.of zd3,r.notlive hf,zG4 fun c hc=>hlen c ((fm c).mp hc)⟩
      ·rw [if_neg c] at hz;cases hz
   | _=>cases hz
theorem yi1 {irs:List E} {ir:E} (hc:X.calm=true) (hi:∀ env st,evalE C ir env st=(evalEs C irs env st).bind fun vs st=>opN (f1 (zJ7 zm6)) vs st) (hg:Gl X "sorted") (hm:X.mg "sorted" = none) (hg2:Gl X "set") (hm2:X.mg "set" = none) (ha:SA X C [e] irs)
  (he:starEach [e] X.env=(false,eval e X.env)::starEach [] X.env) (hpl:(backTo pos' (starEach [] X.env)).any (·.1)=false)
  (he2:starEach [.Call (.Name "set" p') [e] [] pos'] X.env=(false,eval (.Call (.Name "set" p') [e] [] pos') X.env)::starEach [] X.env) (hpl2:(backTo pos (starEach [] X.env)).any (·.1)=false) :
  SE X C (.Call (.Name "sorted" p) [.Call (.Name "set" p') [e] [] pos'] [] pos) ir:=by
 have key:PE X (.Call (.Name "sorted" p) [.Call (.Name "set" p') [e] [] pos'] [] pos) (tCB (fun ws H Q=>∃ α st xs z,RSt X.K α st H∧Paired (RW X.K α st H) xs ws∧f1 (zJ7 zm6) xs=some z∧∀ w H',zl3 H H'→RP X.K H' (zf1 α st) z w→Q w H') (tPs X.K C irs)):=by
  intro pins s σ H Q I h
  refine wpAny_Call_Name_kw (zw1 I hg hm (u:=.builtin "sorted") rfl ?_ (by decide) (by decide))
  refine PyProof.Rows.callWith_builtin1 ?_ he2 hpl2
  rw [he2]
  show wpAny _ _ (spliced ((false,eval (.Call (.Name "set" p') [e] [] pos') X.env)::backTo pos (starEach [] X.env))) _ _ s
  refine Calls.spliced_cons ?_
  refine wpAny_Call_Name_kw (zw1 I hg2 hm2 (u:=.type "set") rfl ?_ (by decide) (by decide))
  refine PyProof.Rows.callWith_type1 (thn (ha pos' pins s σ H _ I h) fun us s1 h_=>?_) he hpl
  obtain ⟨vs,H1,I1,r1,q1⟩:=h_
  refine thn (yo4 hc pins s1 σ H1 vs us Q I1 r1 q1) fun u s2 h2=>?_
  exact Calls.spliced_nil h2
 exact PE.mono key fun _ _ _ h=>zI1 hi h
end
open PySem L2 PySem.SeqAt PyProof.Rows
theorem yk2 {K:Frag} {α:Al} {st:za6} {H:Hp} {v:Val} {x:PV} {xs:List PV} {w:V} (r:RSt K α st H) (hv:view st v=some x) (hz:zj2 x=some xs) (h:RV K α st H v w) :
  ∃ (p:Nat×Bool) (vs:List V),w=V.ref p.1∧zl7 K H p vs∧RPs K H (zf1 α st) xs vs ∧
   ∀ α' st' H',Lk K α st H α' st' H'→RSt K α' st' H'→zw5 st' (zw0 v xs)=true→∃ vs',zl7 K H' p vs'∧RPs K H' (zf1 α' st') xs vs':=by
 cases v with
 | p y =>
  cases hv
  cases x with
  | tup l =>
   cases hz
   have h:RP K H (zf1 α st) (.tup xs) w:=h
   rw [RP] at h
   obtain ⟨a,vs,rfl,h1,h2⟩:=h
   exact ⟨(a,true),vs,rfl,by unfold zl7;rw [if_pos rfl];exact h1,h2,fun α' st' H' lk r' _=>⟨vs,by unfold zl7;rw [if_pos rfl];exact lk.tup a vs h1,lk.rps h2⟩⟩
  | lst l =>
   cases hz
   have h:RP K H (zf1 α st) (.lst xs) w:=h
   rw [RP] at h
   obtain ⟨a,vs,rfl,h1,h0,h2⟩:=h
   exact ⟨(a,false),vs,rfl,by unfold zl7;rw [if_neg (by simp)];exact h1,h2,fun α' st' H' lk r' _=>⟨vs,by unfold zl7;rw [if_neg (by simp)];exact (lk.lst a vs h1 h0).1,lk.rps h2⟩⟩
  | _=>cases hz
 | ref n =>
  have look:∀ {st:za6} {x:PV} {xs:List PV},view st (.ref n)=some x→zj2 x=some xs→zb5 st n=some (.lst xs):=by
   intro st x xs hv hz
   have hv:(match zb5 st n with | some (.lst xs)=>some (PV.lst xs) | _=>none)=some x:=hv
   cases ho:zb5 st n with
   | none=>rw [ho] at hv;cases hv
   | some ob =>
    rw [ho] at hv
    cases ob with
    | lst ys=>cases hv;cases hz;rfl
    | dct _=>cases hv
    | dead=>cases hv
  obtain ⟨a,rfl,ha⟩:=h
  obtain ⟨a',vs,h1,h2,h3⟩:=r.lst n xs (look hv hz)
  rw [ha] at h1;cases h1
  refine ⟨(a,false),vs,rfl,by unfold zl7;rw [if_neg (by simp)];exact SqL.of h2,h3,fun α' st' H' lk r' so=>?_⟩
  have so:view st' (.ref n)=some (.lst xs):=of_decide_eq_true so
  obtain ⟨a',vs2,k1,k2,g2⟩:=r'.lst n xs (look so rfl)
  rw [lk.pre n a ha] at k1;cases k1
  exact ⟨vs2,by unfold zl7;rw [if_neg (by simp)];exact SqL.of k2,g2⟩
section
variable {X:Cx} {C:zb9} {e:Expr} {es elts:List Expr} {x1:Nat} {tpos pos p:Pos} {ia ib:E}
theorem yI2 (hg:Gl X "zip") (hm:X.mg "zip" = none) (hv:bootBuiltins "zip" = some (.type "zip")) (ha:SA X C (e::es) [ia,ib])
  (he:starEach (e::es) X.env=(false,eval e X.env)::starEach es X.env) (hpl:(backTo pos (starEach es X.env)).any (·.1)=false):SI X C (.Tuple elts x1 tpos) (.Call (.Name "zip" p) (e::es) [] pos) (.zipR ia ib) :=
 PI.mono (yV9 hg hm hv ha he hpl) fun σ H R h_=>by
  obtain ⟨env,α,st,rows,src,st',at',ev,q⟩:=h_
  rw [yn6] at ev
  obtain ⟨v,st1,e1,ev⟩:=Res.bind_inv ev
  obtain ⟨y,st2,e2,ev⟩:=Res.bindP_inv ev
  have ee:evalEs C [ia,ib] env st=.ok [v,.p y] st2:=by
   rw [zm8,e1,Res.bind_ok,zm8,e2,Res.bind_ok,zs5];rfl
  refine ⟨env,α,st,[v,.p y],st2,at',ee,fun ws H1 α1 x1 r1 pr=>?_⟩
  unfold zu8 at ev
  cases hv1:view st2 v with
  | none=>rw [hv1] at ev;cases ev
  | some x =>
   rw [hv1] at ev
   dsimp only at ev
   cases hz1:zj2 x with
   | none=>rw [hz1] at ev;cases ev
   | some xs =>
    rw [hz1] at ev
    dsimp only at ev
    cases hz2:zj2 y with
    | none=>rw [hz2] at ev;cases ev
    | some ys =>
     rw [hz2] at ev
     cases ev
     cases pr with
     | cons pv pr =>
      cases pr with
      | cons py pr =>
       cases pr
       obtain ⟨p1,vs,rfl,c1,c2,c3⟩:=yk2 r1 hv1 hz1 pv
       obtain ⟨p2,us,rfl,d1,d2,d3⟩:=yk2 (x:=y) r1 rfl hz2 py
       have yt6:∀ {H:Hp} {lv:Addr→Prop} {vs us:List V},RPs X.K H lv xs vs→RPs X.K H lv ys us→∀ i,(i<(zk9 [xs,ys]).length↔∀ v∈[vs,us],i<v.length):=by
        intro H lv vs us g1 g2 i
        have k1:=g1.length
        have k2:=g2.length
        rw [zZ6 (.inl rfl)]
        simp [k1,k2]
       refine ⟨[p1,p2],rfl,.inl rfl,[vs,us],.cons c1 (.cons d1 .nil),fun hsize=>q _ _ _ x1 r1 (fun α2 st2 H2 lk r2 so=>?_) ?_⟩
       ·obtain ⟨vs',a1,a2⟩:=c3 α2 st2 H2 lk r2 so
        obtain ⟨us',b1,b2⟩:=d3 α2 st2 H2 lk r2 rfl
        have lenM:=yt6 a2 b2
        have d1:Paired (zl7 X.K H2) [p1,p2] [vs',us']:=.cons a1 (.cons b1 .nil)
        refine ⟨fun i hi=>⟨[vs',us'],d1,(lenM i).mp hi⟩,fun i x w H' hx hyl=>?_,fun i hi=>?_⟩
        ·obtain ⟨T,row,hT,hw,hH,hrow⟩:=hyl
         subst hw hH
         have s1:zl3 H2 (upd H2 T (.tup row)):=ze8 hT _
         refine ⟨s1,?_⟩
         rw [yF8 (.inl rfl) hx,RP,hrow _ d1]
         refine ⟨T,_,rfl,SqT.of zd3,?_⟩
         have hi:=(zZ6 (.inl rfl) i).mp (List.getElem?_eq_some_iff.mp hx).1
         rw [hrow _ d1] at s1
         exact (Ext.of_same r2 s1).rps (yR5 (ls:=[xs,ys]) (.cons a2 (.cons b2 .nil)) hi)
        ·have:¬ ∀ v∈[vs',us'],i<v.length:=fun h=>by
          have:=(lenM i).mpr h
          lia
         simp only [Classical.not_forall] at this
         obtain ⟨v,hm,hlt⟩:=this
         exact ⟨_,d1,v,hm,by lia⟩
       ·have k1:=c2.length
        have:=hsize vs (by simp)
        simp [zk9]
        lia
end
section
variable {X:Cx} {PR:List FD} {W d k:Nat} {pos p:Pos}
theorem yy5 {x:Str} {f:Addr} {fd:FuncData} (F:zp8 X.prog X.w X.K X.mg X.base CX0 d f fd [] (spF X.K PR W d k 0)) (hr:zn4 d X.A) (hg:Gl X x) (hm:X.mg x=some (.ref f)) (hk:keepIn X.K (.ref f)=true) (hb:Binds X.K fd [] [])
  (hdb:(x==("__debug__" : Str))=false):SE X (zg1 PR W d) (.Call (.Name x p) [] [] pos) (.call k []) :=
 PE.mono (yx0 F hr hg hm hk hb .nil yR3 hdb) fun σ H Q h_=>by
  obtain ⟨env,α,st,v,st',at',e,q⟩:=h_
  rw [yo1,zs5,Res.bind_ok] at e
  exact ⟨rfl,α,st,[],v,st',at'.rs,.nil,e,fun w H2 α2 x2 r2 rv=>q w H2 α2 x2 r2 rv⟩
end
open PySem L2 PySem.SeqAt PyProof.Rows
noncomputable def Ite (K:Frag) (p:Nat×Bool):L2.It :=
  ⟨fun i H=>∃ vs,zl7 K H p vs∧i<vs.length,
   fun i H x H'=>∃ T row,H T=none∧x=.ref T∧H'=upd H T (.tup row)∧∀ vs,zl7 K H p vs→row=[V.int i,vs.getD i .non],
   fun i H=>∃ vs,zl7 K H p vs∧vs.length≤i⟩
def ETn (e it:Nat) (p:Nat×Bool) (i:Nat) (h:Heap):Prop:=(∃ old,IsEnum h e it i old)∧yj7 it p.1 p.2 i h
theorem ym8 {P:Program} {w:World} {K:Frag} {elts:List Expr} {x1} {pos:Pos} (e it:Nat) (p:Nat×Bool) (hei:e≠it) (hl1:p.1≠e) (hl2:p.1≠it) :
  yH5 P w K (.Tuple elts x1 pos) (Ite K p) [e,it] e (ETn e it p) where
 mem:=by simp
 obj:=fun i h st b hb=>by
  obtain ⟨⟨old,t1⟩,t2⟩:=st
  simp only [List.mem_cons,List.not_mem_nil,or_false] at hb
  rcases hb with rfl | rfl
  ·exact ⟨_,t1,fun v e=>by cases e⟩
  ·exact t2.obj
 keep:=fun i h h' st k=>by
  obtain ⟨⟨old,t1⟩,t2⟩:=st
  exact ⟨⟨old,k e (by simp) _ t1⟩,t2.keep fun o z=>k it (by simp) o z⟩
 item:=by
  intro X hP hw hK hc i pins s σ H E I hf st hg
  subst hP hw hK
  obtain ⟨⟨old,t1⟩,t2⟩:=st
  obtain ⟨vs,pr,hlen⟩:=hg
  obtain ⟨its,rv,on,hz⟩:=zl7.src I pr
  have hvl:=rv.length
  have D:=yv7 (prog:=X.prog) (w:=X.w) (A:=X.A.in1) (show X.A.in1.handled=none from I.ok.hd hc) ⟨it,p.1,p.2,its⟩ hl2
  have hel:e<s.heap.objs.size:=Heap.lt_size t1
  have hil:it<s.heap.objs.size:=by
   obtain ⟨o,z,_⟩:=t2.obj
   exact Heap.lt_size z
  refine wpAny_pyNext_enum_itemD D t1 (zH1.mpr ⟨t2,on⟩) (by show i<its.length;lia) hei (by simp only [List.mem_cons,List.not_mem_nil,or_false,not_or];exact ⟨hei,Ne.symm hl1⟩) fun x h2 tk hx out on2 tup2 sz2 kp2=>⟨_,rfl,?_⟩
  refine wpAny_letOwnedTupleGo_enum out fun h3 z3 s3=>?_
  have hTe:s.heap.objs.size≠e:=Nat.ne_of_gt hel
  have hTi:s.heap.objs.size≠it:=Nat.ne_of_gt hil
  have hfresh:=I.fresh
  obtain ⟨u,hu,ru⟩:=rv.get (List.getElem?_eq_getElem hlen)
  have hxu:u=x:=by
   have hx:its[i]?=some x:=hx
   rw [hx] at hu;cases hu;rfl
  subst hxu
  have hrow:zh0 [V.int i,vs[i]] [.int i tk,u]:=.cons ⟨tk,rfl⟩ (.cons ru .nil)
  have I1:Inv X pins σ (upd H s.heap.objs.size (.tup [V.int i,vs[i]])) { s with heap:=s.heap.push { cls:=.type "tuple", data:=.seq #[.int i tk,u] },toks:=tk+1 } :=
   I.laid (t':=tk+1) (fun b o e=>Heap.get?_push_of_some _ e) (Nat.le_refl _) (show zk0 X.prog X.w _ _ _ (.tup [V.int i,vs[i]]) from ⟨by show 2≤sizeLine;decide,_,hrow,zD4.new _ _⟩)
  have fpn:∀ b∈[e,it],b≠s.heap.objs.size:=fun b hb z=>by
   simp only [List.mem_cons,List.not_mem_nil,or_false] at hb
   rcases hb with rfl | rfl
   ·exact hTe z.symm
   ·exact hTi z.symm
  have hf1:∀ b∈[e,it],zV7 X pins (upd H s.heap.objs.size (.tup [V.int i,vs[i]])) b:=fun b hb=>⟨by rw [zd7 (fpn b hb)];exact (hf b hb).1,(hf b hb).2⟩
  have I2:Inv X pins σ (upd H s.heap.objs.size (.tup [V.int i,vs[i]])) { s with heap:=h3,toks:=tk+1 }:=by
   refine Inv.turnedL (s:={ s with heap:=s.heap.push { cls:=.type "tuple", data:=.seq #[.int i tk,u] },toks:=tk+1 }) (t':=tk+1) (ch:=[e,it]) I1 (fun b o hb z=>?_) hf1
   simp only [List.mem_cons,List.not_mem_nil,or_false,not_or] at hb
   by_cases hbs:b=s.heap.objs.size
   ·subst hbs
    have z:some { cls:=Value.type "tuple", data:=Data.seq #[.int i tk,u] }=some o:=by rw [← z];exact (Heap.get?_push_size _ rfl).symm
    cases z
    exact s3.extBut _ _ hTe tup2
   ·have z':s.heap.get? b=some o:=get?_of_push hbs z
    exact s3.extBut _ _ hb.1 (kp2 b o hb.1 hb.2 z')
  refine ⟨.ref s.heap.objs.size,_,I2,rfl,⟨_,_,hfresh,rfl,rfl,fun ws pw=>?_⟩,⟨⟨u,by simpa using z3⟩,?_⟩,fun b hb=>by rw [zd7 (fpn b hb)];exact (hf b hb).1⟩
  ·rw [zl7.inj I pw pr,List.getD_eq_getElem?_getD,List.getElem?_eq_getElem hlen];rfl
  ·exact ((zH1.mp on2).1).keep fun o z=>s3.extBut _ _ (Ne.symm hei) z
 done:=by
  intro X hP hw hK hc i pins s σ H E I hf st hg
  subst hP hw hK
  obtain ⟨⟨old,t1⟩,t2⟩:=st
  obtain ⟨vs,pr,hlen⟩:=hg
  obtain ⟨its,rv,on,hz⟩:=zl7.src I pr
  have hvl:=rv.length
  have hT:s.TypeIs (.ref e) "enumerate" := ⟨_,t1,rfl⟩
  unfold pyNext
  refine wpAny_bind (wpAny_attempt (wpAny_callSpecial?_slot (name:=Str.ofString "__next__") hT F.slot_enumerate_next
   (wpAny_call_entry F.slot_enumerate_next hT F.entry_enumerate_next ?_ (F.args_enumerate_next_1 _))))
  show wpAny _ _ (field (.ref e) 2 >>= _) _ _ _
  refine wpAny_bind (wpAny_field t1 rfl (x:=.ref it) rfl ?_)
  refine wpAny_bind (Sb.fin (b:=⟨it,p.1,p.2,its⟩) (k:=i) (I.ok.hd hc) (zH1.mpr ⟨t2,on⟩) (List.getElem?_eq_none (by show its.length≤i;lia)) fun h2 x he hx=>?_)
  obtain ⟨o,ho,hcl⟩:=hx
  refine wpAny_bind (wpAny_isInstance (T := "StopIteration") (b:=true) ⟨o,ho,hcl⟩ isSubtype_stop (wpAny_pure ⟨rfl,?_⟩))
  refine Inv.turnedL (t':=s.toks) (ch:=[e,it]) I (fun b o hb z=>?_) hf
  simp only [List.mem_cons,List.not_mem_nil,or_false,not_or] at hb
  exact he b o hb.2 z
 self:=fun _ _ _ _ _ st h=>wpAny_pyIter_enum st.1.choose_spec h
noncomputable def xg2 (K:Frag) (ta:TA):TI:=fun σ H R=>ta σ H fun vs H1=>∃ p:Nat×Bool,vs=[V.ref p.1]∧∃ ws,zl7 K H1 p ws∧(ws.length≤sizeLine→R (Ite K p) H1)
section
variable {X:Cx} {C:zb9} {e:Expr} {es elts:List Expr} {x1:Nat} {tpos pos p:Pos} {ta:TA} {ia:E}
theorem yE7 (hg:Gl X "enumerate") (hm:X.mg "enumerate" = none) (hv:bootBuiltins "enumerate" = some (.type "enumerate")) (ha:PA X (e::es) ta)
  (he:starEach (e::es) X.env=(false,eval e X.env)::starEach es X.env) (hpl:(backTo pos (starEach es X.env)).any (·.1)=false):PI X (.Tuple elts x1 tpos) (.Call (.Name "enumerate" p) (e::es) [] pos) (xg2 X.K ta):=by
 intro pins s σ H R I h
 refine wpAny_Call_Name_kw (zw1 I hg hm hv ?_)
 refine PyProof.Rows.callWith_type1 (thn (ha pos pins s σ H _ I h) fun us s1 ⟨vs,H1,I1,r1,q1⟩=>?_) he hpl
 obtain ⟨p,rfl,ws,pr,hR⟩:=q1
 obtain ⟨its,rv,on,hz⟩:=zl7.src I1 pr
 have hR:=hR hz
 have hus:us=[Value.ref p.1]:=zA4 (ps:=[p]) r1
 subst hus
 refine yj2 ⟨p.1,p.2,its⟩ on ?_
 intro h2 g1 g4 g5 g6
 refine wpAny_pyIter_enum g1 ?_
 have hlt:p.1<s1.heap.objs.size:=Sr.lt on
 refine ⟨s1.heap.objs.size+1,[s1.heap.objs.size+1,s1.heap.objs.size],ETn (s1.heap.objs.size+1) s1.heap.objs.size p,Ite X.K p,H1,rfl,I1.kept (t':=s1.toks) g6,ym8 _ _ _ (by lia) (by lia) (by lia),⟨⟨_,g1⟩,(zH1.mp g4).1⟩,fun b hb=>?_,hR⟩
 have hb:s1.heap.objs.size≤b:=by
  simp only [List.mem_cons,List.not_mem_nil,or_false] at hb
  rcases hb with rfl | rfl <;> lia
 exact I1.fpOk hb (I1.hok.fresh hb)
theorem yA7 {xs:List PV} {i:Nat} {x:PV} (h:(zz5 xs)[i]?=some x):∃ y,xs[i]?=some y∧x=.tup [.int i,y]:=by
 unfold zz5 at h
 rw [List.getElem?_map,List.getElem?_zipIdx] at h
 cases e:xs[i]? with
 | none=>rw [e] at h;cases h
 | some y =>
  rw [e] at h
  simp at h
  exact ⟨y,rfl,h.symm⟩
theorem yL5 (hg:Gl X "enumerate") (hm:X.mg "enumerate" = none) (hv:bootBuiltins "enumerate" = some (.type "enumerate")) (ha:SA X C (e::es) [ia])
  (he:starEach (e::es) X.env=(false,eval e X.env)::starEach es X.env) (hpl:(backTo pos (starEach es X.env)).any (·.1)=false):SI X C (.Tuple elts x1 tpos) (.Call (.Name "enumerate" p) (e::es) [] pos) (.enum ia) :=
 PI.mono (yE7 hg hm hv ha he hpl) fun σ H R h_=>by
  obtain ⟨env,α,st,rows,src,st',at',ev,q⟩:=h_
  rw [yt1] at ev
  obtain ⟨y,st1,e1,ev⟩:=Res.bindP_inv ev
  have ee:evalEs C [ia] env st=.ok [.p y] st1:=by rw [zm8,e1,Res.bind_ok,zs5];rfl
  refine ⟨env,α,st,[.p y],st1,at',ee,fun ws H1 α1 x1 r1 pr=>?_⟩
  unfold yW6 at ev
  cases hz:zj2 y with
  | none=>rw [hz] at ev;cases ev
  | some ys =>
   rw [hz] at ev
   cases ev
   cases pr with
   | cons py pr =>
    cases pr
    obtain ⟨p1,vs,rfl,c1,c2,c3⟩:=yk2 (x:=y) r1 rfl hz py
    have hel:(zz5 ys).length=ys.length:=by unfold zz5;simp
    refine ⟨p1,rfl,vs,c1,fun hsize=>q _ _ _ x1 r1 (fun α2 st2 H2 lk r2 so=>?_) (by rw [hel,c2.length];exact hsize)⟩
    obtain ⟨vs',a1,a2⟩:=c3 α2 st2 H2 lk r2 rfl
    have gl:=a2.length
    refine ⟨fun i hi=>⟨vs',a1,by lia⟩,fun i x w H' hx hyl=>?_,fun i hi=>⟨vs',a1,by lia⟩⟩
    obtain ⟨T,row,hT,hw,hH,hrow⟩:=hyl
    subst hw hH
    have s1:zl3 H2 (upd H2 T (.tup row)):=ze8 hT _
    refine ⟨s1,?_⟩
    obtain ⟨y',hy',rfl⟩:=yA7 hx
    obtain ⟨v',hv',rp⟩:=a2.get hy'
    have hr:=hrow _ a1
    rw [List.getD_eq_getElem?_getD,hv'] at hr
    subst hr
    rw [RP]
    refine ⟨T,_,rfl,SqT.of zd3,?_⟩
    rw [RPs]
    refine ⟨_,_,rfl,by rw [RP],?_⟩
    rw [RPs]
    exact ⟨_,_,rfl,(Ext.of_same r2 s1).rp rp,by rw [RPs]⟩
end
open PySem L2 PySem.SeqAt PyProof.Rows
theorem zM0:∀ {l:List Str},sortedS l=true→(l.map fun s=>s.cps.toList).Pairwise (fun a b=>strLt b a=false)
 | [],_=>.nil
 | x::r,h=>by
  have h:risingS x r=true:=h
  rw [List.map_cons,List.pairwise_cons]
  refine ⟨fun y hy=>?_,zM0 ?_⟩
  ·obtain ⟨s,hs,rfl⟩:=List.mem_map.mp hy
   exact zI7 h s hs
  ·cases r with
   | nil=>rfl
   | cons y q =>
    rw [risingS,Bool.and_eq_true] at h
    exact h.2
theorem zR6 {ls:List (List Nat)} {ms:List Str} (hp:ms.Perm (ls.map txt)) (hs:sortedS ms=true):ms=(ls.foldl (fun d i=>zV6 i d) []).map txt:=by
 obtain ⟨a,b⟩:=yJ3 ls
 have e:(ms.map fun s=>s.cps.toList)=ls.foldl (fun d i=>zV6 i d) []:=by
  refine yb2 (zM0 hs) a ?_
  refine (hp.map fun s:Str=>s.cps.toList).trans (List.Perm.trans ?_ b.symm)
  rw [List.map_map]
  have:((fun s:Str=>s.cps.toList)∘txt)=fun c=>c:=by
   funext c
   simp [txt]
  rw [this,List.map_id']
 rw [← e,List.map_map]
 have:(txt∘fun s:Str=>s.cps.toList)=fun s=>s:=by
  funext s
  simp [txt]
 rw [this,List.map_id']
section
variable {prog:Program} {w:World} {A:Around} {E:Value→Shared→Prop} {s:Shared}
theorem zZ8 {a:Addr} {o:Obj} {T:String} {vs:List Value} {n:Nat} {ks:List Str} {Q:Value→Shared→Prop} (hT:T = "list" ∨ T = "tuple") (ho:s.heap.get? a=some o) (hc:o.cls=.type T) (hd:o.data=.seq vs.toArray n) (i1:StrsAre vs ks) (hvl:vs.length<64)
  (hQ:∀ (out:List Value) (ns:List Str) (h1 h':Heap) (c:Nat),StrsAre out ns→ns.Perm ks→sortedS ns=true→(∀ b o,s.heap.get? b=some o→h1.get? b=some o)→h'.get? h1.objs.size=some (seqObj "list" out.toArray c)→(∀ b o,h1.get? b=some o→h'.get? b=some o)→Q (.ref h1.objs.size) { s with heap:=h' }) :
  wpAny (model prog w) A (call (.builtin "sorted") [.ref a]) Q E s:=by
 refine Calls.call_function_entry kind_sorted plain_sorted entry_sorted (args_sorted1 _) ?_
 unfold Builtin.«sorted»
 refine wpAny_bind (m:=checkCount "sorted" 1 1 _) (wpAny_pure ?_)
 refine wpAny_bind (wpAny_collect_seq a hT ho hc hd (fun h1 hk=>?_) (by simp only [List.size_toArray];exact Nat.le_trans (Nat.le_of_lt hvl) (by decide)))
 rw [show vs.toArray.toList=vs by simp]
 refine wpAny_bind (wpAny_newList ?_ (hsz:=by have:sizeLine=sizeLine:=rfl;exact Nat.le_trans (Nat.le_of_lt hvl) (by decide)))
 generalize hob:({ cls:=.type "list", data:=.seq vs.toArray }:Obj)=ob
 have hg:(h1.push ob).get? h1.objs.size=some ob:=Heap.get?_push_size _ (by subst hob;rfl)
 subst hob
 refine wpAny_bind (wpAny_holding (wpAny_call_entry slot_list_sort ⟨_,hg,rfl⟩ entry_list_sort (list_sort_treeK (s:={ s with heap:=h1.push _ }) strKind_oneLt hg i1.keysOf (fun v₁ v₂ zp3 e=>keyKind_strs (by rw [← e];exact i1)) hvl fun st a1 a2=>⟨_,rfl,?_⟩) (args_list_sort _)))
 refine wpAny_pure ⟨_,rfl,?_⟩
 obtain ⟨ns,b1,b2,b3⟩:=sorted_out_str i1 a1 a2
 generalize Array.map (fun x=>x.2) (arrOf st)=out at b1 ⊢
 obtain ⟨e1,g1⟩:∃ e1,((h1.push (seqObj "list" vs.toArray 0)).update h1.objs.size (Obj.mapSeq fun _=>#[])).get? h1.objs.size=some (seqObj "list" #[] e1):=⟨_,get?_update_seq hg fun _=>#[]⟩
 have g2:=get?_update_seq (Heap.get?_push_of_some (seqObj "list" #[] 0) (Heap.get?_push_of_some (seqObj "tuple" vs.toArray 0) g1)) fun _=>out
 refine hQ out.toList ns h1 _ _ b1 b2 b3 hk g2 fun b o e=>?_
 have hb:b<h1.objs.size:=Heap.lt_size e
 have hne:h1.objs.size≠b:=Nat.ne_of_gt hb
 show (sortedHeap _ _ _ _).get? b=some o
 unfold sortedHeap
 rw [Heap.get?_update_other _ _ hne]
 refine Heap.get?_push_of_some _ (Heap.get?_push_of_some _ ?_)
 rw [Heap.get?_update_other _ _ hne]
 exact Heap.get?_push_of_some _ e
end
section
variable {X:Cx}
theorem ye9:zH4 X (.builtin "sorted") (f1 zB5):=by
 rintro pins s σ H ws us Q I rs ⟨α,st,xs,z,r,pr,hz,q⟩
 cases pr with
 | nil=>cases hz
 | cons h t =>
  cases t with
  | cons _ _=>cases hz
  | nil =>
   rename_i x w
   have hz:zB5 x=some z:=hz
   unfold zB5 at hz
   cases hi:zj2 x with
   | none=>rw [hi] at hz;cases hz
   | some l =>
    rw [hi] at hz
    dsimp only at hz
    cases hs:zw2 l with
    | none=>rw [hs] at hz;cases hz
    | some ls =>
     rw [hs] at hz
     dsimp only at hz
     by_cases c:ls.length<64
     ·rw [if_pos c] at hz
      have hz2:=Option.some.inj hz
      have el:=zW0 hs
      subst el
      have fin:∀ (a:Addr) (vs:List V) (its:List Value) (T:String) (o:Obj) (n:Nat),(T = "list" ∨ T = "tuple")→s.heap.get? a=some o→o.cls=.type T→o.data=.seq its.toArray n→zh0 vs its→RPs X.K H (zf1 α st) (ls.map .str) vs →
        wpAny (model X.prog X.w) X.A (call (.builtin "sorted") [.ref a]) (fun u s1=>∃ v H1,Inv X pins σ H1 s1∧RelV v u∧Q v H1) X.xe s:=by
       intro a vs its T o n hT ho hc hd r1 h2
       have hlen:=zN9 h2
       have ev:=zM9 h2
       subst ev
       have sa:=zF0 r1
       have hil:its.length=ls.length:=by have:=HT.strs_len sa;simpa using this.symm
       refine zZ8 hT ho hc hd sa (by lia) fun out ms h1 h' c2 o1 o2 o3 k1 o5 o6=>?_
       have em:=zR6 o2 o3
       have hml:ms.length≤64:=by rw [o2.length_eq,List.length_map];lia
       have fm:=(yJ3 ls).2
       generalize ls.foldl (fun d i=>zV6 i d) []=fs at em fm hz2
       have hv:zh0 (fs.map fun c=>V.str (txt c)) out:=by
        have:=zO3 o1
        rwa [em,List.map_map] at this
       have hln:(fs.map fun c=>V.str (txt c)).length≤sizeLine:=by
        rw [em,List.length_map] at hml
        rw [List.length_map]
        exact Nat.le_trans hml (by decide)
       have I1:Inv X pins σ H { s with heap:=h1 }:=I.kept (t':=s.toks) k1
       have I2:=I1.laid (a:=h1.objs.size) (o:=.lst (fs.map fun c=>V.str (txt c))) (h':=h') (t':=s.toks) o6 (Nat.le_refl _) (show zk0 X.prog X.w _ h' _ (.lst (fs.map fun c=>V.str (txt c))) from ⟨hln,out,c2,hv,o5⟩)
       have hf:H h1.objs.size=none:=I1.hok.fresh (Nat.le_refl _)
       have s1:zl3 H (upd H h1.objs.size (.lst (fs.map fun c=>V.str (txt c)))):=ze8 hf _
       refine ⟨.ref h1.objs.size,_,I2,rfl,q _ _ s1 ?_⟩
       rw [← hz2,RP]
       exact ⟨_,_,rfl,SqL.of zd3,r.notlive hf,zG4 fun c hc=>hlen c (fm.mem_iff.mp hc)⟩
      cases x with
      | lst l' =>
       cases hi
       obtain ⟨a,vs,rfl,h1,h2⟩:=h.lst
       cases rs with
       | cons ra rt =>
        cases rt
        obtain rfl:=(show _=Value.ref a from ra)
        obtain ⟨its,r1,pl,_⟩:=I.list h1
        obtain ⟨o,n,ho,hc,_,hd⟩:=id pl
        exact fin a vs its "list" o n (.inl rfl) ho hc hd r1 h2
      | tup l' =>
       cases hi
       obtain ⟨a,vs,rfl,h1,h2⟩:=h.tup
       cases rs with
       | cons ra rt =>
        cases rt
        obtain rfl:=(show _=Value.ref a from ra)
        obtain ⟨its,r1,pl,_⟩:=I.tuple h1
        obtain ⟨o,ho,hc,n,hd⟩:=id pl
        exact fin a vs its "tuple" o n (.inr rfl) ho hc hd r1 h2
      | _=>cases hi
     ·rw [if_neg c] at hz;cases hz
end
open PySem L2 PySem.SeqAt PyProof.Rows
theorem yb7 {K:Frag} {H:Hp} {lv:Addr→Prop} {k:PV} {k':Key} (hk:zu4 k=some k'):∀ {kvs:List (PV×PV)} {l:List (Key×V)},RKV K H lv kvs l→zt5 k kvs=none→yc5 l k'=none
 | [],l,h,e=>by
  rw [RKV] at h
  subst h
  rfl
 | (k1,x1)::r,l,h,e=>by
  rw [RKV] at h
  obtain ⟨k2,v,l',rfl,h1,h2,h3⟩:=h
  rw [zt5] at e
  by_cases hc:k1=k
  ·rw [if_pos hc] at e;cases e
  ·rw [if_neg hc] at e
   rw [zy0]
   ·exact yb7 hk h3 e
   ·intro e'
    have:k2=k':=e'
    subst this
    exact hc (zy1 h1 hk)
theorem zQ5 {x:PV} (h:zu5 x=true):∃ k,zu4 x=some k:=by
 cases x with
 | int i=>exact ⟨_,rfl⟩
 | str cs=>exact ⟨_,rfl⟩
 | _=>cases h
section
variable {X:Cx} {C:zb9} {o e f:Expr} {io ie iff:E} {apos cpos:Pos}
theorem yL8 (hu:X.A.units+1<cLine) (ho:SE X C o io) (he:SE X C e ie) (hf:SE X C f iff) (m:M2 X o "get" apos e f cpos):SE X C (.Call (.Attribute o "get" apos) [e,f] [] cpos) (.dget io ie iff) :=
 PE.mono (yu7 hu ho he hf m) fun σ H Q h_=>by
  obtain ⟨env,α,st,v,st',at',e,q⟩:=h_
  rw [yK7] at e
  obtain ⟨ov,st1,e1,e⟩:=Res.bind_inv e
  refine ⟨env,α,st,ov,st1,at',e1,fun w H1 α1 x1 r1 v1=>?_⟩
  obtain ⟨_,st2,e2,e⟩:=Res.bind_inv e
  cases ov with
  | p x=>cases e2
  | ref n =>
   have e2:(match zb5 st1 n with | some (.dct _)=>Res.ok () st1 | _=>.stuck)=.ok _ st2:=e2
   obtain ⟨p,rfl,hp⟩:=id v1
   cases hob:zb5 st1 n with
   | none=>rw [hob] at e2;cases e2
   | some ob =>
    rw [hob] at e2
    cases ob with
    | lst _=>cases e2
    | dead=>cases e2
    | dct kvs =>
     cases e2
     obtain ⟨p',l,g1,g2,g3⟩:=r1.dct n kvs hob
     rw [hp] at g1;cases g1
     refine ⟨p,rfl,.inl ⟨l,.inl g2⟩,?_⟩
     obtain ⟨kx,st3,e3,e⟩:=Res.bindP_inv e
     refine ⟨env,α1,st1,_,st3,at'.next x1 r1,e3,fun wk H2 α2 x2 r2 v2=>?_⟩
     obtain ⟨x,st4,e4,e⟩:=Res.bindP_inv e
     refine ⟨env,α2,st3,_,st4,(at'.next x1 r1).next x2 r2,e4,fun wx H3 α3 x3 r3 v3=>?_⟩
     have e:(match zb5 st4 n with | some (.dct kvs)=>(if zu5 kx=true then Res.ok (.p ((zt5 kx kvs).getD x)) st4 else .stuck) | _=>.stuck)=Res.ok v st':=e
     cases hob4:zb5 st4 n with
     | none=>rw [hob4] at e;cases e
     | some ob4 =>
      rw [hob4] at e
      cases ob4 with
      | lst _=>cases e
      | dead=>cases e
      | dct kvs4 =>
       have e:(if zu5 kx=true then Res.ok (.p ((zt5 kx kvs4).getD x)) st4 else .stuck)=Res.ok v st':=e
       by_cases hkx:zu5 kx=true
       ·rw [if_pos hkx] at e
        cases e
        obtain ⟨k,hk⟩:=zQ5 hkx
        obtain ⟨p',l4,g1,g2,g3⟩:=r3.dct n kvs4 hob4
        rw [x3.pre _ _ (x2.pre _ _ hp)] at g1;cases g1
        have hw:wk=kV k:=yk5 (.inl v2) hk
        subst hw
        refine ⟨yc5 l4 k,yB4.k g2,?_⟩
        cases hd:zt5 kx kvs4 with
        | none =>
         rw [yb7 hk g3 hd]
         rw [hd] at q
         exact q _ H3 α3 (x1.trans (x2.trans x3)) r3 v3
        | some y =>
         obtain ⟨u,f1,f2⟩:=zW8 hk g3 hd
         rw [f1]
         rw [hd] at q
         exact q _ H3 α3 (x1.trans (x2.trans x3)) r3 f2
       ·rw [if_neg hkx] at e;cases e
end
open PySem L2 PySem.SeqAt PyProof.Rows
theorem yz1 {vs:List V} {us:List Value} (h:zh0 vs us) {j:Nat} {v:V} {u:Value} (hv:vs[j]?=some v) (hu:us[j]?=some u):RelV v u:=by
 obtain ⟨u',h1,h2⟩:=h.get hv
 rw [hu] at h1;cases h1;exact h2
theorem yC5:∀ {ks:List Key} {vs:List V} {us:List Value},zh0 vs us→KV (ks.zip vs) (ks.zip us)
 | [],_,_,_=>by simp only [List.zip_nil_left];exact .nil
 | k::ks,_,_,.nil=>by simp only [List.zip_nil_right];exact .nil
 | k::ks,_,_,.cons r t=>.cons ⟨rfl,r⟩ (yC5 t)
theorem zH7 {a n m:Nat} (h:a<n) (k:n≤m):a≠m:=by lia
theorem ap2 {ra rb:Sr} {n z:Nat} (la:ra.l<n) (lb:rb.l<n) (e1:z=n+2+2):Ap2 z (ra.sb n) (rb.sb (n+1)):=by
 have h1:(ra.sb n).it=n:=rfl
 have h2:(rb.sb (n+1)).it=n+1:=rfl
 have h3:(ra.sb n).l=ra.l:=rfl
 have h4:(rb.sb (n+1)).l=rb.l:=rfl
 have k1:∀ m,n≤m→@Ne Nat ra.l m:=fun m h=>zH7 la h
 have k2:∀ m,n≤m→@Ne Nat rb.l m:=fun m h=>zH7 lb h
 subst e1
 refine ⟨?_,?_,?_,?_,?_,?_,?_,?_,?_⟩ <;> simp only [h1,h2,h3,h4]
 ·show @Ne Nat n (n+2+2);lia
 ·show @Ne Nat (n+1) (n+2+2);lia
 ·show @Ne Nat n (n+1);lia
 ·exact k1 _ (by lia)
 ·exact k1 _ (by lia)
 ·exact k1 _ (by lia)
 ·exact k2 _ (by lia)
 ·exact k2 _ (by lia)
 ·exact k2 _ (by lia)
theorem zap2 {ra rb:Sr} {n z TI TO:Nat} (la:ra.l<n) (lb:rb.l<n) (e1:z=n+2+2) (e2:TI=n+2) (e3:TO=n+2+1):ZAp z TI TO [ra.sb n,rb.sb (n+1)]:=by
 have P:=ap2 la lb e1
 have k1:@Ne Nat ra.l TO:=zH7 la (by lia)
 have k2:@Ne Nat rb.l TO:=zH7 lb (by lia)
 refine ⟨by simp,by simp,?_,?_,?_,?_,?_⟩
 ·show @Ne Nat TO z;lia
 ·intro b hb
  simp only [List.mem_cons,List.not_mem_nil,or_false] at hb
  rcases hb with rfl | rfl
  ·exact ⟨P.bz,show @Ne Nat n TO by lia,show @Ne Nat n TI by lia⟩
  ·exact ⟨P.cz,show @Ne Nat (n+1) TO by lia,show @Ne Nat (n+1) TI by lia⟩
 ·intro b hb
  simp only [List.mem_cons,List.not_mem_nil,or_false] at hb
  rcases hb with rfl | rfl
  ·refine ⟨P.lz,k1,fun c hc=>?_⟩
   simp only [List.mem_cons,List.not_mem_nil,or_false] at hc
   rcases hc with rfl | rfl
   ·exact P.lb
   ·exact P.lc
  ·refine ⟨P.mz,k2,fun c hc=>?_⟩
   simp only [List.mem_cons,List.not_mem_nil,or_false] at hc
   rcases hc with rfl | rfl
   ·exact P.mb
   ·exact P.mc
 ·have:=P.bc
  simp [this]
 ·exact ⟨show @Ne Nat TI z by lia,show @Ne Nat TI TO by lia⟩
noncomputable def tDZ (K:Frag) (ta:TA):TE:=fun σ H Q=>ta σ H fun vs H1=>∃ p1 p2:Nat×Bool,vs=[V.ref p1.1,V.ref p2.1]∧∃ (ks:List Key) (vvs:List V),zl7 K H1 p1 (ks.map kV)∧zl7 K H1 p2 vvs∧ks.length≤1000 ∧
 ∀ p,H1 p=none→K.lookup p=none→Q (.ref p) (upd H1 p (.dK (zt8 [] (ks.zip vvs))))
section
variable {X:Cx} {C:zb9} {e e2:Expr} {pos pos' p p':Pos} {ta:TA} {ia ib:E}
theorem yx8 (hc:X.calm=true) (hg:Gl X "dict") (hm:X.mg "dict" = none) (hg2:Gl X "zip") (hm2:X.mg "zip" = none) (ha:PA X [e,e2] ta)
  (he:starEach [e,e2] X.env=(false,eval e X.env)::starEach [e2] X.env) (hpl:(backTo pos' (starEach [e2] X.env)).any (·.1)=false)
  (he2:starEach [.Call (.Name "zip" p') [e,e2] [] pos'] X.env=(false,eval (.Call (.Name "zip" p') [e,e2] [] pos') X.env)::starEach [] X.env) (hpl2:(backTo pos (starEach [] X.env)).any (·.1)=false) :
  PE X (.Call (.Name "dict" p) [.Call (.Name "zip" p') [e,e2] [] pos'] [] pos) (tDZ X.K ta):=by
 intro pins s σ H Q I h
 refine wpAny_Call_Name_kw (zw1 I hg hm (u:=.type "dict") rfl ?_ (by decide) (by decide))
 refine PyProof.Rows.callWith_type1 ?_ he2 hpl2
 rw [he2]
 show wpAny _ _ (spliced ((false,eval (.Call (.Name "zip" p') [e,e2] [] pos') X.env)::backTo pos (starEach [] X.env))) _ _ s
 refine Calls.spliced_cons ?_
 refine wpAny_Call_Name_kw (zw1 I hg2 hm2 (u:=.type "zip") rfl ?_ (by decide) (by decide))
 refine PyProof.Rows.callWith_type1 (thn (ha pos' pins s σ H _ I h) fun us s1 h_=>?_) he hpl
 obtain ⟨vs,H1,I1,r1,p1,p2,rfl,ks,vvs,c1,c2,hks,q1⟩:=h_
 have pr:Paired (zl7 X.K H1) [p1,p2] [ks.map kV,vvs]:=.cons c1 (.cons c2 .nil)
 have hus:us=[p1,p2].map fun p=>Value.ref p.1:=zA4 (ps:=[p1,p2]) r1
 subst hus
 obtain ⟨rs,ers,prs,on⟩:=zl7.srcs I1 pr
 match rs,ers,prs,on with
 | [ra,rb],ers,.cons va (.cons vb .nil),on =>
  have eus:([p1,p2].map fun p=>Value.ref p.1)=[ra,rb].map fun r=>Value.ref r.l:=by rw [← ers,List.map_map];rfl
  rw [eus]
  refine zS3 [ra,rb] (.inl rfl) on ?_
  intro h2 z TI TO e1 e2 e3 g1 g2 g3 g4 g5 g6
  refine Calls.spliced_nil ?_
  have la:ra.l<s1.heap.objs.size:=Sr.lt (on ra (by simp))
  have lb:rb.l<s1.heap.objs.size:=Sr.lt (on rb (by simp))
  have n:[ra,rb].length=2:=rfl
  rw [n] at e1 e2 e3 g5
  have I2:Inv X pins σ H1 { s1 with heap:=h2 }:=I1.kept (t':=s1.toks) g6
  have hsb:sbs s1.heap.objs.size [ra,rb]=[ra.sb s1.heap.objs.size,rb.sb (s1.heap.objs.size+1)]:=rfl
  rw [hsb] at g2 g3 g4
  have D:ZAp z TI TO [ra.sb s1.heap.objs.size,rb.sb (s1.heap.objs.size+1)]:=zap2 la lb e1 e2 e3
  have P:Ap2 z (ra.sb s1.heap.objs.size) (rb.sb (s1.heap.objs.size+1)):=ap2 la lb e1
  refine zO7 (knd:=zj4 X.prog X.w) (ks:=ks) (I.ok.hd hc) D P g1 g2 g3 rfl (g4 _ (by simp)) (g4 _ (by simp)) ?_ ?_ hks fun h' tk dd kp=>?_
  ·show ks.length=ra.its.length
   have:=va.length
   simpa using this
  ·intro j x k hx hk
   exact yk3 (yz1 va (by rw [List.getElem?_map,hk];rfl) hx)
  ·have hle:s1.heap.objs.size≤h2.objs.size:=by rw [g5];exact Nat.le_trans (Nat.le_add_right _ _) (Nat.le_add_right _ _)
   have hz:(zt8 [] (ks.zip vvs)).length≤sizeLine:=by
    have h1:=zz8 (ks.zip vvs) ([]:List (Key×V))
    rw [List.length_nil,List.length_zip] at h1
    rw [sizeLine_eq];lia
   refine ⟨.ref h2.objs.size,_,I1.laid (a:=h2.objs.size) (o:=.dK (zt8 [] (ks.zip vvs))) (h':=h') (t':=tk) (fun b o e=>?_) hle (yC3 hz ?_ ((yC5 vb).merge .nil) dd),rfl,q1 _ (I1.hok.fresh hle) (zL7 I2)⟩
   ·have hb:=Heap.lt_size e
    exact kp b o (zH7 hb (by lia)) (zH7 hb (by lia)) (Nat.ne_of_lt hb) (zH7 hb (Nat.le_succ _)) (g6 b o e)
   ·exact beq_eq_false_iff_ne.mpr (Ne.symm (Nat.ne_of_lt (Nat.lt_of_lt_of_le I1.big hle)))
 | [],ers,prs,on=>simp at ers
 | [_],ers,prs,on=>simp at ers
 | _::_::_::_,ers,prs,on=>simp at ers
theorem ye3:∀ {K:Frag} {H:Hp} {lv:Addr→Prop} {xs:List PV} {vs:List V},RPs K H lv xs vs→(∀ x∈xs,zu5 x=true)→vs=(xs.map yt5).map kV
 | K,H,lv,[],vs,h,_=>by rw [RPs] at h;subst h;rfl
 | K,H,lv,x::xs,vs,h,hk=>by
  rw [RPs] at h
  obtain ⟨w,wr,rfl,h1,h2⟩:=h
  rw [List.map_cons,List.map_cons,← ye3 h2 fun y hy=>hk y (List.mem_cons_of_mem _ hy)]
  have:=hk x (List.mem_cons_self ..)
  congr 1
  cases x with
  | int i=>rw [RP] at h1;exact h1
  | str cs=>rw [RP] at h1;exact h1.1
  | _=>cases this
theorem yw3 (hc:X.calm=true) (hg:Gl X "dict") (hm:X.mg "dict" = none) (hg2:Gl X "zip") (hm2:X.mg "zip" = none) (ha:SA X C [e,e2] [ia,ib])
  (he:starEach [e,e2] X.env=(false,eval e X.env)::starEach [e2] X.env) (hpl:(backTo pos' (starEach [e2] X.env)).any (·.1)=false)
  (he2:starEach [.Call (.Name "zip" p') [e,e2] [] pos'] X.env=(false,eval (.Call (.Name "zip" p') [e,e2] [] pos') X.env)::starEach [] X.env) (hpl2:(backTo pos (starEach [] X.env)).any (·.1)=false) :
  SE X C (.Call (.Name "dict" p) [.Call (.Name "zip" p') [e,e2] [] pos'] [] pos) (.dictZ ia ib) :=
 PE.mono (yx8 hc hg hm hg2 hm2 ha he hpl he2 hpl2) fun σ H Q h_=>by
  obtain ⟨env,α,st,v,st',at',ev,q⟩:=h_
  rw [yu1] at ev
  obtain ⟨x,st1,e1,ev⟩:=Res.bindP_inv ev
  obtain ⟨y,st2,e2',ev⟩:=Res.bindP_inv ev
  have hps:evalPs C [ia,ib] env st=.ok [x,y] st2:=by
   rw [zA6,e1]
   show Res.bind (evalPs C [ib] env st1) _=_
   rw [zA6,e2']
   rfl
  refine ⟨env,α,st,[x,y].map .p,st2,at',zG9 hps,fun ws H1 α1 x1 r1 pr=>?_⟩
  have ev:(match zj2 x with | some ks=>(match zj2 y with | some vs=>(if ks.all zu5=true∧ks.length≤1000 then Res.ok (.ref st2.length) (st2++[.dct ((ks.zip vs).foldl (fun d p=>zF4 p.1 p.2 d) [])]) else .stuck) | none=>.stuck) | none=>.stuck)=Res.ok v st':=ev
  cases hx:zj2 x with
  | none=>rw [hx] at ev;cases ev
  | some ks =>
   cases hy:zj2 y with
   | none=>rw [hx,hy] at ev;cases ev
   | some vs =>
    rw [hx,hy] at ev
    have ev:(if ks.all zu5=true∧ks.length≤1000 then Res.ok (.ref st2.length) (st2++[.dct ((ks.zip vs).foldl (fun d p=>zF4 p.1 p.2 d) [])]) else .stuck)=Res.ok v st':=ev
    by_cases hc':ks.all zu5=true∧ks.length≤1000
    ·rw [if_pos hc'] at ev
     cases ev
     obtain ⟨ps,vss,rfl,hpl',c1,c2,_⟩:=yY0 (xs:=[x,y]) (ls:=[ks,vs]) (by rw [List.mapM_cons,hx,List.mapM_cons,hy];rfl) pr
     cases c2 with
     | @cons _ w1 _ _ ra t =>
      cases t with
      | @cons _ w2 _ _ rb t =>
       cases t
       cases c1 with
       | @cons p1 _ _ _ ca t =>
        cases t with
        | @cons p2 _ _ _ cb t =>
         cases t
         have hk':∀ k∈ks,zu5 k=true:=List.all_eq_true.mp hc'.1
         have hw:=ye3 ra hk'
         subst hw
         refine ⟨p1,p2,rfl,ks.map yt5,w2,ca,cb,by simpa using hc'.2,fun p hp hK=>?_⟩
         have hmk:∀ l:List (Key×V),zt8 l ((ks.map yt5).zip w2)=zt8 l ((ks.zip w2).map fun kv=>(yt5 kv.1,kv.2)):=fun l=>by
          rw [List.zip_map_left]
          rfl
         rw [hmk]
         have ex0:=zW4 (o:=.dct ((ks.zip vs).foldl (fun d p=>zF4 p.1 p.2 d) [])) (h':=.dK (zt8 [] ((ks.zip w2).map fun kv=>(yt5 kv.1,kv.2)))) r1 hp hK
         have rs0:=yl0 (o:=.dct ((ks.zip vs).foldl (fun d p=>zF4 p.1 p.2 d) [])) (h':=.dK (zt8 [] ((ks.zip w2).map fun kv=>(yt5 kv.1,kv.2)))) r1 hp hK (fun xs z=>by cases z) (fun kvs z=>by cases z;exact ⟨_,rfl,zT4 hk' rb (by rw [RKV])⟩)
         exact q _ _ _ (x1.trans ex0) rs0 ⟨p,rfl,yD1 r1⟩
    ·rw [if_neg hc'] at ev;cases ev
end
open PySem L2 PySem.SeqAt PyProof.Rows
structure JE (X:Cx) (C:zb9) (e:Expr) (ir:E):Prop where
 h:SE X C e ir
structure JT (X:Cx) (C:zb9) (e:Expr) (ir:E):Prop where
 h:ST X C e ir
structure JW (X:Cx) (C:zb9) (e:Expr) (ir:E):Prop where
 h:SW X C e ir
structure JF (X:Cx) (C:zb9) (e:Expr) (ir:E):Prop where
 h:SF X C e ir
structure JA (X:Cx) (C:zb9) (e:List Expr) (ir:List E):Prop where
 h:SA X C e ir
structure JO (X:Cx) (C:zb9) (e:Option Expr) (ir:Option E):Prop where
 h:SO X C e ir
structure JI (X:Cx) (C:zb9) (tg iter:Expr) (it:It):Prop where
 h:SI X C tg iter it
structure JG (X:Cx) (tg:Expr) (t:Tg):Prop where
 h:SG X tg t
structure JGs (X:Cx) (es:List Expr) (is:List Nat):Prop where
 h:PGs X es (tGs X.K is)
structure JTs (X:Cx) (C:zb9) (ifs:List Expr) (cond:Option E):Prop where
 h:PTs X ifs (tTs X.K C cond)
structure JS (X:Cx) (C:zb9) (W:Nat) (b:Stmt) (ss:S):Prop where
 h:SS X C W b ss
structure JSs (X:Cx) (C:zb9) (W:Nat) (b:List Stmt) (ss:List S):Prop where
 h:SSs X C W b ss
section
variable {X:Cx} {C:zb9} {W:Nat} {a b c e o i value l elt iter tg:Expr} {es zp3 elts:List Expr} {x1:Nat} {tpos:Pos} {ia ib ic ie io ii iv ielt il:E} {irs:List E} {pos p p2 p' pos' apos cpos:Pos} {e2 f:Expr} {iff:E} {it:It} {t:Tg} {scope:Scope} {N:List Str} {caps:List Nat} {n:Nat} {ifs:List Expr} {name:Str} {id:String} {m:Mt} {is:List Nat} {PR:List FD} {d k:Nat}
theorem zW9 {j}:JE X C (.Constant .none j pos) (.const .non):=⟨yN6⟩
theorem zL9 {i j}:JE X C (.Constant (.bool i) j pos) (.const (.bl i)):=⟨xg6⟩
theorem za5 {i j}:JE X C (.Constant (.int i) j pos) (.const (.int i)):=⟨yR9⟩
theorem za7 {x j} {cs:List Nat} (h:x=⟨cs.toArray⟩:=by decide +kernel) (hl:cs.length≤1000:=by decide):JE X C (.Constant (.str x) j pos) (.const (.str cs)):=⟨yQ2 (h:=h) (hl:=hl)⟩
theorem jsv (i:Nat) {x:Str} {pos:Pos} (hN:X.N[i]?=some x:=by rfl) (hv:Vis X.env.scope x:=by trivial) (hd:(x==("__debug__" : Str))=false:=by decide) (hcd:(x==("__classdict__" : Str))=false:=by decide):JE X C (.Name x pos) (.var i):=⟨sv (i:=i) (hN:=hN) (hv:=hv) (hd:=hd) (hcd:=hcd)⟩
theorem zb7 {op:Operator} {g:PV→PV→Option PV} {ir:E} (ho:Op2 X (binaryOp op) g) (ha:JE X C a ia) (hb:JE X C b ib) (hi:∀ env st,evalE C ir env st=(evalE C ia env st).bind fun x st=>(evalE C ib env st).bind fun y st=>op2 g x y st):JE X C (.BinOp a op b pos) ir:=⟨xd2 (ho:=ho) (ha:=ha.h) (hb:=hb.h) (hi:=hi)⟩
theorem zI3 {op:CmpOp} {g:PV→PV→Option PV} {ir:E} (ho:Op2 X (compareOp op) g) (ha:JE X C a ia) (hb:JE X C b ib) (hm:behindInMarks op b=false) (hi:∀ env st,evalE C ir env st=(evalE C ia env st).bind fun x st=>(evalE C ib env st).bind fun y st=>op2 g x y st):JE X C (.Compare a [op] [b] pos) ir:=⟨yT4 (ho:=ho) (ha:=ha.h) (hb:=hb.h) (hm:=hm) (hi:=hi)⟩
theorem yr2 {op} (h:JE X C a ia):JE X C (.BoolOp op [a] pos) ia:=⟨yR2 (h:=h.h)⟩
theorem yn4 (ha:JE X C a ia) (hb:JE X C (.BoolOp .And (b::zp3) pos) ib):JE X C (.BoolOp .And (a::b::zp3) pos) (.and ia ib):=⟨yQ7 (ha:=ha.h) (hb:=hb.h)⟩
theorem za9 {es:List Expr} {irs:List E} {x1} (h:JA X C es irs) (hl:es.length≤1000:=by decide) (hi:irs.length=es.length:=by rfl):JE X C (.Tuple es x1 pos) (.tup irs):=⟨yP5 (h:=h.h) (hl:=hl) (hi:=hi)⟩
theorem zc9 {es:List Expr} {irs:List E} (h:JA X C es irs) (hl:es.length≤1000:=by decide) (hi:irs.length=es.length:=by rfl):JE X C (.List es pos) (.list false irs):=⟨yQ5 (h:=h.h) (hl:=hl) (hi:=hi)⟩
theorem zn6 (h:JF X C e ie):JE X C e (.thaw ie):=⟨yG7 (h:=h.h)⟩
theorem zs2 {es:List Expr} {irs:List E} (h:JA X C es irs) (hl:es.length≤1000) (hi:irs.length=es.length):JF X C (.List es pos) (.list false irs):=⟨yN8 (h:=h.h) (hl:=hl) (hi:=hi)⟩
theorem zy5  : JO X C none none:=⟨yE2⟩
theorem zl0 (h:JE X C e ie):JO X C (some e) (some ie):=⟨yK5 (h:=h.h)⟩
theorem zn0 {lo hi:Option Expr} {ilo ihi:Option E} (he:JE X C e ie) (hl:JO X C lo ilo) (hh:JO X C hi ihi):JE X C (.Subscript e (.Slice lo hi none p2) pos) (.slice ie ilo ihi):=⟨yz4 (he:=he.h) (hl:=hl.h) (hh:=hh.h)⟩
theorem zb4 (hu:X.A.units+1<cLine) (ha:JE X C a ia) (hb:JE X C b ib) (hs:zW5 b):JE X C (.Subscript a b pos) (.ix ia ib):=⟨xi2 (hu:=hu) (ha:=ha.h) (hb:=hb.h) (hs:=hs)⟩
theorem zi3 {cond:Option E} (hcalm:X.calm=true) (ok:zG3 X scope N caps n) (hi:JI X C tg iter it) (hg:∀ cl s₀ H₀ ex pn,JG (zf2 X scope N cl s₀ H₀ ex pn) tg t) (ht:∀ cl s₀ H₀ ex pn,JTs (zf2 X scope N cl s₀ H₀ ex pn) C ifs cond) (he:∀ cl s₀ H₀ ex pn,JE (zf2 X scope N cl s₀ H₀ ex pn) C elt ielt) (hs:∀ x,foldedSetIterable iter X.env x=pure x:=by intro _;rfl):JE X C (.ListComp elt [⟨tg,iter,ifs,0⟩] scope pos) (.comp false ielt t it cond caps n):=⟨yJ9 (hcalm:=hcalm) (ok:=ok) (hi:=hi.h) (hg:=fun cl s₀ H₀ ex pn=>(hg cl s₀ H₀ ex pn).h) (ht:=fun cl s₀ H₀ ex pn=>(ht cl s₀ H₀ ex pn).h) (he:=fun cl s₀ H₀ ex pn=>(he cl s₀ H₀ ex pn).h) (hs:=hs)⟩
theorem yB0 {i:Nat} {y:Str} {py spos:Pos} {cond:Option E} (hN:X.N.Nodup) (hyi:X.N[i]?=some y) (hyl:X.env.scope.names.lookup y=some .local) (hcalm:X.calm=true) (ok:zG3 X scope N caps n) (hi:JI X C tg iter it) (hg:∀ cl s₀ H₀ ex pn,JG (zf2 X scope N cl s₀ H₀ ex pn) tg t) (ht:∀ cl s₀ H₀ ex pn,JTs (zf2 X scope N cl s₀ H₀ ex pn) C ifs cond) (he:∀ cl s₀ H₀ ex pn,JE (zf2 X scope N cl s₀ H₀ ex pn) C elt ielt) (hs:∀ x,foldedSetIterable iter X.env x=pure x:=by intro _;rfl) (hsw:swapsWith (.ListComp elt [⟨tg,iter,ifs,0⟩] scope pos) (some (.Name y py)) spos.line X.env=pure true:=by rfl) :
  JS X C W (.Assign [.Name y py] (.ListComp elt [⟨tg,iter,ifs,0⟩] scope pos) spos) (.set i (.comp false ielt t it cond caps n)):=⟨yK0 (hN:=hN) (hyi:=hyi) (hyl:=hyl) (hcalm:=hcalm) (ok:=ok) (hi:=hi.h) (hg:=fun cl s₀ H₀ ex pn=>(hg cl s₀ H₀ ex pn).h) (ht:=fun cl s₀ H₀ ex pn=>(ht cl s₀ H₀ ex pn).h) (he:=fun cl s₀ H₀ ex pn=>(he cl s₀ H₀ ex pn).h) (hs:=hs) (hsw:=hsw)⟩
theorem zo5 {a:Expr} {ia:E} (hg:Gl X "range") (hm:X.mg "range" = none) (ha:JE X C a ia) (hs:starEach [a] X.env=[(false,eval a X.env)]:=by rfl):JI X C tg (.Call (.Name "range" p) [a] [] pos) (.range ia):=⟨yA2 (hg:=hg) (hm:=hm) (ha:=ha.h) (hs:=hs)⟩
theorem zh3 (hl:JE X C l il):JI X C tg l (.of il):=⟨yY6 (hl:=hl.h)⟩
theorem yy0 (hg:Gl X "zip") (hm:X.mg "zip" = none) (hv:bootBuiltins "zip" = some (.type "zip")) (ha:JA X C (e::es) [ia,ib]) (he:starEach (e::es) X.env=(false,eval e X.env)::starEach es X.env:=by rfl) (hpl:(backTo pos (starEach es X.env)).any (·.1)=false:=by rfl):JI X C (.Tuple elts x1 tpos) (.Call (.Name "zip" p) (e::es) [] pos) (.zipR ia ib):=⟨yI2 (hg:=hg) (hm:=hm) (hv:=hv) (ha:=ha.h) (he:=he) (hpl:=hpl)⟩
theorem yv6 (hg:Gl X "enumerate") (hm:X.mg "enumerate" = none) (hv:bootBuiltins "enumerate" = some (.type "enumerate")) (ha:JA X C (e::es) [ia]) (he:starEach (e::es) X.env=(false,eval e X.env)::starEach es X.env:=by rfl) (hpl:(backTo pos (starEach es X.env)).any (·.1)=false:=by rfl):JI X C (.Tuple elts x1 tpos) (.Call (.Name "enumerate" p) (e::es) [] pos) (.enum ia):=⟨yL5 (hg:=hg) (hm:=hm) (hv:=hv) (ha:=ha.h) (he:=he) (hpl:=hpl)⟩
theorem yc9 (hu:X.A.units+1<cLine) (ho:JE X C o io) (he:JE X C e ie) (hf:JE X C f iff) (m:M2 X o "get" apos e f cpos):JE X C (.Call (.Attribute o "get" apos) [e,f] [] cpos) (.dget io ie iff):=⟨yL8 (hu:=hu) (ho:=ho.h) (he:=he.h) (hf:=hf.h) (m:=m)⟩
theorem zR7 (hc:X.calm=true) (hg:Gl X "dict") (hm:X.mg "dict" = none) (hg2:Gl X "zip") (hm2:X.mg "zip" = none) (ha:JA X C [e,e2] [ia,ib]) (he:starEach [e,e2] X.env=(false,eval e X.env)::starEach [e2] X.env:=by rfl) (hpl:(backTo pos' (starEach [e2] X.env)).any (·.1)=false:=by rfl) (he2:starEach [.Call (.Name "zip" p') [e,e2] [] pos'] X.env=(false,eval (.Call (.Name "zip" p') [e,e2] [] pos') X.env)::starEach [] X.env:=by rfl) (hpl2:(backTo pos (starEach [] X.env)).any (·.1)=false:=by rfl) :
  JE X C (.Call (.Name "dict" p) [.Call (.Name "zip" p') [e,e2] [] pos'] [] pos) (.dictZ ia ib):=⟨yw3 (hc:=hc) (hg:=hg) (hm:=hm) (hg2:=hg2) (hm2:=hm2) (ha:=ha.h) (he:=he) (hpl:=hpl) (he2:=he2) (hpl2:=hpl2)⟩
theorem zb1 {x:Str} {f:Addr} {fd:FuncData} {ps:List Str} (F:zp8 X.prog X.w X.K X.mg X.base CX0 d f fd ps (spF X.K PR W d k ps.length)) (hr:zn4 d X.A) (hg:Gl X x) (hm:X.mg x=some (.ref f)) (hk:keepIn X.K (.ref f)=true) (hb:Binds X.K fd ps []) (ha:JA X (zg1 PR W d) (e::es) irs) (hn:irs.length=ps.length) (hdb:(x==("__debug__" : Str))=false:=by decide) (he:starEach (e::es) X.env=(false,eval e X.env)::starEach es X.env:=by rfl) (hpl:(backTo pos (starEach es X.env)).any (·.1)=false:=by rfl) :
  JE X (zg1 PR W d) (.Call (.Name x p) (e::es) [] pos) (.call k irs):=⟨yL0 (F:=F) (hr:=hr) (hg:=hg) (hm:=hm) (hk:=hk) (hb:=hb) (ha:=ha.h) (hn:=hn) (hdb:=hdb) (he:=he) (hpl:=hpl)⟩
theorem zQ2 {x:Str} {f:Addr} {fd:FuncData} (F:zp8 X.prog X.w X.K X.mg X.base CX0 d f fd [] (spF X.K PR W d k 0)) (hr:zn4 d X.A) (hg:Gl X x) (hm:X.mg x=some (.ref f)) (hk:keepIn X.K (.ref f)=true) (hb:Binds X.K fd [] []) (hdb:(x==("__debug__" : Str))=false:=by decide):JE X (zg1 PR W d) (.Call (.Name x p) [] [] pos) (.call k []):=⟨yy5 (F:=F) (hr:=hr) (hg:=hg) (hm:=hm) (hk:=hk) (hb:=hb) (hdb:=hdb)⟩
theorem zk6 {x:Str} (t:Ty) (hg:Gl X "isinstance") (hm:X.mg "isinstance" = none) (hv:bootBuiltins "isinstance" = some (.builtin "isinstance")) (hg2:Gl X x) (hm2:X.mg x=none) (hv2:bootBuiltins x=some (.type (zS2 t))) (ha:JE X C a ia) (hn2:x ≠ "__name__" := by decide) (hd2:(x==("__debug__" : Str))=false:=by decide) (hs:starEach [a,.Name x p2] X.env=(false,eval a X.env)::starEach [.Name x p2] X.env:=by rfl) (hs2:starEach [.Name x p2] X.env=(false,eval (.Name x p2) X.env)::starEach [] X.env:=by rfl) (hpl:(backTo pos (starEach [.Name x p2] X.env)).any (·.1)=false:=by rfl):JE X C (.Call (.Name "isinstance" p) [a,.Name x p2] [] pos) (.blt (.isinst t) [ia]):=⟨ym1 (t:=t) (hg:=hg) (hm:=hm) (hv:=hv) (hg2:=hg2) (hm2:=hm2) (hv2:=hv2) (ha:=ha.h) (hn2:=hn2) (hd2:=hd2) (hs:=hs) (hs2:=hs2) (hpl:=hpl)⟩
theorem zf7 {x:Str} {id:String} {g:List PV→Option PV} {ir:E} (hc:zH4 X (.builtin id) g) (hi:∀ env st,evalE C ir env st=(evalEs C irs env st).bind fun vs st=>opN g vs st) (hg:Gl X x) (hm:X.mg x=none) (hv:bootBuiltins x=some (.builtin id)) (ha:JA X C (e::es) irs) (hn:x ≠ "__name__" := by decide) (hdb:(x==("__debug__" : Str))=false:=by decide) (he:starEach (e::es) X.env=(false,eval e X.env)::starEach es X.env:=by rfl) (hpl:(backTo pos (starEach es X.env)).any (·.1)=false:=by rfl) :
  JE X C (.Call (.Name x p) (e::es) [] pos) ir:=⟨yB3 (hc:=hc) (hi:=hi) (hg:=hg) (hm:=hm) (hv:=hv) (ha:=ha.h) (hn:=hn) (hdb:=hdb) (he:=he) (hpl:=hpl)⟩
theorem zh6 {x:Str} {T:String} {g:List PV→Option PV} {ir:E} (hc:zH4 X (.type T) g) (hi:∀ env st,evalE C ir env st=(evalEs C irs env st).bind fun vs st=>opN g vs st) (hg:Gl X x) (hm:X.mg x=none) (hv:bootBuiltins x=some (.type T)) (ha:JA X C (e::es) irs) (hn:x ≠ "__name__" := by decide) (hdb:(x==("__debug__" : Str))=false:=by decide) (he:starEach (e::es) X.env=(false,eval e X.env)::starEach es X.env:=by rfl) (hpl:(backTo pos (starEach es X.env)).any (·.1)=false:=by rfl) :
  JE X C (.Call (.Name x p) (e::es) [] pos) ir:=⟨yl8 (hc:=hc) (hi:=hi) (hg:=hg) (hm:=hm) (hv:=hv) (ha:=ha.h) (hn:=hn) (hdb:=hdb) (he:=he) (hpl:=hpl)⟩
theorem zY3 {irs:List E} {ir:E} (hc:X.calm=true) (hi:∀ env st,evalE C ir env st=(evalEs C irs env st).bind fun vs st=>opN (f1 (zJ7 zm6)) vs st) (hg:Gl X "sorted") (hm:X.mg "sorted" = none) (hg2:Gl X "set") (hm2:X.mg "set" = none) (ha:JA X C [e] irs) (he:starEach [e] X.env=(false,eval e X.env)::starEach [] X.env:=by rfl) (hpl:(backTo pos' (starEach [] X.env)).any (·.1)=false:=by rfl) (he2:starEach [.Call (.Name "set" p') [e] [] pos'] X.env=(false,eval (.Call (.Name "set" p') [e] [] pos') X.env)::starEach [] X.env:=by rfl) (hpl2:(backTo pos (starEach [] X.env)).any (·.1)=false:=by rfl) :
  JE X C (.Call (.Name "sorted" p) [.Call (.Name "set" p') [e] [] pos'] [] pos) ir:=⟨yi1 (hc:=hc) (hi:=hi) (hg:=hg) (hm:=hm) (hg2:=hg2) (hm2:=hm2) (ha:=ha.h) (he:=he) (hpl:=hpl) (he2:=he2) (hpl2:=hpl2)⟩
theorem zE7 {g:List PV→List PV→Option (PV×List PV)} (slot:Slot "list" name id) (hty:typeOf (.builtin id)=pure (.type "method_descriptor")) (hm:MtK X id g) (ho:JE X C o io) (ha:JA X C (e::es) irs) (hg:∀ v vs st,zz0 m v vs st=(match yr4 vs with | some xs=>zB6 v st (g xs) | none=>.stuck)) (hbase:attributeBase o name X.env (eval o X.env)=eval o X.env:=by rfl) (hfew:((backTo cpos (starEach (e::es) X.env)).all (fun x=>!x.1)&&(backToKw cpos (keywordEach [] X.env)).all (fun x=>x.1.isSome)
      && decide ((e::es).length+([]:List Keyword).length+(if ([]:List Keyword).isEmpty then 0 else 1)<30))=true:=by rfl) (hline:(apos.endLine==cpos.line)=true:=by rfl) (hs:starEach (e::es) X.env=(false,eval e X.env)::starEach es X.env:=by rfl) (hplain:(backTo cpos (starEach es X.env)).any (·.1)=false:=by rfl) :
    JE X C (.Call (.Attribute o name apos) (e::es) [] cpos) (.meth m io irs):=⟨yW0 (slot:=slot) (hty:=hty) (hm:=hm) (ho:=ho.h) (ha:=ha.h) (hg:=hg) (hbase:=hbase) (hfew:=hfew) (hline:=hline) (hs:=hs) (hplain:=hplain)⟩
theorem zE6 {g:List PV→List PV→Option (PV×List PV)} (slot:Slot "list" name id) (hty:typeOf (.builtin id)=pure (.type "method_descriptor")) (hm:MtL X id g) (ho:JE X C o io) (ha:JA X C (e::es) irs) (hg:∀ v vs st,zz0 m v vs st=(match zn7 st vs with | some xs=>zB6 v st (g xs) | none=>.stuck)) (hbase:attributeBase o name X.env (eval o X.env)=eval o X.env:=by rfl) (hfew:((backTo cpos (starEach (e::es) X.env)).all (fun x=>!x.1)&&(backToKw cpos (keywordEach [] X.env)).all (fun x=>x.1.isSome)
      && decide ((e::es).length+([]:List Keyword).length+(if ([]:List Keyword).isEmpty then 0 else 1)<30))=true:=by rfl) (hline:(apos.endLine==cpos.line)=true:=by rfl) (hs:starEach (e::es) X.env=(false,eval e X.env)::starEach es X.env:=by rfl) (hplain:(backTo cpos (starEach es X.env)).any (·.1)=false:=by rfl) :
    JE X C (.Call (.Attribute o name apos) (e::es) [] cpos) (.meth m io irs):=⟨yX7 (slot:=slot) (hty:=hty) (hm:=hm) (ho:=ho.h) (ha:=ha.h) (hg:=hg) (hbase:=hbase) (hfew:=hfew) (hline:=hline) (hs:=hs) (hplain:=hplain)⟩
theorem zD6 (ha:JT X C a ia):JW X C (.BoolOp .And [a] pos) ia:=⟨yI0 (ha:=ha.h)⟩
theorem zZ1 (ha:JT X C a ia):JW X C (.BoolOp .Or [a] pos) ia:=⟨yW9 (ha:=ha.h)⟩
theorem zN2 (ha:JT X C a ia) (hb:JW X C (.BoolOp .And (b::zp3) pos) ib):JW X C (.BoolOp .And (a::b::zp3) pos) (.and ia ib):=⟨yY3 (ha:=ha.h) (hb:=hb.h)⟩
theorem ym4 (ha:JT X C a ia) (hb:JW X C (.BoolOp .Or (b::zp3) pos) ib):JW X C (.BoolOp .Or (a::b::zp3) pos) (.or ia ib):=⟨xi0 (ha:=ha.h) (hb:=hb.h)⟩
theorem zH8 {e:Expr} {ir:E} (h:JW X C e ir):JT X C e ir:=⟨xd9 (h:=h.h)⟩
theorem yq6 (ha:JT X C a ia):JT X C (.UnaryOp .Not a pos) (.not ia):=⟨yR6 (ha:=ha.h)⟩
theorem ze9 {op:CmpOp} {g:PV→PV→Option PV} {ir:E} (ho:Op2 X (compareOp op) g) (ha:JE X C a ia) (hb:JE X C b ib) (hm:behindInMarks op b=false) (hi:∀ env st,evalE C ir env st=(evalE C ia env st).bind fun x st=>(evalE C ib env st).bind fun y st=>op2 g x y st):JT X C (.Compare a [op] [b] pos) ir:=⟨yQ6 (ho:=ho) (ha:=ha.h) (hb:=hb.h) (hm:=hm) (hi:=hi)⟩
theorem zF3 {e:Expr} {ir:E} (h:JE X C e ir) (he:∀ whole,isTrue e X.env whole=(do let v ← whole;standAt e.pos;holding [v] (truthy v)):=by intro _;rfl):JT X C e ir:=⟨yV4 (h:=h.h) (he:=he)⟩
theorem zb0  : JSs X C W [] []:=⟨yV1⟩
theorem za3 {st:Stmt} {zp3:List Stmt} {i:S} {ir:List S} (h1:JS X C W st i) (h2:JSs X C W zp3 ir):JSs X C W (st::zp3) (i::ir):=⟨yI4 (h1:=h1.h) (h2:=h2.h)⟩
theorem zm4 {ie:E} (h:JE X C e ie) (hs:swapsWith e none pos.line X.env=pure false:=by rfl):JS X C W (.Expr e pos) (.expr ie):=⟨yH4 (h:=h.h) (hs:=hs)⟩
theorem zc0 {ie:E} (h:JE X C e ie):JS X C W (.Return (some e) pos) (.ret ie):=⟨yW1 (h:=h.h)⟩
theorem zM2 (h:JE X C e ie):JE X C e (.freeze ie):=⟨yk7 (h:=h.h)⟩
theorem zb3 {i:Nat} {x:Str} {ie:E} {pos':Pos} (hN:X.N.Nodup) (hi:X.N[i]?=some x) (hx:Loc X.env.scope x) (h:JE X C e ie) (hs:swapsWith e (some (.Name x pos')) pos.line X.env=pure false:=by rfl) (hf:X.fn x=true∨X.env.scope.names.lookup x=some .local:=by trivial) :
  JS X C W (.Assign [.Name x pos'] e pos) (.set i ie):=⟨yN3 (hN:=hN) (hi:=hi) (hx:=hx) (h:=h.h) (hs:=hs) (hf:=hf)⟩
theorem zG2 (hu:X.A.units+1<cLine) (ho:JE X C o io) (hi:JE X C i ii) (hv:JE X C value iv) (ha:∀ v,assign (.Subscript o i pos') X.env v=(do
      let ov ← holding [v] (eval o X.env)
      let iv ← holding [v,ov] (eval i X.env)
      standAt pos'
      holding [v,ov,iv] (setItem ov iv v)
      release [v,ov,iv] []):=by intro _;rfl) (hs:swapsWithSole [.Subscript o i pos'] value pos.line X.env=pure false:=by rfl) (hw:swappedStores [.Subscript o i pos'] value X.env=pure none:=by rfl) (h1:(assignEach [.Subscript o i pos'] X.env).map (·.2)=[assign (.Subscript o i pos') X.env]:=by rfl):JS X C W (.Assign [.Subscript o i pos'] value pos) (.setIx io ii iv):=⟨yB2 (hu:=hu) (ho:=ho.h) (hi:=hi.h) (hv:=hv.h) (ha:=ha) (hs:=hs) (hw:=hw) (h1:=h1)⟩
theorem zn2 {c:Expr} {ic:E} {a b:List Stmt} {sa sb:List S} (hc:JT X C c ic) (ha:JSs X C W a sa) (hb:JSs X C W b sb):JS X C W (.If c a b pos) (.ite ic sa sb):=⟨xe4 (hc:=hc.h) (ha:=ha.h) (hb:=hb.h)⟩
theorem zk3 {iter:Expr} {body:List Stmt} {it:It} {t:Tg} {ib:List S} (hp:PassesOwn (model X.prog X.w) X.A X.env X.xe) (hc:X.calm=true) (hi:JI X C tg iter it) (hg:JG X tg t) (hb:JSs X C W body ib) (hs:∀ x,foldedSetIterable iter X.env x=pure x:=by intro _;rfl):JS X C W (.For tg iter body [] pos) (.for t it ib):=⟨yY7 (hp:=hp) (hc:=hc) (hi:=hi.h) (hg:=hg.h) (hb:=hb.h) (hs:=hs)⟩
theorem zd4 {i:Nat} {x:Str} (hN:X.N.Nodup) (hi:X.N[i]?=some x) (hx:Loc X.env.scope x) (hf:X.fn x=true∨X.env.scope.names.lookup x=some .local:=by trivial):JG X (.Name x pos) (.name i):=⟨yI3 (hN:=hN) (hi:=hi) (hx:=hx) (hf:=hf)⟩
theorem zC2 {k:Nat} (hc:X.calm=true) (h:JGs X es is) (hn:(assignEach es X.env).length=is.length:=by rfl) (hst:(assignEach es X.env).findIdx? (·.1)=none:=by rfl):JG X (.Tuple es k pos) (.tup is):=⟨yV2 (hc:=hc) (h:=h.h) (hn:=hn) (hst:=hst)⟩
theorem zv5  : JGs X [] []:=⟨yH6⟩
theorem zh7 {i:Nat} {x:Str} (hN:X.N.Nodup) (hi:X.N[i]?=some x) (hx:Loc X.env.scope x) (h:JGs X es is) (hf:X.fn x=true∨X.env.scope.names.lookup x=some .local:=by trivial) (hs:(assignEach (.Name x pos::es) X.env).map (·.2)=assign (.Name x pos) X.env::(assignEach es X.env).map (·.2):=by rfl):JGs X (.Name x pos::es) (i::is):=⟨yw2 (hN:=hN) (hi:=hi) (hx:=hx) (h:=h.h) (hf:=hf) (hs:=hs)⟩
theorem za1  : JA X C [] []:=⟨yE0⟩
theorem za0 {es:List Expr} {irs:List E} (ha:JE X C a ia) (hr:JA X C es irs) (hs:starEach (a::es) X.env=(false,eval a X.env)::starEach es X.env:=by rfl):JA X C (a::es) (ia::irs):=⟨yp5 (ha:=ha.h) (hr:=hr.h) (hs:=hs)⟩
theorem zM8  : JTs X C [] none:=⟨pts0⟩
theorem yh5 {c:Expr} {ic:E} (h:JT X C c ic):JTs X C [c] (some ic):=⟨pts1 (h:=h.h)⟩
end
section
variable {P:Program} {w:World} {K:Frag} {mg:Str→Option Value} {base:Heap} {PR:List FD} {W d k:Nat}
theorem zl6 {d:Nat} {A:Around} (h:zn4 d A):A.units+1<cLine:=by have:=h.un;omega
theorem zl5 {d:Nat} {A:Around} (h:zn4 d A):A.units+200<cLine:=by have:=h.un;omega
theorem zc4 {x qual:Str} {st:Stmt} {f:Addr} {fd:FuncData} {N ps:List Str} {ib:List S} (F:Fun K x qual st f fd) (S:zc8 N ps (za2 st)) (hP:PR[k]?=some ⟨ps.length,N.length,ib⟩)
  (hb:∀ (cdv:Value) (A:Around) (outer:List PySem.Env) (s:Shared) (H:Hp) (E:XK),zn4 d (A.deeper (envOfC qual (za2 st) s.heap.objs.size f cdv)) →
   JSs (zt6 CX0 P w K mg base N qual (za2 st) f cdv A outer s H E).nox (zg1 PR W d) W (za8 st) ib):zp8 P w K mg base CX0 (d+1) f fd ps (spF K PR W (d+1) k ps.length) :=
 yH2 F S hP fun cdv A outer s H E hr=>(hb cdv A outer s H E hr).h
end
end OR
set_option bootstrap.genMatcherCode true
local macro_rules
 | `(tactic| simp! [$as,*]) => do
  let bs : Lean.Syntax.TSepArray [`Lean.Parser.Tactic.simpErase, `Lean.Parser.Tactic.simpLemma] "," := ⟨as.elemsAndSeps⟩
  `(tactic| ((try dsimp [-OR.exs_cons, -OR.thenS_next, -OR.sliceOp, -OR.bfOp, -OR.ixVal, -OR.walkOf, -Int.reducePow, -List.all_eq_true, -List.reverse_reverse, $bs,*]); try simp [-OR.exs_cons, -OR.thenS_next, -OR.sliceOp, -OR.bfOp, -OR.ixVal, -OR.walkOf, -Int.reducePow, -List.all_eq_true, -List.reverse_reverse, $as,*]))
 | `(tactic| simp! [$as,*] $l:location) => `(tactic| simp [-OR.exs_cons, -OR.thenS_next, -OR.sliceOp, -OR.bfOp, -OR.ixVal, -OR.walkOf, -Int.reducePow, -List.all_eq_true, -List.reverse_reverse, $as,*] $l:location)
 | `(tactic| simp! only [$as,*] $[$l:location]?) => `(tactic| simp only [$as,*, List.map_cons, List.map_nil, List.cons_append, List.nil_append, Nat.reduceSub, List.replicate] $[$l:location]?)
 | `(tactic| trivial) => `(tactic| first | exact Or.inl rfl | exact Or.inr (Or.inl rfl) | exact Or.inr rfl | exact Or.inr (Or.inr rfl) | assumption)
 | `(tactic| dsimp! only) => `(tactic| simp only [OR.thenS_next, OR.exs_nil, OR.sat_ok, List.set_cons_succ, List.set_cons_zero])
set_option bootstrap.genMatcherCode false
namespace LA
open OR
noncomputable def zG5:List S :=
 [.ret (.cmp .isIn (.var 0) (.const (.tup [(.str [65]),(.str [66]),(.str [67]),(.str [68]),(.str [69]),(.str [70])])))]
noncomputable def zJ0:FD:=⟨1,1,zG5⟩
noncomputable def zx6:List S :=
 [.set 2 (.thaw (.list false [])),
 .for (.name 3) (.of (.var 0))
  [.expr (.meth .extend (.var 2) [(.comp false (.bin .add (.var 0) (.tup [(.var 1)])) (.name 1) (.of (.var 1)) none [3] 1)])],
 .ret (.freeze (.var 2))]
noncomputable def zx8:FD:=⟨2,4,zx6⟩
noncomputable def zu0:List S :=
 [.ite (.cmp .eq (.ix (.var 0) (.const (.int 0))) (.const (.str [106,117,115,116])))
  [.ret (.tup [])]
  [],
 .ite (.cmp .isIn (.ix (.var 0) (.const (.int 0))) (.tup [(.const (.str [115,117,109])),(.const (.str [109,101,101,116]))]))
  [.ret (.tup [(.ix (.var 0) (.const (.int 1))),(.ix (.var 0) (.const (.int 2)))])]
  [],
 .ret (.tup [(.ix (.var 0) (.const (.int 1)))])]
noncomputable def zv0:FD:=⟨1,1,zu0⟩
noncomputable def zr6:List S :=
  [.ite (.cmp .eq (.ix (.var 0) (.const (.int 0))) (.const (.str [97,115,107])))
    [.ret (.bin .add (.bin .add (.list false [(.ix (.var 0) (.const (.int 1)))]) (.call 3 [(.ix (.var 0) (.const (.int 3)))])) (.call 3 [(.ix (.var 0) (.const (.int 4)))]))]
    [],
  .set 1 (.thaw (.list false [])),
  .for (.tup [2,3]) (.of (.ix (.var 0) (.const (.int 1))))
    [.expr (.meth .append (.var 1) [(.var 2)]),
     .expr (.meth .extend (.var 1) [(.call 2 [(.var 3)])])],
  .ret (.freeze (.var 1))]
noncomputable def zo7:FD:=⟨1,4,zr6⟩
noncomputable def zB0:List S :=
 [.set 1 (.thaw (.list false [])),
 .for (.name 2) (.of (.call 3 [(.var 0)]))
  [.expr (.meth .extend (.var 1) [(.comp false (.var 0) (.name 0) (.of (.slice (.var 2) (some (.const (.int 1))) none)) (some (.call 0 [(.var 0)])) [] 1)])],
 .ret (.blt .tuple [(.blt .sortSet [(.var 1)])])]
noncomputable def zB2:FD:=⟨1,3,zB0⟩
noncomputable def zB3:List S :=
  [.set 1 (.blt .sorted [(.ix (.var 0) (.const (.int 0)))]),
  .set 2 (.thaw (.list false [])),
  .for (.tup [3,4]) (.enum (.ix (.var 0) (.const (.int 2))))
    [.set 5 (.list false [(.tup [])]),
     .for (.name 6) (.of (.call 4 [(.var 4)]))
       [.set 5 (.call 1 [(.var 5),(.var 1)])],
     .expr (.meth .extend (.var 2) [(.comp false (.tup [(.var 0),(.var 1)]) (.name 1) (.of (.var 5)) none [3] 1)])],
  .ret (.var 2)]
noncomputable def zB7:FD:=⟨1,7,zB3⟩
noncomputable def zW7:List S :=
 [.ret (.call 8 [(.call 7 [(.var 0),(.var 1)]),(.var 2)])]
noncomputable def ya4:FD:=⟨3,3,zW7⟩
noncomputable def zp0:List S :=
 [.ret (.dictZ (.call 4 [(.var 0)]) (.ix (.var 1) (.const (.int 1))))]
noncomputable def zo6:FD:=⟨2,2,zp0⟩
noncomputable def zt1:List S :=
 [.ret (.blt .tuple [(.comp false (.dget (.var 0) (.var 1) (.var 1)) (.name 1) (.of (.var 1)) none [0] 1)])]
noncomputable def zr8:FD:=⟨2,2,zt1⟩
noncomputable def zq1:List S :=
 [.ret (.thaw (.list false [(.slice (.var 0) none (some (.const (.int 63)))),(.const (.int 0)),(.const (.int 0))]))]
noncomputable def zq7:FD:=⟨1,1,zq1⟩
noncomputable def zm2:List S :=
  [.ite (.cmp .gt (.ix (.var 0) (.const (.int 2))) (.const (.int 0)))
    [.set 2 (.bin .mod (.ix (.var 0) (.const (.int 2))) (.var 1)),
     .setIx (.var 0) (.const (.int 2)) (.bin .fdiv (.ix (.var 0) (.const (.int 2))) (.var 1)),
     .ret (.var 2)]
    [],
  .set 3 (.ix (.var 0) (.const (.int 1))),
  .setIx (.var 0) (.const (.int 1)) (.bin .add (.var 3) (.const (.int 1))),
  .set 4 (.const (.int 0)),
  .ite (.cmp .gt (.blt .len [(.ix (.var 0) (.const (.int 0)))]) (.const (.int 0)))
    [.set 4 (.ix (.ix (.var 0) (.const (.int 0))) (.bin .mod (.var 3) (.blt .len [(.ix (.var 0) (.const (.int 0)))])))]
    [],
  .ite (.and (.cmp .ge (.var 4) (.bin .pow (.const (.int 10)) (.const (.int 18)))) (.cmp .lt (.var 3) (.blt .len [(.ix (.var 0) (.const (.int 0)))])))
    [.setIx (.var 0) (.const (.int 2)) (.bin .fdiv (.var 4) (.var 1)),
     .ret (.bin .mod (.var 4) (.var 1))]
    [],
  .set 5 (.bin .mod (.bin .mul (.bin .add (.bin .add (.bin .mod (.var 4) (.const (.int 1000003))) (.bin .mul (.bin .mul (.const (.int 31)) (.var 3)) (.var 3))) (.const (.int 7))) (.const (.int 48271))) (.const (.int 999983))),
  .ret (.bin .mod (.bin .mod (.bin .mul (.bin .mod (.bin .add (.bin .mul (.var 5) (.const (.int 69621))) (.bin .mul (.var 3) (.const (.int 7919)))) (.const (.int 999979))) (.const (.int 16807))) (.const (.int 524287))) (.var 1))]
noncomputable def zi2:FD:=⟨2,6,zm2⟩
noncomputable def zC0:List S :=
 [.set 0 (.tup [(.const (.str [119,101,98])),(.tup [(.const (.str [99])),(.const (.str [98])),(.const (.str [97])),(.const (.str [97,98]))]),(.tup [(.tup [(.const (.str [98])),(.const (.str [99]))]),(.tup [(.const (.str [98])),(.const (.str [97]))]),(.tup [(.const (.str [99])),(.const (.str [97,98]))]),(.tup [(.const (.str [97])),(.const (.str [97,98]))])])]),
 .set 1 (.tup [(.const (.str [115,101,116])),(.tup [(.const (.str [98])),(.const (.str [97])),(.const (.str [99]))])]),
 .set 2 (.list false [(.tup [(.tup [(.const (.str [110,117,109]))]),(.list false [(.const (.int 0)),(.const (.int 1)),(.const (.int 2)),(.const (.int 3)),(.const (.int 7)),(.bin .pow (.const (.int 10)) (.const (.int 18)))])]),(.tup [(.tup [(.const (.str [108,111,119]))]),(.list false [(.const .non),(.bin .pow (.const (.int 10)) (.const (.int 18))),(.const (.int 8)),(.const (.int 3)),(.const (.int 1)),(.const (.int 0))])])]),
 .set 2 (.bin .add (.var 2) (.list false [(.tup [(.tup [(.const (.str [99,104,97,105,110])),(.tup [(.const (.str [98])),(.const (.str [97])),(.const (.str [97,98]))])]),(.list false [(.const (.str [98])),(.const (.str [97])),(.const (.str [97,98]))])]),(.tup [(.var 0),(.list false [(.const (.str [98])),(.const (.str [99])),(.const (.str [97])),(.const (.str [97,98]))])])])),
 .set 2 (.bin .add (.var 2) (.list false [(.tup [(.var 1),(.list false [(.tup []),(.tup [(.const (.str [98]))]),(.tup [(.const (.str [97])),(.const (.str [99]))]),(.tup [(.const (.str [98])),(.const (.str [99]))]),(.tup [(.const (.str [97]))]),(.tup [(.const (.str [98])),(.const (.str [97])),(.const (.str [99]))])])])])),
 .set 2 (.bin .add (.var 2) (.list false [(.tup [(.tup [(.const (.str [110,101,119,101,114])),(.var 1)]),(.list false [(.tup [(.const (.int 0)),(.tup [])]),(.tup [(.const (.int 0)),(.tup [(.const (.str [97]))])]),(.tup [(.const (.int 1)),(.tup [])]),(.tup [(.const (.int 1)),(.tup [(.const (.str [98]))])]),(.tup [(.const (.int 2)),(.tup [(.const (.str [97])),(.const (.str [99]))])])])])])),
 .ret (.bin .add (.var 2) (.list false [(.tup [(.tup [(.const (.str [114,111,119])),(.tup [(.tup [(.const (.str [110,117,109]))]),(.tup [(.const (.str [108,111,119]))])])]),(.list false [(.tup [(.const (.int 0)),(.const .non)]),(.tup [(.const (.int 2)),(.const .non)]),(.tup [(.const (.int 0)),(.const (.int 4))]),(.tup [(.const (.int 1)),(.const (.int 7))]),(.tup [(.const (.int 3)),(.const (.int 0))])])])]))]
noncomputable def zA9:FD:=⟨0,3,zC0⟩
noncomputable def zs8:List S :=
 [.ret (.ix (.comp false (.var 2) (.tup [1,2]) (.of (.call 11 [])) (some (.cmp .eq (.var 1) (.var 0))) [0] 2) (.const (.int 0)))]
noncomputable def zs3:FD:=⟨1,1,zs8⟩
noncomputable def zv3:List S :=
  [.set 2 (.list false [(.const (.str [98])),(.const (.str [97,98])),(.const (.str [111,102])),(.const (.str [97,98,99])),(.const (.str [97])),(.const (.str [112,117,116])),(.const (.str [98])),(.const (.str [97,98])),(.const (.str [111,102])),(.const (.str [97,98,99]))]),
  .set 3 (.call 10 [(.var 0),(.const (.int 6))]),
  .set 4 (.slice (.var 2) (some (.var 3)) (some (.bin .add (.bin .add (.var 3) (.const (.int 1))) (.call 10 [(.var 0),(.var 1)])))),
  .set 5 (.list false [(.const (.str [97,98])),(.const (.str [106,117,115,116])),(.const (.str [112,108,117,115])),(.const (.str [98])),(.const (.str [97,115,107,105,110,103,115])),(.const (.str [97])),(.const (.str [97,98])),(.const (.str [106,117,115,116])),(.const (.str [112,108,117,115])),(.const (.str [98]))]),
  .set 3 (.call 10 [(.var 0),(.const (.int 6))]),
  .set 6 (.thaw (.list false [])),
  .set 7 (.tup [(.const (.str [110,117,109]))]),
  .for (.name 8) (.range (.ix (.list false [(.const (.int 2)),(.const (.int 3)),(.const (.int 1)),(.const (.int 4)),(.const (.int 2))]) (.call 10 [(.var 0),(.const (.int 5))])))
    [.ite (.cmp .eq (.call 10 [(.var 0),(.const (.int 2))]) (.const (.int 0)))
       [.set 7 (.ix (.ix (.call 11 []) (.bin .mod (.call 10 [(.var 0),(.const (.int 9))]) (.const (.int 7)))) (.const (.int 0)))]
       [],
     .expr (.meth .append (.var 6) [(.tup [(.ix (.var 5) (.bin .add (.var 3) (.var 8))),(.ix (.list false [(.const (.int 1)),(.const (.int 0)),(.const (.int 1)),(.const (.int 2))]) (.call 10 [(.var 0),(.const (.int 4))])),(.var 7)])])],
  .ret (.tup [(.blt .tuple [(.var 4)]),(.blt .tuple [(.var 6)])])]
noncomputable def zv1:FD:=⟨2,9,zv3⟩
noncomputable def zO6:List S :=
 [.ret (.ix (.comp false (.var 3) (.tup [1,2,3]) (.of (.ix (.var 0) (.const (.int 1)))) (some (.cmp .eq (.var 1) (.ix (.var 0) (.const (.int 0))))) [1] 3) (.const (.int 0)))]
noncomputable def zP8:FD:=⟨2,2,zO6⟩
noncomputable def zp2:List S :=
 [.set 4 (.ix (.var 2) (.call 10 [(.var 0),(.blt .len [(.var 2)])])),
 .set 5 (.bin .add (.bin .add (.blt .list [(.ix (.var 1) (.const (.int 0)))]) (.var 3)) (.var 3)),
 .ret (.bin .add (.tup [(.ix (.var 4) (.const (.int 0)))]) (.blt .tuple [(.comp false (.ix (.var 1) (.call 10 [(.var 0),(.blt .len [(.var 1)])])) (.name 2) (.range (.ix (.var 4) (.const (.int 1)))) none [0,5] 1)]))]
noncomputable def zn1:FD:=⟨4,6,zp2⟩
noncomputable def zr1:List S :=
  [.set 4 (.call 14 [(.var 1),(.var 2)]),
  .set 5 (.comp false (.var 1) (.name 1) (.of (.ix (.var 1) (.const (.int 1)))) (some (.cmp .eq (.ix (.var 1) (.const (.int 2))) (.var 0))) [4] 1),
  .set 6 (.call 15 [(.var 0),(.var 1),(.var 5),(.var 3)]),
  .set 7 (.call 10 [(.var 0),(.const (.int 7))]),
  .ite (.cmp .lt (.var 7) (.const (.int 2)))
    [.set 8 (.call 12 [(.var 4)]),
     .ret (.tup [(.const (.str [106,117,115,116])),(.ix (.var 8) (.call 10 [(.var 0),(.blt .len [(.var 8)])]))])]
    [],
  .ite (.and (.cmp .lt (.var 7) (.const (.int 4))) (.cmp .isIn (.ix (.var 4) (.const (.int 0))) (.tup [(.const (.str [110,117,109])),(.const (.str [108,111,119]))])))
    [.ret (.tup [(.const (.str [112,108,117,115])),(.var 6),(.ix (.list false [(.const (.int 0)),(.const (.int 1)),(.const (.int 2)),(.const (.int 1000))]) (.call 10 [(.var 0),(.const (.int 4))]))])]
    [],
  .ite (.and (.cmp .eq (.var 7) (.const (.int 4))) (.cmp .isIn (.ix (.var 4) (.const (.int 0))) (.tup [(.const (.str [110,117,109])),(.const (.str [108,111,119]))])))
    [.ret (.tup [(.const (.str [115,117,109])),(.var 6),(.call 15 [(.var 0),(.var 1),(.var 5),(.var 3)])])]
    [],
  .ite (.and (.cmp .eq (.var 7) (.const (.int 5))) (.cmp .isIn (.ix (.var 4) (.const (.int 0))) (.tup [(.const (.str [110,117,109])),(.const (.str [108,111,119])),(.const (.str [99,104,97,105,110])),(.const (.str [115,101,116]))])))
    [.ret (.tup [(.const (.str [109,101,101,116])),(.var 6),(.call 15 [(.var 0),(.var 1),(.var 5),(.var 3)])])]
    [],
  .ret (.tup [(.const (.str [111,102])),(.var 6)])]
noncomputable def zB1:FD:=⟨4,9,zr1⟩
noncomputable def zB9:List S :=
  [.set 4 (.thaw (.list false [])),
  .for (.name 5) (.range (.var 3))
    [.set 6 (.call 15 [(.var 0),(.var 1),(.ix (.var 1) (.const (.int 1))),(.var 2)]),
     .expr (.meth .append (.var 4) [(.tup [(.var 6),(.call 16 [(.var 0),(.var 1),(.var 6),(.var 2)])])])],
  .ret (.blt .tuple [(.var 4)])]
noncomputable def zB4:FD:=⟨4,7,zB9⟩
noncomputable def zt7:List S :=
 [.set 5 (.call 15 [(.var 0),(.var 1),(.ix (.var 1) (.const (.int 1))),(.var 2)]),
 .set 6 (.call 12 [(.call 14 [(.var 1),(.var 5)])]),
 .ret (.tup [(.const (.str [97,115,107])),(.var 5),(.ix (.var 6) (.bin .add (.const (.int 1)) (.call 10 [(.var 0),(.bin .sub (.blt .len [(.var 6)]) (.const (.int 1)))]))),(.var 3),(.var 4)])]
noncomputable def zu3:FD:=⟨5,7,zt7⟩
noncomputable def zv8:List S :=
 [.ite (.or (.cmp .lt (.var 2) (.const (.int 2))) (.cmp .eq (.call 10 [(.var 0),(.const (.int 4))]) (.const (.int 0))))
  [.ret (.tup [(.const (.str [112,117,116])),(.call 17 [(.var 0),(.var 1),(.var 3),(.ix (.list false [(.const (.int 1)),(.const (.int 2)),(.const (.int 0)),(.const (.int 3))]) (.call 10 [(.var 0),(.const (.int 4))]))])])]
  [],
 .set 4 (.call 19 [(.var 0),(.var 1),(.bin .sub (.var 2) (.const (.int 1))),(.var 3)]),
 .ret (.call 18 [(.var 0),(.var 1),(.var 3),(.var 4),(.call 19 [(.var 0),(.var 1),(.bin .sub (.var 2) (.const (.int 1))),(.var 3)])])]
noncomputable def zr0:FD:=⟨4,5,zv8⟩
noncomputable def zr7:List S :=
  [.set 3 (.call 13 [(.var 0),(.var 2)]),
  .set 4 (.thaw (.list false [])),
  .for (.name 5) (.range (.call 10 [(.var 0),(.bin .add (.var 1) (.const (.int 1)))]))
    [.set 6 (.ix (.list false [(.list false []),(.list false [(.const (.str [65]))]),(.list false [(.const (.str [66])),(.const (.str [65]))]),(.list false [(.const (.str [70]))]),(.list false [(.const (.str [67])),(.const (.str [68]))]),(.list false [(.const (.str [65])),(.const (.str [70])),(.const (.str [67]))])]) (.call 10 [(.var 0),(.const (.int 6))])),
     .expr (.meth .append (.var 4) [(.call 19 [(.var 0),(.var 3),(.bin .add (.const (.int 1)) (.call 10 [(.var 0),(.const (.int 4))])),(.var 6)])])],
  .ret (.bin .add (.var 3) (.tup [(.blt .tuple [(.var 4)])]))]
noncomputable def zr9:FD:=⟨3,7,zr7⟩
noncomputable def zp7:List S :=
 [.ite (.cmp .eq (.ix (.var 0) (.const (.int 0))) (.const (.str [112,117,116])))
  [.ret (.list false [(.tup [(.var 1),(.ix (.var 0) (.const (.int 1)))])])]
  [],
 .set 2 (.call 21 [(.ix (.var 0) (.const (.int 3))),(.bin .add (.var 1) (.tup [(.bin .add (.slice (.var 0) (some (.const (.int 1))) (some (.const (.int 3)))) (.tup [(.const (.bl true))]))]))]),
 .ret (.bin .add (.var 2) (.call 21 [(.ix (.var 0) (.const (.int 4))),(.bin .add (.var 1) (.tup [(.bin .add (.slice (.var 0) (some (.const (.int 1))) (some (.const (.int 3)))) (.tup [(.const (.bl false))]))]))]))]
noncomputable def zm9:FD:=⟨2,3,zp7⟩
noncomputable def zx2:List S :=
 [.set 1 (.blt .repr [(.var 0)]),
 .ret (.blt .tuple [(.comp false (.var 1) (.name 1) (.of (.const (.str [65,66,67,68,69,70]))) (some (.cmp .isIn (.bin .add (.bin .add (.const (.str [39])) (.var 1)) (.const (.str [39]))) (.var 0))) [1] 1)])]
noncomputable def zx4:FD:=⟨1,2,zx2⟩
noncomputable def zw9:List S :=
  [.set 1 (.list false []),
  .for (.name 2) (.range (.blt .len [(.ix (.var 0) (.const (.int 2)))]))
    [.set 3 (.list false [(.tup [(.var 2),(.tup [])])]),
     .for (.name 4) (.of (.call 22 [(.ix (.ix (.var 0) (.const (.int 2))) (.var 2))]))
       [.set 5 (.thaw (.list false [])),
        .for (.name 6) (.of (.var 3))
          [.expr (.meth .extend (.var 5) [(.comp false (.tup [(.var 0),(.bin .add (.ix (.var 1) (.const (.int 1))) (.tup [(.var 2)]))]) (.name 2) (.of (.blt .sorted [(.ix (.var 0) (.const (.int 0)))])) none [2,6] 1)])],
        .set 3 (.var 5)],
     .set 1 (.bin .add (.var 1) (.var 3))],
  .ret (.var 1)]
noncomputable def zw8:FD:=⟨1,7,zw9⟩
noncomputable def zw4:List S :=
 [.set 3 (.dictZ (.call 22 [(.ix (.ix (.var 0) (.const (.int 2))) (.ix (.var 1) (.const (.int 0))))]) (.ix (.var 1) (.const (.int 1)))),
 .ret (.bin .add (.slice (.var 2) none (some (.const (.int 1)))) (.blt .tuple [(.comp false (.dget (.var 0) (.var 1) (.var 1)) (.name 1) (.of (.slice (.var 2) (some (.const (.int 1))) none)) none [3] 1)]))]
noncomputable def zx5:FD:=⟨3,4,zw4⟩
noncomputable def zv6:List S :=
  [.ite (.or (.blt (.isinst .list) [(.var 1)]) (.blt (.isinst .tuple) [(.var 1)]))
    [.ite (.or (.cmp .ne (.blt (.isinst .list) [(.var 0)]) (.blt (.isinst .list) [(.var 1)])) (.cmp .ne (.blt (.isinst .tuple) [(.var 0)]) (.blt (.isinst .tuple) [(.var 1)])))
       [.ret (.const (.bl false))]
       [],
     .ret (.and (.cmp .eq (.blt .len [(.var 0)]) (.blt .len [(.var 1)])) (.blt .all [(.comp false (.call 25 [(.var 0),(.var 1)]) (.tup [0,1]) (.zipR (.var 0) (.var 1)) none [] 2)]))]
    [],
  .ret (.and (.cmp .eq (.blt (.isinst .bool) [(.var 0)]) (.blt (.isinst .bool) [(.var 1)])) (.cmp .eq (.var 0) (.var 1)))]
noncomputable def zq8:FD:=⟨2,2,zv6⟩
noncomputable def zo3:List S :=
  [.set 1 (.list false []),
  .for (.tup [2,3]) (.of (.call 21 [(.var 0),(.tup [])]))
    [.set 1 (.bin .add (.bin .add (.var 1) (.comp false (.ix (.var 0) (.const (.int 0))) (.name 0) (.of (.var 2)) none [] 1)) (.comp false (.ix (.var 0) (.const (.int 0))) (.name 0) (.of (.var 3)) none [] 1)),
     .set 1 (.bin .add (.var 1) (.comp false (.ix (.ix (.var 0) (.const (.int 1))) (.const (.int 1))) (.name 0) (.of (.var 3)) (some (.cmp .ne (.ix (.ix (.var 0) (.const (.int 1))) (.const (.int 0))) (.const (.str [106,117,115,116])))) [] 1))],
  .ret (.var 1)]
noncomputable def zo9:FD:=⟨1,4,zo3⟩
noncomputable def yE9:List S :=
  [.set 1 (.call 9 [(.var 0)]),
  .set 2 (.list false [(.call 20 [(.var 1),(.const (.int 4)),(.const (.int 3))]),(.call 20 [(.var 1),(.const (.int 4)),(.const (.int 3))])]),
  .for (.name 3) (.range (.const (.int 4)))
    [.set 4 (.ix (.var 2) (.bin .mod (.var 3) (.const (.int 2)))),
     .set 5 (.call 23 [(.var 4)]),
     .set 6 (.call 5 [(.var 4)]),
     .ite (.not (.call 25 [(.var 6),(.var 5)]))
       [.ret (.const (.bl false))]
       [],
     .for (.name 7) (.range (.bin .mul (.const (.int 6)) (.blt .toInt [(.cmp .ne (.var 5) (.list false []))])))
       [.set 8 (.ix (.var 5) (.call 10 [(.var 1),(.blt .len [(.var 5)])])),
        .set 9 (.ix (.ix (.var 4) (.const (.int 2))) (.ix (.var 8) (.const (.int 0)))),
        .for (.name 10) (.of (.slice (.call 26 [(.var 9)]) none (some (.const (.int 6)))))
          [.ite (.not (.call 25 [(.call 6 [(.var 9),(.var 8),(.var 10)]),(.call 24 [(.var 4),(.var 8),(.var 10)])]))
             [.ret (.const (.bl false))]
             []]],
     .expr (.meth .append (.var 6) [(.tup [(.const (.int 0)),(.tup [(.const (.str [120]))])])])],
  .ret (.const (.bl true))]
noncomputable def yG8:FD:=⟨1,11,yE9⟩
noncomputable def prog:List FD:=[zJ0,zx8,zv0,zo7,zB2,zB7,ya4,zo6,zr8,zq7,zi2,zA9,zs3,zv1,zP8,zn1,zB1,zB4,zu3,zr0,zr9,zm9,zx4,zw8,zx5,zq8,zo9,yG8]
noncomputable abbrev yt2:Nat:=0
noncomputable abbrev zZ5:Nat:=1
noncomputable abbrev zR0:Nat:=2
noncomputable abbrev zG8:Nat:=3
noncomputable abbrev yg7:Nat:=4
noncomputable abbrev zL3:Nat:=5
noncomputable abbrev zP2:Nat:=6
noncomputable abbrev zF2:Nat:=7
noncomputable abbrev zO9:Nat:=8
noncomputable abbrev zK4:Nat:=9
noncomputable abbrev zl9:Nat:=10
noncomputable abbrev yi0:Nat:=11
noncomputable abbrev zO0:Nat:=12
noncomputable abbrev zU4:Nat:=13
noncomputable abbrev yz8:Nat:=14
noncomputable abbrev zC8:Nat:=15
noncomputable abbrev yi3:Nat:=16
noncomputable abbrev zK8:Nat:=17
noncomputable abbrev zR1:Nat:=18
noncomputable abbrev yg9:Nat:=19
noncomputable abbrev zP4:Nat:=20
noncomputable abbrev zQ3:Nat:=21
noncomputable abbrev zZ9:Nat:=22
noncomputable abbrev zG7:Nat:=23
noncomputable abbrev zt2:Nat:=24
noncomputable abbrev zj0:Nat:=25
noncomputable abbrev zi7:Nat:=26
noncomputable abbrev yU1:Nat:=27
noncomputable def zC1 (ns:List Int) (p l:Int):zA5:=.lst [.lst (ns.map .int),.int p,.int l]
theorem yy9 {i:Int} (h1:-1000000000000000000≤i) (h2:i≤1000000000000000000):zj3 i=true:=by
 unfold zj3
 exact decide_eq_true ⟨by lia,by lia⟩
theorem zj5 (a b:Int) (h:0<b):0≤a % b∧a % b<b:=⟨Int.emod_nonneg _ (by lia),Int.emod_lt_of_pos _ h⟩
theorem yK9 (W d w:Nat) (ns:List Int) (p l m:Int) (st:za6) (hw:zb5 st w=some (zC1 ns p l)) (hl:0≤l) (hp:0≤p) (hp2:p≤1000000) (hm:0<m) (hm2:m<1000000000000000000000000000000) :
  ∃ r p' l',0≤r∧r<m∧0≤l'∧0≤p'∧p'≤p+1∧zg1 prog W (d+1) zl9 [.ref w,.p (.int m)] st=.ok (.p (.int r)) (st.set w (zC1 ns p' l')):=by
 have g1:=fun o=>zA3 (o:=o) (zp9 hw)
 have s31:zj3 31=true:=by decide
 have s48:zj3 48271=true:=by decide
 have s6:zj3 69621=true:=by decide
 have s79:zj3 7919=true:=by decide
 have s16:zj3 16807=true:=by decide
 have s10:zj3 10=true:=by decide
 have i0:zi5 3 0=some 0:=rfl
 have i1:zi5 3 1=some 1:=rfl
 have i2:zi5 3 2=some 2:=rfl
 have sp:zj3 p=true:=yy9 (by lia) (by lia)
 by_cases h:0<l
 ·refine ⟨l % m,p,l / m,(zj5 l m hm).1,(zj5 l m hm).2,Int.ediv_nonneg hl (by lia),hp,by lia,?_⟩
  rw [zc3 (fd:=zi2) rfl rfl]
  simp [zi2,zm2,hw,zC1,h,g1,hm,hm2,zy2,zi5]
 ·by_cases hn:0<ns.length
  ·have hni:(0:Int)<ns.length:=by lia
   have hmod:=zj5 p ns.length hni
   obtain ⟨v,hv⟩:∃ v,ns[(p % (ns.length:Int)).toNat]?=some v:=⟨_,List.getElem?_eq_getElem (by lia)⟩
   have hix:zi5 ns.length (p % (ns.length:Int))=some (p % (ns.length:Int)).toNat:=by
    unfold zi5;rw [if_pos hmod.1,if_pos hmod.2]
   by_cases hb:(10:Int) ^ 18≤v∧p<ns.length
   ·have h0:(0:Int)≤v:=by
     have:(0:Int)≤10 ^ 18:=by decide
     lia
    refine ⟨v % m,p+1,v / m,(zj5 v m hm).1,(zj5 v m hm).2,Int.ediv_nonneg h0 (by lia),by lia,by lia,?_⟩
    rw [zc3 (fd:=zi2) rfl rfl]
    obtain ⟨hb1,hb2⟩:=hb
    simp [zi2,zm2,hw,zC1,h,g1,hm,hm2,zy2,i0,i1,i2,hix,hv,hn,hni,hb1,hb2,s10,-Int.reducePow]
   ·refine ⟨((((v % 1000003+31 * p * p+7) * 48271 % 999983) * 69621+p * 7919) % 999979 * 16807 % 524287) % m,p+1,l,(zj5 _ m hm).1,(zj5 _ m hm).2,hl,by lia,by lia,?_⟩
    rw [zc3 (fd:=zi2) rfl rfl]
    have hb':((10:Int) ^ 18≤v)→¬ p<ns.length:=fun h1 h2=>hb ⟨h1,h2⟩
    by_cases hb1:(10:Int) ^ 18≤v
    ·have hb2:=hb' hb1
     simp [zi2,zm2,hw,zC1,h,g1,hm,hm2,zy2,i0,i1,i2,hix,hv,hn,hni,hb1,hb2,s10,s31,s48,s6,s79,s16,sp,-Int.reducePow]
    ·simp [zi2,zm2,hw,zC1,h,g1,hm,hm2,zy2,i0,i1,i2,hix,hv,hn,hni,hb1,s10,s31,s48,s6,s79,s16,sp,-Int.reducePow]
  ·have h0:ns.length=0:=by lia
   refine ⟨((((0 % 1000003+31 * p * p+7) * 48271 % 999983) * 69621+p * 7919) % 999979 * 16807 % 524287) % m,p+1,l,(zj5 _ m hm).1,(zj5 _ m hm).2,hl,by lia,by lia,?_⟩
   rw [zc3 (fd:=zi2) rfl rfl]
   have h10:¬ (10:Int) ^ 18≤0:=by decide
   simp [zi2,zm2,hw,zC1,h,g1,hm,hm2,zy2,zi5,h0,h10,s10,s31,s48,s6,s79,s16,sp,-Int.reducePow]
def Well (st:za6) (w:Nat) (T:Int):Prop:=∃ ns p l,zb5 st w=some (zC1 ns p l)∧0≤l∧0≤p∧p≤T
def zo2 (w:Nat) (T:Int) (st st':za6):Prop:=(∃ o,st'=st.set w o)∧Well st' w T
theorem Well.lt {st w T} (h:Well st w T):w<st.length:=by obtain ⟨_,_,_,h,_⟩:=h;exact zp9 h
theorem Well.mono {st w T T'} (h:Well st w T) (g:T≤T'):Well st w T':=by
 obtain ⟨c,l,t,a,b,d,e⟩:=h
 exact ⟨c,l,t,a,b,d,by lia⟩
theorem Well.app {st w T r} (h:Well st w T):Well (st++r) w T:=by
 obtain ⟨c,l,t,a,b⟩:=h
 exact ⟨c,l,t,by rw [zA1 (zp9 a)];exact a,b⟩
theorem Well.unapp {st w T r} (h:Well (st++r) w T) (hw:w<st.length):Well st w T:=by
 obtain ⟨c,l,t,a,b⟩:=h
 exact ⟨c,l,t,by rw [zA1 hw] at a;exact a,b⟩
theorem zE3 {W D w:Nat} (hD:0<D) {T m:Int} {st:za6} (hw:Well st w T) (hT:T<1000000) (hm:0<m) (hm2:m<1000000000000000000000000000000) :
  Sat (zg1 prog W D zl9 [.ref w,.p (.int m)] st) fun v st'=>(∃ r,v=.p (.int r)∧0≤r∧r<m)∧zo2 w (T+1) st st':=by
 obtain ⟨d,rfl⟩:∃ d,D=d+1:=⟨D - 1,by lia⟩
 obtain ⟨c,l,t,h1,h2,h3,h4⟩:=hw
 obtain ⟨r,p',l',a1,a2,a3,a4,a5,a6⟩:=yK9 W d w c l t m st h1 h2 h3 (by lia) hm hm2
 exact yT0 a6 ⟨⟨r,rfl,a1,a2⟩,⟨_,rfl⟩,c,p',l',zA3 (zp9 h1),a3,by lia,by lia⟩
theorem zm7 {W d w:Nat} {T m:Int} {st:za6} (hw:Well st w T) (hT:T<1000000) (hm:0<m:=by decide) (hm2:m<1000000000000000000000000000000:=by decide) :
  Sat (zg1 prog W (d+1) zl9 [.ref w,.p (.int m)] st) fun v st'=>(∃ r,v=.p (.int r)∧0≤r∧r<m)∧zo2 w (T+1) st st':=zE3 (Nat.succ_pos d) hw hT hm hm2
theorem zo2.trans {w T T' st st1 st2} (h:zo2 w T st st1) (g:zo2 w T' st1 st2):zo2 w T' st st2:=by
 obtain ⟨⟨o,rfl⟩,_⟩:=h
 obtain ⟨⟨o',rfl⟩,q⟩:=g
 exact ⟨⟨o',by simp⟩,q⟩
theorem zo2.refl {w T st} (h:Well st w T):zo2 w T st st:=by
 refine ⟨?_,h⟩
 obtain ⟨c,l,t,a,_⟩:=h
 exact ⟨zC1 c l t,by
  unfold zb5 at a
  obtain ⟨h1,h2⟩:=List.getElem?_eq_some_iff.mp a
  rw [← h2];simp⟩
theorem zo2.len {w T st st'} (h:zo2 w T st st'):st'.length=st.length:=by
 obtain ⟨⟨o,rfl⟩,_⟩:=h;simp
theorem zo2.mono {w T T' st st'} (h:zo2 w T st st') (g:T≤T'):zo2 w T' st st':=⟨h.1,h.2.mono g⟩
theorem zo2.take {w T st st'} (h:zo2 w T st st'):st'.take st.length=st':=by
 rw [← h.len];simp
theorem zo2.cut {w T st st'} (h:zo2 w T st st'):zo2 w T st (st'.take st.length):=by rw [h.take];exact h
theorem zo2.cutApp {w T st st' rs} (h:zo2 w T st st'):zo2 w T st ((st'++rs).take st.length):=by
 rw [List.take_append_of_le_length (by rw [h.len];lia),h.take];exact h
theorem zo2.unapp {w T st rs st'} (h:zo2 w T (st++rs) st') (hw:w<st.length):∃ o,st'=st.set w o++rs∧Well (st.set w o) w T:=by
 obtain ⟨⟨o,rfl⟩,hw'⟩:=h
 refine ⟨o,List.set_append_left _ _ hw,?_⟩
 rw [List.set_append_left _ _ hw] at hw'
 exact hw'.unapp (by simpa using hw)
noncomputable def yh2:List (PV×List PV) :=
  [((PV.tup [PV.str [110,117,109]]),[PV.int 0,PV.int 1,PV.int 2,PV.int 3,PV.int 7,PV.int 1000000000000000000]),((PV.tup [PV.str [108,111,119]]),[PV.non,PV.int 1000000000000000000,PV.int 8,PV.int 3,PV.int 1,PV.int 0]),
   ((PV.tup [PV.str [99,104,97,105,110],PV.tup [PV.str [98],PV.str [97],PV.str [97,98]]]),[PV.str [98],PV.str [97],PV.str [97,98]]),((PV.tup [PV.str [119,101,98],PV.tup [PV.str [99],PV.str [98],PV.str [97],PV.str [97,98]],PV.tup [PV.tup [PV.str [98],PV.str [99]],PV.tup [PV.str [98],PV.str [97]],PV.tup [PV.str [99],PV.str [97,98]],PV.tup [PV.str [97],PV.str [97,98]]]]),[PV.str [98],PV.str [99],PV.str [97],PV.str [97,98]]),
   ((PV.tup [PV.str [115,101,116],PV.tup [PV.str [98],PV.str [97],PV.str [99]]]),[PV.tup [],PV.tup [PV.str [98]],PV.tup [PV.str [97],PV.str [99]],PV.tup [PV.str [98],PV.str [99]],PV.tup [PV.str [97]],PV.tup [PV.str [98],PV.str [97],PV.str [99]]]),
   ((PV.tup [PV.str [110,101,119,101,114],PV.tup [PV.str [115,101,116],PV.tup [PV.str [98],PV.str [97],PV.str [99]]]]),[PV.tup [PV.int 0,PV.tup []],PV.tup [PV.int 0,PV.tup [PV.str [97]]],PV.tup [PV.int 1,PV.tup []],PV.tup [PV.int 1,PV.tup [PV.str [98]]],PV.tup [PV.int 2,PV.tup [PV.str [97],PV.str [99]]]]),
   ((PV.tup [PV.str [114,111,119],PV.tup [PV.tup [PV.str [110,117,109]],PV.tup [PV.str [108,111,119]]]]),[PV.tup [PV.int 0,PV.non],PV.tup [PV.int 2,PV.non],PV.tup [PV.int 0,PV.int 4],PV.tup [PV.int 1,PV.int 7],PV.tup [PV.int 3,PV.int 0]])]
noncomputable def yz6:PV:=.lst (yh2.map fun p=>.tup [p.1,.lst p.2])
theorem yk9 {W d:Nat} {st:za6}:zg1 prog W (d+1) yi0 [] st=.ok (.p yz6) st:=by
 have s10:zj3 10=true:=by decide
 have z:∀ n:Nat,n<100→n≤SZ:=fun n h=>zj1 (by lia)
 have z4:=z 4 (by decide)
 have z5:=z 5 (by decide)
 have z6:=z 6 (by decide)
 have z7:=z 7 (by decide)
 rw [zc3 (fd:=zA9) rfl rfl]
 simp [zA9,zC0,s10,z4,z5,z6,z7,yz6,yh2]
noncomputable def isM (n:List Nat):Bool:=decide (n∈[[65],[66],[67],[68],[69],[70]])
noncomputable def low (n:List Nat):Bool:=decide (n.length≤8)&&n.all okC && !isM n
mutual
/-- no marks in it -/
noncomputable def plain:PV→Bool
 | .str n=>low n
 | .tup xs=>plains xs
 | .lst xs=>plains xs
 | .non=>true
 | .bl _=>true
 | .int _=>true
noncomputable def plains:List PV→Bool
 | []=>true
 | x::r=>plain x&&plains r
end
mutual
theorem plain_has {m:Nat} (hm:m∈[65,66,67,68,69,70]):∀ v,plain v=true→hasS m v=false
 | .str n,h=>by
  rw [plain,low,Bool.and_eq_true,Bool.not_eq_true',isM,decide_eq_false_iff_not] at h
  rw [hasS]
  refine decide_eq_false fun e=>h.2 ?_
  subst e
  simpa using hm
 | .tup xs,h=>by rw [plain] at h;rw [hasS];exact plains_has hm xs h
 | .lst xs,h=>by rw [plain] at h;rw [hasS];exact plains_has hm xs h
 | .non,_=>by rw [hasS]
 | .bl _,_=>by rw [hasS]
 | .int _,_=>by rw [hasS]
theorem plains_has {m:Nat} (hm:m∈[65,66,67,68,69,70]):∀ v,plains v=true→hasSs m v=false
 | [],_=>by rw [hasSs]
 | x::r,h=>by
  rw [plains,Bool.and_eq_true] at h
  rw [hasSs,plain_has hm x h.1,plains_has hm r h.2];rfl
end
noncomputable def gH (h:PV):Bool:=plain h&&okv (10 ^ 18) h&&decide (dep h≤3)&&decide (wt h≤100)
def gO (o:PV):Prop:=∃ p∈yh2,p.1=o
theorem zu9:∀ p∈yh2,p.2.all gH=true∧3≤p.2.length∧p.2.length≤6∧dep p.1≤3∧(okv (10 ^ 18) p.1&&decide (wt p.1≤400))=true∧(∃ s r,p.1=.tup (.str s::r))∧pyEq p.1 p.1=true∧(yh2.filter fun q=>pyEq q.1 p.1)=[p]:=by
 intro p hp
 simp only [yh2,List.mem_cons,List.not_mem_nil,or_false] at hp
 rcases hp with rfl | rfl | rfl | rfl | rfl | rfl | rfl <;> exact ⟨by decide +kernel,by decide,by decide,by decide +kernel,by decide +kernel,⟨_,_,rfl⟩,by decide +kernel,rfl⟩
theorem gO.d {o} (h:gO o):dep o≤3:=by obtain ⟨p,hp,rfl⟩:=h;exact (zu9 p hp).2.2.2.1
theorem gO.t {o} (h:gO o):∃ s r,o=.tup (.str s::r):=by obtain ⟨p,hp,rfl⟩:=h;exact (zu9 p hp).2.2.2.2.2.1
theorem gO.eq {o} (h:gO o):pyEq o o=true:=by obtain ⟨p,hp,rfl⟩:=h;exact (zu9 p hp).2.2.2.2.2.2.1
theorem dk {a b:PV} (h:dep a≤3):zq3 (dep a) (dep b)=true:=by
 unfold zq3
 rw [decide_eq_true (show dep a≤100 by lia)];rfl
theorem zM6 {W d:Nat} {st:za6} {o:PV} (ho:gO o):∃ hs:List PV,zg1 prog W (d+2) zO0 [.p o] st=.ok (.p (.lst hs)) st∧(∀ h∈hs,gH h=true)∧3≤hs.length∧hs.length≤6:=by
 obtain ⟨p,hp,rfl⟩:=ho
 obtain ⟨g1,g2,g3,g4,g5,g6,g7,g8⟩:=zu9 p hp
 refine ⟨p.2,?_,fun h hh=>List.all_eq_true.mp g1 h hh,g2,g3⟩
 apply zd5
 rw [zc3 (fd:=zs3) rfl rfl,zc1];simp! only [zs3,zs8]
 apply za4
 simp! [yk9,yz6]
 rw [zh9 (fun q:PV×List PV=>PV.tup [q.1,.lst q.2]) (fun q=>pyEq q.1 p.1) (fun q=>.lst q.2) (fun env=>∃ a b,env=[some (.p p.1),a,b]) _ _ _ ⟨_,_,rfl⟩ ?g1]
 case g1 =>
  rintro q hq env ⟨a,b,rfl⟩
  refine ⟨_,rfl,⟨_,_,rfl⟩,?_,fun _=>rfl⟩
  have:=dk (b:=p.1) (zu9 q hq).2.2.2.1
  show op2 (zq4 .eq) (.p q.1) (.p p.1) st=_
  rw [yv0];simp only [zq4,this,if_true];rfl
 rw [g8]
 simp! [zi5]
structure zg3 where
 h:List Nat
 ws:List (List Nat)
noncomputable def zk7 (t:zg3):PV:=.tup (.str t.1::t.2.map .str)
inductive Tm where
 | just (h:PV)
 | of (a:zg3)
 | plus (a:zg3) (k:Int)
 | two (s:Bool) (a c:zg3)
noncomputable def encM:Tm→PV
 | .just h=>.tup [.str [106,117,115,116],h]
 | .of a=>.tup [.str [111,102],zk7 a]
 | .plus a k=>.tup [.str [112,108,117,115],zk7 a,.int k]
 | .two s a c=>.tup [.str (if s then [115,117,109] else [109,101,101,116]),zk7 a,zk7 c]
noncomputable def zx9 (p:zg3×Tm):PV:=.tup [zk7 p.1,encM p.2]
inductive Tr where
 | put (ps:List (zg3×Tm))
 | ask (t:zg3) (h:PV) (y n:Tr)
noncomputable def zk8:Tr→PV
 | .put ps=>.tup [.str [112,117,116],.tup (ps.map zx9)]
 | .ask t h y n=>.tup [.str [97,115,107],zk7 t,h,zk8 y,zk8 n]
def gT (t:zg3):Prop:=low t.1=true∧t.2.length≤2∧∀ w∈t.2,low w=true∨isM w=true
def gM:Tm→Prop
 | .just h=>gH h=true
 | .of a=>gT a
 | .plus a k=>gT a∧0≤k∧k≤1000
 | .two _ a c=>gT a∧gT c
def gR:Nat→Tr→Prop
 | _,.put ps=>ps.length≤3∧∀ p∈ps,gT p.1∧gM p.2
 | 0,.ask _ _ _ _=>False
 | k+1,.ask t h y n=>gT t∧gH h=true∧gR k y∧gR k n
def gV (d w:Nat) (v:PV):Prop:=okv (10 ^ 18) v=true∧dep v≤d∧wt v≤w
theorem yn0 {w:List Nat} (h:low w=true∨isM w=true):w.all okC=true∧w.length≤8:=by
 rcases h with h | h
 ·unfold low at h
  simp only [Bool.and_eq_true,decide_eq_true_eq] at h
  exact ⟨h.1.2,h.1.1⟩
 ·unfold isM at h
  have h:=of_decide_eq_true h
  simp only [List.mem_cons,List.not_mem_nil,or_false] at h
  rcases h with rfl | rfl | rfl | rfl | rfl | rfl <;> decide
theorem gH_v {h:PV} (g:gH h=true):gV 3 100 h:=by
 unfold gH at g
 simp only [Bool.and_eq_true,decide_eq_true_eq] at g
 exact ⟨g.1.1.2,g.1.2,g.2⟩
theorem yM3 {t:zg3} (g:gT t):gV 1 40 (zk7 t):=by
 obtain ⟨h,ws⟩:=t
 obtain ⟨g1,g2,g3⟩:=g
 obtain ⟨a1,a2⟩:=yn0 (.inl g1)
 have wv:∀ w∈ws,w.all okC=true∧w.length≤8:=fun w hw=>yn0 (g3 w hw)
 unfold zk7
 match ws,g2,wv with
 | [],_,_=>exact ⟨by simp [a1],by simp,by simp;lia⟩
 | [a],_,wv =>
  obtain ⟨b1,b2⟩:=wv a (by simp)
  exact ⟨by rw [zq2];simp only [List.map_cons,List.map_nil,List.all_cons,zs0,a1,b1];rfl,by simp,by simp;lia⟩
 | [a,b],_,wv =>
  obtain ⟨b1,b2⟩:=wv a (by simp)
  obtain ⟨c1,c2⟩:=wv b (by simp)
  exact ⟨by rw [zq2];simp only [List.map_cons,List.map_nil,List.all_cons,zs0,a1,b1,c1];rfl,by simp,by simp;lia⟩
theorem gM_v {m:Tm} (g:gM m):gV 4 120 (encM m):=by
 cases m with
 | just h =>
  obtain ⟨a,b,c⟩:=gH_v g
  exact ⟨by simp only [encM,zq2,List.all_cons,zs0,a];rfl,by simp [encM];lia,by simp [encM];lia⟩
 | of t =>
  obtain ⟨a,b,c⟩:=yM3 g
  exact ⟨by simp only [encM,zq2,List.all_cons,zs0,a];rfl,by simp [encM];lia,by simp [encM];lia⟩
 | plus t k =>
  obtain ⟨a,b,c⟩:=yM3 g.1
  have hk:decide (k.natAbs≤10 ^ 18)=true:=decide_eq_true (by have:=g.2;lia)
  exact ⟨by simp only [encM,zq2,List.all_cons,zs0,yF7,a,hk];rfl,by simp [encM];lia,by simp [encM];lia⟩
 | two s t u =>
  obtain ⟨a,b,c⟩:=yM3 g.1
  obtain ⟨a',b',c'⟩:=yM3 g.2
  refine ⟨?_,by simp [encM];lia,?_⟩
  ·simp only [encM,zq2,List.all_cons,zs0,a,a'];cases s <;> rfl
  ·cases s <;> (simp [encM];lia)
theorem xd1 {ps:List (zg3×Tm)} (h:∀ p∈ps,gT p.1∧gM p.2) (hl:ps.length≤3):gV 6 600 (.tup (ps.map zx9)):=by
 have one:∀ p∈ps,gV 5 180 (zx9 p):=fun p hp=>by
  obtain ⟨g1,g2⟩:=h p hp
  obtain ⟨a,b,c⟩:=yM3 g1
  obtain ⟨a',b',c'⟩:=gM_v g2
  exact ⟨by simp only [zx9,zq2,List.all_cons,a,a'];rfl,by simp [zx9];lia,by simp [zx9];lia⟩
 clear h
 have key:(ps.map zx9).all (okv (10 ^ 18))=true∧deps (ps.map zx9)≤5∧wts (ps.map zx9)≤182 * ps.length:=by
  clear hl
  induction ps with
  | nil=>simp
  | cons p r ih =>
   obtain ⟨a,b,c⟩:=one p (by simp)
   obtain ⟨a',b',c'⟩:=ih fun q hq=>one q (List.mem_cons_of_mem _ hq)
   refine ⟨by rw [List.map_cons,List.all_cons,a,a'];rfl,by simp;lia,by simp;lia⟩
 obtain ⟨a,b,c⟩:=key
 exact ⟨by rw [zq2];exact a,by simp;lia,by simp;lia⟩
theorem xe7:∀ (r:Tr) (k:Nat),gR k r→gV (k+7) (1000 * 2 ^ k) (zk8 r)∧wt (zk8 r)+300≤1000 * 2 ^ k
 | .put ps,k,g=>by
  rw [gR] at g
  obtain ⟨a,b,c⟩:=xd1 g.2 g.1
  have h2:1≤2 ^ k:=Nat.one_le_two_pow
  have hw:wt (zk8 (.put ps))≤620:=by rw [zk8];simp at c ⊢;lia
  refine ⟨⟨by simp only [zk8,zq2,List.all_cons,zs0] at a ⊢;simp only [a];rfl,?_,by lia⟩,by lia⟩
  rw [zk8];simp at b ⊢;lia
 | .ask t h y n,0,g=>g.elim
 | .ask t h y n,k+1,g=>by
  rw [gR] at g
  obtain ⟨g1,g2,g3,g4⟩:=g
  obtain ⟨a,b,c⟩:=yM3 g1
  obtain ⟨a',b',c'⟩:=gH_v g2
  obtain ⟨⟨ay,by',cy⟩,dy⟩:=xe7 y k g3
  obtain ⟨⟨an,bn,cn⟩,dn⟩:=xe7 n k g4
  have hw:wt (zk8 (.ask t h y n))+300≤1000 * 2 ^ (k+1):=by
   rw [zk8,Nat.pow_succ];simp;lia
  refine ⟨⟨by simp only [zk8,zq2,List.all_cons,zs0,a,a',ay,an];rfl,?_,by lia⟩,hw⟩
  rw [zk8];simp;lia
open OR
noncomputable abbrev Hd:=List Nat×Nat×PV
noncomputable def zA7 (h:Hd):PV:=.tup [.str h.1,.int h.2.1,h.2.2]
structure Gr where
 ns:List (List Nat)
 hs:List Hd
noncomputable def zJ3 (g:Gr):PV:=.tup [.tup (g.1.map .str),.tup (g.2.map zA7)]
def gHd (h:Hd):Prop:=low h.1=true∧h.2.1≤2∧gO h.2.2
def gG (g:Gr):Prop:=g.1≠[]∧g.1.length≤4∧(∀ n∈g.1,low n=true)∧g.2≠[]∧g.2.length≤4∧∀ h∈g.2,gHd h
noncomputable def yw0:List (List Nat):=[[98],[97,98],[111,102],[97,98,99],[97],[112,117,116],[98],[97,98],[111,102],[97,98,99]]
noncomputable def zt4:List (List Nat):=[[97,98],[106,117,115,116],[112,108,117,115],[98],[97,115,107,105,110,103,115],[97],[97,98],[106,117,115,116],[112,108,117,115],[98]]
theorem yv8:∀ n∈yw0,low n=true:=by decide
theorem yh7:∀ n∈zt4,low n=true:=by decide
theorem yK3 {r:Int} (h0:0≤r) (h7:r<7):∃ o hs,gO o∧(yh2.map fun p=>PV.tup [p.1,.lst p.2])[r.toNat]?=some (.tup [o,.lst hs]):=by
 have hl:r.toNat<yh2.length:=by simp [yh2];lia
 refine ⟨yh2[r.toNat].1,yh2[r.toNat].2,⟨_,List.getElem_mem hl,rfl⟩,?_⟩
 rw [List.getElem?_map,List.getElem?_eq_getElem hl];rfl
def G1 (w:Nat) (T:Int) (st0:za6) (x1:Val) (at':Int) (nm:List PV) (xs:List PV) (env:Env) (st:za6):Prop :=
 ∃ (o:PV) (x8:Option Val) (hs:List Hd) (st':za6),env=[some (.ref w),some x1,some (.p (.lst (yw0.map .str))),some (.p (.int at')),some (.p (.lst nm)),some (.p (.lst (zt4.map .str))),some (.ref st0.length),some (.p o),x8]
  ∧ gO o∧(∀ x∈xs,∃ k:Nat,k<4∧x=.int k)∧hs.length+xs.length≤4∧(∀ h∈hs,gHd h)∧st=st'++[.lst (hs.map zA7)]∧zo2 w (T+4 * hs.length) st0 st'∧1≤hs.length+xs.length
theorem yj5 {W D w:Nat} {T m:Int} {st:za6} (hD:2≤D) (hw:Well st w T) (hT:T+30≤1000000) (hm0:0<m) (hm:m≤3) :
  Sat (zg1 prog W D zU4 [.ref w,.p (.int m)] st) fun v st'=>(∃ g,v=.p (zJ3 g)∧gG g)∧zo2 w (T+30) st st':=by
 obtain ⟨d,rfl⟩:∃ d,D=d+2:=⟨D - 2,by lia⟩
 have hwn:=hw.lt
 rw [zc3 (fd:=zv1) rfl rfl,zc1];simp! only [zv1,zv3]
 refine yd4 (.lst (yw0.map .str)) rfl ?_;apply za4
 simp! []
 refine Sat.k1 (zm7 hw (by lia)) fun r1 st1 h10 h11 hd1=>?_
 apply za4
 simp! []
 refine Sat.k1 (zE3 (by lia) hd1.2 (by lia) hm0 (by lia)) fun r2 st2 h20 h21 hd2=>?_
 have hd2:=hd1.trans hd2
 clear hd1 hw
 obtain ⟨nl,n1,n2,n3,hcut⟩:∃ nl:List (List Nat),nl≠[]∧nl.length≤4∧(∀ n∈nl,low n=true)∧cut (yw0.map PV.str) (some r1) (some (r1+1+r2))=nl.map .str:=by
  refine ⟨(yw0.drop r1.toNat).take (1+r2.toNat),?_,?_,fun n hn=>yv8 n (List.mem_of_mem_drop (List.mem_of_mem_take hn)),?_⟩
  ·intro e
   have:=congrArg List.length e
   simp [yw0] at this
   lia
  ·simp [yw0];lia
  ·rw [yE5 _ _ _ h10 (by lia) (by simp [yw0];lia),List.map_take,List.map_drop]
   congr 1
   lia
 simp! [sliceOp,hcut]
 dsimp! only
 refine yd4 (.lst (zt4.map .str)) rfl ?_;apply za4
 simp! []
 refine Sat.k1 (zm7 hd2.2 (by lia)) fun r3 st3 h30 h31 hd3=>?_
 have hd3:=hd2.trans hd3
 clear hd2
 apply za4
 simp! []
 apply za4
 simp! []
 apply za4
 simp! []
 have hl3:=hd3.len
 refine Sat.k1 (zm7 hd3.2.app (by lia)) fun r4 st4 h40 h41 hd4=>?_
 obtain ⟨o4,rfl,hw4⟩:=hd4.unapp (by lia)
 have hd4:zo2 w (T+4) st (st3.set w o4):=hd3.trans ⟨⟨o4,rfl⟩,hw4.mono (by lia)⟩
 obtain ⟨k4,hk4,e4⟩:∃ k:Nat,(1≤k∧k≤4)∧[PV.int 2,PV.int 3,PV.int 1,PV.int 4,PV.int 2][r4.toNat]?=some (.int (k:Int)):=by
  obtain rfl | rfl | rfl | rfl | rfl:r4=0∨r4=1∨r4=2∨r4=3∨r4=4:=by lia
  ·exact ⟨2,by lia,rfl⟩
  ·exact ⟨3,by lia,rfl⟩
  ·exact ⟨1,by lia,rfl⟩
  ·exact ⟨4,by lia,rfl⟩
  ·exact ⟨2,by lia,rfl⟩
 have i4:zi5 5 r4=some r4.toNat:=by unfold zi5;rw [if_pos h40,if_pos (by lia)]
 have z1:(k4:Int)≤SZ:=zC9 (by lia)
 have z2:(-1000000:Int)≤k4:=by lia
 simp! [i4,e4,z1,z2]
 refine (zk1 (G1 w (T+4) st (.p (.int m)) r3 (nl.map .str)) _ _ _ ⟨(PV.tup [PV.str [110,117,109]]),none,[],st3.set w o4,?_,⟨_,List.mem_cons_self,rfl⟩,?_,by simp;lia,by simp,rfl,hd4.mono (by simp),by simp;lia⟩ ?_).mono ?_
 ·rw [hl3]
 ·intro x hx
  obtain ⟨k,hk,rfl⟩:=List.mem_map.mp hx
  have:=List.mem_range.mp hk
  exact ⟨k,by lia,rfl⟩
 ·rintro x r env s ⟨o,x8,hs,st',rfl,ho,hx,hlen,hhs,rfl,hd,hone⟩
  obtain ⟨k,hk,rfl⟩:=hx x (by simp)
  simp only [List.length_cons] at hlen hone
  have hl':=hd.len
  refine ⟨_,rfl,?_⟩
  apply za4
  simp! []
  refine Sat.k1 (zm7 hd.2.app (by lia)) fun q1 s1 q10 q11 hq1=>?_
  obtain ⟨p1,rfl,hw1⟩:=hq1.unapp (by lia)
  have hd1:=hd.trans ⟨⟨p1,rfl⟩,hw1⟩
  have tail:∀ (o':PV) (st5:za6),gO o'→zo2 w (T+4+4 * hs.length+3) st st5→Sat (execSs (zg1 prog W (d+1)) W [.expr (.meth .append (.var 6) [(.tup [(.ix (.var 5) (.bin .add (.var 3) (.var 8))),(.ix (.list false [(.const (.int 1)),(.const (.int 0)),(.const (.int 1)),(.const (.int 2))]) (.call zl9 [(.var 0),(.const (.int 4))])),(.var 7)])])]
    [some (.ref w),some (.p (.int m)),some (.p (.lst (yw0.map .str))),some (.p (.int r3)),some (.p (.lst (nl.map .str))),some (.p (.lst (zt4.map .str))),some (.ref st.length),some (.p o'),some (.p (.int k))] (st5++[.lst (hs.map zA7)]))
    fun f s2=>∃ env2,f=.next env2∧G1 w (T+4) st (.p (.int m)) r3 (nl.map .str) r env2 s2:=by
   intro o' st5 ho' hd5
   have hl5:=hd5.len
   have hob:zb5 (st5++[.lst (hs.map zA7)]) st.length=some (.lst (hs.map zA7)):=zj6 hl5.symm
   have hvw:=zi0 hob
   have hc:(r3+k).toNat<zt4.length:=by simp [zt4];lia
   have ic:zi5 10 (r3+k)=some (r3+k).toNat:=by unfold zi5;rw [if_pos (by lia),if_pos (by lia)]
   have ec:(zt4.map PV.str)[(r3+k).toNat]?=some (.str (zt4[(r3+k).toNat])):=by rw [List.getElem?_map,List.getElem?_eq_getElem hc];rfl
   have hcl:(zt4.map PV.str).length=10:=rfl
   have hlow:=yh7 _ (List.getElem_mem hc)
   generalize hcm:zt4.map PV.str=CM at ec hcl ⊢
   apply za4
   simp! [hvw,hcl,ic,ec]
   refine Sat.k1 (zm7 hd5.2.app (by lia)) fun q2 s2 q20 q21 hq2=>?_
   obtain ⟨p2,rfl,hw2⟩:=hq2.unapp (by lia)
   have hd6:=hd5.trans ⟨⟨p2,rfl⟩,hw2⟩
   have hl6:=hd6.len
   obtain ⟨k2,hk2,e2⟩:∃ k:Nat,k≤2∧[PV.int 1,PV.int 0,PV.int 1,PV.int 2][q2.toNat]?=some (.int (k:Int)):=by
    obtain rfl | rfl | rfl | rfl:q2=0∨q2=1∨q2=2∨q2=3:=by lia
    ·exact ⟨1,by lia,rfl⟩
    ·exact ⟨0,by lia,rfl⟩
    ·exact ⟨1,by lia,rfl⟩
    ·exact ⟨2,by lia,rfl⟩
   have i2:zi5 4 q2=some q2.toNat:=by unfold zi5;rw [if_pos q20,if_pos (by lia)]
   have hob2:zb5 (st5.set w p2++[.lst (hs.map zA7)]) st.length=some (.lst (hs.map zA7)):=zj6 hl6.symm
   have hla:=zl1 hob2
   have zz:hs.length<SZ:=yn3 (by lia)
   simp! [i2,e2,hla,zt9,zz]
   dsimp! only
   refine ⟨_,rfl,o',_,hs++[(zt4[(r3+k).toNat],k2,o')],st5.set w p2,by rw [← hcm],ho',fun y hy=>hx y (List.mem_cons_of_mem _ hy),by simp;lia,?_,?_,hd6.mono (by simp;lia),by simp;lia⟩
   ·intro h hh
    rcases List.mem_append.mp hh with hh | hh
    ·exact hhs h hh
    ·have:h=(zt4[(r3+k).toNat],k2,o'):=by simpa using hh
     subst this;exact ⟨hlow,hk2,ho'⟩
   ·rw [show st.length=(st5.set w p2).length by simp;lia,List.set_append_right _ _ (Nat.le_refl _)]
    simp [zA7]
  by_cases c0:q1=0
  ·subst c0
   simp! []
   apply za4
   simp! [yk9]
   refine Sat.k1 (zm7 hw1.app (by lia)) fun q3 s3 q30 q31 hq3=>?_
   obtain ⟨p3,rfl,hw3⟩:=hq3.unapp (by simp;lia)
   have hd3:=hd1.trans ⟨⟨p3,rfl⟩,hw3⟩
   have hb:=zj5 q3 7 (by decide)
   obtain ⟨o',hs',ho',eo⟩:=yK3 hb.1 hb.2
   have io:zi5 7 (q3 % 7)=some (q3 % 7).toNat:=by unfold zi5;rw [if_pos hb.1,if_pos (by lia)]
   have hml:(yh2.map fun p=>PV.tup [p.1,.lst p.2]).length=7:=rfl
   unfold yz6
   generalize hme:(yh2.map fun p=>PV.tup [p.1,.lst p.2])=MM at eo hml ⊢
   simp! [hml,io,eo]
   dsimp! only
   rw [List.set_set] at hd3
   exact tail o' (st'.set w p3) ho' (hd3.mono (by lia))
  ·simp! [c0]
   dsimp! only
   exact tail o _ ho (hd1.mono (by lia))
 ·rintro _ s2 ⟨env2,rfl,o,x8,hs,st',rfl,ho,hx,hlen,hhs,rfl,hd,hone⟩
  apply za4
  have hob:zb5 (st'++[.lst (hs.map zA7)]) st.length=some (.lst (hs.map zA7)):=zj6 hd.len.symm
  have hvw:=zi0 hob
  simp! [bfOp,opN,zn7,hvw]
  refine ⟨⟨⟨nl,hs⟩,rfl,n1,n2,n3,?_,?_,hhs⟩,?_⟩
  ·intro e
   have e:hs=[]:=e
   rw [e] at hone
   simp at hone
  ·simpa using hlen
  ·exact zo2.cutApp (hd.mono (by simp at hlen;lia))
def Of (hs:List Hd) (t:zg3):Prop:=∃ h∈hs,h.1=t.h
theorem yX4 {W d:Nat} {st:za6} {g:Gr} (hg:gG g) {t:zg3} (ht:Of g.hs t):∃ o,zg1 prog W (d+1) yz8 [.p (zJ3 g),.p (zk7 t)] st=.ok (.p o) st∧gO o∧∃ h∈g.hs,h.2.2=o:=by
 obtain ⟨h,hh,e⟩:=ht
 have hf:h∈g.hs.filter fun q=>decide (q.1=t.h):=List.mem_filter.mpr ⟨hh,by simpa using e⟩
 cases hl:(g.hs.filter fun q=>decide (q.1=t.h)) with
 | nil=>rw [hl] at hf;cases hf
 | cons q r =>
  have hq:q∈g.hs:=(List.mem_filter.mp (show q∈g.hs.filter fun q=>decide (q.1=t.h) by rw [hl];simp)).1
  refine ⟨q.2.2,?_,(hg.2.2.2.2.2 q hq).2.2,q,hq,rfl⟩
  apply zd5
  rw [zc3 (fd:=zP8) rfl rfl,zc1];simp! only [zP8,zO6]
  apply za4
  simp! [zJ3,zk7]
  rw [zh9 zA7 (fun q:Hd=>decide (q.1=t.h)) (fun q=>q.2.2) (fun env=>∃ a b c,env=[some (.p (.tup (.str t.h::t.ws.map .str))),a,b,c]) _ _ _ ⟨_,_,_,rfl⟩ ?g1]
  case g1 =>
   rintro q hq env ⟨a,b,c,rfl⟩
   refine ⟨_,rfl,⟨_,_,_,rfl⟩,?_,fun _=>rfl⟩
   have i0:(0:Int)<(t.ws.length:Int)+1:=by lia
   simp! [zk7,zi5,i0,pyEq]
  rw [hl]
  simp! [zi5]
def gMs (ms:List (List Nat)):Prop:=ms.length≤3∧∀ m∈ms,isM m=true
theorem zv4 {W D w:Nat} {T:Int} {st:za6} (hD:2≤D) (hw:Well st w T) (hT:T+3≤1000000) {g:Gr} (hg:gG g) {hs:List Hd} (h1:hs≠[]) (h4:hs.length≤4) (hh:∀ h∈hs,gHd h) {hv:PV} (hhv:hv=.tup (hs.map zA7)∨hv=.lst (hs.map zA7)) {ms:List (List Nat)} (hm:gMs ms) :
  Sat (zg1 prog W D zC8 [.ref w,.p (zJ3 g),.p hv,.p (.lst (ms.map .str))] st) fun v st'=>(∃ t,v=.p (zk7 t)∧gT t∧Of hs t)∧zo2 w (T+3) st st':=by
 obtain ⟨d,rfl⟩:∃ d,D=d+2:=⟨D - 2,by lia⟩
 have hl:(0:Int)<hs.length:=by
  cases hs with
  | nil=>exact absurd rfl h1
  | cons _ _=>simp
 have hl30:(hs.length:Int)<1000000000000000000000000000000:=by lia
 rw [zc3 (fd:=zn1) rfl rfl,zc1];simp! only [zn1,zp2]
 apply za4
 have body:∀ (h:Hd) (st1:za6),h∈hs→zo2 w (T+1) st st1 →
   Sat (execSs (zg1 prog W (d+1)) W (zn1.body.drop 1) [some (.ref w),some (.p (zJ3 g)),some (.p hv),some (.p (.lst (ms.map .str))),some (.p (zA7 h)),none] st1)
    fun a st'=>Sat (yi7 (List.length st) a st') fun v st'=>(∃ t,v=.p (zk7 t)∧gT t∧Of hs t)∧zo2 w (T+3) st st':=by
  intro h st1 hm1 hd1
  obtain ⟨g1,g2,g3,g4,g5,g6⟩:=hg
  obtain ⟨m1,m2⟩:=hm
  obtain ⟨k1,k2,k3⟩:=hh h hm1
  simp only [zn1,zp2,List.drop_succ_cons,List.drop_zero]
  have z1:g.ns.length+ms.length≤SZ:=zj1 (by lia)
  have z2:g.ns.length+(ms.length+ms.length)≤SZ:=zj1 (by lia)
  have z2':g.ns.length+ms.length+ms.length≤SZ:=zj1 (by lia)
  apply za4
  simp! [zJ3,bfOp,z1,z2,z2']
  dsimp! only
  have hwl:∀ x∈g.ns++(ms++ms),low x=true∨isM x=true:=by
   intro x hx
   rcases List.mem_append.mp hx with hx | hx
   ·exact .inl (g3 x hx)
   ·rcases List.mem_append.mp hx with hx | hx
    ·exact .inr (m2 x hx)
    ·exact .inr (m2 x hx)
  have hwn:(0:Int)<(g.ns++(ms++ms)).length:=by
   cases hgn:g.ns with
   | nil=>exact absurd hgn g1
   | cons _ _=>simp;lia
  have hw30:((g.ns++(ms++ms)).length:Int)<1000000000000000000000000000000:=by simp;lia
  rw [show (List.map PV.str g.ns++(List.map PV.str ms++List.map PV.str ms))=(g.ns++(ms++ms)).map PV.str by simp]
  generalize g.ns++(ms++ms)=ws at hwl hwn hw30
  have zk:(h.2.1:Int)≤SZ:=zC9 (by lia)
  have zk2:(-1000000:Int)≤h.2.1:=by lia
  apply za4
  simp! [zA7,zk,zk2]
  refine (zN6 (fun xs env st' acc=>(∃ v,env=[some (.ref w),some (.p (.lst (ws.map .str))),v])∧∃ us:List (List Nat),acc=us.map .str∧us.length+xs.length=h.2.1∧(∀ u∈us,u∈ws)∧zo2 w (T+1+us.length) st st') _ _ _ _ ⟨⟨_,rfl⟩,[],rfl,by simp,by simp,by simpa using hd1⟩ ?_).mono ?_
  ·rintro x r env st' acc ⟨⟨v,rfl⟩,us,rfl,hlu,hu,hd⟩
   refine ⟨_,rfl,?_⟩
   simp only [List.length_cons] at hlu
   simp! [bfOp]
   refine Sat.k1 (zm7 hd.2 (by lia) hwn hw30) fun q s1 q0 q1 hq=>?_
   obtain ⟨y,e1,e2,e3⟩:=yo2 ws q q0 q1
   simp! [e3,e1]
   refine ⟨us++[y],by simp,by simp;lia,?_,(hd.trans hq).mono (by simp;lia)⟩
   intro u hu'
   rcases List.mem_append.mp hu' with hu' | hu'
   ·exact hu u hu'
   ·have:u=y:=by simpa using hu'
    subst this;exact e2
  ·rintro ys st' ⟨env',_,us,rfl,hlu,hu,hd⟩
   simp only [List.length_nil,Nat.add_zero] at hlu
   have zz:1+us.length≤SZ:=zj1 (by lia)
   have zz':us.length+1≤SZ:=zj1 (by lia)
   simp! [bfOp,zz,zz']
   refine ⟨⟨⟨h.1,us⟩,rfl,⟨k1,by show us.length≤2;lia,fun u hu'=>hwl u (hu u hu')⟩,h,hm1,rfl⟩,(hd.mono (by lia)).cut⟩
 rcases hhv with rfl | rfl
 ·simp! [bfOp]
  refine Sat.k1 (zm7 hw (by lia) hl hl30) fun q s1 q0 q1 hq=>?_
  obtain ⟨y,e1,e2,e3⟩:=yo2 hs q q0 q1
  simp! [e3,e1]
  dsimp! only
  exact body y s1 e2 hq
 ·simp! [bfOp]
  refine Sat.k1 (zm7 hw (by lia) hl hl30) fun q s1 q0 q1 hq=>?_
  obtain ⟨y,e1,e2,e3⟩:=yo2 hs q q0 q1
  simp! [e3,e1]
  dsimp! only
  exact body y s1 e2 hq
theorem yA8 {W D w:Nat} {T:Int} {st:za6} (hD:3≤D) (hw:Well st w T) (hT:T+7≤1000000) {g:Gr} (hg:gG g) {t:zg3} (ht:Of g.hs t) {ms:List (List Nat)} (hm:gMs ms) :
  Sat (zg1 prog W D yi3 [.ref w,.p (zJ3 g),.p (zk7 t),.p (.lst (ms.map .str))] st) fun v st'=>(∃ m,v=.p (encM m)∧gM m)∧zo2 w (T+7) st st':=by
 obtain ⟨d,rfl⟩:∃ d,D=d+3:=⟨D - 3,by lia⟩
 obtain ⟨o,eo,ho,hd,hhd,hho⟩:=yX4 (W:=W) (d:=d+1) (st:=st) hg ht
 have hgs:=hg
 obtain ⟨g1,g2,g3,g4,g5,g6⟩:=hg
 rw [zc3 (fd:=zB1) rfl rfl,zc1];simp! only [zB1,zr1]
 apply za4
 simp! [eo]
 apply za4
 simp! [zJ3]
 rw [zh9 zA7 (fun q:Hd=>pyEq q.2.2 o) zA7 (fun env=>∃ a,env=[some (.p o),a]) _ _ _ ⟨_,rfl⟩ ?g1]
 case g1 =>
  rintro q hq env ⟨a,rfl⟩
  refine ⟨_,rfl,⟨_,rfl⟩,?_,fun _=>rfl⟩
  have:=dk (b:=o) (g6 q hq).2.2.d
  show op2 (zq4 .eq) (.p q.2.2) (.p o) st=_
  rw [yv0];simp only [zq4,this,if_true];rfl
 simp! []
 dsimp! only
 have al1:(g.hs.filter fun q:Hd=>pyEq q.2.2 o)≠[]:=by
  intro e
  have:hd∈g.hs.filter fun q:Hd=>pyEq q.2.2 o:=List.mem_filter.mpr ⟨hhd,by rw [hho];exact ho.eq⟩
  rw [e] at this;cases this
 have al4:(g.hs.filter fun q:Hd=>pyEq q.2.2 o).length≤4:=Nat.le_trans (List.length_filter_le _ _) g5
 have al6:∀ h∈(g.hs.filter fun q:Hd=>pyEq q.2.2 o),gHd h:=fun h hh=>g6 h (List.mem_filter.mp hh).1
 generalize (g.hs.filter fun q:Hd=>pyEq q.2.2 o)=al at al1 al4 al6
 rw [show PV.tup [PV.tup (List.map PV.str g.ns),PV.tup (List.map zA7 g.hs)]=zJ3 g from rfl]
 apply za4
 simp! []
 refine Sat.k1 (zv4 (by lia) hw (by lia) hgs al1 al4 al6 (.inr rfl) hm) fun a s1 ha1 ha2 hd1=>?_
 apply za4
 simp! []
 refine Sat.k1 (zm7 hd1.2 (by lia)) fun q s2 q0 q1 hd2=>?_
 have hd2:=hd1.trans hd2
 clear hd1
 dsimp! only
 obtain ⟨hs,eh,hh1,hh2,hh3⟩:=zM6 (W:=W) (d:=d) (st:=s2) ho
 by_cases c0:q<2
 ·apply za4
  simp! [c0]
  apply za4
  simp! [eh]
  apply za4
  have zl:(0:Int)<hs.length:=by lia
  have zl2:(hs.length:Int)<1000000000000000000000000000000:=by lia
  simp! [bfOp]
  refine Sat.k1 (zm7 hd2.2 (by lia) zl zl2) fun p s3 p0 p1 hd3=>?_
  obtain ⟨y,e1,e2,e3⟩:=yo2 hs p p0 p1
  simp! [e3,e1]
  exact ⟨⟨.just y,rfl,hh1 y e2⟩,((hd2.trans hd3).mono (by lia)).cut⟩
 obtain ⟨s,r,rfl⟩:=ho.t
 apply za4
 simp! [c0]
 dsimp! only
 have two:∀ (b:Bool) (s3:za6),zo2 w (T+4) st s3→Sat (zg1 prog W (d+2) zC8 [.ref w,.p (zJ3 g),.p (.lst (al.map zA7)),.p (.lst (ms.map .str))] s3) fun v st'=>(∃ c,v=.p (zk7 c)∧gT c)∧zo2 w (T+7) st st':=by
  intro b s3 h3
  refine (zv4 (by lia) h3.2 (by lia) hgs al1 al4 al6 (.inr rfl) hm).mono ?_
  rintro v s4 ⟨⟨c,rfl,c1,c2⟩,hd4⟩
  exact ⟨⟨c,rfl,c1⟩,(h3.trans hd4).mono (by lia)⟩
 have last:Sat (execSs (zg1 prog W (d+2)) W (zr1.drop 7) [some (.ref w),some (.p (zJ3 g)),some (.p (zk7 t)),some (.p (.lst (ms.map .str))),some (.p (.tup (.str s::r))),some (.p (.lst (al.map zA7))),some (.p (zk7 a)),some (.p (.int q)),none] s2)
   fun f st'=>Sat (yi7 (List.length st) f st') fun v st'=>(∃ m,v=.p (encM m)∧gM m)∧zo2 w (T+7) st st':=by
  simp only [zr1,List.drop_succ_cons,List.drop_zero]
  by_cases c3:q=5
  ·subst c3
   apply za4
   cases hb2:zu2 (.str s) [PV.str [110,117,109],PV.str [108,111,119],PV.str [99,104,97,105,110],PV.str [115,101,116]] with
   | true =>
    simp! [zi5,hb2]
    apply za4
    simp! []
    refine Sat.k0 (two true s2 (hd2.mono (by lia))) fun c s3 c1 hd3=>?_
    simp! []
    exact ⟨⟨.two false a c,rfl,ha1,c1⟩,hd3.cut⟩
   | false =>
    simp! [zi5,hb2]
    apply za4
    simp! []
    exact ⟨⟨.of a,rfl,ha1⟩,(hd2.mono (by lia)).cut⟩
  ·apply za4
   simp! [c3]
   apply za4
   simp! []
   exact ⟨⟨.of a,rfl,ha1⟩,(hd2.mono (by lia)).cut⟩
 cases hb:zu2 (.str s) [PV.str [110,117,109],PV.str [108,111,119]] with
 | true =>
  by_cases c1:q<4
  ·apply za4
   simp! [c1,zi5,hb]
   apply za4
   simp! []
   refine Sat.k1 (zm7 hd2.2 (by lia)) fun p s3 p0 p1 hd3=>?_
   obtain ⟨k2,hk2,e2⟩:∃ k:Int,(0≤k∧k≤1000)∧[PV.int 0,PV.int 1,PV.int 2,PV.int 1000][p.toNat]?=some (.int k):=by
    obtain rfl | rfl | rfl | rfl:p=0∨p=1∨p=2∨p=3:=by lia
    ·exact ⟨0,by lia,rfl⟩
    ·exact ⟨1,by lia,rfl⟩
    ·exact ⟨2,by lia,rfl⟩
    ·exact ⟨1000,by lia,rfl⟩
   have i2:zi5 4 p=some p.toNat:=by unfold zi5;rw [if_pos p0,if_pos (by lia)]
   simp! [i2,e2]
   exact ⟨⟨.plus a k2,rfl,ha1,hk2.1,hk2.2⟩,((hd2.trans hd3).mono (by lia)).cut⟩
  ·apply za4
   simp! [c1]
   dsimp! only
   by_cases c2:q=4
   ·subst c2
    apply za4
    simp! [zi5,hb]
    apply za4
    simp! []
    refine Sat.k0 (two true s2 (hd2.mono (by lia))) fun c s3 c1 hd3=>?_
    simp! []
    exact ⟨⟨.two true a c,rfl,ha1,c1⟩,hd3.cut⟩
   ·apply za4
    simp! [c2]
    dsimp! only
    exact last
 | false =>
  apply za4
  simp! [zi5,hb]
  apply za4
  simp! [zi5,hb]
  dsimp! only
  exact last
def gPs (ps:List (zg3×Tm)):Prop:=ps.length≤3∧∀ p∈ps,gT p.1∧gM p.2
def U1 (w:Nat) (T:Int) (st0:za6) (g:Gr) (ms:List (List Nat)) (n:Int) (xs:List PV) (env:Env) (st:za6):Prop :=
 ∃ (x5 x6:Option Val) (ps:List (zg3×Tm)) (st':za6),env=[some (.ref w),some (.p (zJ3 g)),some (.p (.lst (ms.map .str))),some (.p (.int n)),some (.ref st0.length),x5,x6]
  ∧ ps.length+xs.length≤3∧(∀ p∈ps,gT p.1∧gM p.2)∧st=st'++[.lst (ps.map zx9)]∧zo2 w (T+10 * ps.length) st0 st'
theorem yw4 {W D w:Nat} {T:Int} {st:za6} (hD:4≤D) (hw:Well st w T) (hT:T+30≤1000000) {g:Gr} (hg:gG g) {ms:List (List Nat)} (hm:gMs ms) {n:Nat} (hn:n≤3) :
  Sat (zg1 prog W D zK8 [.ref w,.p (zJ3 g),.p (.lst (ms.map .str)),.p (.int n)] st) fun v st'=>(∃ ps:List (zg3×Tm),v=.p (.tup (ps.map zx9))∧gPs ps)∧zo2 w (T+30) st st':=by
 obtain ⟨d,rfl⟩:∃ d,D=d+4:=⟨D - 4,by lia⟩
 have hwn:=hw.lt
 obtain ⟨g1,g2,g3,g4,g5,g6⟩:=id hg
 rw [zc3 (fd:=zB4) rfl rfl,zc1];simp! only [zB4,zB9]
 apply za4
 simp! []
 apply za4
 have z1:(n:Int)≤SZ:=zC9 (by lia)
 have z2:(-1000000:Int)≤n:=by lia
 simp! [z1,z2]
 refine (zk1 (U1 w T st g ms n) _ _ _ ⟨none,none,[],st,rfl,by simp;lia,by simp,rfl,by simpa using zo2.refl hw⟩ ?_).mono ?_
 ·rintro x r env s ⟨x5,x6,ps,st',rfl,hlen,hps,rfl,hd⟩
  simp only [List.length_cons] at hlen
  have hl':=hd.len
  refine ⟨_,rfl,?_⟩
  apply za4
  simp! [zJ3]
  rw [show PV.tup [PV.tup (List.map PV.str g.ns),PV.tup (List.map zA7 g.hs)]=zJ3 g from rfl]
  refine Sat.k1 (zv4 (by lia) hd.2.app (by lia) hg g4 g5 g6 (.inl rfl) hm) fun t s1 ht1 ht2 hq1=>?_
  obtain ⟨p1,rfl,hw1⟩:=hq1.unapp (by lia)
  have hd1:=hd.trans ⟨⟨p1,rfl⟩,hw1⟩
  dsimp! only
  have hob:zb5 (st'.set w p1++[.lst (ps.map zx9)]) st.length=some (.lst (ps.map zx9)):=zj6 hd1.len.symm
  have hvw:=zi0 hob
  apply za4
  simp! [hvw]
  refine Sat.k0 (yA8 (by lia) hw1.app (by lia) hg ht2 hm) fun m s2 hm1 hq2=>?_
  obtain ⟨p2,rfl,hw2⟩:=hq2.unapp (by simp;lia)
  have hd2:=hd1.trans ⟨⟨p2,rfl⟩,hw2⟩
  rw [List.set_set] at hd2 ⊢
  have hl2:=hd2.len
  have hob2:zb5 (st'.set w p2++[.lst (ps.map zx9)]) st.length=some (.lst (ps.map zx9)):=zj6 hd2.len.symm
  have hla:=zl1 hob2
  have zz:ps.length<SZ:=yn3 (by lia)
  simp! [hla,zt9,zz]
  dsimp! only
  refine ⟨_,rfl,_,_,ps++[(t,m)],st'.set w p2,rfl,by simp;lia,?_,?_,hd2.mono (by simp;lia)⟩
  ·intro p hp
   rcases List.mem_append.mp hp with hp | hp
   ·exact hps p hp
   ·have:p=(t,m):=by simpa using hp
    subst this;exact ⟨ht1,hm1⟩
  ·rw [show st.length=(st'.set w p2).length by simp;lia,List.set_append_right _ _ (Nat.le_refl _)]
   simp [zx9]
 ·rintro _ s2 ⟨env2,rfl,x5,x6,ps,st',rfl,hlen,hps,rfl,hd⟩
  apply za4
  have hob:zb5 (st'++[.lst (ps.map zx9)]) st.length=some (.lst (ps.map zx9)):=zj6 hd.len.symm
  have hvw:=zi0 hob
  simp only [List.length_nil] at hlen
  simp! [bfOp,opN,zn7,hvw]
  exact ⟨⟨ps,rfl,hlen,hps⟩,zo2.cutApp (hd.mono (by lia))⟩
theorem yj4 {W D w:Nat} {T:Int} {st:za6} (hD:3≤D) (hw:Well st w T) (hT:T+4≤1000000) {g:Gr} (hg:gG g) {ms:List (List Nat)} (hm:gMs ms) {y n:PV} :
  Sat (zg1 prog W D zR1 [.ref w,.p (zJ3 g),.p (.lst (ms.map .str)),.p y,.p n] st) fun v st'=>(∃ t h,v=.p (.tup [.str [97,115,107],zk7 t,h,y,n])∧gT t∧gH h=true)∧zo2 w (T+4) st st':=by
 obtain ⟨d,rfl⟩:∃ d,D=d+3:=⟨D - 3,by lia⟩
 obtain ⟨g1,g2,g3,g4,g5,g6⟩:=id hg
 rw [zc3 (fd:=zu3) rfl rfl,zc1];simp! only [zu3,zt7]
 apply za4
 simp! [zJ3]
 rw [show PV.tup [PV.tup (List.map PV.str g.ns),PV.tup (List.map zA7 g.hs)]=zJ3 g from rfl]
 refine Sat.k1 (zv4 (by lia) hw (by lia) hg g4 g5 g6 (.inl rfl) hm) fun t s1 ht1 ht2 hd1=>?_
 dsimp! only
 obtain ⟨o,eo,ho,_⟩:=yX4 (W:=W) (d:=d+1) (st:=s1) hg ht2
 obtain ⟨hs,eh,hh1,hh2,hh3⟩:=zM6 (W:=W) (d:=d) (st:=s1) ho
 apply za4
 simp! [eo,eh]
 apply za4
 have zl:(0:Int)<(hs.length:Int) - 1:=by lia
 have zl2:(hs.length:Int) - 1<1000000000000000000000000000000:=by lia
 simp! [bfOp]
 refine Sat.k1 (zm7 hd1.2 (by lia) zl zl2) fun p s3 p0 p1 hd3=>?_
 obtain ⟨z,e1,e2,e3⟩:=yo2 hs (1+p) (by lia) (by lia)
 simp! [e3,e1]
 exact ⟨⟨t,z,⟨rfl,rfl⟩,ht1,hh1 z e2⟩,((hd1.trans hd3).mono (by lia)).cut⟩
theorem zX2:∀ (r:Tr) (k k':Nat),k≤k'→gR k r→gR k' r
 | .put ps,k,k',_,g=>by rw [gR] at g ⊢;exact g
 | .ask t h y n,0,k',_,g=>g.elim
 | .ask t h y n,k+1,0,hk,g=>by lia
 | .ask t h y n,k+1,k'+1,hk,g=>by
  rw [gR] at g ⊢
  exact ⟨g.1,g.2.1,zX2 y k k' (by lia) g.2.2.1,zX2 n k k' (by lia) g.2.2.2⟩
theorem yB1 {W w:Nat} {g:Gr} (hg:gG g) {ms:List (List Nat)} (hm:gMs ms):∀ (k D:Nat) (T:Int) (st:za6),k+5≤D→Well st w T→T+200 * 2 ^ k≤1000000 →
  Sat (zg1 prog W D yg9 [.ref w,.p (zJ3 g),.p (.int ((k:Int)+1)),.p (.lst (ms.map .str))] st) fun v st'=>(∃ r,v=.p (zk8 r)∧gR k r)∧zo2 w (T+(200 * 2 ^ k - 10)) st st':=by
 have leaf:∀ (k D:Nat) (T B:Int) (st st1:za6) (zp3:List S) (dv:PV),4≤D→zo2 w (T+1) st st1→T+200≤1000000→T+190≤B →
   Sat (execSs (zg1 prog W D) W [.ret (.tup [(.const (.str [112,117,116])),(.call zK8 [(.var 0),(.var 1),(.var 3),(.ix (.list false [(.const (.int 1)),(.const (.int 2)),(.const (.int 0)),(.const (.int 3))]) (.call zl9 [(.var 0),(.const (.int 4))]))])])] [some (.ref w),some (.p (zJ3 g)),some (.p dv),some (.p (.lst (ms.map .str))),none] st1)
    fun a st'=>Sat (zX8 (zg1 prog W D) W zp3 a st') fun a st'=>Sat (yi7 (List.length st) a st') fun v st'=>(∃ r,v=.p (zk8 r)∧gR k r)∧zo2 w B st st':=by
  intro k D T B st st1 zp3 dv hD hd hT hB
  apply za4
  simp! []
  refine Sat.k1 (zE3 (by lia) hd.2 (by lia) (by decide) (by decide)) fun p s2 p0 p1 hd2=>?_
  obtain ⟨k2,hk2,e2⟩:∃ k:Nat,k≤3∧[PV.int 1,PV.int 2,PV.int 0,PV.int 3][p.toNat]?=some (.int (k:Int)):=by
   obtain rfl | rfl | rfl | rfl:p=0∨p=1∨p=2∨p=3:=by lia
   ·exact ⟨1,by lia,rfl⟩
   ·exact ⟨2,by lia,rfl⟩
   ·exact ⟨0,by lia,rfl⟩
   ·exact ⟨3,by lia,rfl⟩
  have i2:zi5 4 p=some p.toNat:=by unfold zi5;rw [if_pos p0,if_pos (by lia)]
  simp! [i2,e2]
  refine (yw4 hD hd2.2 (by lia) hg hm hk2).mono ?_
  rintro _ s3 ⟨⟨ps,rfl,hps⟩,hd3⟩
  simp! []
  exact ⟨⟨.put ps,by rw [zk8],by rw [gR];exact hps⟩,(((hd.trans hd2).trans hd3).mono (by lia)).cut⟩
 intro k
 induction k with
 | zero =>
  intro D T st hD hw hT
  obtain ⟨d,rfl⟩:∃ d,D=d+1:=⟨D - 1,by lia⟩
  rw [zc3 (fd:=zr0) rfl rfl,zc1];simp! only [zr0,zv8]
  apply za4
  simp! []
  exact leaf 0 d T _ st st _ _ (by lia) ((zo2.refl hw).mono (by lia)) (by simp at hT;lia) (by lia)
 | succ k ih =>
  intro D T st hD hw hT
  obtain ⟨d,rfl⟩:∃ d,D=d+1:=⟨D - 1,by lia⟩
  have h2:(1:Int)≤2 ^ k:=by exact_mod_cast Nat.one_le_two_pow
  have e2:(2:Int) ^ (k+1)=2 * 2 ^ k:=by rw [Int.pow_succ];lia
  rw [e2] at hT ⊢
  generalize hK:(2:Int) ^ k=P at *
  rw [zc3 (fd:=zr0) rfl rfl,zc1];simp! only [zr0,zv8]
  apply za4
  have c2:¬ ((k:Int)+1+1<2):=by lia
  simp! [c2]
  refine Sat.k1 (zE3 (by lia) hw (by lia) (by decide) (by decide)) fun p s2 p0 p1 hd1=>?_
  by_cases c0:p=0
  ·subst c0
   simp! []
   exact leaf (k+1) d T _ st s2 _ _ (by lia) hd1 (by lia) (by lia)
  ·simp! [c0]
   apply za4
   simp! []
   refine Sat.k0 (ih d (T+1) s2 (by lia) hd1.2 (by lia)) fun y s3 hy hd2=>?_
   apply za4
   simp! []
   refine Sat.k0 (ih d _ s3 (by lia) hd2.2 (by lia)) fun n s4 hn hd3=>?_
   refine (yj4 (by lia) hd3.2 (by lia) hg hm).mono ?_
   rintro _ s5 ⟨⟨t,h,rfl,ht,hh⟩,hd4⟩
   simp! []
   exact ⟨⟨.ask t h y n,by rw [zk8],by rw [gR];exact ⟨ht,hh,hy,hn⟩⟩,((((hd1.trans hd2).trans hd3).trans hd4).mono (by lia)).cut⟩
noncomputable def zj9 (g:Gr) (rs:List Tr):PV:=.tup [.tup (g.ns.map .str),.tup (g.hs.map zA7),.tup (rs.map zk8)]
def gRs (rs:List Tr):Prop:=rs.length≤5∧∀ r∈rs,gR 3 r
def Q1 (w:Nat) (m T:Int) (st0:za6) (g:Gr) (xs:List PV) (env:Env) (st:za6):Prop :=
 ∃ (x5 x6:Option Val) (rs:List Tr) (st':za6),env=[some (.ref w),some (.p (.int m)),some (.p (.int 3)),some (.p (zJ3 g)),some (.ref st0.length),x5,x6]
  ∧ rs.length+xs.length≤5∧(∀ r∈rs,gR 3 r)∧st=st'++[.lst (rs.map zk8)]∧zo2 w (T+1700 * rs.length) st0 st'
theorem zH2 {W D w:Nat} {m T:Int} {st:za6} (m0:0≤m) (m5:m≤5) (hD:9≤D) (hw:Well st w T) (hT:T+9000≤1000000) :
  Sat (zg1 prog W D zP4 [.ref w,.p (.int m),.p (.int 3)] st) fun v st'=>(∃ g rs,v=.p (zj9 g rs)∧gG g∧gRs rs)∧zo2 w (T+9000) st st':=by
 obtain ⟨d,rfl⟩:∃ d,D=d+9:=⟨D - 9,by lia⟩
 rw [zc3 (fd:=zr9) rfl rfl,zc1];simp! only [zr9,zr7]
 apply za4
 simp! []
 refine Sat.k0 (yj5 (by lia) hw (by lia) (by decide) (by decide)) fun g s1 hg hd1=>?_
 have hwn:w<st.length:=hw.lt
 apply za4
 simp! []
 apply za4
 simp! []
 refine Sat.k1 (zm7 hd1.2.app (by lia) (by lia) (by lia)) fun n s2 n0 n1 hd2=>?_
 obtain ⟨p1,rfl,hw1⟩:=hd2.unapp (by have:=hd1.len;lia)
 have hd2:=hd1.trans ⟨⟨p1,rfl⟩,hw1⟩
 have z1:n≤(SZ:Int):=zC9 (by lia)
 have z2:-1000000≤n:=by lia
 simp! [z1,z2]
 refine (zk1 (Q1 w m (T+31) st g) _ _ _ ⟨none,none,[],s1.set w p1,?_,by simp;lia,by simp,rfl,hd2.mono (by simp;lia)⟩ ?_).mono ?_
 ·rw [hd1.len]
 ·rintro x r env s ⟨x5,x6,rs,st',rfl,hlen,hrs,rfl,hd⟩
  simp only [List.length_cons] at hlen
  have hl':=hd.len
  refine ⟨_,rfl,?_⟩
  apply za4
  simp! []
  refine Sat.k1 (zm7 hd.2.app (by lia)) fun q s1 q0 q1 hq1=>?_
  obtain ⟨p2,rfl,hw2⟩:=hq1.unapp (by lia)
  have hd2:=hd.trans ⟨⟨p2,rfl⟩,hw2⟩
  obtain ⟨ms,hms,em⟩:∃ ms,gMs ms∧[PV.lst [],PV.lst [PV.str [65]],PV.lst [PV.str [66],PV.str [65]],PV.lst [PV.str [70]],PV.lst [PV.str [67],PV.str [68]],PV.lst [PV.str [65],PV.str [70],PV.str [67]]][q.toNat]?=some (.lst (ms.map .str)):=by
   obtain rfl | rfl | rfl | rfl | rfl | rfl:q=0∨q=1∨q=2∨q=3∨q=4∨q=5:=by lia
   ·exact ⟨[],by unfold gMs;decide,rfl⟩
   ·exact ⟨[[65]],by unfold gMs;decide,rfl⟩
   ·exact ⟨[[66],[65]],by unfold gMs;decide,rfl⟩
   ·exact ⟨[[70]],by unfold gMs;decide,rfl⟩
   ·exact ⟨[[67],[68]],by unfold gMs;decide,rfl⟩
   ·exact ⟨[[65],[70],[67]],by unfold gMs;decide,rfl⟩
  have i6:zi5 6 q=some q.toNat:=by unfold zi5;rw [if_pos q0,if_pos (by lia)]
  simp! [i6,em]
  dsimp! only
  have hob:zb5 (st'.set w p2++[.lst (rs.map zk8)]) st.length=some (.lst (rs.map zk8)):=zj6 hd2.len.symm
  have hvw:=zi0 hob
  apply za4
  simp! [hvw]
  refine Sat.k1 (zm7 hw2.app (by lia)) fun q3 s3 q30 q31 hq3=>?_
  obtain ⟨p3,rfl,hw3⟩:=hq3.unapp (by simp;lia)
  have hd3:=hd2.trans ⟨⟨p3,rfl⟩,hw3⟩
  rw [List.set_set] at hd3 ⊢
  obtain ⟨k,rfl⟩:∃ k:Nat,q3=k:=⟨q3.toNat,by lia⟩
  have hk3:k≤3:=by lia
  have hp:(2:Int) ^ k≤8:=by
   obtain rfl | rfl | rfl | rfl:k=0∨k=1∨k=2∨k=3:=by lia
   all_goals decide
  simp! []
  rw [show (1:Int)+k=(k:Int)+1 by lia]
  refine Sat.k0 (yB1 hg hms k _ _ _ (by lia) hd3.2.app (by lia)) fun t s4 ht hq4=>?_
  obtain ⟨p4,rfl,hw4⟩:=hq4.unapp (by simp;lia)
  have hd4:=hd3.trans ⟨⟨p4,rfl⟩,hw4⟩
  rw [List.set_set] at hd4 ⊢
  have hl4:=hd4.len
  have hob2:zb5 (st'.set w p4++[.lst (rs.map zk8)]) st.length=some (.lst (rs.map zk8)):=zj6 hd4.len.symm
  have hla:=zl1 hob2
  have zz:rs.length<SZ:=yn3 (by lia)
  simp! [hla,zt9,zz]
  dsimp! only
  refine ⟨_,rfl,_,_,rs++[t],st'.set w p4,rfl,by simp;lia,?_,?_,hd4.mono (by simp;lia)⟩
  ·intro p hp
   rcases List.mem_append.mp hp with hp | hp
   ·exact hrs p hp
   ·have:p=t:=by simpa using hp
    subst this;exact zX2 _ _ _ hk3 ht
  ·rw [show st.length=(st'.set w p4).length by simp;lia,List.set_append_right _ _ (Nat.le_refl _)]
   simp
 ·rintro _ s2 ⟨env2,rfl,x5,x6,rs,st',rfl,hlen,hrs,rfl,hd⟩
  apply za4
  have hob:zb5 (st'++[.lst (rs.map zk8)]) st.length=some (.lst (rs.map zk8)):=zj6 hd.len.symm
  have hvw:=zi0 hob
  simp only [List.length_nil] at hlen
  have z3:3≤SZ:=zj1 (by lia)
  simp! [bfOp,opN,zn7,hvw,zJ3,z3]
  exact ⟨⟨g,rs,rfl,hg,hlen,hrs⟩,zo2.cutApp (hd.mono (by lia))⟩
noncomputable def lv (path:List PV):Tr→List PV
 | .put ps=>[.tup [.tup path,.tup (ps.map zx9)]]
 | .ask t h y n=>lv (path++[.tup [zk7 t,h,.bl true]]) y++lv (path++[.tup [zk7 t,h,.bl false]]) n
theorem zT9:∀ (r:Tr) (k:Nat) (path:List PV),gR k r→(lv path r).length≤2 ^ k
 | .put ps,k,path,_=>by rw [lv];exact Nat.one_le_two_pow
 | .ask t h y n,0,_,g=>g.elim
 | .ask t h y n,k+1,path,g=>by
  rw [gR] at g
  have h1:=zT9 y k (path++[.tup [zk7 t,h,.bl true]]) g.2.2.1
  have h2:=zT9 n k (path++[.tup [zk7 t,h,.bl false]]) g.2.2.2
  rw [lv,List.length_append,Nat.pow_succ];lia
theorem zs7 {W:Nat}:∀ (r:Tr) (k D:Nat) (path:List PV) (st:za6),gR k r→k+1≤D→k≤10→path.length+k≤100→zg1 prog W D zQ3 [.p (zk8 r),.p (.tup path)] st=.ok (.p (.lst (lv path r))) st
 | .put ps,k,D,path,st,g,hD,hk,hp=>by
  obtain ⟨d,rfl⟩:∃ d,D=d+1:=⟨D - 1,by lia⟩
  apply zd5
  rw [zc3 (fd:=zm9) rfl rfl,zc1];simp! only [zm9,zp7]
  rw [zk8]
  refine zz6 rfl ?_
  apply za4
  simp! [lv]
 | .ask t h y n,0,D,path,st,g,hD,hk,hp=>g.elim
 | .ask t h y n,k+1,D,path,st,g,hD,hk,hp=>by
  obtain ⟨d,rfl⟩:∃ d,D=d+1:=⟨D - 1,by lia⟩
  rw [gR] at g
  have ty:=zs7 (W:=W) y k d (path++[.tup [zk7 t,h,.bl true]]) st g.2.2.1 (by lia) (by lia) (by simp;lia)
  have tn:=zs7 (W:=W) n k d (path++[.tup [zk7 t,h,.bl false]]) st g.2.2.2 (by lia) (by lia) (by simp;lia)
  have l1:=zT9 y k (path++[.tup [zk7 t,h,.bl true]]) g.2.2.1
  have l2:=zT9 n k (path++[.tup [zk7 t,h,.bl false]]) g.2.2.2
  have hk2:2 ^ k≤2 ^ 10:=Nat.pow_le_pow_right (by lia) (by lia)
  have e10:2 ^ 10=1024:=rfl
  have z3:3≤SZ:=zj1 (by lia)
  have zp:path.length+1≤SZ:=zj1 (by lia)
  have zl:(lv (path++[.tup [zk7 t,h,.bl true]]) y).length+(lv (path++[.tup [zk7 t,h,.bl false]]) n).length≤SZ:=zj1 (by lia)
  have hc:cut [PV.str [97,115,107],zk7 t,h,zk8 y,zk8 n] (some 1) (some 3)=[zk7 t,h]:=rfl
  apply zd5
  rw [zc3 (fd:=zm9) rfl rfl,zc1];simp! only [zm9,zp7]
  rw [zk8]
  refine zp4 rfl ?_
  apply za4
  simp! [sliceOp,hc,z3,zp,zi5,ty]
  apply za4
  simp! [sliceOp,hc,z3,zp,zi5,tn,zl]
  rw [lv]
theorem yn5 {xs:List PV}:zk9 [xs,xs]=xs.map fun x=>PV.tup [x,x]:=by
 rw [zk9]
 induction xs with
 | nil=>rfl
 | cons x r ih=>simp only [List.zip_cons_cons,List.map_cons];rw [ih]
theorem zK6 {α:Type} {C:zb9} {e:E} {tgt:Tg} {src:Option (Nat×List PV)} (g f:α→PV) {st:za6} (hs:zw5 st src=true) (I:Env→Prop):∀ (xs:List α) (env:Env) (acc:List PV),
  I env→(∀ x∈xs,∀ env,I env→∃ env',zr3 tgt (.p (g x)) st env=some env'∧I env'∧evalE C e env' st=.ok (.p (f x)) st) →
  zr2 C e none tgt src (xs.map g) env st acc=.ok (acc++xs.map f) st
 | [],env,acc,_,_=>by unfold zr2;rw [List.map_nil,compLoop,if_pos hs];simp
 | x::r,env,acc,hI,h=>by
  obtain ⟨env',h1,hI',h2⟩:=h x (by simp) env hI
  have ih:=zK6 (C:=C) (e:=e) (tgt:=tgt) g f hs I r env' (acc++[f x]) hI' fun y hy=>h y (List.mem_cons_of_mem _ hy)
  unfold zr2 at ih ⊢
  rw [List.map_cons,compLoop,if_pos hs]
  simp only [h1,Res.bindB_ok,if_true,h2,Res.bindP_ok]
  rw [ih]
  simp
theorem yk8 {xs:List PV}:zn5 (xs.map fun _=>PV.bl true)=some true:=by
 rw [zC6 fun _=>true];simp
theorem zP6 {W d:Nat} {xs:List PV} {st:za6} {v:Val} {y:PV} (hv:view st v=some y) (hy:y=.lst xs∨y=.tup xs) (ih:∀ x∈xs,zg1 prog W d zj0 [.p x,.p x] st=.ok (.p (.bl true)) st) :
  zg1 prog W (d+1) zj0 [v,.p y] st=.ok (.p (.bl true)) st:=by
 have so:zw5 st (zw0 v xs)=true:=by
  cases v with
  | p _=>rfl
  | ref n =>
   rcases hy with rfl | rfl
   ·exact decide_eq_true hv
   ·have hv:(match zb5 st n with | some (.lst xs)=>some (PV.lst xs) | _=>none)=some (PV.tup xs):=hv
    cases ho:zb5 st n with
    | none=>rw [ho] at hv;cases hv
    | some ob=>rw [ho] at hv;cases ob <;> cases hv
 have cm:=zK6 (C:=zg1 prog W d) (e:=.call zj0 [.var 0,.var 1]) (tgt:=.tup [0,1]) (fun x:PV=>PV.tup [x,x]) (fun _=>PV.bl true) so (fun env=>∃ a b,env=[a,b]) xs [none,none] [] ⟨_,_,rfl⟩ (by
  rintro x hx env ⟨a,b,rfl⟩
  refine ⟨_,rfl,⟨_,_,rfl⟩,?_⟩
  show zg1 prog W d zj0 [.p x,.p x] st=_
  exact ih x hx)
 rw [List.nil_append] at cm
 apply zd5
 rw [zc3 (fd:=zq8) rfl rfl,zc1]
 simp only [zq8,zv6,List.map_cons,List.map_nil,List.cons_append,List.nil_append,Nat.reduceSub,List.replicate,List.append_nil]
 have o1:∀ t,opN (bfOp (.isinst t)) [v] st=.ok (.p (.bl (yZ9 t y))) st:=by
  intro t
  unfold opN zn7
  rw [hv]
  rfl
 have o2:opN (bfOp .len) [v] st=okO (yZ7 y) st:=by
  unfold opN zn7
  rw [hv]
  rfl
 have wz:zu8 v y st=.ok (xs.map fun x=>PV.tup [x,x],zw0 v xs) st:=by
  unfold zu8
  rw [hv]
  rcases hy with rfl | rfl
  ·show Res.ok (zk9 [xs,xs],zw0 v xs) st=_;rw [yn5]
  ·show Res.ok (zk9 [xs,xs],zw0 v xs) st=_;rw [yn5]
 rcases hy with rfl | rfl
 ·apply za4
  simp! [o1,bfOp,-zu8,-zw0]
  apply za4
  simp! [o1,bfOp,-zu8,-zw0]
  apply za4
  simp! [o2,wz,-zu8,-zw0,bfOp,cm,yk8]
 ·apply za4
  simp! [o1,bfOp,-zu8,-zw0]
  apply za4
  simp! [o1,bfOp,-zu8,-zw0]
  apply za4
  simp! [o2,wz,-zu8,-zw0,bfOp,cm,yk8]
theorem yp8 {W:Nat}:∀ (n D:Nat) (x:PV) (st:za6),dep x≤n→n+1≤D→zg1 prog W D zj0 [.p x,.p x] st=.ok (.p (.bl true)) st:=by
 intro n
 induction n with
 | zero =>
  intro D x st hx hD
  obtain ⟨d,rfl⟩:∃ d,D=d+1:=⟨D - 1,by lia⟩
  apply zd5
  rw [zc3 (fd:=zq8) rfl rfl,zc1];simp! only [zq8,zv6]
  apply za4
  cases x with
  | tup xs=>simp at hx
  | lst xs=>simp at hx
  | _ =>
   simp! [bfOp]
   apply za4
   simp! [bfOp,pyEq]
 | succ n ih =>
  intro D x st hx hD
  obtain ⟨d,rfl⟩:∃ d,D=d+1:=⟨D - 1,by lia⟩
  cases x with
  | tup xs =>
   rw [ya2] at hx
   exact zP6 (v:=.p (.tup xs)) rfl (.inr rfl) fun x hx'=>ih d x st (by have:=zH9.mp (show deps xs≤n by lia) x hx';lia) (by lia)
  | lst xs =>
   rw [zX4] at hx
   exact zP6 (v:=.p (.lst xs)) rfl (.inl rfl) fun x hx'=>ih d x st (by have:=zH9.mp (show deps xs≤n by lia) x hx';lia) (by lia)
  | _=>exact ih (d+1) _ st (by simp) (by lia)
noncomputable def srcs:Tm→List zg3
 | .just _=>[]
 | .of a=>[a]
 | .plus a _=>[a]
 | .two _ a c=>[a,c]
noncomputable def thP (ps:List (zg3×Tm)):List zg3:=ps.flatMap fun p=>p.1::srcs p.2
noncomputable def zh8:Tr→List zg3
 | .put ps=>thP ps
 | .ask t _ y n=>t::(zh8 y++zh8 n)
theorem yb8 (m:Tm):(srcs m).length≤2:=by cases m <;> simp [srcs]
theorem zW2:∀ ps:List (zg3×Tm),(thP ps).length≤3 * ps.length
 | []=>by simp [thP]
 | p::r=>by
  have:=zW2 r
  have h2:=yb8 p.2
  unfold thP at this ⊢
  rw [List.flatMap_cons,List.length_append,List.length_cons,List.length_cons]
  lia
theorem zr4:∀ (r:Tr) (k:Nat),gR k r→(zh8 r).length+1≤10 * 2 ^ k
 | .put ps,k,g=>by
  rw [gR] at g
  have:=zW2 ps
  have h2:1≤2 ^ k:=Nat.one_le_two_pow
  rw [zh8];lia
 | .ask t h y n,0,g=>g.elim
 | .ask t h y n,k+1,g=>by
  rw [gR] at g
  have h1:=zr4 y k g.2.2.1
  have h2:=zr4 n k g.2.2.2
  rw [zh8,Nat.pow_succ];simp;lia
theorem zx7:∀ (r:Tr) (k:Nat),gR k r→∀ t∈zh8 r,gT t
 | .put ps,k,g,t,ht=>by
  rw [gR] at g
  rw [zh8,thP,List.mem_flatMap] at ht
  obtain ⟨p,hp,ht⟩:=ht
  obtain ⟨g1,g2⟩:=g.2 p hp
  rcases List.mem_cons.mp ht with rfl | ht
  ·exact g1
  ·cases hm:p.2 with
   | just h=>rw [hm,srcs] at ht;cases ht
   | of a =>
    rw [hm] at g2 ht
    rw [srcs,List.mem_singleton] at ht
    subst ht;exact g2
   | plus a k =>
    rw [hm] at g2 ht
    rw [srcs,List.mem_singleton] at ht
    subst ht;exact g2.1
   | two s a c =>
    rw [hm] at g2 ht
    rw [srcs,List.mem_cons,List.mem_singleton] at ht
    rcases ht with rfl | rfl
    ·exact g2.1
    ·exact g2.2
 | .ask t h y n,0,g,_,_=>g.elim
 | .ask t h y n,k+1,g,u,hu=>by
  rw [gR] at g
  rw [zh8,List.mem_cons,List.mem_append] at hu
  rcases hu with rfl | hu | hu
  ·exact g.1
  ·exact zx7 y k g.2.2.1 u hu
  ·exact zx7 n k g.2.2.2 u hu
theorem yh6 {W d:Nat} {m:Tm} {st:za6}:zg1 prog W (d+1) zR0 [.p (encM m)] st=.ok (.p (.tup ((srcs m).map zk7))) st:=by
 apply zd5
 rw [zc3 (fd:=zv0) rfl rfl,zc1];simp! only [zv0,zu0]
 cases m with
 | just h =>
  rw [encM]
  refine zz6 rfl ?_
  apply za4
  simp! [srcs]
 | of a =>
  rw [encM]
  refine zp4 rfl ?_
  refine zp4 rfl ?_
  apply za4
  simp! [srcs]
 | plus a k =>
  rw [encM]
  refine zp4 rfl ?_
  refine zp4 rfl ?_
  apply za4
  simp! [srcs]
 | two s a c =>
  rw [encM]
  cases s
  ·refine zp4 rfl ?_
   refine zz6 rfl ?_
   apply za4
   simp! [srcs]
  ·refine zp4 rfl ?_
   refine zz6 rfl ?_
   apply za4
   simp! [srcs]
def N1 (st:za6) (v0:Val) (ps:List (zg3×Tm)) (xs:List PV) (env:Env) (s:za6):Prop :=
 ∃ (x2 x3:Option Val) (us vs:List (zg3×Tm)),env=[some v0,some (.ref st.length),x2,x3]∧ps=us++vs∧xs=vs.map zx9∧s=st++[.lst ((thP us).map zk7)]
theorem yF1 {us:List (zg3×Tm)} {p:zg3×Tm}:thP (us++[p])=thP us++(p.1::srcs p.2):=by simp [thP]
theorem yg3 {W d:Nat} {ps:List (zg3×Tm)} {st:za6} (hl:ps.length≤3):zg1 prog W (d+2) zG8 [.p (zk8 (.put ps))] st=.ok (.p (.lst ((thP ps).map zk7))) st:=by
 apply zd5
 rw [zc3 (fd:=zo7) rfl rfl,zc1];simp! only [zo7,zr6]
 rw [zk8]
 refine zp4 rfl ?_
 apply za4
 simp! []
 apply za4
 simp! []
 refine (zk1 (N1 st (.p (.tup [.str [112,117,116],.tup (ps.map zx9)])) ps) _ _ _ ⟨none,none,[],ps,rfl,rfl,rfl,rfl⟩ ?_).mono ?_
 ·rintro x r env s ⟨x2,x3,us,vs,rfl,hps,hx,rfl⟩
  cases vs with
  | nil=>cases hx
  | cons p vs =>
   rw [List.map_cons] at hx
   cases hx
   have hul:us.length+1≤3:=by
    have:=congrArg List.length hps
    simp at this;lia
   have hth:=zW2 us
   refine ⟨_,rfl,?_⟩
   have hob:∀ l:List PV,zb5 (st++[.lst l]) st.length=some (.lst l):=fun l=>zh2
   have hvw:=fun l=>zi0 (hob l)
   have hla:=fun l=>zl1 (hob l)
   have hset:∀ l l':List PV,List.set (st++[zA5.lst l]) st.length (.lst l')=st++[.lst l']:=fun l l'=>by
    rw [List.set_append_right _ _ (Nat.le_refl _)];simp
   have z1:(thP us).length<SZ:=yn3 (by lia)
   have hs2:=yb8 p.2
   have z2:(thP us).length+1+(srcs p.2).length≤SZ:=zj1 (by lia)
   have z2':(thP us).length+((srcs p.2).length+1)≤SZ:=zj1 (by lia)
   apply za4
   simp! [hvw,hla,zt9,z1,hset]
   apply za4
   simp! [hvw,yh6,hla,zx1,z2,z2',hset]
   dsimp! only
   exact ⟨_,rfl,_,_,us++[p],vs,rfl,by simp [hps],rfl,by rw [yF1];simp⟩
 ·rintro _ s ⟨env2,rfl,x2,x3,us,vs,rfl,hps,hx,rfl⟩
  have hv:vs=[]:=by
   cases vs with
   | nil=>rfl
   | cons _ _=>cases hx
  subst hv
  rw [List.append_nil] at hps
  subst hps
  apply za4
  have hob:zb5 (st++[.lst ((thP ps).map zk7)]) st.length=some (.lst ((thP ps).map zk7)):=zh2
  simp! [hob]
theorem zE9 {W:Nat}:∀ (r:Tr) (k D:Nat) (st:za6),gR k r→k+2≤D→k≤10→zg1 prog W D zG8 [.p (zk8 r)] st=.ok (.p (.lst ((zh8 r).map zk7))) st
 | .put ps,k,D,st,g,hD,hk=>by
  obtain ⟨d,rfl⟩:∃ d,D=d+2:=⟨D - 2,by lia⟩
  rw [gR] at g
  rw [zh8]
  exact yg3 g.1
 | .ask t h y n,0,D,st,g,hD,hk=>g.elim
 | .ask t h y n,k+1,D,st,g,hD,hk=>by
  obtain ⟨d,rfl⟩:∃ d,D=d+1:=⟨D - 1,by lia⟩
  rw [gR] at g
  have ty:=zE9 (W:=W) y k d st g.2.2.1 (by lia) (by lia)
  have tn:=zE9 (W:=W) n k d st g.2.2.2 (by lia) (by lia)
  have l1:=zr4 y k g.2.2.1
  have l2:=zr4 n k g.2.2.2
  have hk2:2 ^ k≤2 ^ 10:=Nat.pow_le_pow_right (by lia) (by lia)
  have e10:2 ^ 10=1024:=rfl
  have z1:1+(zh8 y).length≤SZ:=zj1 (by lia)
  have z1':(zh8 y).length+1≤SZ:=zj1 (by lia)
  have z2:1+(zh8 y).length+(zh8 n).length≤SZ:=zj1 (by lia)
  have z2':(zh8 y).length+1+(zh8 n).length≤SZ:=zj1 (by lia)
  apply zd5
  rw [zc3 (fd:=zo7) rfl rfl,zc1];simp! only [zo7,zr6]
  rw [zk8]
  refine zz6 rfl ?_
  apply za4
  simp! [zi5,ty,tn,z1,z1',z2,z2']
  rw [zh8];simp
noncomputable def AF:List (List Nat):=[[65],[66],[67],[68],[69],[70]]
noncomputable def mks (ts:List zg3):List (List Nat):=ts.flatMap fun t=>t.ws.filter isM
theorem zU2 {ns:List (List Nat)} {s:List Nat}:zu2 (.str s) (ns.map .str)=decide (s∈ns):=by
 unfold zu2
 rw [Bool.eq_iff_iff,List.any_map,List.any_eq_true,decide_eq_true_eq]
 constructor
 ·rintro ⟨x,hx,h⟩
  have h:pyEq (.str x) (.str s)=true:=h
  rw [pyEq] at h
  rw [← of_decide_eq_true h];exact hx
 ·intro h
  refine ⟨s,h,?_⟩
  show pyEq (.str s) (.str s)=true
  rw [pyEq];exact decide_eq_true rfl
theorem yg2 {W d:Nat} {w:List Nat} {st:za6}:zg1 prog W (d+1) yt2 [.p (.str w)] st=.ok (.p (.bl (isM w))) st:=by
 apply zd5
 rw [zc3 (fd:=zJ0) rfl rfl,zc1];simp! only [zJ0,zG5]
 apply za4
 have:zu2 (.str w) [PV.str [65],PV.str [66],PV.str [67],PV.str [68],PV.str [69],PV.str [70]]=isM w:=zU2 (ns:=AF)
 simp! [this]
theorem zY4 {w:List Nat}:isM w=true↔w∈AF:=by unfold isM AF;exact decide_eq_true_iff
theorem yE6 {ts:List zg3}:∀ w∈mks ts,w∈AF:=by
 intro w hw
 unfold mks at hw
 rw [List.mem_flatMap] at hw
 obtain ⟨t,ht,hw⟩:=hw
 exact zY4.mp (List.mem_filter.mp hw).2
theorem yv5 {ms:List (List Nat)} (h:∀ w∈ms,w∈AF):ms.foldl (fun d i=>zJ2 i d) []=AF.filter fun w=>decide (w∈ms):=by
 obtain ⟨h1,h2⟩:=zE2 ms
 have pa:AF.Pairwise (fun a b=>strLt a b=true):=by decide
 refine zZ7 h1 (List.Pairwise.filter _ pa) fun x=>?_
 rw [h2,List.mem_filter,decide_eq_true_eq]
 exact ⟨fun hx=>⟨h x hx,hx⟩,fun hx=>hx.2⟩
theorem yc2 (ms:List (List Nat)):zw2 (ms.map .str)=some ms:=by
 induction ms with
 | nil=>rfl
 | cons x r ih=>rw [List.map_cons,zw2,ih];rfl
theorem yy2 {ms:List (List Nat)} (h:∀ w∈ms,w∈AF) (hl:ms.length<4000):zm6 (ms.map .str)=some (.lst ((AF.filter fun w=>decide (w∈ms)).map .str)):=by
 have h6:(AF.filter fun w=>decide (w∈ms)).length<64:=by
  have:=List.length_filter_le (fun w=>decide (w∈ms)) AF
  have h6:AF.length=6:=rfl
  lia
 cases ms with
 | nil=>rfl
 | cons m r =>
  have hi:zy4 ((m::r).map PV.str)=none:=rfl
  unfold zm6
  rw [hi,yc2]
  dsimp only
  rw [yv5 h,if_pos ⟨hl,h6⟩]
def N2 (st:za6) (v0:Val) (ts:List zg3) (xs:List PV) (env:Env) (s:za6):Prop :=
 ∃ (x2:Option Val) (us vs:List zg3),env=[some v0,some (.ref st.length),x2]∧ts=us++vs∧xs=vs.map zk7∧s=st++[.lst ((mks us).map .str)]
theorem zZ3:∀ ts:List zg3,(∀ t∈ts,gT t)→(mks ts).length≤2 * ts.length
 | [],_=>by simp [mks]
 | t::r,h=>by
  have h1:=zZ3 r fun u hu=>h u (List.mem_cons_of_mem _ hu)
  have h2:=(h t (by simp)).2.1
  have h3:=List.length_filter_le isM t.ws
  unfold mks at h1 ⊢
  rw [List.flatMap_cons,List.length_append,List.length_cons]
  lia
theorem yf2 {W D:Nat} {r:Tr} {st:za6} (g:gR 3 r) (hD:7≤D):zg1 prog W D yg7 [.p (zk8 r)] st=.ok (.p (.tup ((AF.filter fun w=>decide (w∈mks (zh8 r))).map .str))) st:=by
 obtain ⟨d,rfl⟩:∃ d,D=d+2:=⟨D - 2,by lia⟩
 have hth:=zE9 (W:=W) r 3 (d+1) (st++[.lst []]) g (by lia) (by lia)
 have hlen:=zr4 r 3 g
 have hgood:=zx7 r 3 g
 generalize zh8 r=ts at hth hlen hgood
 apply zd5
 rw [zc3 (fd:=zB2) rfl rfl,zc1];simp! only [zB2,zB0]
 apply za4
 simp! []
 apply za4
 simp! [hth]
 refine (zk1 (N2 st (.p (zk8 r)) ts) _ _ _ ⟨none,[],ts,rfl,rfl,rfl,rfl⟩ ?_).mono ?_
 ·rintro x r env s ⟨x2,us,vs,rfl,hts,hx,rfl⟩
  cases vs with
  | nil=>cases hx
  | cons t vs =>
   rw [List.map_cons] at hx
   cases hx
   have hul:us.length+1≤ts.length:=by rw [hts];simp
   have hm:=zZ3 us fun u hu=>hgood u (by rw [hts];exact List.mem_append_left _ hu)
   have ht2:=(hgood t (by rw [hts];simp)).2.1
   have hf:=List.length_filter_le isM t.ws
   refine ⟨_,rfl,?_⟩
   have hob:∀ l:List PV,zb5 (st++[.lst l]) st.length=some (.lst l):=fun l=>zh2
   have hvw:=fun l=>zi0 (hob l)
   have hla:=fun l=>zl1 (hob l)
   have hset:∀ l l':List PV,List.set (st++[zA5.lst l]) st.length (.lst l')=st++[.lst l']:=fun l l'=>by
    rw [List.set_append_right _ _ (Nat.le_refl _)];simp
   have z2:(mks us).length+(t.ws.filter isM).length≤SZ:=zj1 (by lia)
   have hc:cut (PV.str t.h::t.ws.map .str) (some 1) none=t.ws.map .str:=by rw [ye7 _ _ (by decide)];rfl
   apply za4
   simp! [hvw,zk7,sliceOp,hc]
   rw [zh9 PV.str isM PV.str (fun env=>∃ a,env=[a]) _ _ _ ⟨_,rfl⟩ ?g1]
   case g1 =>
    rintro w hw env ⟨a,rfl⟩
    refine ⟨_,rfl,⟨_,rfl⟩,?_,fun _=>rfl⟩
    simp! [yg2]
   simp! [hla,zx1,z2,hset]
   dsimp! only
   exact ⟨_,rfl,_,us++[t],vs,rfl,by simp [hts],rfl,by simp [mks]⟩
 ·rintro _ s ⟨env2,rfl,x2,us,vs,rfl,hts,hx,rfl⟩
  have hv:vs=[]:=by
   cases vs with
   | nil=>rfl
   | cons _ _=>cases hx
  subst hv
  rw [List.append_nil] at hts
  subst hts
  apply za4
  have hm:=zZ3 ts hgood
  have hsort:=yy2 (yE6 (ts:=ts)) (by lia)
  have hvw:view (st++[.lst ((mks ts).map .str)]) (.ref st.length)=some (.lst ((mks ts).map .str)):=zi0 zh2
  generalize (AF.filter fun w=>decide (w∈mks ts))=F at hsort ⊢
  generalize mks ts=M at hsort hvw ⊢
  have o1:opN (bfOp .sortSet) [.ref st.length] (st++[.lst (M.map .str)])=.ok (.p (.lst (F.map .str))) (st++[.lst (M.map .str)]):=by
   unfold opN zn7
   rw [hvw]
   show okO (zm6 (M.map .str)) _=_
   rw [hsort];rfl
  simp! [o1]
theorem yb0 {m:Nat}:∀ ws:List (List Nat),hasSs m (ws.map .str)=decide ([m]∈ws)
 | []=>by rw [List.map_nil,hasSs];rfl
 | w::r=>by
  rw [List.map_cons,hasSs,yb0 r,hasS,Bool.eq_iff_iff]
  simp only [Bool.or_eq_true,decide_eq_true_eq,List.mem_cons]
  exact ⟨fun h=>h.imp Eq.symm id,fun h=>h.imp Eq.symm id⟩
theorem zq9 {m:Nat} (hm:m∈[65,66,67,68,69,70]) {t:zg3} (g:gT t):hasS m (zk7 t)=decide ([m]∈t.ws):=by
 have:=plain_has hm (.str t.h) (by rw [plain];exact g.1)
 rw [zk7,hasS,hasSs,this,yb0,Bool.false_or]
theorem yI6 {m:Nat} (hm:m∈[65,66,67,68,69,70]) {ts:List zg3}:[m]∈mks ts↔∃ t∈ts,[m]∈t.ws:=by
 unfold mks
 rw [List.mem_flatMap]
 constructor
 ·rintro ⟨t,ht,h⟩;exact ⟨t,ht,(List.mem_filter.mp h).1⟩
 ·rintro ⟨t,ht,h⟩;exact ⟨t,ht,List.mem_filter.mpr ⟨h,zY4.mpr (by simpa [AF] using hm)⟩⟩
theorem yz2 {m:Nat} (hm:m∈[65,66,67,68,69,70]) {q:Tm} (g:gM q):hasS m (encM q)=true↔∃ t∈srcs q,[m]∈t.ws:=by
 cases q with
 | just h =>
  have g:gH h=true:=g
  unfold gH at g
  simp only [Bool.and_eq_true] at g
  simp [encM,hasS,hasSs,srcs,plain_has hm h g.1.1.1]
 | of a=>simp [encM,hasS,hasSs,srcs,zq9 hm g]
 | plus a k=>simp [encM,hasS,hasSs,srcs,zq9 hm g.1]
 | two s a c=>cases s <;> simp [encM,hasS,hasSs,srcs,zq9 hm g.1,zq9 hm g.2]
theorem yd6 {m:Nat} (hm:m∈[65,66,67,68,69,70]):∀ ps:List (zg3×Tm),(∀ p∈ps,gT p.1∧gM p.2)→(hasSs m (ps.map zx9)=true↔∃ t∈thP ps,[m]∈t.ws)
 | [],_=>by simp [hasSs,thP]
 | p::r,h=>by
  have ih:=yd6 hm r fun q hq=>h q (List.mem_cons_of_mem _ hq)
  obtain ⟨g1,g2⟩:=h p (by simp)
  have e:thP (p::r)=p.1::(srcs p.2++thP r):=by simp [thP]
  rw [List.map_cons,hasSs,zx9,hasS,hasSs,hasSs,hasSs,zq9 hm g1,e]
  simp only [Bool.or_eq_true,ih,yz2 hm g2,decide_eq_true_eq,List.mem_cons,List.mem_append,Bool.false_eq_true,or_false]
  constructor
  ·rintro ((h | ⟨t,h1,h2⟩) | ⟨t,h1,h2⟩)
   ·exact ⟨p.1,.inl rfl,h⟩
   ·exact ⟨t,.inr (.inl h1),h2⟩
   ·exact ⟨t,.inr (.inr h1),h2⟩
  ·rintro ⟨t,rfl | h1 | h1,h2⟩
   ·exact .inl (.inl h2)
   ·exact .inl (.inr ⟨t,h1,h2⟩)
   ·exact .inr ⟨t,h1,h2⟩
theorem zN4 {m:Nat} (hm:m∈[65,66,67,68,69,70]):∀ (r:Tr) (k:Nat),gR k r→(hasS m (zk8 r)=true↔∃ t∈zh8 r,[m]∈t.ws)
 | .put ps,k,g=>by
  rw [gR] at g
  rw [zk8,hasS,hasSs,hasSs,hasS,hasSs,hasS,Bool.or_false,zh8,← yd6 hm ps g.2]
  simp
 | .ask t h y n,0,g=>g.elim
 | .ask t h y n,k+1,g=>by
  rw [gR] at g
  obtain ⟨g1,g2,g3,g4⟩:=g
  unfold gH at g2
  simp only [Bool.and_eq_true] at g2
  have iy:=zN4 hm y k g3
  have ino:=zN4 hm n k g4
  rw [zk8,hasS,hasSs,hasSs,hasSs,hasSs,hasSs,hasSs,hasS,zq9 hm g1,plain_has hm h g2.1.1.1,zh8]
  simp only [Bool.or_eq_true,iy,ino,decide_eq_true_eq,List.mem_cons,List.mem_append,Bool.false_eq_true,or_false,false_or]
  constructor
  ·rintro (h | h | ⟨u,h1,h2⟩ | ⟨u,h1,h2⟩)
   ·simp at h
   ·exact ⟨t,.inl rfl,h⟩
   ·exact ⟨u,.inr (.inl h1),h2⟩
   ·exact ⟨u,.inr (.inr h1),h2⟩
  ·rintro ⟨u,rfl | h1 | h1,h2⟩
   ·exact .inr (.inl h2)
   ·exact .inr (.inr (.inl ⟨u,h1,h2⟩))
   ·exact .inr (.inr (.inr ⟨u,h1,h2⟩))
theorem yo9 {r:Tr} (g:gR 3 r):∃ t,zF1 (zk8 r)=some t:=by
 obtain ⟨⟨a,b,c⟩,d⟩:=xe7 r 3 g
 exact yI7 (B:=10 ^ 18) (by decide) a (by lia) (by lia)
theorem zC5 {W D:Nat} {r:Tr} {st:za6} (g:gR 3 r) (hD:1≤D):zg1 prog W D zZ9 [.p (zk8 r)] st=.ok (.p (.tup ((AF.filter fun w=>decide (w∈mks (zh8 r))).map .str))) st:=by
 obtain ⟨d,rfl⟩:∃ d,D=d+1:=⟨D - 1,by lia⟩
 obtain ⟨t,ht⟩:=yo9 g
 have nb:∀ b,zk8 r≠.bl b:=by
  intro b e
  cases r with
  | put ps=>rw [zk8] at e;cases e
  | ask _ _ _ _=>rw [zk8] at e;cases e
 apply zd5
 rw [zc3 (fd:=zx4) rfl rfl,zc1];simp! only [zx4,zx2]
 apply za4
 simp! [bfOp,-zF1,ht]
 apply za4
 have ws:walkOf (.p (.str [65,66,67,68,69,70])) st=.ok ([65,66,67,68,69,70].map fun c:Nat=>PV.str [c],none) st:=rfl
 generalize hL:[65,66,67,68,69,70]=L at ws ⊢
 simp! [ws]
 rw [zh9 (fun c:Nat=>PV.str [c]) (fun c=>decide ([c]∈mks (zh8 r))) (fun c=>PV.str [c]) (fun env=>∃ a,env=[some (.p (.str t)),a]) L _ _ ⟨_,rfl⟩ ?g1]
 case g1 =>
  rintro c hc env ⟨a,rfl⟩
  refine ⟨_,rfl,⟨_,rfl⟩,?_,fun _=>rfl⟩
  have z2:2≤SZ:=zj1 (by lia)
  have z3:3≤SZ:=zj1 (by lia)
  rw [← hL] at hc
  have hne:c≠44∧c≠41∧c≠93∧c≠39:=by simp at hc;lia
  have e1:=yx7 hne nb ht
  have e2:=zN4 hc r 3 g
  have e3:hasS c (zk8 r)=decide ([c]∈mks (zh8 r)):=by
   rw [Bool.eq_iff_iff,e2,decide_eq_true_eq,yI6 hc]
  simp! [z2,z3,e1,e3]
 rw [← hL]
 simp! [bfOp]
 rw [show AF=[65,66,67,68,69,70].map (fun c=>[c]) from rfl,List.filter_map,List.map_map]
 rfl
noncomputable def srt (ns:List (List Nat)):List (List Nat):=ns.foldl (fun d i=>zV6 i d) []
theorem zY2 (ns:List (List Nat)):(srt ns).length=ns.length:=(yJ3 ns).2.length_eq
theorem zQ1 {ns:List (List Nat)} (h:ns.length<64):zB5 (.tup (ns.map .str))=some (.lst ((srt ns).map .str)):=by
 unfold zB5
 simp only [zj2,yc2,if_pos h]
 rfl
noncomputable def zQ0 (ws:List (List Nat)):PV:=.tup (ws.map .str)
noncomputable def zQ4 (S:List (List Nat)) (rows:List (List (List Nat))):List (List (List Nat)):=rows.flatMap fun row=>S.map fun n=>row++[n]
noncomputable def chs (S:List (List Nat)):Nat→List (List (List Nat))
 | 0=>[[]]
 | k+1=>zQ4 S (chs S k)
theorem zE5 (S:List (List Nat)):∀ rows,(zQ4 S rows).length=S.length * rows.length
 | []=>by simp [zQ4]
 | r::rs=>by
  have:=zE5 S rs
  unfold zQ4 at this ⊢
  rw [List.flatMap_cons,List.length_append,this,List.length_map,List.length_cons,Nat.mul_succ,Nat.add_comm]
theorem zA8 (S:List (List Nat)):∀ k,(chs S k).length=S.length ^ k
 | 0=>rfl
 | k+1=>by rw [chs,zE5,zA8 S k,Nat.pow_succ,Nat.mul_comm]
theorem zY7 (S:List (List Nat)):∀ k,∀ row∈chs S k,row.length=k
 | 0,row,h=>by
  rw [chs,List.mem_singleton] at h
  subst h;rfl
 | k+1,row,h=>by
  rw [chs,zQ4,List.mem_flatMap] at h
  obtain ⟨r,hr,h⟩:=h
  obtain ⟨n,_,rfl⟩:=List.mem_map.mp h
  rw [List.length_append,zY7 S k r hr];rfl
def N3 (st:za6) (v0 v1:Val) (S:List (List Nat)) (rows:List (List (List Nat))) (xs:List PV) (env:Env) (s:za6):Prop :=
 ∃ (x3:Option Val) (us vs:List (List (List Nat))),env=[some v0,some v1,some (.ref st.length),x3]∧rows=us++vs∧xs=vs.map zQ0∧s=st++[.lst ((zQ4 S us).map zQ0)]
theorem yd2 {S:List (List Nat)} {us:List (List (List Nat))} {row:List (List Nat)}:zQ4 S (us++[row])=zQ4 S us++S.map fun n=>row++[n]:=by simp [zQ4]
theorem zS4 {W d:Nat} {S:List (List Nat)} {rows:List (List (List Nat))} {st:za6} (hl:S.length * rows.length≤100000) (hr:∀ row∈rows,row.length≤100) :
  zg1 prog W (d+1) zZ5 [.p (.lst (rows.map zQ0)),.p (.lst (S.map .str))] st=.ok (.p (.lst ((zQ4 S rows).map zQ0))) st:=by
 apply zd5
 rw [zc3 (fd:=zx8) rfl rfl,zc1];simp! only [zx8,zx6]
 apply za4
 simp! []
 apply za4
 simp! []
 refine (zk1 (N3 st (.p (.lst (rows.map zQ0))) (.p (.lst (S.map .str))) S rows) _ _ _ ⟨none,[],rows,rfl,rfl,rfl,rfl⟩ ?_).mono ?_
 ·rintro x r env s ⟨x3,us,vs,rfl,hps,hx,rfl⟩
  cases vs with
  | nil=>cases hx
  | cons row vs =>
   rw [List.map_cons] at hx
   cases hx
   have hul:us.length+1≤rows.length:=by
    have:=congrArg List.length hps
    simp at this;lia
   have hm:S.length * (us.length+1)≤100000:=Nat.le_trans (Nat.mul_le_mul_left _ hul) hl
   have hrow:=hr row (by rw [hps];simp)
   have hel:=zE5 S us
   refine ⟨_,rfl,?_⟩
   have hob:∀ l:List PV,zb5 (st++[.lst l]) st.length=some (.lst l):=fun l=>zh2
   have hvw:=fun l=>zi0 (hob l)
   have hla:=fun l=>zl1 (hob l)
   have hset:∀ l l':List PV,List.set (st++[zA5.lst l]) st.length (.lst l')=st++[.lst l']:=fun l l'=>by
    rw [List.set_append_right _ _ (Nat.le_refl _)];simp
   have z1:row.length+1≤SZ:=zj1 (by lia)
   have z2:(zQ4 S us).length+S.length≤SZ:=zj1 (by rw [hel];rw [Nat.mul_succ] at hm;lia)
   apply za4
   simp! [hvw]
   rw [zk5 PV.str (fun n=>zQ0 (row++[n])) (fun env=>∃ a,env=[some (.p (zQ0 row)),a]) _ _ _ ⟨_,rfl⟩ ?g1]
   case g1 =>
    rintro n hn env ⟨a,rfl⟩
    refine ⟨_,rfl,⟨_,rfl⟩,?_⟩
    simp! [zQ0,z1]
   simp! [hla,zx1,z2,hset]
   dsimp! only
   exact ⟨_,rfl,_,us++[row],vs,rfl,by simp [hps],rfl,by rw [yd2,List.map_append,List.map_map];rfl⟩
 ·rintro _ s ⟨env2,rfl,x3,us,vs,rfl,hps,hx,rfl⟩
  have hv:vs=[]:=by
   cases vs with
   | nil=>rfl
   | cons _ _=>cases hx
  subst hv
  rw [List.append_nil] at hps
  subst hps
  apply za4
  have hob:zb5 (st++[.lst ((zQ4 S rows).map zQ0)]) st.length=some (.lst ((zQ4 S rows).map zQ0)):=zh2
  simp! [hob]
noncomputable abbrev yD7:=Nat×List (List Nat)
noncomputable def zr5 (c:yD7):PV:=.tup [.int c.1,zQ0 c.2]
noncomputable def mk (r:Tr):List (List Nat):=AF.filter fun w=>decide (w∈mks (zh8 r))
theorem zI9 (r:Tr):(mk r).length≤6:=List.length_filter_le _ AF
noncomputable def yZ4 (S:List (List Nat)) (k:Nat) (r:Tr):List yD7:=(chs S (mk r).length).map fun row=>(k,row)
noncomputable def cs (S:List (List Nat)):Nat→List Tr→List yD7
 | _,[]=>[]
 | k,r::rs=>yZ4 S k r++cs S (k+1) rs
theorem ys3 (S:List (List Nat)):∀ (us vs:List Tr) (k:Nat),cs S k (us++vs)=cs S k us++cs S (k+us.length) vs
 | [],vs,k=>by simp [cs]
 | u::us,vs,k=>by
  rw [List.cons_append,cs,cs,ys3 S us vs (k+1),List.append_assoc,List.length_cons,Nat.add_assoc,Nat.add_comm 1]
theorem yU2 {n k:Nat} (h:n≤4) (hk:k≤6):n ^ k≤4096 :=
 Nat.le_trans (Nat.pow_le_pow_left h k) (Nat.le_trans (Nat.pow_le_pow_right (by lia) hk) (by decide))
theorem yd8 {S:List (List Nat)} (h:S.length≤4):∀ (rs:List Tr) (k:Nat),(cs S k rs).length≤4096 * rs.length
 | [],k=>by simp [cs]
 | r::rs,k=>by
  have ih:=yd8 h rs (k+1)
  have h1:=yU2 h (zI9 r)
  rw [cs,List.length_append,yZ4,List.length_map,zA8,List.length_cons,Nat.mul_succ]
  lia
def N5 (st:za6) (e0 e1 e2 e3 e4:Option Val) (S:List (List Nat)) (m:Nat) (xs:List PV) (env:Env) (s:za6):Prop :=
 ∃ (x6:Option Val) (j:Nat),env=[e0,e1,e2,e3,e4,some (.p (.lst ((chs S j).map zQ0))),x6]∧j+xs.length=m∧s=st
def N4 (st:za6) (v0 v1:Val) (S:List (List Nat)) (rs:List Tr) (xs:List PV) (env:Env) (s:za6):Prop :=
 ∃ (x3 x4 x5 x6:Option Val) (us vs:List Tr),env=[some v0,some v1,some (.ref st.length),x3,x4,x5,x6]∧rs=us++vs∧xs=((vs.map zk8).zipIdx us.length).map (fun p=>PV.tup [.int p.2,p.1])∧s=st++[.lst ((cs S 0 us).map zr5)]
theorem yl1 {W D:Nat} {g:Gr} {rs:List Tr} {st:za6} (hg:gG g) (hr:gRs rs) (hD:8≤D) :
  Sat (zg1 prog W D zL3 [.p (zj9 g rs)] st) fun v st'=>v=.ref st.length∧st'=st++[.lst ((cs (srt g.ns) 0 rs).map zr5)]:=by
 obtain ⟨d,rfl⟩:∃ d,D=d+2:=⟨D - 2,by lia⟩
 have h4:(srt g.ns).length≤4:=by rw [zY2];exact hg.2.1
 have hso:=zQ1 (ns:=g.ns) (by have:=hg.2.1;lia)
 have e10:zi5 3 2=some 2:=rfl
 rw [zc3 (fd:=zB7) rfl rfl,zc1];simp! only [zB7,zB3]
 apply za4
 simp! [zj9,bfOp,hso]
 generalize srt g.ns=S at h4 ⊢
 apply za4
 simp! []
 apply za4
 simp! [zj9,e10]
 refine (zk1 (N4 st (.p (.tup [.tup (g.ns.map .str),.tup (g.hs.map zA7),.tup (rs.map zk8)])) (.p (.lst (S.map .str))) S rs) _ _ _ ⟨none,none,none,none,[],rs,rfl,rfl,rfl,rfl⟩ ?_).mono ?_
 ·rintro x xr env s ⟨x3,x4,x5,x6,us,vs,rfl,hps,hx,rfl⟩
  cases vs with
  | nil=>cases hx
  | cons r vs =>
   rw [List.map_cons,List.zipIdx_cons,List.map_cons] at hx
   cases hx
   have hgr:gR 3 r:=hr.2 r (by rw [hps];simp)
   have hul:us.length+1≤rs.length:=by rw [hps];simp
   have hul5:us.length+1≤5:=Nat.le_trans hul hr.1
   have hob:∀ l:List PV,zb5 (st++[.lst l]) st.length=some (.lst l):=fun l=>zh2
   have hvw:=fun l=>zi0 (hob l)
   have hla:=fun l=>zl1 (hob l)
   have hset:∀ l l':List PV,List.set (st++[zA5.lst l]) st.length (.lst l')=st++[.lst l']:=fun l l'=>by
    rw [List.set_append_right _ _ (Nat.le_refl _)];simp
   have hmk:=fun st=>yf2 (W:=W) (D:=d+1) (st:=st) hgr (by lia)
   have hcl:=yd8 h4 us 0
   have hcl2:=yU2 h4 (zI9 r)
   refine ⟨_,rfl,?_⟩
   apply za4
   simp! []
   apply za4
   simp! [hmk]
   refine (zk1 (N5 (st++[.lst ((cs S 0 us).map zr5)]) (some (.p (.tup [.tup (g.ns.map .str),.tup (g.hs.map zA7),.tup (rs.map zk8)]))) (some (.p (.lst (S.map .str)))) (some (.ref st.length)) (some (.p (.int us.length))) (some (.p (zk8 r))) S (mk r).length) _ _ _ ?_ ?_).mono ?_
   ·exact ⟨_,0,rfl,by simp [mk],rfl⟩
   ·rintro y yr env s ⟨x6,j,rfl,hj,rfl⟩
    refine ⟨_,rfl,?_⟩
    have hj6:j+1≤6:=by have:=zI9 r;simp only [List.length_cons] at hj;lia
    have hw:=zS4 (W:=W) (d:=d) (S:=S) (rows:=chs S j) (st:=st++[.lst ((cs S 0 us).map zr5)]) (by
     have h1:=yU2 h4 (show j+1≤6 by lia)
     rw [zA8,Nat.mul_comm,← Nat.pow_succ];lia) fun row hrow=>by rw [zY7 S j row hrow];lia
    apply za4
    simp! [hw]
    dsimp! only
    exact ⟨_,rfl,_,j+1,rfl,by simp only [List.length_cons] at hj;lia,rfl⟩
   ·rintro _ s ⟨env2,rfl,x6,j,rfl,hj,rfl⟩
    have hj:j=(mk r).length:=by simpa using hj
    subst hj
    dsimp! only
    have z2:(cs S 0 us).length+(chs S (mk r).length).length≤SZ:=zj1 (by
     rw [zA8]
     have:4096 * us.length≤4096 * 4:=Nat.mul_le_mul_left _ (by lia)
     lia)
    apply za4
    simp! [hvw]
    rw [zk5 zQ0 (fun row=>zr5 (us.length,row)) (fun env=>∃ a,env=[some (.p (.int us.length)),a]) _ _ _ ⟨_,rfl⟩ ?g1]
    case g1 =>
     rintro row hrow env ⟨a,rfl⟩
     exact ⟨_,rfl,⟨_,rfl⟩,rfl⟩
    simp! [hla,zx1,z2,hset]
    dsimp! only
    refine ⟨_,rfl,_,_,_,_,us++[r],vs,rfl,by simp [hps],by simp,?_⟩
    rw [ys3,List.map_append]
    simp [cs,yZ4]
 ·rintro _ s ⟨env2,rfl,x3,x4,x5,x6,us,vs,rfl,hps,hx,rfl⟩
  have hv:vs=[]:=by
   cases vs with
   | nil=>rfl
   | cons _ _=>cases hx
  subst hv
  rw [List.append_nil] at hps
  subst hps
  apply za4
  simp! [yC1]
theorem yb9 {C:zb9} {W:Nat} {body:List S} {tgt:Tg} {src:Option (Nat×List PV)} (J:List PV→Env→za6→Prop) (hs:∀ xs env st,J xs env st→zw5 st src=true):∀ (xs:List PV) (env:Env) (st:za6),
  J xs env st →
  (∀ x r env st,J (x::r) env st→∃ env',zr3 tgt (.p x) st env=some env'∧Sat (execSs C W body env' st) (fun f st2=>∃ env2,f=.next env2∧J r env2 st2)) →
  Sat (yA6 C W body tgt src xs env st) (fun f st'=>∃ env',f=.next env'∧J [] env' st')
 | [],env,st,h,_=>by unfold yA6;rw [zp1,if_pos (hs _ _ _ h)];exact ⟨env,rfl,h⟩
 | x::r,env,st,h,step=>by
  obtain ⟨env',h1,hq⟩:=step x r env st h
  obtain ⟨_,st2,h2,env2,rfl,h3⟩:=zw6.mp hq
  have ih:=yb9 (C:=C) (W:=W) (body:=body) (tgt:=tgt) (src:=src) J hs r env2 st2 h3 step
  unfold yA6 at ih ⊢
  rw [zp1,if_pos (hs _ _ _ h)]
  simpa only [h1,h2,Res.bind_ok] using ih
theorem yb3 {st r:za6} {v:Val} {x:PV} (h:view st v=some x):view (st++r) v=some x:=by
 cases v with
 | p y=>exact h
 | ref n =>
  have h':(match zb5 st n with | some (.lst xs)=>some (PV.lst xs) | _=>none)=some x:=h
  show (match zb5 (st++r) n with | some (.lst xs)=>some (PV.lst xs) | _=>none)=some x
  cases ho:zb5 st n with
  | none=>rw [ho] at h';cases h'
  | some ob=>rw [zA1 (zp9 ho)];exact h'
theorem yQ9 {st:za6} {v:Val} {xs:List PV} (h:view st v=some (.lst xs)):zw5 st (zw0 v xs)=true:=by
 cases v with
 | p _=>rfl
 | ref n=>exact decide_eq_true h
noncomputable def enK (k:Nat) (row:List (List Nat)):PV:=zr5 (k,row)
def L3 (s0:za6) (e0 e1 e4:Option Val) (v3:Val) (k:Nat) (S:List (List Nat)) (rows:List (List (List Nat))) (xs:List PV) (env:Env) (s:za6):Prop :=
 ∃ (x6:Option Val) (us vs:List (List (List Nat))),env=[e0,e1,some (.p (.int k)),some v3,e4,some (.ref s0.length),x6]∧rows=us++vs∧xs=vs.map (enK k)∧s=s0++[.lst ((zQ4 S us).map (enK k))]
def L2 (st:za6) (e0 e1:Option Val) (k:Nat) (S:List (List Nat)) (m:Nat) (xs:List PV) (env:Env) (s:za6):Prop :=
 ∃ (v3:Val) (x4 x5 x6:Option Val) (j:Nat) (q:za6),env=[e0,e1,some (.p (.int k)),some v3,x4,x5,x6]∧j+xs.length=m∧s=st++q∧view s v3=some (.lst ((chs S j).map (enK k)))
def L1 (st:za6) (e0:Option Val) (S:List (List Nat)) (rs:List Tr) (xs:List PV) (env:Env) (s:za6):Prop :=
 ∃ (x2 x3 x4 x5 x6:Option Val) (us vs:List Tr) (q:za6),env=[e0,some (.p (.lst ((cs S 0 us).map zr5))),x2,x3,x4,x5,x6]∧rs=us++vs∧xs=(List.range' us.length vs.length).map (fun k:Nat=>PV.int k)∧s=st++q
theorem yj3 {W d:Nat} {g:Gr} {rs:List Tr} {s:za6} {e1 e4 x5 x6:Option Val} {v3:Val} {k:Nat} {rows:List (List (List Nat))} (h64:g.ns.length≤4) (hv:view s v3=some (.lst (rows.map (enK k)))) (hl:(srt g.ns).length * rows.length≤100000) (hr:∀ row∈rows,row.length≤100) :
  Sat (execSs (zg1 prog W d) W [.set 5 (.thaw (.list false [])),
    .for (.name 6) (.of (.var 3))
     [.expr (.meth .extend (.var 5) [(.comp false (.tup [(.var 0),(.bin .add (.ix (.var 1) (.const (.int 1))) (.tup [(.var 2)]))]) (.name 2) (.of (.blt .sorted [(.ix (.var 0) (.const (.int 0)))])) none [2,6] 1)])],
    .set 3 (.var 5)] [some (.p (zj9 g rs)),e1,some (.p (.int k)),some v3,e4,x5,x6] s)
   fun f s2=>∃ y6,f=.next [some (.p (zj9 g rs)),e1,some (.p (.int k)),some (.ref s.length),e4,some (.ref s.length),y6]∧s2=s++[.lst ((zQ4 (srt g.ns) rows).map (enK k))]:=by
 have hso:=zQ1 (ns:=g.ns) (by lia)
 have e10:zi5 3 0=some 0:=rfl
 have e11:zi5 2 1=some 1:=rfl
 generalize srt g.ns=S at hso hl ⊢
 have hw:walkOf v3 (s++[.lst []])=.ok (rows.map (enK k),zw0 v3 (rows.map (enK k))) (s++[.lst []]):=by
  unfold walkOf
  rw [yb3 hv]
  rfl
 have hv':=fun r=>yb3 (r:=r) hv
 apply za4
 simp! []
 apply za4
 simp! [hw]
 refine (yb9 (L3 s (some (.p (zj9 g rs))) e1 e4 v3 k S rows) ?_ _ _ _ ⟨_,[],rows,rfl,rfl,rfl,rfl⟩ ?_).mono ?_
 ·rintro xs env s' ⟨x6,us,vs,rfl,_,_,rfl⟩
  exact yQ9 (hv' _)
 ·rintro x r env s' ⟨x6,us,vs,rfl,hps,hx,rfl⟩
  cases vs with
  | nil=>cases hx
  | cons row vs =>
   rw [List.map_cons] at hx
   cases hx
   have hul:us.length+1≤rows.length:=by
    have:=congrArg List.length hps
    simp at this;lia
   have hm:S.length * (us.length+1)≤100000:=Nat.le_trans (Nat.mul_le_mul_left _ hul) hl
   have hrow:=hr row (by rw [hps];simp)
   have hel:=zE5 S us
   refine ⟨_,rfl,?_⟩
   have hob:∀ l:List PV,zb5 (s++[.lst l]) s.length=some (.lst l):=fun l=>zh2
   have hvw:=fun l=>zi0 (hob l)
   have hla:=fun l=>zl1 (hob l)
   have hset:∀ l l':List PV,List.set (s++[zA5.lst l]) s.length (.lst l')=s++[.lst l']:=fun l l'=>by
    rw [List.set_append_right _ _ (Nat.le_refl _)];simp
   have z1:row.length+1≤SZ:=zj1 (by lia)
   have z2:(zQ4 S us).length+S.length≤SZ:=zj1 (by rw [hel];rw [Nat.mul_succ] at hm;lia)
   apply za4
   simp! [hvw,zj9,e10,bfOp,hso]
   rw [zk5 PV.str (fun n=>enK k (row++[n])) (fun env=>∃ a,env=[some (.p (.int k)),some (.p (enK k row)),a]) _ _ _ ⟨_,rfl⟩ ?g1]
   case g1 =>
    rintro n hn env ⟨a,rfl⟩
    refine ⟨_,rfl,⟨_,rfl⟩,?_⟩
    simp! [enK,zr5,zQ0,z1,e11]
   simp! [hla,zx1,z2,hset]
   dsimp! only
   exact ⟨_,rfl,_,us++[row],vs,rfl,by simp [hps],rfl,by rw [yd2,List.map_append,List.map_map];rfl⟩
 ·rintro _ s' ⟨env2,rfl,x6,us,vs,rfl,hps,hx,rfl⟩
  have hvs:vs=[]:=by
   cases vs with
   | nil=>rfl
   | cons _ _=>cases hx
  subst hvs
  rw [List.append_nil] at hps
  subst hps
  apply za4
  simp! []
  dsimp! only
  exact ⟨⟨_,rfl⟩,trivial⟩
theorem xf8 (n:Nat):(List.range n).map (fun k:Nat=>PV.int k)=(List.range' 0 n).map (fun k:Nat=>PV.int k):=by rw [List.range_eq_range']
theorem zS0 {W D:Nat} {g:Gr} {rs:List Tr} {st:za6} (hg:gG g) (hr:gRs rs) (hD:2≤D) :
  zg1 prog W D zG7 [.p (zj9 g rs)] st=.ok (.p (.lst ((cs (srt g.ns) 0 rs).map zr5))) st:=by
 obtain ⟨d,rfl⟩:∃ d,D=d+2:=⟨D - 2,by lia⟩
 have h4:(srt g.ns).length≤4:=by rw [zY2];exact hg.2.1
 have h4':=hg.2.1
 have e10:zi5 3 2=some 2:=rfl
 have z5:(rs.length:Int)≤SZ:=zC9 (by have:=hr.1;lia)
 have z6:-1000000≤(rs.length:Int):=by lia
 apply zd5
 rw [zc3 (fd:=zw8) rfl rfl,zc1];simp! only [zw8,zw9]
 apply za4
 simp! []
 apply za4
 simp! [zj9,e10,bfOp,z5,z6]
 rw [xf8]
 refine (zk1 (L1 st (some (.p (.tup [.tup (g.ns.map .str),.tup (g.hs.map zA7),.tup (rs.map zk8)]))) (srt g.ns) rs) _ _ _ ⟨_,_,_,_,_,[],rs,[],rfl,rfl,rfl,by simp⟩ ?_).mono ?_
 ·rintro x xr env s ⟨x2,x3,x4,x5,x6,us,vs,q,rfl,hps,hx,rfl⟩
  cases vs with
  | nil=>cases hx
  | cons r vs =>
   rw [List.length_cons,List.range'_succ,List.map_cons] at hx
   cases hx
   have hgr:gR 3 r:=hr.2 r (by rw [hps];simp)
   have hul:us.length+1≤rs.length:=by rw [hps];simp
   have hul5:us.length+1≤5:=Nat.le_trans hul hr.1
   have hmk:=fun st=>zC5 (W:=W) (D:=d+1) (st:=st) hgr (by lia)
   have hcl:=yd8 h4 us 0
   have hcl2:=yU2 h4 (zI9 r)
   have hri:rs[us.length]?=some r:=by rw [hps];simp
   have hix:zi5 rs.length (us.length:Int)=some us.length:=by
    unfold zi5
    rw [if_pos (by lia),if_pos (by lia)]
    simp
   refine ⟨_,rfl,?_⟩
   apply za4
   simp! []
   apply za4
   simp! [e10,hix,hri,hmk]
   refine (zk1 (L2 st (some (.p (.tup [.tup (g.ns.map .str),.tup (g.hs.map zA7),.tup (rs.map zk8)]))) (some (.p (.lst ((cs (srt g.ns) 0 us).map zr5)))) us.length (srt g.ns) (mk r).length) _ _ _ ?_ ?_).mono ?_
   ·exact ⟨_,_,_,_,0,q,rfl,by simp [mk],rfl,rfl⟩
   ·rintro y yr env s ⟨v3,y4,y5,y6,j,q,rfl,hj,rfl,hv⟩
    refine ⟨_,rfl,?_⟩
    have hj6:j+1≤6:=by have:=zI9 r;simp only [List.length_cons] at hj;lia
    refine (yj3 (g:=g) (rs:=rs) h4' hv (by
     have h1:=yU2 h4 (show j+1≤6 by lia)
     rw [zA8,Nat.mul_comm,← Nat.pow_succ];lia) fun row hrow=>by rw [zY7 _ j row hrow];lia).mono ?_
    rintro _ _ ⟨y6,rfl,rfl⟩
    refine ⟨_,rfl,_,_,_,_,j+1,q++[.lst ((zQ4 (srt g.ns) (chs (srt g.ns) j)).map (enK us.length))],rfl,by simp only [List.length_cons] at hj;lia,by rw [List.append_assoc],?_⟩
    exact zi0 (zj6 rfl)
   ·rintro _ s ⟨env2,rfl,v3,y4,y5,y6,j,q,rfl,hj,rfl,hv⟩
    have hj:j=(mk r).length:=by simpa using hj
    subst hj
    have z2:(cs (srt g.ns) 0 us).length+(chs (srt g.ns) (mk r).length).length≤SZ:=zj1 (by
     rw [zA8]
     have:4096 * us.length≤4096 * 4:=Nat.mul_le_mul_left _ (by lia)
     lia)
    apply za4
    simp! [op2,hv,z2]
    dsimp! only
    have hcs:(cs (srt g.ns) 0 (us++[r])).map zr5=(cs (srt g.ns) 0 us).map zr5++(chs (srt g.ns) (mk r).length).map (enK us.length):=by
     rw [ys3,List.map_append]
     congr 1
     simp [cs,yZ4]
     intro _ _
     rfl
    exact ⟨_,rfl,_,_,_,_,_,us++[r],vs,q,by rw [hcs],by simp [hps],by simp,rfl⟩
 ·rintro _ s ⟨env2,rfl,x2,x3,x4,x5,x6,us,vs,q,rfl,hps,hx,rfl⟩
  have hvs:vs=[]:=by
   cases vs with
   | nil=>rfl
   | cons _ _=>cases hx
  subst hvs
  rw [List.append_nil] at hps
  subst hps
  apply za4
  simp! []
theorem zN1 {k k' v:PV} (h:k'≠k):∀ d:List (PV×PV),zt5 k (d.map fun p=>if p.1=k' then (p.1,v) else p)=zt5 k d
 | []=>rfl
 | p::r=>by
  obtain ⟨a,b⟩:=p
  rw [List.map_cons]
  by_cases e:a=k'
  ·subst e
   rw [if_pos rfl,zt5,zt5,if_neg h,if_neg h,zN1 h r]
  ·rw [if_neg e,zt5,zt5,zN1 h r]
theorem zT8 {k k' v:PV} (h:k'≠k):∀ d:List (PV×PV),zt5 k (d++[(k',v)])=zt5 k d
 | []=>by
  show (if k'=k then some v else zt5 k [])=zt5 k []
  rw [if_neg h]
 | (a,b)::r=>by rw [List.cons_append,zt5,zt5,zT8 h r]
theorem yz3 {k k' v:PV} (h:k'≠k) (d:List (PV×PV)):zt5 k (zF4 k' v d)=zt5 k d:=by
 unfold zF4
 split
 ·exact zN1 h d
 ·exact zT8 h d
noncomputable def dZ (ks vs:List PV) (d:List (PV×PV)):List (PV×PV):=(ks.zip vs).foldl (fun d p=>zF4 p.1 p.2 d) d
theorem yp9 {k:PV}:∀ (ks vs:List PV) (d:List (PV×PV)),(∀ x∈ks,x≠k)→zt5 k (dZ ks vs d)=zt5 k d
 | [],vs,d,_=>rfl
 | x::ks,[],d,_=>rfl
 | x::ks,v::vs,d,h=>by
  have ih:=yp9 ks vs (zF4 x v d) fun y hy=>h y (List.mem_cons_of_mem _ hy)
  rw [yz3 (h x (by simp))] at ih
  exact ih
theorem yJ7 {k v:PV} (hv:dep v≤0) {d:List (PV×PV)} (h:∀ p∈d,dep p.2≤0):∀ p∈zF4 k v d,dep p.2≤0:=by
 unfold zF4
 split
 ·intro p hp
  obtain ⟨q,hq,rfl⟩:=List.mem_map.mp hp
  split
  ·exact hv
  ·exact h q hq
 ·intro p hp
  rcases List.mem_append.mp hp with hp | hp
  ·exact h p hp
  ·have:p=(k,v):=by simpa using hp
   subst this;exact hv
theorem yC0:∀ (ks vs:List PV) (d:List (PV×PV)),(∀ v∈vs,dep v≤0)→(∀ p∈d,dep p.2≤0)→∀ p∈dZ ks vs d,dep p.2≤0
 | [],vs,d,_,h=>h
 | x::ks,[],d,_,h=>h
 | x::ks,v::vs,d,hv,h=>yC0 ks vs (zF4 x v d) (fun u hu=>hv u (List.mem_cons_of_mem _ hu)) (yJ7 (hv v (by simp)) h)
theorem yf1 {k:PV}:∀ (d:List (PV×PV)),(∀ p∈d,dep p.2≤0)→∀ v,zt5 k d=some v→dep v≤0
 | [],_,v,e=>by cases e
 | (a,b)::r,h,v,e=>by
  rw [zt5] at e
  split at e
  ·cases e;exact h (a,b) (by simp)
  ·exact yf1 r (fun p hp=>h p (List.mem_cons_of_mem _ hp)) v e
noncomputable def nms (F row:List (List Nat)):List (PV×PV):=dZ (F.map .str) (row.map .str) []
noncomputable def look (d:List (PV×PV)) (w:List Nat):PV:=(zt5 (.str w) d).getD (.str w)
noncomputable def zz1 (d:List (PV×PV)) (t:zg3):PV:=.tup (.str t.h::t.ws.map (look d))
theorem yA1 {F row:List (List Nat)} {w:List Nat}:dep (look (nms F row) w)≤0:=by
 unfold look
 cases e:zt5 (.str w) (nms F row) with
 | none=>simp
 | some v =>
  refine yf1 _ (yC0 _ _ _ (fun v hv=>?_) (fun p hp=>by cases hp)) v e
  obtain ⟨n,_,rfl⟩:=List.mem_map.mp hv
  simp
theorem yn2 {F row:List (List Nat)} {t:zg3}:dep (zz1 (nms F row) t)≤1:=by
 unfold zz1
 rw [ya2]
 have:deps (.str t.h::t.ws.map (look (nms F row)))≤0:=zH9.mpr fun x hx=>by
  rcases List.mem_cons.mp hx with rfl | hx
  ·simp
  ·obtain ⟨w,_,rfl⟩:=List.mem_map.mp hx
   exact yA1
 lia
theorem yl5 {F row:List (List Nat)} {h:List Nat} (hl:low h=true) (hF:∀ w∈F,w∈AF):look (nms F row) h=.str h:=by
 unfold look nms
 rw [yp9]
 ·rfl
 ·intro x hx e
  obtain ⟨w,hw,rfl⟩:=List.mem_map.mp hx
  cases e
  have h1:=zY4.mpr (hF h hw)
  unfold low at hl
  simp [h1] at hl
theorem yX2 {r:Tr}:∀ w∈mk r,w∈AF:=fun w hw=>(List.mem_filter.mp hw).1
theorem yA3 (F:List (List Nat)):(F.map PV.str).all zu5=true:=by
 rw [List.all_map,List.all_eq_true]
 intro x _;rfl
theorem ys1 {F row:List (List Nat)} {st:za6} (hF:F.length≤1000):yL9 (.tup (F.map .str)) (zQ0 row) st=.ok (.ref st.length) (st++[.dct (nms F row)]):=by
 unfold yL9 zQ0
 simp only [zj2,yA3,List.length_map]
 rw [if_pos ⟨trivial,hF⟩]
 rfl
theorem yi5 {W D:Nat} {r:Tr} {c:yD7} {st:za6} (g:gR 3 r) (hD:8≤D):zg1 prog W D zF2 [.p (zk8 r),.p (zr5 c)] st=.ok (.ref st.length) (st++[.dct (nms (mk r) c.2)]):=by
 obtain ⟨d,rfl⟩:∃ d,D=d+1:=⟨D - 1,by lia⟩
 have hmk:=yf2 (W:=W) (D:=d) (st:=st) g (by lia)
 have e11:zi5 2 1=some 1:=rfl
 have hm:=ys1 (F:=mk r) (row:=c.2) (st:=st) (by have:=zI9 r;lia)
 rw [← mk] at hmk
 apply zd5
 rw [zc3 (fd:=zo6) rfl rfl,zc1];simp! only [zo6,zp0]
 apply za4
 simp! [hmk,zr5,e11,hm,yC1,-yL9]
theorem yC8 {d:List (PV×PV)} {n:Nat} {st:za6} (h:zb5 st n=some (.dct d)) (w:List Nat):zS5 (.ref n) (.str w) (.str w) st=.ok (.p (look d w)) st:=by
 unfold zS5
 simp only [h]
 rfl
theorem zK3 {W D n:Nat} {d:List (PV×PV)} {t:zg3} {st:za6} (h:zb5 st n=some (.dct d)) (hl:look d t.h=.str t.h) (hD:1≤D):zg1 prog W D zO9 [.ref n,.p (zk7 t)] st=.ok (.p (zz1 d t)) st:=by
 obtain ⟨D,rfl⟩:∃ d,D=d+1:=⟨D - 1,by lia⟩
 have hg:=yC8 h
 apply zd5
 rw [zc3 (fd:=zr8) rfl rfl,zc1];simp! only [zr8,zt1]
 apply za4
 obtain ⟨L,hL⟩:∃ L,L=t.h::t.ws:=⟨_,rfl⟩
 have e:zk7 t=.tup (L.map PV.str):=by rw [hL];rfl
 rw [e]
 simp! [-zS5]
 rw [zk5 PV.str (look d) (fun env=>∃ a,env=[some (.ref n),a]) _ _ _ ⟨_,rfl⟩ ?g1]
 case g1 =>
  rintro w hw env ⟨a,rfl⟩
  refine ⟨_,rfl,⟨_,rfl⟩,?_⟩
  simp! [-zS5,h,hg]
 rw [hL]
 simp! [bfOp,zz1,hl]
theorem yu4 {W D:Nat} {r:Tr} {c:yD7} {t:zg3} {st:za6} (g:gR 3 r) (gt:gT t) (hD:9≤D):zg1 prog W D zP2 [.p (zk8 r),.p (zr5 c),.p (zk7 t)] st=.ok (.p (zz1 (nms (mk r) c.2) t)) st:=by
 obtain ⟨d,rfl⟩:∃ d,D=d+1:=⟨D - 1,by lia⟩
 have h1:=yi5 (W:=W) (D:=d) (c:=c) (st:=st) g (by lia)
 have h2:=zK3 (W:=W) (D:=d) (t:=t) (st:=st++[.dct (nms (mk r) c.2)]) zh2 (yl5 gt.1 yX2) (by lia)
 apply zd5
 rw [zc3 (fd:=ya4) rfl rfl,zc1];simp! only [ya4,zW7]
 apply za4
 simp! [h1,h2]
theorem zV0 {W D:Nat} {g:Gr} {rs:List Tr} {r:Tr} {c:yD7} {t:zg3} {st:za6} (gr:gR 3 r) (hk:rs[c.1]?=some r) (gt:gT t) (hD:2≤D) :
  zg1 prog W D zt2 [.p (zj9 g rs),.p (zr5 c),.p (zk7 t)] st=.ok (.p (zz1 (nms (mk r) c.2) t)) st:=by
 obtain ⟨d,rfl⟩:∃ d,D=d+1:=⟨D - 1,by lia⟩
 have hmk:=zC5 (W:=W) (D:=d) (st:=st) gr (by lia)
 rw [← mk] at hmk
 have hm:=ys1 (F:=mk r) (row:=c.2) (st:=st) (by have:=zI9 r;lia)
 have e10:zi5 2 0=some 0:=rfl
 have e11:zi5 2 1=some 1:=rfl
 have e32:zi5 3 2=some 2:=rfl
 have hlt:c.1<rs.length:=(List.getElem?_eq_some_iff.mp hk).1
 have hix:zi5 rs.length (c.1:Int)=some c.1:=by
  unfold zi5
  rw [if_pos (by lia),if_pos (by lia)]
  simp
 have hg:=yC8 (d:=nms (mk r) c.2) (n:=st.length) (st:=st++[.dct (nms (mk r) c.2)]) zh2
 have hob:zb5 (st++[.dct (nms (mk r) c.2)]) st.length=some (.dct (nms (mk r) c.2)):=zh2
 generalize nms (mk r) c.2=N at *
 have hc1:cut (PV.str t.h::t.ws.map .str) none (some 1)=[.str t.h]:=by rw [ys0 _ _ (by decide)];rfl
 have hc2:cut (PV.str t.h::t.ws.map .str) (some 1) none=t.ws.map .str:=by rw [ye7 _ _ (by decide)];rfl
 have z:t.ws.length+1≤SZ:=zj1 (by have:=gt.2.1;lia)
 have z':1+t.ws.length≤SZ:=zj1 (by have:=gt.2.1;lia)
 apply zd5
 rw [zc3 (fd:=zx5) rfl rfl,zc1];simp! only [zx5,zw4]
 apply za4
 simp! [zj9,zr5,e10,e11,e32,hix,hk,hmk,hm,-yL9]
 apply za4
 simp! [zk7,sliceOp,hc1,hc2,-zS5]
 rw [zk5 PV.str (look N) (fun env=>∃ a,env=[some (.ref st.length),a]) _ _ _ ⟨_,rfl⟩ ?g1]
 case g1 =>
  rintro w hw env ⟨a,rfl⟩
  refine ⟨_,rfl,⟨_,rfl⟩,?_⟩
  simp! [-zS5,hob,hg]
 simp! [bfOp,zz1,z,z']
structure Stp where
 t:zg3
 h:PV
 b:Bool
noncomputable def yM6 (s:Stp):PV:=.tup [zk7 s.t,s.h,.bl s.b]
def gLf (n:Nat) (x:PV):Prop:=∃ (p:List Stp) (ps:List (zg3×Tm)),x=.tup [.tup (p.map yM6),.tup (ps.map zx9)]∧(∀ s∈p,gT s.t)∧p.length≤n∧ps.length≤3∧∀ q∈ps,gT q.1∧gM q.2
theorem zY0:∀ (r:Tr) (k:Nat) (path:List Stp),gR k r→(∀ s∈path,gT s.t)→∀ x∈lv (path.map yM6) r,gLf (path.length+k) x
 | .put ps,k,path,g,hp,x,hx=>by
  rw [gR] at g
  rw [lv,List.mem_singleton] at hx
  subst hx
  exact ⟨path,ps,rfl,hp,by lia,g.1,g.2⟩
 | .ask t h y n,0,path,g,_,_,_=>g.elim
 | .ask t h y n,k+1,path,g,hp,x,hx=>by
  rw [gR] at g
  have hq:∀ b:Bool,∀ s∈path++[⟨t,h,b⟩],gT s.t:=by
   intro b s hs
   rcases List.mem_append.mp hs with hs | hs
   ·exact hp s hs
   ·have:s=⟨t,h,b⟩:=by simpa using hs
    subst this;exact g.1
  have go:∀ (b:Bool) z,gLf ((path++[(⟨t,h,b⟩:Stp)]).length+k) z→gLf (path.length+(k+1)) z:=by
   rintro b z ⟨p,ps,e,h1,h2,h3⟩
   exact ⟨p,ps,e,h1,by rw [List.length_append] at h2;simp only [List.length_singleton] at h2;lia,h3⟩
  rw [lv,List.mem_append] at hx
  rcases hx with hx | hx
  ·exact go true x (zY0 y k (path++[⟨t,h,true⟩]) g.2.2.1 (hq true) x (by rw [List.map_append];exact hx))
  ·exact go false x (zY0 n k (path++[⟨t,h,false⟩]) g.2.2.2 (hq false) x (by rw [List.map_append];exact hx))
noncomputable def nj:Tm→Bool
 | .just _=>false
 | _=>true
noncomputable def yT3:Tm→zg3
 | .just _=>⟨[],[]⟩
 | .of a=>a
 | .plus a _=>a
 | .two _ a _=>a
def J1 (st:za6) (v0:Val) (xs:List PV) (env:Env) (s:za6):Prop :=
 ∃ (x2 x3:Option Val) (ts:List zg3),env=[some v0,some (.p (.lst (ts.map zk7))),x2,x3]∧(∀ t∈ts,gT t)∧ts.length+10 * xs.length≤100∧(∀ x∈xs,gLf 3 x)∧st=s
theorem zJ4 {W D:Nat} {r:Tr} {st:za6} (g:gR 3 r) (hD:5≤D):∃ ts:List zg3,zg1 prog W D zi7 [.p (zk8 r)] st=.ok (.p (.lst (ts.map zk7))) st∧∀ t∈ts,gT t:=by
 obtain ⟨d,rfl⟩:∃ d,D=d+1:=⟨D - 1,by lia⟩
 have hlv:=zs7 (W:=W) r 3 d [] st g (by lia) (by lia) (by simp)
 have hll:=zT9 r 3 [] g
 have hlg:=zY0 r 3 [] g (by simp)
 rw [List.map_nil] at hlg
 have main:Sat (zg1 prog W (d+1) zi7 [.p (zk8 r)] st) fun v s=>(∃ ts:List zg3,v=.p (.lst (ts.map zk7))∧∀ t∈ts,gT t)∧s=st:=by
  generalize lv [] r=L at hlv hll hlg
  generalize zk8 r=R at hlv ⊢
  have e10:zi5 2 0=some 0:=rfl
  have e11:zi5 2 1=some 1:=rfl
  have e30:zi5 3 0=some 0:=rfl
  rw [zc3 (fd:=zo9) rfl rfl,zc1];simp! only [zo9,zo3]
  apply za4
  simp! []
  apply za4
  simp! [hlv]
  refine (zk1 (J1 st (.p R)) _ _ _ ?_ ?_).mono ?_
  ·exact ⟨_,_,[],rfl,by simp,by simp;lia,hlg,rfl⟩
  ·rintro x xr env s ⟨x2,x3,ts,rfl,hts,hlen,hx,rfl⟩
   obtain ⟨p,ps,rfl,h1,h2,h3,h4⟩:=hx x (by simp)
   simp only [List.length_cons] at hlen
   refine ⟨_,rfl,?_⟩
   have z1:ts.length+p.length≤SZ:=zj1 (by lia)
   have z2:ts.length+p.length+ps.length≤SZ:=zj1 (by lia)
   have hf:=List.length_filter_le (fun q:zg3×Tm=>nj q.2) ps
   have z3:ts.length+p.length+ps.length+(ps.filter fun q=>nj q.2).length≤SZ:=zj1 (by lia)
   have z2':ts.length+(p.length+ps.length)≤SZ:=zj1 (by lia)
   have z3':ts.length+(p.length+ps.length)+(ps.filter fun q=>nj q.2).length≤SZ:=zj1 (by lia)
   have z3'':ts.length+(p.length+(ps.length+(ps.filter fun q=>nj q.2).length))≤SZ:=zj1 (by lia)
   have c1:∀ env,zr2 (zg1 prog W d) (.ix (.var 0) (.const (.int 0))) none (.name 0) none (p.map yM6) [env] st []=.ok ([]++p.map fun s=>zk7 s.t) st:=fun env =>
    zk5 yM6 (fun s=>zk7 s.t) (fun env=>∃ a,env=[a]) p _ [] ⟨_,rfl⟩ (by
     rintro s hs env ⟨a,rfl⟩
     refine ⟨_,rfl,⟨_,rfl⟩,?_⟩
     simp! [yM6,e30])
   have c2:∀ env,zr2 (zg1 prog W d) (.ix (.var 0) (.const (.int 0))) none (.name 0) none (ps.map zx9) [env] st []=.ok ([]++ps.map fun q=>zk7 q.1) st:=fun env =>
    zk5 zx9 (fun q=>zk7 q.1) (fun env=>∃ a,env=[a]) ps _ [] ⟨_,rfl⟩ (by
     rintro s hs env ⟨a,rfl⟩
     refine ⟨_,rfl,⟨_,rfl⟩,?_⟩
     simp! [zx9,e10])
   have c3:∀ env,zr2 (zg1 prog W d) (.ix (.ix (.var 0) (.const (.int 1))) (.const (.int 1))) (some (.cmp .ne (.ix (.ix (.var 0) (.const (.int 1))) (.const (.int 0))) (.const (.str [106,117,115,116])))) (.name 0) none (ps.map zx9) [env] st []=.ok ([]++(ps.filter fun q=>nj q.2).map fun q=>zk7 (yT3 q.2)) st:=fun env =>
    zh9 zx9 (fun q=>nj q.2) (fun q=>zk7 (yT3 q.2)) (fun env=>∃ a,env=[a]) ps _ [] ⟨_,rfl⟩ (by
     rintro ⟨t,m⟩ hs env ⟨a,rfl⟩
     refine ⟨_,rfl,⟨_,rfl⟩,?_,?_⟩
     ·cases m with
      | two s a c=>cases s <;> rfl
      | _=>rfl
     ·intro hn
      cases m with
      | just h=>cases hn
      | two s a c=>cases s <;> rfl
      | _=>rfl)
   rw [List.nil_append] at c1 c2 c3
   apply za4
   simp! [c1,c2,z1,z2,z2']
   apply za4
   simp! [c3,z3,z3',z3'']
   dsimp! only
   have he:(ts++(p.map (·.t)++(ps.map (·.1)++(ps.filter fun q=>nj q.2).map fun q=>yT3 q.2))).map zk7=ts.map zk7++((p.map fun s=>zk7 s.t)++((ps.map fun q=>zk7 q.1)++(ps.filter fun q=>nj q.2).map fun q=>zk7 (yT3 q.2))):=by
    rw [List.map_append,List.map_append,List.map_append,List.map_map,List.map_map,List.map_map]
    rfl
   refine ⟨_,rfl,some (.p (.tup (p.map yM6))),some (.p (.tup (ps.map zx9))),ts++(p.map (·.t)++(ps.map (·.1)++(ps.filter fun q=>nj q.2).map fun q=>yT3 q.2)),by rw [he],?_,?_,fun y hy=>hx y (List.mem_cons_of_mem _ hy),rfl⟩
   ·intro t ht
    rw [List.mem_append,List.mem_append,List.mem_append] at ht
    rcases ht with ht | ht | ht | ht
    ·exact hts t ht
    ·obtain ⟨s,hs,rfl⟩:=List.mem_map.mp ht
     exact h1 s hs
    ·obtain ⟨q,hq,rfl⟩:=List.mem_map.mp ht
     exact (h4 q hq).1
    ·obtain ⟨q,hq,rfl⟩:=List.mem_map.mp ht
     obtain ⟨hq1,hq2⟩:=List.mem_filter.mp hq
     obtain ⟨t,m⟩:=q
     have gm:=(h4 _ hq1).2
     cases m with
     | just h=>cases hq2
     | of a=>exact gm
     | plus a k=>exact gm.1
     | two s a c=>exact gm.1
   ·simp only [List.length_append,List.length_map]
    lia
  ·rintro _ s ⟨env2,rfl,x2,x3,ts,rfl,hts,hlen,hx,rfl⟩
   apply za4
   simp! []
   exact ⟨ts,rfl,hts⟩
 obtain ⟨v,s,h,⟨ts,rfl,hts⟩,rfl⟩:=zw6.mp main
 exact ⟨ts,h,hts⟩
theorem yG5 {W d:Nat} {ns:List Int} {st:za6} (h63:ns.length≤63):zg1 prog W (d+1) zK4 [.p (.lst (ns.map .int))] st=.ok (.ref st.length) (st++[zC1 ns 0 0]):=by
 have hc:cut (ns.map PV.int) none (some 63)=ns.map .int:=by
  rw [ys0 _ _ (by decide),List.take_of_length_le (by simpa using h63)]
 apply zd5
 rw [zc3 (fd:=zq7) rfl rfl,zc1];simp! only [zq7,zq1]
 apply za4
 simp! [sliceOp,hc,yC1,zC1]
theorem yD9 {S:List (List Nat)} {c:yD7}:∀ (rs:List Tr) (k:Nat),c∈cs S k rs→∃ i,c.1=k+i∧∃ r,rs[i]?=some r
 | [],k,h=>by cases h
 | r::rs,k,h=>by
  rw [cs,List.mem_append] at h
  rcases h with h | h
  ·obtain ⟨row,_,rfl⟩:=List.mem_map.mp h
   exact ⟨0,rfl,r,rfl⟩
  ·obtain ⟨i,e,r',h'⟩:=yD9 rs (k+1) h
   exact ⟨i+1,by lia,r',h'⟩
theorem yu8 (c:yD7):dep (zr5 c)≤2:=by
 have:deps (c.2.map PV.str)≤0:=zH9.mpr fun x hx=>by
  obtain ⟨n,_,rfl⟩:=List.mem_map.mp hx
  simp
 simp [zr5,zQ0]
 lia
theorem yQ1 {xs:List PV} {st:za6} (h:dep (.lst xs)≤3):op2 (zq4 .ne) (.p (.lst xs)) (.p (.lst [])) st=.ok (.p (.bl (!xs.isEmpty))) st:=by
 have hd:=dk (b:=.lst []) h
 rw [yv0]
 simp only [zq4,hd,if_true]
 cases xs with
 | nil=>rfl
 | cons x r=>rw [pyEq];rfl
def K3 (es:Env) (s0:za6) (xs:List PV) (env:Env) (s:za6):Prop :=
 ∃ x10,env=es++[x10]∧s0=s∧∀ x∈xs,∃ t,x=zk7 t∧gT t
theorem yg5 {W d:Nat} {g:Gr} {rs:List Tr} {r:Tr} {c:yD7} {s:za6} {e0 e1 e2 e3 e5 e6 e7 x10:Option Val} (gr:gR 3 r) (hk:rs[c.1]?=some r) :
    Sat (execSs (zg1 prog W (d+9)) W [.for (.name 10) (.of (.slice (.call zi7 [(.var 9)]) none (some (.const (.int 6)))))
          [.ite (.not (.call zj0 [(.call zP2 [(.var 9),(.var 8),(.var 10)]),(.call zt2 [(.var 4),(.var 8),(.var 10)])]))
             [.ret (.const (.bl false))]
             []]] [e0,e1,e2,e3,some (.p (zj9 g rs)),e5,e6,e7,some (.p (zr5 c)),some (.p (zk8 r)),x10] s)
      fun f s2=>∃ y,f=.next [e0,e1,e2,e3,some (.p (zj9 g rs)),e5,e6,e7,some (.p (zr5 c)),some (.p (zk8 r)),y]∧s2=s:=by
  obtain ⟨ts,h1,h2⟩:=zJ4 (W:=W) (D:=d+9) (st:=s) gr (by lia)
  have hc:cut (ts.map zk7) none (some 6)=(ts.take 6).map zk7:=by
    rw [ys0 _ _ (by decide),← List.map_take];rfl
  apply za4
  simp! [h1,sliceOp,hc]
  refine (zk1 (K3 [e0,e1,e2,e3,some (.p (zj9 g rs)),e5,e6,e7,some (.p (zr5 c)),some (.p (zk8 r))] s) _ _ _ ?_ ?_).mono ?_
  · refine ⟨_,rfl,rfl,fun x hx=>?_⟩
    obtain ⟨t,ht,rfl⟩:=List.mem_map.mp (List.mem_of_mem_take hx)
    exact ⟨t,rfl,h2 t ht⟩
  · rintro x xr env s' ⟨x10,rfl,rfl,hx⟩
    obtain ⟨t,rfl,gt⟩:=hx x (by simp)
    have e1:=yu4 (W:=W) (D:=d+9) (c:=c) (st:=s) gr gt (by lia)
    have e2:=zV0 (W:=W) (D:=d+9) (g:=g) (st:=s) gr hk gt (by lia)
    have e3:=yp8 (W:=W) 1 (d+9) (zz1 (nms (mk r) c.2) t) s yn2 (by lia)
    generalize zz1 (nms (mk r) c.2) t=N at e1 e2 e3
    refine ⟨_,rfl,?_⟩
    apply za4
    simp! [e1,e2,e3]
    dsimp! only
    exact ⟨_,rfl,_,rfl,rfl,fun y hy=>hx y (List.mem_cons_of_mem _ hy)⟩
  · rintro _ s' ⟨env2,rfl,x10,rfl,rfl,_⟩
    dsimp! only
    exact ⟨⟨_,rfl⟩,trivial⟩
def K2 (w n:Nat) (T:Int) (e0 e2 e3 e4 e5:Option Val) (l:List PV) (xs:List PV) (env:Env) (s:za6):Prop :=
 ∃ x7 x8 x9 x10,env=[e0,some (.ref w),e2,e3,e4,e5,some (.ref n),x7,x8,x9,x10]∧Well s w (T+6 - xs.length)∧xs.length≤6∧zb5 s n=some (.lst l)
theorem yP8 {n:Nat} {q:Int} (h0:0≤q) (h1:q<n):zi5 n q=some q.toNat:=by
 unfold zi5
 rw [if_pos h0,if_pos h1]
theorem zR5 {W d w n m:Nat} {T:Int} {g:Gr} {rs:List Tr} {D:List yD7} {s:za6} {e0 e2 e3 x7 x8 x9 x10:Option Val} (hr:gRs rs) (hmem:∀ c,c∈D→∃ i,c.1=0+i∧∃ r,rs[i]?=some r) (hcl:D.length≤20480)
    (hm:m≤6) (hm0:D=[]→m=0) (hw:Well s w T) (hT:T+6≤100000) (hob:zb5 s n=some (.lst (D.map zr5))) (hnw:n≠w) :
    Sat (yA6 (zg1 prog W (d+9)) W [.set 8 (.ix (.var 5) (.call zl9 [(.var 1),(.blt .len [(.var 5)])])),
        .set 9 (.ix (.ix (.var 4) (.const (.int 2))) (.ix (.var 8) (.const (.int 0)))),
        .for (.name 10) (.of (.slice (.call zi7 [(.var 9)]) none (some (.const (.int 6)))))
          [.ite (.not (.call zj0 [(.call zP2 [(.var 9),(.var 8),(.var 10)]),(.call zt2 [(.var 4),(.var 8),(.var 10)])]))
             [.ret (.const (.bl false))]
             []]] (.name 7) none ((List.range m).map fun k:Nat=>PV.int k) [e0,some (.ref w),e2,e3,some (.p (zj9 g rs)),some (.p (.lst (D.map zr5))),some (.ref n),x7,x8,x9,x10] s)
      fun f s2=>∃ env2,f=.next env2∧K2 w n T e0 e2 e3 (some (.p (zj9 g rs))) (some (.p (.lst (D.map zr5)))) (D.map zr5) [] env2 s2:=by
  by_cases hD:D=[]
  · have:=hm0 hD
    subst this
    rw [List.range_zero,List.map_nil,yb6]
    exact ⟨_,rfl,_,_,_,_,rfl,hw.mono (by simp;lia),by simp,hob⟩
  · have hpos:0<D.length:=List.length_pos_iff.mpr hD
    have i0:zi5 2 0=some 0:=rfl
    have i32:zi5 3 2=some 2:=rfl
    refine zk1 (K2 w n T e0 e2 e3 (some (.p (zj9 g rs))) (some (.p (.lst (D.map zr5)))) (D.map zr5)) _ _ _ ⟨_,_,_,_,rfl,hw.mono (by simp;lia),by simpa using hm,hob⟩ ?_
    rintro x xr env s ⟨y7,y8,y9,y10,rfl,hw,hlen,hob⟩
    simp only [List.length_cons] at hlen hw
    refine ⟨_,rfl,?_⟩
    apply za4
    simp! [bfOp]
    refine Sat.k1 (zm7 hw (by lia) (by lia) (by lia)) fun q s2 q0 q1 hq=>?_
    obtain ⟨⟨o,rfl⟩,hw2⟩:=hq
    have hql:q.toNat<D.length:=by lia
    have hix:=yP8 q0 q1
    have hcc:D[q.toNat]?=some D[q.toNat]:=List.getElem?_eq_getElem hql
    obtain ⟨i,hi,r,hr'⟩:=hmem _ (List.getElem_mem hql)
    generalize D[q.toNat]=c at hcc hi
    have hrc:rs[c.1]?=some r:=by rw [hi,Nat.zero_add];exact hr'
    have hgr:gR 3 r:=hr.2 r (List.mem_of_getElem? hrc)
    have hlt:c.1<rs.length:=(List.getElem?_eq_some_iff.mp hrc).1
    have hixc:zi5 rs.length (c.1:Int)=some c.1:=by
      unfold zi5
      rw [if_pos (by lia),if_pos (by lia)]
      simp
    simp! [hix,hcc]
    apply za4
    simp! [zj9,zr5,i0,i32,hixc,hrc]
    dsimp! only
    rw [show PV.tup [PV.tup (List.map PV.str g.ns),PV.tup (List.map zA7 g.hs),PV.tup (List.map zk8 rs)]=zj9 g rs from rfl,show PV.tup [PV.int c.1,zQ0 c.2]=zr5 c from rfl]
    refine (yg5 hgr hrc).mono ?_
    rintro _ _ ⟨y,rfl,rfl⟩
    refine ⟨_,rfl,_,_,_,_,rfl,hw2.mono (by lia),by lia,?_⟩
    rw [zp6 hnw];exact hob
theorem yx5 {W d w:Nat} {T:Int} {g:Gr} {rs:List Tr} {s:za6} {e0 e2 e3 x5 x6 x7 x8 x9 x10:Option Val} (hg:gG g) (hr:gRs rs) (hw:Well s w T) (hT:T+6≤100000) :
    Sat (execSs (zg1 prog W (d+9)) W [.set 5 (.call zG7 [(.var 4)]),
     .set 6 (.call zL3 [(.var 4)]),
     .ite (.not (.call zj0 [(.var 6),(.var 5)]))
       [.ret (.const (.bl false))]
       [],
     .for (.name 7) (.range (.bin .mul (.const (.int 6)) (.blt .toInt [(.cmp .ne (.var 5) (.list false []))])))
       [.set 8 (.ix (.var 5) (.call zl9 [(.var 1),(.blt .len [(.var 5)])])),
        .set 9 (.ix (.ix (.var 4) (.const (.int 2))) (.ix (.var 8) (.const (.int 0)))),
        .for (.name 10) (.of (.slice (.call zi7 [(.var 9)]) none (some (.const (.int 6)))))
          [.ite (.not (.call zj0 [(.call zP2 [(.var 9),(.var 8),(.var 10)]),(.call zt2 [(.var 4),(.var 8),(.var 10)])]))
             [.ret (.const (.bl false))]
             []]],
     .expr (.meth .append (.var 6) [(.tup [(.const (.int 0)),(.tup [(.const (.str [120]))])])])] [e0,some (.ref w),e2,e3,some (.p (zj9 g rs)),x5,x6,x7,x8,x9,x10] s)
      fun f s2=>∃ y5 y6 y7 y8 y9 y10,f=.next [e0,some (.ref w),e2,e3,some (.p (zj9 g rs)),y5,y6,y7,y8,y9,y10]∧Well s2 w (T+6):=by
  have h1:=fun st=>zS0 (W:=W) (D:=d+9) (st:=st) hg hr (by lia)
  have h2:=yl1 (W:=W) (D:=d+9) (st:=s) hg hr (by lia)
  have hcl:=yd8 (S:=srt g.ns) (by rw [zY2];exact hg.2.1) rs 0
  have hmem:=fun c=>yD9 (S:=srt g.ns) (c:=c) rs 0
  have hr1:=hr.1
  generalize cs (srt g.ns) 0 rs=D at h1 h2 hcl hmem
  have hcl:D.length≤20480:=by
    have:4096 * rs.length≤4096 * 5:=Nat.mul_le_mul_left _ hr1
    lia
  have hdd:∀ x∈D.map zr5,dep x≤2:=fun x hx=>by
    obtain ⟨c,_,rfl⟩:=List.mem_map.mp hx
    exact yu8 c
  have hd3:dep (.lst (D.map zr5))≤3:=by
    rw [zX4]
    have:=zH9.mpr hdd
    lia
  have hne:=fun st=>yQ1 (xs:=D.map zr5) (st:=st) hd3
  have hwl:=hw.lt
  have i0:zi5 2 0=some 0:=rfl
  have i32:zi5 3 2=some 2:=rfl
  apply za4
  simp! [h1]
  apply za4
  simp! []
  refine h2.mono ?_
  rintro _ _ ⟨rfl,rfl⟩
  dsimp! only
  have hob:zb5 (s++[.lst (D.map zr5)]) s.length=some (.lst (D.map zr5)):=zh2
  have hvw:=zi0 hob
  have e1:=zP6 (W:=W) (d:=d+8) hvw (.inl rfl) fun x hx=>yp8 2 _ x _ (hdd x hx) (by lia)
  apply za4
  simp! [e1]
  dsimp! only
  have hw2:Well (s++[.lst (D.map zr5)]) w T:=hw.app
  have hnw:s.length≠w:=Nat.ne_of_gt hwl
  generalize s++[zA5.lst (D.map zr5)]=s1 at hob hw2
  generalize s.length=n at hob hnw ⊢
  clear hvw e1 h2 hw hwl
  have z6:(6:Int)≤SZ:=zC9 (by lia)
  have z0:(0:Int)≤SZ:=zC9 (by lia)
  have s6:zj3 6=true:=by decide
  have fin:∀ (f:Flow) (s2:za6),(∃ env2,f=.next env2∧K2 w n T e0 e2 e3 (some (.p (zj9 g rs))) (some (.p (.lst (D.map zr5)))) (D.map zr5) [] env2 s2) →
      Sat (zX8 (zg1 prog W (d+9)) W [.expr (.meth .append (.var 6) [(.tup [(.const (.int 0)),(.tup [(.const (.str [120]))])])])] f s2)
        fun f s2=>(∃ y5 y6 y7 y8 y9 y10,f=.next [e0,some (.ref w),e2,e3,some (.p (zj9 g rs)),y5,y6,y7,y8,y9,y10])∧Well s2 w (T+6):=by
    rintro _ s2 ⟨env2,rfl,y7,y8,y9,y10,rfl,hw3,_,hob3⟩
    have hvw:=zi0 hob3
    have hla:=zl1 hob3
    have zz:D.length<SZ:=yn3 (by lia)
    apply za4
    simp! [hvw,hla,zt9,zz]
    dsimp! only
    refine ⟨⟨_,_,_,_,_,_,rfl⟩,?_⟩
    obtain ⟨c,l,t,a,b⟩:=hw3
    exact ⟨c,l,t,by rw [zp6 hnw.symm];exact a,by simpa using b⟩
  apply za4
  simp! [-yv0]
  rw [hne]
  cases hE:(D.map zr5).isEmpty with
  | true =>
    simp! [bfOp,z0,s6]
    refine (zR5 (m:=0) hr hmem hcl (by lia) (fun _=>rfl) hw2 hT hob hnw).mono fin
  | false =>
    simp! [bfOp,z6,s6]
    refine (zR5 (m:=6) hr hmem hcl (by lia) (fun h=>?_) hw2 hT hob hnw).mono fin
    subst h
    cases hE
def K1 (ns:List Int) (w:Nat) (p q:PV) (xs:List PV) (env:Env) (s:za6):Prop :=
 ∃ x3 x4 x5 x6 x7 x8 x9 x10,env=[some (.p (.lst (ns.map .int))),some (.ref w),some (.p (.lst [p,q])),x3,x4,x5,x6,x7,x8,x9,x10]∧Well s w (18000+6 * (4 - xs.length))∧xs.length≤4∧∀ x∈xs,∃ k:Nat,x=.int k
theorem yW3 (W d:Nat) (ns:List Int) (h63:ns.length≤63):∃ st,zg1 prog W (d+10) yU1 [.p (.lst (ns.map .int))] []=.ok (.p (.bl true)) st:=by
 have main:Sat (zg1 prog W (d+10) yU1 [.p (.lst (ns.map .int))] []) fun v _=>v=.p (.bl true):=by
  have i4:(4:Int)≤SZ:=zC9 (by lia)
  rw [zc3 (fd:=yG8) rfl rfl,zc1];simp! only [yG8,yE9]
  apply za4
  simp! [yG5 h63]
  dsimp! only
  have hw0:Well [zC1 ns 0 0] 0 0:=⟨ns,0,0,rfl,by lia,by lia,by lia⟩
  generalize [zC1 ns 0 0]=s0 at hw0
  generalize (0:Nat)=w at hw0 ⊢
  apply za4
  simp! []
  refine (zH2 (by lia) (by lia) (by lia) hw0 (by lia)).mono ?_
  rintro _ s1 ⟨⟨g1,rs1,rfl,hg1,hr1⟩,hd1⟩
  simp! []
  refine (zH2 (by lia) (by lia) (by lia) hd1.2 (by lia)).mono ?_
  rintro _ s2 ⟨⟨g2,rs2,rfl,hg2,hr2⟩,hd2⟩
  have hw2:=hd2.2
  clear hd1 hd2 hw0
  simp! []
  apply za4
  simp! [i4]
  refine (zk1 (K1 ns w (zj9 g1 rs1) (zj9 g2 rs2)) _ _ _ ⟨_,_,_,_,_,_,_,_,rfl,hw2.mono (by simp),by simp,?_⟩ ?_).mono ?_
  ·intro x hx
   obtain ⟨k,_,rfl⟩:=List.mem_map.mp hx
   exact ⟨k,rfl⟩
  ·rintro x xr env s ⟨x3,x4,x5,x6,x7,x8,x9,x10,rfl,hw,hlen,hx⟩
   obtain ⟨k,rfl⟩:=hx x (by simp)
   simp only [List.length_cons] at hlen hw
   obtain ⟨g,rs,hP,hg,hr⟩:∃ g rs,([zj9 g1 rs1,zj9 g2 rs2])[k % 2]?=some (zj9 g rs)∧gG g∧gRs rs:=by
    obtain h | h:k % 2=0∨k % 2=1:=by lia
    ·exact ⟨g1,rs1,by rw [h];rfl,hg1,hr1⟩
    ·exact ⟨g2,rs2,by rw [h];rfl,hg2,hr2⟩
   have hix:zi5 2 ((k:Int) % 2)=some (k % 2):=by
    unfold zi5
    rw [if_pos (by lia),if_pos (by lia)]
    congr 1
   generalize hL:[zj9 g1 rs1,zj9 g2 rs2]=L at *
   have hLl:L.length=2:=by rw [← hL];rfl
   refine ⟨_,rfl,?_⟩
   apply za4
   simp! [hLl,hix,hP]
   dsimp! only
   refine (yx5 hg hr hw (by lia)).mono ?_
   rintro _ s3 ⟨y5,y6,y7,y8,y9,y10,rfl,hw3⟩
   exact ⟨_,rfl,_,_,_,_,_,_,_,_,by rw [← hL],hw3.mono (by lia),by lia,fun y hy=>hx y (List.mem_cons_of_mem _ hy)⟩
  ·rintro _ s ⟨env2,rfl,x3,x4,x5,x6,x7,x8,x9,x10,rfl,_,_⟩
   apply za4
   simp! []
 obtain ⟨v,st,h,rfl⟩:=zw6.mp main
 exact ⟨st,h⟩
open PySem L2 OR PySem.SeqAt PyProof.Rows
noncomputable def top (i:Nat):Stmt:=PySem.Challenge.pw_onlyrise_k21_cases.main.body.getD i (.Pass ⟨0,0,0,0⟩)
noncomputable abbrev zf8:Stmt:=top 2
noncomputable abbrev ze6:Stmt:=top 4
noncomputable abbrev ze0:Stmt:=top 6
noncomputable abbrev zf0:Stmt:=top 7
noncomputable abbrev zf5:Stmt:=top 8
noncomputable abbrev zf6:Stmt:=top 9
noncomputable abbrev zn3:Stmt:=top 10
noncomputable abbrev zc2:Stmt:=top 11
noncomputable abbrev zc7:Stmt:=top 12
noncomputable abbrev zc5:Stmt:=top 14
noncomputable abbrev zg8:Stmt:=top 15
noncomputable abbrev zg6:Stmt:=top 16
noncomputable abbrev zc6:Stmt:=top 17
noncomputable abbrev zd8:Stmt:=top 18
noncomputable abbrev zi9:Stmt:=top 19
noncomputable abbrev zd2:Stmt:=top 20
noncomputable abbrev zf4:Stmt:=top 21
noncomputable abbrev zg4:Stmt:=top 22
noncomputable abbrev ze1:Stmt:=top 23
noncomputable abbrev zg5:Stmt:=top 24
noncomputable abbrev zd1:Stmt:=top 25
noncomputable abbrev zd9:Stmt:=top 26
noncomputable abbrev ze3:Stmt:=top 27
noncomputable abbrev ze4:Stmt:=top 28
noncomputable abbrev ze5:Stmt:=top 29
noncomputable abbrev zf3:Stmt:=top 30
noncomputable abbrev zb6:Stmt:=top 31
noncomputable abbrev zw3:Stmt:=top 32
theorem yi4:zc8 ["thing"] ["thing"] (za2 zf8):=⟨rfl,rfl,rfl,by decide +kernel,rfl,by decide +kernel,by decide +kernel⟩
theorem zv2:zc8 ["rows", "words", "found", "row"] ["rows", "words"] (za2 ze6):=⟨rfl,rfl,rfl,by decide +kernel,rfl,by decide +kernel,by decide +kernel⟩
theorem zP0:zc8 ["term"] ["term"] (za2 ze0):=⟨rfl,rfl,rfl,by decide +kernel,rfl,by decide +kernel,by decide +kernel⟩
theorem zp5:zc8 ["tree", "found", "thing", "term"] ["tree"] (za2 zf0):=⟨rfl,rfl,rfl,by decide +kernel,rfl,by decide +kernel,by decide +kernel⟩
theorem zw7:zc8 ["rule", "marks", "thing"] ["rule"] (za2 zf5):=⟨rfl,rfl,rfl,by decide +kernel,rfl,by decide +kernel,by decide +kernel⟩
theorem zi6:zc8 ["program", "names", "found", "number", "rule", "choices", "mark"] ["program"] (za2 zf6):=⟨rfl,rfl,rfl,by decide +kernel,rfl,by decide +kernel,by decide +kernel⟩
theorem yv2:zc8 ["rule", "case", "thing"] ["rule", "case", "thing"] (za2 zn3):=⟨rfl,rfl,rfl,by decide +kernel,rfl,by decide +kernel,by decide +kernel⟩
theorem zD5:zc8 ["rule", "case"] ["rule", "case"] (za2 zc2):=⟨rfl,rfl,rfl,by decide +kernel,rfl,by decide +kernel,by decide +kernel⟩
theorem zJ6:zc8 ["names", "thing"] ["names", "thing"] (za2 zc7):=⟨rfl,rfl,rfl,by decide +kernel,rfl,by decide +kernel,by decide +kernel⟩
theorem zI4:zc8 ["_law_script"] ["_law_script"] (za2 zc5):=⟨rfl,rfl,rfl,by decide +kernel,rfl,by decide +kernel,by decide +kernel⟩
theorem zm0:zc8 ["_law_tape", "_law_many", "_law_found", "_law_spot", "_law_cell", "_law_seed"] ["_law_tape", "_law_many"] (za2 zg8):=⟨rfl,rfl,rfl,by decide +kernel,rfl,by decide +kernel,by decide +kernel⟩
theorem zk4:zc8 ["_law_web", "_law_sets", "_law_some"] [] (za2 zg6):=⟨rfl,rfl,rfl,by decide +kernel,rfl,by decide +kernel,by decide +kernel⟩
theorem zJ5:zc8 ["_law_order"] ["_law_order"] (za2 zc6):=⟨rfl,rfl,rfl,by decide +kernel,rfl,by decide +kernel,by decide +kernel⟩
theorem ze7:zc8 ["_law_tape", "_law_most", "_law_pool", "_law_at", "_law_names", "_law_called", "_law_heads", "_law_order", "_law_k"] ["_law_tape", "_law_most"] (za2 zd8):=⟨rfl,rfl,rfl,by decide +kernel,rfl,by decide +kernel,by decide +kernel⟩
theorem yp3:zc8 ["_law_ground_here", "_law_thing"] ["_law_ground_here", "_law_thing"] (za2 zi9):=⟨rfl,rfl,rfl,by decide +kernel,rfl,by decide +kernel,by decide +kernel⟩
theorem zt0:zc8 ["_law_tape", "_law_ground_here", "_law_heads", "_law_marks_here", "_law_head", "_law_words"] ["_law_tape", "_law_ground_here", "_law_heads", "_law_marks_here"] (za2 zd2):=⟨rfl,rfl,rfl,by decide +kernel,rfl,by decide +kernel,by decide +kernel⟩
theorem zm1:zc8 ["_law_tape", "_law_ground_here", "_law_thing", "_law_marks_here", "_law_order", "_law_alike", "_law_one", "_law_way", "_law_some"] ["_law_tape", "_law_ground_here", "_law_thing", "_law_marks_here"] (za2 zf4):=⟨rfl,rfl,rfl,by decide +kernel,rfl,by decide +kernel,by decide +kernel⟩
theorem zs9:zc8 ["_law_tape", "_law_ground_here", "_law_marks_here", "_law_many", "_law_found", "_law_k", "_law_thing"] ["_law_tape", "_law_ground_here", "_law_marks_here", "_law_many"] (za2 zg4):=⟨rfl,rfl,rfl,by decide +kernel,rfl,by decide +kernel,by decide +kernel⟩
theorem zt3:zc8 ["_law_tape", "_law_ground_here", "_law_marks_here", "_law_yes", "_law_no", "_law_thing", "_law_some"] ["_law_tape", "_law_ground_here", "_law_marks_here", "_law_yes", "_law_no"] (za2 ze1):=⟨rfl,rfl,rfl,by decide +kernel,rfl,by decide +kernel,by decide +kernel⟩
theorem zH6:zc8 ["_law_tape", "_law_ground_here", "_law_deep", "_law_marks_here", "_law_yes"] ["_law_tape", "_law_ground_here", "_law_deep", "_law_marks_here"] (za2 zg5):=⟨rfl,rfl,rfl,by decide +kernel,rfl,by decide +kernel,by decide +kernel⟩
theorem zj7:zc8 ["_law_tape", "_law_most", "_law_names", "_law_ground_here", "_law_rules", "_law_k", "_law_marks_here"] ["_law_tape", "_law_most", "_law_names"] (za2 zd1):=⟨rfl,rfl,rfl,by decide +kernel,rfl,by decide +kernel,by decide +kernel⟩
theorem zA0:zc8 ["_law_tree_here", "_law_path", "_law_ahead"] ["_law_tree_here", "_law_path"] (za2 zd9):=⟨rfl,rfl,rfl,by decide +kernel,rfl,by decide +kernel,by decide +kernel⟩
theorem zD1:zc8 ["_law_tree_here", "_law_text"] ["_law_tree_here"] (za2 ze3):=⟨rfl,rfl,rfl,by decide +kernel,rfl,by decide +kernel,by decide +kernel⟩
theorem zh1:zc8 ["_law_program_here", "_law_found", "_law_k", "_law_rows", "_law_mark", "_law_longer", "_law_row"] ["_law_program_here"] (za2 ze4):=⟨rfl,rfl,rfl,by decide +kernel,rfl,by decide +kernel,by decide +kernel⟩
theorem zC4:zc8 ["_law_program_here", "_law_case", "_law_thing", "_law_words"] ["_law_program_here", "_law_case", "_law_thing"] (za2 ze5):=⟨rfl,rfl,rfl,by decide +kernel,rfl,by decide +kernel,by decide +kernel⟩
theorem zZ2:zc8 ["_law_found", "_law_due"] ["_law_found", "_law_due"] (za2 zf3):=⟨rfl,rfl,rfl,by decide +kernel,rfl,by decide +kernel,by decide +kernel⟩
theorem zg7:zc8 ["_law_rule", "_law_found", "_law_path", "_law_puts_here"] ["_law_rule"] (za2 zb6):=⟨rfl,rfl,rfl,by decide +kernel,rfl,by decide +kernel,by decide +kernel⟩
theorem zu1:zc8 ["_law_script", "_law_tape", "_law_programs", "_law_turn", "_law_program_here", "_law_due", "_law_found", "_law_k", "_law_case", "_law_rule", "_law_thing"] ["_law_script"] (za2 zw3):=⟨rfl,rfl,rfl,by decide +kernel,rfl,by decide +kernel,by decide +kernel⟩
theorem nd0:(["row", "word"]:List Str).Nodup:=by decide +kernel
theorem nd1:(["word"]:List Str).Nodup:=by decide +kernel
theorem nd2:(["number", "words"]:List Str).Nodup:=by decide +kernel
theorem nd3:(["names", "word"]:List Str).Nodup:=by decide +kernel
theorem nd4:(["_law_order", "_law_one", "_law_heights_here"]:List Str).Nodup:=by decide +kernel
theorem nd5:(["_law_thing", "_law_head", "_law_many", "_law_order"]:List Str).Nodup:=by decide +kernel
theorem nd6:(["_law_tape", "_law_words", "_law_k"]:List Str).Nodup:=by decide +kernel
theorem nd7:(["_law_order", "_law_head"]:List Str).Nodup:=by decide +kernel
theorem nd8:(["_law_text", "_law_mark"]:List Str).Nodup:=by decide +kernel
theorem nd9:(["_law_k", "_law_row", "_law_name"]:List Str).Nodup:=by decide +kernel
theorem nd10:(["_law_words", "_law_word"]:List Str).Nodup:=by decide +kernel
theorem nd11:(["_law_one", "_law_other"]:List Str).Nodup:=by decide +kernel
theorem nd12:(["_law_put"]:List Str).Nodup:=by decide +kernel
theorem nd13:(["_law_step"]:List Str).Nodup:=by decide +kernel
theorem nd14:(["_law_put"]:List Str).Nodup:=by decide +kernel
theorem yV7:bootBuiltins "all" = some (.builtin "all"):=by decide +kernel
theorem ym7:bootBuiltins "bool" = some (.type "bool"):=by decide +kernel
theorem zT5:bootBuiltins "enumerate" = some (.type "enumerate"):=by decide +kernel
theorem yW4:bootBuiltins "int" = some (.type "int"):=by decide +kernel
theorem zg9:bootBuiltins "isinstance" = some (.builtin "isinstance"):=by decide +kernel
theorem zu6:bootBuiltins "len" = some (.builtin "len"):=by decide +kernel
theorem zO8:bootBuiltins "list" = some (.type "list"):=by decide +kernel
theorem yF9:bootBuiltins "repr" = some (.builtin "repr"):=by decide +kernel
theorem zR3:bootBuiltins "sorted" = some (.builtin "sorted"):=by decide +kernel
theorem zj8:bootBuiltins "tuple" = some (.type "tuple"):=by decide +kernel
theorem yM7:bootBuiltins "zip" = some (.type "zip"):=by decide +kernel
structure Md (K:Frag) (mg:Str→Option Value) (f:Nat→Addr) (fd:Nat→FuncData):Prop where
 m0:mg "is_mark" = some (.ref (f 0))
 F0:Fun K "is_mark" "is_mark" zf8 (f 0) (fd 0)
 b0:Binds K (fd 0) ["thing"] []
 m1:mg "with_each" = some (.ref (f 1))
 F1:Fun K "with_each" "with_each" ze6 (f 1) (fd 1)
 b1:Binds K (fd 1) ["rows", "words"] []
 m2:mg "sources_of" = some (.ref (f 2))
 F2:Fun K "sources_of" "sources_of" ze0 (f 2) (fd 2)
 b2:Binds K (fd 2) ["term"] []
 m3:mg "things_in" = some (.ref (f 3))
 F3:Fun K "things_in" "things_in" zf0 (f 3) (fd 3)
 b3:Binds K (fd 3) ["tree"] []
 m4:mg "marks_of" = some (.ref (f 4))
 F4:Fun K "marks_of" "marks_of" zf5 (f 4) (fd 4)
 b4:Binds K (fd 4) ["rule"] []
 m5:mg "cases_of" = some (.ref (f 5))
 F5:Fun K "cases_of" "cases_of" zf6 (f 5) (fd 5)
 b5:Binds K (fd 5) ["program"] []
 m6:mg "named" = some (.ref (f 6))
 F6:Fun K "named" "named" zn3 (f 6) (fd 6)
 b6:Binds K (fd 6) ["rule", "case", "thing"] []
 m7:mg "names_by_mark" = some (.ref (f 7))
 F7:Fun K "names_by_mark" "names_by_mark" zc2 (f 7) (fd 7)
 b7:Binds K (fd 7) ["rule", "case"] []
 m8:mg "named_thing" = some (.ref (f 8))
 F8:Fun K "named_thing" "named_thing" zc7 (f 8) (fd 8)
 b8:Binds K (fd 8) ["names", "thing"] []
 m9:mg "_law_new_tape" = some (.ref (f 9))
 F9:Fun K "_law_new_tape" "_law_new_tape" zc5 (f 9) (fd 9)
 b9:Binds K (fd 9) ["_law_script"] []
 m10:mg "_law_draw" = some (.ref (f 10))
 F10:Fun K "_law_draw" "_law_draw" zg8 (f 10) (fd 10)
 b10:Binds K (fd 10) ["_law_tape", "_law_many"] []
 m11:mg "_law_menu" = some (.ref (f 11))
 F11:Fun K "_law_menu" "_law_menu" zg6 (f 11) (fd 11)
 b11:Binds K (fd 11) [] []
 m12:mg "_law_heights" = some (.ref (f 12))
 F12:Fun K "_law_heights" "_law_heights" zc6 (f 12) (fd 12)
 b12:Binds K (fd 12) ["_law_order"] []
 m13:mg "_law_ground" = some (.ref (f 13))
 F13:Fun K "_law_ground" "_law_ground" zd8 (f 13) (fd 13)
 b13:Binds K (fd 13) ["_law_tape", "_law_most"] []
 m14:mg "_law_of" = some (.ref (f 14))
 F14:Fun K "_law_of" "_law_of" zi9 (f 14) (fd 14)
 b14:Binds K (fd 14) ["_law_ground_here", "_law_thing"] []
 m15:mg "_law_spoken" = some (.ref (f 15))
 F15:Fun K "_law_spoken" "_law_spoken" zd2 (f 15) (fd 15)
 b15:Binds K (fd 15) ["_law_tape", "_law_ground_here", "_law_heads", "_law_marks_here"] []
 m16:mg "_law_term" = some (.ref (f 16))
 F16:Fun K "_law_term" "_law_term" zf4 (f 16) (fd 16)
 b16:Binds K (fd 16) ["_law_tape", "_law_ground_here", "_law_thing", "_law_marks_here"] []
 m17:mg "_law_puts" = some (.ref (f 17))
 F17:Fun K "_law_puts" "_law_puts" zg4 (f 17) (fd 17)
 b17:Binds K (fd 17) ["_law_tape", "_law_ground_here", "_law_marks_here", "_law_many"] []
 m18:mg "_law_asking" = some (.ref (f 18))
 F18:Fun K "_law_asking" "_law_asking" ze1 (f 18) (fd 18)
 b18:Binds K (fd 18) ["_law_tape", "_law_ground_here", "_law_marks_here", "_law_yes", "_law_no"] []
 m19:mg "_law_tree" = some (.ref (f 19))
 F19:Fun K "_law_tree" "_law_tree" zg5 (f 19) (fd 19)
 b19:Binds K (fd 19) ["_law_tape", "_law_ground_here", "_law_deep", "_law_marks_here"] []
 m20:mg "_law_program" = some (.ref (f 20))
 F20:Fun K "_law_program" "_law_program" zd1 (f 20) (fd 20)
 b20:Binds K (fd 20) ["_law_tape", "_law_most", "_law_names"] []
 m21:mg "_law_leaves" = some (.ref (f 21))
 F21:Fun K "_law_leaves" "_law_leaves" zd9 (f 21) (fd 21)
 b21:Binds K (fd 21) ["_law_tree_here", "_law_path"] []
 m22:mg "_law_marks" = some (.ref (f 22))
 F22:Fun K "_law_marks" "_law_marks" ze3 (f 22) (fd 22)
 b22:Binds K (fd 22) ["_law_tree_here"] []
 m23:mg "_law_cases" = some (.ref (f 23))
 F23:Fun K "_law_cases" "_law_cases" ze4 (f 23) (fd 23)
 b23:Binds K (fd 23) ["_law_program_here"] []
 m24:mg "_law_named" = some (.ref (f 24))
 F24:Fun K "_law_named" "_law_named" ze5 (f 24) (fd 24)
 b24:Binds K (fd 24) ["_law_program_here", "_law_case", "_law_thing"] []
 m25:mg "_law_same" = some (.ref (f 25))
 F25:Fun K "_law_same" "_law_same" zf3 (f 25) (fd 25)
 b25:Binds K (fd 25) ["_law_found", "_law_due"] []
 m26:mg "_law_things_in" = some (.ref (f 26))
 F26:Fun K "_law_things_in" "_law_things_in" zb6 (f 26) (fd 26)
 b26:Binds K (fd 26) ["_law_rule"] []
 m27:mg "law" = some (.ref (f 27))
 F27:Fun K "law" "law" zw3 (f 27) (fd 27)
 b27:Binds K (fd 27) ["_law_script"] []
 z_all:mg "all" = none
 z_bool:mg "bool" = none
 z_dict:mg "dict" = none
 z_enumerate:mg "enumerate" = none
 z_int:mg "int" = none
 z_isinstance:mg "isinstance" = none
 z_len:mg "len" = none
 z_list:mg "list" = none
 z_range:mg "range" = none
 z_repr:mg "repr" = none
 z_set:mg "set" = none
 z_sorted:mg "sorted" = none
 z_tuple:mg "tuple" = none
 z_zip:mg "zip" = none
 c_MARKS:∀ {X:Cx} {C:zb9} {pos:Pos},X.K=K→X.mg=mg→Gl X "MARKS" → JE X C (.Name "MARKS" pos) (.const (.tup [(.str [65]),(.str [66]),(.str [67]),(.str [68]),(.str [69]),(.str [70])]))
structure Ih (P:Program) (w:World) (K:Frag) (mg:Str→Option Value) (base:Heap) (f:Nat→Addr) (fd:Nat→FuncData) (W d:Nat):Prop where
 h0:zp8 P w K mg base CX0 d (f 0) (fd 0) ["thing"] (spF K prog W d 0 1)
 h1:zp8 P w K mg base CX0 d (f 1) (fd 1) ["rows", "words"] (spF K prog W d 1 2)
 h2:zp8 P w K mg base CX0 d (f 2) (fd 2) ["term"] (spF K prog W d 2 1)
 h3:zp8 P w K mg base CX0 d (f 3) (fd 3) ["tree"] (spF K prog W d 3 1)
 h4:zp8 P w K mg base CX0 d (f 4) (fd 4) ["rule"] (spF K prog W d 4 1)
 h5:zp8 P w K mg base CX0 d (f 5) (fd 5) ["program"] (spF K prog W d 5 1)
 h6:zp8 P w K mg base CX0 d (f 6) (fd 6) ["rule", "case", "thing"] (spF K prog W d 6 3)
 h7:zp8 P w K mg base CX0 d (f 7) (fd 7) ["rule", "case"] (spF K prog W d 7 2)
 h8:zp8 P w K mg base CX0 d (f 8) (fd 8) ["names", "thing"] (spF K prog W d 8 2)
 h9:zp8 P w K mg base CX0 d (f 9) (fd 9) ["_law_script"] (spF K prog W d 9 1)
 h10:zp8 P w K mg base CX0 d (f 10) (fd 10) ["_law_tape", "_law_many"] (spF K prog W d 10 2)
 h11:zp8 P w K mg base CX0 d (f 11) (fd 11) [] (spF K prog W d 11 0)
 h12:zp8 P w K mg base CX0 d (f 12) (fd 12) ["_law_order"] (spF K prog W d 12 1)
 h13:zp8 P w K mg base CX0 d (f 13) (fd 13) ["_law_tape", "_law_most"] (spF K prog W d 13 2)
 h14:zp8 P w K mg base CX0 d (f 14) (fd 14) ["_law_ground_here", "_law_thing"] (spF K prog W d 14 2)
 h15:zp8 P w K mg base CX0 d (f 15) (fd 15) ["_law_tape", "_law_ground_here", "_law_heads", "_law_marks_here"] (spF K prog W d 15 4)
 h16:zp8 P w K mg base CX0 d (f 16) (fd 16) ["_law_tape", "_law_ground_here", "_law_thing", "_law_marks_here"] (spF K prog W d 16 4)
 h17:zp8 P w K mg base CX0 d (f 17) (fd 17) ["_law_tape", "_law_ground_here", "_law_marks_here", "_law_many"] (spF K prog W d 17 4)
 h18:zp8 P w K mg base CX0 d (f 18) (fd 18) ["_law_tape", "_law_ground_here", "_law_marks_here", "_law_yes", "_law_no"] (spF K prog W d 18 5)
 h19:zp8 P w K mg base CX0 d (f 19) (fd 19) ["_law_tape", "_law_ground_here", "_law_deep", "_law_marks_here"] (spF K prog W d 19 4)
 h20:zp8 P w K mg base CX0 d (f 20) (fd 20) ["_law_tape", "_law_most", "_law_names"] (spF K prog W d 20 3)
 h21:zp8 P w K mg base CX0 d (f 21) (fd 21) ["_law_tree_here", "_law_path"] (spF K prog W d 21 2)
 h22:zp8 P w K mg base CX0 d (f 22) (fd 22) ["_law_tree_here"] (spF K prog W d 22 1)
 h23:zp8 P w K mg base CX0 d (f 23) (fd 23) ["_law_program_here"] (spF K prog W d 23 1)
 h24:zp8 P w K mg base CX0 d (f 24) (fd 24) ["_law_program_here", "_law_case", "_law_thing"] (spF K prog W d 24 3)
 h25:zp8 P w K mg base CX0 d (f 25) (fd 25) ["_law_found", "_law_due"] (spF K prog W d 25 2)
 h26:zp8 P w K mg base CX0 d (f 26) (fd 26) ["_law_rule"] (spF K prog W d 26 1)
 h27:zp8 P w K mg base CX0 d (f 27) (fd 27) ["_law_script"] (spF K prog W d 27 1)
section
variable {P:Program} {w:World} {K:Frag} {mg:Str→Option Value} {base:Heap} {f:Nat→Addr} {fd:Nat→FuncData} {W d:Nat} {cdv:Value} {A:Around} {outer:List PySem.Env} {s:Shared} {H:Hp} {E:XK}
theorem ym2 (M:Md K mg f fd) (ih:Ih P w K mg base f fd W d) (hr:zn4 d (A.deeper (envOfC "is_mark" (za2 zf8) s.heap.objs.size (f 0) cdv))) :
  JSs (zt6 CX0 P w K mg base ["thing"] "is_mark" (za2 zf8) (f 0) cdv A outer s H E).nox (zg1 prog W d) W (za8 zf8) zG5 :=
 have hu1:=zl6 hr
 have hu2:=zl5 hr
 have hgd:=hr.gd
 (za3 (zc0 (zI3 (yM2 hu2) (jsv 0) (M.c_MARKS rfl rfl rfl) (by with_unfolding_all rfl) fun _ _=>zg2))
  zb0)
theorem zZ4 (M:Md K mg f fd) (ih:Ih P w K mg base f fd W d) (hr:zn4 d (A.deeper (envOfC "with_each" (za2 ze6) s.heap.objs.size (f 1) cdv))) :
    JSs (zt6 CX0 P w K mg base ["rows", "words", "found", "row"] "with_each" (za2 ze6) (f 1) cdv A outer s H E).nox (zg1 prog W d) W (za8 ze6) zx6 :=
  have hu1:=zl6 hr
  have hu2:=zl5 hr
  have hgd:=hr.gd
  (za3 (zb3 (i:=2) zv2.nd rfl (by trivial) (zn6 (zs2 za1 (by decide) rfl)))
    (za3 (zk3 PassesOwn.never rfl (zh3 (jsv 0)) (zd4 (i:=3) zv2.nd rfl (by trivial))
     (za3 (zm4 (zE6 PySem.F.slot_list_extend PySem.F.type_list_extend zy6 (jsv 2) (za0 (zi3 (N:=["row", "word"]) rfl (zg0 (up:=za2 ze6) (XN:=["rows", "words", "found", "row"]) rfl rfl (by decide +kernel)) (zh3 (jsv 1)) (fun _ _ _ _ _=>zd4 (i:=1) nd0 rfl (by trivial)) (fun _ _ _ _ _=>zM8) (fun _ _ _ _ _=>(zb7 zi8 (jsv 0) (za9 (za0 (jsv 1) za1)) fun _ _=>zb8))) za1) zz7))
     zb0))
    (za3 (zc0 (zM2 (jsv 2)))
    zb0)))
theorem zT1 (M:Md K mg f fd) (ih:Ih P w K mg base f fd W d) (hr:zn4 d (A.deeper (envOfC "sources_of" (za2 ze0) s.heap.objs.size (f 2) cdv))) :
    JSs (zt6 CX0 P w K mg base ["term"] "sources_of" (za2 ze0) (f 2) cdv A outer s H E).nox (zg1 prog W d) W (za8 ze0) zu0 :=
  have hu1:=zl6 hr
  have hu2:=zl5 hr
  have hgd:=hr.gd
  (za3 (zn2 (ze9 (yf6 hu2) (zb4 hu1 (jsv 0) za5 (fun _ _=>rfl)) (za7 (cs:=[106,117,115,116])) (zi4 _) fun _ _=>zg2)
     (za3 (zc0 (za9 za1))
     zb0)
     zb0)
    (za3 (zn2 (ze9 (yM2 hu2) (zb4 hu1 (jsv 0) za5 (fun _ _=>rfl)) (za9 (za0 (za7 (cs:=[115,117,109])) (za0 (za7 (cs:=[109,101,101,116])) za1))) (by with_unfolding_all rfl) fun _ _=>zg2)
     (za3 (zc0 (za9 (za0 (zb4 hu1 (jsv 0) za5 (fun _ _=>rfl)) (za0 (zb4 hu1 (jsv 0) za5 (fun _ _=>rfl)) za1))))
     zb0)
     zb0)
    (za3 (zc0 (za9 (za0 (zb4 hu1 (jsv 0) za5 (fun _ _=>rfl)) za1)))
    zb0)))
theorem zW3 (M:Md K mg f fd) (ih:Ih P w K mg base f fd W d) (hr:zn4 d (A.deeper (envOfC "things_in" (za2 zf0) s.heap.objs.size (f 3) cdv))) :
    JSs (zt6 CX0 P w K mg base ["tree", "found", "thing", "term"] "things_in" (za2 zf0) (f 3) cdv A outer s H E).nox (zg1 prog W d) W (za8 zf0) zr6 :=
  have hu1:=zl6 hr
  have hu2:=zl5 hr
  have hgd:=hr.gd
  (za3 (zn2 (ze9 (yf6 hu2) (zb4 hu1 (jsv 0) za5 (fun _ _=>rfl)) (za7 (cs:=[97,115,107])) (zi4 _) fun _ _=>zg2)
     (za3 (zc0 (zb7 zi8 (zb7 zi8 (zc9 (za0 (zb4 hu1 (jsv 0) za5 (fun _ _=>rfl)) za1)) (zb1 (ps:=["tree"]) ih.h3 hr rfl M.m3 M.F3.kp M.b3 (za0 (zb4 hu1 (jsv 0) za5 (fun _ _=>rfl)) za1) rfl) fun _ _=>zb8) (zb1 (ps:=["tree"]) ih.h3 hr rfl M.m3 M.F3.kp M.b3 (za0 (zb4 hu1 (jsv 0) za5 (fun _ _=>rfl)) za1) rfl) fun _ _=>zb8))
     zb0)
     zb0)
    (za3 (zb3 (i:=1) zp5.nd rfl (by trivial) (zn6 (zs2 za1 (by decide) rfl)))
    (za3 (zk3 PassesOwn.never rfl (zh3 (zb4 hu1 (jsv 0) za5 (fun _ _=>rfl))) (zC2 rfl (zh7 (i:=2) zp5.nd rfl (by trivial) (zh7 (i:=3) zp5.nd rfl (by trivial) zv5)))
     (za3 (zm4 (zE7 PySem.F.slot_list_append PySem.F.type_list_append zz9 (jsv 1) (za0 (jsv 2) za1) zz2))
     (za3 (zm4 (zE6 PySem.F.slot_list_extend PySem.F.type_list_extend zy6 (jsv 1) (za0 (zb1 (ps:=["term"]) ih.h2 hr rfl M.m2 M.F2.kp M.b2 (za0 (jsv 3) za1) rfl) za1) zz7))
     zb0)))
    (za3 (zc0 (zM2 (jsv 1)))
    zb0))))
theorem yj6 (M:Md K mg f fd) (ih:Ih P w K mg base f fd W d) (hr:zn4 d (A.deeper (envOfC "marks_of" (za2 zf5) s.heap.objs.size (f 4) cdv))) :
    JSs (zt6 CX0 P w K mg base ["rule", "marks", "thing"] "marks_of" (za2 zf5) (f 4) cdv A outer s H E).nox (zg1 prog W d) W (za8 zf5) zB0 :=
  have hu1:=zl6 hr
  have hu2:=zl5 hr
  have hgd:=hr.gd
  (za3 (zb3 (i:=1) zw7.nd rfl (by trivial) (zn6 (zs2 za1 (by decide) rfl)))
    (za3 (zk3 PassesOwn.never rfl (zh3 (zb1 (ps:=["tree"]) ih.h3 hr rfl M.m3 M.F3.kp M.b3 (za0 (jsv 0) za1) rfl)) (zd4 (i:=2) zw7.nd rfl (by trivial))
     (za3 (zm4 (zE6 PySem.F.slot_list_extend PySem.F.type_list_extend zy6 (jsv 1) (za0 (zi3 (N:=["word"]) rfl (zg0 (up:=za2 zf5) (XN:=["rule", "marks", "thing"]) rfl rfl (by decide +kernel)) (zh3 (zn0 (jsv 2) (zl0 za5) zy5)) (fun _ _ _ _ _=>zd4 (i:=0) nd1 rfl (by trivial)) (fun _ _ _ _ _=>(yh5 (zF3 (zb1 (ps:=["thing"]) ih.h0 hr rfl M.m0 M.F0.kp M.b0 (za0 (jsv 0) za1) rfl)))) (fun _ _ _ _ _=>(jsv 0))) za1) zz7))
     zb0))
    (za3 (zc0 (zh6 zs4 (fun _ _=>zh5) rfl M.z_tuple zj8 (za0 (zY3 rfl (fun _ _=>zh5) rfl M.z_sorted rfl M.z_set (za0 (jsv 1) za1)) za1)))
    zb0)))
theorem yg1 (M:Md K mg f fd) (ih:Ih P w K mg base f fd W d) (hr:zn4 d (A.deeper (envOfC "cases_of" (za2 zf6) s.heap.objs.size (f 5) cdv))) :
    JSs (zt6 CX0 P w K mg base ["program", "names", "found", "number", "rule", "choices", "mark"] "cases_of" (za2 zf6) (f 5) cdv A outer s H E).nox (zg1 prog W d) W (za8 zf6) zB3 :=
  have hu1:=zl6 hr
  have hu2:=zl5 hr
  have hgd:=hr.gd
  (za3 (zb3 (i:=1) zi6.nd rfl (by trivial) (zf7 ye9 (fun _ _=>zh5) rfl M.z_sorted zR3 (za0 (zb4 hu1 (jsv 0) za5 (fun _ _=>rfl)) za1)))
    (za3 (zb3 (i:=2) zi6.nd rfl (by trivial) (zn6 (zs2 za1 (by decide) rfl)))
    (za3 (zk3 PassesOwn.never rfl (yv6 rfl M.z_enumerate zT5 (za0 (zb4 hu1 (jsv 0) za5 (fun _ _=>rfl)) za1)) (zC2 rfl (zh7 (i:=3) zi6.nd rfl (by trivial) (zh7 (i:=4) zi6.nd rfl (by trivial) zv5)))
     (za3 (zb3 (i:=5) zi6.nd rfl (by trivial) (zc9 (za0 (za9 za1) za1)))
     (za3 (zk3 PassesOwn.never rfl (zh3 (zb1 (ps:=["rule"]) ih.h4 hr rfl M.m4 M.F4.kp M.b4 (za0 (jsv 4) za1) rfl)) (zd4 (i:=6) zi6.nd rfl (by trivial))
      (za3 (zb3 (i:=5) zi6.nd rfl (by trivial) (zb1 (ps:=["rows", "words"]) ih.h1 hr rfl M.m1 M.F1.kp M.b1 (za0 (jsv 5) (za0 (jsv 1) za1)) rfl))
      zb0))
     (za3 (zm4 (zE6 PySem.F.slot_list_extend PySem.F.type_list_extend zy6 (jsv 2) (za0 (zi3 (N:=["number", "words"]) rfl (zg0 (up:=za2 zf6) (XN:=["program", "names", "found", "number", "rule", "choices", "mark"]) rfl rfl (by decide +kernel)) (zh3 (jsv 5)) (fun _ _ _ _ _=>zd4 (i:=1) nd2 rfl (by trivial)) (fun _ _ _ _ _=>zM8) (fun _ _ _ _ _=>(za9 (za0 (jsv 0) (za0 (jsv 1) za1))))) za1) zz7))
     zb0))))
    (za3 (zc0 (jsv 2))
    zb0))))
theorem yJ5 (M:Md K mg f fd) (ih:Ih P w K mg base f fd W d) (hr:zn4 d (A.deeper (envOfC "named" (za2 zn3) s.heap.objs.size (f 6) cdv))) :
  JSs (zt6 CX0 P w K mg base ["rule", "case", "thing"] "named" (za2 zn3) (f 6) cdv A outer s H E).nox (zg1 prog W d) W (za8 zn3) zW7 :=
 have hu1:=zl6 hr
 have hu2:=zl5 hr
 have hgd:=hr.gd
 (za3 (zc0 (zb1 (ps:=["names", "thing"]) ih.h8 hr rfl M.m8 M.F8.kp M.b8 (za0 (zb1 (ps:=["rule", "case"]) ih.h7 hr rfl M.m7 M.F7.kp M.b7 (za0 (jsv 0) (za0 (jsv 1) za1)) rfl) (za0 (jsv 2) za1)) rfl))
  zb0)
theorem zG6 (M:Md K mg f fd) (ih:Ih P w K mg base f fd W d) (hr:zn4 d (A.deeper (envOfC "names_by_mark" (za2 zc2) s.heap.objs.size (f 7) cdv))) :
  JSs (zt6 CX0 P w K mg base ["rule", "case"] "names_by_mark" (za2 zc2) (f 7) cdv A outer s H E).nox (zg1 prog W d) W (za8 zc2) zp0 :=
 have hu1:=zl6 hr
 have hu2:=zl5 hr
 have hgd:=hr.gd
 (za3 (zc0 (zR7 rfl rfl M.z_dict rfl M.z_zip (za0 (zb1 (ps:=["rule"]) ih.h4 hr rfl M.m4 M.F4.kp M.b4 (za0 (jsv 0) za1) rfl) (za0 (zb4 hu1 (jsv 1) za5 (fun _ _=>rfl)) za1))))
  zb0)
theorem zP9 (M:Md K mg f fd) (ih:Ih P w K mg base f fd W d) (hr:zn4 d (A.deeper (envOfC "named_thing" (za2 zc7) s.heap.objs.size (f 8) cdv))) :
  JSs (zt6 CX0 P w K mg base ["names", "thing"] "named_thing" (za2 zc7) (f 8) cdv A outer s H E).nox (zg1 prog W d) W (za8 zc7) zt1 :=
 have hu1:=zl6 hr
 have hu2:=zl5 hr
 have hgd:=hr.gd
 (za3 (zc0 (zh6 zs4 (fun _ _=>zh5) rfl M.z_tuple zj8 (za0 (zi3 (N:=["names", "word"]) rfl (zg0 (up:=za2 zc7) (XN:=["names", "thing"]) rfl rfl (by decide +kernel)) (zh3 (jsv 1)) (fun _ _ _ _ _=>zd4 (i:=1) nd3 rfl (by trivial)) (fun _ _ _ _ _=>zM8) (fun _ _ _ _ _=>(yc9 hu1 (jsv 0) (jsv 1) (jsv 1) ⟨rfl,rfl,rfl,rfl⟩))) za1)))
  zb0)
theorem zK0 (M:Md K mg f fd) (ih:Ih P w K mg base f fd W d) (hr:zn4 d (A.deeper (envOfC "_law_new_tape" (za2 zc5) s.heap.objs.size (f 9) cdv))) :
  JSs (zt6 CX0 P w K mg base ["_law_script"] "_law_new_tape" (za2 zc5) (f 9) cdv A outer s H E).nox (zg1 prog W d) W (za8 zc5) zq1 :=
 have hu1:=zl6 hr
 have hu2:=zl5 hr
 have hgd:=hr.gd
 (za3 (zc0 (zn6 (zs2 (za0 (zn0 (jsv 0) zy5 (zl0 za5)) (za0 za5 (za0 za5 za1))) (by decide) rfl)))
  zb0)
theorem yh3 (M:Md K mg f fd) (ih:Ih P w K mg base f fd W d) (hr:zn4 d (A.deeper (envOfC "_law_draw" (za2 zg8) s.heap.objs.size (f 10) cdv))) :
    JSs (zt6 CX0 P w K mg base ["_law_tape", "_law_many", "_law_found", "_law_spot", "_law_cell", "_law_seed"] "_law_draw" (za2 zg8) (f 10) cdv A outer s H E).nox (zg1 prog W d) W (za8 zg8) zm2 :=
  have hu1:=zl6 hr
  have hu2:=zl5 hr
  have hgd:=hr.gd
  (za3 (zn2 (ze9 o_gt (zb4 hu1 (jsv 0) za5 (fun _ _=>rfl)) za5 (zi4 _) fun _ _=>zg2)
     (za3 (zb3 (i:=2) zm0.nd rfl (by trivial) (zb7 zK2 (zb4 hu1 (jsv 0) za5 (fun _ _=>rfl)) (jsv 1) fun _ _=>zb8))
     (za3 (zG2 hu1 (jsv 0) za5 (zb7 yD8 (zb4 hu1 (jsv 0) za5 (fun _ _=>rfl)) (jsv 1) fun _ _=>zb8))
     (za3 (zc0 (jsv 2))
     zb0)))
     zb0)
    (za3 (zb3 (i:=3) zm0.nd rfl (by trivial) (zb4 hu1 (jsv 0) za5 (fun _ _=>rfl)))
    (za3 (zG2 hu1 (jsv 0) za5 (zb7 zi8 (jsv 3) za5 fun _ _=>zb8))
    (za3 (zb3 (i:=4) zm0.nd rfl (by trivial) za5)
    (za3 (zn2 (ze9 o_gt (zf7 zI2 (fun _ _=>zh5) rfl M.z_len zu6 (za0 (zb4 hu1 (jsv 0) za5 (fun _ _=>rfl)) za1)) za5 (zi4 _) fun _ _=>zg2)
     (za3 (zb3 (i:=4) zm0.nd rfl (by trivial) (zb4 hu1 (zb4 hu1 (jsv 0) za5 (fun _ _=>rfl)) (zb7 zK2 (jsv 3) (zf7 zI2 (fun _ _=>zh5) rfl M.z_len zu6 (za0 (zb4 hu1 (jsv 0) za5 (fun _ _=>rfl)) za1)) fun _ _=>zb8) (fun _ _=>rfl)))
     zb0)
     zb0)
    (za3 (zn2 (zH8 (zN2 (ze9 o_ge (jsv 4) (zb7 yE3 za5 za5 fun _ _=>zb8) (zi4 _) fun _ _=>zg2) (zD6 (ze9 xa3 (jsv 3) (zf7 zI2 (fun _ _=>zh5) rfl M.z_len zu6 (za0 (zb4 hu1 (jsv 0) za5 (fun _ _=>rfl)) za1)) (zi4 _) fun _ _=>zg2))))
     (za3 (zG2 hu1 (jsv 0) za5 (zb7 yD8 (jsv 4) (jsv 1) fun _ _=>zb8))
     (za3 (zc0 (zb7 zK2 (jsv 4) (jsv 1) fun _ _=>zb8))
     zb0))
     zb0)
    (za3 (zb3 (i:=5) zm0.nd rfl (by trivial) (zb7 zK2 (zb7 zY8 (zb7 zi8 (zb7 zi8 (zb7 zK2 (jsv 4) za5 fun _ _=>zb8) (zb7 zY8 (zb7 zY8 za5 (jsv 3) fun _ _=>zb8) (jsv 3) fun _ _=>zb8) fun _ _=>zb8) za5 fun _ _=>zb8) za5 fun _ _=>zb8) za5 fun _ _=>zb8))
    (za3 (zc0 (zb7 zK2 (zb7 zK2 (zb7 zY8 (zb7 zK2 (zb7 zi8 (zb7 zY8 (jsv 5) za5 fun _ _=>zb8) (zb7 zY8 (jsv 3) za5 fun _ _=>zb8) fun _ _=>zb8) za5 fun _ _=>zb8) za5 fun _ _=>zb8) za5 fun _ _=>zb8) (jsv 1) fun _ _=>zb8))
    zb0))))))))
theorem yh1 (M:Md K mg f fd) (ih:Ih P w K mg base f fd W d) (hr:zn4 d (A.deeper (envOfC "_law_menu" (za2 zg6) s.heap.objs.size (f 11) cdv))) :
  JSs (zt6 CX0 P w K mg base ["_law_web", "_law_sets", "_law_some"] "_law_menu" (za2 zg6) (f 11) cdv A outer s H E).nox (zg1 prog W d) W (za8 zg6) zC0 :=
 have hu1:=zl6 hr
 have hu2:=zl5 hr
 have hgd:=hr.gd
 (za3 (zb3 (i:=0) zk4.nd rfl (by trivial) (za9 (za0 (za7 (cs:=[119,101,98])) (za0 (za9 (za0 (za7 (cs:=[99])) (za0 (za7 (cs:=[98])) (za0 (za7 (cs:=[97])) (za0 (za7 (cs:=[97,98])) za1))))) (za0 (za9 (za0 (za9 (za0 (za7 (cs:=[98])) (za0 (za7 (cs:=[99])) za1))) (za0 (za9 (za0 (za7 (cs:=[98])) (za0 (za7 (cs:=[97])) za1))) (za0 (za9 (za0 (za7 (cs:=[99])) (za0 (za7 (cs:=[97,98])) za1))) (za0 (za9 (za0 (za7 (cs:=[97])) (za0 (za7 (cs:=[97,98])) za1))) za1))))) za1)))))
  (za3 (zb3 (i:=1) zk4.nd rfl (by trivial) (za9 (za0 (za7 (cs:=[115,101,116])) (za0 (za9 (za0 (za7 (cs:=[98])) (za0 (za7 (cs:=[97])) (za0 (za7 (cs:=[99])) za1)))) za1))))
  (za3 (zb3 (i:=2) zk4.nd rfl (by trivial) (zc9 (za0 (za9 (za0 (za9 (za0 (za7 (cs:=[110,117,109])) za1)) (za0 (zc9 (za0 za5 (za0 za5 (za0 za5 (za0 za5 (za0 za5 (za0 (zb7 yE3 za5 za5 fun _ _=>zb8) za1))))))) za1))) (za0 (za9 (za0 (za9 (za0 (za7 (cs:=[108,111,119])) za1)) (za0 (zc9 (za0 zW9 (za0 (zb7 yE3 za5 za5 fun _ _=>zb8) (za0 za5 (za0 za5 (za0 za5 (za0 za5 za1))))))) za1))) za1))))
  (za3 (zb3 (i:=2) zk4.nd rfl (by trivial) (zb7 zi8 (jsv 2) (zc9 (za0 (za9 (za0 (za9 (za0 (za7 (cs:=[99,104,97,105,110])) (za0 (za9 (za0 (za7 (cs:=[98])) (za0 (za7 (cs:=[97])) (za0 (za7 (cs:=[97,98])) za1)))) za1))) (za0 (zc9 (za0 (za7 (cs:=[98])) (za0 (za7 (cs:=[97])) (za0 (za7 (cs:=[97,98])) za1)))) za1))) (za0 (za9 (za0 (jsv 0) (za0 (zc9 (za0 (za7 (cs:=[98])) (za0 (za7 (cs:=[99])) (za0 (za7 (cs:=[97])) (za0 (za7 (cs:=[97,98])) za1))))) za1))) za1))) fun _ _=>zb8))
  (za3 (zb3 (i:=2) zk4.nd rfl (by trivial) (zb7 zi8 (jsv 2) (zc9 (za0 (za9 (za0 (jsv 1) (za0 (zc9 (za0 (za9 za1) (za0 (za9 (za0 (za7 (cs:=[98])) za1)) (za0 (za9 (za0 (za7 (cs:=[97])) (za0 (za7 (cs:=[99])) za1))) (za0 (za9 (za0 (za7 (cs:=[98])) (za0 (za7 (cs:=[99])) za1))) (za0 (za9 (za0 (za7 (cs:=[97])) za1)) (za0 (za9 (za0 (za7 (cs:=[98])) (za0 (za7 (cs:=[97])) (za0 (za7 (cs:=[99])) za1)))) za1))))))) za1))) za1)) fun _ _=>zb8))
  (za3 (zb3 (i:=2) zk4.nd rfl (by trivial) (zb7 zi8 (jsv 2) (zc9 (za0 (za9 (za0 (za9 (za0 (za7 (cs:=[110,101,119,101,114])) (za0 (jsv 1) za1))) (za0 (zc9 (za0 (za9 (za0 za5 (za0 (za9 za1) za1))) (za0 (za9 (za0 za5 (za0 (za9 (za0 (za7 (cs:=[97])) za1)) za1))) (za0 (za9 (za0 za5 (za0 (za9 za1) za1))) (za0 (za9 (za0 za5 (za0 (za9 (za0 (za7 (cs:=[98])) za1)) za1))) (za0 (za9 (za0 za5 (za0 (za9 (za0 (za7 (cs:=[97])) (za0 (za7 (cs:=[99])) za1))) za1))) za1)))))) za1))) za1)) fun _ _=>zb8))
  (za3 (zc0 (zb7 zi8 (jsv 2) (zc9 (za0 (za9 (za0 (za9 (za0 (za7 (cs:=[114,111,119])) (za0 (za9 (za0 (za9 (za0 (za7 (cs:=[110,117,109])) za1)) (za0 (za9 (za0 (za7 (cs:=[108,111,119])) za1)) za1))) za1))) (za0 (zc9 (za0 (za9 (za0 za5 (za0 zW9 za1))) (za0 (za9 (za0 za5 (za0 zW9 za1))) (za0 (za9 (za0 za5 (za0 za5 za1))) (za0 (za9 (za0 za5 (za0 za5 za1))) (za0 (za9 (za0 za5 (za0 za5 za1))) za1)))))) za1))) za1)) fun _ _=>zb8))
  zb0)))))))
theorem zO5 (M:Md K mg f fd) (ih:Ih P w K mg base f fd W d) (hr:zn4 d (A.deeper (envOfC "_law_heights" (za2 zc6) s.heap.objs.size (f 12) cdv))) :
  JSs (zt6 CX0 P w K mg base ["_law_order"] "_law_heights" (za2 zc6) (f 12) cdv A outer s H E).nox (zg1 prog W d) W (za8 zc6) zs8 :=
 have hu1:=zl6 hr
 have hu2:=zl5 hr
 have hgd:=hr.gd
 (za3 (zc0 (zb4 hu1 (zi3 (N:=["_law_order", "_law_one", "_law_heights_here"]) rfl (zg0 (up:=za2 zc6) (XN:=["_law_order"]) rfl rfl (by decide +kernel)) (zh3 (zQ2 ih.h11 hr rfl M.m11 M.F11.kp M.b11)) (fun _ _ _ _ _=>zC2 rfl (zh7 (i:=1) nd4 rfl (by trivial) (zh7 (i:=2) nd4 rfl (by trivial) zv5))) (fun _ _ _ _ _=>(yh5 (ze9 (yf6 hu2) (jsv 1) (jsv 0) (zi4 _) fun _ _=>zg2))) (fun _ _ _ _ _=>(jsv 2))) za5 (fun _ _=>rfl)))
  zb0)
theorem zQ6 (M:Md K mg f fd) (ih:Ih P w K mg base f fd W d) (hr:zn4 d (A.deeper (envOfC "_law_ground" (za2 zd8) s.heap.objs.size (f 13) cdv))) :
    JSs (zt6 CX0 P w K mg base ["_law_tape", "_law_most", "_law_pool", "_law_at", "_law_names", "_law_called", "_law_heads", "_law_order", "_law_k"] "_law_ground" (za2 zd8) (f 13) cdv A outer s H E).nox (zg1 prog W d) W (za8 zd8) zv3 :=
  have hu1:=zl6 hr
  have hu2:=zl5 hr
  have hgd:=hr.gd
  (za3 (zb3 (i:=2) ze7.nd rfl (by trivial) (zc9 (za0 (za7 (cs:=[98])) (za0 (za7 (cs:=[97,98])) (za0 (za7 (cs:=[111,102])) (za0 (za7 (cs:=[97,98,99])) (za0 (za7 (cs:=[97])) (za0 (za7 (cs:=[112,117,116])) (za0 (za7 (cs:=[98])) (za0 (za7 (cs:=[97,98])) (za0 (za7 (cs:=[111,102])) (za0 (za7 (cs:=[97,98,99])) za1))))))))))))
    (za3 (zb3 (i:=3) ze7.nd rfl (by trivial) (zb1 (ps:=["_law_tape", "_law_many"]) ih.h10 hr rfl M.m10 M.F10.kp M.b10 (za0 (jsv 0) (za0 za5 za1)) rfl))
    (za3 (zb3 (i:=4) ze7.nd rfl (by trivial) (zn0 (jsv 2) (zl0 (jsv 3)) (zl0 (zb7 zi8 (zb7 zi8 (jsv 3) za5 fun _ _=>zb8) (zb1 (ps:=["_law_tape", "_law_many"]) ih.h10 hr rfl M.m10 M.F10.kp M.b10 (za0 (jsv 0) (za0 (jsv 1) za1)) rfl) fun _ _=>zb8))))
    (za3 (zb3 (i:=5) ze7.nd rfl (by trivial) (zc9 (za0 (za7 (cs:=[97,98])) (za0 (za7 (cs:=[106,117,115,116])) (za0 (za7 (cs:=[112,108,117,115])) (za0 (za7 (cs:=[98])) (za0 (za7 (cs:=[97,115,107,105,110,103,115])) (za0 (za7 (cs:=[97])) (za0 (za7 (cs:=[97,98])) (za0 (za7 (cs:=[106,117,115,116])) (za0 (za7 (cs:=[112,108,117,115])) (za0 (za7 (cs:=[98])) za1))))))))))))
    (za3 (zb3 (i:=3) ze7.nd rfl (by trivial) (zb1 (ps:=["_law_tape", "_law_many"]) ih.h10 hr rfl M.m10 M.F10.kp M.b10 (za0 (jsv 0) (za0 za5 za1)) rfl))
    (za3 (zb3 (i:=6) ze7.nd rfl (by trivial) (zn6 (zs2 za1 (by decide) rfl)))
    (za3 (zb3 (i:=7) ze7.nd rfl (by trivial) (za9 (za0 (za7 (cs:=[110,117,109])) za1)))
    (za3 (zk3 PassesOwn.never rfl (zo5 rfl M.z_range (zb4 hu1 (zc9 (za0 za5 (za0 za5 (za0 za5 (za0 za5 (za0 za5 za1)))))) (zb1 (ps:=["_law_tape", "_law_many"]) ih.h10 hr rfl M.m10 M.F10.kp M.b10 (za0 (jsv 0) (za0 za5 za1)) rfl) (fun _ _=>rfl))) (zd4 (i:=8) ze7.nd rfl (by trivial))
     (za3 (zn2 (ze9 (yf6 hu2) (zb1 (ps:=["_law_tape", "_law_many"]) ih.h10 hr rfl M.m10 M.F10.kp M.b10 (za0 (jsv 0) (za0 za5 za1)) rfl) za5 (zi4 _) fun _ _=>zg2)
      (za3 (zb3 (i:=7) ze7.nd rfl (by trivial) (zb4 hu1 (zb4 hu1 (zQ2 ih.h11 hr rfl M.m11 M.F11.kp M.b11) (zb7 zK2 (zb1 (ps:=["_law_tape", "_law_many"]) ih.h10 hr rfl M.m10 M.F10.kp M.b10 (za0 (jsv 0) (za0 za5 za1)) rfl) za5 fun _ _=>zb8) (fun _ _=>rfl)) za5 (fun _ _=>rfl)))
      zb0)
      zb0)
     (za3 (zm4 (zE7 PySem.F.slot_list_append PySem.F.type_list_append zz9 (jsv 6) (za0 (za9 (za0 (zb4 hu1 (jsv 5) (zb7 zi8 (jsv 3) (jsv 8) fun _ _=>zb8) (fun _ _=>rfl)) (za0 (zb4 hu1 (zc9 (za0 za5 (za0 za5 (za0 za5 (za0 za5 za1))))) (zb1 (ps:=["_law_tape", "_law_many"]) ih.h10 hr rfl M.m10 M.F10.kp M.b10 (za0 (jsv 0) (za0 za5 za1)) rfl) (fun _ _=>rfl)) (za0 (jsv 7) za1)))) za1) zz2))
     zb0)))
    (za3 (zc0 (za9 (za0 (zh6 zs4 (fun _ _=>zh5) rfl M.z_tuple zj8 (za0 (jsv 4) za1)) (za0 (zh6 zs4 (fun _ _=>zh5) rfl M.z_tuple zj8 (za0 (jsv 6) za1)) za1))))
    zb0)))))))))
theorem yz5 (M:Md K mg f fd) (ih:Ih P w K mg base f fd W d) (hr:zn4 d (A.deeper (envOfC "_law_of" (za2 zi9) s.heap.objs.size (f 14) cdv))) :
  JSs (zt6 CX0 P w K mg base ["_law_ground_here", "_law_thing"] "_law_of" (za2 zi9) (f 14) cdv A outer s H E).nox (zg1 prog W d) W (za8 zi9) zO6 :=
 have hu1:=zl6 hr
 have hu2:=zl5 hr
 have hgd:=hr.gd
 (za3 (zc0 (zb4 hu1 (zi3 (N:=["_law_thing", "_law_head", "_law_many", "_law_order"]) rfl (zg0 (up:=za2 zi9) (XN:=["_law_ground_here", "_law_thing"]) rfl rfl (by decide +kernel)) (zh3 (zb4 hu1 (jsv 0) za5 (fun _ _=>rfl))) (fun _ _ _ _ _=>zC2 rfl (zh7 (i:=1) nd5 rfl (by trivial) (zh7 (i:=2) nd5 rfl (by trivial) (zh7 (i:=3) nd5 rfl (by trivial) zv5)))) (fun _ _ _ _ _=>(yh5 (ze9 (yf6 hu2) (jsv 1) (zb4 hu1 (jsv 0) za5 (fun _ _=>rfl)) (zi4 _) fun _ _=>zg2))) (fun _ _ _ _ _=>(jsv 3))) za5 (fun _ _=>rfl)))
  zb0)
theorem zT2 (M:Md K mg f fd) (ih:Ih P w K mg base f fd W d) (hr:zn4 d (A.deeper (envOfC "_law_spoken" (za2 zd2) s.heap.objs.size (f 15) cdv))) :
  JSs (zt6 CX0 P w K mg base ["_law_tape", "_law_ground_here", "_law_heads", "_law_marks_here", "_law_head", "_law_words"] "_law_spoken" (za2 zd2) (f 15) cdv A outer s H E).nox (zg1 prog W d) W (za8 zd2) zp2 :=
 have hu1:=zl6 hr
 have hu2:=zl5 hr
 have hgd:=hr.gd
 (za3 (zb3 (i:=4) zt0.nd rfl (by trivial) (zb4 hu1 (jsv 2) (zb1 (ps:=["_law_tape", "_law_many"]) ih.h10 hr rfl M.m10 M.F10.kp M.b10 (za0 (jsv 0) (za0 (zf7 zI2 (fun _ _=>zh5) rfl M.z_len zu6 (za0 (jsv 2) za1)) za1)) rfl) (fun _ _=>rfl)))
  (za3 (zb3 (i:=5) zt0.nd rfl (by trivial) (zb7 zi8 (zb7 zi8 (zh6 yR1 (fun _ _=>zh5) rfl M.z_list zO8 (za0 (zb4 hu1 (jsv 1) za5 (fun _ _=>rfl)) za1)) (jsv 3) fun _ _=>zb8) (jsv 3) fun _ _=>zb8))
  (za3 (zc0 (zb7 zi8 (za9 (za0 (zb4 hu1 (jsv 4) za5 (fun _ _=>rfl)) za1)) (zh6 zs4 (fun _ _=>zh5) rfl M.z_tuple zj8 (za0 (zi3 (N:=["_law_tape", "_law_words", "_law_k"]) rfl (zg0 (up:=za2 zd2) (XN:=["_law_tape", "_law_ground_here", "_law_heads", "_law_marks_here", "_law_head", "_law_words"]) rfl rfl (by decide +kernel)) (zo5 rfl M.z_range (zb4 hu1 (jsv 4) za5 (fun _ _=>rfl))) (fun _ _ _ _ _=>zd4 (i:=2) nd6 rfl (by trivial)) (fun _ _ _ _ _=>zM8) (fun _ _ _ _ _=>(zb4 hu1 (jsv 1) (zb1 (ps:=["_law_tape", "_law_many"]) ih.h10 hr rfl M.m10 M.F10.kp M.b10 (za0 (jsv 0) (za0 (zf7 zI2 (fun _ _=>zh5) rfl M.z_len zu6 (za0 (jsv 1) za1)) za1)) rfl) (fun _ _=>rfl)))) za1)) fun _ _=>zb8))
  zb0)))
theorem yh9 (M:Md K mg f fd) (ih:Ih P w K mg base f fd W d) (hr:zn4 d (A.deeper (envOfC "_law_term" (za2 zf4) s.heap.objs.size (f 16) cdv))) :
    JSs (zt6 CX0 P w K mg base ["_law_tape", "_law_ground_here", "_law_thing", "_law_marks_here", "_law_order", "_law_alike", "_law_one", "_law_way", "_law_some"] "_law_term" (za2 zf4) (f 16) cdv A outer s H E).nox (zg1 prog W d) W (za8 zf4) zr1 :=
  have hu1:=zl6 hr
  have hu2:=zl5 hr
  have hgd:=hr.gd
  (za3 (zb3 (i:=4) zm1.nd rfl (by trivial) (zb1 (ps:=["_law_ground_here", "_law_thing"]) ih.h14 hr rfl M.m14 M.F14.kp M.b14 (za0 (jsv 1) (za0 (jsv 2) za1)) rfl))
    (za3 (yB0 (i:=5) zm1.nd rfl rfl (N:=["_law_order", "_law_head"]) rfl (zg0 (up:=za2 zf4) (XN:=["_law_tape", "_law_ground_here", "_law_thing", "_law_marks_here", "_law_order", "_law_alike", "_law_one", "_law_way", "_law_some"]) rfl rfl (by decide +kernel)) (zh3 (zb4 hu1 (jsv 1) za5 (fun _ _=>rfl))) (fun _ _ _ _ _=>zd4 (i:=1) nd7 rfl (by trivial)) (fun _ _ _ _ _=>(yh5 (ze9 (yf6 hu2) (zb4 hu1 (jsv 1) za5 (fun _ _=>rfl)) (jsv 0) (zi4 _) fun _ _=>zg2))) (fun _ _ _ _ _=>(jsv 1)))
    (za3 (zb3 (i:=6) zm1.nd rfl (by trivial) (zb1 (ps:=["_law_tape", "_law_ground_here", "_law_heads", "_law_marks_here"]) ih.h15 hr rfl M.m15 M.F15.kp M.b15 (za0 (jsv 0) (za0 (jsv 1) (za0 (jsv 5) (za0 (jsv 3) za1)))) rfl))
    (za3 (zb3 (i:=7) zm1.nd rfl (by trivial) (zb1 (ps:=["_law_tape", "_law_many"]) ih.h10 hr rfl M.m10 M.F10.kp M.b10 (za0 (jsv 0) (za0 za5 za1)) rfl))
    (za3 (zn2 (ze9 xa3 (jsv 7) za5 (zi4 _) fun _ _=>zg2)
     (za3 (zb3 (i:=8) zm1.nd rfl (by trivial) (zb1 (ps:=["_law_order"]) ih.h12 hr rfl M.m12 M.F12.kp M.b12 (za0 (jsv 4) za1) rfl))
     (za3 (zc0 (za9 (za0 (za7 (cs:=[106,117,115,116])) (za0 (zb4 hu1 (jsv 8) (zb1 (ps:=["_law_tape", "_law_many"]) ih.h10 hr rfl M.m10 M.F10.kp M.b10 (za0 (jsv 0) (za0 (zf7 zI2 (fun _ _=>zh5) rfl M.z_len zu6 (za0 (jsv 8) za1)) za1)) rfl) (fun _ _=>rfl)) za1))))
     zb0))
     zb0)
    (za3 (zn2 (zH8 (zN2 (ze9 xa3 (jsv 7) za5 (zi4 _) fun _ _=>zg2) (zD6 (ze9 (yM2 hu2) (zb4 hu1 (jsv 4) za5 (fun _ _=>rfl)) (za9 (za0 (za7 (cs:=[110,117,109])) (za0 (za7 (cs:=[108,111,119])) za1))) (by with_unfolding_all rfl) fun _ _=>zg2))))
     (za3 (zc0 (za9 (za0 (za7 (cs:=[112,108,117,115])) (za0 (jsv 6) (za0 (zb4 hu1 (zc9 (za0 za5 (za0 za5 (za0 za5 (za0 za5 za1))))) (zb1 (ps:=["_law_tape", "_law_many"]) ih.h10 hr rfl M.m10 M.F10.kp M.b10 (za0 (jsv 0) (za0 za5 za1)) rfl) (fun _ _=>rfl)) za1)))))
     zb0)
     zb0)
    (za3 (zn2 (zH8 (zN2 (ze9 (yf6 hu2) (jsv 7) za5 (zi4 _) fun _ _=>zg2) (zD6 (ze9 (yM2 hu2) (zb4 hu1 (jsv 4) za5 (fun _ _=>rfl)) (za9 (za0 (za7 (cs:=[110,117,109])) (za0 (za7 (cs:=[108,111,119])) za1))) (by with_unfolding_all rfl) fun _ _=>zg2))))
     (za3 (zc0 (za9 (za0 (za7 (cs:=[115,117,109])) (za0 (jsv 6) (za0 (zb1 (ps:=["_law_tape", "_law_ground_here", "_law_heads", "_law_marks_here"]) ih.h15 hr rfl M.m15 M.F15.kp M.b15 (za0 (jsv 0) (za0 (jsv 1) (za0 (jsv 5) (za0 (jsv 3) za1)))) rfl) za1)))))
     zb0)
     zb0)
    (za3 (zn2 (zH8 (zN2 (ze9 (yf6 hu2) (jsv 7) za5 (zi4 _) fun _ _=>zg2) (zD6 (ze9 (yM2 hu2) (zb4 hu1 (jsv 4) za5 (fun _ _=>rfl)) (za9 (za0 (za7 (cs:=[110,117,109])) (za0 (za7 (cs:=[108,111,119])) (za0 (za7 (cs:=[99,104,97,105,110])) (za0 (za7 (cs:=[115,101,116])) za1))))) (by with_unfolding_all rfl) fun _ _=>zg2))))
     (za3 (zc0 (za9 (za0 (za7 (cs:=[109,101,101,116])) (za0 (jsv 6) (za0 (zb1 (ps:=["_law_tape", "_law_ground_here", "_law_heads", "_law_marks_here"]) ih.h15 hr rfl M.m15 M.F15.kp M.b15 (za0 (jsv 0) (za0 (jsv 1) (za0 (jsv 5) (za0 (jsv 3) za1)))) rfl) za1)))))
     zb0)
     zb0)
    (za3 (zc0 (za9 (za0 (za7 (cs:=[111,102])) (za0 (jsv 6) za1))))
    zb0)))))))))
theorem yf9 (M:Md K mg f fd) (ih:Ih P w K mg base f fd W d) (hr:zn4 d (A.deeper (envOfC "_law_puts" (za2 zg4) s.heap.objs.size (f 17) cdv))) :
    JSs (zt6 CX0 P w K mg base ["_law_tape", "_law_ground_here", "_law_marks_here", "_law_many", "_law_found", "_law_k", "_law_thing"] "_law_puts" (za2 zg4) (f 17) cdv A outer s H E).nox (zg1 prog W d) W (za8 zg4) zB9 :=
  have hu1:=zl6 hr
  have hu2:=zl5 hr
  have hgd:=hr.gd
  (za3 (zb3 (i:=4) zs9.nd rfl (by trivial) (zn6 (zs2 za1 (by decide) rfl)))
    (za3 (zk3 PassesOwn.never rfl (zo5 rfl M.z_range (jsv 3)) (zd4 (i:=5) zs9.nd rfl (by trivial))
     (za3 (zb3 (i:=6) zs9.nd rfl (by trivial) (zb1 (ps:=["_law_tape", "_law_ground_here", "_law_heads", "_law_marks_here"]) ih.h15 hr rfl M.m15 M.F15.kp M.b15 (za0 (jsv 0) (za0 (jsv 1) (za0 (zb4 hu1 (jsv 1) za5 (fun _ _=>rfl)) (za0 (jsv 2) za1)))) rfl))
     (za3 (zm4 (zE7 PySem.F.slot_list_append PySem.F.type_list_append zz9 (jsv 4) (za0 (za9 (za0 (jsv 6) (za0 (zb1 (ps:=["_law_tape", "_law_ground_here", "_law_thing", "_law_marks_here"]) ih.h16 hr rfl M.m16 M.F16.kp M.b16 (za0 (jsv 0) (za0 (jsv 1) (za0 (jsv 6) (za0 (jsv 2) za1)))) rfl) za1))) za1) zz2))
     zb0)))
    (za3 (zc0 (zh6 zs4 (fun _ _=>zh5) rfl M.z_tuple zj8 (za0 (jsv 4) za1)))
    zb0)))
theorem zV3 (M:Md K mg f fd) (ih:Ih P w K mg base f fd W d) (hr:zn4 d (A.deeper (envOfC "_law_asking" (za2 ze1) s.heap.objs.size (f 18) cdv))) :
  JSs (zt6 CX0 P w K mg base ["_law_tape", "_law_ground_here", "_law_marks_here", "_law_yes", "_law_no", "_law_thing", "_law_some"] "_law_asking" (za2 ze1) (f 18) cdv A outer s H E).nox (zg1 prog W d) W (za8 ze1) zt7 :=
 have hu1:=zl6 hr
 have hu2:=zl5 hr
 have hgd:=hr.gd
 (za3 (zb3 (i:=5) zt3.nd rfl (by trivial) (zb1 (ps:=["_law_tape", "_law_ground_here", "_law_heads", "_law_marks_here"]) ih.h15 hr rfl M.m15 M.F15.kp M.b15 (za0 (jsv 0) (za0 (jsv 1) (za0 (zb4 hu1 (jsv 1) za5 (fun _ _=>rfl)) (za0 (jsv 2) za1)))) rfl))
  (za3 (zb3 (i:=6) zt3.nd rfl (by trivial) (zb1 (ps:=["_law_order"]) ih.h12 hr rfl M.m12 M.F12.kp M.b12 (za0 (zb1 (ps:=["_law_ground_here", "_law_thing"]) ih.h14 hr rfl M.m14 M.F14.kp M.b14 (za0 (jsv 1) (za0 (jsv 5) za1)) rfl) za1) rfl))
  (za3 (zc0 (za9 (za0 (za7 (cs:=[97,115,107])) (za0 (jsv 5) (za0 (zb4 hu1 (jsv 6) (zb7 zi8 za5 (zb1 (ps:=["_law_tape", "_law_many"]) ih.h10 hr rfl M.m10 M.F10.kp M.b10 (za0 (jsv 0) (za0 (zb7 yH0 (zf7 zI2 (fun _ _=>zh5) rfl M.z_len zu6 (za0 (jsv 6) za1)) za5 fun _ _=>zb8) za1)) rfl) fun _ _=>zb8) (fun _ _=>rfl)) (za0 (jsv 3) (za0 (jsv 4) za1)))))))
  zb0)))
theorem yh4 (M:Md K mg f fd) (ih:Ih P w K mg base f fd W d) (hr:zn4 d (A.deeper (envOfC "_law_tree" (za2 zg5) s.heap.objs.size (f 19) cdv))) :
    JSs (zt6 CX0 P w K mg base ["_law_tape", "_law_ground_here", "_law_deep", "_law_marks_here", "_law_yes"] "_law_tree" (za2 zg5) (f 19) cdv A outer s H E).nox (zg1 prog W d) W (za8 zg5) zv8 :=
  have hu1:=zl6 hr
  have hu2:=zl5 hr
  have hgd:=hr.gd
  (za3 (zn2 (zH8 (ym4 (ze9 xa3 (jsv 2) za5 (zi4 _) fun _ _=>zg2) (zZ1 (ze9 (yf6 hu2) (zb1 (ps:=["_law_tape", "_law_many"]) ih.h10 hr rfl M.m10 M.F10.kp M.b10 (za0 (jsv 0) (za0 za5 za1)) rfl) za5 (zi4 _) fun _ _=>zg2))))
     (za3 (zc0 (za9 (za0 (za7 (cs:=[112,117,116])) (za0 (zb1 (ps:=["_law_tape", "_law_ground_here", "_law_marks_here", "_law_many"]) ih.h17 hr rfl M.m17 M.F17.kp M.b17 (za0 (jsv 0) (za0 (jsv 1) (za0 (jsv 3) (za0 (zb4 hu1 (zc9 (za0 za5 (za0 za5 (za0 za5 (za0 za5 za1))))) (zb1 (ps:=["_law_tape", "_law_many"]) ih.h10 hr rfl M.m10 M.F10.kp M.b10 (za0 (jsv 0) (za0 za5 za1)) rfl) (fun _ _=>rfl)) za1)))) rfl) za1))))
     zb0)
     zb0)
    (za3 (zb3 (i:=4) zH6.nd rfl (by trivial) (zb1 (ps:=["_law_tape", "_law_ground_here", "_law_deep", "_law_marks_here"]) ih.h19 hr rfl M.m19 M.F19.kp M.b19 (za0 (jsv 0) (za0 (jsv 1) (za0 (zb7 yH0 (jsv 2) za5 fun _ _=>zb8) (za0 (jsv 3) za1)))) rfl))
    (za3 (zc0 (zb1 (ps:=["_law_tape", "_law_ground_here", "_law_marks_here", "_law_yes", "_law_no"]) ih.h18 hr rfl M.m18 M.F18.kp M.b18 (za0 (jsv 0) (za0 (jsv 1) (za0 (jsv 3) (za0 (jsv 4) (za0 (zb1 (ps:=["_law_tape", "_law_ground_here", "_law_deep", "_law_marks_here"]) ih.h19 hr rfl M.m19 M.F19.kp M.b19 (za0 (jsv 0) (za0 (jsv 1) (za0 (zb7 yH0 (jsv 2) za5 fun _ _=>zb8) (za0 (jsv 3) za1)))) rfl) za1))))) rfl))
    zb0)))
theorem zN0 (M:Md K mg f fd) (ih:Ih P w K mg base f fd W d) (hr:zn4 d (A.deeper (envOfC "_law_program" (za2 zd1) s.heap.objs.size (f 20) cdv))) :
    JSs (zt6 CX0 P w K mg base ["_law_tape", "_law_most", "_law_names", "_law_ground_here", "_law_rules", "_law_k", "_law_marks_here"] "_law_program" (za2 zd1) (f 20) cdv A outer s H E).nox (zg1 prog W d) W (za8 zd1) zr7 :=
  have hu1:=zl6 hr
  have hu2:=zl5 hr
  have hgd:=hr.gd
  (za3 (zb3 (i:=3) zj7.nd rfl (by trivial) (zb1 (ps:=["_law_tape", "_law_most"]) ih.h13 hr rfl M.m13 M.F13.kp M.b13 (za0 (jsv 0) (za0 (jsv 2) za1)) rfl))
    (za3 (zb3 (i:=4) zj7.nd rfl (by trivial) (zn6 (zs2 za1 (by decide) rfl)))
    (za3 (zk3 PassesOwn.never rfl (zo5 rfl M.z_range (zb1 (ps:=["_law_tape", "_law_many"]) ih.h10 hr rfl M.m10 M.F10.kp M.b10 (za0 (jsv 0) (za0 (zb7 zi8 (jsv 1) za5 fun _ _=>zb8) za1)) rfl)) (zd4 (i:=5) zj7.nd rfl (by trivial))
     (za3 (zb3 (i:=6) zj7.nd rfl (by trivial) (zb4 hu1 (zc9 (za0 (zc9 za1) (za0 (zc9 (za0 (za7 (cs:=[65])) za1)) (za0 (zc9 (za0 (za7 (cs:=[66])) (za0 (za7 (cs:=[65])) za1))) (za0 (zc9 (za0 (za7 (cs:=[70])) za1)) (za0 (zc9 (za0 (za7 (cs:=[67])) (za0 (za7 (cs:=[68])) za1))) (za0 (zc9 (za0 (za7 (cs:=[65])) (za0 (za7 (cs:=[70])) (za0 (za7 (cs:=[67])) za1)))) za1))))))) (zb1 (ps:=["_law_tape", "_law_many"]) ih.h10 hr rfl M.m10 M.F10.kp M.b10 (za0 (jsv 0) (za0 za5 za1)) rfl) (fun _ _=>rfl)))
     (za3 (zm4 (zE7 PySem.F.slot_list_append PySem.F.type_list_append zz9 (jsv 4) (za0 (zb1 (ps:=["_law_tape", "_law_ground_here", "_law_deep", "_law_marks_here"]) ih.h19 hr rfl M.m19 M.F19.kp M.b19 (za0 (jsv 0) (za0 (jsv 3) (za0 (zb7 zi8 za5 (zb1 (ps:=["_law_tape", "_law_many"]) ih.h10 hr rfl M.m10 M.F10.kp M.b10 (za0 (jsv 0) (za0 za5 za1)) rfl) fun _ _=>zb8) (za0 (jsv 6) za1)))) rfl) za1) zz2))
     zb0)))
    (za3 (zc0 (zb7 zi8 (jsv 3) (za9 (za0 (zh6 zs4 (fun _ _=>zh5) rfl M.z_tuple zj8 (za0 (jsv 4) za1)) za1)) fun _ _=>zb8))
    zb0))))
theorem zU8 (M:Md K mg f fd) (ih:Ih P w K mg base f fd W d) (hr:zn4 d (A.deeper (envOfC "_law_leaves" (za2 zd9) s.heap.objs.size (f 21) cdv))) :
    JSs (zt6 CX0 P w K mg base ["_law_tree_here", "_law_path", "_law_ahead"] "_law_leaves" (za2 zd9) (f 21) cdv A outer s H E).nox (zg1 prog W d) W (za8 zd9) zp7 :=
  have hu1:=zl6 hr
  have hu2:=zl5 hr
  have hgd:=hr.gd
  (za3 (zn2 (ze9 (yf6 hu2) (zb4 hu1 (jsv 0) za5 (fun _ _=>rfl)) (za7 (cs:=[112,117,116])) (zi4 _) fun _ _=>zg2)
     (za3 (zc0 (zc9 (za0 (za9 (za0 (jsv 1) (za0 (zb4 hu1 (jsv 0) za5 (fun _ _=>rfl)) za1))) za1)))
     zb0)
     zb0)
    (za3 (zb3 (i:=2) zA0.nd rfl (by trivial) (zb1 (ps:=["_law_tree_here", "_law_path"]) ih.h21 hr rfl M.m21 M.F21.kp M.b21 (za0 (zb4 hu1 (jsv 0) za5 (fun _ _=>rfl)) (za0 (zb7 zi8 (jsv 1) (za9 (za0 (zb7 zi8 (zn0 (jsv 0) (zl0 za5) (zl0 za5)) (za9 (za0 zL9 za1)) fun _ _=>zb8) za1)) fun _ _=>zb8) za1)) rfl))
    (za3 (zc0 (zb7 zi8 (jsv 2) (zb1 (ps:=["_law_tree_here", "_law_path"]) ih.h21 hr rfl M.m21 M.F21.kp M.b21 (za0 (zb4 hu1 (jsv 0) za5 (fun _ _=>rfl)) (za0 (zb7 zi8 (jsv 1) (za9 (za0 (zb7 zi8 (zn0 (jsv 0) (zl0 za5) (zl0 za5)) (za9 (za0 zL9 za1)) fun _ _=>zb8) za1)) fun _ _=>zb8) za1)) rfl) fun _ _=>zb8))
    zb0)))
theorem ya0 (M:Md K mg f fd) (ih:Ih P w K mg base f fd W d) (hr:zn4 d (A.deeper (envOfC "_law_marks" (za2 ze3) s.heap.objs.size (f 22) cdv))) :
  JSs (zt6 CX0 P w K mg base ["_law_tree_here", "_law_text"] "_law_marks" (za2 ze3) (f 22) cdv A outer s H E).nox (zg1 prog W d) W (za8 ze3) zx2 :=
 have hu1:=zl6 hr
 have hu2:=zl5 hr
 have hgd:=hr.gd
 (za3 (zb3 (i:=1) zD1.nd rfl (by trivial) (zf7 (yO4 hu2 hgd) (fun _ _=>zh5) rfl M.z_repr yF9 (za0 (jsv 0) za1)))
  (za3 (zc0 (zh6 zs4 (fun _ _=>zh5) rfl M.z_tuple zj8 (za0 (zi3 (N:=["_law_text", "_law_mark"]) rfl (zg0 (up:=za2 ze3) (XN:=["_law_tree_here", "_law_text"]) rfl rfl (by decide +kernel)) (zh3 (za7 (cs:=[65,66,67,68,69,70]))) (fun _ _ _ _ _=>zd4 (i:=1) nd8 rfl (by trivial)) (fun _ _ _ _ _=>(yh5 (ze9 (yM2 hu2) (zb7 zi8 (zb7 zi8 (za7 (cs:=[39])) (jsv 1) fun _ _=>zb8) (za7 (cs:=[39])) fun _ _=>zb8) (jsv 0) (by with_unfolding_all rfl) fun _ _=>zg2))) (fun _ _ _ _ _=>(jsv 1))) za1)))
  zb0))
theorem zX6 (M:Md K mg f fd) (ih:Ih P w K mg base f fd W d) (hr:zn4 d (A.deeper (envOfC "_law_cases" (za2 ze4) s.heap.objs.size (f 23) cdv))) :
    JSs (zt6 CX0 P w K mg base ["_law_program_here", "_law_found", "_law_k", "_law_rows", "_law_mark", "_law_longer", "_law_row"] "_law_cases" (za2 ze4) (f 23) cdv A outer s H E).nox (zg1 prog W d) W (za8 ze4) zw9 :=
  have hu1:=zl6 hr
  have hu2:=zl5 hr
  have hgd:=hr.gd
  (za3 (zb3 (i:=1) zh1.nd rfl (by trivial) (zc9 za1))
    (za3 (zk3 PassesOwn.never rfl (zo5 rfl M.z_range (zf7 zI2 (fun _ _=>zh5) rfl M.z_len zu6 (za0 (zb4 hu1 (jsv 0) za5 (fun _ _=>rfl)) za1))) (zd4 (i:=2) zh1.nd rfl (by trivial))
     (za3 (zb3 (i:=3) zh1.nd rfl (by trivial) (zc9 (za0 (za9 (za0 (jsv 2) (za0 (za9 za1) za1))) za1)))
     (za3 (zk3 PassesOwn.never rfl (zh3 (zb1 (ps:=["_law_tree_here"]) ih.h22 hr rfl M.m22 M.F22.kp M.b22 (za0 (zb4 hu1 (zb4 hu1 (jsv 0) za5 (fun _ _=>rfl)) (jsv 2) (fun _ _=>rfl)) za1) rfl)) (zd4 (i:=4) zh1.nd rfl (by trivial))
      (za3 (zb3 (i:=5) zh1.nd rfl (by trivial) (zn6 (zs2 za1 (by decide) rfl)))
      (za3 (zk3 PassesOwn.never rfl (zh3 (jsv 3)) (zd4 (i:=6) zh1.nd rfl (by trivial))
       (za3 (zm4 (zE6 PySem.F.slot_list_extend PySem.F.type_list_extend zy6 (jsv 5) (za0 (zi3 (N:=["_law_k", "_law_row", "_law_name"]) rfl (zg0 (up:=za2 ze4) (XN:=["_law_program_here", "_law_found", "_law_k", "_law_rows", "_law_mark", "_law_longer", "_law_row"]) rfl rfl (by decide +kernel)) (zh3 (zf7 ye9 (fun _ _=>zh5) rfl M.z_sorted zR3 (za0 (zb4 hu1 (jsv 0) za5 (fun _ _=>rfl)) za1))) (fun _ _ _ _ _=>zd4 (i:=2) nd9 rfl (by trivial)) (fun _ _ _ _ _=>zM8) (fun _ _ _ _ _=>(za9 (za0 (jsv 0) (za0 (zb7 zi8 (zb4 hu1 (jsv 1) za5 (fun _ _=>rfl)) (za9 (za0 (jsv 2) za1)) fun _ _=>zb8) za1))))) za1) zz7))
       zb0))
      (za3 (zb3 (i:=3) zh1.nd rfl (by trivial) (jsv 5))
      zb0))))
     (za3 (zb3 (i:=1) zh1.nd rfl (by trivial) (zb7 zi8 (jsv 1) (jsv 3) fun _ _=>zb8))
     zb0))))
    (za3 (zc0 (jsv 1))
    zb0)))
theorem zX3 (M:Md K mg f fd) (ih:Ih P w K mg base f fd W d) (hr:zn4 d (A.deeper (envOfC "_law_named" (za2 ze5) s.heap.objs.size (f 24) cdv))) :
  JSs (zt6 CX0 P w K mg base ["_law_program_here", "_law_case", "_law_thing", "_law_words"] "_law_named" (za2 ze5) (f 24) cdv A outer s H E).nox (zg1 prog W d) W (za8 ze5) zw4 :=
 have hu1:=zl6 hr
 have hu2:=zl5 hr
 have hgd:=hr.gd
 (za3 (zb3 (i:=3) zC4.nd rfl (by trivial) (zR7 rfl rfl M.z_dict rfl M.z_zip (za0 (zb1 (ps:=["_law_tree_here"]) ih.h22 hr rfl M.m22 M.F22.kp M.b22 (za0 (zb4 hu1 (zb4 hu1 (jsv 0) za5 (fun _ _=>rfl)) (zb4 hu1 (jsv 1) za5 (fun _ _=>rfl)) (fun _ _=>rfl)) za1) rfl) (za0 (zb4 hu1 (jsv 1) za5 (fun _ _=>rfl)) za1))))
  (za3 (zc0 (zb7 zi8 (zn0 (jsv 2) zy5 (zl0 za5)) (zh6 zs4 (fun _ _=>zh5) rfl M.z_tuple zj8 (za0 (zi3 (N:=["_law_words", "_law_word"]) rfl (zg0 (up:=za2 ze5) (XN:=["_law_program_here", "_law_case", "_law_thing", "_law_words"]) rfl rfl (by decide +kernel)) (zh3 (zn0 (jsv 2) (zl0 za5) zy5)) (fun _ _ _ _ _=>zd4 (i:=1) nd10 rfl (by trivial)) (fun _ _ _ _ _=>zM8) (fun _ _ _ _ _=>(yc9 hu1 (jsv 0) (jsv 1) (jsv 1) ⟨rfl,rfl,rfl,rfl⟩))) za1)) fun _ _=>zb8))
  zb0))
theorem yf8 (M:Md K mg f fd) (ih:Ih P w K mg base f fd W d) (hr:zn4 d (A.deeper (envOfC "_law_same" (za2 zf3) s.heap.objs.size (f 25) cdv))) :
    JSs (zt6 CX0 P w K mg base ["_law_found", "_law_due"] "_law_same" (za2 zf3) (f 25) cdv A outer s H E).nox (zg1 prog W d) W (za8 zf3) zv6 :=
  have hu1:=zl6 hr
  have hu2:=zl5 hr
  have hgd:=hr.gd
  (za3 (zn2 (zH8 (ym4 (zF3 (zk6 .list rfl M.z_isinstance zg9 rfl M.z_list zO8 (jsv 1))) (zZ1 (zF3 (zk6 .tuple rfl M.z_isinstance zg9 rfl M.z_tuple zj8 (jsv 1))))))
     (za3 (zn2 (zH8 (ym4 (ze9 (yZ2 hu2) (zk6 .list rfl M.z_isinstance zg9 rfl M.z_list zO8 (jsv 0)) (zk6 .list rfl M.z_isinstance zg9 rfl M.z_list zO8 (jsv 1)) (zi4 _) fun _ _=>zg2) (zZ1 (ze9 (yZ2 hu2) (zk6 .tuple rfl M.z_isinstance zg9 rfl M.z_tuple zj8 (jsv 0)) (zk6 .tuple rfl M.z_isinstance zg9 rfl M.z_tuple zj8 (jsv 1)) (zi4 _) fun _ _=>zg2))))
      (za3 (zc0 zL9)
      zb0)
      zb0)
     (za3 (zc0 (yn4 (zI3 (yf6 hu2) (zf7 zI2 (fun _ _=>zh5) rfl M.z_len zu6 (za0 (jsv 0) za1)) (zf7 zI2 (fun _ _=>zh5) rfl M.z_len zu6 (za0 (jsv 1) za1)) (zi4 _) fun _ _=>zg2) (yr2 (zf7 (xe0 rfl) (fun _ _=>zh5) rfl M.z_all yV7 (za0 (zi3 (N:=["_law_one", "_law_other"]) rfl (zg0 (up:=za2 zf3) (XN:=["_law_found", "_law_due"]) rfl rfl (by decide +kernel)) (yy0 rfl M.z_zip yM7 (za0 (jsv 0) (za0 (jsv 1) za1))) (fun _ _ _ _ _=>zC2 rfl (zh7 (i:=0) nd11 rfl (by trivial) (zh7 (i:=1) nd11 rfl (by trivial) zv5))) (fun _ _ _ _ _=>zM8) (fun _ _ _ _ _=>(zb1 (ps:=["_law_found", "_law_due"]) ih.h25 hr rfl M.m25 M.F25.kp M.b25 (za0 (jsv 0) (za0 (jsv 1) za1)) rfl))) za1)))))
     zb0))
     zb0)
    (za3 (zc0 (yn4 (zI3 (yf6 hu2) (zk6 .bool rfl M.z_isinstance zg9 rfl M.z_bool ym7 (jsv 0)) (zk6 .bool rfl M.z_isinstance zg9 rfl M.z_bool ym7 (jsv 1)) (zi4 _) fun _ _=>zg2) (yr2 (zI3 (yf6 hu2) (jsv 0) (jsv 1) (zi4 _) fun _ _=>zg2))))
    zb0))
theorem zG0 (M:Md K mg f fd) (ih:Ih P w K mg base f fd W d) (hr:zn4 d (A.deeper (envOfC "_law_things_in" (za2 zb6) s.heap.objs.size (f 26) cdv))) :
    JSs (zt6 CX0 P w K mg base ["_law_rule", "_law_found", "_law_path", "_law_puts_here"] "_law_things_in" (za2 zb6) (f 26) cdv A outer s H E).nox (zg1 prog W d) W (za8 zb6) zo3 :=
  have hu1:=zl6 hr
  have hu2:=zl5 hr
  have hgd:=hr.gd
  (za3 (zb3 (i:=1) zg7.nd rfl (by trivial) (zc9 za1))
    (za3 (zk3 PassesOwn.never rfl (zh3 (zb1 (ps:=["_law_tree_here", "_law_path"]) ih.h21 hr rfl M.m21 M.F21.kp M.b21 (za0 (jsv 0) (za0 (za9 za1) za1)) rfl)) (zC2 rfl (zh7 (i:=2) zg7.nd rfl (by trivial) (zh7 (i:=3) zg7.nd rfl (by trivial) zv5)))
     (za3 (zb3 (i:=1) zg7.nd rfl (by trivial) (zb7 zi8 (zb7 zi8 (jsv 1) (zi3 (N:=["_law_step"]) rfl (zg0 (up:=za2 zb6) (XN:=["_law_rule", "_law_found", "_law_path", "_law_puts_here"]) rfl rfl (by decide +kernel)) (zh3 (jsv 2)) (fun _ _ _ _ _=>zd4 (i:=0) nd13 rfl (by trivial)) (fun _ _ _ _ _=>zM8) (fun _ _ _ _ _=>(zb4 hu1 (jsv 0) za5 (fun _ _=>rfl)))) fun _ _=>zb8) (zi3 (N:=["_law_put"]) rfl (zg0 (up:=za2 zb6) (XN:=["_law_rule", "_law_found", "_law_path", "_law_puts_here"]) rfl rfl (by decide +kernel)) (zh3 (jsv 3)) (fun _ _ _ _ _=>zd4 (i:=0) nd14 rfl (by trivial)) (fun _ _ _ _ _=>zM8) (fun _ _ _ _ _=>(zb4 hu1 (jsv 0) za5 (fun _ _=>rfl)))) fun _ _=>zb8))
     (za3 (zb3 (i:=1) zg7.nd rfl (by trivial) (zb7 zi8 (jsv 1) (zi3 (N:=["_law_put"]) rfl (zg0 (up:=za2 zb6) (XN:=["_law_rule", "_law_found", "_law_path", "_law_puts_here"]) rfl rfl (by decide +kernel)) (zh3 (jsv 3)) (fun _ _ _ _ _=>zd4 (i:=0) nd12 rfl (by trivial)) (fun _ _ _ _ _=>(yh5 (ze9 (yZ2 hu2) (zb4 hu1 (zb4 hu1 (jsv 0) za5 (fun _ _=>rfl)) za5 (fun _ _=>rfl)) (za7 (cs:=[106,117,115,116])) (zi4 _) fun _ _=>zg2))) (fun _ _ _ _ _=>(zb4 hu1 (zb4 hu1 (jsv 0) za5 (fun _ _=>rfl)) za5 (fun _ _=>rfl)))) fun _ _=>zb8))
     zb0)))
    (za3 (zc0 (jsv 1))
    zb0)))
theorem xb2 (M:Md K mg f fd) (ih:Ih P w K mg base f fd W d) (hr:zn4 d (A.deeper (envOfC "law" (za2 zw3) s.heap.objs.size (f 27) cdv))) :
    JSs (zt6 CX0 P w K mg base ["_law_script", "_law_tape", "_law_programs", "_law_turn", "_law_program_here", "_law_due", "_law_found", "_law_k", "_law_case", "_law_rule", "_law_thing"] "law" (za2 zw3) (f 27) cdv A outer s H E).nox (zg1 prog W d) W (za8 zw3) yE9 :=
  have hu1:=zl6 hr
  have hu2:=zl5 hr
  have hgd:=hr.gd
  (za3 (zb3 (i:=1) zu1.nd rfl (by trivial) (zb1 (ps:=["_law_script"]) ih.h9 hr rfl M.m9 M.F9.kp M.b9 (za0 (jsv 0) za1) rfl))
    (za3 (zb3 (i:=2) zu1.nd rfl (by trivial) (zc9 (za0 (zb1 (ps:=["_law_tape", "_law_most", "_law_names"]) ih.h20 hr rfl M.m20 M.F20.kp M.b20 (za0 (jsv 1) (za0 za5 (za0 za5 za1))) rfl) (za0 (zb1 (ps:=["_law_tape", "_law_most", "_law_names"]) ih.h20 hr rfl M.m20 M.F20.kp M.b20 (za0 (jsv 1) (za0 za5 (za0 za5 za1))) rfl) za1))))
    (za3 (zk3 PassesOwn.never rfl (zo5 rfl M.z_range za5) (zd4 (i:=3) zu1.nd rfl (by trivial))
     (za3 (zb3 (i:=4) zu1.nd rfl (by trivial) (zb4 hu1 (jsv 2) (zb7 zK2 (jsv 3) za5 fun _ _=>zb8) (fun _ _=>rfl)))
     (za3 (zb3 (i:=5) zu1.nd rfl (by trivial) (zb1 (ps:=["_law_program_here"]) ih.h23 hr rfl M.m23 M.F23.kp M.b23 (za0 (jsv 4) za1) rfl))
     (za3 (zb3 (i:=6) zu1.nd rfl (by trivial) (zb1 (ps:=["program"]) ih.h5 hr rfl M.m5 M.F5.kp M.b5 (za0 (jsv 4) za1) rfl))
     (za3 (zn2 (yq6 (zF3 (zb1 (ps:=["_law_found", "_law_due"]) ih.h25 hr rfl M.m25 M.F25.kp M.b25 (za0 (jsv 6) (za0 (jsv 5) za1)) rfl)))
      (za3 (zc0 zL9)
      zb0)
      zb0)
     (za3 (zk3 PassesOwn.never rfl (zo5 rfl M.z_range (zb7 zY8 za5 (zh6 xh2 (fun _ _=>zh5) rfl M.z_int yW4 (za0 (zI3 (yZ2 hu2) (jsv 5) (zc9 za1) (zi4 _) fun _ _=>zg2) za1)) fun _ _=>zb8)) (zd4 (i:=7) zu1.nd rfl (by trivial))
      (za3 (zb3 (i:=8) zu1.nd rfl (by trivial) (zb4 hu1 (jsv 5) (zb1 (ps:=["_law_tape", "_law_many"]) ih.h10 hr rfl M.m10 M.F10.kp M.b10 (za0 (jsv 1) (za0 (zf7 zI2 (fun _ _=>zh5) rfl M.z_len zu6 (za0 (jsv 5) za1)) za1)) rfl) (fun _ _=>rfl)))
      (za3 (zb3 (i:=9) zu1.nd rfl (by trivial) (zb4 hu1 (zb4 hu1 (jsv 4) za5 (fun _ _=>rfl)) (zb4 hu1 (jsv 8) za5 (fun _ _=>rfl)) (fun _ _=>rfl)))
      (za3 (zk3 PassesOwn.never rfl (zh3 (zn0 (zb1 (ps:=["_law_rule"]) ih.h26 hr rfl M.m26 M.F26.kp M.b26 (za0 (jsv 9) za1) rfl) zy5 (zl0 za5))) (zd4 (i:=10) zu1.nd rfl (by trivial))
       (za3 (zn2 (yq6 (zF3 (zb1 (ps:=["_law_found", "_law_due"]) ih.h25 hr rfl M.m25 M.F25.kp M.b25 (za0 (zb1 (ps:=["rule", "case", "thing"]) ih.h6 hr rfl M.m6 M.F6.kp M.b6 (za0 (jsv 9) (za0 (jsv 8) (za0 (jsv 10) za1))) rfl) (za0 (zb1 (ps:=["_law_program_here", "_law_case", "_law_thing"]) ih.h24 hr rfl M.m24 M.F24.kp M.b24 (za0 (jsv 4) (za0 (jsv 8) (za0 (jsv 10) za1))) rfl) za1)) rfl)))
        (za3 (zc0 zL9)
        zb0)
        zb0)
       zb0))
      zb0))))
     (za3 (zm4 (zE7 PySem.F.slot_list_append PySem.F.type_list_append zz9 (jsv 6) (za0 (za9 (za0 za5 (za0 (za9 (za0 (za7 (cs:=[120])) za1)) za1))) za1) zz2))
     zb0)))))))
    (za3 (zc0 zL9)
    zb0))))
end
open PySem L2 OR PySem.SeqAt PyProof.Rows
section
variable {P:Program} {w:World} {K:Frag} {mg:Str→Option Value} {base:Heap} {f:Nat→Addr} {fd:Nat→FuncData}
theorem all (M:Md K mg f fd) (W:Nat):∀ d:Nat,Ih P w K mg base f fd W d
 | 0=>⟨ze2,ze2,ze2,ze2,ze2,ze2,ze2,ze2,ze2,ze2,ze2,ze2,ze2,ze2,ze2,ze2,ze2,ze2,ze2,ze2,ze2,ze2,ze2,ze2,ze2,ze2,ze2,ze2⟩
 | d+1=>by
  have ih:=all M W d
  exact ⟨zc4 (ib:=zG5) M.F0 yi4 rfl fun cdv A outer s H E hr=>ym2 M ih hr,
   zc4 (ib:=zx6) M.F1 zv2 rfl fun cdv A outer s H E hr=>zZ4 M ih hr,
   zc4 (ib:=zu0) M.F2 zP0 rfl fun cdv A outer s H E hr=>zT1 M ih hr,
   zc4 (ib:=zr6) M.F3 zp5 rfl fun cdv A outer s H E hr=>zW3 M ih hr,
   zc4 (ib:=zB0) M.F4 zw7 rfl fun cdv A outer s H E hr=>yj6 M ih hr,
   zc4 (ib:=zB3) M.F5 zi6 rfl fun cdv A outer s H E hr=>yg1 M ih hr,
   zc4 (ib:=zW7) M.F6 yv2 rfl fun cdv A outer s H E hr=>yJ5 M ih hr,
   zc4 (ib:=zp0) M.F7 zD5 rfl fun cdv A outer s H E hr=>zG6 M ih hr,
   zc4 (ib:=zt1) M.F8 zJ6 rfl fun cdv A outer s H E hr=>zP9 M ih hr,
   zc4 (ib:=zq1) M.F9 zI4 rfl fun cdv A outer s H E hr=>zK0 M ih hr,
   zc4 (ib:=zm2) M.F10 zm0 rfl fun cdv A outer s H E hr=>yh3 M ih hr,
   zc4 (ib:=zC0) M.F11 zk4 rfl fun cdv A outer s H E hr=>yh1 M ih hr,
   zc4 (ib:=zs8) M.F12 zJ5 rfl fun cdv A outer s H E hr=>zO5 M ih hr,
   zc4 (ib:=zv3) M.F13 ze7 rfl fun cdv A outer s H E hr=>zQ6 M ih hr,
   zc4 (ib:=zO6) M.F14 yp3 rfl fun cdv A outer s H E hr=>yz5 M ih hr,
   zc4 (ib:=zp2) M.F15 zt0 rfl fun cdv A outer s H E hr=>zT2 M ih hr,
   zc4 (ib:=zr1) M.F16 zm1 rfl fun cdv A outer s H E hr=>yh9 M ih hr,
   zc4 (ib:=zB9) M.F17 zs9 rfl fun cdv A outer s H E hr=>yf9 M ih hr,
   zc4 (ib:=zt7) M.F18 zt3 rfl fun cdv A outer s H E hr=>zV3 M ih hr,
   zc4 (ib:=zv8) M.F19 zH6 rfl fun cdv A outer s H E hr=>yh4 M ih hr,
   zc4 (ib:=zr7) M.F20 zj7 rfl fun cdv A outer s H E hr=>zN0 M ih hr,
   zc4 (ib:=zp7) M.F21 zA0 rfl fun cdv A outer s H E hr=>zU8 M ih hr,
   zc4 (ib:=zx2) M.F22 zD1 rfl fun cdv A outer s H E hr=>ya0 M ih hr,
   zc4 (ib:=zw9) M.F23 zh1 rfl fun cdv A outer s H E hr=>zX6 M ih hr,
   zc4 (ib:=zw4) M.F24 zC4 rfl fun cdv A outer s H E hr=>zX3 M ih hr,
   zc4 (ib:=zv6) M.F25 zZ2 rfl fun cdv A outer s H E hr=>yf8 M ih hr,
   zc4 (ib:=zo3) M.F26 zg7 rfl fun cdv A outer s H E hr=>zG0 M ih hr,
   zc4 (ib:=yE9) M.F27 zu1 rfl fun cdv A outer s H E hr=>xb2 M ih hr⟩
end
theorem all_mk {l:PySem.W.OpenLaw} {w:World} {K:Frag} {h:Heap} {mg:Str→Option Value} {fa f0 f1 f2 f3 f4 f5 f6 f7 f8 f9 f10 f11 f12 f13 f14 f15 f16 f17 f18 f19 f20 f21 f22 f23 f24 f25 f26 f27:Addr} (X:K.In h) (G:h.Ns mainGlobals mg) (hfa:mg "law" = some (.ref fa)) (D:Nat)
    {od0 an0 od1 an1 od2 an2 od3 an3 od4 an4 od5 an5 od6 an6 od7 an7 od8 an8 od9 an9 od10 an10 od11 an11 od12 an12 od13 an13 od14 an14 od15 an15 od16 an16 od17 an17 od18 an18 od19 an19 od20 an20 od21 an21 od22 an22 od23 an23 od24 an24 od25 an25 od26 an26 od27 an27:Option Addr} {sl0 sl1 sl2 sl3 sl4 sl5 sl6 sl7 sl8 sl9 sl10 sl11 sl12 sl13 sl14 sl15 sl16 sl17 sl18 sl19 sl20 sl21 sl22 sl23 sl24 sl25 sl26 sl27:Array (Option Value)} {oc0 kV0 dc0 pm0 cd0 ct0 oc1 kV1 dc1 pm1 cd1 ct1 oc2 kV2 dc2 pm2 cd2 ct2 oc3 kV3 dc3 pm3 cd3 ct3 oc4 kV4 dc4 pm4 cd4 ct4 oc5 kV5 dc5 pm5 cd5 ct5 oc6 kV6 dc6 pm6 cd6 ct6 oc7 kV7 dc7 pm7 cd7 ct7 oc8 kV8 dc8 pm8 cd8 ct8 oc9 kV9 dc9 pm9 cd9 ct9 oc10 kV10 dc10 pm10 cd10 ct10 oc11 kV11 dc11 pm11 cd11 ct11 oc12 kV12 dc12 pm12 cd12 ct12 oc13 kV13 dc13 pm13 cd13 ct13 oc14 kV14 dc14 pm14 cd14 ct14 oc15 kV15 dc15 pm15 cd15 ct15 oc16 kV16 dc16 pm16 cd16 ct16 oc17 kV17 dc17 pm17 cd17 ct17 oc18 kV18 dc18 pm18 cd18 ct18 oc19 kV19 dc19 pm19 cd19 ct19 oc20 kV20 dc20 pm20 cd20 ct20 oc21 kV21 dc21 pm21 cd21 ct21 oc22 kV22 dc22 pm22 cd22 ct22 oc23 kV23 dc23 pm23 cd23 ct23 oc24 kV24 dc24 pm24 cd24 ct24 oc25 kV25 dc25 pm25 cd25 ct25 oc26 kV26 dc26 pm26 cd26 ct26 oc27 kV27 dc27 pm27 cd27 ct27:Value}
    (a0:nsIn K mainGlobals "is_mark" = some (some (.ref f0))) (l0:K.lookup f0=some ⟨oc0,od0,.func (fnOf "is_mark" "is_mark" (zb2 zf8) (za8 zf8) (za2 zf8) .none kV0 dc0 pm0 an0 cd0 ct0),sl0⟩) (c0:codeIn K cd0 "is_mark" = true) (k0:keepIn K (.ref f0)=true)
    (a1:nsIn K mainGlobals "with_each" = some (some (.ref f1))) (l1:K.lookup f1=some ⟨oc1,od1,.func (fnOf "with_each" "with_each" (zb2 ze6) (za8 ze6) (za2 ze6) .none kV1 dc1 pm1 an1 cd1 ct1),sl1⟩) (c1:codeIn K cd1 "with_each" = true) (k1:keepIn K (.ref f1)=true)
    (a2:nsIn K mainGlobals "sources_of" = some (some (.ref f2))) (l2:K.lookup f2=some ⟨oc2,od2,.func (fnOf "sources_of" "sources_of" (zb2 ze0) (za8 ze0) (za2 ze0) .none kV2 dc2 pm2 an2 cd2 ct2),sl2⟩) (c2:codeIn K cd2 "sources_of" = true) (k2:keepIn K (.ref f2)=true)
    (a3:nsIn K mainGlobals "things_in" = some (some (.ref f3))) (l3:K.lookup f3=some ⟨oc3,od3,.func (fnOf "things_in" "things_in" (zb2 zf0) (za8 zf0) (za2 zf0) .none kV3 dc3 pm3 an3 cd3 ct3),sl3⟩) (c3:codeIn K cd3 "things_in" = true) (k3:keepIn K (.ref f3)=true)
    (a4:nsIn K mainGlobals "marks_of" = some (some (.ref f4))) (l4:K.lookup f4=some ⟨oc4,od4,.func (fnOf "marks_of" "marks_of" (zb2 zf5) (za8 zf5) (za2 zf5) .none kV4 dc4 pm4 an4 cd4 ct4),sl4⟩) (c4:codeIn K cd4 "marks_of" = true) (k4:keepIn K (.ref f4)=true)
    (a5:nsIn K mainGlobals "cases_of" = some (some (.ref f5))) (l5:K.lookup f5=some ⟨oc5,od5,.func (fnOf "cases_of" "cases_of" (zb2 zf6) (za8 zf6) (za2 zf6) .none kV5 dc5 pm5 an5 cd5 ct5),sl5⟩) (c5:codeIn K cd5 "cases_of" = true) (k5:keepIn K (.ref f5)=true)
    (a6:nsIn K mainGlobals "named" = some (some (.ref f6))) (l6:K.lookup f6=some ⟨oc6,od6,.func (fnOf "named" "named" (zb2 zn3) (za8 zn3) (za2 zn3) .none kV6 dc6 pm6 an6 cd6 ct6),sl6⟩) (c6:codeIn K cd6 "named" = true) (k6:keepIn K (.ref f6)=true)
    (a7:nsIn K mainGlobals "names_by_mark" = some (some (.ref f7))) (l7:K.lookup f7=some ⟨oc7,od7,.func (fnOf "names_by_mark" "names_by_mark" (zb2 zc2) (za8 zc2) (za2 zc2) .none kV7 dc7 pm7 an7 cd7 ct7),sl7⟩) (c7:codeIn K cd7 "names_by_mark" = true) (k7:keepIn K (.ref f7)=true)
    (a8:nsIn K mainGlobals "named_thing" = some (some (.ref f8))) (l8:K.lookup f8=some ⟨oc8,od8,.func (fnOf "named_thing" "named_thing" (zb2 zc7) (za8 zc7) (za2 zc7) .none kV8 dc8 pm8 an8 cd8 ct8),sl8⟩) (c8:codeIn K cd8 "named_thing" = true) (k8:keepIn K (.ref f8)=true)
    (a9:nsIn K mainGlobals "_law_new_tape" = some (some (.ref f9))) (l9:K.lookup f9=some ⟨oc9,od9,.func (fnOf "_law_new_tape" "_law_new_tape" (zb2 zc5) (za8 zc5) (za2 zc5) .none kV9 dc9 pm9 an9 cd9 ct9),sl9⟩) (c9:codeIn K cd9 "_law_new_tape" = true) (k9:keepIn K (.ref f9)=true)
    (a10:nsIn K mainGlobals "_law_draw" = some (some (.ref f10))) (l10:K.lookup f10=some ⟨oc10,od10,.func (fnOf "_law_draw" "_law_draw" (zb2 zg8) (za8 zg8) (za2 zg8) .none kV10 dc10 pm10 an10 cd10 ct10),sl10⟩) (c10:codeIn K cd10 "_law_draw" = true) (k10:keepIn K (.ref f10)=true)
    (a11:nsIn K mainGlobals "_law_menu" = some (some (.ref f11))) (l11:K.lookup f11=some ⟨oc11,od11,.func (fnOf "_law_menu" "_law_menu" (zb2 zg6) (za8 zg6) (za2 zg6) .none kV11 dc11 pm11 an11 cd11 ct11),sl11⟩) (c11:codeIn K cd11 "_law_menu" = true) (k11:keepIn K (.ref f11)=true)
    (a12:nsIn K mainGlobals "_law_heights" = some (some (.ref f12))) (l12:K.lookup f12=some ⟨oc12,od12,.func (fnOf "_law_heights" "_law_heights" (zb2 zc6) (za8 zc6) (za2 zc6) .none kV12 dc12 pm12 an12 cd12 ct12),sl12⟩) (c12:codeIn K cd12 "_law_heights" = true) (k12:keepIn K (.ref f12)=true)
    (a13:nsIn K mainGlobals "_law_ground" = some (some (.ref f13))) (l13:K.lookup f13=some ⟨oc13,od13,.func (fnOf "_law_ground" "_law_ground" (zb2 zd8) (za8 zd8) (za2 zd8) .none kV13 dc13 pm13 an13 cd13 ct13),sl13⟩) (c13:codeIn K cd13 "_law_ground" = true) (k13:keepIn K (.ref f13)=true)
    (a14:nsIn K mainGlobals "_law_of" = some (some (.ref f14))) (l14:K.lookup f14=some ⟨oc14,od14,.func (fnOf "_law_of" "_law_of" (zb2 zi9) (za8 zi9) (za2 zi9) .none kV14 dc14 pm14 an14 cd14 ct14),sl14⟩) (c14:codeIn K cd14 "_law_of" = true) (k14:keepIn K (.ref f14)=true)
    (a15:nsIn K mainGlobals "_law_spoken" = some (some (.ref f15))) (l15:K.lookup f15=some ⟨oc15,od15,.func (fnOf "_law_spoken" "_law_spoken" (zb2 zd2) (za8 zd2) (za2 zd2) .none kV15 dc15 pm15 an15 cd15 ct15),sl15⟩) (c15:codeIn K cd15 "_law_spoken" = true) (k15:keepIn K (.ref f15)=true)
    (a16:nsIn K mainGlobals "_law_term" = some (some (.ref f16))) (l16:K.lookup f16=some ⟨oc16,od16,.func (fnOf "_law_term" "_law_term" (zb2 zf4) (za8 zf4) (za2 zf4) .none kV16 dc16 pm16 an16 cd16 ct16),sl16⟩) (c16:codeIn K cd16 "_law_term" = true) (k16:keepIn K (.ref f16)=true)
    (a17:nsIn K mainGlobals "_law_puts" = some (some (.ref f17))) (l17:K.lookup f17=some ⟨oc17,od17,.func (fnOf "_law_puts" "_law_puts" (zb2 zg4) (za8 zg4) (za2 zg4) .none kV17 dc17 pm17 an17 cd17 ct17),sl17⟩) (c17:codeIn K cd17 "_law_puts" = true) (k17:keepIn K (.ref f17)=true)
    (a18:nsIn K mainGlobals "_law_asking" = some (some (.ref f18))) (l18:K.lookup f18=some ⟨oc18,od18,.func (fnOf "_law_asking" "_law_asking" (zb2 ze1) (za8 ze1) (za2 ze1) .none kV18 dc18 pm18 an18 cd18 ct18),sl18⟩) (c18:codeIn K cd18 "_law_asking" = true) (k18:keepIn K (.ref f18)=true)
    (a19:nsIn K mainGlobals "_law_tree" = some (some (.ref f19))) (l19:K.lookup f19=some ⟨oc19,od19,.func (fnOf "_law_tree" "_law_tree" (zb2 zg5) (za8 zg5) (za2 zg5) .none kV19 dc19 pm19 an19 cd19 ct19),sl19⟩) (c19:codeIn K cd19 "_law_tree" = true) (k19:keepIn K (.ref f19)=true)
    (a20:nsIn K mainGlobals "_law_program" = some (some (.ref f20))) (l20:K.lookup f20=some ⟨oc20,od20,.func (fnOf "_law_program" "_law_program" (zb2 zd1) (za8 zd1) (za2 zd1) .none kV20 dc20 pm20 an20 cd20 ct20),sl20⟩) (c20:codeIn K cd20 "_law_program" = true) (k20:keepIn K (.ref f20)=true)
    (a21:nsIn K mainGlobals "_law_leaves" = some (some (.ref f21))) (l21:K.lookup f21=some ⟨oc21,od21,.func (fnOf "_law_leaves" "_law_leaves" (zb2 zd9) (za8 zd9) (za2 zd9) .none kV21 dc21 pm21 an21 cd21 ct21),sl21⟩) (c21:codeIn K cd21 "_law_leaves" = true) (k21:keepIn K (.ref f21)=true)
    (a22:nsIn K mainGlobals "_law_marks" = some (some (.ref f22))) (l22:K.lookup f22=some ⟨oc22,od22,.func (fnOf "_law_marks" "_law_marks" (zb2 ze3) (za8 ze3) (za2 ze3) .none kV22 dc22 pm22 an22 cd22 ct22),sl22⟩) (c22:codeIn K cd22 "_law_marks" = true) (k22:keepIn K (.ref f22)=true)
    (a23:nsIn K mainGlobals "_law_cases" = some (some (.ref f23))) (l23:K.lookup f23=some ⟨oc23,od23,.func (fnOf "_law_cases" "_law_cases" (zb2 ze4) (za8 ze4) (za2 ze4) .none kV23 dc23 pm23 an23 cd23 ct23),sl23⟩) (c23:codeIn K cd23 "_law_cases" = true) (k23:keepIn K (.ref f23)=true)
    (a24:nsIn K mainGlobals "_law_named" = some (some (.ref f24))) (l24:K.lookup f24=some ⟨oc24,od24,.func (fnOf "_law_named" "_law_named" (zb2 ze5) (za8 ze5) (za2 ze5) .none kV24 dc24 pm24 an24 cd24 ct24),sl24⟩) (c24:codeIn K cd24 "_law_named" = true) (k24:keepIn K (.ref f24)=true)
    (a25:nsIn K mainGlobals "_law_same" = some (some (.ref f25))) (l25:K.lookup f25=some ⟨oc25,od25,.func (fnOf "_law_same" "_law_same" (zb2 zf3) (za8 zf3) (za2 zf3) .none kV25 dc25 pm25 an25 cd25 ct25),sl25⟩) (c25:codeIn K cd25 "_law_same" = true) (k25:keepIn K (.ref f25)=true)
    (a26:nsIn K mainGlobals "_law_things_in" = some (some (.ref f26))) (l26:K.lookup f26=some ⟨oc26,od26,.func (fnOf "_law_things_in" "_law_things_in" (zb2 zb6) (za8 zb6) (za2 zb6) .none kV26 dc26 pm26 an26 cd26 ct26),sl26⟩) (c26:codeIn K cd26 "_law_things_in" = true) (k26:keepIn K (.ref f26)=true)
    (a27:nsIn K mainGlobals "law" = some (some (.ref f27))) (l27:K.lookup f27=some ⟨oc27,od27,.func (fnOf "law" "law" (zb2 zw3) (za8 zw3) (za2 zw3) .none kV27 dc27 pm27 an27 cd27 ct27),sl27⟩) (c27:codeIn K cd27 "law" = true) (k27:keepIn K (.ref f27)=true)
    (z_all:nsIn K mainGlobals "all" = some none)
    (z_bool:nsIn K mainGlobals "bool" = some none)
    (z_dict:nsIn K mainGlobals "dict" = some none)
    (z_enumerate:nsIn K mainGlobals "enumerate" = some none)
    (z_int:nsIn K mainGlobals "int" = some none)
    (z_isinstance:nsIn K mainGlobals "isinstance" = some none)
    (z_len:nsIn K mainGlobals "len" = some none)
    (z_list:nsIn K mainGlobals "list" = some none)
    (z_range:nsIn K mainGlobals "range" = some none)
    (z_repr:nsIn K mainGlobals "repr" = some none)
    (z_set:nsIn K mainGlobals "set" = some none)
    (z_sorted:nsIn K mainGlobals "sorted" = some none)
    (z_tuple:nsIn K mainGlobals "tuple" = some none)
    (z_zip:nsIn K mainGlobals "zip" = some none)
    {p_MARKS:Addr} {t0_MARKS t1_MARKS t2_MARKS t3_MARKS t4_MARKS t5_MARKS:Tok} {o_MARKS:Value} {e_MARKS:Array Value} {n_MARKS:Nat} {s_MARKS:Array (Option Value)}
    (g_MARKS:nsIn K mainGlobals "MARKS" = some (some (.ref p_MARKS))) (h_MARKS:K.lookup p_MARKS=some ⟨o_MARKS,none,.seq e_MARKS n_MARKS,s_MARKS⟩) (j_MARKS:o_MARKS=.type "tuple") (i_MARKS:e_MARKS.toList=zv7 [[65],[66],[67],[68],[69],[70]] [t0_MARKS,t1_MARKS,t2_MARKS,t3_MARKS,t4_MARKS,t5_MARKS])
    : ∃ fd:FuncData,(∀ (s:Shared) (v:Value),BindsTo s fd ⟨[v],[]⟩ [("_law_script", v)])∧∀ base:Heap,K.In base→base.Ns mainGlobals mg→zp8 l.prog w K mg base CX0 D fa fd ["_law_script"] (spF K prog 1000 D 27 1):=by
  have X0:=X
  have e:=hfa.symm.trans (mg_of X G a27)
  cases e
  refine ⟨fnOf "law" "law" (zb2 zw3) (za8 zw3) (za2 zw3) .none kV27 dc27 pm27 an27 cd27 ct27,fun s v=>.of_eq rfl,fun base _ _=>?_⟩
  have F0:=zh4 (st:=zf8) l0 c0 k0
  have b0:=F0.binds (ps:=["thing"]) fun _ _ _ _ _ _ us hl=>yo0 (fun _=>rfl) us hl
  have F1:=zh4 (st:=ze6) l1 c1 k1
  have b1:=F1.binds (ps:=["rows", "words"]) fun _ _ _ _ _ _ us hl=>yt6 (fun _ _=>rfl) us hl
  have F2:=zh4 (st:=ze0) l2 c2 k2
  have b2:=F2.binds (ps:=["term"]) fun _ _ _ _ _ _ us hl=>yo0 (fun _=>rfl) us hl
  have F3:=zh4 (st:=zf0) l3 c3 k3
  have b3:=F3.binds (ps:=["tree"]) fun _ _ _ _ _ _ us hl=>yo0 (fun _=>rfl) us hl
  have F4:=zh4 (st:=zf5) l4 c4 k4
  have b4:=F4.binds (ps:=["rule"]) fun _ _ _ _ _ _ us hl=>yo0 (fun _=>rfl) us hl
  have F5:=zh4 (st:=zf6) l5 c5 k5
  have b5:=F5.binds (ps:=["program"]) fun _ _ _ _ _ _ us hl=>yo0 (fun _=>rfl) us hl
  have F6:=zh4 (st:=zn3) l6 c6 k6
  have b6:=F6.binds (ps:=["rule", "case", "thing"]) fun _ _ _ _ _ _ us hl=>xb3 (fun _ _ _=>rfl) us hl
  have F7:=zh4 (st:=zc2) l7 c7 k7
  have b7:=F7.binds (ps:=["rule", "case"]) fun _ _ _ _ _ _ us hl=>yt6 (fun _ _=>rfl) us hl
  have F8:=zh4 (st:=zc7) l8 c8 k8
  have b8:=F8.binds (ps:=["names", "thing"]) fun _ _ _ _ _ _ us hl=>yt6 (fun _ _=>rfl) us hl
  have F9:=zh4 (st:=zc5) l9 c9 k9
  have b9:=F9.binds (ps:=["_law_script"]) fun _ _ _ _ _ _ us hl=>yo0 (fun _=>rfl) us hl
  have F10:=zh4 (st:=zg8) l10 c10 k10
  have b10:=F10.binds (ps:=["_law_tape", "_law_many"]) fun _ _ _ _ _ _ us hl=>yt6 (fun _ _=>rfl) us hl
  have F11:=zh4 (st:=zg6) l11 c11 k11
  have b11:=F11.binds (ps:=[]) fun _ _ _ _ _ _ us hl=>len0 rfl us hl
  have F12:=zh4 (st:=zc6) l12 c12 k12
  have b12:=F12.binds (ps:=["_law_order"]) fun _ _ _ _ _ _ us hl=>yo0 (fun _=>rfl) us hl
  have F13:=zh4 (st:=zd8) l13 c13 k13
  have b13:=F13.binds (ps:=["_law_tape", "_law_most"]) fun _ _ _ _ _ _ us hl=>yt6 (fun _ _=>rfl) us hl
  have F14:=zh4 (st:=zi9) l14 c14 k14
  have b14:=F14.binds (ps:=["_law_ground_here", "_law_thing"]) fun _ _ _ _ _ _ us hl=>yt6 (fun _ _=>rfl) us hl
  have F15:=zh4 (st:=zd2) l15 c15 k15
  have b15:=F15.binds (ps:=["_law_tape", "_law_ground_here", "_law_heads", "_law_marks_here"]) fun _ _ _ _ _ _ us hl=>yZ3 (fun _ _ _ _=>rfl) us hl
  have F16:=zh4 (st:=zf4) l16 c16 k16
  have b16:=F16.binds (ps:=["_law_tape", "_law_ground_here", "_law_thing", "_law_marks_here"]) fun _ _ _ _ _ _ us hl=>yZ3 (fun _ _ _ _=>rfl) us hl
  have F17:=zh4 (st:=zg4) l17 c17 k17
  have b17:=F17.binds (ps:=["_law_tape", "_law_ground_here", "_law_marks_here", "_law_many"]) fun _ _ _ _ _ _ us hl=>yZ3 (fun _ _ _ _=>rfl) us hl
  have F18:=zh4 (st:=ze1) l18 c18 k18
  have b18:=F18.binds (ps:=["_law_tape", "_law_ground_here", "_law_marks_here", "_law_yes", "_law_no"]) fun _ _ _ _ _ _ us hl=>len5 (fun _ _ _ _ _=>rfl) us hl
  have F19:=zh4 (st:=zg5) l19 c19 k19
  have b19:=F19.binds (ps:=["_law_tape", "_law_ground_here", "_law_deep", "_law_marks_here"]) fun _ _ _ _ _ _ us hl=>yZ3 (fun _ _ _ _=>rfl) us hl
  have F20:=zh4 (st:=zd1) l20 c20 k20
  have b20:=F20.binds (ps:=["_law_tape", "_law_most", "_law_names"]) fun _ _ _ _ _ _ us hl=>xb3 (fun _ _ _=>rfl) us hl
  have F21:=zh4 (st:=zd9) l21 c21 k21
  have b21:=F21.binds (ps:=["_law_tree_here", "_law_path"]) fun _ _ _ _ _ _ us hl=>yt6 (fun _ _=>rfl) us hl
  have F22:=zh4 (st:=ze3) l22 c22 k22
  have b22:=F22.binds (ps:=["_law_tree_here"]) fun _ _ _ _ _ _ us hl=>yo0 (fun _=>rfl) us hl
  have F23:=zh4 (st:=ze4) l23 c23 k23
  have b23:=F23.binds (ps:=["_law_program_here"]) fun _ _ _ _ _ _ us hl=>yo0 (fun _=>rfl) us hl
  have F24:=zh4 (st:=ze5) l24 c24 k24
  have b24:=F24.binds (ps:=["_law_program_here", "_law_case", "_law_thing"]) fun _ _ _ _ _ _ us hl=>xb3 (fun _ _ _=>rfl) us hl
  have F25:=zh4 (st:=zf3) l25 c25 k25
  have b25:=F25.binds (ps:=["_law_found", "_law_due"]) fun _ _ _ _ _ _ us hl=>yt6 (fun _ _=>rfl) us hl
  have F26:=zh4 (st:=zb6) l26 c26 k26
  have b26:=F26.binds (ps:=["_law_rule"]) fun _ _ _ _ _ _ us hl=>yo0 (fun _=>rfl) us hl
  have F27:=zh4 (st:=zw3) l27 c27 k27
  have b27:=F27.binds (ps:=["_law_script"]) fun _ _ _ _ _ _ us hl=>yo0 (fun _=>rfl) us hl
  have M:Md K mg (fun i=>[f0,f1,f2,f3,f4,f5,f6,f7,f8,f9,f10,f11,f12,f13,f14,f15,f16,f17,f18,f19,f20,f21,f22,f23,f24,f25,f26,fa].getD i f0) (fun i=>[fnOf "is_mark" "is_mark" (zb2 zf8) (za8 zf8) (za2 zf8) .none kV0 dc0 pm0 an0 cd0 ct0,fnOf "with_each" "with_each" (zb2 ze6) (za8 ze6) (za2 ze6) .none kV1 dc1 pm1 an1 cd1 ct1,fnOf "sources_of" "sources_of" (zb2 ze0) (za8 ze0) (za2 ze0) .none kV2 dc2 pm2 an2 cd2 ct2,fnOf "things_in" "things_in" (zb2 zf0) (za8 zf0) (za2 zf0) .none kV3 dc3 pm3 an3 cd3 ct3,fnOf "marks_of" "marks_of" (zb2 zf5) (za8 zf5) (za2 zf5) .none kV4 dc4 pm4 an4 cd4 ct4,fnOf "cases_of" "cases_of" (zb2 zf6) (za8 zf6) (za2 zf6) .none kV5 dc5 pm5 an5 cd5 ct5,fnOf "named" "named" (zb2 zn3) (za8 zn3) (za2 zn3) .none kV6 dc6 pm6 an6 cd6 ct6,fnOf "names_by_mark" "names_by_mark" (zb2 zc2) (za8 zc2) (za2 zc2) .none kV7 dc7 pm7 an7 cd7 ct7,fnOf "named_thing" "named_thing" (zb2 zc7) (za8 zc7) (za2 zc7) .none kV8 dc8 pm8 an8 cd8 ct8,fnOf "_law_new_tape" "_law_new_tape" (zb2 zc5) (za8 zc5) (za2 zc5) .none kV9 dc9 pm9 an9 cd9 ct9,fnOf "_law_draw" "_law_draw" (zb2 zg8) (za8 zg8) (za2 zg8) .none kV10 dc10 pm10 an10 cd10 ct10,fnOf "_law_menu" "_law_menu" (zb2 zg6) (za8 zg6) (za2 zg6) .none kV11 dc11 pm11 an11 cd11 ct11,fnOf "_law_heights" "_law_heights" (zb2 zc6) (za8 zc6) (za2 zc6) .none kV12 dc12 pm12 an12 cd12 ct12,fnOf "_law_ground" "_law_ground" (zb2 zd8) (za8 zd8) (za2 zd8) .none kV13 dc13 pm13 an13 cd13 ct13,fnOf "_law_of" "_law_of" (zb2 zi9) (za8 zi9) (za2 zi9) .none kV14 dc14 pm14 an14 cd14 ct14,fnOf "_law_spoken" "_law_spoken" (zb2 zd2) (za8 zd2) (za2 zd2) .none kV15 dc15 pm15 an15 cd15 ct15,fnOf "_law_term" "_law_term" (zb2 zf4) (za8 zf4) (za2 zf4) .none kV16 dc16 pm16 an16 cd16 ct16,fnOf "_law_puts" "_law_puts" (zb2 zg4) (za8 zg4) (za2 zg4) .none kV17 dc17 pm17 an17 cd17 ct17,fnOf "_law_asking" "_law_asking" (zb2 ze1) (za8 ze1) (za2 ze1) .none kV18 dc18 pm18 an18 cd18 ct18,fnOf "_law_tree" "_law_tree" (zb2 zg5) (za8 zg5) (za2 zg5) .none kV19 dc19 pm19 an19 cd19 ct19,fnOf "_law_program" "_law_program" (zb2 zd1) (za8 zd1) (za2 zd1) .none kV20 dc20 pm20 an20 cd20 ct20,fnOf "_law_leaves" "_law_leaves" (zb2 zd9) (za8 zd9) (za2 zd9) .none kV21 dc21 pm21 an21 cd21 ct21,fnOf "_law_marks" "_law_marks" (zb2 ze3) (za8 ze3) (za2 ze3) .none kV22 dc22 pm22 an22 cd22 ct22,fnOf "_law_cases" "_law_cases" (zb2 ze4) (za8 ze4) (za2 ze4) .none kV23 dc23 pm23 an23 cd23 ct23,fnOf "_law_named" "_law_named" (zb2 ze5) (za8 ze5) (za2 ze5) .none kV24 dc24 pm24 an24 cd24 ct24,fnOf "_law_same" "_law_same" (zb2 zf3) (za8 zf3) (za2 zf3) .none kV25 dc25 pm25 an25 cd25 ct25,fnOf "_law_things_in" "_law_things_in" (zb2 zb6) (za8 zb6) (za2 zb6) .none kV26 dc26 pm26 an26 cd26 ct26,fnOf "law" "law" (zb2 zw3) (za8 zw3) (za2 zw3) .none kV27 dc27 pm27 an27 cd27 ct27].getD i (fnOf "is_mark" "is_mark" (zb2 zf8) (za8 zf8) (za2 zf8) .none kV0 dc0 pm0 an0 cd0 ct0)) :=
    ⟨mg_of X G a0,F0,b0,mg_of X G a1,F1,b1,mg_of X G a2,F2,b2,mg_of X G a3,F3,b3,mg_of X G a4,F4,b4,mg_of X G a5,F5,b5,mg_of X G a6,F6,b6,mg_of X G a7,F7,b7,mg_of X G a8,F8,b8,mg_of X G a9,F9,b9,mg_of X G a10,F10,b10,mg_of X G a11,F11,b11,mg_of X G a12,F12,b12,mg_of X G a13,F13,b13,mg_of X G a14,F14,b14,mg_of X G a15,F15,b15,mg_of X G a16,F16,b16,mg_of X G a17,F17,b17,mg_of X G a18,F18,b18,mg_of X G a19,F19,b19,mg_of X G a20,F20,b20,mg_of X G a21,F21,b21,mg_of X G a22,F22,b22,mg_of X G a23,F23,b23,mg_of X G a24,F24,b24,mg_of X G a25,F25,b25,mg_of X G a26,F26,b26,mg_of X G a27,F27,b27,
     mg_none_of X G z_all,mg_none_of X G z_bool,mg_none_of X G z_dict,mg_none_of X G z_enumerate,mg_none_of X G z_int,mg_none_of X G z_isinstance,mg_none_of X G z_len,mg_none_of X G z_list,mg_none_of X G z_range,mg_none_of X G z_repr,mg_none_of X G z_set,mg_none_of X G z_sorted,mg_none_of X G z_tuple,mg_none_of X G z_zip,
     fun {X C pos} eK em hg=>by subst eK em;exact ⟨xd7 hg (mg_of X0 G g_MARKS) h_MARKS j_MARKS i_MARKS rfl (by decide) (by decide)⟩⟩
  exact (all (P:=l.prog) (w:=w) (base:=base) M 1000 D).h27
theorem yW5 {K:Frag} {H:Hp} {a:Addr} {ns:List Int} {E:XK} (h63:ns.length≤63) (hS:SqL K H a (ns.map V.int)):spF K prog 1000 10 27 1 [.ref a] H (fun v _=>v=.bl true) E:=by
 obtain ⟨st,e⟩:=yW3 1000 0 ns h63
 exact ⟨rfl,al0,[],_,_,st,yl2,ys8 hS,e,fun w H x r v h=>yO3 h⟩
theorem walk {l:PySem.W.OpenLaw} {q:Program} {loose:List Str} {XP:(Str→Option Value)→Heap→Prop} {YP:World→Heap→Prop} {d:DefRec} {K:Params→Frag} (hn:l.most=some 63) (hdf:d.params.defaults=[]) (hY:∀ (w:World) (h:Heap),YP w h→(K w.params).In h)
  (F:∀ (w:World) (mg:Str→Option Value) (fa:Addr) (h:Heap),(K w.params).In h→h.Ns mainGlobals mg→mg d.name=some (.ref fa) →
   ∃ fd:FuncData,(∀ (s:Shared) (u:Value),BindsTo s fd ⟨[u],[]⟩ [("_law_script", u)])∧∀ base:Heap,(K w.params).In base→base.Ns mainGlobals mg→zp8 l.prog w (K w.params) mg base CX0 10 fa fd ["_law_script"] (spF (K w.params) prog 1000 10 27 1)) :
  PySem.W.WalkO q loose XP YP l.row.toRowW d [] (fun f vs=>PySem.call f vs) :=
 L2.xc4 (n:=63) (k:=10) (x := "_law_script") (CX:=fun _=>CX0) (sp:=fun w=>spF (K w.params) prog 1000 10 27 1) hn (by decide) hdf ⟨rfl,by decide,by decide,rfl⟩ hY F (fun _ _ a ns hl _ hS=>yW5 hl hS) fun _ _ _ _ _ z=>z
end LA
noncomputable def PySem.W.Fast.tw11632486916529160815:PySem.Program:=PySem.Challenge.pw_onlyrise_k21_cases
theorem PySem.W.Fast.te11632486916529160815:PySem.Challenge.pw_onlyrise_k21_cases=PySem.W.Fast.tw11632486916529160815:=rfl
open PySem PySem.W PyProof.Rows
theorem OR.walkX_of {q:Program} {l:List Str} {XP:(Str→Option Value)→Heap→Prop} {r:RowW} {d:DefRec} {kwd:List (Str×Expr)} {run:Value→List Value→Sem Value} {K:Params→Frag} {as:List Addr} {n t:Nat} (e:∀ P,as=(K P).map (·.1)) (h:WalkO q l XP (fun w hp=>(K w.params).In hp) r d kwd run):WalkX q l XP (X.obsZ as) (X.valZ K n t) r d kwd run :=
 fun w _ _ _ _ G y _ _ _ _ _ _ _ a b c f g h1 _ _ _ L=>h w _ _ _ _ G (InK.keeps w _ _ (X.z_facts e y).2.1 L.keeps) _ _ _ _ _ _ _ a b c f g h1 _ _ _
set_option maxRecDepth 100000 in
set_option maxHeartbeats 0 in
theorem PySem.Challenge.cw_onlyrise_k21_cases_holds : PySem.Challenge.rw_onlyrise_k21_cases.Holds := by
 w_on;o_law;z_head;(case hw=>w_witness2)
 k_fill
 refine OR.walkX_of (fun _=>by kernel_rfl) (LA.walk (l:=PySem.Challenge.rw_onlyrise_k21_cases) rfl rfl (fun w h Y=>Y) ?F)
 case F =>
  intro w mg fa h KX G hmg
  refine' LA.all_mk KX G hmg 10 ?_ ?_ ?_ ?_ ?_ ?_ ?_ ?_ ?_ ?_ ?_ ?_ ?_ ?_ ?_ ?_ ?_ ?_ ?_ ?_ ?_ ?_ ?_ ?_ ?_ ?_ ?_ ?_ ?_ ?_ ?_ ?_ ?_ ?_ ?_ ?_ ?_ ?_ ?_ ?_ ?_ ?_ ?_ ?_ ?_ ?_ ?_ ?_ ?_ ?_ ?_ ?_ ?_ ?_ ?_ ?_ ?_ ?_ ?_ ?_ ?_ ?_ ?_ ?_ ?_ ?_ ?_ ?_ ?_ ?_ ?_ ?_ ?_ ?_ ?_ ?_ ?_ ?_ ?_ ?_ ?_ ?_ ?_ ?_ ?_ ?_ ?_ ?_ ?_ ?_ ?_ ?_ ?_ ?_ ?_ ?_ ?_ ?_ ?_ ?_ ?_ ?_ ?_ ?_ ?_ ?_ ?_ ?_ ?_ ?_ ?_ ?_ ?_ ?_ ?_ ?_ ?_ ?_ ?_ ?_ ?_ ?_ ?_ ?_ ?_ ?_ ?_ ?_ ?j_MARKS ?i_MARKS
  (case j_MARKS=>first | rfl | decide +kernel)
  (case i_MARKS=>first | rfl | decide +kernel)
  all_goals try k_is
