import PyProof.Rows.All
import Wide.All
import OpenK.AllK
import Wide.FinOn
import Lean
import PyProof.EqAt
import PyProof.EqKinds
import PyProof.TupleCall
import PyProof.Rows.SortShellK
import KE.KSortTup
import PyProof.StrOps
import PyProof.TupleOfSeq
import PyProof.ZipIter
import PyProof.TupleIter
import PyProof.WalksMore
import PyProof.Draws
import PyProof.EnumFor
import PyProof.EnumMake
import PyProof.AttrMiss
import KE.KDictOf
import PyProof.EnumStmt
import PyProof.CollectIter
import PyProof.TupleOfGen
import KE.KRevIter
import PyProof.TwoTypesSub
import PyProof.AutoIntG7
import PyProof.FactsAll.bool
import PySem.Challenge.RW_onlyrise_k73_what_is_an_asking
set_option bootstrap.genMatcherCode false
set_option genSizeOf false
set_option Elab.async false
set_option linter.all false
set_option maxRecDepth 100000
set_option maxHeartbeats 4000000
open PySem.W (Frag fnOf nsIn keepIn codeIn mg_of mg_none_of)
namespace OR
inductive PV where
 |non
 |bl (b:Bool)
 |int (i:Int)
 |str (cs:List Nat)
 |tup (xs:List PV)
 |lst (xs:List PV)
deriving Inhabited
mutual
noncomputable def PV.beq:PV→PV→Bool
 |.non,.non=>true
 |.bl a,.bl b=>a==b
 |.int a,.int b=>decide (a=b)
 |.str a,.str b=>decide (a=b)
 |.tup a,.tup b=>PV.beqs a b
 |.lst a,.lst b=>PV.beqs a b
 |_,_=>false
noncomputable def PV.beqs:List PV→List PV→Bool
 |[],[]=>true
 |a::r,b::s=>PV.beq a b&&PV.beqs r s
 |_,_=>false
end
mutual
theorem PV.eq_of_beq:∀{a b:PV},PV.beq a b=true→a=b
 |.non,b,h=>by cases b <;> simp[PV.beq]at h <;> rfl
 |.bl a,b,h=>by cases b <;> simp[PV.beq]at h <;> rw[h]
 |.int a,b,h=>by cases b <;> simp[PV.beq]at h <;> rw[h]
 |.str a,b,h=>by cases b <;> simp[PV.beq]at h <;> rw[h]
 | .tup a,b,h=>by
  cases b <;> simp only[PV.beq,Bool.false_eq_true]at h
  rw[PV.eqs_of_beqs h]
 | .lst a,b,h=>by
  cases b <;> simp only[PV.beq,Bool.false_eq_true]at h
  rw[PV.eqs_of_beqs h]
theorem PV.eqs_of_beqs:∀{a b:List PV},PV.beqs a b=true→a=b
 |[],b,h=>by cases b <;> simp[PV.beqs]at h <;> rfl
 | x::r,b,h=>by
  cases b with
  |nil=>simp[PV.beqs]at h
  | cons y s =>
   simp only[PV.beqs,Bool.and_eq_true]at h
   rw[PV.eq_of_beq h.1,PV.eqs_of_beqs h.2]
end
mutual
theorem PV.beq_self:∀(a:PV),PV.beq a a=true
 |.non=>rfl
 |.bl _=>by simp[PV.beq]
 |.int _=>by simp[PV.beq]
 |.str _=>by simp[PV.beq]
 |.tup a=>by rw[PV.beq];exact PV.beqs_self a
 |.lst a=>by rw[PV.beq];exact PV.beqs_self a
theorem PV.beqs_self:∀(a:List PV),PV.beqs a a=true
 |[]=>rfl
 |x::r=>by rw[PV.beqs,PV.beq_self x,PV.beqs_self r];rfl
end
noncomputable instance:DecidableEq PV:=fun a b=>if h:PV.beq a b=true then .isTrue (PV.eq_of_beq h)else .isFalse fun e=>h (e▸PV.beq_self a)
mutual
/-- == of the language -/
noncomputable def pyEq:PV→PV→Bool
 |.non,.non=>true
 |.bl a,.bl b=>a==b
 |.bl a,.int i=>decide ((if a then 1 else 0)=i)
 |.int i,.bl a=>decide (i=(if a then 1 else 0))
 |.int a,.int b=>decide (a=b)
 |.str a,.str b=>decide (a=b)
 |.tup a,.tup b=>pyEqs a b
 |.lst a,.lst b=>pyEqs a b
 |_,_=>false
noncomputable def pyEqs:List PV→List PV→Bool
 |[],[]=>true
 |a::r,b::s=>pyEq a b&&pyEqs r s
 |_,_=>false
end
mutual
/-- how deep a value goes -/
noncomputable def dep:PV→Nat
 |.tup xs=>deps xs+1
 |.lst xs=>deps xs+1
 |_=>0
noncomputable def deps:List PV→Nat
 |[]=>0
 |x::r=>max (dep x) (deps r)
end
@[simp] theorem xm1:dep .non=0:=by rw[dep] <;> simp
@[simp] theorem dep_bl{b}:dep (.bl b)=0:=by rw[dep] <;> simp
@[simp] theorem xp6{b}:dep (.int b)=0:=by rw[dep] <;> simp
@[simp] theorem xm5{b}:dep (.str b)=0:=by rw[dep] <;> simp
@[simp] theorem zB8{xs}:dep (.tup xs)=deps xs+1:=by rw[dep]
@[simp] theorem yr6{xs}:dep (.lst xs)=deps xs+1:=by rw[dep]
@[simp] theorem xk5:deps []=0:=by rw[deps]
@[simp] theorem yT4{x r}:deps (x::r)=max (dep x) (deps r):=by rw[deps]
noncomputable def zk2(m n:Nat):Bool:=decide (m≤100) ||decide (n≤100)
@[simp] theorem xs7{n}:zk2 0 n=true:=by simp[zk2]
@[simp] theorem xo2{n}:zk2 n 0=true:=by simp[zk2]
inductive Val where
 |p (v:PV)
 |ref (n:Nat)
deriving Inhabited
inductive zz8 where
 |lst (xs:List PV)
 |dct (kvs:List (PV×PV))
 |dtt (kvs:List (PV×PV))
 |dead
deriving Inhabited
noncomputable abbrev za6:=List zz8
noncomputable abbrev Env:=List (Option Val)
inductive Res(α:Type) where
 |ok (a:α) (st:za6)
 |exn (cls:Nat) (args:List PV) (st:za6)
 |stuck
noncomputable def Res.bind{α β:Type}:Res α→(α→za6→Res β)→Res β
 |.ok a st,f=>f a st
 |.exn c as st,_=>.exn c as st
 |.stuck,_=>.stuck
@[simp] theorem Res.bind_ok{α β:Type}(a:α)(st:za6)(f:α→za6→Res β):(Res.ok a st).bind f=f a st:=rfl
@[simp] theorem Res.bind_stuck{α β:Type}(f:α→za6→Res β):(Res.stuck:Res α).bind f=.stuck:=rfl
@[simp] theorem Res.bind_exn{α β:Type}(c as st)(f:α→za6→Res β):(Res.exn c as st:Res α).bind f=.exn c as st:=rfl
noncomputable def zd0(st:za6)(n:Nat):Option zz8:=st[n]?
theorem zI2{st:za6}{n:Nat}{o:zz8}(h:n<st.length):zd0 (st.set n o) n=some o:=by unfold zd0;simp[h]
theorem zC7{st:za6}{n m:Nat}{o:zz8}(h:m≠n):zd0 (st.set n o) m=zd0 st m:=by unfold zd0;simp[Ne.symm h]
@[simp] theorem zz6{st:za6}{o:zz8}:zd0 (st++[o]) st.length=some o:=by unfold zd0;simp
theorem zF6{st r:za6}{n:Nat}(h:n<st.length):zd0 (st++r) n=zd0 st n:=by unfold zd0;rw[List.getElem?_append_left h]
theorem zv4{st:za6}{n:Nat}{o:zz8}(h:zd0 st n=some o):n<st.length:=(List.getElem?_eq_some_iff.mp h).1
noncomputable def view(st:za6):Val→Option PV
 |.p v=>some v
 | .ref n=>match zd0 st n with
  |some (.lst xs)=>some (.lst xs)
  |_=>none
@[simp] theorem view_p(st:za6)(v:PV):view st (.p v)=some v:=rfl
noncomputable def Res.bindV{β:Type}(r:Res Val)(f:PV→za6→Res β):Res β:=r.bind fun v st=>match view st v with
 |some x=>f x st
 |none=>.stuck
@[simp] theorem Res.bindV_ok{β:Type}(v:PV)(st:za6)(f:PV→za6→Res β):(Res.ok (Val.p v) st).bindV f=f v st:=rfl
noncomputable def Res.bindB{β:Type}(r:Res Val)(f:Bool→za6→Res β):Res β:=r.bind fun v st=>match v with
 |.p (.bl b)=>f b st
 |_=>.stuck
@[simp] theorem Res.bindB_ok{β:Type}(b:Bool)(st:za6)(f:Bool→za6→Res β):(Res.ok (Val.p (.bl b)) st).bindB f=f b st:=rfl
noncomputable def Res.bindP{β:Type}(r:Res Val)(f:PV→za6→Res β):Res β:=r.bind fun v st=>match v with
 |.p x=>f x st
 |_=>.stuck
@[simp] theorem Res.bindP_ok{β:Type}(v:PV)(st:za6)(f:PV→za6→Res β):(Res.ok (Val.p v) st).bindP f=f v st:=rfl
inductive Bop where |add |sub |mul |fdiv |mod |pow |shl |shr |band |subB
inductive Cop where |eq |ne |lt |le |gt |ge |isIn |notIn |isNone |notNone |ltR
inductive Ty where |int |str |bool |list |tuple
inductive Bf where
 |len |isinst (t:Ty)|all |any |min1 |max1 |min2 |max2 |sum |toInt |toStr |repr |tuple |list |sorted |lenSet |abs |sortSet
inductive Mt where
 |find |upper |join |index |count |split |partition |startswith |endswith
 |append |extend |insert |pop |reverse |clear
inductive Tg where |name (i:Nat)|tup (is:List Nat)
mutual
inductive E where
 |var (i:Nat)
 |const (v:PV)
 |bin (op:Bop) (a b:E)
 |neg (a:E)
 |not (a:E)
 |cmp (op:Cop) (a b:E)
 |chain (op op':Cop) (a b c:E)
 |and (a b:E)
 |or (a b:E)
 |ite (c a b:E)
 |tup (es:List E)
 |list (mt:Bool) (es:List E)
 |dict (ks:List PV) (es:List E)
 |ix (a b:E)
 |slice (a:E) (lo hi:Option E)
 |call (f:Nat) (es:List E)
 |blt (f:Bf) (es:List E)
 |meth (m:Mt) (o:E) (es:List E)
 |comp (mt:Bool) (elt:E) (tgt:Tg) (it:It) (cond:Option E) (caps:List Nat) (n:Nat)
 |freeze (e:E)
 |thaw (e:E)
 |rev (e:E)
 |dictZ (a b:E)
 |dget (o k d:E)
 |dnewT
 |tget (o k:E)
 |tin (neg:Bool) (k o:E)
 |tcopy (e:E)
 |teq (neg:Bool) (a b:E)
inductive It where
 |of (e:E)
 |range (e:E)
 |zip (es:List E)
 |zipR (a b:E)
 |enum (e:E)
end
inductive S where
 |expr (e:E)
 |ret (e:E)
 |set (i:Nat) (e:E)
 |setT (is:List Nat) (e:E)
 |setIx (o i v:E)
 |tput (fs:List (List Nat)) (o k v:E)
 |aug (i:Nat) (op:Bop) (e:E)
 |augI (i:Nat) (op:Bop) (e:E)
 |ite (c:E) (a b:List S)
 |for (tgt:Tg) (it:It) (body:List S)
 |while (c:E) (body:List S)
 |pass
inductive Flow where
 |next (env:Env)
 |ret (v:Val)
@[irreducible] noncomputable def SZ:Nat:=16777216
noncomputable def zk7(i:Int):Bool:=decide (-(2 ^ 64)<i∧i<2 ^ 64)
@[simp] noncomputable def bAdd:PV→PV→Option PV
 |.int i,.int j=>some (.int (i+j))
 |.str a,.str b=>if a.length+b.length≤SZ then some (.str (a++b))else none
 |.tup a,.tup b=>if a.length+b.length≤SZ then some (.tup (a++b))else none
 |.lst a,.lst b=>if a.length+b.length≤SZ then some (.lst (a++b))else none
 |_,_=>none
@[simp] noncomputable def bSub:PV→PV→Option PV
 |.int i,.int j=>some (.int (i-j))
 |_,_=>none
@[simp] noncomputable def bMul:PV→PV→Option PV
 |.int i,.int j=>if zk7 i ||zk7 j then some (.int (i*j))else none
 |.str a,.int n=>if 0≤n∧n≤1000000∧a.length*n.toNat≤SZ then some (.str (List.replicate n.toNat a).flatten)else none
 |.lst a,.int n=>if 0≤n∧n≤1000000∧a.length*n.toNat≤SZ then some (.lst (List.replicate n.toNat a).flatten)else none
 |_,_=>none
@[simp] noncomputable def xg6:PV→PV→Option PV
 |.int i,.int j=>if 0<j∧j<1000000000000000000000000000000 then some (.int (i/j))else none
 |_,_=>none
@[simp] noncomputable def bMod:PV→PV→Option PV
 |.int i,.int j=>if 0<j then some (.int (i%j))else none
 |_,_=>none
@[simp] noncomputable def bPow:PV→PV→Option PV
 |.int i,.int j=>if 0≤j∧j≤1000000∧zk7 i then some (.int (i ^ j.toNat))else none
 |_,_=>none
@[simp] noncomputable def bShl:PV→PV→Option PV
 |.int i,.int j=>if 0≤j∧j≤1000000∧zk7 i then some (.int (i*2 ^ j.toNat))else none
 |_,_=>none
@[simp] noncomputable def bShr:PV→PV→Option PV
 |.int i,.int j=>if 0≤j then some (.int (i/2 ^ j.toNat))else none
 |_,_=>none
@[simp] noncomputable def yX2:PV→PV→Option PV
 |.int i,.int j=>if j=1∧0≤i then some (.int (i%2))else none
 |_,_=>none
@[simp] noncomputable def xl9:PV→PV→Option PV
 |.int i,.int j=>some (.int (i-j))
 |.int i,.bl b=>some (.int (i-if b then 1 else 0))
 |_,_=>none
@[simp] noncomputable def zX6(op:Bop)(x y:PV):Option PV:=match op with
 |.add=>bAdd x y
 |.sub=>bSub x y
 |.mul=>bMul x y
 |.fdiv=>xg6 x y
 |.mod=>bMod x y
 |.pow=>bPow x y
 |.shl=>bShl x y
 |.shr=>bShr x y
 |.band=>yX2 x y
 |.subB=>xl9 x y
noncomputable def zA5(b:List Nat):List Nat→Bool
 |[]=>b.isEmpty
 |x::r=>b.isPrefixOf (x::r) ||zA5 b r
noncomputable def findIn(b:List Nat):List Nat→Nat→Option Nat
 |[],k=>if b.isEmpty then some k else none
 |x::r,k=>if b.isPrefixOf (x::r)then some k else findIn b r (k+1)
noncomputable def xn1(b a:List Nat):Int:=match findIn b a 0 with
 |some k=>(k:Int)
 |none=>-1
noncomputable def strLt:List Nat→List Nat→Bool
 |_,[]=>false
 |[],_::_=>true
 |x::r,y::s=>if x<y then true else if y<x then false else strLt r s
noncomputable def zq0:List PV→Option (List (List Nat))
 |[]=>some []
 |.str c::r=>(zq0 r).map (c :: ·)
 |_=>none
noncomputable def xn3:PV→PV→Option PV
 | .tup a,.tup b=>match zq0 a,zq0 b with
  |some x,some y=>some (.bl (decide (x<y)))
  |_,_=>none
 |_,_=>none
noncomputable def zh0(x:PV)(xs:List PV):Bool:=xs.any fun y=>pyEq y x
@[simp] noncomputable def isIn:PV→PV→Option Bool
 |.str a,.str b=>some (zA5 a b)
 |x,.tup xs=>if zk2 (dep x) (deps xs)then some (zh0 x xs)else none
 |x,.lst xs=>if zk2 (dep x) (deps xs)then some (zh0 x xs)else none
 |_,_=>none
@[simp] noncomputable def yd0(p:Int→Int→Bool):PV→PV→Option PV
 |.int i,.int j=>some (.bl (p i j))
 |_,_=>none
@[simp] noncomputable def zX3(neg:Bool):PV→PV→Option PV
 |.non,.non=>some (.bl (!neg))
 |_,.non=>some (.bl neg)
 |.bl a,.bl b=>some (.bl ((a==b) != neg))
 |_,.bl _=>some (.bl neg)
 |_,_=>none
@[simp] noncomputable def zo8(op:Cop)(x y:PV):Option PV:=match op with
 |.eq=>if zk2 (dep x) (dep y)then some (.bl (pyEq x y))else none
 |.ne=>if zk2 (dep x) (dep y)then some (.bl (!pyEq x y))else none
 |.lt=>yd0 (fun i j=>decide (i<j)) x y
 |.le=>yd0 (fun i j=>decide (i≤j)) x y
 |.gt=>yd0 (fun i j=>decide (j<i)) x y
 |.ge=>yd0 (fun i j=>decide (j≤i)) x y
 |.isIn=>(isIn x y).map .bl
 |.notIn=>(isIn x y).map fun b=>.bl (!b)
 |.isNone=>zX3 false x y
 |.notNone=>zX3 true x y
 |.ltR=>xn3 x y
noncomputable def zf0(n:Nat)(i:Int):Option Nat:=if 0≤i then (if i<n then some i.toNat else none)else if -(n:Int)≤i then some (i+n).toNat else none
@[simp] noncomputable def yv0:PV→PV→Option PV
 |.tup xs,.int i=>(zf0 xs.length i).bind fun j=>xs[j]?
 |.lst xs,.int i=>(zf0 xs.length i).bind fun j=>xs[j]?
 |.str cs,.int i=>(zf0 cs.length i).bind fun j=>(cs[j]?).map fun c=>.str [c]
 |_,_=>none
noncomputable def sIx(n d:Nat):Option Int→Nat
 |none=>d
 |some i=>if 0≤i then min i.toNat n else (n+i).toNat
noncomputable def cut{α:Type}(xs:List α)(lo hi:Option Int):List α:=(xs.drop (sIx xs.length 0 lo)).take (sIx xs.length xs.length hi-sIx xs.length 0 lo)
@[simp] noncomputable def sliceOp:PV→Option Int→Option Int→Option PV
 |.tup xs,lo,hi=>some (.tup (cut xs lo hi))
 |.lst xs,lo,hi=>some (.lst (cut xs lo hi))
 |.str cs,lo,hi=>some (.str (cut cs lo hi))
 |_,_,_=>none
noncomputable def zL3(k:PV):List (PV×PV)→Option PV
 |[]=>none
 |(k',v)::r=>if k'=k then some v else zL3 k r
noncomputable def zQ3(k v:PV)(kvs:List (PV×PV)):List (PV×PV):=if (kvs.any fun p=>decide (p.1=k))=true then kvs.map (fun p=>if p.1=k then (p.1,v)else p)else kvs++[(k,v)]
@[simp] noncomputable def zH5:Ty→PV→Bool
 |.int,.int _=>true
 |.int,.bl _=>true
 |.str,.str _=>true
 |.bool,.bl _=>true
 |.list,.lst _=>true
 |.tuple,.tup _=>true
 |_,_=>false
noncomputable def zn3:List PV→Option Bool
 |[]=>some true
 |.bl b::r=>(zn3 r).map (b && ·)
 |_=>none
noncomputable def zo5:List PV→Option (List Int)
 |[]=>some []
 |.int i::r=>(zo5 r).map (i :: ·)
 |_=>none
noncomputable def minL:Int→List Int→Int
 |m,[]=>m
 |m,x::r=>minL (if x<m then x else m) r
noncomputable def yF9:Int→List Int→Int
 |m,[]=>m
 |m,x::r=>yF9 (if m<x then x else m) r
noncomputable def okO(o:Option PV)(st:za6):Res Val:=match o with |some v=>.ok (.p v) st |none=>.stuck
@[simp] theorem xk0(v:PV)(st:za6):okO (some v) st=.ok (.p v) st:=rfl
@[simp] theorem xj7(st:za6):okO none st=.stuck:=rfl
noncomputable def xa5:List Nat:=[84,114,117,101]
noncomputable def yG0:List Nat:=[70,97,108,115,101]
noncomputable def okC(c:Nat):Bool:=decide (32≤c∧c≤126∧c≠39∧c≠92)
noncomputable def zC4(i:Int):List Nat:=(toString i).toList.map Char.toNat
noncomputable def yP9:List (List Nat)→List Nat
 |[]=>[]
 |[x]=>x
 |x::r=>x++[44,32]++yP9 r
noncomputable def yW7(ts:List (List Nat)):List Nat:=[40]++yP9 ts++(if ts.length=1 then[44,41]else[41])
noncomputable def yZ3(ts:List (List Nat)):List Nat:=[91]++yP9 ts++[93]
mutual
/-- a value written -/
noncomputable def shownP:PV→Option (List Nat)
 |.non=>some [78,111,110,101]
 |.bl true=>some xa5
 |.bl false=>some yG0
 |.int i=>if i.natAbs.log2<1920 then some (zC4 i)else none
 |.str cs=>if cs.all okC then some ([39]++cs++[39])else none
 | .tup xs=>match shownPs xs with
  |some ts=>some (yW7 ts)
  |none=>none
 | .lst xs=>match shownPs xs with
  |some ts=>some (yZ3 ts)
  |none=>none
noncomputable def shownPs:List PV→Option (List (List Nat))
 |[]=>some []
 | x::r=>match shownP x with
  | some t=>match shownPs r with
   |some ts=>some (t::ts)
   |none=>none
  |none=>none
end
noncomputable def yy2(x:PV):Option (List Nat):=match shownP x with
 |some t=>if dep x≤100∧t.length≤SZ then some t else none
 |none=>none
@[simp] noncomputable def xb3:PV→Option (List Nat)
 |.bl true=>some xa5
 |.bl false=>some yG0
 |x=>yy2 x
@[simp] noncomputable def ze9:PV→Option (List PV)
 |.tup xs=>some xs
 |.lst xs=>some xs
 |.str cs=>some (cs.map fun c=>.str [c])
 |_=>none
@[simp] noncomputable def xr7:PV→Option PV
 |.tup xs=>some (.int xs.length)
 |.lst xs=>some (.int xs.length)
 |.str cs=>some (.int cs.length)
 |_=>none
@[simp] noncomputable def zY0(f:List PV→Option PV):PV→Option PV
 |.lst xs=>f xs
 |_=>none
@[simp] noncomputable def f1(f:PV→Option PV):List PV→Option PV
 |[x]=>f x
 |_=>none
@[simp] noncomputable def f2(f:PV→PV→Option PV):List PV→Option PV
 |[x,y]=>f x y
 |_=>none
@[simp] noncomputable def fI2(f:Int→Int→Int):PV→PV→Option PV
 |.int i,.int j=>some (.int (f i j))
 |_,_=>none
@[simp] noncomputable def xs2:PV→Option PV
 |.int i=>some (.int i)
 |.bl b=>some (.int (if b then 1 else 0))
 |_=>none
@[simp] noncomputable def yn4:PV→Option PV
 |.tup xs=>some (.tup xs)
 |.lst xs=>some (.tup xs)
 |_=>none
@[simp] noncomputable def xd5:PV→Option PV
 |.tup xs=>some (.lst xs)
 |.lst xs=>some (.lst xs)
 |_=>none
noncomputable def xl8(i:Int):List Int→List Int
 |[]=>[i]
 |x::r=>if i<x then i::x::r else if x<i then x::xl8 i r else x::r
noncomputable def xt6(i:List Nat):List (List Nat)→List (List Nat)
 |[]=>[i]
 |x::r=>if strLt i x then i::x::r else if strLt x i then x::xt6 i r else x::r
noncomputable def yC6(xs:List PV):Option PV:=match zo5 xs with
 |some l=>if l.length<4000∧(l.foldl (fun d i=>xl8 i d) []).length<64 then some (.lst ((l.foldl (fun d i=>xl8 i d) []).map .int))else none
 | none=>match zq0 xs with
  |some l=>if l.length<4000∧(l.foldl (fun d i=>xt6 i d) []).length<64 then some (.lst ((l.foldl (fun d i=>xt6 i d) []).map .str))else none
  |none=>none
noncomputable def zX5(i:List Nat):List (List Nat)→List (List Nat)
 |[]=>[i]
 |x::r=>if strLt i x then i::x::r else x::zX5 i r
@[simp] noncomputable def zr9:PV→Option (List PV)
 |.tup xs=>some xs
 |.lst xs=>some xs
 |_=>none
noncomputable def yc2(i:List (List Nat)):List (List (List Nat))→List (List (List Nat))
 |[]=>[i]
 |x::r=>if i<x then i::x::r else x::yc2 i r
noncomputable def rowsOf:List PV→Option (List (List (List Nat)))
 |[]=>some []
 | .tup xs::r=>match zq0 xs with
  |some (y::ys)=>(rowsOf r).map ((y::ys) :: ·)
  |_=>none
 |_=>none
noncomputable def zn2(r:List (List Nat)):PV:=.tup (r.map .str)
noncomputable def zz9(x:PV):Option PV:=match zr9 x with
 | some xs=>match zq0 xs with
  |some l=>if l.length<64 then some (.lst ((l.foldl (fun d i=>zX5 i d) []).map .str))else none
  | none=>match rowsOf xs with
   |some l=>if l.length<64 then some (.lst ((l.foldl (fun d i=>yc2 i d) []).map zn2))else none
   |none=>none
 |none=>none
noncomputable def fMin(xs:List PV):Option PV:=match zo5 xs with
 |some (i::r)=>some (.int (minL i r))
 |_=>none
noncomputable def fMax(xs:List PV):Option PV:=match zo5 xs with
 |some (i::r)=>some (.int (yF9 i r))
 |_=>none
@[simp] noncomputable def fStr:PV→Option PV
 |.int i=>if i.natAbs.log2<1920 then some (.str (zC4 i))else none
 |.bl true=>some (.str [84,114,117,101])
 |.bl false=>some (.str [70,97,108,115,101])
 |_=>none
@[simp] noncomputable def bfOp(f:Bf)(xs:List PV):Option PV:=match f with
 |.len=>f1 xr7 xs
 |.isinst t=>f1 (fun v=>some (.bl (zH5 t v))) xs
 |.all=>f1 (zY0 fun l=>(zn3 l).map .bl) xs
 |.min1=>f1 (zY0 fMin) xs
 |.max1=>f1 (zY0 fMax) xs
 |.min2=>f2 (fI2 fun i j=>if j<i then j else i) xs
 |.max2=>f2 (fI2 fun i j=>if i<j then j else i) xs
 |.sum=>f1 (zY0 fun l=>(zo5 l).map fun l=>.int l.sum) xs
 |.toInt=>f1 xs2 xs
 |.toStr=>f1 fStr xs
 |.repr=>f1 (fun v=>(xb3 v).map .str) xs
 |.tuple=>f1 yn4 xs
 |.list=>f1 xd5 xs
 |.sortSet=>f1 (zY0 yC6) xs
 |.sorted=>f1 zz9 xs
 |_=>none
noncomputable def upC(c:Nat):Nat:=if 97≤c∧c≤122 then c-32 else c
noncomputable def yX6(sep:List Nat):List (List Nat)→List Nat
 |[]=>[]
 |[x]=>x
 |x::r=>x++sep++yX6 sep r
@[simp] noncomputable def xn6:PV→List PV→Option PV
 |.str a,[.str b]=>some (.int (xn1 b a))
 |_,_=>none
@[simp] noncomputable def yX0:PV→List PV→Option PV
 |.str a,[]=>if a.all (· < 128)then some (.str (a.map upC))else none
 |_,_=>none
@[simp] noncomputable def xp9:PV→List PV→Option PV
 | .str sep,[.lst xs]=>match zq0 xs with
  |some l=>if (l.map List.length).sum+l.length*sep.length≤SZ then some (.str (yX6 sep l))else none
  |none=>none
 |_,_=>none
noncomputable def yn1(x:PV):List PV→Option Nat
 |[]=>none
 |y::r=>if pyEq y x then some 0 else (yn1 x r).map (· + 1)
noncomputable def yG1(x:PV)(xs:List PV):Option PV:=if zk2 (dep x) (deps xs)then (yn1 x xs).map fun k=>.int (k:Int)else none
@[simp] noncomputable def yT5:PV→List PV→Option PV
 |.lst xs,[x]=>yG1 x xs
 |.tup xs,[x]=>yG1 x xs
 |_,_=>none
@[simp] noncomputable def xh3:PV→List PV→Option PV
 |.lst xs,[x]=>if zk2 (dep x) (deps xs)then some (.int ((xs.filter fun y=>pyEq y x).length:Nat))else none
 |_,_=>none
@[simp] noncomputable def mtOp(m:Mt)(o:PV)(xs:List PV):Option PV:=match m with
 |.find=>xn6 o xs
 |.upper=>yX0 o xs
 |.join=>xp9 o xs
 |.index=>yT5 o xs
 |.count=>xh3 o xs
 |_=>none
@[simp] noncomputable def zr7:Tg→Val→za6→Env→Option Env
 |.name i,v,_,env=>some (env.set i (some v))
 | .tup is,v,st,env=>match view st v with
  |some (.tup xs)=>if is.length=xs.length then some ((is.zip xs).foldl (fun e p=>e.set p.1 (some (.p p.2))) env)else none
  |_=>none
noncomputable def zG9(st:za6):Option (Nat×List PV)→Bool
 |none=>true
 |some (n,xs)=>decide (view st (.ref n)=some (.lst xs))
@[simp] theorem zl4(st:za6):zG9 st none=true:=rfl
noncomputable def compLoop(fe:Env→za6→Res Val)(fc:Option (Env→za6→Res Val))(tgt:Tg)(src:Option (Nat×List PV)):List PV→Env→za6→List PV→Res (List PV)
 |[],_,st,acc=>if zG9 st src then .ok acc st else .stuck
 | x::r,env,st,acc =>
  if zG9 st src then
   match zr7 tgt (.p x) st env with
   |none=>.stuck
   | some env'=>(match fc with |none=>Res.ok (Val.p (.bl true)) st |some f=>f env' st).bindB fun b st1 =>
     if b then (fe env' st1).bindP fun y st2=>compLoop fe fc tgt src r env' st2 (acc++[y])
     else compLoop fe fc tgt src r env' st1 acc
  else .stuck
noncomputable def zq8(body:Env→za6→Res Flow)(tgt:Tg)(src:Option (Nat×List PV)):List PV→Env→za6→Res Flow
 |[],env,st=>if zG9 st src then .ok (.next env) st else .stuck
 | x::r,env,st =>
  if zG9 st src then
   match zr7 tgt (.p x) st env with
   |none=>.stuck
   | some env'=>(body env' st).bind fun f st1=>match f with
    |.next env2=>zq8 body tgt src r env2 st1
    |.ret v=>.ok (.ret v) st1
  else .stuck
noncomputable def zm3(c:Env→za6→Res Val)(body:Env→za6→Res Flow):Nat→Env→za6→Res Flow
 |0,_,_=>.stuck
 | k+1,env,st=>(c env st).bindB fun b st1=>if b then (body env st1).bind fun f st2=>match f with
   |.next env2=>zm3 c body k env2 st2
   |.ret v=>.ok (.ret v) st2
  else .ok (.next env) st1
noncomputable abbrev zc5:=Nat→List Val→za6→Res Val
@[simp] noncomputable def mk(mt:Bool)(xs:List PV)(st:za6):Res Val:=if mt then .ok (.ref st.length) (st++[.lst xs])else .ok (.p (.lst xs)) st
@[simp] noncomputable def yF5(ks:List PV)(n:Nat)(xs:List PV)(st:za6):Res Val:=match zd0 st n with
 |some (.dct [])=>.ok (.ref n) (st.set n (.dct ((ks.zip xs).foldl (fun d p=>zQ3 p.1 p.2 d) [])))
 |_=>.stuck
@[simp] noncomputable def zy7(caps:List Nat)(n:Nat)(env:Env):Env:=caps.map (fun i=>(env[i]?).join)++List.replicate n none
@[simp] noncomputable def yv5:Val→List PV→Option (Nat×List PV)
 |.ref n,xs=>some (n,xs)
 |.p _,_=>none
noncomputable def zp1:List (List PV)→List PV
 |[a,b]=>(a.zip b).map fun p=>.tup [p.1,p.2]
 |[a,b,c]=>(a.zip (b.zip c)).map fun p=>.tup [p.1,p.2.1,p.2.2]
 |_=>[]
noncomputable def yy0(xs:List PV):List PV:=xs.zipIdx.map fun p=>.tup [.int p.2,p.1]
noncomputable def yn9(st:za6)(n:Nat):Option (List PV):=match zd0 st n with
 |some (.lst l)=>some l
 |_=>none
noncomputable def dctAt(st:za6)(n:Nat):Option (List (PV×PV)):=match zd0 st n with
 |some (.dct l)=>some l
 |_=>none
@[simp] noncomputable def zJ1(o:Val)(st:za6)(f:List PV→Option (PV×List PV)):Res Val:=match o with
 |.p _=>.stuck
 | .ref n=>match yn9 st n with
  | some l=>match f l with
   |some (x,l')=>.ok (.p x) (st.set n (.lst l'))
   |none=>.stuck
  |none=>.stuck
noncomputable def zM6(xs:List PV)(l:List PV):Option (PV×List PV):=match xs with
 |[x]=>if l.length<SZ then some (.non,l++[x])else none
 |_=>none
noncomputable def yK9(xs:List PV)(l:List PV):Option (PV×List PV):=match xs with
 |[.lst ys]=>if l.length+ys.length≤SZ then some (.non,l++ys)else none
 |[.tup ys]=>if l.length+ys.length≤SZ then some (.non,l++ys)else none
 |_=>none
noncomputable def yz6(xs:List PV)(l:List PV):Option (PV×List PV):=match xs with
 |[]=>some (.non,l.reverse)
 |_=>none
noncomputable def yU5(xs:List PV)(_:List PV):Option (PV×List PV):=match xs with
 |[]=>some (.non,[])
 |_=>none
noncomputable def yJ1(xs:List PV)(l:List PV):Option (PV×List PV):=match xs with
 |[.int i,x]=>if 0≤i∧i≤(l.length:Int)∧l.length<SZ then some (.non,l.take i.toNat++x::l.drop i.toNat)else none
 |_=>none
noncomputable def gPop(xs:List PV)(l:List PV):Option (PV×List PV):=match xs with
 | []=>match l.getLast? with
  |some x=>some (x,l.dropLast)
  |none=>none
 |_=>none
@[simp] noncomputable def zO3(m:Mt)(o:Val)(xs:List PV)(st:za6):Res Val:=match m with
 |.append=>zJ1 o st (zM6 xs)
 |.extend=>zJ1 o st (yK9 xs)
 |.reverse=>zJ1 o st (yz6 xs)
 |.pop=>zJ1 o st (gPop xs)
 |.clear=>zJ1 o st (yU5 xs)
 |.insert=>zJ1 o st (yJ1 xs)
 | m=>match view st o with
  |some v=>okO (mtOp m v xs) st
  |none=>.stuck
@[simp] noncomputable def ixVal(o:Val)(i:PV)(st:za6):Res Val :=
 match o with
 |.p v=>okO (yv0 v i) st
 | .ref n=>match zd0 st n with
  |some (.lst xs)=>okO (yv0 (.lst xs) i) st
  |some (.dct kvs)=>okO (zL3 i kvs) st
  |_=>.stuck
@[simp] noncomputable def zy8:PV→Bool
 |.int _=>true
 |.str _=>true
 |_=>false
@[simp] noncomputable def xj5(xs:List PV)(i v:PV):Option (List PV):=match i with
 |.int k=>(zf0 xs.length k).map fun j=>xs.set j v
 |_=>none
@[simp] noncomputable def ya1(o:Val)(i v:PV)(st:za6):Res Unit :=
 match o with
 |.p _=>.stuck
 | .ref n=>match zd0 st n with
  | some (.lst xs)=>match xj5 xs i v with
   |some ys=>.ok () (st.set n (.lst ys))
   |none=>.stuck
  |some (.dct kvs)=>if kvs.length<1000000∧zy8 i=true then .ok () (st.set n (.dct (zQ3 i v kvs)))else .stuck
  |_=>.stuck
@[simp] noncomputable def yp5(v:Val)(st:za6):Res Val :=
 match v with
 |.p x=>.ok (.p x) st
 | .ref n=>match zd0 st n with
  |some (.lst xs)=>.ok (.p (.lst xs)) (st.set n .dead)
  |_=>.stuck
@[simp] noncomputable def mkDZ(x y:PV)(st:za6):Res Val:=match zr9 x with
 | some ks=>match zr9 y with
  |some vs=>if ks.all zy8=true∧ks.length≤1000 then .ok (.ref st.length) (st++[.dct ((ks.zip vs).foldl (fun d p=>zQ3 p.1 p.2 d) [])])else .stuck
  |none=>.stuck
 |none=>.stuck
@[simp] noncomputable def yN0(v:Val)(st:za6):Res Unit:=match v with
 | .ref n=>match zd0 st n with
  |some (.dct _)=>.ok () st
  |_=>.stuck
 |.p _=>.stuck
@[simp] noncomputable def yS3(o:Val)(k x:PV)(st:za6):Res Val:=match o with
 | .ref n=>match zd0 st n with
  |some (.dct kvs)=>if zy8 k=true then .ok (.p ((zL3 k kvs).getD x)) st else .stuck
  |_=>.stuck
 |.p _=>.stuck
noncomputable def xj3:PV→Bool
 |.str _=>true
 |_=>false
@[simp] theorem xj9{s}:xj3 (.str s)=true:=rfl
noncomputable def xs6:PV→Bool
 |.tup xs=>xs.all xj3
 |_=>false
@[simp] theorem xj2{xs}:xs6 (.tup xs)=xs.all xj3:=rfl
noncomputable def tnew(fs:List (List Nat)):PV→Bool
 |.tup (.str s::r)=>!(fs.contains s)&&r.all xj3
 |_=>false
@[simp] theorem xk8{fs s r}:tnew fs (.tup (.str s::r))=(!(fs.contains s)&&r.all xj3):=rfl
noncomputable def ye9(st:za6)(n:Nat):Option (List (PV×PV)):=match zd0 st n with
 |some (.dtt l)=>some l
 |_=>none
@[simp] noncomputable def xc3(o:Val)(k:PV)(st:za6):Res Val:=match o with
 |.p _=>.stuck
 | .ref n=>match ye9 st n with
  |some kvs=>if xs6 k=true then okO (zL3 k kvs) st else .stuck
  |none=>.stuck
@[simp] noncomputable def tinV(neg:Bool)(k:PV)(o:Val)(st:za6):Res Val:=match o with
 |.p _=>.stuck
 | .ref n=>match ye9 st n with
  |some kvs=>if xs6 k=true then .ok (.p (.bl (neg.xor (zL3 k kvs).isSome))) st else .stuck
  |none=>.stuck
@[simp] noncomputable def yY5(fs:List (List Nat))(o:Val)(k v:PV)(st:za6):Res Unit:=match o with
 |.p _=>.stuck
 | .ref n=>match ye9 st n with
  |some kvs=>if kvs.length<1000000∧tnew fs k=true then .ok () (st.set n (.dtt (zQ3 k v kvs)))else .stuck
  |none=>.stuck
@[simp] noncomputable def xc9(o:Val)(st:za6):Res Val:=match o with
 |.p _=>.stuck
 | .ref n=>match ye9 st n with
  |some kvs=>.ok (.ref st.length) (st++[.dtt kvs])
  |none=>.stuck
@[simp] noncomputable def teqV(neg:Bool)(a b:Val)(st:za6):Res Val:=match a,b with
 | .ref n,.ref m=>match ye9 st n,ye9 st m with
  |some l,some l'=>if l=l' then .ok (.p (.bl (!neg))) st else .stuck
  |_,_=>.stuck
 |_,_=>.stuck
@[simp] noncomputable def yN6(x:PV)(st:za6):Res Val:=match x with
 |.lst xs=>.ok (.ref st.length) (st++[.lst xs])
 |_=>.stuck
@[simp] noncomputable def yV4:PV→Option PV
 |.tup xs=>some (.tup xs.reverse)
 |_=>none
noncomputable def op1(f:PV→Option PV)(v:Val)(st:za6):Res Val:=match view st v with
 |some x=>okO (f x) st
 |none=>.stuck
@[simp] theorem op1_p{f x st}:op1 f (.p x) st=okO (f x) st:=rfl
noncomputable def op2(f:PV→PV→Option PV)(v w:Val)(st:za6):Res Val:=match view st v with
 | some x=>match view st w with
  |some y=>okO (f x y) st
  |none=>.stuck
 |none=>.stuck
@[simp] theorem op2_p{f x y st}:op2 f (.p x) (.p y) st=okO (f x y) st:=rfl
noncomputable def zt1(st:za6):List Val→Option (List PV)
 |[]=>some []
 | v::r=>match view st v with
  | some x=>match zt1 st r with
   |some xs=>some (x::xs)
   |none=>none
  |none=>none
@[simp] theorem xg4{st}:zt1 st []=some []:=rfl
@[simp] theorem xr4{st x}:zt1 st [.p x]=some [x]:=rfl
@[simp] theorem xu9{st x y}:zt1 st [.p x,.p y]=some [x,y]:=rfl
noncomputable def opN(f:List PV→Option PV)(vs:List Val)(st:za6):Res Val:=match zt1 st vs with
 |some xs=>okO (f xs) st
 |none=>.stuck
@[simp] theorem opN_1{f x st}:opN f [.p x] st=okO (f [x]) st:=rfl
@[simp] theorem opN_2{f x y st}:opN f [.p x,.p y] st=okO (f [x,y]) st:=rfl
@[simp] noncomputable def yU7(op:Bop)(x y:PV)(st:za6):Res Val:=match x,y with
 |.int i,.int j=>okO (zX6 op (.int i) (.int j)) st
 |_,_=>.stuck
@[simp] noncomputable def seen(v:Val)(st:za6):Res Unit:=match view st v with
 |some _=>.ok () st
 |none=>.stuck
theorem yB1{v:Val}{st st':za6}{u:Unit}(h:seen v st=.ok u st'):(∃x,view st v=some x)∧st'=st:=by
 unfold seen at h
 cases e:view st v with
 |none=>rw[e]at h;cases h
 |some x=>rw[e]at h;cases h;exact⟨⟨x,rfl⟩,rfl⟩
noncomputable def yk7:List Val→Option (List PV)
 |[]=>some []
 | .p x::r=>match yk7 r with
  |some xs=>some (x::xs)
  |none=>none
 |.ref _::_=>none
noncomputable def keeps:Mt→Bool
 |.append=>true
 |.insert=>true
 |_=>false
noncomputable def zH1(m:Mt)(o:Val)(vs:List Val)(st:za6):Res Val:=match (if keeps m then yk7 vs else zt1 st vs)with
 |some xs=>zO3 m o xs st
 |none=>.stuck
@[simp] theorem xo3{m o st}:zH1 m o [] st=zO3 m o [] st:=by unfold zH1;cases m <;> rfl
@[simp] theorem xl2{m o x st}:zH1 m o [.p x] st=zO3 m o [x] st:=by unfold zH1;cases m <;> rfl
@[simp] theorem xl6{m o x y st}:zH1 m o [.p x,.p y] st=zO3 m o [x,y] st:=by unfold zH1;cases m <;> rfl
@[simp] noncomputable def zI9(env:Env)(i:Nat)(st:za6):Res Val:=match env[i]? with
 |some (some v)=>.ok v st
 |_=>.stuck
@[simp] noncomputable def xc5:PV→Option PV
 |.int i=>some (.int (-i))
 |_=>none
@[simp] noncomputable def walkOf(v:Val)(st:za6):Res (List PV×Option (Nat×List PV)):=match view st v with
 | some x=>match ze9 x with
  |some xs=>.ok (xs,yv5 v xs) st
  |none=>.stuck
 |none=>.stuck
@[simp] noncomputable def xl4(x:PV)(st:za6):Res (List PV×Option (Nat×List PV)):=match x with
 |.int i=>if -1000000≤i∧i≤SZ then .ok ((List.range i.toNat).map (fun k:Nat=>PV.int (k:Int)),none) st else .stuck
 |_=>.stuck
@[simp] noncomputable def walkZ(xs:List PV)(st:za6):Res (List PV×Option (Nat×List PV)):=match xs.mapM zr9 with
 |some ls=>.ok (zp1 ls,none) st
 |none=>.stuck
@[simp] noncomputable def ys5(v:Val)(y:PV)(st:za6):Res (List PV×Option (Nat×List PV)):=match view st v with
 | some x=>match zr9 x with
  | some xs=>match zr9 y with
   |some ys=>.ok (zp1 [xs,ys],yv5 v xs) st
   |none=>.stuck
  |none=>.stuck
 |none=>.stuck
@[simp] noncomputable def xm0(x:PV)(st:za6):Res (List PV×Option (Nat×List PV)):=match zr9 x with
 |some xs=>.ok (yy0 xs,none) st
 |none=>.stuck
@[simp] noncomputable def xn5(x:PV)(st:za6):Res (Option Int):=match x with
 |.int i=>.ok (some i) st
 |_=>.stuck
mutual
noncomputable def evalE(C:zc5):E→Env→za6→Res Val
 |.var i,env,st=>zI9 env i st
 |.const v,_,st=>.ok (.p v) st
 |.bin op a b,env,st=>(evalE C a env st).bind fun x st=>(evalE C b env st).bind fun y st=>op2 (zX6 op) x y st
 |.neg a,env,st=>(evalE C a env st).bindV fun x st=>okO (xc5 x) st
 |.not a,env,st=>(evalE C a env st).bindB fun b st=>.ok (.p (.bl (!b))) st
 |.cmp op a b,env,st=>(evalE C a env st).bind fun x st=>(evalE C b env st).bind fun y st=>op2 (zo8 op) x y st
 | .chain op op' a b c,env,st=>(evalE C a env st).bind fun x st=>(evalE C b env st).bind fun y st=>(op2 (zo8 op) x y st).bindB fun k st =>
   if k then (evalE C c env st).bind fun z st=>op2 (zo8 op') y z st else .ok (.p (.bl false)) st
 |.and a b,env,st=>(evalE C a env st).bindB fun k st=>if k then evalE C b env st else .ok (.p (.bl false)) st
 |.or a b,env,st=>(evalE C a env st).bindB fun k st=>if k then .ok (.p (.bl true)) st else evalE C b env st
 |.ite c a b,env,st=>(evalE C c env st).bindB fun k st=>if k then evalE C a env st else evalE C b env st
 |.tup es,env,st=>(evalPs C es env st).bind fun xs st=>.ok (.p (.tup xs)) st
 |.list mt es,env,st=>(evalPs C es env st).bind fun xs st=>mk mt xs st
 |.dict ks es,env,st=>(evalPs C es env (st++[.dct []])).bind (yF5 ks st.length)
 |.ix a b,env,st=>(evalE C a env st).bind fun o st=>(evalE C b env st).bindV fun i st=>ixVal o i st
 |.slice a lo hi,env,st=>(evalE C a env st).bind fun x st=>(evalO C lo env st).bind fun l st=>(evalO C hi env st).bind fun h st=>op1 (fun x=>sliceOp x l h) x st
 |.call f es,env,st=>(evalEs C es env st).bind fun vs st=>C f vs st
 |.blt f es,env,st=>(evalEs C es env st).bind fun vs st=>opN (bfOp f) vs st
 |.meth m o es,env,st=>(evalE C o env st).bind fun v st=>(seen v st).bind fun _ st=>(evalEs C es env st).bind fun vs st=>zH1 m v vs st
 | .comp mt elt tgt it cond caps n,env,st=>(evalIt C it env st).bind fun p st =>
   (compLoop (evalE C elt) (match cond with |none=>none |some c=>some (evalE C c)) tgt p.2 p.1 (zy7 caps n env) st []).bind fun xs st=>mk mt xs st
 |.freeze e,env,st=>(evalE C e env st).bind yp5
 |.thaw e,env,st=>(evalE C e env st).bindP yN6
 |.rev e,env,st=>(evalE C e env st).bind fun x st=>op1 yV4 x st
 |.dictZ a b,env,st=>(evalE C a env st).bindP fun x st=>(evalE C b env st).bindP fun y st=>mkDZ x y st
 |.dget o k d,env,st=>(evalE C o env st).bind fun ov st=>(yN0 ov st).bind fun _ st=>(evalE C k env st).bindP fun kx st=>(evalE C d env st).bindP fun x st=>yS3 ov kx x st
 |.dnewT,_,st=>.ok (.ref st.length) (st++[.dtt []])
 |.tget o k,env,st=>(evalE C o env st).bind fun ov st=>(evalE C k env st).bindP fun kx st=>xc3 ov kx st
 |.tin neg k o,env,st=>(evalE C k env st).bindP fun kx st=>(evalE C o env st).bind fun ov st=>tinV neg kx ov st
 |.tcopy e,env,st=>(evalE C e env st).bind xc9
 |.teq neg a b,env,st=>(evalE C a env st).bind fun x st=>(evalE C b env st).bind fun y st=>teqV neg x y st
/-- pure values,left to right -/
noncomputable def evalPs(C:zc5):List E→Env→za6→Res (List PV)
 |[],_,st=>.ok [] st
 |e::r,env,st=>(evalE C e env st).bindP fun x st=>(evalPs C r env st).bind fun xs st=>.ok (x::xs) st
/-- values as they are -/
noncomputable def evalEs(C:zc5):List E→Env→za6→Res (List Val)
 |[],_,st=>.ok [] st
 |e::r,env,st=>(evalE C e env st).bind fun x st=>(evalEs C r env st).bind fun xs st=>.ok (x::xs) st
noncomputable def evalO(C:zc5):Option E→Env→za6→Res (Option Int)
 |none,_,st=>.ok none st
 |some e,env,st=>(evalE C e env st).bindV xn5
/-- what is walked,and the list that must stay as it is -/
noncomputable def evalIt(C:zc5):It→Env→za6→Res (List PV×Option (Nat×List PV))
 |.of e,env,st=>(evalE C e env st).bind walkOf
 |.range e,env,st=>(evalE C e env st).bindV xl4
 |.zip es,env,st=>(evalPs C es env st).bind walkZ
 |.zipR a b,env,st=>(evalE C a env st).bind fun v st=>(evalE C b env st).bindP fun y st=>ys5 v y st
 |.enum e,env,st=>(evalE C e env st).bindP xm0
end
@[simp] noncomputable def okN(o:Option Env)(st:za6):Res Flow:=match o with
 |some env=>.ok (.next env) st
 |none=>.stuck
mutual
noncomputable def execS(C:zc5)(W:Nat):S→Env→za6→Res Flow
 |.expr e,env,st=>(evalE C e env st).bind fun _ st=>.ok (.next env) st
 |.ret e,env,st=>(evalE C e env st).bind fun v st=>.ok (.ret v) st
 |.set i e,env,st=>(evalE C e env st).bind fun v st=>.ok (.next (env.set i (some v))) st
 |.setT is e,env,st=>(evalE C e env st).bind fun v st=>okN (zr7 (.tup is) v st env) st
 |.setIx o i v,env,st=>(evalE C v env st).bindP fun x st=>(evalE C o env st).bind fun ov st=>(evalE C i env st).bindV fun iv st=>(ya1 ov iv x st).bind fun _ st=>.ok (.next env) st
 |.tput fs o k v,env,st=>(evalE C v env st).bindP fun x st=>(evalE C o env st).bind fun ov st=>(evalE C k env st).bindP fun kx st=>(yY5 fs ov kx x st).bind fun _ st=>.ok (.next env) st
 |.aug i op e,env,st=>(zI9 env i st).bindP fun x st=>(evalE C e env st).bindV fun y st=>(okO (zX6 op x y) st).bind fun v st=>.ok (.next (env.set i (some v))) st
 |.augI i op e,env,st=>(zI9 env i st).bindP fun x st=>(evalE C e env st).bindV fun y st=>(yU7 op x y st).bind fun v st=>.ok (.next (env.set i (some v))) st
 |.ite c a b,env,st=>(evalE C c env st).bindB fun k st=>if k then execSs C W a env st else execSs C W b env st
 |.for tgt it body,env,st=>(evalIt C it env st).bind fun p st=>zq8 (execSs C W body) tgt p.2 p.1 env st
 |.while c body,env,st=>zm3 (evalE C c) (execSs C W body) W env st
 |.pass,env,st=>.ok (.next env) st
noncomputable def execSs(C:zc5)(W:Nat):List S→Env→za6→Res Flow
 |[],env,st=>.ok (.next env) st
 | s::r,env,st=>(execS C W s env st).bind fun f st=>match f with
  |.next env'=>execSs C W r env' st
  |.ret v=>.ok (.ret v) st
end
structure FD where
 params:Nat
 slots:Nat
 body:List S
noncomputable def yx7(k:Nat)(v:Val)(st:za6):za6:=match v with
 |.p _=>st.take k
 |.ref n=>if n<k then st.take k else st
noncomputable def zg2(P:List FD)(W:Nat):Nat→zc5
 |0=>fun _ _ _=>.stuck
 | d+1=>fun f vs st=>match P[f]? with
  |none=>.stuck
  | some fd=>if vs.length=fd.params then
    (execSs (zg2 P W d) W fd.body (vs.map some++List.replicate (fd.slots-fd.params) none) st).bind fun fl st'=>match fl with
     |.ret v=>.ok v (yx7 st.length v st')
     |.next _=>.ok (.p .non) (st'.take st.length)
   else .stuck
noncomputable def zt5(C:zc5)(elt:E)(cond:Option E)(tgt:Tg)(src:Option (Nat×List PV))(xs:List PV)(env:Env)(st:za6)(acc:List PV):Res (List PV) :=
 compLoop (evalE C elt) (match cond with |none=>none |some c=>some (evalE C c)) tgt src xs env st acc
noncomputable def yK1(C:zc5)(W:Nat)(body:List S)(tgt:Tg)(src:Option (Nat×List PV))(xs:List PV)(env:Env)(st:za6):Res Flow:=zq8 (execSs C W body) tgt src xs env st
noncomputable def ym3(C:zc5)(W:Nat)(c:E)(body:List S)(k:Nat)(env:Env)(st:za6):Res Flow:=zm3 (evalE C c) (execSs C W body) k env st
section
variable{C:zc5}{W:Nat}{env:Env}{st:za6}
@[simp] theorem yY3{i}:evalE C (.var i) env st=zI9 env i st:=rfl
@[simp] theorem yA1{v}:evalE C (.const v) env st=.ok (.p v) st:=rfl
@[simp] theorem zc1{op a b}:evalE C (.bin op a b) env st=(evalE C a env st).bind fun x st=>(evalE C b env st).bind fun y st=>op2 (zX6 op) x y st:=rfl
@[simp] theorem yV1{a}:evalE C (.neg a) env st=(evalE C a env st).bindV fun x st=>okO (xc5 x) st:=rfl
@[simp] theorem yF8{a}:evalE C (.not a) env st=(evalE C a env st).bindB fun b st=>.ok (.p (.bl (!b))) st:=rfl
@[simp] theorem zb6{op a b}:evalE C (.cmp op a b) env st=(evalE C a env st).bind fun x st=>(evalE C b env st).bind fun y st=>op2 (zo8 op) x y st:=rfl
@[simp] theorem yz3{op op' a b c}:evalE C (.chain op op' a b c) env st=(evalE C a env st).bind fun x st=>(evalE C b env st).bind fun y st=>(op2 (zo8 op) x y st).bindB fun k st =>
      if k then (evalE C c env st).bind fun z st=>op2 (zo8 op') y z st else .ok (.p (.bl false)) st:=rfl
@[simp] theorem yF2{a b}:evalE C (.and a b) env st=(evalE C a env st).bindB fun k st=>if k then evalE C b env st else .ok (.p (.bl false)) st:=rfl
@[simp] theorem yV2{a b}:evalE C (.or a b) env st=(evalE C a env st).bindB fun k st=>if k then .ok (.p (.bl true)) st else evalE C b env st:=rfl
@[simp] theorem yW6{c a b}:evalE C (.ite c a b) env st=(evalE C c env st).bindB fun k st=>if k then evalE C a env st else evalE C b env st:=rfl
@[simp] theorem yZ0{es}:evalE C (.tup es) env st=(evalPs C es env st).bind fun xs st=>.ok (.p (.tup xs)) st:=rfl
@[simp] theorem yr4{mt es}:evalE C (.list mt es) env st=(evalPs C es env st).bind fun xs st=>mk mt xs st:=rfl
@[simp] theorem yH8{ks es}:evalE C (.dict ks es) env st=(evalPs C es env (st++[.dct []])).bind (yF5 ks st.length):=rfl
@[simp] theorem xq3{a b}:evalE C (.ix a b) env st=(evalE C a env st).bind fun o st=>(evalE C b env st).bindV fun i st=>ixVal o i st:=rfl
@[simp] theorem yx0{a lo hi}:evalE C (.slice a lo hi) env st=(evalE C a env st).bind fun x st=>(evalO C lo env st).bind fun l st=>(evalO C hi env st).bind fun h st=>op1 (fun x=>sliceOp x l h) x st:=rfl
@[simp] theorem yR4{f es}:evalE C (.call f es) env st=(evalEs C es env st).bind fun vs st=>C f vs st:=rfl
@[simp] theorem zd3{f es}:evalE C (.blt f es) env st=(evalEs C es env st).bind fun vs st=>opN (bfOp f) vs st:=rfl
@[simp] theorem yK5{m o es}:evalE C (.meth m o es) env st=(evalE C o env st).bind fun v st=>(seen v st).bind fun _ st=>(evalEs C es env st).bind fun vs st=>zH1 m v vs st:=rfl
@[simp] theorem yL2{mt elt tgt it cond caps n}:evalE C (.comp mt elt tgt it cond caps n) env st=(evalIt C it env st).bind fun p st=>(zt5 C elt cond tgt p.2 p.1 (zy7 caps n env) st []).bind fun xs st=>mk mt xs st:=by cases cond <;> (rw[evalE];rfl)
@[simp] theorem yZ9{e}:evalE C (.freeze e) env st=(evalE C e env st).bind yp5:=rfl
@[simp] theorem yK6{e}:evalE C (.thaw e) env st=(evalE C e env st).bindP yN6:=rfl
@[simp] theorem xg9{e}:evalE C (.rev e) env st=(evalE C e env st).bind fun x st=>op1 yV4 x st:=rfl
@[simp] theorem xk9{a b}:evalE C (.dictZ a b) env st=(evalE C a env st).bindP fun x st=>(evalE C b env st).bindP fun y st=>mkDZ x y st:=rfl
@[simp] theorem zV0{o k d}:evalE C (.dget o k d) env st=(evalE C o env st).bind fun ov st=>(yN0 ov st).bind fun _ st=>(evalE C k env st).bindP fun kx st=>(evalE C d env st).bindP fun x st=>yS3 ov kx x st:=rfl
@[simp] theorem xi7:evalE C .dnewT env st=.ok (.ref st.length) (st++[.dtt []]):=rfl
@[simp] theorem xq6{o k}:evalE C (.tget o k) env st=(evalE C o env st).bind fun ov st=>(evalE C k env st).bindP fun kx st=>xc3 ov kx st:=rfl
@[simp] theorem ev_tin{neg k o}:evalE C (.tin neg k o) env st=(evalE C k env st).bindP fun kx st=>(evalE C o env st).bind fun ov st=>tinV neg kx ov st:=rfl
@[simp] theorem xj1{e}:evalE C (.tcopy e) env st=(evalE C e env st).bind xc9:=rfl
@[simp] theorem ev_teq{neg a b}:evalE C (.teq neg a b) env st=(evalE C a env st).bind fun x st=>(evalE C b env st).bind fun y st=>teqV neg x y st:=rfl
@[simp] theorem zN4:evalPs C [] env st=.ok [] st:=rfl
@[simp] theorem zF7{e r}:evalPs C (e::r) env st=(evalE C e env st).bindP fun x st=>(evalPs C r env st).bind fun xs st=>.ok (x::xs) st:=rfl
@[simp] theorem zy3:evalEs C [] env st=.ok [] st:=rfl
@[simp] theorem zn5{e r}:evalEs C (e::r) env st=(evalE C e env st).bind fun x st=>(evalEs C r env st).bind fun xs st=>.ok (x::xs) st:=rfl
@[simp] theorem yy4:evalO C none env st=.ok none st:=rfl
@[simp] theorem yx8{e}:evalO C (some e) env st=(evalE C e env st).bindV xn5:=rfl
@[simp] theorem yn3{e}:evalIt C (.of e) env st=(evalE C e env st).bind walkOf:=rfl
@[simp] theorem yh8{e}:evalIt C (.range e) env st=(evalE C e env st).bindV xl4:=rfl
@[simp] theorem xj6{es}:evalIt C (.zip es) env st=(evalPs C es env st).bind walkZ:=rfl
@[simp] theorem yk1{a b}:evalIt C (.zipR a b) env st=(evalE C a env st).bind fun v st=>(evalE C b env st).bindP fun y st=>ys5 v y st:=rfl
@[simp] theorem yU0{e}:evalIt C (.enum e) env st=(evalE C e env st).bindP xm0:=rfl
@[simp] theorem yO7{e}:execS C W (.expr e) env st=(evalE C e env st).bind fun _ st=>.ok (.next env) st:=rfl
@[simp] theorem yo7{e}:execS C W (.ret e) env st=(evalE C e env st).bind fun v st=>.ok (.ret v) st:=rfl
@[simp] theorem yt0{i e}:execS C W (.set i e) env st=(evalE C e env st).bind fun v st=>.ok (.next (env.set i (some v))) st:=rfl
@[simp] theorem yI2{is e}:execS C W (.setT is e) env st=(evalE C e env st).bind fun v st=>okN (zr7 (.tup is) v st env) st:=rfl
@[simp] theorem yw6{o i v}:execS C W (.setIx o i v) env st=(evalE C v env st).bindP fun x st=>(evalE C o env st).bind fun ov st=>(evalE C i env st).bindV fun iv st=>(ya1 ov iv x st).bind fun _ st=>.ok (.next env) st:=rfl
@[simp] theorem xo8{fs o k v}:execS C W (.tput fs o k v) env st=(evalE C v env st).bindP fun x st=>(evalE C o env st).bind fun ov st=>(evalE C k env st).bindP fun kx st=>(yY5 fs ov kx x st).bind fun _ st=>.ok (.next env) st:=rfl
@[simp] theorem ex_aug{i op e}:execS C W (.aug i op e) env st=(zI9 env i st).bindP fun x st=>(evalE C e env st).bindV fun y st=>(okO (zX6 op x y) st).bind fun v st=>.ok (.next (env.set i (some v))) st:=rfl
@[simp] theorem xu1{i op e}:execS C W (.augI i op e) env st=(zI9 env i st).bindP fun x st=>(evalE C e env st).bindV fun y st=>(yU7 op x y st).bind fun v st=>.ok (.next (env.set i (some v))) st:=rfl
@[simp] theorem yF0{c a b}:execS C W (.ite c a b) env st=(evalE C c env st).bindB fun k st=>if k then execSs C W a env st else execSs C W b env st:=rfl
@[simp] theorem yW8{tgt it body}:execS C W (.for tgt it body) env st=(evalIt C it env st).bind fun p st=>yK1 C W body tgt p.2 p.1 env st:=rfl
@[simp] theorem yw5{c body}:execS C W (.while c body) env st=ym3 C W c body W env st:=rfl
@[simp] theorem xs4:execS C W .pass env st=.ok (.next env) st:=rfl
@[simp] theorem exs_nil:execSs C W [] env st=.ok (.next env) st:=rfl
noncomputable def yo2(C:zc5)(W:Nat)(r:List S)(f:Flow)(st:za6):Res Flow:=match f with
 |.next env'=>execSs C W r env' st
 |.ret v=>.ok (.ret v) st
@[simp] theorem thenS_next{r env'}:yo2 C W r (.next env') st=execSs C W r env' st:=rfl
@[simp] theorem xh5{r v}:yo2 C W r (.ret v) st=.ok (.ret v) st:=rfl
@[simp] theorem exs_cons{s r}:execSs C W (s::r) env st=(execS C W s env st).bind (yo2 C W r):=rfl
theorem zt2{elt cond tgt acc}:zt5 C elt cond tgt none [] env st acc=.ok acc st:=by unfold zt5;rw[compLoop];simp
theorem yc7{body tgt}:yK1 C W body tgt none [] env st=.ok (.next env) st:=by unfold yK1;rw[zq8];simp
noncomputable def yf8(k:Nat)(fl:Flow)(st':za6):Res Val:=match fl with
 |.ret v=>.ok v (yx7 k v st')
 |.next _=>.ok (.p .non) (st'.take k)
@[simp] theorem ym5{k v st'}:yf8 k (.ret v) st'=.ok v (yx7 k v st'):=rfl
@[simp] theorem yR9{k env st'}:yf8 k (.next env) st'=.ok (.p .non) (st'.take k):=rfl
theorem zb7{P:List FD}{d f:Nat}{vs:List Val}{fd:FD}(h:P[f]?=some fd)(hl:vs.length=fd.params):
  zg2 P W (d+1) f vs st=(execSs (zg2 P W d) W fd.body (vs.map some++List.replicate (fd.slots-fd.params) none) st).bind (yf8 st.length):=by
 simp only[zg2,h,hl,if_true]
 rfl
@[simp] theorem trim_p{k v}:yx7 k (.p v) st=st.take k:=rfl
@[simp] theorem xj4:List.take (List.length st) st=st:=List.take_length
end
theorem zo9{C:zc5}{e:E}{tgt:Tg}{f:PV→PV}{st:za6}:∀(xs:List PV) (env:Env) (acc:List PV) (I:Env→Prop),
  I env→(∀x∈xs,∀env,I env→∃env',zr7 tgt (.p x) st env=some env'∧I env'∧evalE C e env' st=.ok (.p (f x)) st) →
  zt5 C e none tgt none xs env st acc=.ok (acc++xs.map f) st
 |[],env,acc,_,_,_=>by simp[zt2]
 | x::r,env,acc,I,hI,h=>by
  obtain⟨env',h1,hI',h2⟩:=h x (by simp) env hI
  have ih:=zo9 r env' (acc++[f x]) I hI' fun y hy=>h y (List.mem_cons_of_mem _ hy)
  unfold zt5 at ih ⊢
  rw[compLoop]
  simp only[zl4,if_true,h1,Res.bindB_ok,h2,Res.bindP_ok]
  rw[ih]
  simp
theorem zt7{α:Type}(p:α→Bool):∀xs:List α,zn3 (xs.map fun x=>PV.bl (p x))=some (xs.all p)
 |[]=>rfl
 | x::r=>by
  rw[List.map_cons,zn3,zt7 p r,List.all_cons]
  rfl
theorem ye2{st:za6}{n:Nat}{o:zz8}:List.take (List.length st) (st.set n o)=st.set n o:=by
 rw[List.take_of_length_le (by simp)]
end OR
namespace OR
def Sat{α:Type}:Res α→(α→za6→Prop)→Prop
 |.ok a st,Q=>Q a st
 |.exn _ _ _,_=>False
 |.stuck,_=>False
section
variable{α β:Type}
theorem zu7{r:Res α}{Q:α→za6→Prop}:Sat r Q↔∃a st,r=.ok a st∧Q a st:=by
 cases r with
 |ok a st=>exact⟨fun h=>⟨a,st,rfl,h⟩,fun⟨_,_,e,h⟩=>by cases e;exact h⟩
 |exn _ _ _=>exact⟨False.elim,fun⟨_,_,e,_⟩=>(by cases e)⟩
 |stuck=>exact⟨False.elim,fun⟨_,_,e,_⟩=>(by cases e)⟩
@[simp] theorem sat_ok{a:α}{st:za6}{Q:α→za6→Prop}:Sat (.ok a st) Q=Q a st:=rfl
@[simp] theorem zb4{r:Res α}{f:α→za6→Res β}{Q:β→za6→Prop}:Sat (r.bind f) Q=Sat r fun a st=>Sat (f a st) Q:=by
 cases r <;> rfl
theorem Sat.mono{r:Res α}{Q Q':α→za6→Prop}(h:Sat r Q)(g:∀a st,Q a st→Q' a st):Sat r Q':=by
 cases r with
 |ok a st=>exact g a st h
 |exn _ _ _=>exact h
 |stuck=>exact h
theorem xe1{r:Res α}{a:α}{st:za6}{Q:α→za6→Prop}(h:r=.ok a st)(q:Q a st):Sat r Q:=by rw[h];exact q
noncomputable def asB(v:Val)(f:Bool→za6→Res β)(st:za6):Res β:=match v with
 |.p (.bl b)=>f b st
 |_=>.stuck
noncomputable def asP(v:Val)(f:PV→za6→Res β)(st:za6):Res β:=match v with
 |.p x=>f x st
 |_=>.stuck
noncomputable def asV(v:Val)(f:PV→za6→Res β)(st:za6):Res β:=match view st v with
 |some x=>f x st
 |none=>.stuck
@[simp] theorem asB_p{b:Bool}{f:Bool→za6→Res β}{st:za6}:asB (.p (.bl b)) f st=f b st:=rfl
@[simp] theorem asP_p{x:PV}{f:PV→za6→Res β}{st:za6}:asP (.p x) f st=f x st:=rfl
@[simp] theorem asV_p{x:PV}{f:PV→za6→Res β}{st:za6}:asV (.p x) f st=f x st:=rfl
@[simp] theorem xv0{n:Nat}{f:PV→za6→Res β}{st:za6}:asV (.ref n) f st=match view st (.ref n)with |some x=>f x st |none=>.stuck:=rfl
@[simp] theorem xf3{r:Res Val}{f:Bool→za6→Res β}{Q:β→za6→Prop}:Sat (r.bindB f) Q=Sat r fun v st=>Sat (asB v f st) Q:=by cases r <;> rfl
@[simp] theorem yS2{r:Res Val}{f:PV→za6→Res β}{Q:β→za6→Prop}:Sat (r.bindP f) Q=Sat r fun v st=>Sat (asP v f st) Q:=by cases r <;> rfl
@[simp] theorem yV8{r:Res Val}{f:PV→za6→Res β}{Q:β→za6→Prop}:Sat (r.bindV f) Q=Sat r fun v st=>Sat (asV v f st) Q:=by cases r <;> rfl
@[simp] theorem xt0{c:Prop}[Decidable c]{a b:Res α}{Q:α→za6→Prop}:Sat (if c then a else b) Q↔(if c then Sat a Q else Sat b Q):=by split <;> rfl
@[simp] theorem xt5{o:Option PV}{st:za6}{Q:Val→za6→Prop}:Sat (okO o st) Q↔∃x,o=some x∧Q (.p x) st:=by
 cases o with
 |none=>exact⟨False.elim,fun⟨_,e,_⟩=>(by cases e)⟩
 |some x=>exact⟨fun h=>⟨x,rfl,h⟩,fun⟨_,e,q⟩=>(by cases e;exact q)⟩
end
theorem zz5{C:zc5}{e:E}{cond:Option E}{tgt:Tg}(J:List PV→Env→za6→List PV→Prop):
  ∀(xs:List PV) (env:Env) (st:za6) (acc:List PV),J xs env st acc →
  (∀x r env st acc,J (x::r) env st acc→∃env',zr7 tgt (.p x) st env=some env' ∧
   Sat (match cond with |none=>Res.ok (Val.p (.bl true)) st |some c=>evalE C c env' st) (fun v st1=>∃b,v=.p (.bl b) ∧
    if b=true then Sat (evalE C e env' st1) (fun v st2=>∃y,v=.p y∧J r env' st2 (acc++[y]))else J r env' st1 acc)) →
  Sat (zt5 C e cond tgt none xs env st acc) (fun ys st'=>∃env',J [] env' st' ys)
 |[],env,st,acc,h,_=>by rw[zt2];exact⟨env,h⟩
 | x::r,env,st,acc,h,step=>by
  obtain⟨env',h1,hs⟩:=step x r env st acc h
  obtain⟨v,st1,h2,b,rfl,h3⟩:=zu7.mp hs
  cases b with
  | true =>
   rw[if_pos rfl]at h3
   obtain⟨_,st2,h4,y,rfl,h5⟩:=zu7.mp h3
   have ih:=zz5 (C:=C) (e:=e) (cond:=cond) (tgt:=tgt) J r env' st2 (acc++[y]) h5 step
   unfold zt5 at ih ⊢
   rw[compLoop]
   cases cond with
   |none=>cases h2;simpa only[zl4,if_true,h1,Res.bindB_ok,h4,Res.bindP_ok]using ih
   |some c=>simpa only[zl4,if_true,h1,h2,Res.bindB_ok,h4,Res.bindP_ok]using ih
  | false =>
   rw[if_neg (by simp)]at h3
   have ih:=zz5 (C:=C) (e:=e) (cond:=cond) (tgt:=tgt) J r env' st1 acc h3 step
   unfold zt5 at ih ⊢
   rw[compLoop]
   cases cond with
   |none=>cases h2
   |some c=>simpa only[zl4,if_true,h1,h2,Res.bindB_ok,Bool.false_eq_true,if_false]using ih
theorem zu3{C:zc5}{W:Nat}{body:List S}{tgt:Tg}(J:List PV→Env→za6→Prop):∀(xs:List PV) (env:Env) (st:za6),
  J xs env st →
  (∀x r env st,J (x::r) env st→∃env',zr7 tgt (.p x) st env=some env'∧Sat (execSs C W body env' st) (fun f st2=>∃env2,f=.next env2∧J r env2 st2)) →
  Sat (yK1 C W body tgt none xs env st) (fun f st'=>∃env',f=.next env'∧J [] env' st')
 |[],env,st,h,_=>by rw[yc7];exact⟨env,rfl,h⟩
 | x::r,env,st,h,step=>by
  obtain⟨env',h1,hs⟩:=step x r env st h
  obtain⟨_,st2,h2,env2,rfl,h3⟩:=zu7.mp hs
  have ih:=zu3 (C:=C) (W:=W) (body:=body) (tgt:=tgt) J r env2 st2 h3 step
  unfold yK1 at ih ⊢
  rw[zq8]
  simpa only[zl4,if_true,h1,h2,Res.bind_ok]using ih
theorem zx2{n:Nat}(h:n≤16777216):n≤SZ:=by unfold SZ;exact h
theorem xu5{n:Nat}(h:n<16777216):n<SZ:=by unfold SZ;exact h
theorem zy4{n:Int}(h:n≤16777216):n≤(SZ:Int):=by unfold SZ;exact h
theorem zv2{α:Type}(xs:List α)(r:Int)(h:0≤r):cut xs (some r) none=xs.drop r.toNat:=by
 simp only[cut,sIx,if_pos h]
 rw[List.take_of_length_le (by simp)]
 by_cases hr:r.toNat≤xs.length
 ·rw[Nat.min_eq_left hr]
 ·rw[Nat.min_eq_right (by omega),List.drop_of_length_le (by simp),List.drop_of_length_le (by omega)]
theorem zS3{α:Type}(xs:List α)(r:Int)(h:0≤r):cut xs none (some r)=xs.take r.toNat:=by
 simp only[cut,sIx,if_pos h,List.drop_zero,Nat.sub_zero]
 by_cases hr:r.toNat≤xs.length
 ·rw[Nat.min_eq_left hr]
 ·rw[Nat.min_eq_right (by omega),List.take_of_length_le (by simp),List.take_of_length_le (by omega)]
theorem zR8{α:Type}(xs:List α)(i:Int)(h0:0≤i)(h1:i<xs.length):∃x,xs[i.toNat]?=some x∧x∈xs∧zf0 xs.length i=some i.toNat :=
 ⟨xs[i.toNat],List.getElem?_eq_getElem (by omega),List.getElem_mem _,by unfold zf0;rw[if_pos h0,if_pos h1]⟩
theorem zr2{α:Type}{C:zc5}{e:E}{tgt:Tg}(g f:α→PV){st:za6}(I:Env→Prop):∀(xs:List α) (env:Env) (acc:List PV),
  I env→(∀x∈xs,∀env,I env→∃env',zr7 tgt (.p (g x)) st env=some env'∧I env'∧evalE C e env' st=.ok (.p (f x)) st) →
  zt5 C e none tgt none (xs.map g) env st acc=.ok (acc++xs.map f) st
 |[],env,acc,_,_=>by simp[zt2]
 | x::r,env,acc,hI,h=>by
  obtain⟨env',h1,hI',h2⟩:=h x (by simp) env hI
  have ih:=zr2 (C:=C) (e:=e) (tgt:=tgt) g f I r env' (acc++[f x]) hI' fun y hy=>h y (List.mem_cons_of_mem _ hy)
  unfold zt5 at ih ⊢
  rw[List.map_cons,compLoop]
  simp only[zl4,if_true,h1,Res.bindB_ok,h2,Res.bindP_ok]
  rw[ih]
  simp
theorem zm2{α:Type}{C:zc5}{e c:E}{tgt:Tg}(g:α→PV)(p:α→Bool)(f:α→PV){st:za6}(I:Env→Prop):∀(xs:List α) (env:Env) (acc:List PV),
  I env→(∀x∈xs,∀env,I env→∃env',zr7 tgt (.p (g x)) st env=some env'∧I env'∧evalE C c env' st=.ok (.p (.bl (p x))) st∧(p x=true→evalE C e env' st=.ok (.p (f x)) st)) →
  zt5 C e (some c) tgt none (xs.map g) env st acc=.ok (acc++(xs.filter p).map f) st
 |[],env,acc,_,_=>by simp[zt2]
 | x::r,env,acc,hI,h=>by
  obtain⟨env',h1,hI',h2,h3⟩:=h x (by simp) env hI
  have ih:=fun acc=>zm2 (C:=C) (e:=e) (c:=c) (tgt:=tgt) g p f I r env' acc hI' fun y hy=>h y (List.mem_cons_of_mem _ hy)
  unfold zt5 at ih ⊢
  rw[List.map_cons,compLoop]
  simp only[zl4,if_true,h1,h2,Res.bindB_ok]
  cases hp:p x with
  |true=>simp only[if_true,h3 hp,Res.bindP_ok];rw[ih];simp[hp]
  |false=>simp only[Bool.false_eq_true,if_false];rw[ih];simp[hp]
theorem zQ6{C:zc5}{W:Nat}{c:E}{body:List S}(J:Nat→Env→za6→Prop)(Q:Env→za6→Prop)(h0:∀env st,¬J 0 env st)
  (step:∀k env st,J (k+1) env st→Sat (evalE C c env st) (fun v st1=>∃b,v=.p (.bl b)∧if b=true then Sat (execSs C W body env st1) (fun f st2=>∃env2,f=.next env2∧J k env2 st2)else Q env st1)) :
  ∀(k:Nat) (env:Env) (st:za6),J k env st→Sat (ym3 C W c body k env st) (fun f st'=>∃env',f=.next env'∧Q env' st')
 |0,env,st,h=>absurd h (h0 env st)
 | k+1,env,st,h=>by
  obtain⟨v,st1,e1,b,rfl,h1⟩:=zu7.mp (step k env st h)
  unfold ym3
  rw[zm3,e1,Res.bindB_ok]
  cases b with
  | false =>
   rw[if_neg (by simp)]at h1 ⊢
   exact⟨_,rfl,h1⟩
  | true =>
   rw[if_pos rfl]at h1 ⊢
   obtain⟨f,st2,e2,env2,rfl,h2⟩:=zu7.mp h1
   rw[e2,Res.bind_ok]
   exact zQ6 J Q h0 step k env2 st2 h2
theorem zd9{α:Type}{r:Res α}{x:α}{st:za6}(h:Sat r fun a s=>a=x∧s=st):r=.ok x st:=by
 obtain⟨a,s,e,rfl,rfl⟩:=zu7.mp h
 exact e
theorem ya4{st:za6}{k:Nat}{xs:List PV}(h:zd0 st k=some (.lst xs)):view st (.ref k)=some (.lst xs):=by
 simp only[view,h]
theorem yl0{st:za6}{k:Nat}{xs:List PV}(h:zd0 st k=some (.lst xs)):yn9 st k=some xs:=by
 simp only[yn9,h]
theorem zQ9{S:za6}{o:zz8}{n:Nat}(h:n=S.length):zd0 (S++[o]) n=some o:=by rw[h];exact zz6
theorem Sat.k0{α β:Type}{r:Res α}{Q:α→za6→Prop}{F:β→α}{P:β→Prop}{R:za6→Prop}(h:Sat r fun v st=>(∃x,v=F x∧P x)∧R st)(k:∀x st,P x→R st→Q (F x) st):Sat r Q:=by
 refine h.mono ?_
 rintro _ st ⟨⟨x,rfl,p⟩,q⟩
 exact k x st p q
theorem Sat.k1{α β:Type}{r:Res α}{Q:α→za6→Prop}{F:β→α}{P P':β→Prop}{R:za6→Prop}(h:Sat r fun v st=>(∃x,v=F x∧P x∧P' x)∧R st)(k:∀x st,P x→P' x→R st→Q (F x) st):Sat r Q:=by
 refine h.mono ?_
 rintro _ st ⟨⟨x,rfl,p,p'⟩,q⟩
 exact k x st p p' q
theorem za1{C:zc5}{W:Nat}{s:S}{r:List S}{env:Env}{st:za6}{Q:Flow→za6→Prop}(h:Sat (execS C W s env st) fun a st=>Sat (yo2 C W r a st) Q):Sat (execSs C W (s::r) env st) Q:=by
 rw[exs_cons,zb4];exact h
@[simp high] theorem yR5{v:Val}{env:Env}{st:za6}:zI9 (some v::env) 0 st=.ok v st:=rfl
@[simp high] theorem yR8{a:Option Val}{env:Env}{i:Nat}{st:za6}:zI9 (a::env) (i+1) st=zI9 env i st:=rfl
@[simp] theorem xm2{v i:PV}{st:za6}:ixVal (.p v) i st=okO (yv0 v i) st:=rfl
@[simp] theorem yW5{n:Nat}{i:PV}{st:za6}:ixVal (.ref n) i st=match zd0 st n with |some (.lst xs)=>okO (yv0 (.lst xs) i) st |some (.dct kvs)=>okO (zL3 i kvs) st |_=>.stuck:=rfl
@[simp] theorem xi6{xs:List PV}{st:za6}:walkOf (.p (.tup xs)) st=.ok (xs,none) st:=rfl
@[simp] theorem xj8{xs:List PV}{st:za6}:walkOf (.p (.lst xs)) st=.ok (xs,none) st:=rfl
@[simp] theorem yS0{n:Nat}{st:za6}:walkOf (.ref n) st=match view st (.ref n)with |some x=>(match ze9 x with |some xs=>.ok (xs,yv5 (.ref n) xs) st |none=>.stuck)|none=>.stuck:=rfl
@[simp high] theorem o_lenT{xs:List PV}{st:za6}:opN (bfOp .len) [.p (.tup xs)] st=.ok (.p (.int xs.length)) st:=rfl
@[simp high] theorem o_lenL{xs:List PV}{st:za6}:opN (bfOp .len) [.p (.lst xs)] st=.ok (.p (.int xs.length)) st:=rfl
@[simp high] theorem o_tupL{xs:List PV}{st:za6}:opN (bfOp .tuple) [.p (.lst xs)] st=.ok (.p (.tup xs)) st:=rfl
@[simp high] theorem o_lstT{xs:List PV}{st:za6}:opN (bfOp .list) [.p (.tup xs)] st=.ok (.p (.lst xs)) st:=rfl
@[simp 20000] theorem ix_10{x:PV}{st:za6}:ixVal (.p (.tup [x])) (.int 0) st=.ok (.p x) st:=rfl
@[simp 20000] theorem ix_20{x y:PV}{st:za6}:ixVal (.p (.tup [x,y])) (.int 0) st=.ok (.p x) st:=rfl
@[simp 20000] theorem ix_21{x y:PV}{st:za6}:ixVal (.p (.tup [x,y])) (.int 1) st=.ok (.p y) st:=rfl
@[simp 20000] theorem ix_30{x y z:PV}{st:za6}:ixVal (.p (.tup [x,y,z])) (.int 0) st=.ok (.p x) st:=rfl
@[simp 20000] theorem ix_31{x y z:PV}{st:za6}:ixVal (.p (.tup [x,y,z])) (.int 1) st=.ok (.p y) st:=rfl
@[simp 20000] theorem ix_32{x y z:PV}{st:za6}:ixVal (.p (.tup [x,y,z])) (.int 2) st=.ok (.p z) st:=rfl
@[simp high] theorem eqS_p{a b:List Nat}{st:za6}:op2 (zo8 .eq) (.p (.str a)) (.p (.str b)) st=.ok (.p (.bl (decide (a=b)))) st:=rfl
@[simp high] theorem neB_p{a b:Bool}{st:za6}:op2 (zo8 .ne) (.p (.bl a)) (.p (.bl b)) st=.ok (.p (.bl (a != b))) st:=rfl
@[simp high] theorem eqB_p{a b:Bool}{st:za6}:op2 (zo8 .eq) (.p (.bl a)) (.p (.bl b)) st=.ok (.p (.bl (a==b))) st:=rfl
@[simp high] theorem neS_p{a b:List Nat}{st:za6}:op2 (zo8 .ne) (.p (.str a)) (.p (.str b)) st=.ok (.p (.bl (!decide (a=b)))) st:=rfl
@[simp high] theorem neI_p{a b:Int}{st:za6}:op2 (zo8 .ne) (.p (.int a)) (.p (.int b)) st=.ok (.p (.bl (!decide (a=b)))) st:=rfl
@[simp high] theorem ltI_p{a b:Int}{st:za6}:op2 (zo8 .lt) (.p (.int a)) (.p (.int b)) st=.ok (.p (.bl (decide (a<b)))) st:=rfl
@[simp high] theorem gtI_p{a b:Int}{st:za6}:op2 (zo8 .gt) (.p (.int a)) (.p (.int b)) st=.ok (.p (.bl (decide (b<a)))) st:=rfl
@[simp high] theorem geI_p{a b:Int}{st:za6}:op2 (zo8 .ge) (.p (.int a)) (.p (.int b)) st=.ok (.p (.bl (decide (b≤a)))) st:=rfl
@[simp high] theorem eqI_p{a b:Int}{st:za6}:op2 (zo8 .eq) (.p (.int a)) (.p (.int b)) st=.ok (.p (.bl (decide (a=b)))) st:=rfl
@[simp high] theorem addI_p{a b:Int}{st:za6}:op2 (zX6 .add) (.p (.int a)) (.p (.int b)) st=.ok (.p (.int (a+b))) st:=rfl
@[simp high] theorem subI_p{a b:Int}{st:za6}:op2 (zX6 .sub) (.p (.int a)) (.p (.int b)) st=.ok (.p (.int (a-b))) st:=rfl
theorem zm5{C:zc5}{W:Nat}{c:E}{b b2 r:List S}{env:Env}{st:za6}{Q:Flow→za6→Prop}(h1:evalE C c env st=.ok (.p (.bl true)) st)
  (h:Sat (execSs C W b env st) fun f st1=>Sat (yo2 C W r f st1) Q):Sat (execSs C W (.ite c b b2::r) env st) Q:=by
 rw[exs_cons,zb4,yF0,h1]
 exact h
@[simp high] theorem xi5{C:zc5}{env:Env}{st:za6}{mt:Bool}{elt:E}{tgt:Tg}{it:It}{caps:List Nat}{n:Nat}:evalE C (.comp mt elt tgt it none caps n) env st=(evalIt C it env st).bind fun p st=>(zt5 C elt none tgt p.2 p.1 (zy7 caps n env) st []).bind fun xs st=>mk mt xs st:=rfl
@[simp high] theorem xj0{C:zc5}{env:Env}{st:za6}{mt:Bool}{elt c:E}{tgt:Tg}{it:It}{caps:List Nat}{n:Nat}:evalE C (.comp mt elt tgt it (some c) caps n) env st=(evalIt C it env st).bind fun p st=>(zt5 C elt (some c) tgt p.2 p.1 (zy7 caps n env) st []).bind fun xs st=>mk mt xs st:=rfl
mutual
noncomputable def wt:PV→Nat
 |.non=>4
 |.bl _=>5
 |.int _=>40
 |.str cs=>cs.length+2
 |.tup xs=>3+wts xs
 |.lst xs=>3+wts xs
noncomputable def wts:List PV→Nat
 |[]=>0
 |x::r=>wt x+2+wts r
end
mutual
/-- numbers to a bound,texts of plain signs -/
noncomputable def okv(B:Nat):PV→Bool
 |.int i=>decide (i.natAbs≤B)
 |.str cs=>cs.all okC
 |.tup xs=>okvs B xs
 |.lst xs=>okvs B xs
 |_=>true
noncomputable def okvs(B:Nat):List PV→Bool
 |[]=>true
 |x::r=>okv B x&&okvs B r
end
@[simp] theorem wt_non:wt .non=4:=by rw[wt]
@[simp] theorem wt_bl{b}:wt (.bl b)=5:=by rw[wt]
@[simp] theorem wt_int{b}:wt (.int b)=40:=by rw[wt]
@[simp] theorem wt_str{b}:wt (.str b)=b.length+2:=by rw[wt]
@[simp] theorem wt_tup{b}:wt (.tup b)=3+wts b:=by rw[wt]
@[simp] theorem wt_lst{b}:wt (.lst b)=3+wts b:=by rw[wt]
@[simp] theorem xn2:wts []=0:=by rw[wts]
@[simp] theorem xl0{x r}:wts (x::r)=wt x+2+wts r:=by rw[wts]
@[simp] theorem xr9{a b}:wts (a++b)=wts a+wts b:=by
 induction a with
 |nil=>simp
 |cons x r ih=>simp[ih];lia
@[simp] theorem xt4{B}:okv B .non=true:=by rw[okv] <;> simp
@[simp] theorem okv_bl{B b}:okv B (.bl b)=true:=by rw[okv] <;> simp
@[simp] theorem xq7{B i}:okv B (.int i)=decide (i.natAbs≤B):=by rw[okv]
@[simp] theorem xn7{B cs}:okv B (.str cs)=cs.all okC:=by rw[okv]
theorem yp8{B xs}:okvs B xs=xs.all (okv B):=by
 induction xs with
 |nil=>rw[okvs];rfl
 |cons x r ih=>rw[okvs,ih];rfl
@[simp] theorem xr0{B xs}:okv B (.tup xs)=xs.all (okv B):=by rw[okv,yp8]
@[simp] theorem xp3{B xs}:okv B (.lst xs)=xs.all (okv B):=by rw[okv,yp8]
theorem zL4{xs:List PV}{d:Nat}:deps xs≤d↔∀x∈xs,dep x≤d:=by
 induction xs with
 |nil=>simp
 |cons x r ih=>simp[ih,Nat.max_le]
theorem yh5{i:Int}(h:i.natAbs<10 ^ 38):(zC4 i).length≤39:=by
 unfold zC4
 rw[List.length_map,String.length_toList]
 have q:∀n:Nat,n<10 ^ 38→(Nat.repr n).length≤38:=fun n hn=>by
  exact (Nat.length_repr_le_iff (by lia)).mpr hn
 cases i with
 | ofNat n =>
  show (Nat.repr n).length≤39
  have:=q n h
  lia
 | negSucc n =>
  have e:toString (Int.negSucc n) = "-" ++ Nat.repr (n+1):=rfl
  rw[e,String.length_append]
  have:=q (n+1) h
  have e1 : "-".length=1:=rfl
  lia
end OR
namespace OR
noncomputable abbrev Nm:=List Nat
noncomputable def cnt(ns f:List Nm):Nat:=(ns.filter fun n=>decide (n∈f)).length
end OR
namespace OR
theorem zO6:∀a:List Nat,strLt a a=false
 |[]=>rfl
 |x::r=>by rw[strLt,if_neg (Nat.lt_irrefl _),if_neg (Nat.lt_irrefl _)];exact zO6 r
theorem zH9:∀{a b:List Nat},strLt a b=false→strLt b a=false→a=b
 |[],[],_,_=>rfl
 |[],_::_,h,_=>by rw[strLt]at h;cases h
 |_::_,[],_,h=>by rw[strLt]at h;cases h
 | x::r,y::s,h,g=>by
  rw[strLt]at h g
  by_cases c:x<y
  ·rw[if_pos c]at h;cases h
  ·by_cases c2:y<x
   ·rw[if_pos c2]at g;cases g
   ·rw[if_neg c,if_neg c2]at h
    rw[if_neg c2,if_neg c]at g
    have:x=y:=by lia
    rw[this,zH9 h g]
theorem zE2:∀{a b c:List Nat},strLt a b=true→strLt b c=true→strLt a c=true
 |[],[],_,h,_=>by rw[strLt]at h;cases h
 |_::_,[],_,h,_=>by rw[strLt]at h;cases h
 |_,_::_,[],_,h=>by rw[strLt]at h;cases h
 |[],_::_,_::_,_,_=>by rw[strLt]
 | x::r,y::s,z::t,h,g=>by
  rw[strLt]at h g ⊢
  by_cases c1:x<y
  ·by_cases c2:y<z
   ·rw[if_pos (by lia)]
   ·by_cases c3:z<y
    ·rw[if_neg c2,if_pos c3]at g;cases g
    ·rw[if_pos (by lia)]
  ·by_cases c1':y<x
   ·rw[if_neg c1,if_pos c1']at h;cases h
   ·rw[if_neg c1,if_neg c1']at h
    have e:x=y:=by lia
    subst e
    by_cases c2:x<z
    ·rw[if_pos c2]
    ·by_cases c3:z<x
     ·rw[if_neg c2,if_pos c3]at g;cases g
     ·rw[if_neg c2,if_neg c3]at g ⊢
      exact zE2 h g
theorem yy5{a b:List Nat}(h:strLt a b=true):strLt b a=false:=by
 cases c:strLt b a with
 |false=>rfl
 |true=>have:=zE2 h c;rw[zO6]at this;cases this
theorem zF9{i:List Nat}:∀{d:List (List Nat)},(zX5 i d).Perm (i::d)
 |[]=>by rw[zX5]
 | x::r=>by
  rw[zX5]
  split
  ·exact List.Perm.refl _
  ·exact ((zF9 (d:=r)).cons x).trans (List.Perm.swap i x r)
theorem yj7{i:List Nat}:∀{d:List (List Nat)},d.Pairwise (fun a b=>strLt b a=false)→(zX5 i d).Pairwise (fun a b=>strLt b a=false)
 |[],_=>by rw[zX5];simp
 | x::r,h=>by
  rw[List.pairwise_cons]at h
  rw[zX5]
  split
  ·rename_i c
   rw[List.pairwise_cons]
   refine⟨fun b hb=>?_,List.pairwise_cons.mpr h⟩
   rcases List.mem_cons.mp hb with rfl |hb
   ·exact yy5 c
   ·have h1:=h.1 b hb
    cases c2:strLt b i with
    |false=>rfl
    |true=>rw[zE2 c2 c]at h1;cases h1
  ·rename_i c
   rw[List.pairwise_cons]
   refine⟨fun b hb=>?_,yj7 h.2⟩
   rcases List.mem_cons.mp (zF9.mem_iff.mp hb)with rfl |hb
   ·simpa using c
   ·exact h.1 b hb
theorem xb8(ns:List (List Nat)):(ns.foldl (fun d i=>zX5 i d) []).Pairwise (fun a b=>strLt b a=false)∧(ns.foldl (fun d i=>zX5 i d) []).Perm ns:=by
 have:∀(ns d:List (List Nat)),d.Pairwise (fun a b=>strLt b a=false)→(ns.foldl (fun d i=>zX5 i d) d).Pairwise (fun a b=>strLt b a=false)∧(ns.foldl (fun d i=>zX5 i d) d).Perm (d++ns):=by
  intro ns
  induction ns with
  |nil=>intro d h;exact⟨h,by simp⟩
  | cons i r ih =>
   intro d h
   obtain⟨a,b⟩:=ih _ (yj7 (i:=i) h)
   refine⟨a,b.trans ?_⟩
   refine ((zF9 (i:=i) (d:=d)).append_right r).trans ?_
   exact (List.perm_middle (a:=i) (l₁:=d) (l₂:=r)).symm
 obtain⟨a,b⟩:=this ns [] .nil
 exact⟨a,by simpa using b⟩
theorem zZ7:∀{a b:List (List Nat)},a.Pairwise (fun a b=>strLt b a=false)→b.Pairwise (fun a b=>strLt b a=false)→a.Perm b→a=b
 |[],b,_,_,p=>by rw[p.nil_eq]
 |x::r,[],_,_,p=>by have:=p.length_eq;simp at this
 | x::r,y::q,ha,hb,p=>by
  rw[List.pairwise_cons]at ha hb
  have e:x=y:=by
   rcases List.mem_cons.mp (p.mem_iff.mp (List.mem_cons_self (a:=x) (l:=r)))with e |e
   ·exact e
   ·rcases List.mem_cons.mp (p.mem_iff.mpr (List.mem_cons_self (a:=y) (l:=q)))with e2 |e2
    ·exact e2.symm
    ·exact zH9 (hb.1 x e) (ha.1 y e2)
  subst e
  rw[zZ7 ha.2 hb.2 (List.Perm.cons_inv p)]
theorem yN9(a:List (List Nat)):¬a<a:=List.lt_irrefl a
theorem zF0{i:List (List Nat)}:∀{d:List (List (List Nat))},(yc2 i d).Perm (i::d)
 |[]=>List.Perm.refl _
 | x::r=>by
  unfold yc2
  split
  ·exact List.Perm.refl _
  ·exact (List.Perm.cons x zF0).trans (List.Perm.swap i x r)
theorem yk3{i:List (List Nat)}:∀{d:List (List (List Nat))},d.Pairwise (fun a b=>¬b<a)→(yc2 i d).Pairwise (fun a b=>¬b<a)
 |[],_=>List.pairwise_singleton _ _
 | x::r,h=>by
  obtain⟨h1,h2⟩:=List.pairwise_cons.mp h
  unfold yc2
  split
  ·rename_i c
   refine List.pairwise_cons.mpr ⟨fun y hy e=>?_,h⟩
   rcases List.mem_cons.mp hy with rfl |hy
   ·exact yN9 _ (List.lt_trans c e)
   ·exact h1 y hy (List.lt_trans e c)
  ·rename_i c
   refine List.pairwise_cons.mpr ⟨fun y hy=>?_,yk3 h2⟩
   rcases List.mem_cons.mp (zF0.mem_iff.mp hy)with rfl |hy
   ·exact c
   ·exact h1 y hy
theorem yY9(xs:List (List (List Nat))):(xs.foldl (fun d i=>yc2 i d) []).Pairwise (fun a b=>¬b<a)∧(xs.foldl (fun d i=>yc2 i d) []).Perm xs:=by
 have key:∀(xs d:List (List (List Nat))),d.Pairwise (fun a b=>¬b<a)→(xs.foldl (fun d i=>yc2 i d) d).Pairwise (fun a b=>¬b<a)∧(xs.foldl (fun d i=>yc2 i d) d).Perm (d++xs):=by
  intro xs
  induction xs with
  |nil=>intro d h;exact⟨h,by simp⟩
  | cons x r ih =>
   intro d h
   obtain⟨a,b⟩:=ih (yc2 x d) (yk3 h)
   refine⟨a,b.trans ?_⟩
   refine (List.Perm.append_right r zF0).trans ?_
   exact (List.perm_middle).symm
 have:=key xs [] List.Pairwise.nil
 simpa using this
theorem yc4:∀{a b:List (List (List Nat))},a.Pairwise (fun a b=>¬b<a)→b.Pairwise (fun a b=>¬b<a)→a.Perm b→a=b
 |[],b,_,_,p=>by rw[p.nil_eq]
 |x::a,[],_,_,p=>by have:=p.length_eq;cases this
 | x::a,y::b,h1,h2,p=>by
  obtain⟨u1,u2⟩:=List.pairwise_cons.mp h1
  obtain⟨v1,v2⟩:=List.pairwise_cons.mp h2
  have e:x=y:=by
   have hx:x∈y::b:=p.mem_iff.mp (by simp)
   have hy:y∈x::a:=p.mem_iff.mpr (by simp)
   rcases List.mem_cons.mp hx with e |hx
   ·exact e
   ·rcases List.mem_cons.mp hy with e |hy
    ·exact e.symm
    ·exact List.le_antisymm (List.not_lt.mp (u1 y hy)) (List.not_lt.mp (v1 x hx))
  subst e
  rw[yc4 u2 v2 (List.Perm.cons_inv p)]
end OR
namespace L2
open PySem PySem.Spec PyProof.Rows
noncomputable abbrev Key:=Sum Int Str
noncomputable def yf0:Key→Value→Bool
 |.inl k,v=>Value.isInt k v
 |.inr x,v=>Value.isStrOf x v
noncomputable def keyH(w:World):Key→Int
 |.inl k=>hashInt k
 |.inr x=>hashStr w x
theorem zj7:∀{k:Key} {v:Value},yf0 k v=true→(∃i t,k=Sum.inl i∧v=Value.int i t)∨(∃x t,k=Sum.inr x∧v=Value.str x t)
 | .inl i,v,h=>by
  obtain⟨t,e⟩:=Value.isInt_shape (k:=i) (v:=v) h
  exact .inl ⟨i,t,rfl,e⟩
 | .inr x,v,h=>by
  obtain⟨t,e⟩:=Value.isStrOf_shape (x:=x) (v:=v) h
  exact .inr ⟨x,t,rfl,e⟩
theorem yo6(i:Int)(t:Tok):yf0 (.inl i) (.int i t)=true:=by simp[yf0,Value.isInt]
theorem yt9(x:Str)(t:Tok):yf0 (.inr x) (.str x t)=true:=by simp[yf0,Value.isStrOf]
theorem xe7(a b:Int):decide ((Sum.inl a:Key)=Sum.inl b)=(a==b):=by
 by_cases e:a=b
 ·subst e;simp
 ·have h:¬(Sum.inl a:Key)=Sum.inl b:=fun q=>e (Sum.inl.inj q)
  rw[decide_eq_false h]
  exact (beq_eq_false_iff_ne.mpr e).symm
theorem xg7(a b:Str):decide ((Sum.inr a:Key)=Sum.inr b)=decide (a=b):=by
 by_cases e:a=b
 ·subst e;simp
 ·have h:¬(Sum.inr a:Key)=Sum.inr b:=fun q=>e (Sum.inr.inj q)
  rw[decide_eq_false h,decide_eq_false e]
theorem xh8(a:Int)(b:Str):decide ((Sum.inl a:Key)=Sum.inr b)=false:=decide_eq_false (fun q=>nomatch q)
theorem xb5(a:Str)(b:Int):decide ((Sum.inr a:Key)=Sum.inl b)=false:=decide_eq_false (fun q=>nomatch q)
noncomputable def zk5(prog:Program)(w:World):PySem.KeyKind prog w Key where
 is:=yf0
 hash:=keyH w
 inj:=fun v a b ha hb=>by
  rcases zj7 ha with⟨i,t,rfl,rfl⟩|⟨x,t,rfl,rfl⟩
  ·rcases zj7 hb with⟨j,u,rfl,e⟩|⟨y,u,rfl,e⟩
   ·injection e with e1 _;rw[e1]
   ·exact nomatch e
  ·rcases zj7 hb with⟨j,u,rfl,e⟩|⟨y,u,rfl,e⟩
   ·exact nomatch e
   ·injection e with e1 _;rw[e1]
 byValue:=fun k v h=>by
  rcases zj7 h with⟨i,t,rfl,rfl⟩|⟨x,t,rfl,rfl⟩ <;> rfl
 pyHash:=fun hv h=>by
  rcases zj7 hv with⟨i,t,rfl,rfl⟩|⟨x,t,rfl,rfl⟩
  ·exact wpAny_pyHash_int h
  ·exact wpAny_pyHash_str h
 eqBool:=fun hu hv h=>by
  rcases zj7 hu with⟨i,t,rfl,rfl⟩|⟨x,t,rfl,rfl⟩
  ·rcases zj7 hv with⟨j,u,rfl,rfl⟩|⟨y,u,rfl,rfl⟩
   ·rw[xe7]at h;exact wpAny_eqBool_int h
   ·rw[xh8]at h;exact SeqAt.EqAt.int_str i t y u _ _ _ _ h
  ·rcases zj7 hv with⟨j,u,rfl,rfl⟩|⟨y,u,rfl,rfl⟩
   ·rw[xb5]at h;exact SeqAt.EqAt.str_int x t j u _ _ _ _ h
   ·rw[xg7]at h;exact wpAny_eqBool_str h
 «strs»:=fun k x t v h=>by
  rcases zj7 h with⟨i,u,rfl,e⟩|⟨y,u,rfl,e⟩
  ·exact nomatch e
  ·injection e with e1 _
   subst e1
   cases v <;> rfl
theorem zW8(prog:Program)(w:World)(i:Int)(t:Tok):(zk5 prog w).is (.inl i) (.int i t)=true:=yo6 i t
theorem zZ4(prog:Program)(w:World)(x:Str)(t:Tok):(zk5 prog w).is (.inr x) (.str x t)=true:=yt9 x t
inductive V where
 |non |bl (b:Bool)|int (i:Int)|str (x:Str)|byt (b:Array UInt8)|flt (b:UInt64)|ref (a:Addr)|ty (n:String)
 deriving DecidableEq
def RelV:V→Value→Prop
 |.non,u=>u=Value.none
 |.bl b,u=>u=Value.bool b
 |.int i,u=>∃t,u=Value.int i t
 |.str x,u=>∃t,u=Value.str x t
 |.byt b,u=>∃t,u=Value.bytes b t
 |.flt b,u=>∃t,u=Value.float b t
 |.ref a,u=>u=Value.ref a
 |.ty n,u=>u=Value.type n
noncomputable abbrev zi9:List V→List Value→Prop:=Paired RelV
theorem zi9.length{xs:List V}{us:List Value}(r:zi9 xs us):xs.length=us.length:=Paired.length r
theorem zi9.get:∀{xs:List V} {us:List Value} {i:Nat} {x:V},zi9 xs us→xs[i]?=some x→∃u,us[i]?=some u∧RelV x u
 |_,_,_,_,.nil,e=>by simp at e
 |_,_,0,_,.cons r _,e=>by simp at e;subst e;exact⟨_,rfl,r⟩
 | _,_,i+1,x,.cons _ t,e=>by
  obtain⟨u,h1,h2⟩:=zi9.get (i:=i) (x:=x) t (by simpa using e)
  exact⟨u,by simpa using h1,h2⟩
theorem zi9.set{x:V}{u:Value}(r:RelV x u):∀{xs:List V} {us:List Value} (i:Nat),zi9 xs us→zi9 (xs.set i x) (us.set i u)
 |_,_,_,.nil=>.nil
 |_,_,0,.cons _ t=>.cons r t
 |_,_,i+1,.cons q t=>.cons q (zi9.set r i t)
theorem zi9.append:∀{xs ys:List V} {us ws:List Value},zi9 xs us→zi9 ys ws→zi9 (xs++ys) (us++ws)
 |_,_,_,_,.nil,s=>s
 |_,_,_,_,.cons r t,s=>.cons r (zi9.append t s)
theorem zi9.take:∀{xs:List V} {us:List Value} (n:Nat),zi9 xs us→zi9 (xs.take n) (us.take n)
 |_,_,0,_=>.nil
 |_,_,_+1,.nil=>.nil
 |_,_,n+1,.cons r t=>.cons r (zi9.take n t)
theorem zi9.drop:∀{xs:List V} {us:List Value} (n:Nat),zi9 xs us→zi9 (xs.drop n) (us.drop n)
 |_,_,0,r=>r
 |_,_,_+1,.nil=>.nil
 |_,_,n+1,.cons _ t=>zi9.drop n t
def yh4:Option V→Option Value→Prop
 |some v,some u=>RelV v u
 |none,none=>True
 |_,_=>False
def KV{κ:Type}:List (κ×V)→List (κ×Value)→Prop:=Paired fun (p:κ×V) (q:κ×Value)=>p.1=q.1∧RelV p.2 q.2
noncomputable def kV:Key→V
 |.inl i=>.int i
 |.inr x=>.str x
inductive HO where
 /-- a list -/
 |lst (xs:List V)
 /-- a tuple (never changes) -/
 |tup (xs:List V)
 /-- a dict whose keys are ints and texts;one whose keys are tuples of ints and texts (the empty one is both) -/
 |dK (kvs:List (Key×V))|dT (kvs:List (List Key×V))
 /-- a set of ints: its members,its size -/
 |set (S:Int→Bool) (n:Nat)
 /-- an instance of the class at C,its dict at dx,its attributes -/
 |ins (C dx:Addr) (fs:List (Str×V))
 /-- the dict of the instance at x -/
 |own (x:Addr)
 /-- the dict of an exception -/
 |xd (fs:List (Str×V))
 /-- a bound method,f of x -/
 |met (f x:Addr)
 /-- a range object lo,lo+1,.. below hi -/
 |rng (lo hi:Int)
 /-- a thing that is known to the object (the script;a dict while a loop walks it): read,never written while it is so -/
 |frz (o:Obj) (u:HO)
 /-- a code object's table -/
 |tbl (ps:Array Value)
 /-- any other thing,by what is true of its one object (a def of one's own: SetO a S n:=HO.ext fun h=>..) -/
 |ext (φ:Heap→Prop)
noncomputable abbrev Hp:=Addr→Option HO
noncomputable def upd(H:Hp)(a:Addr)(o:HO):Hp:=fun b=>if b=a then some o else H b
theorem ze2{H:Hp}{a:Addr}{o:HO}:upd H a o a=some o:=by unfold upd;rw[if_pos rfl]
theorem zf5{H:Hp}{a b:Addr}{o:HO}(h:b≠a):upd H a o b=H b:=by unfold upd;rw[if_neg h]
theorem zr3{H:Hp}{a b:Addr}{o:HO}(h:H a=some o)(h':H b=none):a≠b:=by
 intro e;subst e;rw[h]at h';cases h'
def zC3(h:Heap)(a:Addr)(its:Array Value):Prop:=∃o,h.get? a=some o∧o.cls=.type "tuple" ∧ o.dict=none∧∃n,o.data=.seq its n
theorem zC3.new(h:Heap)(its:Array Value):zC3 (h.push { cls:=.type "tuple", data:=.seq its }) h.objs.size its:=⟨_,Heap.get?_push_size _ rfl,rfl,rfl,_,rfl⟩
def Rd(H:Hp)(a:Addr)(u:HO):Prop:=H a=some u∨∃o,H a=some (.frz o u)
theorem Rd.past{H:Hp}{a b:Addr}{u o:HO}(h:b≠a)(r:Rd H b u):Rd (upd H a o) b u:=by
 unfold Rd;rw[zf5 h];exact r
theorem Rd.ne{H:Hp}{a b:Addr}{u:HO}(r:Rd H b u)(h:H a=none):b≠a:=by
 rintro rfl;rcases r with r |⟨_,r⟩ <;> rw[h]at r <;> cases r
section
variable(P:Program)(w:World)
def zl8(H:Hp)(h:Heap)(a:Addr):HO→Prop
 |.lst xs=>xs.length≤sizeLine∧∃(its:List Value) (n:Nat),zi9 xs its∧h.get? a=some { cls:=.type "list", data:=.seq its.toArray n }
 |.tup xs=>xs.length≤sizeLine∧∃its:List Value,zi9 xs its∧zC3 h a its.toArray
 |.dK kvs=>kvs.length≤sizeLine∧(a==sysModules)=false∧∃vs,KV kvs vs∧h.DictOf (zk5 P w) a vs
 | .dT kvs=>kvs.length≤sizeLine∧(a==sysModules)=false∧∃xs:List (List Key×Addr×Value),
   Paired (fun (p:List Key×V) (q:List Key×Addr×Value)=>p.1=q.1∧Rd H q.2.1 (.tup (p.1.map kV))∧RelV p.2 q.2.2) kvs xs ∧
   ∃o es ep,h.get? a=some o∧o.ExactDict∧o.data=.dict es ep∧es.toList=xs.map (entryOfKey (tupleKind (zk5 P w)))∧(xs.map (·.1)).Nodup
 |.set S n=>h.SetOf (intKind P w) a S n
 | .ins C dx fs=>H dx=some (.own a)∧fs.length≤1000∧dx≠a∧h.get? a=some (PySem.W.instObj C dx) ∧
   ∃mA,h.Ns1 dx mA∧(∀f,yh4 (fs.lookup f) (mA f))∧PySem.Within mA (fs.map (·.1))
 |.own _=>∃o,h.get? a=some o
 |.xd fs=>∃mA,h.Ns1 a mA∧∀f,yh4 (fs.lookup f) (mA f)
 |.rng lo hi=>∃t u v,h.get? a=some { cls:=.type "range", data:=.fields #[.int lo t,.int hi u,.int 1 v] }
 |.frz o u=>h.get? a=some o∧zl8 H h a u
 |.tbl ps=>h.get? a=some { cls:=.none,data:=.fields ps }
 |.met f x=>h.get? a=some (PySem.W.methodObj (.ref f) (.ref x))
 |.ext φ=>φ h∧(∃o,h.get? a=some o)∧∀h1 h2:Heap,φ h1→(∀o,h1.get? a=some o→h2.get? a=some o)→φ h2
def HOk(H:Hp)(h:Heap):Prop:=∀a o,H a=some o→zl8 P w H h a o
end
section
variable{P:Program}{w:World}{H H':Hp}{h h':Heap}{a:Addr}{o:HO}
theorem zl8.lt(x:zl8 P w H h a o):a<h.objs.size:=by
 cases o with
 |lst xs=>obtain⟨_,_,_,_,e⟩:=x;exact Heap.lt_size e
 |tup xs=>obtain⟨_,_,_,_,e,_⟩:=x;exact Heap.lt_size e
 |dK kvs=>obtain⟨_,_,_,_,o,_,_,e,_⟩:=x;exact Heap.lt_size e
 |dT kvs=>obtain⟨_,_,_,_,o,_,_,e,_⟩:=x;exact Heap.lt_size e
 |set S n=>obtain⟨o,_,_,_,e,_⟩:=x;exact Heap.lt_size e
 |ins C dx fs=>obtain⟨_,_,_,e,_⟩:=x;exact Heap.lt_size e
 |own y=>obtain⟨_,e⟩:=x;exact Heap.lt_size e
 |xd fs=>obtain⟨_,⟨_,_,_,e,_⟩,_⟩:=x;exact Heap.lt_size e
 |rng lo hi=>obtain⟨_,_,_,e⟩:=x;exact Heap.lt_size e
 |frz ob u=>obtain⟨e,_⟩:=x;exact Heap.lt_size e
 |tbl ps=>exact Heap.lt_size (show h.get? a=some _ from x)
 |met f y=>exact Heap.lt_size (show h.get? a=some _ from x)
 |ext φ=>obtain⟨_,⟨_,e⟩,_⟩:=x;exact Heap.lt_size e
theorem Paired.mapP{α β:Type}{F G:α→β→Prop}:∀{l₁:List α} {l₂:List β},Paired F l₁ l₂→(∀a b,F a b→G a b)→Paired G l₁ l₂
 |_,_,.nil,_=>.nil
 |_,_,.cons r t,f=>.cons (f _ _ r) (Paired.mapP t f)
theorem zl8.stay(x:zl8 P w H h a o)(k:∀b u,(b=a∨H b=some (.own a))→h.get? b=some u→h'.get? b=some u)
  (ho:∀b,H b=some (.own a)→H' b=some (.own a)) (ht:∀b xs,Rd H b (.tup xs)→Rd H' b (.tup xs)):zl8 P w H' h' a o:=by
 induction o with
 |lst xs=>obtain⟨z,its,n,r,e⟩:=x;exact⟨z,its,n,r,k _ _ (.inl rfl) e⟩
 |tup xs=>obtain⟨z,its,r,ob,e,c⟩:=x;exact⟨z,its,r,ob,k _ _ (.inl rfl) e,c⟩
 |dK kvs=>obtain⟨z,y,vs,r,ob,es,ep,e,c⟩:=x;exact⟨z,y,vs,r,ob,es,ep,k _ _ (.inl rfl) e,c⟩
 | dT kvs =>
  obtain⟨z,y,xs,r,ob,es,ep,e,c⟩:=x
  exact⟨z,y,xs,Paired.mapP r fun p q z=>⟨z.1,ht _ _ z.2.1,z.2.2⟩,ob,es,ep,k _ _ (.inl rfl) e,c⟩
 |set S n=>obtain⟨ob,es,ep,t,e,c⟩:=x;exact⟨ob,es,ep,t,k _ _ (.inl rfl) e,c⟩
 | ins C dx fs =>
  obtain⟨d,z,ne,e,mA,⟨od,es,ep,e2,c⟩,r⟩:=x
  exact⟨ho _ d,z,ne,k _ _ (.inl rfl) e,mA,⟨od,es,ep,k _ _ (.inr d) e2,c⟩,r⟩
 |own y=>obtain⟨ob,e⟩:=x;exact⟨ob,k _ _ (.inl rfl) e⟩
 |xd fs=>obtain⟨mA,⟨od,es,ep,e,c⟩,r⟩:=x;exact⟨mA,⟨od,es,ep,k _ _ (.inl rfl) e,c⟩,r⟩
 |rng lo hi=>obtain⟨t,u,v,e⟩:=x;exact⟨t,u,v,k _ _ (.inl rfl) e⟩
 |frz ob u ih=>obtain⟨e,q⟩:=x;exact⟨k _ _ (.inl rfl) e,ih q⟩
 | tbl ps =>
  have e:h.get? a=some { cls:=.none,data:=.fields ps }:=x
  show h'.get? a=some { cls:=.none,data:=.fields ps }
  exact k a _ (.inl rfl) e
 | met f y =>
  have e:h.get? a=some (PySem.W.methodObj (.ref f) (.ref y)):=x
  show h'.get? a=some (PySem.W.methodObj (.ref f) (.ref y))
  exact k a _ (.inl rfl) e
 |ext φ=>obtain⟨p,⟨o,e⟩,st⟩:=x;exact⟨st _ _ p fun o q=>k _ _ (.inl rfl) q,⟨o,k _ _ (.inl rfl) e⟩,st⟩
theorem HOk.lt(x:HOk P w H h)(e:H a=some o):a<h.objs.size:=(x a o e).lt
theorem HOk.fresh(x:HOk P w H h)(e:h.objs.size≤a):H a=none:=by
 cases q:H a with
 |none=>rfl
 |some u=>exact absurd (Nat.lt_of_lt_of_le (x.lt q) e) (Nat.lt_irrefl _)
theorem HOk.kept(x:HOk P w H h)(k:∀b u,h.get? b=some u→h'.get? b=some u):HOk P w H h':=fun a o e =>
 (x a o e).stay (fun b u _ q=>k b u q) (fun _ q=>q) fun _ _ q=>q
theorem HOk.laid(x:HOk P w H h)(k:∀b u,h.get? b=some u→h'.get? b=some u)(hp:h.objs.size≤a)(new:zl8 P w (upd H a o) h' a o):HOk P w (upd H a o) h':=fun b u e=>by
 have hn:=x.fresh hp
 by_cases hb:b=a
 ·subst hb;rw[ze2]at e;cases e;exact new
 ·rw[zf5 hb]at e
  exact (x b u e).stay (fun c v _ q=>k c v q) (fun c q=>by rw[zf5 (zr3 q hn)];exact q) fun c xs q=>q.past (q.ne hn)
end
theorem Rd.ok{P:Program}{w:World}{H:Hp}{h:Heap}{a:Addr}{u:HO}(r:Rd H a u)(x:HOk P w H h):zl8 P w H h a u:=by
 rcases r with r |⟨o,r⟩
 ·exact x a u r
 ·obtain⟨_,q⟩:=x a _ r
  exact q
def Mut:Option HO→Prop
 |some (.lst _)=>True
 |some (.dK _)=>True
 |some (.dT _)=>True
 |some (.set _ _)=>True
 |some (.ins _ _ _)=>True
 |some (.ext _)=>True
 |_=>False
section
variable{P:Program}{w:World}{H:Hp}{h h':Heap}{x e:Addr}{o':HO}
theorem HOk.write(ok:HOk P w H h)(mu:Mut (H x))(he:e=x∨H e=some (.own x))(k:∀b u,b≠e→h.get? b=some u→h'.get? b=some u)(heo:∃u,h'.get? e=some u)
  (new:zl8 P w (upd H x o') h' x o'):HOk P w (upd H x o') h':=fun b u q=>by
 have nown:∀c y,H c=some (.own y)→c≠x:=fun c y r z=>by subst z;rw[r]at mu;exact mu
 have ntup:∀c xs,Rd H c (.tup xs)→c≠x:=fun c xs r z=>by subst z;rcases r with r |⟨_,r⟩ <;> rw[r]at mu <;> exact mu
 by_cases hb:b=x
 ·subst hb;rw[ze2]at q;cases q;exact new
 ·rw[zf5 hb]at q
  by_cases hbe:b=e
  ·have q':H b=some (.own x):=by
    rcases he with z |z
    ·exact absurd (hbe.trans z) hb
    ·rw[hbe];exact z
   rw[q]at q';cases q'
   obtain⟨v,hv⟩:=heo
   exact⟨v,by rw[hbe];exact hv⟩
  ·refine (ok b u q).stay (fun c v hc r=>k c v ?_ r) (fun c r=>by rw[zf5 (nown c b r)];exact r) fun c xs r=>r.past (ntup c xs r)
   rcases hc with rfl |hc
   ·exact hbe
   ·rintro rfl
    rcases he with z |z
    ·exact nown c b hc z
    ·rw[hc]at z;cases z;exact hb rfl
end
structure Un(fs ex:List Addr)(H H':Hp)(h h':Heap):Prop where
 keep:∀b o,h.get? b=some o→H b=none→b∉fs→b∉ex→h'.get? b=some o
 slot:∀b o,h.get? b=some o→H b=none→b∈fs→b∉ex→∃sl,h'.get? b=some { o with slots:=sl }
 free:∀b o,h.get? b=some o→H b=none→b∉ex→H' b=none
 there:∀b o,h.get? b=some o→b∉ex→∃o',h'.get? b=some o'
 tups:∀b xs,H b=some (.tup xs)→H' b=some (.tup xs)
 frzs:∀b o u,H b=some (.frz o u)→H' b=some (.frz o u)
 tbls:∀b ps,H b=some (.tbl ps)→∃more,H' b=some (.tbl (ps++more))
section
variable{fs fs' ex ex':List Addr}{H H1 H2:Hp}{h h1 h2 h':Heap}{a x e:Addr}{o:HO}
theorem Un.any(u:Un fs ex H H1 h h1){b:Addr}{ob:Obj}(q:h.get? b=some ob)(n:H b=none)(hx:b∉ex):∃sl,h1.get? b=some { ob with slots:=sl }:=by
 by_cases hb:b∈fs
 ·exact u.slot b ob q n hb hx
 ·exact⟨ob.slots,u.keep b ob q n hb hx⟩
theorem Un.kept(k:∀b u,h.get? b=some u→h'.get? b=some u):Un fs ex H H h h' :=
 ⟨fun b ob q _ _ _=>k b ob q,fun b ob q _ _ _=>⟨ob.slots,k b ob q⟩,fun _ _ _ n _=>n,fun b ob q _=>⟨ob,k b ob q⟩,fun _ _ q=>q,fun _ _ _ q=>q,fun _ ps q=>⟨#[],by rw[q];simp⟩⟩
theorem Un.refl:Un fs ex H H h h:=Un.kept fun _ _ q=>q
theorem Un.laid(k:∀b u,h.get? b=some u→h'.get? b=some u)(hp:h.objs.size≤a)(hn:H a=none):Un fs ex H (upd H a o) h h' where
 keep:=fun b u q _ _ _=>k b u q
 slot:=fun b u q _ _ _=>⟨u.slots,k b u q⟩
 free:=fun b u q n _=>by rw[zf5 (Nat.ne_of_lt (Nat.lt_of_lt_of_le (Heap.lt_size q) hp))];exact n
 there:=fun b u q _=>⟨u,k b u q⟩
 tups:=fun b xs q=>by rw[zf5 (zr3 q hn)];exact q
 frzs:=fun b u xs q=>by rw[zf5 (zr3 q hn)];exact q
 tbls:=fun b ps q=>⟨#[],by rw[zf5 (zr3 q hn),q];simp⟩
theorem Un.write(mu:Mut (H x))(he:e=x∨H e=some (.own x))(k:∀b u,b≠e→h.get? b=some u→h'.get? b=some u)(heo:∃u,h'.get? e=some u):Un fs ex H (upd H x o) h h':=by
 have hx:∀b,H b=none→b≠x:=fun b n z=>by subst z;rw[n]at mu;exact mu
 have hb:∀b,H b=none→b≠e:=fun b n z=>by
  subst z
  rcases he with r |r
  ·exact hx b n r
  ·rw[n]at r;cases r
 have hm:∀b u,H b=some u→¬Mut (some u)→b≠x:=fun b u q nm z=>by subst z;rw[q]at mu;exact nm mu
 refine ⟨fun b u q n _ _=>k b u (hb b n) q,fun b u q n _ _=>⟨u.slots,k b u (hb b n) q⟩,fun b u q n _=>by rw[zf5 (hx b n)];exact n,fun b u q _=>?_,
  fun b xs q=>by rw[zf5 (hm b _ q fun z=>z)];exact q,fun b u xs q=>by rw[zf5 (hm b _ q fun z=>z)];exact q,fun b ps q=>⟨#[],by rw[zf5 (hm b _ q fun z=>z),q];simp⟩⟩
 by_cases hbe:b=e
 ·subst hbe;exact heo
 ·exact⟨u,k b u hbe q⟩
end
noncomputable def trk(h:Heap)(H:Hp):List Addr:=(List.range h.objs.size).filter fun a=>(H a).isSome
noncomputable def yB7(h:Heap)(H:Hp):Heap:=PySem.W.hideAll h (trk h H)
theorem yt7(h:Heap)(H:Hp):(yB7 h H).objs.size=h.objs.size:=PySem.W.hideAll_size _ _
theorem yC5{h:Heap}{H:Hp}{b:Addr}{o:Obj}(e:h.get? b=some o)(n:H b=none):(yB7 h H).get? b=some o :=
 PySem.W.hideAll_get _ e fun hm=>by
  have q:(H b).isSome=true:=(List.mem_filter.mp hm).2
  rw[n]at q;simp at q
theorem yI0{h:Heap}{H:Hp}{b:Addr}{o:Obj}(e:(yB7 h H).get? b=some o):h.get? b=some o∧H b=none:=by
 have e':h.get? b=some o:=PySem.W.of_hideAll (trk h H) e
 refine⟨e',?_⟩
 cases q:H b with
 |none=>rfl
 | some x =>
  have hm:b∈trk h H:=List.mem_filter.mpr ⟨List.mem_range.mpr (Heap.lt_size e'),by simp[q]⟩
  have z:(yB7 h H).get? b=none:=PySem.W.hideAll_none (trk h H) hm
  rw[z]at e;cases e
noncomputable def yH4(g h:Heap)(L:Addr):List (Addr×Obj):=(List.range h.objs.size).filterMap fun a=>if a=L∨(g.get? a).isSome=true then none else (h.get? a).map fun o=>(a,o)
noncomputable def zn7(g h:Heap)(L d:Addr):List (Addr×Obj):=(yH4 g h L).filter fun p=>decide (p.1≠d)
structure Mod(K:Frag)(mg:Str→Option Value)(base:Heap):Prop where
 kin:K.In base
 glob:base.Ns mainGlobals mg
 blt:∃mb,base.Ns builtinsNs mb∧∀x:Str,x ≠ "__name__" → mb x=bootBuiltins x
 nolimit:base.NoLimit
structure Cx where
 prog:Program
 w:World
 K:Frag
 mg:Str→Option Value
 base:Heap
 A:Around
 N:List Str
 s₀:Shared
 H₀:Hp
 env:Env
 outer:List Env
 stack:List Env
 ex:List Addr
 fn:Str→Bool
 calm:Bool
 pn:List (Addr×Obj)
 xe:Value→Shared→Prop
noncomputable def frs(l:List Env):List Addr:=l.filterMap (·.frame)
noncomputable abbrev Cx.fs(X:Cx):List Addr:=frs X.outer
def Vis(sc:Scope)(x:Str):Prop:=sc.names.lookup x=some .local∨sc.names.lookup x=some .cell∨sc.names.lookup x=some .free
def Loc(sc:Scope)(x:Str):Prop:=sc.names.lookup x=some .local∨sc.names.lookup x=some .cell
def Look(env:Env)(h:Heap)(m:Str→Option Value)(x:Str)(u:Value):Prop :=
 (env.kindOf x=some .local∧m x=some u)∨((env.kindOf x=some .cell∨env.kindOf x=some .free)∧∃c,env.cells.lookup x=some c∧h.IsCell c (some u))
structure Cx.Ok(X:Cx):Prop where
 mod:Mod X.K X.mg X.base
 kind:X.env.scope.kind=.function
 glob:X.env.globals=mainGlobals
 blt:X.env.builtins=builtinsNs
 above:X.s₀.heap.objs.size≤X.env.locals
 inj:∀x y c,X.env.cells.lookup x=some c→X.env.cells.lookup y=some c→x=y
 has:∀x,(X.env.kindOf x=some .cell∨X.env.kindOf x=some .free)→∃c,X.env.cells.lookup x=some c
 cab:∀x c,X.fn x=true→X.env.cells.lookup x=some c→X.s₀.heap.objs.size≤c
 hd:X.calm=true→X.A.handled=none
 frames:X.A.frames=some X.stack
 stk:X.stack=X.outer∨(X.stack=X.env::X.outer∧X.env.frame=some X.env.locals)
 exf:∀b∈X.ex,b≠X.env.locals∧∀x c,X.env.cells.lookup x=some c→c≠b
 bs:∀b o,X.base.get? b=some o→X.s₀.heap.get? b=some o∧X.H₀ b=none
 bsz:X.base.objs.size≤X.s₀.heap.objs.size
 noex:∀b o,X.base.get? b=some o→b∉X.ex
 exfs:∀b∈X.ex,b∉X.fs
 funs:X.s₀.heap.FunFrames X.base X.outer
 frf:∀b∈X.fs,X.H₀ b=none
structure Inv(X:Cx)(pins:List (Addr×Obj))(σ:List (Option V))(H:Hp)(s:Shared):Prop where
 ok:X.Ok
 os:s.os=X.s₀.os
 bare:AllBare s.gens
 base:Un X.fs X.ex X.H₀ H X.s₀.heap s.heap
 loc:∃m,s.heap.Ns X.env.locals m∧∀(i:Nat) (x:Str) (v:V),X.N[i]?=some x→σ[i]?=some (some v)→Vis X.env.scope x→∃u,RelV v u∧Look X.env s.heap m x u
 cell:∀x c,X.env.cells.lookup x=some c→∃v,s.heap.IsCell c v
 free:H X.env.locals=none
 freeC:∀x c,X.env.cells.lookup x=some c→H c=none
 pin:∀p∈X.pn++pins,s.heap.get? p.1=some p.2∧H p.1=none∧p.1≠X.env.locals∧p.1∉X.fs∧∀v,p.2.data≠.cell v
 hok:HOk X.prog X.w H s.heap
 len:σ.length=X.N.length
section
variable{X:Cx}{pins:List (Addr×Obj)}{σ:List (Option V)}{H H':Hp}{s:Shared}{h':Heap}
theorem Cx.Ok.nofr(ok:X.Ok){b:Addr}{o:Obj}(e:X.base.get? b=some o):b∉X.fs:=fun hb=>by
 have:=(ok.funs.mem hb).1
 rw[e]at this;cases this
theorem Inv.bs(I:Inv X pins σ H s):∀b o,X.base.get? b=some o→s.heap.get? b=some o∧H b=none:=fun b o e =>
 ⟨I.base.keep b o (I.ok.bs b o e).1 (I.ok.bs b o e).2 (I.ok.nofr e) (I.ok.noex b o e),I.base.free b o (I.ok.bs b o e).1 (I.ok.bs b o e).2 (I.ok.noex b o e)⟩
theorem Inv.bk(I:Inv X pins σ H s):∀b o,X.base.get? b=some o→s.heap.get? b=some o:=fun b o e=>(I.bs b o e).1
theorem Inv.mod(I:Inv X pins σ H s):Mod X.K X.mg X.base:=I.ok.mod
theorem Inv.kIn(I:Inv X pins σ H s):X.K.In s.heap:=I.ok.mod.kin.keeps I.bk
theorem Inv.lt(I:Inv X pins σ H s):X.env.locals<s.heap.objs.size:=let⟨_,hn,_⟩:=I.loc;hn.lt
theorem Inv.sz(I:Inv X pins σ H s):X.s₀.heap.objs.size≤s.heap.objs.size:=Nat.le_trans I.ok.above (Nat.le_of_lt I.lt)
theorem Inv.nofs(I:Inv X pins σ H s){a:Addr}(h:s.heap.objs.size≤a):a∉X.fs:=fun hb=>by
 obtain⟨_,o,ho,_⟩:=I.ok.funs.mem hb
 exact absurd (Nat.lt_of_lt_of_le (Heap.lt_size ho) (Nat.le_trans I.sz h)) (Nat.lt_irrefl _)
theorem Inv.cne(I:Inv X pins σ H s):∀x c,X.env.cells.lookup x=some c→c≠X.env.locals:=fun x c e z=>by
 obtain⟨v,o,ho,hd⟩:=I.cell x c e
 obtain⟨m,⟨o',es,ep,ho',hd',_⟩,_⟩:=I.loc
 rw[z,ho']at ho;cases ho;rw[hd']at hd;cases hd
theorem Inv.funs(I:Inv X pins σ H s):s.heap.FunFrames X.base X.outer:=by
 have all:∀(l:List Env),(∀b∈frs l,b∈X.fs)→X.s₀.heap.FunFrames X.base l→s.heap.FunFrames X.base l:=by
  intro l
  induction l with
  |nil=>intro _ _;trivial
  | cons env r ih =>
   intro hs hl
   obtain⟨hk,⟨L,o,hf,hn,ho,hd⟩,hr⟩:=hl
   have hL:L∈X.fs:=hs L (by unfold frs;rw[List.filterMap_cons,hf];exact List.mem_cons_self)
   obtain⟨sl,e⟩:=I.base.slot L o ho (I.ok.frf L hL) hL fun z=>I.ok.exfs L z hL
   exact⟨hk,⟨L,_,hf,hn,e,hd⟩,ih (fun b hb=>hs b (by unfold frs;rw[List.filterMap_cons,hf];exact List.mem_cons_of_mem _ hb)) hr⟩
 exact all X.outer (fun _ hb=>hb) I.ok.funs
theorem Inv.stack(I:Inv X pins σ H s):s.heap.FunFrames X.base X.stack:=by
 rcases I.ok.stk with e |⟨e,hf⟩
 ·rw[e];exact I.funs
 ·rw[e]
  obtain⟨m,hn,_⟩:=I.loc
  refine .cons (by rw[I.ok.kind];decide) hf hn ?_ I.funs
  exact Heap.get?_none_of_le (Nat.le_trans I.ok.bsz I.ok.above)
theorem Inv.stkSub(I:Inv X pins σ H s):∀b∈frs X.stack,b∈X.env.locals::X.fs:=fun b hb=>by
 rcases I.ok.stk with e |⟨e,hf⟩
 ·rw[e]at hb;exact List.mem_cons_of_mem _ hb
 ·rw[e]at hb
  unfold frs at hb
  rw[List.filterMap_cons,hf]at hb
  exact hb
theorem Inv.stkFree(I:Inv X pins σ H s):∀b∈frs X.stack,H b=none:=fun b hb=>by
 rcases List.mem_cons.mp (I.stkSub b hb)with e |hb
 ·rw[e];exact I.free
 ·obtain⟨_,o,ho,_⟩:=I.ok.funs.mem hb
  exact I.base.free b o ho (I.ok.frf b hb) fun z=>I.ok.exfs b z hb
theorem Inv.step{g':Array GenState}{t':Nat}{d':Drawn}{ch:List Addr}(I:Inv X pins σ H s)
  (hch:∀b∈ch,(b∈X.ex∨X.s₀.heap.objs.size≤b)∧b≠X.env.locals∧(∀x c,X.env.cells.lookup x=some c→c≠b)∧∀p∈X.pn++pins,p.1≠b)
  (keep:∀b o,b≠X.env.locals→b∉X.fs→b∉ch→s.heap.get? b=some o→H b=none→h'.get? b=some o)
  (slot:∀b o,b≠X.env.locals→b∈X.fs→b∉ch→s.heap.get? b=some o→H b=none→∃sl,h'.get? b=some { o with slots:=sl }) (free:∀b o,b∉ch→s.heap.get? b=some o→H b=none→H' b=none)
  (there:∀b o,b∉ch→s.heap.get? b=some o→∃o',h'.get? b=some o')
  (tups:∀b xs,H b=some (.tup xs)→H' b=some (.tup xs)) (frzs:∀b o u,H b=some (.frz o u)→H' b=some (.frz o u)) (tbls:∀b ps,H b=some (.tbl ps)→∃more,H' b=some (.tbl (ps++more)))
  (ns:∀m,s.heap.Ns X.env.locals m→h'.Ns X.env.locals m) (hok:HOk X.prog X.w H' h') (hg:AllBare g') :
  Inv X pins σ H' { s with heap:=h',gens:=g',drawn:=d',toks:=t' }:=by
 have neL:∀b o,X.s₀.heap.get? b=some o→b≠X.env.locals:=fun b o e=>Nat.ne_of_lt (Nat.lt_of_lt_of_le (Heap.lt_size e) I.ok.above)
 have neC:∀b o,X.s₀.heap.get? b=some o→b∉X.ex→b∉ch:=fun b o e hx hb=>by
  rcases (hch b hb).1 with z |z
  ·exact hx z
  ·exact absurd (Nat.lt_of_lt_of_le (Heap.lt_size e) z) (Nat.lt_irrefl _)
 have cellK:∀x c,X.env.cells.lookup x=some c→∀v,s.heap.IsCell c v→h'.IsCell c v:=fun x c e v ⟨o,ho,hd⟩=>by
  have nch:c∉ch:=fun z=>(hch c z).2.2.1 x c e rfl
  by_cases hc:c∈X.fs
  ·obtain⟨sl,q⟩:=slot c o (I.cne x c e) hc nch ho (I.freeC x c e)
   exact⟨_,q,hd⟩
  ·exact⟨o,keep c o (I.cne x c e) hc nch ho (I.freeC x c e),hd⟩
 refine⟨I.ok,I.os,hg,⟨fun b o e n hb hx=>?_,fun b o e n hb hx=>?_,fun b o e n hx=>?_,fun b o e hx=>?_,fun b xs e=>tups b xs (I.base.tups b xs e),fun b o xs e=>frzs b o xs (I.base.frzs b o xs e),fun b ps e=>?_⟩,?_,fun x c e=>?_,?_,fun x c e=>?_,fun p hp=>?_,hok,I.len⟩
 ·exact keep b o (neL b o e) hb (neC b o e hx) (I.base.keep b o e n hb hx) (I.base.free b o e n hx)
 ·obtain⟨sl,e1⟩:=I.base.slot b o e n hb hx
  obtain⟨sl',e2⟩:=slot b _ (neL b o e) hb (neC b o e hx) e1 (I.base.free b o e n hx)
  exact⟨sl',e2⟩
 ·obtain⟨o',e1⟩:=I.base.there b o e hx
  exact free b o' (neC b o e hx) e1 (I.base.free b o e n hx)
 ·obtain⟨o',e1⟩:=I.base.there b o e hx
  exact there b o' (neC b o e hx) e1
 ·obtain⟨m1,e1⟩:=I.base.tbls b ps e
  obtain⟨m2,e2⟩:=tbls b _ e1
  exact⟨m1++m2,by rw[e2,Array.append_assoc]⟩
 ·obtain⟨m,hn,hl⟩:=I.loc
  refine⟨m,ns m hn,fun i x v e1 e2 e3=>?_⟩
  obtain⟨u,r,l⟩:=hl i x v e1 e2 e3
  refine⟨u,r,?_⟩
  rcases l with l |⟨k,c,e,z⟩
  ·exact .inl l
  ·exact .inr ⟨k,c,e,cellK x c e _ z⟩
 ·obtain⟨v,z⟩:=I.cell x c e
  exact⟨v,cellK x c e v z⟩
 ·obtain⟨m,⟨o,_,_,ho,_⟩,_⟩:=I.loc
  exact free _ o (fun z=>(hch _ z).2.1 rfl) ho I.free
 ·obtain⟨v,o,ho,hd⟩:=I.cell x c e
  exact free c o (fun z=>(hch c z).2.2.1 x c e rfl) ho (I.freeC x c e)
 ·obtain⟨e,n,ne,nf,d⟩:=I.pin p hp
  have nch:p.1∉ch:=fun z=>(hch p.1 z).2.2.2 p hp rfl
  exact⟨keep p.1 p.2 ne nf nch e n,free p.1 p.2 nch e n,ne,nf,d⟩
theorem Inv.un{t':Nat}(I:Inv X pins σ H s)(u:Un X.fs [] H H' s.heap h')(hok:HOk X.prog X.w H' h'):Inv X pins σ H' { s with heap:=h',toks:=t' }:=by
 obtain⟨m,⟨o,es,ep,ho,r⟩,_⟩:=id I.loc
 obtain⟨sl,hL⟩:=u.any ho I.free (by simp)
 exact I.step (g':=s.gens) (d':=s.drawn) (ch:=[]) (fun _ z=>nomatch z) (fun b o _ hb _ e n=>u.keep b o e n hb (by simp)) (fun b o _ hb _ e n=>u.slot b o e n hb (by simp)) (fun b o _ e n=>u.free b o e n (by simp)) (fun b o _ e=>u.there b o e (by simp)) u.tups u.frzs u.tbls (fun m' hm=>by
  obtain⟨o',es',ep',ho',r'⟩:=hm
  rw[ho]at ho';cases ho'
  exact⟨_,es',ep',hL,r'⟩) hok I.bare
theorem Inv.call{g':Array GenState}{t':Nat}{d':Drawn}{ch:List Addr}(I:Inv X pins σ H s)(u:Un (frs X.stack) ch H H' s.heap h')(hok:HOk X.prog X.w H' h')(hg:AllBare g')
  (hch:∀b∈ch,(b∈X.ex∨X.s₀.heap.objs.size≤b)∧b≠X.env.locals∧(∀x c,X.env.cells.lookup x=some c→c≠b)∧∀p∈X.pn++pins,p.1≠b) :
  Inv X pins σ H' { s with heap:=h',gens:=g',drawn:=d',toks:=t' }:=by
 obtain⟨m,⟨o,es,ep,ho,r⟩,_⟩:=id I.loc
 obtain⟨sl,hL⟩:=u.any ho I.free fun z=>(hch _ z).2.1 rfl
 exact I.step (ch:=ch) hch (fun b o hL hb hc e n=>u.keep b o e n (fun z=>(List.mem_cons.mp (I.stkSub b z)).elim hL hb) hc) (fun b o _ _ hc e n=>u.any e n hc) (fun b o hc e n=>u.free b o e n hc) (fun b o hc e=>u.there b o e hc) u.tups u.frzs u.tbls (fun m' hm=>by
  obtain⟨o',es',ep',ho',r'⟩:=hm
  rw[ho]at ho';cases ho'
  exact⟨_,es',ep',hL,r'⟩) hok hg
theorem Inv.turned{t':Nat}{it:Addr}(I:Inv X pins σ H s)(k:∀b o,b≠it→s.heap.get? b=some o→h'.get? b=some o)(hn:H it=none)(hL:it≠X.env.locals)
  (h1:it∈X.ex∨X.s₀.heap.objs.size≤it) (h2:∀x c,X.env.cells.lookup x=some c→c≠it) (h3:∀p∈X.pn++pins,p.1≠it):Inv X pins σ H { s with heap:=h',toks:=t' }:=by
 have nit:∀b u,H b=some u→b≠it:=fun b u e z=>by rw[z,hn]at e;cases e
 refine I.step (g':=s.gens) (d':=s.drawn) (ch:=[it]) (fun b hb=>?_) (fun b o _ _ hc e _=>k b o (fun z=>hc (by simp[z])) e) (fun b o _ _ hc e _=>⟨o.slots,k b o (fun z=>hc (by simp[z])) e⟩) (fun _ _ _ _ n=>n)
  (fun b o hc e=>⟨o,k b o (fun z=>hc (by simp[z])) e⟩) (fun _ _ e=>e) (fun _ _ _ e=>e) (fun b ps e=>⟨#[],by rw[e];simp⟩) (fun m hm=>?_) (fun b u e=>?_) I.bare
 ·have e:b=it:=by simpa using hb
  subst e
  exact⟨h1,hL,h2,h3⟩
 ·obtain⟨o,es,ep,ho,r⟩:=hm
  exact⟨o,es,ep,k _ o (Ne.symm hL) ho,r⟩
 ·refine (I.hok b u e).stay (fun c v hc q=>k c v ?_ q) (fun _ q=>q) fun _ _ q=>q
  rcases hc with z |z
  ·rw[z];exact nit b u e
  ·exact nit c _ z
theorem Inv.tok(I:Inv X pins σ H s)(t:Nat):Inv X pins σ H { s with toks:=t }:=I.un (h':=s.heap) (t':=t) Un.refl I.hok
theorem Inv.kept{t':Nat}(I:Inv X pins σ H s)(k:∀b u,s.heap.get? b=some u→h'.get? b=some u):Inv X pins σ H { s with heap:=h',toks:=t' }:=I.un (Un.kept k) (I.hok.kept k)
theorem Inv.laid{a:Addr}{o:HO}{t':Nat}(I:Inv X pins σ H s)(k:∀b u,s.heap.get? b=some u→h'.get? b=some u)(hp:s.heap.objs.size≤a)(new:zl8 X.prog X.w (upd H a o) h' a o):
  Inv X pins σ (upd H a o) { s with heap:=h',toks:=t' }:=I.un (Un.laid k hp (I.hok.fresh hp)) (I.hok.laid k hp new)
theorem Inv.write{x e:Addr}{o:HO}{t':Nat}(I:Inv X pins σ H s)(mu:Mut (H x))(he:e=x∨H e=some (.own x))(k:∀b u,b≠e→s.heap.get? b=some u→h'.get? b=some u)(heo:∃u,h'.get? e=some u)
  (new:zl8 X.prog X.w (upd H x o) h' x o):Inv X pins σ (upd H x o) { s with heap:=h',toks:=t' }:=I.un (Un.write mu he k heo) (I.hok.write mu he k heo new)
theorem Inv.pins_of{pins':List (Addr×Obj)}(I:Inv X pins σ H s)(h:∀p∈pins',s.heap.get? p.1=some p.2∧H p.1=none∧p.1≠X.env.locals∧p.1∉X.fs∧∀v,p.2.data≠.cell v):Inv X pins' σ H s :=
 ⟨I.ok,I.os,I.bare,I.base,I.loc,I.cell,I.free,I.freeC,fun p hp=>(List.mem_append.mp hp).elim (fun z=>I.pin p (List.mem_append_left _ z)) (h p),I.hok,I.len⟩
theorem ye5{N:List Str}(hN:N.Nodup){i j:Nat}{x:Str}(a:N[i]?=some x)(b:N[j]?=some x):i=j:=by
 obtain⟨h1,e1⟩:=List.getElem?_eq_some_iff.mp a
 obtain⟨h2,e2⟩:=List.getElem?_eq_some_iff.mp b
 exact (List.getElem_inj hN).mp (e1.trans e2.symm)
theorem zT8{M:Model}{A:Around}{E:Value→Shared→Prop}{i:Nat}{x:Str}{v:V}{u:Value}{Q:Unit→Shared→Prop}(I:Inv X pins σ H s)(hN:X.N.Nodup)(hi:X.N[i]?=some x)(hx:Loc X.env.scope x)(r:RelV v u)
  (h:∀s',Inv X pins (σ.set i (some v)) H s'→(∃a,Heap.SameBut a s.heap s'.heap∧(a=X.env.locals∨X.env.cells.lookup x=some a))→Q () s') (hf:X.fn x=true∨X.env.scope.names.lookup x=some .local):wpAny M A (storeName X.env x u) Q E s:=by
 obtain⟨m,hn,hl⟩:=id I.loc
 have hcls:(X.env.scope.kind == .class ||(X.env.scope.kind == .module&&X.env.locals != X.env.globals))=false:=by rw[I.ok.kind];rfl
 have hiσ:i<σ.length:=by rw[I.len];exact (List.getElem?_eq_some_iff.mp hi).1
 have cne:=I.cne
 have tracked:∀{a:Addr} {h':Heap},(∃o,s.heap.get? a=some o∧H a=none)→Heap.SameBut a s.heap h'→HOk X.prog X.w H h':=fun {a h'} ha hs b ob e=>by
  obtain⟨_,_,hfree⟩:=ha
  refine (I.hok b ob e).stay (fun c w' hc q=>(hs.2 c ?_).trans q) (fun _ q=>q) fun _ _ q=>q
  rintro rfl
  rcases hc with rfl |hc
  ·rw[hfree]at e;cases e
  ·rw[hfree]at hc;cases hc
 rcases hx with hk |hk
 ·refine wpAny_storeName_local hk hn (fun h' hn' hs=>?_) hcls
  obtain⟨oL,_,_,hoL,_⟩:=id hn
  refine h _ ⟨I.ok,I.os,I.bare,⟨fun b o e n hb hx=>?_,fun b o e n hb hx=>?_,I.base.free,fun b o e hx=>?_,I.base.tups,I.base.frzs,I.base.tbls⟩,⟨_,hn',fun j y v' e1 e2 e3=>?_⟩,fun y c e=>?_,I.free,I.freeC,fun p hp=>?_,tracked ⟨oL,hoL,I.free⟩ hs,by simpa using I.len⟩ ⟨_,hs,.inl rfl⟩
  ·exact (hs.2 b (Nat.ne_of_lt (Nat.lt_of_lt_of_le (Heap.lt_size e) I.ok.above))).trans (I.base.keep b o e n hb hx)
  ·obtain⟨sl,e1⟩:=I.base.slot b o e n hb hx
   exact⟨sl,(hs.2 b (Nat.ne_of_lt (Nat.lt_of_lt_of_le (Heap.lt_size e) I.ok.above))).trans e1⟩
  ·obtain⟨o',e1⟩:=I.base.there b o e hx
   exact⟨o',(hs.2 b (Nat.ne_of_lt (Nat.lt_of_lt_of_le (Heap.lt_size e) I.ok.above))).trans e1⟩
  ·by_cases hj:j=i
   ·subst hj
    rw[hi]at e1;cases e1
    rw[List.getElem?_set_self hiσ]at e2
    cases e2
    exact⟨u,r,.inl ⟨hk,by simp⟩⟩
   ·rw[List.getElem?_set_ne (Ne.symm hj)]at e2
    obtain⟨u',r',q⟩:=hl j y v' e1 e2 e3
    refine⟨u',r',?_⟩
    rcases q with⟨k,e⟩|⟨k,c,e,z⟩
    ·refine .inl ⟨k,?_⟩
     have:y≠x:=fun e=>hj (ye5 hN e1 (e▸hi))
     simp[this,e]
    ·exact .inr ⟨k,c,e,z.sameBut hs (cne y c e)⟩
  ·obtain⟨w',z⟩:=I.cell y c e
   exact⟨w',z.sameBut hs (cne y c e)⟩
  ·obtain⟨e,n,ne,nf,d⟩:=I.pin p hp
   exact⟨(hs.2 p.1 ne).trans e,n,ne,nf,d⟩
 ·have hfn:X.fn x=true:=by
   rcases hf with z |z
   ·exact z
   ·rw[z]at hk;cases hk
  obtain⟨c,hc⟩:=I.ok.has x (.inl hk)
  obtain⟨w',z⟩:=I.cell x c hc
  refine wpAny_storeName_cell I.ok.kind hk hc z (fun h' hc' hs=>?_)
  obtain⟨oc,hoc,hocd⟩:=id z
  refine h { s with heap:=h' } ⟨I.ok,I.os,I.bare,⟨fun b o e n hb hx=>?_,fun b o e n hb hx=>?_,I.base.free,fun b o e hx=>?_,I.base.tups,I.base.frzs,I.base.tbls⟩,⟨m,hn.sameBut hs (Ne.symm (cne x c hc)),fun j y v' e1 e2 e3=>?_⟩,fun y c' e=>?_,I.free,I.freeC,fun p hp=>?_,tracked ⟨oc,hoc,I.freeC x c hc⟩ hs,by simpa using I.len⟩ ⟨c,hs,.inr hc⟩
  ·exact (hs.2 b (Nat.ne_of_lt (Nat.lt_of_lt_of_le (Heap.lt_size e) (I.ok.cab x c hfn hc)))).trans (I.base.keep b o e n hb hx)
  ·obtain⟨sl,e1⟩:=I.base.slot b o e n hb hx
   exact⟨sl,(hs.2 b (Nat.ne_of_lt (Nat.lt_of_lt_of_le (Heap.lt_size e) (I.ok.cab x c hfn hc)))).trans e1⟩
  ·obtain⟨o',e1⟩:=I.base.there b o e hx
   exact⟨o',(hs.2 b (Nat.ne_of_lt (Nat.lt_of_lt_of_le (Heap.lt_size e) (I.ok.cab x c hfn hc)))).trans e1⟩
  ·by_cases hj:j=i
   ·subst hj
    rw[hi]at e1;cases e1
    rw[List.getElem?_set_self hiσ]at e2
    cases e2
    exact⟨u,r,.inr ⟨.inl hk,c,hc,hc'⟩⟩
   ·rw[List.getElem?_set_ne (Ne.symm hj)]at e2
    obtain⟨u',r',q⟩:=hl j y v' e1 e2 e3
    refine⟨u',r',?_⟩
    rcases q with q |⟨k,c',e,z'⟩
    ·exact .inl q
    ·refine .inr ⟨k,c',e,z'.sameBut hs ?_⟩
     rintro rfl
     exact hj (ye5 hN e1 (I.ok.inj _ _ _ e hc▸hi))
  ·by_cases hcc:c'=c
   ·subst hcc;exact⟨_,hc'⟩
   ·obtain⟨w2,z2⟩:=I.cell y c' e
    exact⟨w2,z2.sameBut hs hcc⟩
  ·obtain⟨e,n,ne,nf,d⟩:=I.pin p hp
   refine⟨(hs.2 p.1 ?_).trans e,n,ne,nf,d⟩
   intro q
   rw[q,hoc]at e
   have q':oc=p.2:=Option.some.inj e
   exact d w' (by rw[←q'];exact hocd)
theorem yd7{M:Model}{A:Around}{E:Value→Shared→Prop}{i:Nat}{x:Str}{v:V}{u:Value}{Q:Unit→Shared→Prop}(I:Inv X pins σ H s)(hN:X.N.Nodup)(hi:X.N[i]?=some x)(hx:Loc X.env.scope x)(r:RelV v u)
  (h:∀s',Inv X pins (σ.set i (some v)) H s'→Q () s') (hf:X.fn x=true∨X.env.scope.names.lookup x=some .local):wpAny M A (storeName X.env x u) Q E s :=
 zT8 I hN hi hx r (fun s' I' _=>h s' I') hf
theorem Inv.call'{s':Shared}{ch:List Addr}(I:Inv X pins σ H s)(ho:s'.os=s.os)(u:Un (frs X.stack) ch H H' s.heap s'.heap)(hok:HOk X.prog X.w H' s'.heap)(hg:AllBare s'.gens)
  (hch:∀b∈ch,(b∈X.ex∨X.s₀.heap.objs.size≤b)∧b≠X.env.locals∧(∀x c,X.env.cells.lookup x=some c→c≠b)∧∀p∈X.pn++pins,p.1≠b):Inv X pins σ H' s':=by
 obtain⟨h',g',d',t',o'⟩:=s'
 have e:o'=s.os:=ho
 subst e
 exact I.call (g':=g') (t':=t') (d':=d') u hok hg hch
end
noncomputable abbrev XK:=Value→Option Addr→Hp→Prop
noncomputable abbrev St:=List (Option V)
noncomputable abbrev VK:=V→Hp→Prop
noncomputable abbrev TE:=St→Hp→VK→Prop
noncomputable abbrev TT:=St→Hp→(Bool→Hp→Prop)→Prop
noncomputable abbrev TA:=St→Hp→(List V→Hp→Prop)→Prop
structure xa3 where
 nx:St→Hp→Prop
 rt:VK
 bk:St→Hp→Prop:=fun _ _=>False
 ct:St→Hp→Prop:=fun _ _=>False
noncomputable abbrev TS:=xa3→St→Hp→Prop
def EP(X:Cx)(pins:List (Addr×Obj))(σ:St)(Q:VK)(u:Value)(s':Shared):Prop:=∃v H',Inv X pins σ H' s'∧RelV v u∧Q v H'
def TP(X:Cx)(pins:List (Addr×Obj))(σ:St)(Q:Bool→Hp→Prop)(b:Bool)(s':Shared):Prop:=∃H',Inv X pins σ H' s'∧Q b H'
def AP(X:Cx)(pins:List (Addr×Obj))(σ:St)(Q:List V→Hp→Prop)(us:List Value)(s':Shared):Prop:=∃vs H',Inv X pins σ H' s'∧zi9 vs us∧Q vs H'
def SP(X:Cx)(pins:List (Addr×Obj))(D:xa3)(f:Flow)(s':Shared):Prop :=
 match f with
 |.next=>∃σ' H',Inv X pins σ' H' s'∧D.nx σ' H'
 |.brk=>∃σ' H',Inv X pins σ' H' s'∧D.bk σ' H'
 |.cont=>∃σ' H',Inv X pins σ' H' s'∧D.ct σ' H'
 |.ret u=>∃v σ' H',Inv X pins σ' H' s'∧RelV v u∧D.rt v H'
def PE(X:Cx)(e:Expr)(t:TE):Prop :=
 ∀(pins:List (Addr×Obj)) (s:Shared) (σ:St) (H:Hp) (Q:VK),Inv X pins σ H s→t σ H Q→wpAny (model X.prog X.w) X.A (eval e X.env) (EP X pins σ Q) X.xe s
def PT(X:Cx)(e:Expr)(t:TT):Prop :=
 ∀(pins:List (Addr×Obj)) (s:Shared) (σ:St) (H:Hp) (Q:Bool→Hp→Prop),Inv X pins σ H s→t σ H Q→wpAny (model X.prog X.w) X.A (isTrue e X.env (eval e X.env)) (TP X pins σ Q) X.xe s
def PW(X:Cx)(e:Expr)(t:TT):Prop :=
 ∀(zl9:Sem Value) (pins:List (Addr×Obj)) (s:Shared) (σ:St) (H:Hp) (Q:Bool→Hp→Prop),Inv X pins σ H s→t σ H Q→wpAny (model X.prog X.w) X.A (isTrue e X.env zl9) (TP X pins σ Q) X.xe s
theorem PW.pt{X:Cx}{e:Expr}{t:TT}(h:PW X e t):PT X e t:=h _
def PA(X:Cx)(es:List Expr)(t:TA):Prop :=
 ∀(pos:Pos) (pins:List (Addr×Obj)) (s:Shared) (σ:St) (H:Hp) (Q:List V→Hp→Prop),Inv X pins σ H s→t σ H Q→wpAny (model X.prog X.w) X.A (spliced (backTo pos (starEach es X.env))) (AP X pins σ Q) X.xe s
def PS(X:Cx)(st:Stmt)(t:TS):Prop :=
 ∀(pins:List (Addr×Obj)) (s:Shared) (σ:St) (H:Hp) (D:xa3),Inv X pins σ H s→t D σ H→wpAny (model X.prog X.w) X.A (exec st X.env) (SP X pins D) X.xe s
def PSs(X:Cx)(st:List Stmt)(t:TS):Prop :=
 ∀(pins:List (Addr×Obj)) (s:Shared) (σ:St) (H:Hp) (D:xa3),Inv X pins σ H s→t D σ H→wpAny (model X.prog X.w) X.A (execs st X.env) (SP X pins D) X.xe s
theorem thn{α:Type}{t:Sem α}{Q Q':α→Shared→Prop}{M:Model}{A:Around}{E:Value→Shared→Prop}{s:Shared}(h:wpAny M A t Q E s)(hQ:∀a s,Q a s→Q' a s):wpAny M A t Q' E s:=wpAny_mono h hQ fun _ _ x=>x
section
variable{X:Cx}
theorem bin{a b:Expr}{ta tb:TE}(ha:PE X a ta)(hb:PE X b tb){pins:List (Addr×Obj)}{s:Shared}{σ:St}{H:Hp}{R:V→V→Hp→Prop}(I:Inv X pins σ H s)(h:ta σ H fun x H1=>tb σ H1 fun y H2=>R x y H2)
  {α:Type} {Q:α→Shared→Prop} {f:Value→Value→Sem α}
  (hf:∀v u s2 x y H2,Inv X pins σ H2 s2→RelV x v→RelV y u→R x y H2→wpAny (model X.prog X.w) X.A (f v u) Q X.xe s2) :
  wpAny (model X.prog X.w) X.A (eval a X.env) (fun v s₁=>wpAny (model X.prog X.w) X.A (eval b X.env) (fun u s₂=>wpAny (model X.prog X.w) X.A (f v u) Q X.xe s₂) X.xe s₁) X.xe s:=by
 refine thn (ha pins s σ H _ I h) fun v s1 h_=>?_
 obtain⟨x,H1,I1,r1,q1⟩:=h_
 refine thn (hb pins s1 σ H1 _ I1 q1) fun u s2 h_=>?_
 obtain⟨y,H2,I2,r2,q2⟩:=h_
 exact hf v u s2 x y H2 I2 r1 r2 q2
noncomputable def tVar(i:Nat):TE:=fun σ H Q=>∃v,σ[i]?=some (some v)∧Q v H
noncomputable def tC(v:V):TE:=fun _ H Q=>Q v H
theorem yE4{i:Nat}{x:Str}{pos:Pos}(hN:X.N[i]?=some x)(hv:Vis X.env.scope x)(hd:(x==("__debug__" : Str))=false)(hcd:(x==("__classdict__" : Str))=false):PE X (.Name x pos) (tVar i):=by
 intro pins s σ H Q I h
 obtain⟨v,e,h⟩:=h
 obtain⟨m,hn,hl⟩:=I.loc
 obtain⟨u,r,l⟩:=hl i x v hN e hv
 have fin:EP X pins σ Q u s:=⟨v,H,I,r,h⟩
 rcases l with⟨hk,hm⟩|⟨hk,c,hc,hcell⟩
 ·exact wpAny_Name (wpAny_loadName_local I.ok.kind hk hn hm fin) hd
 ·rcases hk with hk |hk
  ·exact wpAny_Name (wpAny_loadName_cell I.ok.kind hk hc hcell fin) hd
  ·exact wpAny_Name (wpAny_loadName_free I.ok.kind hk hc hcell fin hcd) hd
theorem yT6{i j pos}:PE X (.Constant (.int i) j pos) (tC (.int i)):=fun _ _ _ H _ I h=>wpAny_Constant_int ⟨.int i,H,I.tok _,⟨_,rfl⟩,h⟩
theorem xs5{b j pos}:PE X (.Constant (.bool b) j pos) (tC (.bl b)):=fun _ _ _ H _ I h=>Constant_bool ⟨.bl b,H,I,rfl,h⟩
theorem xe4{j pos}:PE X (.Constant .none j pos) (tC .non):=fun _ _ _ H _ I h=>Constant_none ⟨.non,H,I,rfl,h⟩
theorem yD7{x j pos}:PE X (.Constant (.str x) j pos) (tC (.str x)):=fun _ _ _ H _ I h=>Calls.Constant_str ⟨.str x,H,I.tok _,⟨_,rfl⟩,h⟩
def Gl(X:Cx)(x:Str):Prop:=X.env.kindOf x=some .globalImplicit
theorem ys6{E:Value→Shared→Prop}{pins:List (Addr×Obj)}{s:Shared}{σ:St}{H:Hp}{x:Str}{u:Value}{pos:Pos}{Q:Value→Shared→Prop}(I:Inv X pins σ H s)(hg:Gl X x)(hm:X.mg x=some u)(h:Q u s)
  (hd:(x==("__debug__" : Str))=false):wpAny (model X.prog X.w) X.A (eval (.Name x pos) X.env) Q E s :=
 Calls.Name_function_global I.ok.kind hg (Calls.loadGlobal_global (by rw[I.ok.glob];exact I.mod.glob.keeps I.bk) hm h) hd
theorem zH0{E:Value→Shared→Prop}{pins:List (Addr×Obj)}{s:Shared}{σ:St}{H:Hp}{x:Str}{u:Value}{pos:Pos}{Q:Value→Shared→Prop}(I:Inv X pins σ H s)(hg:Gl X x)(hm:X.mg x=none)(hv:bootBuiltins x=some u)(h:Q u s)
  (hn:x ≠ "__name__" := by decide) (hd:(x==("__debug__" : Str))=false:=by decide):wpAny (model X.prog X.w) X.A (eval (.Name x pos) X.env) Q E s:=by
 obtain⟨mb,h1,h2⟩:=I.mod.blt
 exact Calls.Name_function_global I.ok.kind hg (Calls.loadGlobal_builtin (by rw[I.ok.glob];exact I.mod.glob.keeps I.bk) hm (by rw[I.ok.blt];exact h1.keeps I.bk) ((h2 x hn).trans hv) h) hd
theorem yK8{x:Str}{v:V}{u:Value}{pos:Pos}(hg:Gl X x)(hm:X.mg x=some u)(r:RelV v u)(hd:(x==("__debug__" : Str))=false):PE X (.Name x pos) (tC v) :=
 fun _ _ _ H _ I h=>ys6 I hg hm ⟨v,H,I,r,h⟩ hd
theorem yO5{x:Str}{v:V}{u:Value}{pos:Pos}(hg:Gl X x)(hm:X.mg x=none)(hv:bootBuiltins x=some u)(r:RelV v u)(hn:x ≠ "__name__")(hd:(x==("__debug__" : Str))=false):PE X (.Name x pos) (tC v) :=
 fun _ _ _ H _ I h=>zH0 I hg hm hv ⟨v,H,I,r,h⟩ hn hd
variable{a b:Expr}{ta tb:TE}{pos:Pos}
def PC(X:Cx)(op:CmpOp)(a b:Expr)(t:TE):Prop :=
 ∀ (pins:List (Addr×Obj)) (s:Shared) (σ:St) (H:Hp) (Q:VK),Inv X pins σ H s→t σ H Q →
  wpAny (model X.prog X.w) X.A (eval a X.env) (fun v s₁=>wpAny (model X.prog X.w) X.A (eval b X.env) (fun u s₂=>wpAny (model X.prog X.w) X.A (compareOp op v u) (EP X pins σ Q) X.xe s₂) X.xe s₁) X.xe s
theorem xk6(b:Expr){op:CmpOp}(h:op≠.In)(h2:op≠.NotIn):behindInMarks op b=false:=by
 have e1:(op==CmpOp.In)=false:=by cases op <;> first |rfl |exact absurd rfl h
 have e2:(op==CmpOp.NotIn)=false:=by cases op <;> first |rfl |exact absurd rfl h2
 cases b <;> simp[behindInMarks,e1,e2]
noncomputable def tB(t:TE):TT:=fun σ H Q=>t σ H fun x H1=>∃c,x=.bl c∧Q c H1
theorem pt_cmp{op:CmpOp}{t:TE}(h:PC X op a b t)(h1:behindInMarks op b=false):PT X (.Compare a [op] [b] pos) (tB t):=by
 intro pins s σ H Q I hw
 refine wpAny_isTrue_Compare1 (thn (h pins s σ H _ I hw) fun v s1 h1=>thn h1 fun u s2 h2=>thn h2 fun c s3 ⟨x,H1,I1,r1,q1⟩=>?_) h1
 obtain⟨d,rfl,q⟩:=q1
 cases r1
 exact wpAny_truthy_bool ⟨H1,I1,q⟩
theorem yU8{e:Expr}{t:TE}(h:PE X e t)(he:∀zl9,isTrue e X.env zl9=(do let v ←zl9;standAt e.pos;holding [v] (truthy v))):PT X e (tB t):=by
 intro pins s σ H Q I hw
 refine isTrue_plain (thn (h pins s σ H _ I hw) fun v s1 ⟨x,H1,I1,r1,q1⟩=>?_) (he _)
 obtain⟨d,rfl,q⟩:=q1
 cases r1
 exact wpAny_truthy_bool ⟨H1,I1,q⟩
variable{tA tB':TT}{zn7:List Expr}
noncomputable def tAnd(t u:TT):TT:=fun σ H Q=>t σ H fun c H1=>if c=true then u σ H1 Q else Q false H1
noncomputable def tOr(t u:TT):TT:=fun σ H Q=>t σ H fun c H1=>if c=true then Q true H1 else u σ H1 Q
noncomputable def tNot(t:TT):TT:=fun σ H Q=>t σ H fun c H1=>Q (!c) H1
theorem yK2(ha:PT X a tA):PW X (.BoolOp .And [a] pos) tA:=by
 intro wh pins s σ H Q I h
 refine isTrue_and (thn (ha pins s σ H Q I h) fun c s1 e=>?_)
 cases c with
 |true=>exact isTrue_and_nil e
 |false=>exact e
theorem xh6(ha:PT X a tA):PW X (.BoolOp .Or [a] pos) tA:=by
 intro wh pins s σ H Q I h
 refine isTrue_or (thn (ha pins s σ H Q I h) fun c s1 e=>?_)
 cases c with
 |false=>exact isTrue_or_nil e
 |true=>exact e
theorem yT1(ha:PT X a tA)(hb:PW X (.BoolOp .And (b::zn7) pos) tB'):PW X (.BoolOp .And (a::b::zn7) pos) (tAnd tA tB'):=by
 intro wh pins s σ H Q I h
 refine isTrue_and (thn (ha pins s σ H _ I h) fun c s1 h_=>?_)
 obtain⟨H1,I1,q1⟩:=h_
 cases c with
 |true=>exact hb wh pins s1 σ H1 Q I1 q1
 |false=>exact⟨H1,I1,q1⟩
theorem xo4(ha:PT X a tA)(hb:PW X (.BoolOp .Or (b::zn7) pos) tB'):PW X (.BoolOp .Or (a::b::zn7) pos) (tOr tA tB'):=by
 intro wh pins s σ H Q I h
 refine isTrue_or (thn (ha pins s σ H _ I h) fun c s1 h_=>?_)
 obtain⟨H1,I1,q1⟩:=h_
 cases c with
 |true=>exact⟨H1,I1,q1⟩
 |false=>exact hb wh pins s1 σ H1 Q I1 q1
theorem xi0(ha:PT X a tA):PT X (.UnaryOp .Not a pos) (tNot tA):=by
 intro pins s σ H Q I h
 exact isTrue_not (ha pins s σ H (fun c H1=>Q (!c) H1) I h)
noncomputable def xv1(ta tb:TE):TE:=fun σ H Q=>ta σ H fun x H1=>∃c,x=.bl c∧if c=true then tb σ H1 Q else Q (.bl false) H1
noncomputable def tOrV(ta tb:TE):TE:=fun σ H Q=>ta σ H fun x H1=>∃c,x=.bl c∧if c=true then Q (.bl true) H1 else tb σ H1 Q
noncomputable def xq0(ta:TE):TE:=fun σ H Q=>ta σ H fun x H1=>∃c,x=.bl c∧Q (.bl (!c)) H1
theorem yY7{op}{t:TE}(h:PE X a t):PE X (.BoolOp op [a] pos) t:=fun pins s σ H Q I hw=>BoolOp_one (h pins s σ H Q I hw)
theorem xf6(ha:PE X a ta)(hb:PE X (.BoolOp .And (b::zn7) pos) tb):PE X (.BoolOp .And (a::b::zn7) pos) (xv1 ta tb):=by
 intro pins s σ H Q I h
 refine BoolOp_and (thn (ha pins s σ H _ I h) fun v s1 h_=>?_)
 obtain⟨x,H1,I1,r1,q1⟩:=h_
 obtain⟨c,rfl,q1⟩:=q1
 cases r1
 refine wpAny_truthy_bool ?_
 cases c with
 |true=>exact hb pins s1 σ H1 Q I1 q1
 |false=>exact⟨.bl false,H1,I1,rfl,q1⟩
theorem xs9(ha:PE X a ta)(hb:PE X (.BoolOp .Or (b::zn7) pos) tb):PE X (.BoolOp .Or (a::b::zn7) pos) (tOrV ta tb):=by
 intro pins s σ H Q I h
 refine BoolOp_or (thn (ha pins s σ H _ I h) fun v s1 h_=>?_)
 obtain⟨x,H1,I1,r1,q1⟩:=h_
 obtain⟨c,rfl,q1⟩:=q1
 cases r1
 refine wpAny_truthy_bool ?_
 cases c with
 |false=>exact hb pins s1 σ H1 Q I1 q1
 |true=>exact⟨.bl true,H1,I1,rfl,q1⟩
theorem xh4(ha:PE X a ta):PE X (.UnaryOp .Not a pos) (xq0 ta):=by
 intro pins s σ H Q I h
 refine UnaryOp_ (thn (ha pins s σ H _ I h) fun v s1 h_=>?_)
 obtain⟨x,H1,I1,r1,q1⟩:=h_
 obtain⟨c,rfl,q1⟩:=q1
 cases r1
 exact not_of (wpAny_truthy_bool ⟨.bl (!c),H1,I1,rfl,q1⟩)
noncomputable def tIf(t:TT)(ta tb:TE):TE:=fun σ H Q=>t σ H fun c H1=>if c=true then ta σ H1 Q else tb σ H1 Q
theorem yw3{c:Expr}(hc:PT X c tA)(ha:PE X a ta)(hb:PE X b tb):PE X (.IfExp c a b pos) (tIf tA ta tb):=by
 intro pins s σ H Q I h
 refine wpAny_IfExp (thn (hc pins s σ H _ I h) fun d s1 h_=>?_)
 obtain⟨H1,I1,q1⟩:=h_
 cases d with
 |true=>exact ha pins s1 σ H1 Q I1 q1
 |false=>exact hb pins s1 σ H1 Q I1 q1
end
def SqL(K:Frag)(H:Hp)(a:Addr)(xs:List V):Prop :=
 Rd H a (.lst xs) ∨
  ∃(o:Obj) (its:Array Value) (n:Nat),K.lookup a=some o∧o.cls=.type "list" ∧ o.dict=none∧o.data=.seq its n∧its.size≤sizeLine∧zi9 xs its.toList
def SqT(K:Frag)(H:Hp)(a:Addr)(xs:List V):Prop :=
 Rd H a (.tup xs) ∨
  ∃(o:Obj) (its:Array Value) (n:Nat),K.lookup a=some o∧o.cls=.type "tuple" ∧ o.dict=none∧o.data=.seq its n∧its.size≤sizeLine∧zi9 xs its.toList
noncomputable def absV:Value→Option V
 |.none=>some .non
 |.bool b=>some (.bl b)
 |.int i _=>some (.int i)
 |.str x _=>some (.str x)
 |.bytes b _=>some (.byt b)
 |.float b _=>some (.flt b)
 |.ref a=>some (.ref a)
 |.type n=>some (.ty n)
 |_=>none
theorem RelV.abs{x:V}{u:Value}(r:RelV x u):absV u=some x:=by
 cases x with
 |non=>cases r;rfl
 |bl _=>cases r;rfl
 |int _=>obtain⟨t,rfl⟩:=r;rfl
 |str _=>obtain⟨t,rfl⟩:=r;rfl
 |byt _=>obtain⟨t,rfl⟩:=r;rfl
 |flt _=>obtain⟨t,rfl⟩:=r;rfl
 |ref _=>cases r;rfl
 |ty _=>cases r;rfl
theorem RelV.inj{x y:V}{u:Value}(r:RelV x u)(q:RelV y u):x=y:=Option.some.inj (r.abs.symm.trans q.abs)
theorem zi9.inj:∀{xs ys:List V} {us:List Value},zi9 xs us→zi9 ys us→xs=ys
 |_,_,_,.nil,.nil=>rfl
 |_,_,_,.cons r t,.cons r' t'=>by rw[r.inj r',zi9.inj t t']
section
variable{X:Cx}{pins:List (Addr×Obj)}{σ:St}{H:Hp}{s:Shared}{a:Addr}{xs ys:List V}
theorem SqL.of{K:Frag}(h:H a=some (.lst xs)):SqL K H a xs:=.inl (.inl h)
theorem SqT.of{K:Frag}(h:H a=some (.tup xs)):SqT K H a xs:=.inl (.inl h)
theorem Inv.list(I:Inv X pins σ H s)(h:SqL X.K H a xs):∃its:List Value,zi9 xs its∧PlainL s.heap a its.toArray∧xs.length≤sizeLine:=by
 rcases h with h |⟨o,its,n,hk,hc,hd,hs,hz,r⟩
 ·obtain⟨z,its,n,r,e⟩:=h.ok I.hok
  exact⟨its,r,⟨_,n,e,rfl,rfl,rfl⟩,z⟩
 ·refine⟨its.toList,r,⟨o,n,I.kIn a o hk,hc,hd,by simpa using hs⟩,?_⟩
  have e:=r.length
  simp only[Array.length_toList]at e
  lia
theorem Inv.tuple(I:Inv X pins σ H s)(h:SqT X.K H a xs):∃its:List Value,zi9 xs its∧IsTup s.heap a its.toArray∧xs.length≤sizeLine:=by
 rcases h with h |⟨o,its,n,hk,hc,_,hs,hz,r⟩
 ·obtain⟨z,its,r,ob,p1,p2,_,p3⟩:=h.ok I.hok
  exact⟨its,r,⟨ob,p1,p2,p3⟩,z⟩
 ·refine⟨its.toList,r,⟨o,I.kIn a o hk,hc,n,by simpa using hs⟩,?_⟩
  have e:=r.length
  simp only[Array.length_toList]at e
  lia
theorem Inv.list_inj(I:Inv X pins σ H s)(h:SqL X.K H a xs)(h':SqL X.K H a ys):xs=ys:=by
 obtain⟨its,r,⟨o,n,e,_,_,d⟩,_⟩:=I.list h
 obtain⟨its',r',⟨o',n',e',_,_,d'⟩,_⟩:=I.list h'
 rw[e]at e';cases e'
 rw[d]at d'
 injection d' with d1 _
 have:its=its':=by simpa using congrArg Array.toList d1
 subst this
 exact r.inj r'
theorem Inv.tuple_inj(I:Inv X pins σ H s)(h:SqT X.K H a xs)(h':SqT X.K H a ys):xs=ys:=by
 obtain⟨its,r,⟨o,e,_,n,d⟩,_⟩:=I.tuple h
 obtain⟨its',r',⟨o',e',_,n',d'⟩,_⟩:=I.tuple h'
 rw[e]at e';cases e'
 rw[d]at d'
 injection d' with d1 _
 have:its=its':=by simpa using congrArg Array.toList d1
 subst this
 exact r.inj r'
end
noncomputable abbrev Cx.wish(X:Cx)(E:Value→Shared→Prop):Cx:={ X with xe:=E }
noncomputable abbrev Cx.nox(X:Cx):Cx:=X.wish fun _ _=>False
theorem Cx.Ok.wish{X:Cx}(ok:X.Ok)(E:Value→Shared→Prop):(X.wish E).Ok :=
 ⟨ok.mod,ok.kind,ok.glob,ok.blt,ok.above,ok.inj,ok.has,ok.cab,ok.hd,ok.frames,ok.stk,ok.exf,ok.bs,ok.bsz,ok.noex,ok.exfs,ok.funs,ok.frf⟩
theorem Cx.Ok.unwish{X:Cx}{E:Value→Shared→Prop}(ok:(X.wish E).Ok):X.Ok :=
 ⟨ok.mod,ok.kind,ok.glob,ok.blt,ok.above,ok.inj,ok.has,ok.cab,ok.hd,ok.frames,ok.stk,ok.exf,ok.bs,ok.bsz,ok.noex,ok.exfs,ok.funs,ok.frf⟩
section
variable{X:Cx}{pins:List (Addr×Obj)}{σ:St}{H:Hp}{s:Shared}{E:Value→Shared→Prop}
theorem Inv.wish(I:Inv X pins σ H s)(E:Value→Shared→Prop):Inv (X.wish E) pins σ H s:=⟨I.ok.wish E,I.os,I.bare,I.base,I.loc,I.cell,I.free,I.freeC,I.pin,I.hok,I.len⟩
theorem Inv.unwish(I:Inv (X.wish E) pins σ H s):Inv X pins σ H s:=⟨I.ok.unwish,I.os,I.bare,I.base,I.loc,I.cell,I.free,I.freeC,I.pin,I.hok,I.len⟩
theorem SP.unwish{D:xa3}{f:Flow}{s':Shared}(h:SP (X.wish E) pins D f s'):SP X pins D f s':=by
 cases f with
 |next=>obtain⟨σ',H',I,q⟩:=h;exact⟨σ',H',I.unwish,q⟩
 |brk=>obtain⟨σ',H',I,q⟩:=h;exact⟨σ',H',I.unwish,q⟩
 |cont=>obtain⟨σ',H',I,q⟩:=h;exact⟨σ',H',I.unwish,q⟩
 |ret u=>obtain⟨v,σ',H',I,r,q⟩:=h;exact⟨v,σ',H',I.unwish,r,q⟩
theorem PSs.nox{st:List Stmt}{t:TS}(h:PSs X.nox st t):PSs X st t:=fun pins s σ H D I hw =>
 wpAny_mono (h pins s σ H D (I.wish _) hw) (fun _ _ q=>q.unwish) fun _ _ z=>False.elim z
end
section
variable{X:Cx}{st:Stmt}{zn7:List Stmt}{t u:TS}{e:Expr}{te:TE}{pos:Pos}
noncomputable def tNext:TS:=fun D σ H=>D.nx σ H
noncomputable def tSeq(t u:TS):TS:=fun D σ H=>t { D with nx:=u D } σ H
theorem yH9:PSs X [] tNext:=fun _ _ σ H _ I h=>wpAny_execs_nil ⟨σ,H,I,h⟩
theorem yC4(h1:PS X st t)(h2:PSs X zn7 u):PSs X (st::zn7) (tSeq t u):=by
 intro pins s σ H D I h
 refine wpAny_execs_cons (thn (h1 pins s σ H { D with nx:=u D } I h) fun f s1 q=>?_)
 cases f with
 | next =>
  obtain⟨σ',H',I',q⟩:=q
  exact h2 pins s1 σ' H' D I' q
 |ret v=>exact q
 |brk=>exact q
 |cont=>exact q
theorem Inv.quiet{pins:List (Addr×Obj)}{σ:St}{H:Hp}{s:Shared}(I:Inv X pins σ H s):interactive X.env=false:=by simp[interactive,I.ok.kind]
noncomputable def xn8(te:TE):TS:=fun D σ H=>te σ H fun _ H1=>D.nx σ H1
theorem yJ6(he:PE X e te)(hs:swapsWith e none pos.line X.env=pure false):PS X (.Expr e pos) (xn8 te):=by
 intro pins s σ H D I h
 exact wpAny_Expr_any (thn (he pins s σ H _ I h) fun v s1 ⟨x,H1,I1,r1,q1⟩=>⟨σ,H1,I1,q1⟩) I.quiet hs
noncomputable def tRet(te:TE):TS:=fun D σ H=>te σ H D.rt
theorem xe6(he:PE X e te):PS X (.Return (some e) pos) (tRet te):=by
 intro pins s σ H D I h
 exact wpAny_Return_some (thn (he pins s σ H _ I h) fun v s1 ⟨x,H1,I1,r1,q1⟩=>⟨x,σ,H1,I1,r1,q1⟩)
noncomputable def tIfS(c:TT)(t u:TS):TS:=fun D σ H=>c σ H fun b H1=>if b=true then t D σ H1 else u D σ H1
theorem xs0{c:Expr}{a b:List Stmt}{tc:TT}(hc:PT X c tc)(ha:PSs X a t)(hb:PSs X b u):PS X (.If c a b pos) (tIfS tc t u):=by
 intro pins s σ H D I h
 refine wpAny_If (thn (hc pins s σ H _ I h) fun d s1 h_=>?_)
 obtain⟨H1,I1,q1⟩:=h_
 cases d with
 |true=>exact ha pins s1 σ H1 D I1 q1
 |false=>exact hb pins s1 σ H1 D I1 q1
end
noncomputable abbrev TG:=V→St→Hp→(St→Hp→Prop)→Prop
noncomputable abbrev TGs:=List V→St→Hp→(St→Hp→Prop)→Prop
def PG(X:Cx)(target:Expr)(t:TG):Prop :=
 ∀ (pins:List (Addr×Obj)) (s:Shared) (σ:St) (H:Hp) (v:V) (u:Value) (Q:St→Hp→Prop),Inv X pins σ H s→RelV v u→t v σ H Q →
  wpAny (model X.prog X.w) X.A (assign target X.env u) (fun _ s'=>∃σ' H',Inv X pins σ' H' s'∧Q σ' H') X.xe s
def PGs(X:Cx)(ts:List Expr)(t:TGs):Prop :=
 ∀ (pins:List (Addr×Obj)) (s:Shared) (σ:St) (H:Hp) (vs:List V) (us:List Value) (Q:St→Hp→Prop),Inv X pins σ H s→zi9 vs us→t vs σ H Q →
  wpAny (model X.prog X.w) X.A (assignInOrder ((assignEach ts X.env).map (·.2)) us) (fun _ s'=>∃σ' H',Inv X pins σ' H' s'∧Q σ' H') X.xe s
noncomputable abbrev xl5:=V→V→V→Hp→(Hp→Prop)→Prop
def yG9(X:Cx)(t:xl5):Prop :=
 ∀ (pins:List (Addr×Obj)) (s:Shared) (σ:St) (H:Hp) (o i v:V) (ov iv u:Value) (Q:Hp→Prop),Inv X pins σ H s→RelV o ov→RelV i iv→RelV v u→t o i v H Q →
  wpAny (model X.prog X.w) X.A (setItem ov iv u) (fun _ s'=>∃H',Inv X pins σ H' s'∧Q H') X.xe s
section
variable{X:Cx}{pos:Pos}
noncomputable def yM7(i:Nat):TG:=fun v σ H Q=>Q (σ.set i (some v)) H
theorem yu4{i:Nat}{x:Str}(hN:X.N.Nodup)(hi:X.N[i]?=some x)(hx:Loc X.env.scope x)(hf:X.fn x=true∨X.env.scope.names.lookup x=some .local):PG X (.Name x pos) (yM7 i):=by
 intro pins s σ H v u Q I r h
 exact wpAny_assign_Name (yd7 I hN hi hx r (fun s' I'=>⟨_,H,I',h⟩) hf)
noncomputable def gNil:TGs:=fun vs σ H Q=>vs=[]∧Q σ H
noncomputable def xq1(t:TG)(u:TGs):TGs:=fun vs σ H Q=>∃v r,vs=v::r∧t v σ H fun σ' H'=>u r σ' H' Q
theorem yI5:PGs X [] gNil:=by
 intro pins s σ H vs us Q I r h
 obtain⟨e,h⟩:=h
 subst e
 cases r
 exact assignInOrder_nil ⟨σ,H,I,h⟩
theorem yv3{e:Expr}{es:List Expr}{t:TG}{u:TGs}(h1:PG X e t)(h2:PGs X es u)
  (hs:(assignEach (e::es) X.env).map (·.2)=assign e X.env::(assignEach es X.env).map (·.2)):PGs X (e::es) (xq1 t u):=by
 intro pins s σ H vs us Q I r h
 obtain⟨v,vr,e1,h⟩:=h
 subst e1
 cases r with
 | cons r rr =>
  rw[hs]
  refine assignInOrder_cons (thn (h1 pins s σ H _ _ _ I r h) fun _ s1 h_=>?_)
  obtain⟨σ1,H1,I1,q1⟩:=h_
  exact h2 pins s1 σ1 H1 _ _ Q I1 rr q1
noncomputable def gTup(K:Frag)(n:Nat)(t:TGs):TG:=fun v σ H Q=>∃a xs,v=.ref a∧SqT K H a xs∧xs.length=n∧t xs σ H Q
theorem yH1{es:List Expr}{k:Nat}{t:TGs}{n:Nat}(hc:X.calm=true)(h:PGs X es t)
  (hn:(assignEach es X.env).length=n) (hst:(assignEach es X.env).findIdx? (·.1)=none):PG X (.Tuple es k pos) (gTup X.K n t):=by
 intro pins s σ H v u Q I r hw
 obtain⟨a,xs,e1,hq,hl,hw⟩:=hw
 subst e1
 cases r
 obtain⟨its,rv,ht,hz⟩:=I.tuple hq
 refine assign_Tuple_tuple (I.ok.hd hc) ht (by simp[hn,←hl,rv.length]) hst fun h' hx=>?_
 have I1:Inv X pins σ H { s with heap:=h' }:=I.kept (t':=s.toks) fun b o e=>hx b o (Nat.ne_of_lt (Heap.lt_size e)) e
 exact h pins _ σ H xs _ Q I1 (by simpa using rv) hw
noncomputable def gSub(to ti:TE)(t:xl5):TG:=fun v σ H Q=>to σ H fun o H1=>ti σ H1 fun i H2=>t o i v H2 fun H3=>Q σ H3
theorem yT0{o i:Expr}{to ti:TE}{t:xl5}(ho:PE X o to)(hi:PE X i ti)(hs:yG9 X t)
  (ha:∀v,assign (.Subscript o i pos) X.env v=(do
   let ov ←holding [v] (eval o X.env)
   let iv ←holding [v,ov] (eval i X.env)
   standAt pos
   holding [v,ov,iv] (setItem ov iv v)
   release [v,ov,iv] [])):PG X (.Subscript o i pos) (gSub to ti t):=by
 intro pins s σ H v u Q I r h
 rw[ha]
 refine wpAny_bind (wpAny_holding (thn (ho pins s σ H _ I h) fun ov s1 h_=>?_))
 obtain⟨x,H1,I1,r1,q1⟩:=h_
 refine wpAny_bind (wpAny_holding (thn (hi pins s1 σ H1 _ I1 q1) fun iv s2 h_=>?_))
 obtain⟨y,H2,I2,r2,q2⟩:=h_
 refine wpAny_bind (wpAny_standAt (wpAny_bind (wpAny_holding (thn (hs pins s2 σ H2 x y v ov iv u _ I2 r1 r2 r q2) fun _ s3 h_=>?_))))
 obtain⟨H3,I3,q3⟩:=h_
 exact wpAny_release ⟨σ,H3,I3,q3⟩
noncomputable def xl3(te:TE)(g:TG):TS:=fun D σ H=>te σ H fun x H1=>g x σ H1 D.nx
theorem yE1{tg e:Expr}{te:TE}{g:TG}(he:PE X e te)(hg:PG X tg g)(hs:swapsWithSole [tg] e pos.line X.env=pure false)(hw:swappedStores [tg] e X.env=pure none)
  (h1:(assignEach [tg] X.env).map (·.2)=[assign tg X.env]):PS X (.Assign [tg] e pos) (xl3 te g):=by
 intro pins s σ H D I h
 refine wpAny_Assign_stores (thn (he pins s σ H _ I h) fun v s1 ⟨x,H1,I1,r1,q1⟩=>?_) hs hw
 rw[h1]
 exact thn (hg pins s1 σ H1 x v _ I1 r1 q1) fun _ s2 q=>q
theorem xi3{i:Nat}{x:Str}{e:Expr}{te:TE}{pos':Pos}(hN:X.N.Nodup)(hi:X.N[i]?=some x)(hx:Loc X.env.scope x)(he:PE X e te)(hs:swapsWith e (some (.Name x pos')) pos.line X.env=pure false)(hf:X.fn x=true∨X.env.scope.names.lookup x=some .local):
  PS X (.Assign [.Name x pos'] e pos) (xl3 te (yM7 i)):=by
 intro pins s σ H D I h
 refine wpAny_Assign_Name (thn (he pins s σ H _ I h) fun v s1 ⟨y,H1,I1,r1,q1⟩=>?_) hs
 exact yd7 I1 hN hi hx r1 (fun s2 I2=>⟨_,H1,I2,q1⟩) hf
end
section
variable{X:Cx}{pos:Pos}
noncomputable def xc2(c:TT)(tb:TS):TS:=fun D σ H=>∃W:Nat→St→Hp→Prop,(∃m,W m σ H)∧∀m σ H,W m σ H →
 c σ H fun b H1=>if b=true then ∃N:St→Hp→Prop,(∀σ' H',N σ' H'→∃m',m'<m∧W m' σ' H')∧tb { D with nx:=N,ct:=N,bk:=D.nx } σ H1 else D.nx σ H1
theorem yA3{c:Expr}{body:List Stmt}{tc:TT}{tb:TS}(hp:PassesOwn (model X.prog X.w) X.A X.env X.xe)(hc:PT X c tc)(hb:PSs X body tb):PS X (.While c body [] pos) (xc2 tc tb):=by
 intro pins s σ H D I h
 obtain⟨W,⟨m0,w0⟩,turn⟩:=h
 refine wpAny_While (codeAny_whileLoop (fun n s'=>∃σ' H',Inv X pins σ' H' s'∧W n σ' H') ?_ m0 ⟨σ,H,I,w0⟩)
 rintro n s1 ⟨σ1,H1,I1,w1⟩
 refine wpAny_passesOwn hp (thn (hc pins s1 σ1 H1 _ I1 (turn n σ1 H1 w1)) fun b s2 h_=>?_)
 obtain⟨H2,I2,q2⟩:=h_
 cases b with
 | true =>
  obtain⟨N,hN,q2⟩:=q2
  rw[if_pos rfl]
  refine wpAny_passesOwn hp (thn (hb pins s2 σ1 H2 _ I2 q2) fun f s3 q3=>?_)
  cases f with
  | next =>
   obtain⟨σ3,H3,I3,n3⟩:=q3
   obtain⟨m',hm,w3⟩:=hN σ3 H3 n3
   exact⟨m',hm,σ3,H3,I3,w3⟩
  | cont =>
   obtain⟨σ3,H3,I3,n3⟩:=q3
   obtain⟨m',hm,w3⟩:=hN σ3 H3 n3
   exact⟨m',hm,σ3,H3,I3,w3⟩
  |brk=>exact q3
  |ret v=>exact q3
 | false =>
  rw[if_neg Bool.false_ne_true]
  exact wpAny_execs_nil ⟨σ1,H2,I2,q2⟩
end
structure It where
 go:Nat→Hp→Prop
 yld:Nat→Hp→V→Hp→Prop
 stop:Nat→Hp→Prop
def zZ2(X:Cx)(pins:List (Addr×Obj))(H:Hp)(b:Addr):Prop :=
 H b=none∧b≠X.env.locals∧b∉X.fs∧(b∈X.ex∨X.s₀.heap.objs.size≤b)∧(∀x c,X.env.cells.lookup x=some c→c≠b)∧∀p∈X.pn++pins,p.1≠b
theorem Inv.fpOk{X:Cx}{pins:List (Addr×Obj)}{σ:St}{H H':Hp}{s:Shared}{b:Addr}(I:Inv X pins σ H s)(hb:s.heap.objs.size≤b)(hn:H' b=none):zZ2 X pins H' b:=by
 refine⟨hn,Nat.ne_of_gt (Nat.lt_of_lt_of_le I.lt hb),I.nofs hb,.inr (Nat.le_trans I.sz hb),fun x c e z=>?_,fun p hp z=>?_⟩
 ·obtain⟨v,q⟩:=I.cell x c e
  exact absurd (Nat.lt_of_lt_of_le q.lt (by rw[z];exact hb)) (Nat.lt_irrefl _)
 ·exact absurd (Nat.lt_of_lt_of_le (Heap.lt_size (I.pin p hp).1) (by rw[z];exact hb)) (Nat.lt_irrefl _)
structure yS1(P:Program)(w:World)(K:Frag)(tg:Expr)(J:It)(fp:List Addr)(it:Addr)(tn:Nat→Heap→Prop):Prop where
 mem:it∈fp
 obj:∀i h,tn i h→∀b∈fp,∃o,h.get? b=some o∧∀v,o.data≠.cell v
 keep:∀i h h',tn i h→(∀b∈fp,∀o,h.get? b=some o→h'.get? b=some o)→tn i h'
 item:∀(X:Cx),X.prog=P→X.w=w→X.K=K→X.calm=true→∀(i:Nat) (pins:List (Addr×Obj)) (s:Shared) (σ:St) (H:Hp) (E:Value→Shared→Prop),Inv X pins σ H s→(∀b∈fp,zZ2 X pins H b)→tn i s.heap→J.go i H →
  wpAny (model P w) X.A (pyNext (.ref it)) (fun r s1=>∃u,r=some u ∧
   wpAny (model P w) X.A (letOwnedTupleGo tg (.ref it) u) (fun _ s2=>∃x H',Inv X pins σ H' s2∧RelV x u∧J.yld i H x H'∧tn (i+1) s2.heap∧∀b∈fp,H' b=none) E s1) E s
 done:∀(X:Cx),X.prog=P→X.w=w→X.K=K→X.calm=true→∀(i:Nat) (pins:List (Addr×Obj)) (s:Shared) (σ:St) (H:Hp) (E:Value→Shared→Prop),Inv X pins σ H s→(∀b∈fp,zZ2 X pins H b)→tn i s.heap→J.stop i H →
  wpAny (model P w) X.A (pyNext (.ref it)) (fun r s1=>r=none∧Inv X pins σ H s1) E s
 self:∀(A:Around) (i:Nat) (s:Shared) (Q:Value→Shared→Prop) (E:Value→Shared→Prop),tn i s.heap→Q (.ref it) s→wpAny (model P w) A (pyIter (.ref it)) Q E s
noncomputable abbrev TI:=St→Hp→(It→Hp→Prop)→Prop
def PIE(X:Cx)(pins:List (Addr×Obj))(σ:St)(tg:Expr)(R:It→Hp→Prop)(itv:Value)(s2:Shared):Prop :=
 ∃(it:Addr) (fp:List Addr) (tn:Nat→Heap→Prop) (J:It) (H':Hp),itv=.ref it∧Inv X pins σ H' s2∧yS1 X.prog X.w X.K tg J fp it tn∧tn 0 s2.heap∧(∀b∈fp,zZ2 X pins H' b)∧R J H'
def PI(X:Cx)(tg iter:Expr)(wi:TI):Prop :=
 ∀ (pins:List (Addr×Obj)) (s:Shared) (σ:St) (H:Hp) (R:It→Hp→Prop),Inv X pins σ H s→wi σ H R →
  wpAny (model X.prog X.w) X.A (eval iter X.env) (fun v s1=>wpAny (model X.prog X.w) X.A (pyIter v) (PIE X pins σ tg R) X.xe s1) X.xe s
theorem yD4{M:Model}{A:Around}{E:Value→Shared→Prop}{s:Shared}{tg:Expr}{it:Addr}{u:Value}{o:Obj}{n:String}{vs:Array Value}{Q:Unit→Shared→Prop}(ho:s.heap.get? it=some o)(hc:o.cls=.type n)(hd:o.data=.fields vs)
    (hn:["enumerate","zip","dict_itemiterator","dict_reverseitemiterator","odict_iterator","itertools.zip_longest","itertools.pairwise"].contains n=false) (hQ:Q () s):wpAny M A (letOwnedTupleGo tg (.ref it) u) Q E s:=by
  unfold letOwnedTupleGo
  cases tg <;> first
    |exact wpAny_pure hQ
    | (cases u <;> first
        |exact wpAny_pure hQ
        | (refine wpAny_bind (wpAny_load ho ?_)
           rw[hc,hd]
           show wpAny M A (if (["enumerate","zip","dict_itemiterator","dict_reverseitemiterator","odict_iterator","itertools.zip_longest","itertools.pairwise"].contains n&&vs[0]?==some (rawInt _))=true then _ else _) Q E s
           rw[if_neg (by intro h;rw[hn,Bool.false_and]at h;cases h)]
           exact wpAny_pure hQ))
noncomputable def Itl(K:Frag)(a:Addr):It :=
 ⟨fun i H=>∃xs x,SqL K H a xs∧xs[i]?=some x,fun i H x H'=>H'=H∧∀xs,SqL K H a xs→xs[i]?=some x,fun i H=>∃xs,SqL K H a xs∧xs.length≤i⟩
noncomputable def Itt(K:Frag)(a:Addr):It :=
 ⟨fun i H=>∃xs x,SqT K H a xs∧xs[i]?=some x,fun i H x H'=>H'=H∧∀xs,SqT K H a xs→xs[i]?=some x,fun i H=>∃xs,SqT K H a xs∧xs.length≤i⟩
noncomputable def Itr(lo:Int)(n:Nat):It:=⟨fun i _=>i<n,fun i H x H'=>H'=H∧x=.int (lo+i),fun i _=>n≤i⟩
theorem yr7{P:Program}{w:World}{K:Frag}{tg:Expr}(a it:Addr):yS1 P w K tg (Itl K a) [it] it (fun i h=>h.IsListIter it a i) where
 mem:=by simp
 obj:=fun i h st b hb=>by
  have e:b=it:=by simpa using hb
  subst e
  obtain⟨o,e,c,d⟩:=st
  exact⟨o,e,fun v z=>by rw[d]at z;cases z⟩
 keep:=fun i h h' st k=>st.at fun o e=>k it (by simp) o e
 item:=by
  intro X hP hw hK hc i pins s σ H E I hf st hg
  subst hP hw hK
  obtain⟨xs,x,hq,hx⟩:=hg
  obtain⟨its,rv,p,hz⟩:=I.list hq
  obtain⟨u,hu,ru⟩:=rv.get hx
  obtain⟨f0,f1,f2,f3,f4,f5⟩:=hf it (by simp)
  refine wpAny_pyNext_list_item st p.isList (x:=u) (by simpa using hu) fun h' st' sb=>?_
  have I1:Inv X pins σ H { s with heap:=h' }:=I.turned (t':=s.toks) (fun b o hb e=>(sb.2 b hb).trans e) f0 f1 f3 f4 f5
  obtain⟨o,e,c,d⟩:=id st'
  exact⟨u,rfl,yD4 (s:={ s with heap:=h' }) e c d (by decide) ⟨x,H,I1,ru,⟨rfl,fun ys hy=>by rw[I.list_inj hy hq];exact hx⟩,st',fun b hb=>(hf b hb).1⟩⟩
 done:=by
  intro X hP hw hK hc i pins s σ H E I hf st hg
  subst hP hw hK
  obtain⟨xs,hq,hx⟩:=hg
  obtain⟨its,rv,p,hz⟩:=I.list hq
  obtain⟨f0,f1,f2,f3,f4,f5⟩:=hf it (by simp)
  have hl:=rv.length
  exact wpAny_pyNext_list_end (I.ok.hd hc) st p.isList (by simp;lia) fun h' eb=>⟨rfl,I.turned (t':=s.toks) (fun b o hb e=>eb b o hb e) f0 f1 f3 f4 f5⟩
 self:=fun _ _ _ _ _ st h=>wpAny_pyIter_listiter st h
theorem yf4{P:Program}{w:World}{K:Frag}{tg:Expr}(a it:Addr):yS1 P w K tg (Itt K a) [it] it (fun i h=>h.IsTupleIter it a i) where
 mem:=by simp
 obj:=fun i h st b hb=>by
  have e:b=it:=by simpa using hb
  subst e
  obtain⟨o,e,c,d⟩:=st
  exact⟨o,e,fun v z=>by rw[d]at z;cases z⟩
 keep:=fun i h h' st k=>st.at fun o e=>k it (by simp) o e
 item:=by
  intro X hP hw hK hc i pins s σ H E I hf st hg
  subst hP hw hK
  obtain⟨xs,x,hq,hx⟩:=hg
  obtain⟨its,rv,p,hz⟩:=I.tuple hq
  obtain⟨u,hu,ru⟩:=rv.get hx
  obtain⟨f0,f1,f2,f3,f4,f5⟩:=hf it (by simp)
  refine wpAny_pyNext_tuple_item st (show s.heap.IsTuple a its.toArray from p) (x:=u) (by simpa using hu) fun h' st' sb=>?_
  have I1:Inv X pins σ H { s with heap:=h' }:=I.turned (t':=s.toks) (fun b o hb e=>(sb.2 b hb).trans e) f0 f1 f3 f4 f5
  obtain⟨o,e,c,d⟩:=id st'
  exact⟨u,rfl,yD4 (s:={ s with heap:=h' }) e c d (by decide) ⟨x,H,I1,ru,⟨rfl,fun ys hy=>by rw[I.tuple_inj hy hq];exact hx⟩,st',fun b hb=>(hf b hb).1⟩⟩
 done:=by
  intro X hP hw hK hc i pins s σ H E I hf st hg
  subst hP hw hK
  obtain⟨xs,hq,hx⟩:=hg
  obtain⟨its,rv,p,hz⟩:=I.tuple hq
  obtain⟨f0,f1,f2,f3,f4,f5⟩:=hf it (by simp)
  have hl:=rv.length
  exact wpAny_pyNext_tuple_end (I.ok.hd hc) st (show s.heap.IsTuple a its.toArray from p) (by simp;lia) fun h' eb=>⟨rfl,I.turned (t':=s.toks) (fun b o hb e=>eb b o hb e) f0 f1 f3 f4 f5⟩
 self:=fun _ _ _ _ _ st h=>wpAny_pyIter_tupleiter st h
theorem yi1{P:Program}{w:World}{K:Frag}{tg:Expr}(it:Addr)(lo:Int)(n:Nat):yS1 P w K tg (Itr lo n) [it] it (fun i h=>IsRangeIter h it (lo+(i:Nat)*1) ((n:Int)-(i:Nat)) 1) where
 mem:=by simp
 obj:=fun i h st b hb=>by
  have e:b=it:=by simpa using hb
  subst e
  exact ⟨_,st,fun v z=>by
   have z':Data.fields _=Data.cell v:=z
   cases z'⟩
 keep:=fun i h h' st k=>k it (by simp) _ st
 item:=by
  intro X hP hw hK hc i pins s σ H E I hf st hg
  subst hP hw hK
  obtain⟨f0,f1,f2,f3,f4,f5⟩:=hf it (by simp)
  have W:=Walks.range (prog:=X.prog) (w:=X.w) (I.ok.hd hc) it lo 1 n
  refine W.item i s _ _ hg st fun v h' tk hv st' kk=>?_
  obtain⟨t,rfl⟩:=hv
  have I1:Inv X pins σ H { s with heap:=h',toks:=tk }:=I.turned (fun b o hb e=>kk b o (by simpa using hb) e) f0 f1 f3 f4 f5
  refine⟨_,rfl,yD4 (s:={ s with heap:=h',toks:=tk }) (n := "range_iterator") st' rfl rfl (by decide) ⟨.int (lo+i),H,I1,⟨t,?_⟩,⟨rfl,rfl⟩,st',fun b hb=>(hf b hb).1⟩⟩
  rw[Int.mul_one]
 done:=by
  intro X hP hw hK hc i pins s σ H E I hf st hg
  subst hP hw hK
  obtain⟨f0,f1,f2,f3,f4,f5⟩:=hf it (by simp)
  exact wpAny_pyNext_range_end (I.ok.hd hc) st (by have:n≤i:=hg;lia) fun h' eb=>⟨rfl,I.turned (t':=s.toks) (fun b o hb e=>eb b o hb e) f0 f1 f3 f4 f5⟩
 self:=fun _ _ _ _ _ st h=>wpAny_pyIter_rangeiter st h
section
variable{X:Cx}{tg:Expr}
theorem yx9{pins:List (Addr×Obj)}{σ:St}{H:Hp}{s:Shared}{R:It→Hp→Prop}{E:Value→Shared→Prop}{lo hi:Int}{t u v:Tok}{tk:Nat}(I:Inv X pins σ H s)(h1:-(2 ^ 62)≤lo)(h2:lo<2 ^ 62)(h3:-(2 ^ 62)≤hi)(h4:hi<2 ^ 62)
  (q:R (Itr lo (hi-lo).toNat) H):wpAny (model X.prog X.w) X.A (pyIter (.ref s.heap.objs.size)) (PIE X pins σ tg R) E { s with heap:=s.heap.push { cls:=.type "range", data:=.fields #[.int lo t,.int hi u,.int 1 v] },toks:=tk }:=by
 refine wpAny_pyIter_range (IsRange.new ..) (small_one h1 h2 h3 h4) ?_
 have I1:Inv X pins σ H { s with heap:=s.heap.push { cls:=.type "range", data:=.fields #[.int lo t,.int hi u,.int 1 v] },toks:=tk }:=I.kept fun b o e=>Heap.get?_push_of_some _ e
 refine ⟨(s.heap.push { cls:=.type "range", data:=.fields #[.int lo t,.int hi u,.int 1 v] }).objs.size,[(s.heap.push { cls:=.type "range", data:=.fields #[.int lo t,.int hi u,.int 1 v] }).objs.size],_,_,H,rfl,
  I1.kept (t':=tk) fun b o e=>Heap.get?_push_of_some _ e,yi1 _ lo (hi-lo).toNat,?_,fun b hb=>?_,q⟩
 ·have e1:lo+((0:Nat):Int)*1=lo:=by simp
  have e2:(((hi-lo).toNat:Nat):Int)-((0:Nat):Int)=Builtin.Range.rangeSize lo hi 1:=by rw[rangeSize_one];split <;> lia
  show IsRangeIter _ _ (lo+((0:Nat):Int)*1) ((((hi-lo).toNat:Nat):Int)-((0:Nat):Int)) 1
  rw[e1,e2]
  exact Heap.get?_push_size _ rfl
 ·have e:b=(s.heap.push { cls:=.type "range", data:=.fields #[.int lo t,.int hi u,.int 1 v] }).objs.size:=by simpa using hb
  subst e
  exact I1.fpOk (Nat.le_refl _) (I1.hok.fresh (Nat.le_refl _))
noncomputable def xt8(ta:TA):TI:=fun σ H R=>ta σ H fun vs H1=>∃j:Int,vs=[.int j]∧-(2 ^ 62)≤j∧j<2 ^ 62∧R (Itr 0 j.toNat) H1
theorem yt2{a:Expr}{ta:TA}{p pos:Pos}(hg:Gl X "range")(hm:X.mg "range" = none)(ha:PA X [a] ta)(hs:starEach [a] X.env=[(false,eval a X.env)]):PI X tg (.Call (.Name "range" p) [a] [] pos) (xt8 ta):=by
 intro pins s σ H R I h
 refine Call_ (zH0 I hg hm boot_range (PyProof.Rows.callWith_type1 (thn (ha pos pins s σ H _ I h) fun us s1 ⟨vs,H1,I1,r1,q1⟩=>?_) hs rfl))
 obtain⟨j,e,q1,q2,q⟩:=q1
 subst e
 cases r1 with
 | cons r rr =>
  cases rr
  obtain⟨t,rfl⟩:=r
  exact call_range_1 (yx9 I1 (by lia) (by lia) q1 q2 (by simpa using q))
noncomputable def tFor(wi:TI)(g:TG)(tb:TS):TS:=fun D σ H=>wi σ H fun J H1=>∃W:Nat→Nat→St→Hp→Prop,(∃m,W 0 m σ H1)∧∀i m σ H,W i m σ H →
 (J.stop i H∧D.nx σ H)∨(J.go i H∧∃N:St→Hp→Prop,(∀σ' H',N σ' H'→∃m',m'<m∧W (i+1) m' σ' H')∧∀x H',J.yld i H x H'→g x σ H' fun σ2 H2=>tb { D with nx:=N,ct:=N,bk:=D.nx } σ2 H2)
noncomputable def zK1(fp:List Addr)(h:Heap):List (Addr×Obj):=fp.filterMap fun b=>(h.get? b).map fun o=>(b,o)
theorem zo3{fp:List Addr}{h:Heap}{b:Addr}{o:Obj}(hb:b∈fp)(e:h.get? b=some o):(b,o)∈zK1 fp h:=List.mem_filterMap.mpr ⟨b,hb,by rw[e];rfl⟩
theorem yk0{fp:List Addr}{h:Heap}{p:Addr×Obj}(hp:p∈zK1 fp h):p.1∈fp∧h.get? p.1=some p.2:=by
 obtain⟨b,hb,e⟩:=List.mem_filterMap.mp hp
 cases q:h.get? b with
 |none=>rw[q]at e;cases e
 | some o =>
  rw[q]at e
  have e':(b,o)=p:=Option.some.inj e
  subst e'
  exact⟨hb,q⟩
theorem Inv.pinned{pins:List (Addr×Obj)}{σ:St}{H:Hp}{s:Shared}{fp:List Addr}(I:Inv X pins σ H s)(hf:∀b∈fp,zZ2 X pins H b)(ho:∀b∈fp,∃o,s.heap.get? b=some o∧∀v,o.data≠.cell v):Inv X (pins++zK1 fp s.heap) σ H s :=
 I.pins_of fun p hp=>(List.mem_append.mp hp).elim (fun z=>I.pin p (List.mem_append_right _ z)) fun z=>by
  obtain⟨hb,e⟩:=yk0 z
  obtain⟨f0,f1,f2,_⟩:=hf p.1 hb
  obtain⟨o,e',d⟩:=ho p.1 hb
  rw[e]at e';cases e'
  exact⟨e,f0,f1,f2,d⟩
theorem Inv.unpinned{pins pl:List (Addr×Obj)}{σ:St}{H:Hp}{s:Shared}(I:Inv X (pins++pl) σ H s):Inv X pins σ H s:=I.pins_of fun p hp=>I.pin p (List.mem_append_right _ (List.mem_append_left _ hp))
theorem xe8{iter:Expr}{body:List Stmt}{wi:TI}{g:TG}{tb:TS}{pos:Pos}(hp:PassesOwn (model X.prog X.w) X.A X.env X.xe)(hc:X.calm=true)(hi:PI X tg iter wi)(hg:PG X tg g)(hb:PSs X body tb)
  (hs:∀x,foldedSetIterable iter X.env x=pure x):PS X (.For tg iter body [] pos) (tFor wi g tb):=by
 intro pins s σ H D I h
 refine wpAny_For (thn (hi pins s σ H _ I h) fun v s1 h1=>thn h1 fun itv s2 h2=>?_) hs
 obtain⟨it,fp,tn,J,H2,e,I2,T,st2,f2,W,⟨m0,w0⟩,turn⟩:=h2
 subst e
 -- what stays true of the iterator's objects through the loop
 have stat:∀{H':Hp},(∀b∈fp,H' b=none)→∀b∈fp,zZ2 X pins H' b:=fun hn b hb=>⟨hn b hb,(f2 b hb).2⟩
 refine codeAny_forLoop_any (fun n s'=>∃i σ' H',Inv X pins σ' H' s'∧tn i s'.heap∧(∀b∈fp,H' b=none)∧W i n σ' H') ?_ m0 ⟨0,σ,H2,I2,st2,fun b hb=>(f2 b hb).1,w0⟩
 rintro n s3 ⟨i,σ3,H3,I3,st3,fr3,w3⟩
 rcases turn i n σ3 H3 w3 with⟨stop,qn⟩|⟨go,N,hN,step⟩
 ·refine wpAny_passesOwn hp (thn (T.done X rfl rfl rfl hc i pins s3 σ3 H3 X.xe I3 (stat fr3) st3 stop) fun r s4 h_=>?_)
  obtain⟨hr,I4⟩:=h_
  subst hr
  exact wpAny_execs_nil ⟨σ3,H3,I4,qn⟩
 ·refine wpAny_passesOwn hp (thn (T.item X rfl rfl rfl hc i pins s3 σ3 H3 X.xe I3 (stat fr3) st3 go) fun r s4 h_=>?_)
  obtain⟨u,hr,h4⟩:=h_
  subst hr
  refine wpAny_passesOwn hp (thn h4 fun _ s5 h_=>?_)
  obtain⟨x,H5,I5,r5,y5,st5,fr5⟩:=h_
  have I5':=I5.pinned (stat fr5) (T.obj _ _ st5)
  refine wpAny_passesOwn hp (thn (hg _ s5 σ3 H5 x u _ I5' r5 (step x H5 y5)) fun _ s6 h_=>?_)
  obtain⟨σ6,H6,I6,q6⟩:=h_
  refine wpAny_passesOwn hp (thn (hb _ s6 σ6 H6 _ I6 q6) fun f s7 q7=>?_)
  have again:∀{σ7:St} {H7:Hp},Inv X (pins++zK1 fp s5.heap) σ7 H7 s7→N σ7 H7→∃m,m<n∧∃i σ' H',Inv X pins σ' H' s7∧tn i s7.heap∧(∀b∈fp,H' b=none)∧W i m σ' H':=fun {σ7 H7} I7 n7=>by
   obtain⟨m',hm,w7⟩:=hN σ7 H7 n7
   refine⟨m',hm,i+1,σ7,H7,I7.unpinned,T.keep _ _ _ st5 fun b hb o e=>(I7.pin (b,o) (List.mem_append_right _ (List.mem_append_right _ (zo3 hb e)))).1,fun b hb=>?_,w7⟩
   obtain⟨o,e,d⟩:=T.obj _ _ st5 b hb
   exact (I7.pin (b,o) (List.mem_append_right _ (List.mem_append_right _ (zo3 hb e)))).2.1
  cases f with
  |next=>obtain⟨σ7,H7,I7,n7⟩:=q7;exact again I7 n7
  |cont=>obtain⟨σ7,H7,I7,n7⟩:=q7;exact again I7 n7
  |brk=>obtain⟨σ7,H7,I7,q7⟩:=q7;exact⟨σ7,H7,I7.unpinned,q7⟩
  |ret v=>obtain⟨x7,σ7,H7,I7,r7,q7⟩:=q7;exact⟨x7,σ7,H7,I7.unpinned,r7,q7⟩
end
noncomputable abbrev R2:=V→V→Hp→VK→Prop
def OpR(X:Cx)(f:Value→Value→Sem Value)(r:R2):Prop :=
 ∀ (pins:List (Addr×Obj)) (s:Shared) (σ:St) (H:Hp) (x y:V) (v u:Value) (Q:VK),Inv X pins σ H s→RelV x v→RelV y u→r x y H Q →
  wpAny (model X.prog X.w) X.A (f v u) (EP X pins σ Q) X.xe s
def UnR(X:Cx)(f:Value→Sem Value)(r:V→Hp→VK→Prop):Prop :=
 ∀ (pins:List (Addr×Obj)) (s:Shared) (σ:St) (H:Hp) (x:V) (v:Value) (Q:VK),Inv X pins σ H s→RelV x v→r x H Q →
  wpAny (model X.prog X.w) X.A (f v) (EP X pins σ Q) X.xe s
def zE9(X:Cx)(f:Value)(r:List V→Hp→VK→Prop):Prop :=
 ∀ (pins:List (Addr×Obj)) (s:Shared) (σ:St) (H:Hp) (xs:List V) (us:List Value) (Q:VK),Inv X pins σ H s→zi9 xs us→r xs H Q →
  wpAny (model X.prog X.w) X.A (call f us) (EP X pins σ Q) X.xe s
noncomputable def tOp(r:R2)(ta tb:TE):TE:=fun σ H Q=>ta σ H fun x H1=>tb σ H1 fun y H2=>r x y H2 Q
noncomputable def tUn(r:V→Hp→VK→Prop)(ta:TE):TE:=fun σ H Q=>ta σ H fun x H1=>r x H1 Q
noncomputable def rI(C:Int→Int→Prop)(g:Int→Int→V):R2:=fun x y H Q=>∃i j,x=.int i∧y=.int j∧C i j∧Q (g i j) H
noncomputable def rI0(g:Int→Int→V):R2:=fun x y H Q=>∃i j,x=.int i∧y=.int j∧Q (g i j) H
def rU(g:Int→V):V→Hp→VK→Prop:=fun x H Q=>∃i,x=.int i∧Q (g i) H
section
variable{X:Cx}{a b c:Expr}{ta tb tc:TE}{pos:Pos}
theorem xn9(ha:PE X a ta)(hb:PE X b tb){pins:List (Addr×Obj)}{s:Shared}{σ:St}{H:Hp}{R:V→V→Hp→Prop}(I:Inv X pins σ H s)
  (h:ta σ H fun x H1=>tb σ H1 fun y H2=>R x y H2) {Q:Value→Shared→Prop} {f:Value→Value→Sem Value}
  (hf:∀v u s2 x y H2,Inv X pins σ H2 s2→RelV x v→RelV y u→R x y H2→wpAny (model X.prog X.w) X.A (f v u) Q X.xe s2) :
  wpAny (model X.prog X.w) X.A (eval a X.env) (fun v s₁=>wpAny (model X.prog X.w) X.A (eval b X.env) (fun u s₂=>wpAny (model X.prog X.w) X.A (f v u) Q X.xe s₂) X.xe s₁) X.xe s:=by
 refine thn (ha pins s σ H _ I h) fun v s1 h_=>?_
 obtain⟨x,H1,I1,r1,q1⟩:=h_
 refine thn (hb pins s1 σ H1 _ I1 q1) fun u s2 h_=>?_
 obtain⟨y,H2,I2,r2,q2⟩:=h_
 exact hf v u s2 x y H2 I2 r1 r2 q2
theorem xm8{op:Operator}{r:R2}(ho:OpR X (binaryOp op) r)(ha:PE X a ta)(hb:PE X b tb):PE X (.BinOp a op b pos) (tOp r ta tb):=by
 intro pins s σ H Q I h
 exact wpAny_BinOp (xn9 ha hb I h fun v u s2 x y H2 I2 rx ry q=>ho pins s2 σ H2 x y v u Q I2 rx ry q)
theorem xp8{op:UnaryOp}{r:V→Hp→VK→Prop}(ho:UnR X (unaryOp op) r)(ha:PE X a ta):PE X (.UnaryOp op a pos) (tUn r ta):=by
 intro pins s σ H Q I h
 exact UnaryOp_ (thn (ha pins s σ H _ I h) fun v s1 ⟨x,H1,I1,r1,q1⟩=>ho pins s1 σ H1 x v Q I1 r1 q1)
theorem opI{f:Value→Value→Sem Value}{C:Int→Int→Prop}{g:Int→Int→Int}
  (rule:∀(i j:Int) (t u:Tok) (s:Shared) (Q:Value→Shared→Prop) (E:Value→Shared→Prop),C i j→Q (.int (g i j) s.toks) { s with toks:=s.toks+1 }→wpAny (model X.prog X.w) X.A (f (.int i t) (.int j u)) Q E s) :
  OpR X f (rI C fun i j=>.int (g i j)):=by
 intro pins s σ H x y v u Q I rx ry h
 obtain⟨i,j,rfl,rfl,hc,q⟩:=h
 obtain⟨t,rfl⟩:=rx
 obtain⟨t',rfl⟩:=ry
 exact rule i j t t' s _ _ hc ⟨.int (g i j),H,I.tok _,⟨_,rfl⟩,q⟩
theorem xo6{f:Value→Value→Sem Value}{g:Int→Int→Int}
  (rule:∀(i j:Int) (t u:Tok) (s:Shared) (Q:Value→Shared→Prop) (E:Value→Shared→Prop),Q (.int (g i j) s.toks) { s with toks:=s.toks+1 }→wpAny (model X.prog X.w) X.A (f (.int i t) (.int j u)) Q E s) :
  OpR X f (rI0 fun i j=>.int (g i j)):=by
 intro pins s σ H x y v u Q I rx ry h
 obtain⟨i,j,rfl,rfl,q⟩:=h
 obtain⟨t,rfl⟩:=rx
 obtain⟨t',rfl⟩:=ry
 exact rule i j t t' s _ _ ⟨.int (g i j),H,I.tok _,⟨_,rfl⟩,q⟩
theorem xk7{f:Value→Value→Sem Value}{g:Int→Int→Bool}
  (rule:∀(i j:Int) (t u:Tok) (s:Shared) (Q:Value→Shared→Prop) (E:Value→Shared→Prop),Q (.bool (g i j)) s→wpAny (model X.prog X.w) X.A (f (.int i t) (.int j u)) Q E s) :
  OpR X f (rI0 fun i j=>.bl (g i j)):=by
 intro pins s σ H x y v u Q I rx ry h
 obtain⟨i,j,rfl,rfl,q⟩:=h
 obtain⟨t,rfl⟩:=rx
 obtain⟨t',rfl⟩:=ry
 exact rule i j t t' s _ _ ⟨.bl (g i j),H,I,rfl,q⟩
def CDiv(i j:Int):Prop:=0<j∧j<1073741824
def CPow(i j:Int):Prop:=0≤j∧j≤1000000∧i.natAbs<2 ^ 64
def xq2(i j:Int):Prop:=(-(2 ^ 64)<i∧i<2 ^ 64)∨(-(2 ^ 64)<j∧j<2 ^ 64)
theorem xq2.ok{i j:Int}(h:xq2 i j):IntMulOk i j:=by
 rcases h with⟨h1,h2⟩|⟨h1,h2⟩
 ·exact .of_left (intBits_le_64 h1 h2)
 ·exact .of_right (intBits_le_64 h1 h2)
theorem yi6(k:Nat):(0:Int)≤2 ^ k:=by
 rw[two_pow_cast]
 exact Int.natCast_nonneg _
theorem yS5:OpR X (binaryOp .Add) (rI0 fun i j=>.int (i+j)):=xo6 fun _ _ _ _ _ _ _ q=>add_int q
theorem yE3:OpR X (binaryOp .Sub) (rI0 fun i j=>.int (i-j)):=xo6 fun _ _ _ _ _ _ _ q=>sub_int q
theorem xb0:OpR X (binaryOp .Mult) (rI xq2 fun i j=>.int (i*j)):=opI fun _ _ _ _ _ _ _ hc q=>mul_int q hc.ok
theorem xr1:OpR X (binaryOp .FloorDiv) (rI CDiv fun i j=>.int (i/j)):=opI fun i j _ _ _ _ _ hc q=>by
 have h1:(0:Int)<j:=hc.1
 have h2:j<1073741824:=hc.2
 exact floordiv_int (by lia) (by rw[Int.fdiv_eq_ediv_of_nonneg i (by lia)];exact q) (.inl (PyProof.noPylong_small (by lia)))
theorem xa2:OpR X (binaryOp .Mod) (rI (fun _ j=>0<j) fun i j=>.int (i%j)):=opI fun i j _ _ _ _ _ hc q=>by
 have h1:(0:Int)<j:=hc
 exact mod_int' (by lia) (by rw[Int.fmod_eq_emod_of_nonneg i (by lia)];exact q)
theorem yS8:OpR X (binaryOp .Pow) (rI CPow fun i j=>.int (i ^ j.toNat)):=opI fun _ _ _ _ _ _ _ hc q=>pow_int_small hc.1 hc.2.1 hc.2.2 q
theorem xi1:OpR X (binaryOp .LShift) (rI CPow fun i j=>.int (i*2 ^ j.toNat)):=opI fun _ _ _ _ _ _ _ hc q=>lshift_int_small hc.1 hc.2.1 hc.2.2 q
theorem yX9:OpR X (binaryOp .RShift) (rI (fun _ j=>0≤j) fun i j=>.int (i/2 ^ j.toNat)):=opI fun i j _ _ _ _ _ hc q =>
 rshift_int hc (by rw[Int.fdiv_eq_ediv_of_nonneg i (yi6 _)];exact q)
theorem xa7:OpR X (binaryOp .BitAnd) (rI0 fun i j=>.int (Builtin.bitAnd i j)):=xo6 fun _ _ _ _ _ _ _ q=>and_int q
theorem unI{f:Value→Sem Value}{g:Int→Int}
  (rule:∀(i:Int) (t:Tok) (s:Shared) (Q:Value→Shared→Prop) (E:Value→Shared→Prop),Q (.int (g i) s.toks) { s with toks:=s.toks+1 }→wpAny (model X.prog X.w) X.A (f (.int i t)) Q E s) :
  UnR X f (rU fun i=>.int (g i)):=by
 intro pins s σ H x v Q I rx h
 obtain⟨i,rfl,q⟩:=h
 obtain⟨t,rfl⟩:=rx
 exact rule i t s _ _ ⟨.int (g i),H,I.tok _,⟨_,rfl⟩,q⟩
theorem xf7:UnR X (unaryOp .USub) (rU fun i=>.int (-i)):=unI fun _ _ _ _ _ q=>neg_int q
end
section
variable{X:Cx}{a b c:Expr}{ta tb tc:TE}{pos:Pos}
theorem yE7{pins:List (Addr×Obj)}{σ:St}{H:Hp}{s:Shared}{Q:VK}{k k':Bool}(I:Inv X pins σ H s)(q:Q (.bl k) H)(e:k=k'):EP X pins σ Q (.bool k') s:=by
 subst e
 exact⟨.bl k,H,I,rfl,q⟩
theorem xt2:OpR X (compareOp .Lt) (rI0 fun i j=>.bl (decide (i<j))):=xk7 fun _ _ _ _ _ _ _ q=>lt_int q
theorem xp2:OpR X (compareOp .LtE) (rI0 fun i j=>.bl (decide (i≤j))):=xk7 fun _ _ _ _ _ _ _ q=>le_int q
theorem xo9:OpR X (compareOp .Gt) (rI0 fun i j=>.bl (decide (j<i))):=xk7 fun _ _ _ _ _ _ _ q=>gt_int q
theorem xq8:OpR X (compareOp .GtE) (rI0 fun i j=>.bl (decide (j≤i))):=xk7 fun _ _ _ _ _ _ _ q=>ge_int q
theorem ym2:OpR X (compareOp .In) (fun x y H Q=>∃i j,x=.str i∧y=.str j∧Q (.bl (!(Builtin.Str.occurrences j i 0 j.length 1).isEmpty)) H):=by
 intro pins s σ H x y v u Q I rx ry h
 obtain⟨i,j,rfl,rfl,q⟩:=h
 obtain⟨t,rfl⟩:=rx
 obtain⟨t',rfl⟩:=ry
 exact in_str (yE7 I q rfl)
theorem xd8:OpR X (compareOp .Is) (fun x y H Q=>y=.non∧Q (.bl (decide (x=.non))) H):=by
 intro pins s σ H x y v u Q I rx ry h
 obtain⟨rfl,q⟩:=h
 cases ry
 refine is_none_gen (yE7 I q ?_)
 cases x <;> first
  |(cases rx;rfl)
  |(obtain⟨t,rfl⟩:=rx;rfl)
theorem zc0(b:Expr){op:CmpOp}(h:op≠.In:=by decide)(h2:op≠.NotIn:=by decide):behindInMarks op b=false:=by
 have e1:(op==CmpOp.In)=false:=by cases op <;> first |rfl |exact absurd rfl h
 have e2:(op==CmpOp.NotIn)=false:=by cases op <;> first |rfl |exact absurd rfl h2
 cases b <;> simp[behindInMarks,e1,e2]
theorem yQ6{op:CmpOp}{r:R2}(ho:OpR X (compareOp op) r)(ha:PE X a ta)(hb:PE X b tb)(hm:behindInMarks op b=false):PE X (.Compare a [op] [b] pos) (tOp r ta tb):=by
 intro pins s σ H Q I h
 exact wpAny_Compare1 (xn9 ha hb I h fun v u s2 x y H2 I2 rx ry q=>ho pins s2 σ H2 x y v u Q I2 rx ry q) hm
noncomputable def xm3(t:TE):TT:=fun σ H Q=>t σ H fun x H'=>∃k,x=.bl k∧Q k H'
theorem yJ3{op:CmpOp}{r:R2}(ho:OpR X (compareOp op) r)(ha:PE X a ta)(hb:PE X b tb)(hm:behindInMarks op b=false):PT X (.Compare a [op] [b] pos) (xm3 (tOp r ta tb)):=by
 intro pins s σ H Q I h
 refine wpAny_isTrue_Compare1 (thn (ha pins s σ H _ I h) fun v s1 ⟨x,H1,I1,r1,q1⟩=>thn (hb pins s1 σ H1 _ I1 q1) fun u s2 ⟨y,H2,I2,r2,q2⟩ =>
  thn (ho pins s2 σ H2 x y v u _ I2 r1 r2 q2) fun c s3 ⟨z,H3,I3,r3,k,e,q3⟩=>?_) hm
 subst e
 cases r3
 exact wpAny_truthy_bool ⟨H3,I3,q3⟩
noncomputable def yF3(r r':R2)(ta tb tc:TE):TE:=fun σ H Q=>ta σ H fun x H1=>tb σ H1 fun y H2=>r x y H2 fun z H3=>∃k,z=.bl k ∧
 (if k=true then tc σ H3 fun w' H4=>r' y w' H4 Q else Q (.bl false) H3)
theorem yv2{op op':CmpOp}{r r':R2}(ho:OpR X (compareOp op) r)(ho':OpR X (compareOp op') r')(ha:PE X a ta)(hb:PE X b tb)(hc:PE X c tc)
  (hm:lastMarks [op,op'] [b,c]=false):PE X (.Compare a [op,op'] [b,c] pos) (yF3 r r' ta tb tc):=by
 intro pins s σ H Q I h
 refine Compare_chain (thn (ha pins s σ H _ I h) fun v s1 ⟨x,H1,I1,r1,q1⟩=>chain_link (thn (hb pins s1 σ H1 _ I1 q1) fun u s2 ⟨y,H2,I2,r2,q2⟩ =>
  thn (ho pins s2 σ H2 x y v u _ I2 r1 r2 q2) fun d s3 ⟨z,H3,I3,r3,k,e,q3⟩=>?_)) hm
 subst e
 cases r3
 refine wpAny_truthy_bool ?_
 cases k with
 |false=>exact ite_ff ⟨.bl false,H3,I3,rfl,q3⟩
 |true=>exact ite_tt (chain_last (thn (hc pins s3 σ H3 _ I3 q3) fun w' s4 ⟨z',H4,I4,r4,q4⟩=>ho' pins s4 σ H4 y z' u w' Q I4 r2 r4 q4))
theorem zK6:(sizeLine:Nat)<2 ^ 63:=by rw[sizeLine_eq];decide
theorem yi5:OpR X (binaryOp .Add) (fun x y H Q=>∃i j,x=.str i∧y=.str j∧i.length+j.length≤sizeLine∧Q (.str (i++j)) H):=by
 intro pins s σ H x y v u Q I rx ry h
 obtain⟨i,j,rfl,rfl,hz,q⟩:=h
 obtain⟨t,rfl⟩:=rx
 obtain⟨t',rfl⟩:=ry
 exact add_str (fun t' tk=>⟨.str (i++j),H,I.tok _,⟨_,rfl⟩,q⟩) hz
theorem yf9{x:V}{us:List Value}(r:zi9 [x] us):∃u,us=[u]∧RelV x u:=by
 cases r with
 |cons r1 r2=>cases r2;exact⟨_,rfl,r1⟩
theorem yU1{x y:V}{us:List Value}(r:zi9 [x,y] us):∃u w',us=[u,w']∧RelV x u∧RelV y w':=by
 cases r with
 | cons r1 r2 =>
  cases r2 with
  |cons r3 r4=>cases r4;exact⟨_,_,rfl,r1,r3⟩
theorem yr5(hc:X.calm=true):zE9 X (.builtin "max") (fun xs H Q=>∃i j,xs=[.int i,.int j]∧Q (.int (if j > i then j else i)) H):=by
 intro pins s σ H xs us Q I r h
 obtain⟨i,j,rfl,q⟩:=h
 obtain⟨u,w',rfl,⟨t,rfl⟩,⟨t',rfl⟩⟩:=yU1 r
 refine max_two_ints (I.ok.hd hc) fun h' tk k=>⟨_,H,I.kept k,?_,q⟩
 by_cases hj:j > i
 ·rw[if_pos hj,if_pos hj];exact⟨_,rfl⟩
 ·rw[if_neg hj,if_neg hj];exact⟨_,rfl⟩
theorem ym7(hc:X.calm=true):zE9 X (.builtin "min") (fun xs H Q=>∃i j,xs=[.int i,.int j]∧Q (.int (if j<i then j else i)) H):=by
 intro pins s σ H xs us Q I r h
 obtain⟨i,j,rfl,q⟩:=h
 obtain⟨u,w',rfl,⟨t,rfl⟩,⟨t',rfl⟩⟩:=yU1 r
 refine min_two_ints (I.ok.hd hc) fun h' tk k=>⟨_,H,I.kept k,?_,q⟩
 by_cases hj:j<i
 ·rw[if_pos hj,if_pos hj];exact⟨_,rfl⟩
 ·rw[if_neg hj,if_neg hj];exact⟨_,rfl⟩
theorem zR1:zE9 X (.type "int") (fun xs H Q=>(∃i,xs=[.int i]∧Q (.int i) H)∨∃k,xs=[.bl k]∧Q (.int (if k then 1 else 0)) H):=by
 intro pins s σ H xs us Q I r h
 rcases h with⟨i,rfl,q⟩|⟨k,rfl,q⟩
 ·obtain⟨u,rfl,t,rfl⟩:=yf9 r
  exact call_int_int ⟨.int i,H,I,⟨_,rfl⟩,q⟩
 ·obtain⟨u,rfl,r1⟩:=yf9 r
  cases r1
  exact call_int_bool ⟨.int (if k then 1 else 0),H,I.tok _,⟨_,rfl⟩,q⟩
end
structure xn0(h:Heap)(x dx C:Addr)(mA:Str→Option Value):Prop where
 obj:h.get? x=some (PySem.W.instObj C dx)
 ns:h.Ns1 dx mA
 ne:dx≠x
theorem yo3{h:Heap}{dx:Addr}{mA:Str→Option Value}(n:h.Ns1 dx mA):∃od,h.get? dx=some od∧∀name,PySem.W.lookIn name od=some (mA name):=by
 obtain⟨o,es,ep,ho,hd,hk,_,hm⟩:=n
 refine⟨o,ho,fun name=>?_⟩
 have e:=hm name
 unfold nsFind findBy at e
 rw[←Array.find?_toList]at e
 unfold PySem.W.lookIn
 rw[hd]
 dsimp only
 split
 ·rename_i y q
  rw[q]at e
  exact congrArg some e
 ·rename_i q
  rw[q]at e
  have a:es.toList.any (·.refKey)=false:=by
   rw[List.any_eq_false]
   intro y hy
   obtain⟨z,t,hkey⟩:=hk y (Array.mem_toList_iff.mp hy)
   simp[DictEntry.refKey,hkey]
  have a':¬es.toList.any (·.refKey)=true:=by rw[a];exact Bool.false_ne_true
  rw[if_neg a']
  exact congrArg some e
theorem xn0.look{h:Heap}{x dx C:Addr}{mA:Str→Option Value}(I:xn0 h x dx C mA):∃od,PySem.W.InstAt h x (PySem.W.instObj C dx) C (some od)∧∀name,PySem.W.lookIn name od=some (mA name) :=
 let⟨od,ho,hl⟩:=yo3 I.ns
 ⟨od,⟨I.obj,rfl,rfl,ho⟩,hl⟩
section
variable{prog:Program}{w:World}{A:Around}{E:Value→Shared→Prop}{s:Shared}{K:Frag}{x dx C f:Addr}{mA:Str→Option Value}{name:Str}{v:Value}
end
theorem yh4.some_of{v:V}{o:Option Value}(r:yh4 (some v) o):∃u,o=some u∧RelV v u:=by
 cases o with
 |none=>exact (show False from r).elim
 |some u=>exact⟨u,rfl,r⟩
section
variable{P:Program}{w:World}{H H':Hp}{h h':Heap}{a C dx:Addr}{fs fs':List (Str×V)}
theorem yP7(hok:HOk P w H h)(e:H a=some (.ins C dx fs)):∃mA,xn0 h a dx C mA∧(∀f,yh4 (fs.lookup f) (mA f))∧PySem.Within mA (fs.map (·.1))∧fs.length≤1000∧H dx=some (.own a):=by
 obtain⟨d,z,ne,ob,mA,n,r,q⟩:=(show zl8 P w H h a (.ins C dx fs)from hok a _ e)
 exact⟨mA,⟨ob,n,ne⟩,r,q,z,d⟩
end
structure Cls(K:Frag)(C:Addr):Prop where
 pg:PySem.W.plainGet K C Str.empty=true
 hd:PySem.W.hasDictIn K C=true
 po:PySem.W.plainOver K C=true
 sa:PySem.W.findIn K (.ref C) "__setattr__" = some (some (.builtin "object.__setattr__"))
theorem Cls.get{K:Frag}{C:Addr}(c:Cls K C)(f:Str):PySem.W.plainGet K C f=true:=c.pg
section
variable{X:Cx}{pins:List (Addr×Obj)}{σ:St}{H:Hp}{s:Shared}{a C dx:Addr}{fs:List (Str×V)}{f:Str}{v:V}{A:Around}{E:Value→Shared→Prop}
end
section
variable{X:Cx}{o e value:Expr}{f:Str}{pos pos' tpos:Pos}{ta tv:TE}
end
section
variable{X:Cx}{pins:List (Addr×Obj)}{σ:St}{H:Hp}{s:Shared}{A:Around}{E:Value→Shared→Prop}{Q:Value→Shared→Prop}{c:Value}{b:Bool}
inductive yi7(K:Frag)(H:Hp):V→Value→Prop where
 |non:yi7 K H .non (.type "NoneType")
 |bl (x:Bool):yi7 K H (.bl x) (.type "bool")
 |int (i:Int):yi7 K H (.int i) (.type "int")
 |str (x:Str):yi7 K H (.str x) (.type "str")
 |flt (x:UInt64):yi7 K H (.flt x) (.type "float")
 |lst {a:Addr} {xs:List V} (e:H a=some (.lst xs)):yi7 K H (.ref a) (.type "list")
 |frz {a:Addr} {o:Obj} {xs:List V} (e:H a=some (.frz o (.lst xs))):yi7 K H (.ref a) (.type "list")
 |tup {a:Addr} {xs:List V} (e:H a=some (.tup xs)):yi7 K H (.ref a) (.type "tuple")
 |dK {a:Addr} {kvs:List (Key×V)} (e:H a=some (.dK kvs)):yi7 K H (.ref a) (.type "dict")
 |dT {a:Addr} {kvs:List (List Key×V)} (e:H a=some (.dT kvs)):yi7 K H (.ref a) (.type "dict")
 | ins {a C dx:Addr} {fs:List (Str×V)} (e:H a=some (.ins C dx fs)) (cl:Cls K C) (ha:PySem.W.findIn K (.ref C) "__class__" = some (some (.builtin "object.__class__")))
   (hn:PySem.W.specialIn K (.builtin "object.__class__") "__get__" = some (some (.builtin "getset_descriptor.__get__"))) (htk:PySem.W.takesIn K (.builtin "object.__class__")=some true)
   (hm:PySem.W.mroIn K C (.type "object")=some true):yi7 K H (.ref a) (.ref C)
theorem zx8{x:V}{u t:Value}(I:Inv X pins σ H s)(rx:RelV x u)(ty:yi7 X.K H x t)(e:PySem.W.kitOne X.K t c=some b)(h:∀tk,Q (.bool b) { s with toks:=tk }):
  wpAny (model X.prog X.w) A (call (.builtin "isinstance") [u,c]) Q E s:=by
 cases ty with
 |non=>cases (show u=Value.none from rx);exact PySem.W.kia_one PySem.W.kitx_none I.kIn True.intro e (fun z=>nomatch z) h
 |bl y=>cases (show u=Value.bool y from rx);exact PySem.W.kia_one PySem.W.kitx_bool I.kIn True.intro e (fun z=>nomatch z) h
 |int i=>obtain⟨t,q⟩:=(show ∃t,u=Value.int i t from rx);cases q;exact PySem.W.kia_one PySem.W.kitx_int I.kIn True.intro e (fun z=>nomatch z) h
 |str y=>obtain⟨t,q⟩:=(show ∃t,u=Value.str y t from rx);cases q;exact PySem.W.kia_one PySem.W.kitx_str I.kIn True.intro e (fun z=>nomatch z) h
 |flt y=>obtain⟨t,q⟩:=(show ∃t,u=Value.float y t from rx);cases q;exact PySem.W.kia_one PySem.W.kitx_float I.kIn True.intro e (fun z=>nomatch z) h
 | @lst a xs ea =>
  cases (show u=Value.ref a from rx)
  obtain⟨_,_,n,_,h1⟩:=(show zl8 X.prog X.w H s.heap a (.lst xs)from I.hok a _ ea)
  exact PySem.W.kia_one PySem.W.kitx_list I.kIn ⟨_,h1,rfl⟩ e (fun z=>nomatch z) h
 | @frz a ob xs ea =>
  cases (show u=Value.ref a from rx)
  obtain⟨_,_,_,n,_,h1⟩:=(show zl8 X.prog X.w H s.heap a (.frz ob (.lst xs))from I.hok a _ ea)
  exact PySem.W.kia_one PySem.W.kitx_list I.kIn ⟨_,h1,rfl⟩ e (fun z=>nomatch z) h
 | @tup a xs ea =>
  cases (show u=Value.ref a from rx)
  obtain⟨_,_,_,p⟩:=(show zl8 X.prog X.w H s.heap a (.tup xs)from I.hok a _ ea)
  obtain⟨o,h1,h2,_⟩:=p
  exact PySem.W.kia_one PySem.W.kitx_tuple I.kIn ⟨o,h1,h2⟩ e (fun z=>nomatch z) h
 | @dK a kvs ea =>
  cases (show u=Value.ref a from rx)
  obtain⟨_,_,vs,_,p⟩:=(show zl8 X.prog X.w H s.heap a (.dK kvs)from I.hok a _ ea)
  obtain⟨o,es,ep,h1,h2,_⟩:=p
  exact PySem.W.kia_one PySem.W.kitx_dict I.kIn ⟨o,h1,h2.1⟩ e (fun z=>nomatch z) h
 | @dT a kvs ea =>
  cases (show u=Value.ref a from rx)
  obtain⟨_,_,xs,_,o,es,ep,h1,h2,_⟩:=(show zl8 X.prog X.w H s.heap a (.dT kvs)from I.hok a _ ea)
  exact PySem.W.kia_one PySem.W.kitx_dict I.kIn ⟨o,h1,h2.1⟩ e (fun z=>nomatch z) h
 | @ins a C dx fs ea cl ha hn htk hm =>
  cases (show u=Value.ref a from rx)
  obtain⟨mA,O,_⟩:=yP7 I.hok ea
  obtain⟨od,J,_⟩:=O.look
  exact PySem.W.kia_one (PySem.W.kitx_own (cl.get _) cl.hd ha hn htk hm) I.kIn J e (fun z=>nomatch z) h
end
structure zo2(k:Nat)(A:Around):Prop where
 hd:A.handled=none
 dp:A.depth+3*k+5<recursionLimit
 un:A.units+16*k+200<cLine
 gd:A.guards=some []
theorem zo2.deeper{k:Nat}{A:Around}(r:zo2 (k+1) A)(env:Env):zo2 k (A.deeper env) :=
 ⟨r.hd,by have:=r.dp;show A.depth+1+3*k+5<_;lia,by have:=r.un;show A.units+3+16*k+200<_;lia,r.gd⟩
theorem zo2.depth{k:Nat}{A:Around}(r:zo2 k A):A.depth<recursionLimit:=by have:=r.dp;lia
noncomputable def tNil:TA:=fun _ H Q=>Q [] H
noncomputable def xp7(ta:TE)(tr:TA):TA:=fun σ H Q=>ta σ H fun x H1=>tr σ H1 fun xs H2=>Q (x::xs) H2
section
variable{X:Cx}{e:Expr}{es:List Expr}{te:TE}{t:TA}{pos:Pos}
theorem yG2:PA X [] tNil:=fun _ _ _ _ H Q I h=>Calls.spliced_nil ⟨[],H,I,.nil,h⟩
theorem zV3(ha:PE X e te)(hr:PA X es t)(hs:starEach (e::es) X.env=(false,eval e X.env)::starEach es X.env):PA X (e::es) (xp7 te t):=by
 intro pos pins s σ H Q I h
 rw[hs]
 show wpAny _ _ (spliced ((false,eval e X.env)::backTo pos (starEach es X.env))) _ _ s
 refine Calls.spliced_cons (thn (ha pins s σ H _ I h) fun u s1 h_=>?_)
 obtain⟨x,H1,I1,r1,q1⟩:=h_
 exact thn (hr pos pins s1 σ H1 _ I1 q1) fun us s2 ⟨xs,H2,I2,r2,q2⟩=>⟨x::xs,H2,I2,.cons r1 r2,q2⟩
noncomputable def tTup(t:TA):TE:=fun σ H Q=>t σ H fun xs H1=>xs.length≤sizeLine∧∀p,H1 p=none→Q (.ref p) (upd H1 p (.tup xs))
noncomputable def tLst(t:TA):TE:=fun σ H Q=>t σ H fun xs H1=>xs.length≤sizeLine∧∀p,H1 p=none→Q (.ref p) (upd H1 p (.lst xs))
theorem xc6{x1}(h:PA X es t):PE X (.Tuple es x1 pos) (tTup t):=by
 intro pins s σ H Q I hq
 refine wpAny_Tuple_spliced (thn (h pos pins s σ H _ I hq) fun us s1 ⟨xs,H1,I1,r,z,q⟩=>⟨by rw[←r.length];exact z,?_⟩)
 have hf:H1 s1.heap.objs.size=none:=I1.hok.fresh (Nat.le_refl _)
 refine⟨.ref s1.heap.objs.size,upd H1 s1.heap.objs.size (.tup xs),I1.laid (t':=s1.toks) (fun b u e=>Heap.get?_push_of_some _ e) (Nat.le_refl _) ?_,rfl,q _ hf⟩
 exact⟨z,us,r,⟨_,Heap.get?_push_size _ rfl,rfl,rfl,_,rfl⟩⟩
theorem yY0(h:PA X es t):PE X (.List es pos) (tLst t):=by
 intro pins s σ H Q I hq
 refine wpAny_List_spliced (thn (h pos pins s σ H _ I hq) fun us s1 ⟨xs,H1,I1,r,z,q⟩=>⟨by rw[←r.length];exact z,?_⟩)
 have hf:H1 s1.heap.objs.size=none:=I1.hok.fresh (Nat.le_refl _)
 refine⟨.ref s1.heap.objs.size,upd H1 s1.heap.objs.size (.lst xs),I1.laid (t':=s1.toks) (fun b u e=>Heap.get?_push_of_some _ e) (Nat.le_refl _) ?_,rfl,q _ hf⟩
 exact⟨z,us,0,r,Heap.get?_push_size _ rfl⟩
end
noncomputable abbrev Sp:=List V→Hp→VK→XK→Prop
noncomputable abbrev CXT:=List Env→Hp→Shared→XK→Value→Shared→Prop
structure xk4(P:Program)(w:World)(K:Frag)(mg:Str→Option Value)(base:Heap)(A:Around)(outer:List Env)(s:Shared)(H:Hp):Prop where
 frames:A.frames=some outer
 mod:Mod K mg base
 bs:∀b o,base.get? b=some o→s.heap.get? b=some o∧H b=none
 bsz:base.objs.size≤s.heap.objs.size
 funs:s.heap.FunFrames base outer
 frf:∀b∈frs outer,H b=none
 hok:HOk P w H s.heap
 bare:AllBare s.gens
def CE(outer:List Env)(P:Program)(w:World)(H:Hp)(s:Shared)(Q:VK)(u:Value)(s':Shared):Prop :=
 ∃v H',s'.os=s.os∧AllBare s'.gens∧Un (frs outer) [] H H' s.heap s'.heap∧HOk P w H' s'.heap∧RelV v u∧Q v H'
def CR(CX:CXT)(outer:List Env)(P:Program)(w:World)(H:Hp)(s:Shared)(Q:VK)(E:XK)(r:Result)(s':Shared):Prop :=
 match r with
 |.ok (.ret u)=>CE outer P w H s Q u s'
 |.ok _=>False
 |.error e=>CX outer H s E e s'
structure zq2(P:Program)(w:World)(K:Frag)(mg:Str→Option Value)(base:Heap)(CX:CXT)(k:Nat)(f:Addr)(fd:FuncData)(ps:List Str)(sp:Sp):Prop where
 len:∀vs H Q E,sp vs H Q E→vs.length=ps.length
 run:∀(A:Around) (outer:List Env) (s:Shared) (H:Hp) (args:Args) (us:List Value) (vs:List V) (Q:VK) (E:XK),zo2 k A→xk4 P w K mg base A outer s H→BindsTo s fd args (ps.zip us)→zi9 vs us→sp vs H Q E →
  codeAny (model P w) A (.call (.ref f) args) (CR CX outer P w H s Q E) s
section
variable{X:Cx}{pins:List (Addr×Obj)}{σ:St}{H:Hp}{s s':Shared}
theorem Inv.env0(I:Inv X pins σ H s):xk4 X.prog X.w X.K X.mg X.base X.A X.stack s H :=
 ⟨I.ok.frames,I.ok.mod,I.bs,Nat.le_trans I.ok.bsz I.sz,I.stack,I.stkFree,I.hok,I.bare⟩
theorem Inv.after{Q:VK}{u:Value}(I:Inv X pins σ H s)(h:CE X.stack X.prog X.w H s Q u s'):EP X pins σ Q u s':=by
 obtain⟨v,H',os,bare,un,hok,r,q⟩:=h
 obtain⟨hh,g,d,t,os'⟩:=s'
 obtain rfl:os'=s.os:=os
 exact⟨v,H',I.call (h':=hh) (g':=g) (d':=d) (t':=t) (ch:=[]) un hok bare (fun b z=>absurd z (by simp)),r,q⟩
end
noncomputable def xu4(sp:Sp)(dvs:List V)(E:XK)(t:TA):TE:=fun σ H Q=>t σ H fun vs H1=>sp (vs++dvs) H1 Q E
def Binds(K:Frag)(fd:FuncData)(ps:List Str)(ds:List Value):Prop :=
 ∀(s:Shared) (us:List Value),K.In s.heap→(us++ds).length=ps.length→BindsTo s fd ⟨us,[]⟩ (ps.zip (us++ds))
theorem Binds.all{K:Frag}{fd:FuncData}{ps:List Str}(h:∀us:List Value,us.length=ps.length→bindArgs fd ⟨us,[]⟩=pure (ps.zip us)):Binds K fd ps []:=fun s us _ hl=>by
 rw[List.append_nil]at hl ⊢
 exact .of_eq (h us hl)
def yj6(CX:CXT)(X:Cx)(E:XK):Prop:=∀(pins:List (Addr×Obj)) (σ:St) (H:Hp) (s:Shared) (e:Value) (s':Shared),Inv X pins σ H s→CX X.stack H s E e s'→X.xe e s'
section
variable{X:Cx}{CX:CXT}{k:Nat}{f C:Addr}{fd:FuncData}{ps:List Str}{sp:Sp}{dvs:List V}{ds:List Value}{E:XK}{x m:Str}{p pos apos:Pos}{e o:Expr}{es:List Expr}{ta:TE}{t:TA}
theorem yY1{pins:List (Addr×Obj)}{σ:St}{H:Hp}{s:Shared}{Q:VK}{us:List Value}{vs:List V}(F:zq2 X.prog X.w X.K X.mg X.base CX k f fd ps sp)(hr:zo2 k X.A)(hb:Binds X.K fd ps ds)(hd:zi9 dvs ds)(hx:yj6 CX X E)
  (I:Inv X pins σ H s) (r:zi9 vs us) (h:sp (vs++dvs) H Q E):wpAny (model X.prog X.w) X.A (call (.ref f) us) (EP X pins σ Q) X.xe s:=by
 have r2:zi9 (vs++dvs) (us++ds):=r.append hd
 have hl:(us++ds).length=ps.length:=by rw[←r2.length];exact F.len _ _ _ _ h
 refine wpAny_call (codeAny_mono (F.run X.A X.stack s H ⟨us,[]⟩ (us++ds) (vs++dvs) Q E hr I.env0 (hb s us I.kIn hl) r2 h) fun r s' hq=>?_)
 cases r with
 |error e=>exact hx pins σ H s e s' I hq
 | ok fl =>
  cases fl with
  |ret u=>exact I.after hq
  |next=>exact False.elim hq
  |brk=>exact False.elim hq
  |cont=>exact False.elim hq
theorem yP8(F:zq2 X.prog X.w X.K X.mg X.base CX k f fd ps sp)(hr:zo2 k X.A)(hg:Gl X x)(hm:X.mg x=some (.ref f))(hk:keepIn X.K (.ref f)=true)(hb:Binds X.K fd ps ds)(hd:zi9 dvs ds)(hx:yj6 CX X E)
  (ha:PA X (e::es) t) (hdb:(x==("__debug__" : Str))=false) (he:starEach (e::es) X.env=(false,eval e X.env)::starEach es X.env) (hpl:(backTo pos (starEach es X.env)).any (·.1)=false) :
  PE X (.Call (.Name x p) (e::es) [] pos) (xu4 sp dvs E t):=by
 intro pins s σ H Q I h
 refine wpAny_Call_Name_kw (ys6 I hg hm ?_ hdb)
 refine PySem.W.callWith_K (h₀:=X.base) I.ok.mod.kin hk (thn (ha pos pins s σ H _ I h) fun us s1 ⟨vs,H1,I1,r,q⟩=>⟨I1.kIn,?_⟩) he hpl
 exact yY1 F hr hb hd hx I1 r q
end
section
variable{X:Cx}{CX:CXT}{k:Nat}{f C:Addr}{fd:FuncData}{ps ks:List Str}{sp:Sp}{E:XK}{x m:Str}{p pos apos kpos:Pos}{e o:Expr}{es:List Expr}{kws:List Keyword}{te ta:TE}{t tk:TA}{nm:Option Str}
variable{g:List Value→List Value→List Value}{gV:List V→List V→List V}
end
structure zd5(N P:List Str)(sc:Scope):Prop where
 kind:sc.kind=.function
 co:sc.isCoroutine=false
 gen:sc.isGenerator=false
 nd:N.Nodup
 pre:N.take P.length=P
 par:∀x∈P,sc.names.lookup x=some .local∨sc.names.lookup x=some .cell
 nofree:∀y∈sc.names,y.2≠.free
theorem zP3{kindOf:Str→Option NameKind}{x:Str}:∀{binds:List (Str×Value)} {m:Str→Option Value},(∀v,(x,v)∉binds)→bindL kindOf binds m x=m x
 |[],_,_=>rfl
 | (n,v)::r,m,h=>by
  unfold bindL
  rw[zP3 fun w hw=>h w (List.mem_cons_of_mem _ hw)]
  split
  ·have:x≠n:=by rintro rfl;exact h v List.mem_cons_self
   simp[this]
  ·rfl
theorem zQ7{kindOf:Str→Option NameKind}{x:Str}:∀{binds:List (Str×Value)} {m:Str→Option Value},(∀v,(x,v)∉binds)→bindC kindOf binds m x=m x
 |[],_,_=>rfl
 | (n,v)::r,m,h=>by
  unfold bindC
  rw[zQ7 fun w hw=>h w (List.mem_cons_of_mem _ hw)]
  split
  ·rfl
  ·have:x≠n:=by rintro rfl;exact h v List.mem_cons_self
   simp[this]
theorem zQ8{kindOf:Str→Option NameKind}{x:Str}{v:Value}:∀{P:List Str} {vs:List Value} {i:Nat} {m:Str→Option Value},P.Nodup→P[i]?=some x→vs[i]?=some v→kindOf x=some .local →
  bindL kindOf (P.zip vs) m x=some v
 |[],_,_,_,_,h,_,_=>by simp at h
 |_::_,[],_,_,_,_,h,_=>by simp at h
 | p::P,w::vs,0,m,nd,h1,h2,hk=>by
  simp at h1 h2;subst h1;subst h2
  show bindL kindOf ((p,w)::P.zip vs) m p=_
  unfold bindL
  rw[zP3 fun v hv=>(List.nodup_cons.mp nd).1 (List.of_mem_zip hv).1,if_pos hk]
  simp
 | p::P,w::vs,i+1,m,nd,h1,h2,hk=>by
  show bindL kindOf ((p,w)::P.zip vs) m x=_
  unfold bindL
  exact zQ8 (i:=i) (List.nodup_cons.mp nd).2 (by simpa using h1) (by simpa using h2) hk
theorem zR9{kindOf:Str→Option NameKind}{x:Str}{v:Value}:∀{P:List Str} {vs:List Value} {i:Nat} {m:Str→Option Value},P.Nodup→P[i]?=some x→vs[i]?=some v→kindOf x≠some .local →
  bindC kindOf (P.zip vs) m x=some v
 |[],_,_,_,_,h,_,_=>by simp at h
 |_::_,[],_,_,_,_,h,_=>by simp at h
 | p::P,w::vs,0,m,nd,h1,h2,hk=>by
  simp at h1 h2;subst h1;subst h2
  show bindC kindOf ((p,w)::P.zip vs) m p=_
  unfold bindC
  rw[zQ7 fun v hv=>(List.nodup_cons.mp nd).1 (List.of_mem_zip hv).1,if_neg hk]
  simp
 | p::P,w::vs,i+1,m,nd,h1,h2,hk=>by
  show bindC kindOf ((p,w)::P.zip vs) m x=_
  unfold bindC
  exact zR9 (i:=i) (List.nodup_cons.mp nd).2 (by simpa using h1) (by simpa using h2) hk
noncomputable def start(N:List Str)(vs:List V):St:=vs.map some++List.replicate (N.length-vs.length) none
noncomputable def zs8(CX:CXT)(P:Program)(w:World)(K:Frag)(mg:Str→Option Value)(base:Heap)(N:List Str)(qual:Str)(scope:Scope)(f:Addr)(cd:Value)(A:Around)(outer:List Env)(s:Shared)(H:Hp)(E:XK):Cx where
 prog:=P
 w:=w
 K:=K
 mg:=mg
 base:=base
 A:=A.deeper (envOfC qual scope s.heap.objs.size f cd)
 N:=N
 s₀:=s
 H₀:=H
 env:=envOfC qual scope s.heap.objs.size f cd
 outer:=outer
 stack:=envOfC qual scope s.heap.objs.size f cd::outer
 ex:=[]
 calm:=true
 fn:=fun _=>true
 pn:=[]
 xe:=fun e s'=>wpAny (model P w) (A.deeper (envOfC qual scope s.heap.objs.size f cd)) (leaving (envOfC qual scope s.heap.objs.size f cd) e) (fun _ s''=>CX outer H s E e s'') (fun e' s''=>CX outer H s E e' s'') s'
theorem yb4{sc:Scope}{n:Nat}{x:Str}(h:sc.names.lookup x=some .cell):∃c,(cellsFrom n sc.names []).lookup x=some c:=by
 have q:=PySem.W.cellsFrom_some sc.names n [] (.inl h)
 exact Option.isSome_iff_exists.mp q
theorem yk5{CX:CXT}{P:Program}{w:World}{K:Frag}{mg:Str→Option Value}{base:Heap}{N ps:List Str}{qual:Str}{scope:Scope}{f:Addr}{cd:Value}{A:Around}{outer:List Env}{s s1:Shared}{H:Hp}{E:XK}{us:List Value}{vs:List V}
  (S:zd5 N ps scope) (hd:A.handled=none) (e0:xk4 P w K mg base A outer s H) (hl:vs.length=ps.length) (r:zi9 vs us)
  (x:InCallC s s.heap.objs.size (bindL (envOfC qual scope s.heap.objs.size f cd).kindOf (ps.zip us) fun _=>none) (cellsFrom (s.heap.objs.size+1) scope.names []) (bindC (envOfC qual scope s.heap.objs.size f cd).kindOf (ps.zip us) fun _=>none) s1) :
  Inv (zs8 CX P w K mg base N qual scope f cd A outer s H E) [] (start N vs) H s1:=by
 have hpl:ps.length≤N.length:=by have:=congrArg List.length S.pre;rw[List.length_take]at this;lia
 obtain⟨h1,tk,rfl,hk⟩:=x.done
 have noA:∀b:Addr,b∉(zs8 CX P w K mg base N qual scope f cd A outer s H E).ex:=fun b z=>absurd (show b∈([]:List Addr)from z) (by simp)
 refine ⟨⟨e0.mod,S.kind,rfl,rfl,Nat.le_refl _,fun y z c h1 h2=>?_,fun y hy=>?_,fun y c _ h=>?_,fun _=>hd,Around.frames_deeper e0.frames,.inr ⟨rfl,rfl⟩,fun b z=>absurd z (noA b),e0.bs,e0.bsz,fun b _ _=>noA b,fun b z=>absurd z (noA b),e0.funs,e0.frf⟩,
  rfl,e0.bare,Un.kept hk,⟨_,x.toInCall.ns,fun i y v h1 h2 h3=>?_⟩,fun y c h=>⟨_,x.cell y c h⟩,e0.hok.fresh (Nat.le_refl _),fun y c h=>?_,fun p hp=>absurd (show p∈([]:List (Addr×Obj))from hp) (by simp),e0.hok.kept hk,?_⟩
 ·exact name_of_addr x.apart (PySem.mem_of_lookup h1) (PySem.mem_of_lookup h2)
 ·have hy:scope.names.lookup y=some .cell∨scope.names.lookup y=some .free:=hy
  rcases hy with hy |hy
  ·exact yb4 hy
  ·exact absurd rfl (S.nofree _ (PySem.mem_of_lookup hy))
 ·exact Nat.le_of_lt (x.above y c (PySem.mem_of_lookup h))
 ·have hi:i<vs.length:=by
   unfold start at h2
   by_cases hi:i<vs.length
   ·exact hi
   ·rw[List.getElem?_append_right (by simpa using hi)]at h2
    rw[List.getElem?_replicate]at h2
    split at h2 <;> cases h2
  have ha:vs[i]?=some v:=by
   unfold start at h2
   rw[List.getElem?_append_left (by simpa using hi),List.getElem?_map]at h2
   cases e:vs[i]? with
   |none=>rw[e]at h2;cases h2
   |some a=>rw[e]at h2;cases h2;rfl
  obtain⟨u,hu,rv⟩:=r.get ha
  have hp:ps[i]?=some y:=by
   rw[←S.pre,List.getElem?_take_of_lt (by lia)];exact h1
  have ndP:ps.Nodup:=by rw[←S.pre];exact S.nd.sublist (List.take_sublist _ _)
  refine⟨u,rv,?_⟩
  rcases S.par y (List.mem_of_getElem? hp)with k |k
  ·exact .inl ⟨k,zQ8 ndP hp hu k⟩
  ·obtain⟨c,e⟩:=yb4 (n:=s.heap.objs.size+1) k
   refine .inr ⟨.inl k,c,e,?_⟩
   have q:=x.cell y c e
   rw[zR9 ndP hp hu (by show scope.names.lookup y≠_;rw[k];decide)]at q
   exact q
 ·exact e0.hok.fresh (Nat.le_of_lt (x.above y c (PySem.mem_of_lookup h)))
 ·unfold start
  show _=N.length
  rw[List.length_append,List.length_map,List.length_replicate]
  lia
theorem xt1{CX:CXT}{P:Program}{w:World}{K:Frag}{mg:Str→Option Value}{base:Heap}{k:Nat}{f:Addr}{name qual:Str}{params:Arguments}{body:List Stmt}{scope:Scope}{dV kV doc pm cdv ct oc:Value}{an od:Option Addr}
  {osl:Array (Option Value)} {N ps:List Str} {sp:Sp} (lk:K.lookup f=some ⟨oc,od,.func (fnOf name qual params body scope dV kV doc pm an cdv ct),osl⟩) (hcd:codeIn K cdv qual=true) (S:zd5 N ps scope)
  (len:∀vs H Q E,sp vs H Q E→vs.length=ps.length)
  (hbody:∀(A:Around) (outer:List Env) (s:Shared) (H:Hp) (vs:List V) (Q:VK) (E:XK),zo2 k (A.deeper (envOfC qual scope s.heap.objs.size f cdv))→sp vs H Q E →
   ∃t,PSs (zs8 CX P w K mg base N qual scope f cdv A outer s H E) body t∧t { nx:=fun _ H'=>Q .non H',rt:=Q } (start N vs) H) :
  zq2 P w K mg base CX (k+1) f (fnOf name qual params body scope dV kV doc pm an cdv ct) ps sp:=by
 refine⟨len,fun A outer s H args us vs Q E hr e0 hb r hsp=>?_⟩
 have hl:=len _ _ _ _ hsp
 have KX:K.In s.heap:=e0.mod.kin.keeps fun b o e=>(e0.bs b o e).1
 have lim:s.heap.NoLimit:=e0.mod.nolimit.keeps fun b o e=>(e0.bs b o e).1
 have hkind:∀y∈ps.zip us,scope.names.lookup y.1=some .local∨(scope.names.lookup y.1=some .cell∧((cellsFrom (s.heap.objs.size+1) scope.names []).lookup y.1).isSome=true):=fun⟨n,v⟩ hy=>by
  rcases S.par n (List.of_mem_zip hy).1 with q |q
  ·exact .inl q
  ·exact .inr ⟨q,PySem.W.cellsFrom_some _ _ _ (.inl q)⟩
 refine codeAny_call_function hr.depth (KX _ _ lk) rfl S.co S.gen rfl (PySem.W.codeRec_of KX hcd) (hb _ _ _ _ ?_)
 refine wpAny_newFunctionEnv_cells S.kind hkind fun env he s1 x=>?_
 subst he
 refine⟨lim.keeps x.toInCall.keep,codeAny_func ?_⟩
 obtain⟨t,ht,hq⟩:=hbody A outer s H vs Q E (hr.deeper _) hsp
 have I:Inv (zs8 CX P w K mg base N qual scope f cdv A outer s H E) [] (start N vs) H s1:=yk5 S hr.hd e0 hl r x
 refine wpAny_mono (ht [] s1 (start N vs) H _ I hq) (fun fl s' hs=>?_) fun e s' hs=>hs
 have fin:∀{σ':St} {H':Hp} {v:V} {u:Value},Inv (zs8 CX P w K mg base N qual scope f cdv A outer s H E) [] σ' H' s'→RelV v u→Q v H'→CE outer P w H s Q u s' :=
  fun {σ' H' v u} J rv q=>⟨v,H',J.os,J.bare,J.base,J.hok,rv,q⟩
 cases fl with
 | ret u =>
  obtain⟨v,σ',H',J,rv,q⟩:=hs
  exact fin J rv q
 | next =>
  obtain⟨σ',H',J,q⟩:=hs
  exact fin (v:=V.non) (u:=Value.none) J rfl q
 | brk =>
  obtain⟨_,_,_,q⟩:=hs
  exact False.elim q
 | cont =>
  obtain⟨_,_,_,q⟩:=hs
  exact False.elim q
section
variable{X:Cx}{x:Str}{p pos:Pos}{e:Expr}{es:List Expr}{t:TA}{id T:String}{r:List V→Hp→VK→Prop}
noncomputable def tCB(r:List V→Hp→VK→Prop)(t:TA):TE:=fun σ H Q=>t σ H fun vs H1=>r vs H1 Q
theorem yd2(hc:zE9 X (.builtin id) r)(hg:Gl X x)(hm:X.mg x=none)(hv:bootBuiltins x=some (.builtin id))(ha:PA X (e::es) t)(hn:x ≠ "__name__")(hdb:(x==("__debug__" : Str))=false)
  (he:starEach (e::es) X.env=(false,eval e X.env)::starEach es X.env) (hpl:(backTo pos (starEach es X.env)).any (·.1)=false):PE X (.Call (.Name x p) (e::es) [] pos) (tCB r t):=by
 intro pins s σ H Q I h
 refine wpAny_Call_Name_kw (zH0 I hg hm hv ?_ hn hdb)
 exact PyProof.Rows.callWith_builtin1 (thn (ha pos pins s σ H _ I h) fun us s1 ⟨vs,H1,I1,r1,q1⟩=>hc pins s1 σ H1 vs us Q I1 r1 q1) he hpl
theorem yo4(hc:zE9 X (.type T) r)(hg:Gl X x)(hm:X.mg x=none)(hv:bootBuiltins x=some (.type T))(ha:PA X (e::es) t)(hn:x ≠ "__name__")(hdb:(x==("__debug__" : Str))=false)
  (he:starEach (e::es) X.env=(false,eval e X.env)::starEach es X.env) (hpl:(backTo pos (starEach es X.env)).any (·.1)=false):PE X (.Call (.Name x p) (e::es) [] pos) (tCB r t):=by
 intro pins s σ H Q I h
 refine wpAny_Call_Name_kw (zH0 I hg hm hv ?_ hn hdb)
 exact PyProof.Rows.callWith_type1 (thn (ha pos pins s σ H _ I h) fun us s1 ⟨vs,H1,I1,r1,q1⟩=>hc pins s1 σ H1 vs us Q I1 r1 q1) he hpl
end
section
variable{κ:Type}[DecidableEq κ]
noncomputable def yb3(kvs:List (κ×V))(k:κ):Option V:=(kvs.find? fun kv=>decide (kv.1=k)).map (·.2)
noncomputable def zJ7(kvs:List (κ×V))(k:κ)(v:V):List (κ×V) :=
 if (kvs.any fun kv=>decide (kv.1=k))=true then kvs.map (fun kv=>if kv.1=k then (kv.1,v)else kv)else kvs++[(k,v)]
theorem zD7{p:κ×V}{r:List (κ×V)}{k:κ}(e:p.1=k):yb3 (p::r) k=some p.2:=by simp[yb3,List.find?_cons,e]
theorem zz3{p:κ×V}{r:List (κ×V)}{k:κ}(e:¬p.1=k):yb3 (p::r) k=yb3 r k:=by simp[yb3,List.find?_cons,e]
theorem yc8(k:κ):∀kvs:List (κ×V),(kvs.any fun kv=>decide (kv.1=k))=(yb3 kvs k).isSome
 |[]=>rfl
 | p::r=>by
  rw[List.any_cons]
  by_cases e:p.1=k
  ·simp only[zD7 e,decide_eq_true e,Bool.true_or,Option.isSome_some]
  ·rw[zz3 e,decide_eq_false e,Bool.false_or];exact yc8 k r
theorem zx4(kvs:List (κ×V))(k:κ)(v:V):(zJ7 kvs k v).length≤kvs.length+1:=by
 unfold zJ7
 split
 ·rw[List.length_map];lia
 ·rw[List.length_append,List.length_cons,List.length_nil];lia
theorem yh4.isSome_eq{o:Option V}{u:Option Value}(r:yh4 o u):o.isSome=u.isSome:=by
 cases o with
 | none=>cases u with
  |none=>rfl
  |some _=>exact (show False from r).elim
 | some _=>cases u with
  |none=>exact (show False from r).elim
  |some _=>rfl
theorem yh4.getD{o:Option V}{u:Option Value}{d:V}{d':Value}(r:yh4 o u)(rd:RelV d d'):RelV (o.getD d) (u.getD d'):=by
 cases o with
 | none=>cases u with
  |none=>exact rd
  |some _=>exact (show False from r).elim
 | some _=>cases u with
  |none=>exact (show False from r).elim
  |some _=>exact r
theorem KV.val{kvs:List (κ×V)}{vs:List (κ×Value)}(r:KV kvs vs)(k:κ):yh4 (yb3 kvs k) (valueAt vs k):=by
 unfold KV at r
 induction r with
 |nil=>exact True.intro
 | @cons p q ps qs h t ih =>
  obtain⟨h1,h2⟩:=h
  by_cases e:p.1=k
  ·have e':q.1=k:=h1.symm.trans e
   have b:valueAt (q::qs) k=some q.2:=by simp[valueAt,List.find?_cons,e']
   rw[zD7 e,b];exact h2
  ·have e':¬q.1=k:=fun z=>e (h1.trans z)
   have b:valueAt (q::qs) k=valueAt qs k:=by simp[valueAt,List.find?_cons,e']
   rw[zz3 e,b];exact ih
theorem KV.any{kvs:List (κ×V)}{vs:List (κ×Value)}(r:KV kvs vs)(k:κ):(kvs.any fun kv=>decide (kv.1=k))=vs.any fun kv=>decide (kv.1=k):=by
 unfold KV at r
 induction r with
 |nil=>rfl
 |cons h t ih=>rw[List.any_cons,List.any_cons,ih,h.1]
theorem KV.repl{kvs:List (κ×V)}{vs:List (κ×Value)}(r:KV kvs vs)(k:κ){y:V}{u:Value}(ry:RelV y u):
  KV (kvs.map fun kv=>if kv.1=k then (kv.1,y)else kv) (vs.map fun kv=>if kv.1=k then (kv.1,u)else kv):=by
 unfold KV at r ⊢
 induction r with
 |nil=>exact .nil
 | @cons p q ps qs h t ih =>
  rw[List.map_cons,List.map_cons]
  refine .cons ?_ ih
  obtain⟨h1,h2⟩:=h
  by_cases e:p.1=k
  ·rw[if_pos e,if_pos (h1.symm.trans e)];exact⟨h1,ry⟩
  ·rw[if_neg e,if_neg (fun z=>e (h1.trans z))];exact⟨h1,h2⟩
theorem KV.put{kvs:List (κ×V)}{vs:List (κ×Value)}(r:KV kvs vs)(k:κ){y:V}{u:Value}(ry:RelV y u):KV (zJ7 kvs k y) (stored vs k u):=by
 unfold zJ7 stored
 rw[r.any k]
 by_cases e:(vs.any fun kv=>decide (kv.1=k))=true
 ·rw[if_pos e,if_pos e];exact r.repl k ry
 ·rw[if_neg e,if_neg e];exact Paired.snoc r ⟨rfl,ry⟩
theorem KV.length{kvs:List (κ×V)}{vs:List (κ×Value)}(r:KV kvs vs):kvs.length=vs.length:=Paired.length r
end
theorem yo8{P:Program}{w:World}{k:Key}{u:Value}(r:RelV (kV k) u):(zk5 P w).is k u=true:=by
 cases k with
 |inl i=>obtain⟨t,e⟩:=(show ∃t,u=Value.int i t from r);subst e;exact zW8 P w i t
 |inr x=>obtain⟨t,e⟩:=(show ∃t,u=Value.str x t from r);subst e;exact zZ4 P w x t
theorem zP9{P:Program}{w:World}:∀{ks:List Key} {us:List Value},zi9 (ks.map kV) us→ItemsAre (zk5 P w) ks us
 |[],_,r=>by rw[List.map_nil]at r;cases r;exact .nil
 | k::ks,_,r=>by
  rw[List.map_cons]at r
  cases r with
  |cons h t=>exact .cons (yo8 h) (zP9 t)
noncomputable abbrev KT(H:Hp):List (List Key×V)→List (List Key×Addr×Value)→Prop:=Paired fun p q=>p.1=q.1∧Rd H q.2.1 (.tup (p.1.map kV))∧RelV p.2 q.2.2
theorem KT.val{H:Hp}{kvs:List (List Key×V)}{xs:List (List Key×Addr×Value)}(r:KT H kvs xs)(k:List Key):yh4 (yb3 kvs k) ((atKey xs k).map (·.2)):=by
 induction r with
 |nil=>exact True.intro
 | @cons p q ps qs h t ih =>
  obtain⟨h1,_,h2⟩:=h
  by_cases e:p.1=k
  ·have e':q.1=k:=h1.symm.trans e
   have b:atKey (q::qs) k=some q.2:=by simp[atKey,List.find?_cons,e']
   rw[zD7 e,b];exact h2
  ·have e':¬q.1=k:=fun z=>e (h1.trans z)
   have b:atKey (q::qs) k=atKey qs k:=by simp[atKey,List.find?_cons,e']
   rw[zz3 e,b];exact ih
theorem KT.repl{H:Hp}{kvs:List (List Key×V)}{xs:List (List Key×Addr×Value)}(r:KT H kvs xs)(k:List Key){y:V}{u:Value}(ry:RelV y u):
  KT H (kvs.map fun kv=>if kv.1=k then (kv.1,y)else kv) (xs.map (putAt k u)):=by
 induction r with
 |nil=>exact .nil
 | @cons p q ps qs h t ih =>
  rw[List.map_cons,List.map_cons]
  refine .cons ?_ ih
  obtain⟨h1,h2,h3⟩:=h
  unfold putAt
  by_cases e:p.1=k
  ·rw[if_pos e,if_pos (h1.symm.trans e)];exact⟨h1,h2,ry⟩
  ·rw[if_neg e,if_neg (fun z=>e (h1.trans z))];exact⟨h1,h2,h3⟩
theorem KT.put{H:Hp}{kvs:List (List Key×V)}{xs:List (List Key×Addr×Value)}(r:KT H kvs xs)(k:List Key){b:Addr}{y:V}{u:Value}(hb:Rd H b (.tup (k.map kV)))(ry:RelV y u):
  KT H (zJ7 kvs k y) (storedH xs k b u):=by
 have e:(kvs.any fun kv=>decide (kv.1=k))=(atKey xs k).isSome:=by
  rw[yc8,(r.val k).isSome_eq,Option.isSome_map]
 unfold zJ7 storedH
 rw[e]
 by_cases q:(atKey xs k).isSome=true
 ·rw[if_pos q,if_pos q];exact r.repl k ry
 ·rw[if_neg q,if_neg q];exact Paired.snoc r ⟨rfl,hb,ry⟩
theorem KT.keeps{H H':Hp}{kvs:List (List Key×V)}{xs:List (List Key×Addr×Value)}(r:KT H kvs xs)(ht:∀b ys,Rd H b (.tup ys)→Rd H' b (.tup ys)):KT H' kvs xs :=
 Paired.mapP r fun _ _ z=>⟨z.1,ht _ _ z.2.1,z.2.2⟩
section
variable{P:Program}{w:World}{H:Hp}{h:Heap}{a:Addr}
theorem yO3{u:HO}(ok:HOk P w H h)(e:Rd H a u):zl8 P w H h a u:=e.ok ok
theorem ym1{kvs:List (Key×V)}(ok:HOk P w H h)(e:Rd H a (.dK kvs)):kvs.length≤sizeLine∧(a==sysModules)=false∧∃vs,KV kvs vs∧h.DictOf (zk5 P w) a vs :=
 show zl8 P w H h a (.dK kvs)from yO3 ok e
theorem xd2{kvs:List (Key×V)}(ok:HOk P w H h)(e:H a=some (.dK kvs)):kvs.length≤sizeLine∧(a==sysModules)=false∧∃vs,KV kvs vs∧h.DictOf (zk5 P w) a vs:=ym1 ok (.inl e)
theorem zZ5{ks:List Key}(ok:HOk P w H h)(e:Rd H a (.tup (ks.map kV))):(tupleKind (zk5 P w)).is h ks a:=by
 obtain⟨_,its,r,o,h1,h2,_,n,h3⟩:=(show zl8 P w H h a (.tup (ks.map kV))from yO3 ok e)
 exact⟨o,its.toArray,n,h1,h2,h3,by simpa using zP9 r⟩
theorem ys9{kvs:List (List Key×V)}(ok:HOk P w H h)(e:Rd H a (.dT kvs)):kvs.length≤sizeLine∧(a==sysModules)=false ∧
  ∃xs,KT H kvs xs∧h.DictOfH (tupleKind (zk5 P w)) a xs:=by
 obtain⟨z,y,xs,r,o,es,ep,h1,h2,h3,h4,h5⟩:=(show zl8 P w H h a (.dT kvs)from yO3 ok e)
 refine⟨z,y,xs,r,o,es,ep,h1,h2,h3,h4,fun x hx=>?_,h5⟩
 have all:∀{l:List (List Key×V)} {m:List (List Key×Addr×Value)},KT H l m→∀x∈m,(tupleKind (zk5 P w)).is h x.1 x.2.1:=by
  intro l m q
  induction q with
  |nil=>intro x hx;exact nomatch hx
  | @cons p q ps qs hq t ih =>
   intro x hx
   rcases List.mem_cons.mp hx with e |hx
   ·subst e
    exact zZ5 ok (by rw[←hq.1];exact hq.2.1)
   ·exact ih x hx
 exact all r x hx
theorem xs1{kvs:List (List Key×V)}(ok:HOk P w H h)(e:H a=some (.dT kvs)):kvs.length≤sizeLine∧(a==sysModules)=false ∧
  ∃xs,KT H kvs xs∧h.DictOfH (tupleKind (zk5 P w)) a xs:=ys9 ok (.inl e)
end
def yw8(H:Hp)(a:Addr)(y:V)(r:Option V):Prop :=
 (∃kvs k,Rd H a (.dK kvs)∧y=kV k∧r=yb3 kvs k)∨∃kvs k b,Rd H a (.dT kvs)∧y=.ref b∧Rd H b (.tup (k.map kV))∧r=yb3 kvs k
def xe0(H:Hp)(a:Addr)(y v:V)(H':Hp):Prop :=
 (∃kvs k,H a=some (.dK kvs)∧y=kV k∧kvs.length<sizeLine∧H'=upd H a (.dK (zJ7 kvs k v))) ∨
 ∃kvs k b,H a=some (.dT kvs)∧y=.ref b∧Rd H b (.tup (k.map kV))∧kvs.length<sizeLine∧H'=upd H a (.dT (zJ7 kvs k v))
theorem yw8.k{H:Hp}{a:Addr}{kvs:List (Key×V)}{k:Key}(e:H a=some (.dK kvs)):yw8 H a (kV k) (yb3 kvs k):=.inl ⟨kvs,k,.inl e,rfl,rfl⟩
theorem xe0.k{H:Hp}{a:Addr}{kvs:List (Key×V)}{k:Key}{v:V}(e:H a=some (.dK kvs))(hl:kvs.length<sizeLine):xe0 H a (kV k) v (upd H a (.dK (zJ7 kvs k v))):=.inl ⟨kvs,k,e,rfl,hl,rfl⟩
section
variable{X:Cx}{pins:List (Addr×Obj)}{σ:St}{H:Hp}{s:Shared}{a:Addr}{y v:V}{u r:Value}{o:Option V}{A:Around}{E:Value→Shared→Prop}
theorem Inv.big(I:Inv X pins σ H s):sysModules<s.heap.objs.size:=by
 have h:mainGlobals<s.heap.objs.size:=(I.mod.glob.keeps I.bk).lt
 exact Nat.lt_trans (by decide) h
theorem yp7{Q:Value→Shared→Prop}(hu:A.units+1<cLine)(I:Inv X pins σ H s)(g:yw8 H a y (some v))(ry:RelV y u)(h:∀w' s',Inv X pins σ H s'→RelV v w'→Q w' s'):
  wpAny (model X.prog X.w) A (getItem (.ref a) u) Q E s:=by
 rcases g with⟨kvs,k,e,ey,l⟩|⟨kvs,k,b,e,ey,eb,l⟩
 ·subst ey
  obtain⟨z,hd,vs,rel,dd⟩:=ym1 I.hok e
  obtain⟨w',hw,rw'⟩:=yh4.some_of (v:=v) (o:=valueAt vs k) (by rw[l];exact rel.val k)
  exact wpAny_getItem_of (yo8 ry) dd.mapOf hw (h w' _ (I.tok _) rw')
 ·subst ey
  cases (show u=Value.ref b from ry)
  obtain⟨z,hd,xs,rel,dd⟩:=ys9 I.hok e
  obtain⟨w',hw,rw'⟩:=yh4.some_of (v:=v) (o:=(atKey xs k).map (·.2)) (by rw[l];exact rel.val k)
  obtain⟨p,hp,hp2⟩:=Option.map_eq_some_iff.mp hw
  refine wpAny_getItem_heap (tupleKind_room_in1 hu) (zZ5 I.hok eb) dd hp ?_
  rw[hp2]
  exact h w' _ (I.tok _) rw'
theorem zZ0{h':Heap}{t':Nat}{ob:HO}(I:Inv X pins σ H s)(mu:Mut (H a))(hs:Heap.SameBut a s.heap h')(he:∃q,h'.get? a=some q)(new:zl8 X.prog X.w (upd H a ob) h' a ob):
  Inv X pins σ (upd H a ob) { s with heap:=h',toks:=t' } :=
 I.write (x:=a) (e:=a) mu (.inl rfl) (fun b q hb z=>(hs.2 b hb).trans z) he new
theorem yF4{P:Program}{w:World}{H':Hp}{h':Heap}{kvs:List (Key×V)}{vs:List (Key×Value)}(z:kvs.length≤sizeLine)(hd:(a==sysModules)=false)(rel:KV kvs vs)(dd:h'.DictOf (zk5 P w) a vs):
  zl8 P w H' h' a (.dK kvs):=⟨z,hd,vs,rel,dd⟩
theorem ys1{H':Hp}{Q:Unit→Shared→Prop}(hu:A.units+1<cLine)(I:Inv X pins σ H s)(g:xe0 H a y v H')(ry:RelV y u)(rv:RelV v r)(h:∀s',Inv X pins σ H' s'→Q () s'):
  wpAny (model X.prog X.w) A (setItem (.ref a) u r) Q E s:=by
 rcases g with⟨kvs,k,e,ey,l,eH⟩|⟨kvs,k,b,e,ey,eb,l,eH⟩
 ·subst ey eH
  obtain⟨z,hd,vs,rel,dd⟩:=xd2 I.hok e
  have hz:vs.length≤sizeLine:=by rw[←rel.length];exact z
  have hl:(zJ7 kvs k v).length≤sizeLine:=by have:=zx4 kvs k v;lia
  refine wpAny_setItem_pairs (hsz:=hz) (yo8 ry) dd fun h' dd' hs=>h _ ?_
  have he:∃q,h'.get? a=some q:=let⟨q,_,_,hq,_⟩:=dd';⟨q,hq⟩
  exact zZ0 I (by rw[e];exact True.intro) hs he (yF4 hl hd (rel.put k rv) dd')
 ·subst ey eH
  cases (show u=Value.ref b from ry)
  obtain⟨z,hd,xs,rel,dd⟩:=xs1 I.hok e
  have hz:xs.length≤sizeLine:=by rw[←Paired.length rel];exact z
  have hl:(zJ7 kvs k v).length≤sizeLine:=by have:=zx4 kvs k v;lia
  refine wpAny_setItem_heap (hsz:=hz) (tupleKind_room_in1 hu) (zZ5 I.hok eb) dd fun h' dd' hs=>h _ ?_
  obtain⟨q,es,ep,hq,h2,h3,h4,_,h5⟩:=dd'
  refine zZ0 I (by rw[e];exact True.intro) hs ⟨q,hq⟩ ⟨hl,hd,_,(rel.put k eb rv).keeps fun c ys ec=>?_,q,es,ep,hq,h2,h3,h4,h5⟩
  exact ec.past fun z=>by subst z;rcases ec with r |⟨_,r⟩ <;> rw[e]at r <;> cases r
end
section
variable{X:Cx}{pins:List (Addr×Obj)}{σ:St}{H:Hp}{s:Shared}{a:Addr}{kvs:List (Key×V)}{k:Key}{u:Value}{A:Around}{E:Value→Shared→Prop}
end
theorem zX4{X:Cx}{pins:List (Addr×Obj)}{σ:St}{H:Hp}{s:Shared}{a:Addr}{y:V}{o:Option V}(I:Inv X pins σ H s)(g:yw8 H a y o):s.TypeIs (.ref a) "dict" := by
 rcases g with⟨kvs,k,e,_,_⟩|⟨kvs,k,b,e,_,_,_⟩
 ·obtain⟨_,_,vs,_,dd⟩:=ym1 I.hok e
  exact dd.typeIs
 ·obtain⟨_,_,xs,_,dd⟩:=ys9 I.hok e
  exact dd.typeIs
section
variable{X:Cx}{o i e value:Expr}{pos pos' tpos:Pos}{td ty tv:TE}
end
theorem yv4{P:Program}{w:World}{H:Hp}(h:Heap)(hb:sysModules<h.objs.size):zl8 P w H (h.push { cls:=.type "dict", data:=.dict #[] }) h.objs.size (.dK []) :=
 ⟨Nat.zero_le _,beq_eq_false_iff_ne.mpr (Ne.symm (Nat.ne_of_lt hb)),[],.nil,Heap.DictOf.new h⟩
section
variable{X:Cx}{pos:Pos}
end
def yb9:List (TE×TE)→St→Hp→(List (V×V)→Hp→Prop)→Prop
 |[],_,H,Q=>Q [] H
 |(tk,tv)::r,σ,H,Q=>tk σ H fun x H1=>tv σ H1 fun y H2=>yb9 r σ H2 fun ps H3=>Q ((x,y)::ps) H3
noncomputable abbrev VV:List (V×V)→List (Value×Value)→Prop:=Paired fun p q=>RelV p.1 q.1∧RelV p.2 q.2
def PPs(X:Cx)(pos:Pos)(keys:List (Option Expr))(values:List Expr)(trs:List (TE×TE)):Prop :=
 ∀ (pins:List (Addr×Obj)) (s:Shared) (σ:St) (H:Hp) (Q:List (V×V)→Hp→Prop),Inv X pins σ H s→yb9 trs σ H Q →
  wpAny (model X.prog X.w) X.A (evalPairs (pairTrees keys values X.env pos)) (fun vs s'=>∃ps H',Inv X pins σ H' s'∧VV ps vs∧Q ps H') X.xe s
theorem yL3{X:Cx}{pos:Pos}:PPs X pos [] [] []:=fun pins s σ H Q I h=>pairTrees_nil_walk ⟨[],H,I,.nil,h⟩
theorem yB5{X:Cx}{pos:Pos}{k v:Expr}{ks:List (Option Expr)}{vs:List Expr}{tk tv:TE}{trs:List (TE×TE)}(hk:PE X k tk)(hv:PE X v tv)(hr:PPs X pos ks vs trs):
  PPs X pos (some k::ks) (v::vs) ((tk,tv)::trs):=fun pins s σ H Q I h =>
 pairTrees_cons_walk (thn (hk pins s σ H _ I h) fun u s1 ⟨x,H1,I1,rx,q1⟩=>thn (hv pins s1 σ H1 _ I1 q1) fun w2 s2 ⟨y,H2,I2,ry,q2⟩ =>
  thn (hr pins s2 σ H2 _ I2 q2) fun ws s3 ⟨ps,H3,I3,rel,q3⟩=>⟨(x,y)::ps,H3,I3,.cons ⟨rx,ry⟩ rel,q3⟩)
noncomputable def zB9(kvs more:List (Key×V)):List (Key×V):=more.foldl (fun acc kv=>zJ7 acc kv.1 kv.2) kvs
theorem KV.merge:∀{more:List (Key×V)} {rs:List (Key×Value)} {kvs:List (Key×V)} {vs:List (Key×Value)},KV more rs→KV kvs vs→KV (zB9 kvs more) (merged vs rs):=by
 intro more rs kvs vs r
 unfold KV at r
 induction r generalizing kvs vs with
 |nil=>intro q;exact q
 | @cons p q ps qs h t ih =>
  intro r0
  have e:KV (zJ7 kvs p.1 p.2) (stored vs q.1 q.2):=by
   have:=r0.put p.1 h.2
   rw[←h.1];exact this
  exact ih e
theorem zy2:∀(more kvs:List (Key×V)),(zB9 kvs more).length≤kvs.length+more.length
 |[],kvs=>by show kvs.length≤kvs.length+0;lia
 | p::r,kvs=>by
  have h1:=zy2 r (zJ7 kvs p.1 p.2)
  have h2:=zx4 kvs p.1 p.2
  show (zB9 (zJ7 kvs p.1 p.2) r).length≤_
  rw[List.length_cons];lia
theorem zK7{P:Program}{w:World}:∀{kvs:List (Key×V)} {ws:List (Value×Value)},VV (kvs.map fun kv=>(kV kv.1,kv.2)) ws→∃rs,Carries (zk5 P w) ws rs∧KV kvs rs
 |[],_,r=>by rw[List.map_nil]at r;cases r;exact⟨[],True.intro,.nil⟩
 | p::kvs,_,r=>by
  rw[List.map_cons]at r
  cases r with
  | @cons a b as bs h t =>
   obtain⟨rs,c,q⟩:=zK7 (P:=P) (w:=w) t
   obtain⟨b1,b2⟩:=b
   exact⟨(p.1,b2)::rs,⟨yo8 h.1,rfl,c⟩,.cons ⟨rfl,h.2⟩ q⟩
structure M2(X:Cx)(o:Expr)(m:Str)(apos:Pos)(e f:Expr)(cpos:Pos):Prop where
 base:attributeBase o m X.env (eval o X.env)=eval o X.env
 few:((backTo cpos (starEach [e,f] X.env)).all (fun x=>!x.1)&&(backToKw cpos (keywordEach [] X.env)).all (fun x=>x.1.isSome)
  && decide (([e,f]:List Expr).length+([]:List Keyword).length+(if ([]:List Keyword).isEmpty then 0 else 1)<30))=true
 line:(apos.endLine==cpos.line)=true
 trees:backTo cpos (starEach [e,f] X.env)=[(false,eval e X.env),(false,eval f X.env)]
def IsD(H:Hp)(a:Addr):Prop:=(∃kvs,Rd H a (.dK kvs))∨∃kvs,Rd H a (.dT kvs)
theorem xi4{X:Cx}{pins:List (Addr×Obj)}{σ:St}{H:Hp}{s:Shared}{a:Addr}(I:Inv X pins σ H s)(d:IsD H a):
  s.TypeIs (.ref a) "dict" ∧ (∀b,Value.ref a=.ref b→∃ob,s.heap.get? b=some ob∧ob.dict=none)∧(a==sysModules)=false:=by
 rcases d with⟨kvs,e⟩|⟨kvs,e⟩
 ·obtain⟨_,hd,vs,_,dd⟩:=ym1 I.hok e
  refine⟨dd.typeIs,fun b q=>?_,hd⟩
  cases q
  obtain⟨ob,_,_,h1,h2,_⟩:=dd
  exact⟨ob,h1,h2.2.1⟩
 ·obtain⟨_,hd,xs,_,dd⟩:=ys9 I.hok e
  refine⟨dd.typeIs,fun b q=>?_,hd⟩
  cases q
  obtain⟨ob,_,_,h1,h2,_⟩:=dd
  exact⟨ob,h1,h2.2.1⟩
section
variable{X:Cx}{pins:List (Addr×Obj)}{σ:St}{H:Hp}{s:Shared}{a:Addr}{y d:V}{u r:Value}{o:Option V}{A:Around}{E:Value→Shared→Prop}
theorem xb4{Q:Value→Shared→Prop}(hu:A.units+1<cLine)(I:Inv X pins σ H s)(g:yw8 H a y o)(ry:RelV y u)(rd:RelV d r)(h:∀w' s',Inv X pins σ H s'→RelV (o.getD d) w'→Q w' s'):
  wpAny (model X.prog X.w) A (call (.builtin "dict.get") [.ref a,u,r]) Q E s:=by
 rcases g with⟨kvs,k,e,ey,l⟩|⟨kvs,k,b,e,ey,eb,l⟩
 ·subst ey
  obtain⟨z,hd,vs,rel,dd⟩:=ym1 I.hok e
  refine call_meetsIn PySem.F.slot_dict_get dd.typeIs PySem.F.entry_dict_get (PySem.F.args_dict_get_3 _ _ _) (meets_dict_get_default (zk5 X.prog X.w) a (yo8 ry) hd r) ⟨_,dd.mapOf,h _ _ (I.tok _) ?_⟩
  rw[l]
  exact (rel.val k).getD rd
 ·subst ey
  cases (show u=Value.ref b from ry)
  obtain⟨z,hd,xs,rel,dd⟩:=ys9 I.hok e
  refine call_meetsIn PySem.F.slot_dict_get dd.typeIs PySem.F.entry_dict_get (PySem.F.args_dict_get_3 _ _ _) (meetsH_dict_get_default (tupleKind (zk5 X.prog X.w)) a b hd r) ⟨tupleKind_room_in1 hu,k,xs,zZ5 I.hok eb,dd,h _ _ (I.tok _) ?_⟩
  rw[l]
  exact (rel.val k).getD rd
end
noncomputable def yT9(td ty tx:TE):TE:=fun σ H Q=>td σ H fun x H1=>∃a,x=.ref a∧IsD H1 a∧ty σ H1 fun y H2=>tx σ H2 fun z H3=>∃o,yw8 H3 a y o∧Q (o.getD z) H3
section
variable{X:Cx}{o e f:Expr}{apos cpos:Pos}{td ty tx:TE}
theorem yB0(hu:X.A.units+1<cLine)(ho:PE X o td)(he:PE X e ty)(hf:PE X f tx)(m:M2 X o "get" apos e f cpos):PE X (.Call (.Attribute o "get" apos) [e,f] [] cpos) (yT9 td ty tx):=by
 intro pins s σ H Q I h
 refine wpAny_Call_method m.base m.few m.line PySem.F.plainAttrs_dict PySem.F.slot_dict_get PySem.F.type_dict_get (thn (ho pins s σ H _ I h) fun u s1 h_=>?_)
 obtain⟨x,H1,I1,rx,a,ex,d,q1⟩:=h_
 subst ex
 obtain rfl:u=Value.ref a:=rx
 obtain⟨t1,t2,_⟩:=xi4 I1 d
 refine⟨t1,t2,?_⟩
 rw[m.trees]
 refine Calls.callWith_builtin rfl (Calls.evalArgs_plain (Calls.spliced_cons (thn (he pins s1 σ H1 _ I1 q1) fun iv s2 ⟨y,H2,I2,ry,q2⟩ =>
  Calls.spliced_cons (thn (hf pins s2 σ H2 _ I2 q2) fun fv s3 ⟨z,H3,I3,rz,ov,g,q3⟩=>Calls.spliced_nil ?_))))
 exact xb4 hu I3 g ry rz fun w' s4 I4 rw'=>⟨_,H3,I4,rw',q3⟩
end
section
variable{X:Cx}{pins:List (Addr×Obj)}{σ:St}{H:Hp}{s:Shared}{a:Addr}{kvs:List (Key×V)}{A:Around}{E:Value→Shared→Prop}
end
section
variable{X:Cx}{pins:List (Addr×Obj)}{σ:St}{H:Hp}{s:Shared}{a:Addr}{y:V}{u:Value}{A:Around}{E:Value→Shared→Prop}
end
end L2
namespace HT
open PySem PyProof.Rows
section
open PySem.SeqAt
open PySem.AutoSeq1 (wpAny_loadPart')
open PySem.MeetsSeq PySem.MeetsSeq2 PySem.MeetsSeq3
end
section
variable{prog:Program}{w:World}{A:Around}{E:Value→Shared→Prop}{s:Shared}
theorem cat_tup{t b:Addr}{vs ws:List Value}{Q:Value→Shared→Prop}(ht:IsTup s.heap t vs.toArray)(hb:IsTup s.heap b ws.toArray)(hv:vs≠[])
  (h1:ws=[]→Q (.ref t) s) (h2:ws≠[]→Q (.ref s.heap.objs.size) { s with heap:=s.heap.push { cls:=.type "tuple", data:=.seq (vs++ws).toArray } })
  (hsz:vs.length+ws.length≤sizeLine):wpAny (model prog w) A (binaryOp .Add (.ref t) (.ref b)) Q E s:=by
 obtain⟨⟨cls,dd,data,sl⟩,ho,hc,n,hd⟩:=id ht
 obtain⟨⟨cls2,dd2,data2,sl2⟩,ho2,hc2,n2,hd2⟩:=id hb
 simp only at hc hd hc2 hd2
 subst hc hd hc2 hd2
 have e:vs.toArray++ws.toArray=(vs++ws).toArray:=by simp
 by_cases hw:ws=[]
 ·exact concat_meets ⟨_,ho,rfl⟩ ⟨_,ho2,rfl⟩ noFill_tuple_add seq_tuple_add PySem.F.slot_tuple_add PySem.F.entry_tuple_add (PySem.F.args_tuple_add_2 _ _)
   (tuple_addW1 t b vs.toArray ws.toArray n n2 dd dd2 sl sl2 (by simpa using hv) (by simp[hw])) ⟨ho,ho2,h1 hw⟩
 ·refine concat_meets ⟨_,ho,rfl⟩ ⟨_,ho2,rfl⟩ noFill_tuple_add seq_tuple_add PySem.F.slot_tuple_add PySem.F.entry_tuple_add (PySem.F.args_tuple_add_2 _ _)
   (tuple_addW2 t b vs.toArray ws.toArray n n2 dd dd2 sl sl2 (by simpa using hv) (by simpa using hw) (by rw[List.size_toArray,List.size_toArray];exact hsz)) ⟨ho,ho2,?_⟩
  rw[e]
  exact h2 hw
noncomputable def sIx(n d:Nat):Option Int→Nat
 |none=>d
 |some v=>if v<0 then (v+(n:Int)).toNat else min v.toNat n
theorem sIx_le(n d:Nat)(hd:d≤n)(o:Option Int):sIx n d o≤n:=by
 cases o with
 |none=>exact hd
 | some v =>
  show (if v<0 then (v+(n:Int)).toNat else min v.toNat n)≤n
  by_cases hv:v<0
  ·rw[if_pos hv];lia
  ·rw[if_neg hv];exact Nat.min_le_right _ _
theorem clip_eq(v:Int)(n d:Nat):(if v<0 then max (v+(n:Int)) 0 else min v (n:Int))=((sIx n d (some v):Nat):Int):=by
 show (if v<0 then max (v+(n:Int)) 0 else min v (n:Int))=(((if v<0 then (v+(n:Int)).toNat else min v.toNat n):Nat):Int)
 by_cases hv:v<0
 ·simp only[if_pos hv];lia
 ·simp only[if_neg hv];lia
theorem adjust_gen(lo hi:Option Int)(n:Nat):Builtin.Slice.sliceAdjust lo hi 1 (n:Int)=(((sIx n 0 lo:Nat):Int),((sIx n n hi:Nat):Int)):=by
 have h1:¬((1:Int)<0):=by lia
 unfold Builtin.Slice.sliceAdjust
 simp only[h1,if_false]
 refine Prod.ext ?_ ?_
 ·cases lo with
  |none=>rfl
  |some v=>exact clip_eq v n 0
 ·cases hi with
  |none=>rfl
  |some v=>exact clip_eq v n n
theorem places_gen(i j:Nat):Builtin.Slice.slicePlaces (i:Int) (j:Int) 1=j-i:=by
 unfold Builtin.Slice.slicePlaces
 have h1:(1:Int) > 0:=by lia
 simp only[h1,if_true,Int.ediv_one]
 split <;> lia
theorem slicePart_{v:Value}{o:Option Int}{Q:Option Int→Shared→Prop}(p:IsPart v o)(h:Q o s):wpAny (model prog w) A (Builtin.Slice.slicePartIndex v) Q E s:=by
 cases p with
 |none=>exact slicePart_none h
 |int i t=>exact slicePart_int h
theorem sliceApplied_gen{sl:Addr}{vl vu:Value}{lo hi:Option Int}{n:Nat}{Q:Int×Int×Nat→Shared→Prop}(hs:s.heap.IsSliceOf sl vl vu .none)(pl:IsPart vl lo)(pu:IsPart vu hi)
  (h:Q (((sIx n 0 lo:Nat):Int),1,sIx n n hi-sIx n 0 lo) s):wpAny (model prog w) A (Builtin.Slice.sliceApplied (.ref sl) (pure (n:Int))) Q E s:=by
 obtain⟨os,hos,hcs,hds⟩:=id hs
 unfold Builtin.Slice.sliceApplied Builtin.Slice.sliceFields
 refine wpAny_bind (wpAny_bind (wpAny_field hos hds (x:=vl) rfl (wpAny_bind (wpAny_field hos hds (x:=vu) rfl (wpAny_bind (wpAny_field hos hds (x:=.none) rfl (wpAny_pure ?_)))))))
 refine wpAny_bind (slicePart_none ?_)
 show wpAny _ _ (if ((1:Int)==0)=true then _ else _) _ _ s
 rw[if_neg (by decide)]
 refine wpAny_bind (slicePart_ pl (wpAny_bind (slicePart_ pu (wpAny_bind (wpAny_pure ?_)))))
 show wpAny _ _ (match Builtin.Slice.sliceAdjust lo hi 1 (n:Int)with |(lo,hi)=>pure (lo,(1:Int),Builtin.Slice.slicePlaces lo hi 1)) _ _ s
 rw[adjust_gen lo hi n]
 show wpAny _ _ (pure (((sIx n 0 lo:Nat):Int),(1:Int),Builtin.Slice.slicePlaces ((sIx n 0 lo:Nat):Int) ((sIx n n hi:Nat):Int) 1)) _ _ s
 rw[places_gen]
 exact wpAny_pure h
theorem pick_gen(xs:Array Value)(i k:Nat):((List.range k).filterMap fun (m:Nat)=>xs[((i:Int)+(m:Int)*1).toNat]?).toArray=((xs.toList.drop i).take k).toArray:=by
 have e:(fun (m:Nat)=>xs[((i:Int)+(m:Int)*1).toNat]?)=fun m=>xs[i+m]?:=by
  funext m
  have:((i:Int)+(m:Int)*1).toNat=i+m:=by lia
  rw[this]
 rw[e]
 have:=pick_run xs i k
 rw[List.filterMap_map]at this
 have e2:((fun x=>xs[x]?)∘fun x=>i+x)=fun m=>xs[i+m]?:=rfl
 rw[e2]at this
 rw[this]
theorem getItem_tuple_cut{t sl:Addr}{ze9:Array Value}{vl vu:Value}{lo hi:Option Int}{Q:Value→Shared→Prop}(ht:IsTup s.heap t ze9)(hs:s.heap.IsSliceOf sl vl vu .none)(pl:IsPart vl lo)(pu:IsPart vu hi)
  (hw:¬(sIx ze9.size 0 lo=0∧sIx ze9.size ze9.size hi=ze9.size))
  (h:Q (.ref s.heap.objs.size) { s with heap:=s.heap.push { cls:=.type "tuple", data:=.seq ((ze9.toList.drop (sIx ze9.size 0 lo)).take (sIx ze9.size ze9.size hi-sIx ze9.size 0 lo)).toArray } })
  (hsz:ze9.size≤sizeLine):wpAny (model prog w) A (getItem (.ref t) (.ref sl)) Q E s:=by
 have htake:sizeOk (.seq ((ze9.toList.drop (sIx ze9.size 0 lo)).take (sIx ze9.size ze9.size hi-sIx ze9.size 0 lo)).toArray):=by
  show ((ze9.toList.drop (sIx ze9.size 0 lo)).take (sIx ze9.size ze9.size hi-sIx ze9.size 0 lo)).toArray.size≤sizeLine
  rw[List.size_toArray,List.length_take,List.length_drop,Array.length_toList]
  lia
 have hj:sIx ze9.size ze9.size hi≤ze9.size:=sIx_le _ _ (Nat.le_refl _) hi
 obtain⟨os,hos,hcs,hds⟩:=id hs
 have hTs:s.TypeIs (.ref sl) "slice" := ⟨os,hos,hcs⟩
 unfold getItem
 try with_reducible refine wpAny_holding ?_
 first |refine wpAny_bind (wpAny_pure ?_)|skip
 refine wpAny_bind (wpAny_sequenceKey ht.typeIs (by decide) ?_)
 refine wpAny_bind (wpAny_callSpecial?_slot (name:=Str.ofString "__getitem__") ht.typeIs PyProof.Rows.slot_tuple_getitem
  (wpAny_call_entry PyProof.Rows.slot_tuple_getitem ht.typeIs entry_tuple_getitem ?_ (args_tuple_getitem _ _)))
 show wpAny _ _ (Builtin.Tuple.tupleItemsOf (.ref t) >>= _) _ _ s
 refine wpAny_bind (tupleItemsOf_ ht ?_)
 refine wpAny_bind (wpAny_typeOf hTs ?_)
 rw[if_pos (by decide)]
 refine wpAny_bind (sliceApplied_gen hs pl pu ?_)
 have hno:¬((((sIx ze9.size 0 lo:Nat):Int)==0&&(1:Int)==1&&(sIx ze9.size ze9.size hi-sIx ze9.size 0 lo)==ze9.size)=true):=by
  intro q
  rw[Bool.and_eq_true,Bool.and_eq_true]at q
  have q1:((sIx ze9.size 0 lo:Nat):Int)=0:=eq_of_beq q.1.1
  have q2:sIx ze9.size ze9.size hi-sIx ze9.size 0 lo=ze9.size:=eq_of_beq q.2
  exact hw ⟨by lia,by lia⟩
 show wpAny _ _ (if (((sIx ze9.size 0 lo:Nat):Int)==0&&(1:Int)==1&&(sIx ze9.size ze9.size hi-sIx ze9.size 0 lo)==ze9.size)=true then _ else _) _ _ s
 rw[if_neg hno,pick_gen]
 first
  |exact wpAny_bind (m:=Builtin.Tuple.tupleExact _) (wpAny_newObj_type (wpAny_pure ⟨_,rfl,wpAny_pure h⟩) htake)
  |exact wpAny_bind (m:=Builtin.Tuple.tupleExact _) (wpAny_newObj_type (wpAny_bind (wpAny_pure (wpAny_pure ⟨_,rfl,wpAny_pure h⟩))) htake)
  |exact wpAny_bind (wpAny_bind (m:=Builtin.Tuple.tupleExact _) (wpAny_newObj_type (wpAny_pure (wpAny_pure ⟨_,rfl,wpAny_pure h⟩)) htake))
  |exact wpAny_bind (wpAny_bind (m:=Builtin.Tuple.tupleExact _) (wpAny_newObj_type (wpAny_pure ⟨_,rfl,wpAny_pure h⟩) htake))
end
end HT
namespace L2
open PySem PySem.Spec PyProof.Rows
noncomputable abbrev TO:=St→Hp→(Option Int→Hp→Prop)→Prop
def PO(X:Cx)(e:Option Expr)(t:TO):Prop :=
 ∀ (pins:List (Addr×Obj)) (s:Shared) (σ:St) (H:Hp) (Q:Option Int→Hp→Prop),Inv X pins σ H s→t σ H Q →
  wpAny (model X.prog X.w) X.A (evalPart e X.env) (fun u s'=>∃o H',Inv X pins σ H' s'∧IsPart u o∧Q o H') X.xe s
noncomputable def xu8:TO:=fun _ H Q=>Q none H
noncomputable def xo5(t:TE):TO:=fun σ H Q=>t σ H fun x H1=>∃i,x=.int i∧Q (some i) H1
section
variable{X:Cx}{e:Expr}{te:TE}{lo hi:Option Expr}{tl th:TO}{pos p2:Pos}
theorem yN5:PO X none xu8:=by
 intro pins s σ H Q I h
 rw[evalPart_none]
 exact wpAny_pure ⟨none,H,I,.none,h⟩
theorem yQ9(h:PE X e te):PO X (some e) (xo5 te):=by
 intro pins s σ H Q I hw
 rw[evalPart_some]
 refine thn (h pins s σ H _ I hw) fun u s1 h_=>?_
 obtain⟨x,H1,I1,r1,q1⟩:=h_
 obtain⟨i,rfl,q⟩:=q1
 obtain⟨t,rfl⟩:=r1
 exact⟨some i,H1,I1,.int i t,q⟩
def SlR(X:Cx)(r:V→Option Int→Option Int→Hp→VK→Prop):Prop :=
 ∀ (pins:List (Addr×Obj)) (s:Shared) (σ:St) (H:Hp) (x:V) (v vl vu:Value) (lo hi:Option Int) (sl:Addr) (Q:VK),Inv X pins σ H s→RelV x v→s.heap.IsSliceOf sl vl vu .none→IsPart vl lo→IsPart vu hi→r x lo hi H Q →
  ∃T id,typeLookup (.type T) "__getitem__" = pure (some (.builtin id))∧s.TypeIs v T∧wpAny (model X.prog X.w) X.A (getItem v (.ref sl)) (EP X pins σ Q) X.xe s
noncomputable def tSl(r:V→Option Int→Option Int→Hp→VK→Prop)(te:TE)(tl th:TO):TE:=fun σ H Q=>te σ H fun x H1=>tl σ H1 fun l H2=>th σ H2 fun u H3=>r x l u H3 Q
theorem yD2{r:V→Option Int→Option Int→Hp→VK→Prop}(hr:SlR X r)(he:PE X e te)(hl:PO X lo tl)(hu:PO X hi th):PE X (.Subscript e (.Slice lo hi none p2) pos) (tSl r te tl th):=by
 intro pins s σ H Q I h
 refine Subscript_ (thn (he pins s σ H _ I h) fun v s1 h_=>?_)
 obtain⟨x,H1,I1,r1,q1⟩:=h_
 refine wpAny_Slice (thn (hl pins s1 σ H1 _ I1 q1) fun vl s2 ⟨l,H2,I2,pl,q2⟩=>thn (hu pins s2 σ H2 _ I2 q2) fun vu s3 h_=>?_)
 obtain⟨u,H3,I3,pu,q3⟩:=h_
 rw[evalPart_none]
 refine wpAny_pure ?_
 have I4:Inv X pins σ H3 { s3 with heap:=s3.heap.push { cls:=.type "slice", data:=.fields #[vl,vu,.none] } }:=I3.kept (t':=s3.toks) fun b ob q=>Heap.get?_push_of_some _ q
 obtain⟨T,id,hT,ht,hg⟩:=hr pins { s3 with heap:=s3.heap.push { cls:=.type "slice", data:=.fields #[vl,vu,.none] } } σ H3 x v vl vu l u s3.heap.objs.size Q I4 r1 (Heap.IsSliceOf.new ..) pl pu q3
 show wpAny (model X.prog X.w) X.A (subscriptTail e (.Slice lo hi none p2) v (.ref s3.heap.objs.size)) (EP X pins σ Q) X.xe { s3 with heap:=s3.heap.push { cls:=.type "slice", data:=.fields #[vl,vu,.none] } }
 exact tail_any (ops:=[.ref s3.heap.objs.size,v]) ht hT hg (by with_unfolding_all rfl)
noncomputable def yE6(xs:List V)(lo hi:Option Int):List V:=(xs.drop (HT.sIx xs.length 0 lo)).take (HT.sIx xs.length xs.length hi-HT.sIx xs.length 0 lo)
theorem zE4(xs:List V)(lo hi:Option Int):(yE6 xs lo hi).length≤xs.length:=by
 unfold yE6
 rw[List.length_take,List.length_drop]
 lia
def rSlT(K:Frag):V→Option Int→Option Int→Hp→VK→Prop:=fun x lo hi H Q=>∃a xs,x=.ref a∧SqT K H a xs ∧
 ¬(HT.sIx xs.length 0 lo=0∧HT.sIx xs.length xs.length hi=xs.length)∧∀p,H p=none→Q (.ref p) (upd H p (.tup (yE6 xs lo hi)))
theorem xg1:SlR X (rSlT X.K):=by
 intro pins s σ H x v vl vu lo hi sl Q I rx hs pl pu h
 obtain⟨a,xs,rfl,hx,hw,q⟩:=h
 cases rx
 obtain⟨its,r,ht,hz⟩:=I.tuple hx
 have hlen:its.toArray.size=xs.length:=by rw[List.size_toArray];exact r.length.symm
 refine⟨"tuple", _,PyProof.Rows.slot_tuple_getitem.lookup,ht.typeIs,?_⟩
 refine HT.getItem_tuple_cut ht hs pl pu (by rw[hlen];exact hw) ?_ (by rw[hlen];exact hz)
 rw[hlen]
 refine⟨.ref s.heap.objs.size,_,I.laid (t':=s.toks) (o:=.tup (yE6 xs lo hi)) (fun b ob q=>Heap.get?_push_of_some _ q) (Nat.le_refl _) ?_,rfl,q _ (I.hok.fresh (Nat.le_refl _))⟩
 exact⟨Nat.le_trans (zE4 xs lo hi) hz,_,(r.drop (HT.sIx xs.length 0 lo)).take (HT.sIx xs.length xs.length hi-HT.sIx xs.length 0 lo),zC3.new _ _⟩
noncomputable def xo1(K:Frag):R2:=fun x y H Q=>∃a b xs ys,x=.ref a∧y=.ref b∧SqT K H a xs∧SqT K H b ys∧xs≠[]∧xs.length+ys.length≤sizeLine ∧
 (ys=[]→Q (.ref a) H)∧(ys≠[]→∀p,H p=none→Q (.ref p) (upd H p (.tup (xs++ys))))
theorem zi9.nil_iff{xs:List V}{us:List Value}(r:zi9 xs us):us=[]↔xs=[]:=by
 cases r with
 |nil=>simp
 |cons _ _=>simp
theorem yR0:OpR X (binaryOp .Add) (xo1 X.K):=by
 intro pins s σ H x y v u Q I rx ry h
 obtain⟨a,b,xs,ys,rfl,rfl,ha,hb,hx,hz,q1,q2⟩:=h
 cases rx
 cases ry
 obtain⟨its,r1,p1,_⟩:=I.tuple ha
 obtain⟨its2,r2,p2,_⟩:=I.tuple hb
 refine HT.cat_tup p1 p2 (fun z=>hx (r1.nil_iff.mp z)) (fun z=>⟨.ref a,H,I,rfl,q1 (r2.nil_iff.mp z)⟩) (fun z=>?_) (by rw[←r1.length,←r2.length];exact hz)
 refine⟨.ref s.heap.objs.size,_,I.laid (t':=s.toks) (o:=.tup (xs++ys)) (fun b ob q=>Heap.get?_push_of_some _ q) (Nat.le_refl _) ?_,rfl,q2 (fun w=>z (r2.nil_iff.mpr w)) _ (I.hok.fresh (Nat.le_refl _))⟩
 exact⟨by rw[List.length_append];exact hz,_,r1.append r2,zC3.new _ _⟩
end
noncomputable def ixN(n:Nat)(i:Int):Option Nat:=if 0≤i then (if i<n then some i.toNat else none)else if -(n:Int)≤i then some (i+n).toNat else none
noncomputable def atI{α:Type}(xs:List α)(i:Int):Option α:=(ixN xs.length i).bind fun j=>xs[j]?
theorem yj1{n:Nat}{i:Int}{j:Nat}(h:ixN n i=some j):seqIndex? i n=some j∧j<n∧-(n:Int)≤i∧i<n:=by
 unfold ixN at h
 by_cases h0:0≤i
 ·rw[if_pos h0]at h
  by_cases h1:i<n
  ·rw[if_pos h1]at h
   have e:i.toNat=j:=Option.some.inj h
   exact⟨by rw[seqIndex_of h0 h1,e],by lia,by lia,h1⟩
  ·rw[if_neg h1]at h;cases h
 ·rw[if_neg h0]at h
  by_cases h1:-(n:Int)≤i
  ·rw[if_pos h1]at h
   have e:(i+n).toNat=j:=Option.some.inj h
   exact⟨by rw[seqIndex_neg (by lia) h1,e],by lia,h1,by lia⟩
  ·rw[if_neg h1]at h;cases h
theorem zY3{α:Type}{xs:List α}{i:Int}{v:α}(h:atI xs i=some v):∃j,seqIndex? i xs.length=some j∧xs[j]?=some v∧j<xs.length∧-(xs.length:Int)≤i∧i<xs.length:=by
 unfold atI at h
 cases e:ixN xs.length i with
 |none=>rw[e]at h;cases h
 | some j =>
  rw[e]at h
  obtain⟨h1,h2,h3,h4⟩:=yj1 e
  exact⟨j,h1,h,h2,h3,h4⟩
def zX2(b:Expr):Prop:=∀o i,subscripted b false o i=operate [o,i] (getItem o i)
def IxR(X:Cx)(r:R2):Prop :=
 ∀ (value slice:Expr) (pins:List (Addr×Obj)) (s:Shared) (σ:St) (H:Hp) (x y:V) (v u:Value) (Q:VK),Inv X pins σ H s→RelV x v→RelV y u→r x y H Q →
  subscripted slice false v u=operate [v,u] (getItem v u)→wpAny (model X.prog X.w) X.A (subscriptTail value slice v u) (EP X pins σ Q) X.xe s
def MtR(X:Cx)(id:String)(r:V→List V→Hp→VK→Prop):Prop :=
 ∀ (pins:List (Addr×Obj)) (s:Shared) (σ:St) (H:Hp) (x:V) (xs:List V) (v:Value) (us:List Value) (Q:VK),Inv X pins σ H s→RelV x v→zi9 xs us→r x xs H Q →
  wpAny (model X.prog X.w) X.A (call (.builtin id) (v::us)) (EP X pins σ Q) X.xe s
section
variable{X:Cx}{a b:Expr}{ta tb:TE}{pos:Pos}
theorem IxR.or{r r':R2}(h:IxR X r)(h':IxR X r'):IxR X (fun x y H Q=>r x y H Q∨r' x y H Q):=by
 intro value slice pins s σ H x y v u Q I rx ry q hs
 rcases q with q |q
 ·exact h value slice pins s σ H x y v u Q I rx ry q hs
 ·exact h' value slice pins s σ H x y v u Q I rx ry q hs
theorem xr3{r:R2}(hr:IxR X r)(ha:PE X a ta)(hb:PE X b tb)(hs:zX2 b):PE X (.Subscript a b pos) (tOp r ta tb):=by
 intro pins s σ H Q I h
 exact Subscript_ (xn9 ha hb I h fun v u s2 x y H2 I2 rx ry q=>hr a b pins s2 σ H2 x y v u Q I2 rx ry q (hs _ _))
noncomputable def rIxL(K:Frag):R2:=fun x y H Q=>∃p xs i v,x=.ref p∧y=.int i∧SqL K H p xs∧atI xs i=some v∧Q v H
noncomputable def rIxT(K:Frag):R2:=fun x y H Q=>∃p xs i v,x=.ref p∧y=.int i∧SqT K H p xs∧atI xs i=some v∧Q v H
noncomputable def rIxS:R2:=fun x y H Q=>∃z i c,x=.str z∧y=.int i∧z.length≤sizeLine∧atI z.cps.toList i=some c∧Q (.str ⟨#[c]⟩) H
theorem yN2:IxR X (rIxL X.K):=by
 intro value slice pins s σ H x y v u Q I rx ry h hs
 obtain⟨p,xs,i,z,rfl,rfl,hq,he,q⟩:=h
 cases rx
 obtain⟨t,rfl⟩:=ry
 obtain⟨its,r,pl,hz⟩:=I.list hq
 obtain⟨j,h1,h2,h3,h4,h5⟩:=zY3 he
 obtain⟨w,ew,rw'⟩:=r.get h2
 have hl:=r.length
 have hn:=zK6
 have fin:EP X pins σ Q w s:=⟨z,H,I,rw',q⟩
 by_cases h0:0≤i
 ·have hj:i.toNat=j:=by
   rw[seqIndex_of h0 h5]at h1
   exact Option.some.inj h1
  exact item_listR pl.isList h0 (by lia) (by rw[hj];simpa using ew) fin hs
 ·have hj:(i+(its.toArray.size:Int)).toNat=j:=by
   rw[seqIndex_neg (by lia) h4]at h1
   rw[List.size_toArray,←hl]
   exact Option.some.inj h1
  exact subscriptTail_builtinR (x:=w) pl.isList.typeIs slot_list_getitem.lookup
   (wpAny_getItem_list_neg (Q:=fun r s'=>r=w∧EP X pins σ Q r s') pl.isList (by lia) (by rw[List.size_toArray] <;> lia) (by lia) (by rw[hj];simpa using ew) ⟨rfl,fin⟩) hs
theorem xb7:IxR X (rIxT X.K):=by
 intro value slice pins s σ H x y v u Q I rx ry h hs
 obtain⟨p,xs,i,z,rfl,rfl,hq,he,q⟩:=h
 cases rx
 obtain⟨t,rfl⟩:=ry
 obtain⟨its,r,pl,hz⟩:=I.tuple hq
 obtain⟨j,h1,h2,h3,h4,h5⟩:=zY3 he
 obtain⟨w,ew,rw'⟩:=r.get h2
 have hl:=r.length
 have hn:=zK6
 have fin:EP X pins σ Q w s:=⟨z,H,I,rw',q⟩
 exact subscriptTail_builtinR (x:=w) pl.typeIs slot_tuple_getitem.lookup
  (getItem_tuple (j:=j) (Q:=fun r s'=>r=w∧EP X pins σ Q r s') pl (by lia) (by lia) (by rw[List.size_toArray,←hl];exact h1) (by simpa using ew) ⟨rfl,fin⟩) hs
theorem xd3:IxR X rIxS:=by
 intro value slice pins s σ H x y v u Q I rx ry h hs
 obtain⟨z,i,c,rfl,rfl,hz,he,q⟩:=h
 obtain⟨t,rfl⟩:=rx
 obtain⟨t',rfl⟩:=ry
 obtain⟨j,h1,h2,h3,h4,h5⟩:=zY3 he
 have hl:z.cps.toList.length=z.length:=by simp[Str.length]
 rw[hl]at h1 h4 h5
 have hn:=zK6
 exact tail_any (typeIs_str s z t) slot_str_getitem.lookup (getItem_str (c:=c) (by
  have e1:decide (i < -(2 ^ 63:Int))=false:=decide_eq_false (by lia)
  have e2:decide (i ≥ 2 ^ 63)=false:=decide_eq_false (by lia)
  rw[e1,e2,Bool.or_false]) (by rw[h1];simpa using h2) ⟨.str ⟨#[c]⟩,H,I.tok _,⟨_,rfl⟩,q⟩) hs
noncomputable def rIx(K:Frag):R2:=fun x y H Q=>rIxL K x y H Q∨rIxT K x y H Q∨rIxS x y H Q
theorem yX1:IxR X (rIx X.K):=yN2.or (xb7.or xd3)
theorem yi0(its:List Value)(n j:Nat)(u:Value):Obj.mapSeq (·.setIfInBounds j u) { cls:=.type "list", data:=.seq its.toArray n }={ cls:=.type "list", data:=.seq (its.set j u).toArray n }:=by
 simp[Obj.mapSeq]
theorem Inv.lst{pins:List (Addr×Obj)}{σ:St}{H:Hp}{s:Shared}{p:Addr}{xs:List V}(I:Inv X pins σ H s)(h:H p=some (.lst xs)):
  ∃(its:List Value) (n:Nat),zi9 xs its∧s.heap.get? p=some { cls:=.type "list", data:=.seq its.toArray n }∧xs.length≤sizeLine:=by
 obtain⟨z,its,n,r,e⟩:=I.hok p _ h
 exact⟨its,n,r,e,z⟩
theorem Inv.lstUpd{pins:List (Addr×Obj)}{σ:St}{H:Hp}{s:Shared}{p:Addr}{xs ys:List V}{its its':List Value}{n n':Nat}{f:Obj→Obj}(I:Inv X pins σ H s)(h:H p=some (.lst xs))
  (ho:s.heap.get? p=some { cls:=.type "list", data:=.seq its.toArray n }) (hf:f { cls:=.type "list", data:=.seq its.toArray n }={ cls:=.type "list", data:=.seq its'.toArray n' }) (r:zi9 ys its') (hz:ys.length≤sizeLine) (t:Nat) :
  Inv X pins σ (upd H p (.lst ys)) { s with heap:=s.heap.update p f,toks:=t }:=by
 have e:(s.heap.update p f).get? p=some { cls:=.type "list", data:=.seq its'.toArray n' }:=by
  rw[Heap.get?_update_self f ho (by rw[hf] <;> rfl),hf]
 refine I.write (x:=p) (e:=p) (by rw[h];trivial) (.inl rfl) (fun b u hb q=>(Heap.get?_update_other _ _ (Ne.symm hb)).trans q) ⟨_,e⟩ ?_
 exact⟨hz,its',n',r,e⟩
def rSetL:V→V→V→Hp→(Hp→Prop)→Prop:=fun o i v H Q=>∃p xs k j,o=.ref p∧i=.int k∧H p=some (.lst xs)∧ixN xs.length k=some j∧Q (upd H p (.lst (xs.set j v)))
theorem yB9:yG9 X rSetL:=by
 intro pins s σ H o i v ov iv u Q I ro ri rv h
 obtain⟨p,xs,k,j,rfl,rfl,hp,hj,q⟩:=h
 cases ro
 obtain⟨t,rfl⟩:=ri
 obtain⟨its,n,r,ho,hz⟩:=I.lst hp
 obtain⟨h1,h2,h3,h4⟩:=yj1 hj
 have hl:=r.length
 have hn:=zK6
 have I':Inv X pins σ (upd H p (.lst (xs.set j v))) { s with heap:=s.heap.update p (Obj.mapSeq (·.setIfInBounds j u)) } :=
  I.lstUpd hp ho (yi0 its n j u) (r.set rv j) (by rw[List.length_set];exact hz) s.toks
 by_cases h0:0≤k
 ·have hk:k.toNat=j:=by
   rw[seqIndex_of h0 h4]at h1
   exact Option.some.inj h1
  exact PySem.W.ki_setAt ho h0 (by lia) (by rw[List.size_toArray,←hl];exact h4) (by rw[hk];exact⟨_,I',q⟩)
 ·have hk:(k+(its.toArray.size:Int)).toNat=j:=by
   rw[seqIndex_neg (by lia) h3]at h1
   rw[List.size_toArray,←hl]
   exact Option.some.inj h1
  exact PySem.W.ki_setBack ho (by lia) (by rw[List.size_toArray,←hl];exact h3) (by lia) (by rw[hk];exact⟨_,I',q⟩)
theorem zP4(lo hi:Option Int)(n:Nat):(sliceBounds lo hi none n).1=((HT.sIx n 0 lo:Nat):Int)∧(sliceBounds lo hi none n).2.1=((HT.sIx n n hi:Nat):Int)∧(sliceBounds lo hi none n).2.2=1:=by
 refine⟨?_,?_,rfl⟩
 ·cases lo with
  |none=>simp[sliceBounds,HT.sIx]
  | some i =>
   simp only[sliceBounds,HT.sIx,Option.getD_none,show (1:Int) > 0 by decide,if_true]
   by_cases h:i<0
   ·simp only[h,if_true] <;> lia
   ·simp only[h,if_false] <;> lia
 ·cases hi with
  |none=>simp[sliceBounds,HT.sIx]
  | some i =>
   simp only[sliceBounds,HT.sIx,Option.getD_none,show (1:Int) > 0 by decide,if_true]
   by_cases h:i<0
   ·simp only[h,if_true] <;> lia
   ·simp only[h,if_false] <;> lia
theorem zO1(its:List Value)(lo hi:Option Int):slicePick its.toArray lo hi none=((its.drop (HT.sIx its.length 0 lo)).take (HT.sIx its.length its.length hi-HT.sIx its.length 0 lo)).toArray:=by
 obtain⟨h1,h2,h3⟩:=zP4 lo hi its.toArray.size
 unfold slicePick
 rw[h1,h2,h3]
 simp only[sliceRange_one,pick_run,List.size_toArray] <;> rfl
def rSlL(K:Frag):V→Option Int→Option Int→Hp→VK→Prop:=fun x lo hi H Q=>∃a xs,x=.ref a∧SqL K H a xs∧∀p,H p=none→Q (.ref p) (upd H p (.lst (yE6 xs lo hi)))
theorem yI4:SlR X (rSlL X.K):=by
 intro pins s σ H x v vl vu lo hi sl Q I rx hs pl pu h
 obtain⟨a,xs,rfl,hx,q⟩:=h
 cases rx
 obtain⟨its,r,ht,hz⟩:=I.list hx
 have hlen:=r.length
 refine⟨"list", _,slot_list_getitem.lookup,ht.isList.typeIs,?_⟩
 refine wpAny_getItem_list_slice ht.isList hs pl pu .none (by simp) ?_ (by rw[List.size_toArray] <;> lia)
 rw[zO1,←hlen]
 refine⟨.ref s.heap.objs.size,_,I.laid (t':=s.toks) (o:=.lst (yE6 xs lo hi)) (fun b ob q=>Heap.get?_push_of_some _ q) (Nat.le_refl _) ?_,rfl,q _ (I.hok.fresh (Nat.le_refl _))⟩
 exact⟨Nat.le_trans (zE4 xs lo hi) hz,_,0,(r.drop (HT.sIx xs.length 0 lo)).take (HT.sIx xs.length xs.length hi-HT.sIx xs.length 0 lo),Heap.get?_push_size _ rfl⟩
theorem zC1:zE9 X (.builtin "len") (fun xs H Q=>∃p ys,xs=[.ref p]∧(SqL X.K H p ys∨SqT X.K H p ys)∧Q (.int ys.length) H):=by
 intro pins s σ H xs us Q I r h
 obtain⟨p,ys,rfl,hq,q⟩:=h
 obtain⟨u,rfl,rx⟩:=yf9 r
 cases rx
 have hn:=zK6
 rcases hq with hq |hq
 ·obtain⟨its,r',pl,hz⟩:=I.list hq
  have hlen:=r'.length
  exact Calls.call_len_list pl.isList (by simp only[List.size_toArray] <;> lia) ⟨.int ys.length,H,I.tok _,⟨s.toks+1,by rw[List.size_toArray,hlen]⟩,q⟩
 ·obtain⟨its,r',pl,hz⟩:=I.tuple hq
  have hlen:=r'.length
  exact len_tuple pl (by simp only[List.size_toArray] <;> lia) ⟨.int ys.length,H,I.tok _,⟨s.toks+1,by rw[List.size_toArray,hlen]⟩,q⟩
theorem zP2:zE9 X (.builtin "len") (fun xs H Q=>∃z,xs=[.str z]∧z.length≤sizeLine∧Q (.int z.length) H):=by
 intro pins s σ H xs us Q I r h
 obtain⟨z,rfl,hz,q⟩:=h
 obtain⟨u,rfl,t,rfl⟩:=yf9 r
 have hn:=zK6
 exact len_str (by lia) ⟨.int z.length,H,I.tok _,⟨_,rfl⟩,q⟩
theorem zT1:zE9 X (.type "list") (fun xs H Q=>∃p ys,xs=[.ref p]∧(SqL X.K H p ys∨SqT X.K H p ys)∧∀l,H l=none→Q (.ref l) (upd H l (.lst ys))):=by
 intro pins s σ H xs us Q I r h
 obtain⟨p,ys,rfl,hq,q⟩:=h
 obtain⟨u,rfl,rx⟩:=yf9 r
 cases rx
 have fin:∀(its:List Value),zi9 ys its→ys.length≤sizeLine→∀(h':Heap) (c':Nat),(∀b o',s.heap.get? b=some o'→h'.get? b=some o') →
   h'.get? s.heap.objs.size=some { cls:=.type "list", dict:=none,data:=.seq its.toArray c',slots:=#[] }→EP X pins σ Q (.ref s.heap.objs.size) { s with heap:=h' }:=fun its r' hz h' c' kp e =>
  ⟨.ref s.heap.objs.size,_,I.laid (t':=s.toks) kp (Nat.le_refl _) (show zl8 X.prog X.w _ h' _ (.lst ys)from⟨hz,its,c',r',e⟩),rfl,q _ (I.hok.fresh (Nat.le_refl _))⟩
 rcases hq with hq |hq
 ·obtain⟨its,r',pl,hz⟩:=I.list hq
  have hlen:=r'.length
  obtain⟨o,ho,hc,n,hd⟩:=pl.isList
  exact call_list_seq p (.inl rfl) ho hc hd (fun h' c' kp e=>fin its r' hz h' c' kp e) (by simp only[List.size_toArray] <;> lia)
 ·obtain⟨its,r',pl,hz⟩:=I.tuple hq
  have hlen:=r'.length
  obtain⟨o,ho,hc,n,hd⟩:=pl
  exact call_list_seq p (.inr rfl) ho hc hd (fun h' c' kp e=>fin its r' hz h' c' kp e) (by simp only[List.size_toArray] <;> lia)
theorem zz4:zE9 X (.type "tuple") (fun xs H Q=>∃p ys,xs=[.ref p]∧((SqL X.K H p ys∧∀l,H l=none→Q (.ref l) (upd H l (.tup ys)))∨(SqT X.K H p ys∧Q (.ref p) H))):=by
 intro pins s σ H xs us Q I r h
 obtain⟨p,ys,rfl,h⟩:=h
 obtain⟨u,rfl,rx⟩:=yf9 r
 cases rx
 rcases h with⟨hq,q⟩|⟨hq,q⟩
 ·obtain⟨its,r',pl,hz⟩:=I.list hq
  have hlen:=r'.length
  refine call_tuple_list pl.isList (fun h' kp=>?_) (by simp only[List.size_toArray] <;> lia)
  have I1:Inv X pins σ H { s with heap:=h' }:=I.kept (t':=s.toks) kp
  have I2:Inv X pins σ (upd H h'.objs.size (.tup ys)) { s with heap:=h'.push { cls:=.type "tuple", data:=.seq its.toArray } } :=
   I1.laid (t':=s.toks) (fun b o e=>Heap.get?_push_of_some _ e) (Nat.le_refl _) (show zl8 X.prog X.w _ _ _ (.tup ys)from⟨hz,its,r',zC3.new _ _⟩)
  exact⟨.ref h'.objs.size,_,I2,rfl,q _ (I1.hok.fresh (Nat.le_refl _))⟩
 ·obtain⟨its,r',pl,hz⟩:=I.tuple hq
  exact call_tuple_same pl ⟨.ref p,H,I,rfl,q⟩
def tyV(K:Frag)(T:String)(x:V)(H:Hp):Prop:=match x with
 |.str _=>T = "str"
 |.int _=>T = "int"
 | .ref p=>(T = "list" ∧ ∃xs,SqL K H p xs)∨(T = "tuple" ∧ ∃o,K.lookup p=some o∧o.cls=.type "tuple" ∧ o.dict=none) ∨
   (T = "dict" ∧ ((∃kvs,H p=some (.dK kvs))∨∃kvs,H p=some (.dT kvs)))∨(T = "set" ∧ ∃S n,H p=some (.set S n))
 |_=>False
theorem yV3{pins:List (Addr×Obj)}{σ:St}{H:Hp}{s:Shared}{T:String}{x:V}{v:Value}(I:Inv X pins σ H s)(r:RelV x v)(ty:tyV X.K T x H):
  s.TypeIs v T∧∀a,v=.ref a→∃ob,s.heap.get? a=some ob∧ob.dict=none:=by
 cases x with
 | str z =>
  obtain⟨t,rfl⟩:=r
  cases (show T = "str" from ty)
  exact⟨typeIs_str s z t,fun _ e=>nomatch e⟩
 | int i =>
  obtain⟨t,rfl⟩:=r
  cases (show T = "int" from ty)
  exact⟨typeIs_int s i t,fun _ e=>nomatch e⟩
 | ref p =>
  cases r
  rcases ty with⟨rfl,xs,hq⟩|⟨rfl,o,hk,hc,hd⟩|⟨rfl,hk⟩|⟨rfl,S,n,hk⟩
  ·obtain⟨its,_,pl,_⟩:=I.list hq
   refine⟨pl.isList.typeIs,fun a e=>?_⟩
   cases e
   obtain⟨o,n,e,c,hd,_⟩:=pl
   exact⟨o,e,hd⟩
  ·refine⟨⟨o,I.kIn p o hk,hc⟩,fun a e=>?_⟩
   cases e
   exact⟨o,I.kIn _ o hk,hd⟩
  ·have z:∃o,s.heap.get? p=some o∧o.ExactDict:=by
    rcases hk with⟨kvs,hk⟩|⟨kvs,hk⟩
    ·obtain⟨_,_,_,_,o,_,_,e,ex,_⟩:=I.hok p _ hk
     exact⟨o,e,ex⟩
    ·obtain⟨_,_,_,_,o,_,_,e,ex,_⟩:=I.hok p _ hk
     exact⟨o,e,ex⟩
   obtain⟨o,e,ex⟩:=z
   refine⟨⟨o,e,ex.1⟩,fun a e2=>?_⟩
   cases e2
   exact⟨o,e,ex.2.1⟩
  ·obtain⟨o,_,_,_,e,ex,_⟩:=I.hok p _ hk
   refine⟨⟨o,e,ex.1⟩,fun a e2=>?_⟩
   cases e2
   exact⟨o,e,ex.2.1⟩
 |_=>exact False.elim ty
noncomputable def tBM(K:Frag)(T:String)(r:V→List V→Hp→VK→Prop)(to:TE)(t:TA):TE:=fun σ H Q=>to σ H fun x H1=>tyV K T x H1∧t σ H1 fun xs H2=>r x xs H2 Q
variable{o e:Expr}{es:List Expr}{to:TE}{t:TA}{name:Str}{apos cpos:Pos}{T id:String}{r:V→List V→Hp→VK→Prop}
theorem xr2(pa:PlainAttrs T)(slot:Slot T name id)(hty:typeOf (.builtin id)=pure (.type "method_descriptor"))(hm:MtR X id r)(ho:PE X o to)(ha:PA X (e::es) t)
  (hbase:attributeBase o name X.env (eval o X.env)=eval o X.env)
  (hfew:((backTo cpos (starEach (e::es) X.env)).all (fun x=>!x.1)&&(backToKw cpos (keywordEach [] X.env)).all (fun x=>x.1.isSome)
   && decide ((e::es).length+([]:List Keyword).length+(if ([]:List Keyword).isEmpty then 0 else 1)<30))=true)
  (hline:(apos.endLine==cpos.line)=true) (hs:starEach (e::es) X.env=(false,eval e X.env)::starEach es X.env) (hplain:(backTo cpos (starEach es X.env)).any (·.1)=false) :
  PE X (.Call (.Attribute o name apos) (e::es) [] cpos) (tBM X.K T r to t):=by
 intro pins s σ H Q I h
 refine wpAny_Call_method_late hbase hfew hline rfl (thn (ho pins s σ H _ I h) fun v s1 h_=>?_)
 obtain⟨x,H1,I1,r1,ty,q1⟩:=h_
 obtain⟨h1,h2⟩:=yV3 I1 r1 ty
 refine⟨T,id,pa,slot,hty,h1,h2,?_⟩
 have hA:=ha cpos pins s1 σ H1 _ I1 q1
 rw[hs]at hA ⊢
 refine Calls.callWith_builtin (by show (false ||(backTo cpos (starEach es X.env)).any (·.1))=false;rw[hplain] <;> rfl) (Calls.evalArgs_plain ?_)
 exact thn hA fun us s2 ⟨vs,H2,I2,r2,q2⟩=>hm pins s2 σ H2 x vs v us Q I2 r1 r2 q2
end
def MtM(X:Cx)(id:String)(r:V→List V→Hp→VK→Prop):Prop :=
 ∀ (pins:List (Addr×Obj)) (s:Shared) (σ:St) (H:Hp) (x:V) (xs:List V) (v:Value) (us:List Value) (Q:VK),Inv X pins σ H s→RelV x v→zi9 xs us→r x xs H Q →
  wpAny (model X.prog X.w) X.A (call (.builtin id) (v::us)) (EP X pins σ Q) X.xe s
theorem zi9.one:∀{x:V} {us:List Value},zi9 [x] us→∃u,us=[u]∧RelV x u
 |_,_,.cons r .nil=>⟨_,rfl,r⟩
theorem zi9.reverse{xs:List V}{us:List Value}(h:zi9 xs us):zi9 xs.reverse us.reverse:=by
 induction h with
 |nil=>exact .nil
 |cons r t ih=>rw[List.reverse_cons,List.reverse_cons];exact zi9.append ih (.cons r .nil)
section
variable{X:Cx}{pins:List (Addr×Obj)}{σ:St}{H:Hp}{s:Shared}{l b:Addr}{xs ys zs:List V}
theorem Inv.lset{its its':List Value}{n:Nat}{f:Array Value→Array Value}{t':Nat}(I:Inv X pins σ H s)(hH:H l=some (.lst xs))
  (e:s.heap.get? l=some { cls:=.type "list", data:=.seq its.toArray n }) (hf:f its.toArray=its'.toArray) (hv:zi9 ys its') (hz:ys.length≤sizeLine) :
  Inv X pins σ (upd H l (.lst ys)) { s with heap:=s.heap.update l (Obj.mapSeq f),toks:=t' }:=by
 have q:=PySem.IsL.update e f
 rw[hf]at q
 refine I.write (x:=l) (e:=l) (by rw[hH];exact trivial) (.inl rfl) (fun b' u hb hu=>(Heap.get?_update_other s.heap (Obj.mapSeq f) (Ne.symm hb)).trans hu) ⟨_,q⟩ ?_
 exact⟨hz,its',_,hv,q⟩
theorem Inv.lnew{its:List Value}{t':Nat}(I:Inv X pins σ H s)(hv:zi9 ys its)(hz:ys.length≤sizeLine):
  Inv X pins σ (upd H s.heap.objs.size (.lst ys)) { s with heap:=s.heap.push { cls:=.type "list", data:=.seq its.toArray },toks:=t' } :=
 I.laid (fun _ _ q=>Heap.get?_push_of_some _ q) (Nat.le_refl _) ⟨hz,its,0,hv,Heap.get?_push_size _ rfl⟩
theorem Inv.fresh(I:Inv X pins σ H s):H s.heap.objs.size=none:=I.hok.fresh (Nat.le_refl _)
theorem Inv.lstM(I:Inv X pins σ H s)(hH:H l=some (.lst xs)):xs.length≤sizeLine∧∃(its:List Value) (n:Nat),zi9 xs its∧xs.length=its.length∧s.heap.get? l=some { cls:=.type "list", data:=.seq its.toArray n }:=by
 obtain⟨z,its,n,r,e⟩:=I.hok l _ hH
 exact⟨z,its,n,r,r.length,e⟩
end
section
variable{X:Cx}
def xm7:V→List V→Hp→VK→Prop:=fun x vs H Q=>∃l xs y,x=.ref l∧vs=[y]∧H l=some (.lst xs)∧xs.length<sizeLine∧Q .non (upd H l (.lst (xs++[y])))
theorem zI5:MtM X "list.append" xm7:=by
 intro pins s σ H x vs v us Q I rx rv h
 obtain⟨l,xs,y,rfl,rfl,hH,hz,q⟩:=h
 cases rx
 obtain⟨u,rfl,ru⟩:=rv.one
 obtain⟨z,its,n,r,hl,e⟩:=I.lstM hH
 refine call_meets F.slot_list_append ⟨_,e,rfl⟩ F.entry_list_append (F.args_list_append_2 _ _) (PySem.list_append l its.toArray n u (by rw[List.size_toArray];lia)) ⟨e,?_⟩
 refine⟨.non,_,I.lset (its':=its++[u]) hH e (by simp) (r.append (.cons ru .nil)) ?_,rfl,q⟩
 rw[List.length_append,List.length_singleton]
 lia
end
section
variable{prog:Program}{w:World}{A:Around}{E:Value→Shared→Prop}{s:Shared}
set_option maxRecDepth 100000 in
end
section
variable{X:Cx}
end
end L2
namespace Att
open PySem PySem.W PySem.Calls PyProof.Rows
theorem ints_of_wellAll{P:Params}{h:Heap}:∀(ns:List Int) (vs:List Value),WellAll P h vs (ns.map WData.int)→IntsAre vs ns:=by
 intro ns
 induction ns with
 | nil =>
  intro vs w
  rw[List.map_nil]at w
  cases w
  exact .nil
 | cons n ns ih =>
  intro vs w
  rw[List.map_cons]at w
  cases w with
  | cons a b =>
   cases a
   exact .cons _ _ (ih _ b)
theorem script_of{l:OpenLaw}{n:Nat}(hn:l.most=some n){P:Params}{h:Heap}{args:List WData}{vals:List Value}
  (hpre:l.row.toRowW.claim.pre args=true) (hwl:WellAll P h vals args) :
  ∃a vs ns,vals=[Value.ref a]∧args=[WData.list (ns.map WData.int)]∧h.get? a=some { cls:=.type "list", data:=.seq vs.toArray }∧IntsAre vs ns∧ns.length≤n:=by
 have hsh:WShape.hasAll [] args [.list .int]=true:=(pre_splitW hpre).1
 have hc:l.pre.holds [] { args:=args }=true:=(pre_splitW hpre).2
 obtain⟨d,r,rfl,h1,h2⟩:=hasAllW_cons hsh
 obtain rfl:=hasAllW_nil h2
 obtain⟨xs,rfl,h3⟩:=hasW_list h1
 obtain⟨ns,rfl⟩:=items_int h3
 have hlen:ns.length≤n:=by
  unfold OpenLaw.pre at hc
  have h4:(WTm.not (.lt (.lit (.int (n:Int))) (.len (.arg 0)))).holds [] { args:=[.list (ns.map .int)] }=true:=by
   have h4:=(holds_andW hc).1
   rw[hn]at h4
   exact h4
  have h5:=condW_of h4 (w_not (w_lt w_lit (w_len_list (w_arg rfl))))
  rw[List.length_map]at h5
  refine Nat.le_of_not_lt fun q=>?_
  have q':(n:Int)<((ns.length:Nat):Int):=by lia
  first
   |(rw[decide_eq_true q']at h5;exact absurd h5 (by decide))
   |(simp at h5;lia)
 cases hwl with
 | cons w1 w2 =>
  cases w2
  cases w1 with
  |list ho hall=>exact⟨_,_,ns,rfl,rfl,ho,ints_of_wellAll ns _ hall,hlen⟩
theorem post_true(l:OpenLaw)(args:List WData):l.row.toRowW.claim.post args (.bool true) args=true :=
 postW_of (r:=l.row.toRowW) (X:=(true==true))
  (show WShape.has [] (.bool true) .bool=true by first |rfl |decide |simp[WShape.has,WShape.arms,WShape.armsAll])
  (show (WTm.eq .res (.lit (.bool true))).value [] { args:=args,res:=some (.bool true),after:=args }=some (.bool (true==true))from w_eq_bool (w_res rfl) w_lit) rfl
theorem attach_call{l:OpenLaw}{n:Nat}{q:Program}{loose:List Str}{XP:(Str→Option Value)→Heap→Prop}{YP:World→Heap→Prop}{d:DefRec}
  (hn:l.most=some n) (hdf:d.params.defaults=[])
  (call:∀(w:World) (s₀ s₁:Shared) (mg mb:Str→Option Value) (fa:Addr) (o:Obj) (pm cd doc:Value) (a:Addr) (vs:List Value) (ns:List Int),
   Ground q loose [] XP w s₀ mg mb s₁.heap→YP w s₁.heap →
   s₁.heap.get? fa=some o→o.data=.func (docDef d.name d.params d.body d.scope pm cd doc)→s₁.heap.CodeRec cd d.name→mg d.name=some (.ref fa) →
   s₁.heap.get? a=some { cls:=.type "list", data:=.seq vs.toArray }→IntsAre vs ns→ns.length≤n→s₁.gens=#[] →
   codeAny (model l.prog w) callerA (.call (.ref fa) ⟨[.ref a],[]⟩) (fun r s'=>r=.ok (.ret (.bool true))∧OldK s₁.heap s'.heap∧s'.os=s₁.os∧AllBare s'.gens) s₁) :
  WalkO q loose XP YP l.row.toRowW d [] (fun f vs=>PySem.call f vs):=by
 intro w s₀ s₁ mg mb G Y fa o pm cd doc dV kV ho hd hcd hD hmg hg args vals as hpre hlay hrd hwl hlo
 obtain rfl:dV=.none:=Dflts.none hD hdf
 obtain rfl:kV=.none:=Dflts.noKw hD
 obtain⟨a,vs,ns,rfl,rfl,hobj,hints,hlen⟩:=script_of hn hpre hwl
 refine enter_call (codeAny_mono (call w s₀ s₁ mg mb fa o pm cd doc a vs ns G Y ho (fd_plain hd) hcd hmg hobj hints hlen hg) fun r s' hq=>?_)
 obtain⟨rfl,h2,h3,h4⟩:=hq
 exact⟨.inl ⟨.bool true,.bool true,[],rfl,fun _=>rfl,.bool true,post_true l _,fun _=>⟨List.Pairwise.nil,fun _ hm=>(nomatch hm)⟩⟩,h2,h3,h4⟩
section
variable{prog:Program}{w:World}{A:Around}{E:Value→Shared→Prop}{s:Shared}{K:Frag}
end
end Att
namespace L2
open PySem PySem.Spec PyProof.Rows
theorem zS8:∀{vs:List Value} {ns:List Int},IntsAre vs ns→zi9 (ns.map V.int) vs
 |_,_,.nil=>.nil
 |_,_,.cons n t h=>.cons ⟨t,rfl⟩ (zS8 h)
def xu7(H:Hp):Prop:=∀b,H b=none∨∃o xs,H b=some (.frz o (.lst xs))
theorem yA7{P:Program}{w:World}{K:Frag}{mg mb:Str→Option Value}{CX:CXT}{k:Nat}{fa a:Addr}{fd:FuncData}{x:Str}{sp:Sp}{s₁:Shared}{vs:List Value}{ns:List Int}
  (KX:K.In s₁.heap) (hns:s₁.heap.Ns mainGlobals mg) (hb:s₁.heap.Ns builtinsNs mb) (hbb:∀x:Str,x ≠ "__name__" → mb x=bootBuiltins x) (hlim:s₁.heap.NoLimit) (hg:s₁.gens=#[])
  (ha:s₁.heap.get? a=some { cls:=.type "list", data:=.seq vs.toArray }) (hi:IntsAre vs ns) (hl:ns.length≤sizeLine) (hr:zo2 k callerA)
  (F:∀base:Heap,K.In base→base.Ns mainGlobals mg→zq2 P w K mg base CX k fa fd [x] sp) (hbind:∀(s:Shared) (u:Value),BindsTo s fd ⟨[u],[]⟩ [(x,u)])
  (hsp:∀H:Hp,xu7 H→SqL K H a (ns.map V.int)→sp [.ref a] H (fun v _=>v=.bl true) fun _ _ _=>False)
  (hCX:∀H e s',CX [] H s₁ (fun _ _ _=>False) e s'→False) :
  codeAny (model P w) callerA (.call (.ref fa) ⟨[.ref a],[]⟩) (fun r s'=>r=.ok (.ret (.bool true))∧OldK s₁.heap s'.heap∧s'.os=s₁.os∧AllBare s'.gens) s₁:=by
 have rv:=zS8 hi
 have lenV:=hi.length
 -- from an abstract heap in which nothing but the script may be tracked
 have core:∀H:Hp,xu7 H→SqL K H a (ns.map V.int)→HOk P w H s₁.heap→(∀b,H b≠none→b=a)→(H a≠none→K.lookup a=none) →
   codeAny (model P w) callerA (.call (.ref fa) ⟨[.ref a],[]⟩) (fun r s'=>r=.ok (.ret (.bool true))∧OldK s₁.heap s'.heap∧s'.os=s₁.os∧AllBare s'.gens) s₁:=by
  intro H hO hS hok hA hK
  have base_of:∀{b:Addr} {o:Obj},s₁.heap.get? b=some o→H b=none→(yB7 s₁.heap H).get? b=some o:=fun e n=>yC5 e n
  have noA:∀{b:Addr} {o:Obj} {es:Array DictEntry} {ep:Nat},s₁.heap.get? b=some o→o.data=.dict es ep→H b=none:=fun {b o es ep} e d=>by
   cases q:H b with
   |none=>rfl
   | some u =>
    have e':b=a:=hA b (by rw[q];simp)
    subst e'
    rw[ha]at e;cases e
    have d':Data.seq vs.toArray _=Data.dict es ep:=d
    cases d'
  have nsK:∀{b:Addr} {m:Str→Option Value},s₁.heap.Ns b m→(yB7 s₁.heap H).Ns b m:=fun {b m} ⟨o,es,ep,e,d,r⟩=>⟨o,es,ep,base_of e (noA e d),d,r⟩
  have hKb:K.In (yB7 s₁.heap H):=fun b o e=>base_of (KX b o e) (by
   cases q:H b with
   |none=>rfl
   | some u =>
    have e':b=a:=hA b (by rw[q];simp)
    subst e'
    rw[hK (by rw[q];simp)]at e;cases e)
  have hM:Mod K mg (yB7 s₁.heap H):=⟨hKb,nsK hns,⟨mb,nsK hb,hbb⟩,let⟨mc,h1,h2⟩:=hlim;⟨mc,nsK h1,h2⟩⟩
  have e0:xk4 P w K mg (yB7 s₁.heap H) callerA [] s₁ H:=⟨rfl,hM,fun b o e=>yI0 e,Nat.le_of_eq (yt7 _ _),trivial,fun b hb=>absurd (show b∈([]:List Addr)from hb) (by simp),hok,.of_eq hg⟩
  refine codeAny_mono ((F _ hKb (nsK hns)).run callerA [] s₁ H ⟨[.ref a],[]⟩ [.ref a] [.ref a] _ _ hr e0 (hbind s₁ (.ref a)) (.cons rfl .nil) (hsp H hO hS)) fun r s' h=>?_
  cases r with
  |error e=>exact (hCX H e s' h).elim
  | ok fl =>
   cases fl with
   |next=>exact False.elim h
   |brk=>exact False.elim h
   |cont=>exact False.elim h
   | ret u =>
    obtain⟨v,H',os,bare,un,hok',r',q⟩:=h
    have q':v=.bl true:=q
    subst q'
    obtain rfl:u=Value.bool true:=r'
    refine⟨rfl,OldK.of_keep fun b o e=>?_,os,bare⟩
    cases q:H b with
    |none=>exact un.keep b o e q (by intro z;exact absurd (show b∈([]:List Addr)from z) (by simp)) (by simp)
    | some u =>
     rcases hO b with z |⟨ob,xs,z⟩
     ·rw[q]at z;cases z
     ·have z2:=un.frzs b ob _ z
      obtain⟨e1,_⟩:=hok b _ z
      obtain⟨e2,_⟩:=hok' b _ z2
      rw[e]at e1;cases e1
      exact e2
 cases hk:K.lookup a with
 | some o =>
  -- the script is one of the module's own objects
  have e:=KX a o hk
  rw[ha]at e
  cases e
  refine core (fun _=>none) (fun _=>.inl rfl) (.inr ⟨_,vs.toArray,_,hk,rfl,rfl,rfl,by rw[List.size_toArray,lenV];exact hl,by simpa using rv⟩) (fun b u z=>by have z':(none:Option HO)=some u:=z;cases z') (fun b z=>absurd rfl z) fun z=>absurd rfl z
 | none =>
  refine core (fun b=>if b=a then some (.frz { cls:=.type "list", data:=.seq vs.toArray } (.lst (ns.map V.int)))else none) (fun b=>?_) (.inl (.inr ⟨{ cls:=.type "list", data:=.seq vs.toArray },if_pos rfl⟩)) (fun b u z=>?_) (fun b z=>?_) fun _=>hk
  ·by_cases hb:b=a
   ·exact .inr ⟨_,_,if_pos hb⟩
   ·exact .inl (if_neg hb)
  ·by_cases hb:b=a
   ·have z':=(if_pos hb).symm.trans z
    cases z'
    subst hb
    exact⟨ha,by rw[List.length_map];exact hl,vs,_,rv,ha⟩
   ·have z':=(if_neg hb).symm.trans z
    cases z'
  ·by_cases hb:b=a
   ·exact hb
   ·exact absurd (if_neg hb) z
theorem xu0{l:PySem.W.OpenLaw}{n k:Nat}{q:Program}{loose:List Str}{XP:(Str→Option Value)→Heap→Prop}{YP:World→Heap→Prop}{d:DefRec}{K:Params→Frag}{CX:World→CXT}{sp:World→Sp}{x:Str}
  (hn:l.most=some n) (hn2:n≤sizeLine) (hdf:d.params.defaults=[]) (hr:zo2 k callerA)
  (hY:∀(w:World) (h:Heap),YP w h→(K w.params).In h)
  (F:∀(w:World) (mg:Str→Option Value) (fa:Addr) (h:Heap),(K w.params).In h→h.Ns mainGlobals mg→mg d.name=some (.ref fa) →
   ∃ fd:FuncData,(∀(s:Shared) (u:Value),BindsTo s fd ⟨[u],[]⟩ [(x,u)]) ∧
    ∀base:Heap,(K w.params).In base→base.Ns mainGlobals mg→zq2 l.prog w (K w.params) mg base (CX w) k fa fd [x] (sp w))
  (hsp:∀(w:World) (H:Hp) (a:Addr) (ns:List Int),ns.length≤n→xu7 H→SqL (K w.params) H a (ns.map V.int)→sp w [.ref a] H (fun v _=>v=.bl true) fun _ _ _=>False)
  (hCX:∀(w:World) (H:Hp) (s:Shared) (e:Value) (s':Shared),CX w [] H s (fun _ _ _=>False) e s'→False) :
  PySem.W.WalkO q loose XP YP l.row.toRowW d [] (fun f vs=>PySem.call f vs):=by
 refine Att.attach_call hn hdf fun w s₀ s₁ mg mb fa o pm cd doc a vs ns G Y ho hd hcd hmg hobj hints hlen hg=>?_
 have KX:=hY w _ Y
 obtain⟨fd,hb,hF⟩:=F w mg fa _ KX G.T.g hmg
 exact yA7 KX G.T.g G.T.b G.T.builtins G.T.nolimit hg hobj hints (Nat.le_trans hlen hn2) hr hF hb (fun H hO hS=>hsp w H a ns hlen hO hS) fun H e s'=>hCX w H s₁ e s'
noncomputable def zb2(s:Stmt):Arguments:=match s with
 |.FunctionDef _ a _ _ _ _ _ _ _ _=>a
 |_=>{ posonlyargs:=[],args:=[],vararg:=none,kwonlyargs:=[],kw_defaults:=[],kwarg:=none,defaults:=[] }
noncomputable def za9(s:Stmt):List Stmt:=match s with
 |.FunctionDef _ _ b _ _ _ _ _ _ _=>b
 |_=>[]
noncomputable def za5(s:Stmt):Scope:=match s with
 |.FunctionDef _ _ _ _ _ _ sc _ _ _=>sc
 |_=>{ kind:=.function,names:=[],isGenerator:=false,isCoroutine:=false }
noncomputable abbrev CX0:CXT:=fun _ _ _ _ _ _=>False
noncomputable abbrev E0:XK:=fun _ _ _=>False
theorem xm6{X:Cx}:yj6 CX0 X E0:=fun _ _ _ _ _ _ _ h=>h.elim
structure Fun(K:Frag)(x qual:Str)(st:Stmt)(f:Addr)(fd:FuncData):Prop where
 ex:∃(oc:Value) (od:Option Addr) (kV doc pm:Value) (an:Option Addr) (cdv ct:Value) (osl:Array (Option Value)),
  fd=fnOf x qual (zb2 st) (za9 st) (za5 st) .none kV doc pm an cdv ct∧K.lookup f=some ⟨oc,od,.func fd,osl⟩∧codeIn K cdv qual=true
 kp:keepIn K (.ref f)=true
section
variable{P:Program}{w:World}{K:Frag}{mg:Str→Option Value}{base:Heap}
theorem Fun.ok{x qual:Str}{st:Stmt}{f:Addr}{fd:FuncData}{N ps:List Str}{k:Nat}{sp:Sp}(F:Fun K x qual st f fd)(S:zd5 N ps (za5 st))(len:∀vs H Q E,sp vs H Q E→vs.length=ps.length)
  (hbody:∀(cdv:Value) (A:Around) (outer:List Env) (s:Shared) (H:Hp) (vs:List V) (Q:VK) (E:XK),zo2 k (A.deeper (envOfC qual (za5 st) s.heap.objs.size f cdv))→sp vs H Q E →
   ∃t,PSs (zs8 CX0 P w K mg base N qual (za5 st) f cdv A outer s H E).nox (za9 st) t∧t { nx:=fun _ H'=>Q .non H',rt:=Q } (start N vs) H):zq2 P w K mg base CX0 (k+1) f fd ps sp:=by
 obtain⟨oc,od,kV,doc,pm,an,cdv,ct,osl,rfl,lk,hcd⟩:=F.ex
 refine xt1 lk hcd S len fun A outer s H vs Q E hr hsp=>?_
 obtain⟨t,h,q⟩:=hbody cdv A outer s H vs Q E hr hsp
 exact⟨t,h.nox,q⟩
theorem Fun.binds{x qual:Str}{st:Stmt}{f:Addr}{fd:FuncData}{ps:List Str}(F:Fun K x qual st f fd)
  (h:∀(kV doc pm:Value) (an:Option Addr) (cdv ct:Value) (us:List Value),us.length=ps.length→bindArgs (fnOf x qual (zb2 st) (za9 st) (za5 st) .none kV doc pm an cdv ct) ⟨us,[]⟩=pure (ps.zip us)):Binds K fd ps []:=by
 obtain⟨oc,od,kV,doc,pm,an,cdv,ct,osl,rfl,lk,hcd⟩:=F.ex
 exact .all (h kV doc pm an cdv ct)
theorem zh5{x qual:Str}{st:Stmt}{f:Addr}{oc:Value}{od an:Option Addr}{osl:Array (Option Value)}{kV doc pm cdv ct:Value}(l:K.lookup f=some ⟨oc,od,.func (fnOf x qual (zb2 st) (za9 st) (za5 st) .none kV doc pm an cdv ct),osl⟩)
  (c:codeIn K cdv qual=true) (k:keepIn K (.ref f)=true):Fun K x qual st f (fnOf x qual (zb2 st) (za9 st) (za5 st) .none kV doc pm an cdv ct):=⟨⟨oc,od,kV,doc,pm,an,cdv,ct,osl,rfl,l,c⟩,k⟩
end
section
variable{X:Cx}
theorem pv(i:Nat){x:Str}{pos:Pos}(hN:X.N[i]?=some x)(hv:Vis X.env.scope x)(hd:(x==("__debug__" : Str))=false)
  (hcd:(x==("__classdict__" : Str))=false):PE X (.Name x pos) (tVar i):=yE4 hN hv hd hcd
end
theorem iteF{A B:Prop}(h:B):if false=true then A else B:=by
 rw[if_neg Bool.false_ne_true]
 exact h
theorem iteT{A B:Prop}(h:A):if true=true then A else B:=by
 rw[if_pos rfl]
 exact h
def zl0(H H':Hp):Prop:=∀b o,H b=some o→H' b=some o
theorem zl0.refl(H:Hp):zl0 H H:=fun _ _ h=>h
theorem zl0.seq{K:Frag}{H H':Hp}{a:Addr}{xs:List V}(e:zl0 H H')(h:SqL K H a xs):SqL K H' a xs:=by
 rcases h with (h |⟨o,h⟩)|h
 ·exact .inl (.inl (e _ _ h))
 ·exact .inl (.inr ⟨o,e _ _ h⟩)
 ·exact .inr h
end L2
namespace HT
open PySem
structure Low(xs:Array Nat)(j r:Nat):Prop where
 le:r≤xs.size
 lo:∀i (h:i<xs.size),i<r→xs[i]<j
 hi:∀i (h:i<xs.size),r≤i→j≤xs[i]
end HT
namespace HT
open PySem
end HT
namespace HT
open PySem
section
variable{prog:Program}{w:World}{K:Type}[DecidableEq K]{knd:KeyKind prog w K}{A:Around}{E:Value→Shared→Prop}{s:Shared}
end
end HT
namespace HT
open PySem PyProof.Rows
section
variable{K:Type}[DecidableEq K]
end
section
variable{prog:Program}{w:World}{K:Type}[DecidableEq K]{knd:KeyKind prog w K}
variable{A:Around}{R:Result→Shared→Prop}{I:Addr}{fp wr:List Addr}{G:Array GenState→Array GenState→Prop}{n:Nat}{P:Nat→Value→Prop}{St:Nat→Shared→Prop}
end
section
variable{prog:Program}{w:World}{A:Around}{E:Value→Shared→Prop}{s:Shared}
end
end HT
namespace HT
open PySem PyProof.Rows
section
variable{prog:Program}{w:World}{K:Type}[DecidableEq K]{knd:KeyKind prog w K}{A:Around}{E:Value→Shared→Prop}{s:Shared}
end
end HT
namespace HT
open PySem PyProof.Rows
section
variable{prog:Program}{w:World}{A:Around}{E:Value→Shared→Prop}{s:Shared}
end
end HT
namespace HT
open PySem PyProof.Rows
section
variable{prog:Program}{w:World}{A:Around}{E:Value→Shared→Prop}{s:Shared}
end
end HT
namespace HT
open PySem PyProof.Rows
section
variable{prog:Program}{w:World}{A:Around}{E:Value→Shared→Prop}{s:Shared}
end
end HT
namespace HT
open PySem PyProof.Rows
noncomputable abbrev sameG(a b:Array GenState):Prop:=b=a
section
variable{prog:Program}{w:World}{A:Around}{E:Value→Shared→Prop}{s:Shared}
end
end HT
namespace HT
open PySem PyProof.Rows
structure SW(prog:Program)(w:World)(I:Addr)(fp:List Addr)(vs:List Value)(St:Nat→Shared→Prop):Prop where
 walk:∀B:Around,B.handled=none→WalksS prog w B I fp [I] sameG vs.length (fun i v=>vs[i]?=some v) St
 typ:∀i z,St i z→z.TypeIs (.ref I) "set_iterator"
section
variable{prog:Program}{w:World}{K:Type}[DecidableEq K]{knd:KeyKind prog w K}{A:Around}{E:Value→Shared→Prop}{s:Shared}
end
end HT
namespace HT
open PySem PyProof.Rows
section
variable{prog:Program}{w:World}{K:Type}[DecidableEq K]{knd:KeyKind prog w K}{A:Around}{E:Value→Shared→Prop}{s:Shared}
end
end HT
namespace HT
open PySem PyProof.Rows
section
variable{prog:Program}{w:World}{A:Around}{E:Value→Shared→Prop}{s:Shared}
theorem strs_len:∀{vs:List Value} {ss:List Str},StrsAre vs ss→ss.length=vs.length
 |_,_,.nil=>rfl
 |_,_,.cons x t r=>by simp[strs_len r]
end
end HT
namespace OR
open PySem L2
mutual
/-- a pure value stands at v;lv: the mutable objects' addresses -/
noncomputable def RP(K:Frag)(H:Hp)(lv:Addr→Prop):PV→V→Prop
 |.non,v=>v=.non
 |.bl b,v=>v=.bl b
 |.int i,v=>v=.int i
 |.str cs,v=>v=.str ⟨cs.toArray⟩∧cs.length≤sizeLine
 |.tup xs,v=>∃a vs,v=.ref a∧SqT K H a vs∧RPs K H lv xs vs
 |.lst xs,v=>∃a vs,v=.ref a∧SqL K H a vs∧¬lv a∧RPs K H lv xs vs
noncomputable def RPs(K:Frag)(H:Hp)(lv:Addr→Prop):List PV→List V→Prop
 |[],vs=>vs=[]
 |x::r,vs=>∃v vr,vs=v::vr∧RP K H lv x v∧RPs K H lv r vr
end
structure Al where
 adr:List Addr
 rsv:Addr→Prop
def zh4(α:Al)(st:za6)(a:Addr):Prop:=α.rsv a∨∃n o,α.adr[n]?=some a∧zd0 st n=some o∧o≠.dead
noncomputable def keyOf:PV→Option Key
 |.int i=>some (.inl i)
 |.str cs=>some (.inr ⟨cs.toArray⟩)
 |_=>none
def RKV(K:Frag)(H:Hp)(lv:Addr→Prop):List (PV×PV)→List (Key×V)→Prop
 |[],l=>l=[]
 |(k,x)::r,l=>∃k' v l',l=(k',v)::l'∧keyOf k=some k'∧RP K H lv x v∧RKV K H lv r l'
noncomputable def yE5:List PV→Option (List Key)
 |[]=>some []
 |.str cs::r=>(yE5 r).map (.inr ⟨cs.toArray⟩ :: ·)
 |_=>none
noncomputable def keysOf:PV→Option (List Key)
 |.tup xs=>yE5 xs
 |_=>none
def RKT(K:Frag)(H:Hp)(lv:Addr→Prop):List (PV×PV)→List (List Key×V)→Prop
 |[],l=>l=[]
 |(k,x)::r,l=>∃k' v l',l=(k',v)::l'∧keysOf k=some k'∧RP K H lv x v∧RKT K H lv r l'
structure RSt(K:Frag)(α:Al)(st:za6)(H:Hp):Prop where
 len:α.adr.length=st.length
 lst:∀n xs,zd0 st n=some (.lst xs)→∃a vs,α.adr[n]?=some a∧H a=some (.lst vs)∧RPs K H (zh4 α st) xs vs
 dct:∀n kvs,zd0 st n=some (.dct kvs)→∃a l,α.adr[n]?=some a∧H a=some (.dK l)∧RKV K H (zh4 α st) kvs l
 dtt:∀n kvs,zd0 st n=some (.dtt kvs)→∃a l,α.adr[n]?=some a∧H a=some (.dT l)∧RKT K H (zh4 α st) kvs l
 inj:∀(n m:Nat) a o o',n≠m→α.adr[n]?=some a→α.adr[m]?=some a→zd0 st n=some o→zd0 st m=some o'→o=.dead∨o'=.dead
 nk:∀a,zh4 α st a→K.lookup a=none
 dis:∀(n:Nat) a o,α.adr[n]?=some a→zd0 st n=some o→o≠.dead→¬α.rsv a
 rsv:∀a,α.rsv a→∃vs,H a=some (.lst vs)
def RV(K:Frag)(α:Al)(st:za6)(H:Hp):Val→V→Prop
 |.p x,v=>RP K H (zh4 α st) x v
 |.ref n,v=>∃a,v=.ref a∧α.adr[n]?=some a
structure Ext(K:Frag)(α:Al)(st:za6)(H:Hp)(α':Al)(st':za6)(H':Hp):Prop where
 pre:∀(n:Nat) a,α.adr[n]?=some a→α'.adr[n]?=some a
 tup:∀a vs,SqT K H a vs→SqT K H' a vs
 lst:∀a vs,SqL K H a vs→¬zh4 α st a→SqL K H' a vs∧¬zh4 α' st' a
 rsv:α'.rsv=α.rsv
 raw:∀a,α.rsv a→H' a=H a
section
variable{K:Frag}{α α' α2:Al}{st st' st2:za6}{H H' H2:Hp}{lv lv':Addr→Prop}
theorem Ext.refl:Ext K α st H α st H:=⟨fun _ _ h=>h,fun _ _ h=>h,fun _ _ h n=>⟨h,n⟩,rfl,fun _ _=>rfl⟩
theorem Ext.trans(a:Ext K α st H α' st' H')(b:Ext K α' st' H' α2 st2 H2):Ext K α st H α2 st2 H2 :=
 ⟨fun n x h=>b.pre n x (a.pre n x h),fun x vs h=>b.tup x vs (a.tup x vs h),fun x vs h n=>let⟨h1,n1⟩:=a.lst x vs h n;b.lst x vs h1 n1,b.rsv.trans a.rsv,fun x h=>(b.raw x (by rw[a.rsv];exact h)).trans (a.raw x h)⟩
mutual
theorem RP.mono(ht:∀a vs,SqT K H a vs→SqT K H' a vs)(hl:∀a vs,SqL K H a vs→¬lv a→SqL K H' a vs∧¬lv' a):∀(x:PV) (v:V),RP K H lv x v→RP K H' lv' x v
 |.non,v,h=>by rw[RP]at h ⊢;exact h
 |.bl b,v,h=>by rw[RP]at h ⊢;exact h
 |.int i,v,h=>by rw[RP]at h ⊢;exact h
 |.str cs,v,h=>by rw[RP]at h ⊢;exact h
 | .tup xs,v,h=>by
  rw[RP]at h ⊢
  obtain⟨a,vs,e,q,r⟩:=h
  exact⟨a,vs,e,ht a vs q,RPs.mono ht hl xs vs r⟩
 | .lst xs,v,h=>by
  rw[RP]at h ⊢
  obtain⟨a,vs,e,q,n,r⟩:=h
  obtain⟨q',n'⟩:=hl a vs q n
  exact⟨a,vs,e,q',n',RPs.mono ht hl xs vs r⟩
theorem RPs.mono(ht:∀a vs,SqT K H a vs→SqT K H' a vs)(hl:∀a vs,SqL K H a vs→¬lv a→SqL K H' a vs∧¬lv' a):∀(xs:List PV) (vs:List V),RPs K H lv xs vs→RPs K H' lv' xs vs
 |[],vs,h=>by rw[RPs]at h ⊢;exact h
 | x::r,vs,h=>by
  rw[RPs]at h ⊢
  obtain⟨v,vr,e,q,t⟩:=h
  exact⟨v,vr,e,RP.mono ht hl x v q,RPs.mono ht hl r vr t⟩
end
theorem RKV.mono(ht:∀a vs,SqT K H a vs→SqT K H' a vs)(hl:∀a vs,SqL K H a vs→¬lv a→SqL K H' a vs∧¬lv' a):∀(kvs:List (PV×PV)) (l:List (Key×V)),RKV K H lv kvs l→RKV K H' lv' kvs l
 |[],l,h=>by rw[RKV]at h ⊢;exact h
 | (k,x)::r,l,h=>by
  rw[RKV]at h ⊢
  obtain⟨k',v,l',e,ek,q,t⟩:=h
  exact⟨k',v,l',e,ek,RP.mono ht hl x v q,RKV.mono ht hl r l' t⟩
theorem RKT.mono(ht:∀a vs,SqT K H a vs→SqT K H' a vs)(hl:∀a vs,SqL K H a vs→¬lv a→SqL K H' a vs∧¬lv' a):∀(kvs:List (PV×PV)) (l:List (List Key×V)),RKT K H lv kvs l→RKT K H' lv' kvs l
 |[],l,h=>by rw[RKT]at h ⊢;exact h
 | (k,x)::r,l,h=>by
  rw[RKT]at h ⊢
  obtain⟨k',v,l',e,ek,q,t⟩:=h
  exact⟨k',v,l',e,ek,RP.mono ht hl x v q,RKT.mono ht hl r l' t⟩
theorem Ext.rp(e:Ext K α st H α' st' H'){x:PV}{v:V}(h:RP K H (zh4 α st) x v):RP K H' (zh4 α' st') x v:=RP.mono e.tup e.lst x v h
theorem Ext.rps(e:Ext K α st H α' st' H'){x:List PV}{v:List V}(h:RPs K H (zh4 α st) x v):RPs K H' (zh4 α' st') x v:=RPs.mono e.tup e.lst x v h
theorem Ext.rv(e:Ext K α st H α' st' H'){x:Val}{v:V}(h:RV K α st H x v):RV K α' st' H' x v:=by
 cases x with
 |p x=>exact e.rp h
 |ref n=>obtain⟨a,h1,h2⟩:=h;exact⟨a,h1,e.pre n a h2⟩
theorem SqT.same{a:Addr}{vs:List V}(s:zl0 H H')(h:SqT K H a vs):SqT K H' a vs:=by
 rcases h with (h |⟨o,h⟩)|h
 ·exact .inl (.inl (s _ _ h))
 ·exact .inl (.inr ⟨o,s _ _ h⟩)
 ·exact .inr h
theorem Ext.of_same(r:RSt K α st H)(s:zl0 H H'):Ext K α st H α st H':=⟨fun _ _ h=>h,fun _ _ h=>SqT.same s h,fun _ _ h n=>⟨zl0.seq s h,n⟩,rfl,fun a ha=>by
 obtain⟨vs,e⟩:=r.rsv a ha
 rw[e,s _ _ e]⟩
theorem RSt.same(s:zl0 H H')(r:RSt K α st H):RSt K α st H':=by
 refine⟨r.len,fun n xs h=>?_,fun n kvs h=>?_,fun n kvs h=>?_,r.inj,r.nk,r.dis,fun a ha=>let⟨vs,e⟩:=r.rsv a ha;⟨vs,s _ _ e⟩⟩
 ·obtain⟨a,vs,h1,h2,h3⟩:=r.lst n xs h
  exact⟨a,vs,h1,s _ _ h2,(Ext.of_same r s).rps h3⟩
 ·obtain⟨a,vs,h1,h2,h3⟩:=r.dct n kvs h
  exact⟨a,vs,h1,s _ _ h2,RKV.mono (fun _ _ h=>SqT.same s h) (fun _ _ h n=>⟨zl0.seq s h,n⟩) _ _ h3⟩
 ·obtain⟨a,vs,h1,h2,h3⟩:=r.dtt n kvs h
  exact⟨a,vs,h1,s _ _ h2,RKT.mono (fun _ _ h=>SqT.same s h) (fun _ _ h n=>⟨zl0.seq s h,n⟩) _ _ h3⟩
theorem zg8{p:Addr}(h:H p=none)(o:HO):zl0 H (upd H p o):=fun b u q=>by rw[zf5 (zr3 q h)];exact q
theorem RSt.live(r:RSt K α st H){a:Addr}(h:zh4 α st a):(∃vs,H a=some (.lst vs))∨(∃l,H a=some (.dK l))∨∃l,H a=some (.dT l):=by
 rcases h with h |⟨n,o,h1,h2,h3⟩
 ·exact .inl (r.rsv a h)
 cases o with
 |lst xs=>obtain⟨a',vs,e1,e2,_⟩:=r.lst n xs h2;rw[h1]at e1;cases e1;exact .inl ⟨vs,e2⟩
 |dct kvs=>obtain⟨a',vs,e1,e2,_⟩:=r.dct n kvs h2;rw[h1]at e1;cases e1;exact .inr (.inl ⟨vs,e2⟩)
 |dtt kvs=>obtain⟨a',vs,e1,e2,_⟩:=r.dtt n kvs h2;rw[h1]at e1;cases e1;exact .inr (.inr ⟨vs,e2⟩)
 |dead=>exact absurd rfl h3
theorem RSt.notlive(r:RSt K α st H){a:Addr}(h:H a=none):¬zh4 α st a:=fun l=>by
 rcases r.live l with⟨_,e⟩|⟨_,e⟩|⟨_,e⟩ <;> rw[h]at e <;> cases e
theorem RPs.length:∀{xs:List PV} {vs:List V},RPs K H lv xs vs→xs.length=vs.length
 |[],vs,h=>by rw[RPs]at h;subst h;rfl
 | x::r,vs,h=>by
  rw[RPs]at h
  obtain⟨v,vr,e,_,t⟩:=h
  subst e
  simp[RPs.length t]
theorem RPs.get:∀{xs:List PV} {vs:List V} {i:Nat} {x:PV},RPs K H lv xs vs→xs[i]?=some x→∃v,vs[i]?=some v∧RP K H lv x v
 |[],_,_,_,_,e=>by simp at e
 | y::r,vs,0,x,h,e=>by
  rw[RPs]at h
  obtain⟨v,vr,e',q,t⟩:=h
  subst e'
  simp at e;subst e
  exact⟨v,rfl,q⟩
 | y::r,vs,i+1,x,h,e=>by
  rw[RPs]at h
  obtain⟨v,vr,e',q,t⟩:=h
  subst e'
  obtain⟨w,h1,h2⟩:=RPs.get (i:=i) (x:=x) t (by simpa using e)
  exact⟨w,by simpa using h1,h2⟩
theorem RPs.append:∀{xs ys:List PV} {vs ws:List V},RPs K H lv xs vs→RPs K H lv ys ws→RPs K H lv (xs++ys) (vs++ws)
 |[],_,vs,_,h,t=>by rw[RPs]at h;subst h;exact t
 | x::r,ys,vs,ws,h,t=>by
  rw[RPs]at h
  obtain⟨v,vr,e,q,t'⟩:=h
  subst e
  rw[List.cons_append,List.cons_append,RPs]
  exact⟨v,_,rfl,q,RPs.append t' t⟩
theorem RPs.snoc{xs:List PV}{vs:List V}{x:PV}{v:V}(h:RPs K H lv xs vs)(q:RP K H lv x v):RPs K H lv (xs++[x]) (vs++[v]) :=
 h.append (by rw[RPs];exact⟨v,[],rfl,q,by rw[RPs]⟩)
theorem RPs.take:∀(n:Nat) {xs:List PV} {vs:List V},RPs K H lv xs vs→RPs K H lv (xs.take n) (vs.take n)
 |0,_,_,_=>by rw[List.take_zero,List.take_zero,RPs]
 |n+1,[],vs,h=>by rw[RPs]at h;subst h;rw[List.take_nil,List.take_nil,RPs]
 | n+1,x::r,vs,h=>by
  rw[RPs]at h
  obtain⟨v,vr,e,q,t⟩:=h
  subst e
  rw[List.take_succ_cons,List.take_succ_cons,RPs]
  exact⟨v,_,rfl,q,RPs.take n t⟩
theorem RPs.drop:∀(n:Nat) {xs:List PV} {vs:List V},RPs K H lv xs vs→RPs K H lv (xs.drop n) (vs.drop n)
 |0,_,_,h=>h
 |n+1,[],vs,h=>by rw[RPs]at h;subst h;rw[List.drop_nil,List.drop_nil,RPs]
 | n+1,x::r,vs,h=>by
  rw[RPs]at h
  obtain⟨v,vr,e,q,t⟩:=h
  subst e
  exact RPs.drop n t
def RW(K:Frag)(α:Al)(st:za6)(H:Hp)(x:PV)(v:V):Prop :=
 RP K H (zh4 α st) x v∨∃xs a vs,x=.lst xs∧v=.ref a∧SqL K H a vs∧RPs K H (zh4 α st) xs vs
theorem RV.view{x:Val}{v:V}{y:PV}(r:RSt K α st H)(h:RV K α st H x v)(e:view st x=some y):RW K α st H y v:=by
 cases x with
 |p z=>cases e;exact .inl h
 | ref n =>
  obtain⟨a,rfl,ha⟩:=h
  have e:(match zd0 st n with |some (.lst xs)=>some (PV.lst xs)|_=>none)=some y:=e
  cases q:zd0 st n with
  |none=>rw[q]at e;cases e
  | some o =>
   cases o with
   | lst xs =>
    rw[q]at e
    cases e
    obtain⟨a',vs,h1,h2,h3⟩:=r.lst n xs q
    rw[ha]at h1;cases h1
    exact .inr ⟨xs,a,vs,rfl,rfl,SqL.of h2,h3⟩
   |dct _=>rw[q]at e;cases e
   |dtt _=>rw[q]at e;cases e
   |dead=>rw[q]at e;cases e
end
structure Lk(K:Frag)(α:Al)(st:za6)(H:Hp)(α':Al)(st':za6)(H':Hp):Prop where
 pre:∀(n:Nat) a,α.adr[n]?=some a→α'.adr[n]?=some a
 tup:∀a vs,SqT K H a vs→SqT K H' a vs
 lst:∀a vs,SqL K H a vs→¬zh4 α st a→SqL K H' a vs∧¬zh4 α' st' a
 sub:∀a,α.rsv a→α'.rsv a
 raw:∀a,α.rsv a→H' a=H a
theorem Lk.step{K:Frag}{α α' α2:Al}{st st' st2:za6}{H H' H2:Hp}(l:Lk K α st H α' st' H')(e:Ext K α' st' H' α2 st2 H2):Lk K α st H α2 st2 H2 :=
 ⟨fun n a h=>e.pre n a (l.pre n a h),fun a vs h=>e.tup a vs (l.tup a vs h),fun a vs h n=>let⟨h1,n1⟩:=l.lst a vs h n;e.lst a vs h1 n1,fun a h=>by rw[e.rsv];exact l.sub a h,fun a h=>(e.raw a (l.sub a h)).trans (l.raw a h)⟩
theorem Ext.lk{K:Frag}{α α':Al}{st st':za6}{H H':Hp}(e:Ext K α st H α' st' H'):Lk K α st H α' st' H':=⟨e.pre,e.tup,e.lst,fun a h=>by rw[e.rsv];exact h,e.raw⟩
theorem Lk.rps{K:Frag}{α α':Al}{st st':za6}{H H':Hp}(e:Lk K α st H α' st' H'){x:List PV}{v:List V}(h:RPs K H (zh4 α st) x v):RPs K H' (zh4 α' st') x v:=RPs.mono e.tup e.lst x v h
open PySem L2
theorem Res.bind_inv{α β:Type}{r:Res α}{f:α→za6→Res β}{b:β}{st':za6}(h:r.bind f=.ok b st'):∃a st1,r=.ok a st1∧f a st1=.ok b st':=by
 cases r with
 |ok a st1=>exact⟨a,st1,rfl,h⟩
 |exn c as st=>cases h
 |stuck=>cases h
theorem Res.bindB_inv{β:Type}{r:Res Val}{f:Bool→za6→Res β}{b:β}{st':za6}(h:r.bindB f=.ok b st'):∃k st1,r=.ok (.p (.bl k)) st1∧f k st1=.ok b st':=by
 obtain⟨v,st1,h1,h2⟩:=Res.bind_inv h
 cases v with
 |ref n=>cases h2
 | p x =>
  cases x with
  |bl k=>exact⟨k,st1,h1,h2⟩
  |_=>cases h2
theorem Res.bindP_inv{β:Type}{r:Res Val}{f:PV→za6→Res β}{b:β}{st':za6}(h:r.bindP f=.ok b st'):∃x st1,r=.ok (.p x) st1∧f x st1=.ok b st':=by
 obtain⟨v,st1,h1,h2⟩:=Res.bind_inv h
 cases v with
 |ref n=>cases h2
 |p x=>exact⟨x,st1,h1,h2⟩
theorem Res.bindV_inv{β:Type}{r:Res Val}{f:PV→za6→Res β}{b:β}{st':za6}(h:r.bindV f=.ok b st'):∃v x st1,r=.ok v st1∧view st1 v=some x∧f x st1=.ok b st':=by
 obtain⟨v,st1,h1,h2⟩:=Res.bind_inv h
 cases e:view st1 v with
 |none=>rw[e]at h2;cases h2
 |some x=>rw[e]at h2;exact⟨v,x,st1,h1,e,h2⟩
theorem zx5{o:Option PV}{st st':za6}{v:Val}(h:okO o st=.ok v st'):∃x,o=some x∧v=.p x∧st'=st:=by
 cases o with
 |none=>cases h
 |some x=>cases h;exact⟨x,rfl,rfl,rfl⟩
theorem yl5{f:PV→Option PV}{v:Val}{st st':za6}{z:Val}(h:op1 f v st=.ok z st'):∃x y,view st v=some x∧f x=some y∧z=.p y∧st'=st:=by
 unfold op1 at h
 cases e:view st v with
 |none=>rw[e]at h;cases h
 | some x =>
  rw[e]at h
  obtain⟨y,h1,h2,h3⟩:=zx5 h
  exact⟨x,y,rfl,h1,h2,h3⟩
theorem zH6{f:PV→PV→Option PV}{v w:Val}{st st':za6}{z:Val}(h:op2 f v w st=.ok z st'):∃x y u,view st v=some x∧view st w=some y∧f x y=some u∧z=.p u∧st'=st:=by
 unfold op2 at h
 cases e:view st v with
 |none=>rw[e]at h;cases h
 | some x =>
  rw[e]at h
  cases e2:view st w with
  |none=>rw[e2]at h;cases h
  | some y =>
   rw[e2]at h
   obtain⟨u,h1,h2,h3⟩:=zx5 h
   exact⟨x,y,u,rfl,rfl,h1,h2,h3⟩
structure At(K:Frag)(α:Al)(st:za6)(H:Hp)(env:Env)(σ:L2.St):Prop where
 len:env.length=σ.length
 rs:RSt K α st H
 env:∀(i:Nat) v,env[i]?=some (some v)→∃w,σ[i]?=some (some w)∧RV K α st H v w
theorem At.next{K:Frag}{α α':Al}{st st':za6}{H H':Hp}{env:Env}{σ:L2.St}(a:At K α st H env σ)(e:Ext K α st H α' st' H')(r:RSt K α' st' H'):At K α' st' H' env σ :=
 ⟨a.len,r,fun i v h=>let⟨w,h1,h2⟩:=a.env i v h;⟨w,h1,e.rv h2⟩⟩
noncomputable def tP(K:Frag)(C:zc5)(ir:E):TE:=fun σ H Q=>∃env α st v st',At K α st H env σ∧evalE C ir env st=.ok v st' ∧
 ∀w H' α',Ext K α st H α' st' H'→RSt K α' st' H'→RV K α' st' H' v w→Q w H'
noncomputable def tT(K:Frag)(C:zc5)(ir:E):TT:=fun σ H Q=>∃env α st b st',At K α st H env σ∧evalE C ir env st=.ok (.p (.bl b)) st' ∧
 ∀H' α',Ext K α st H α' st' H'→RSt K α' st' H'→Q b H'
noncomputable abbrev SE(X:Cx)(C:zc5)(e:Expr)(ir:E):Prop:=PE X e (tP X.K C ir)
noncomputable abbrev ST(X:Cx)(C:zc5)(e:Expr)(ir:E):Prop:=PT X e (tT X.K C ir)
theorem PE.mono{X:Cx}{e:Expr}{t t':TE}(h:PE X e t)(m:∀σ H Q,t' σ H Q→t σ H Q):PE X e t':=fun pins s σ H Q I q=>h pins s σ H Q I (m _ _ _ q)
theorem PT.mono{X:Cx}{e:Expr}{t t':TT}(h:PT X e t)(m:∀σ H Q,t' σ H Q→t σ H Q):PT X e t':=fun pins s σ H Q I q=>h pins s σ H Q I (m _ _ _ q)
theorem PW.mono{X:Cx}{e:Expr}{t t':TT}(h:PW X e t)(m:∀σ H Q,t' σ H Q→t σ H Q):PW X e t':=fun wh pins s σ H Q I q=>h wh pins s σ H Q I (m _ _ _ q)
section
variable{X:Cx}{C:zc5}{a b c:Expr}{ia ib ic:E}{pos:Pos}
theorem xp0{K:Frag}{ir:E}{σ:L2.St}{H:Hp}{Q:Bool→Hp→Prop}(h:tT K C ir σ H Q):tB (tP K C ir) σ H Q:=by
 obtain⟨env,α,st,b,st',a,e,q⟩:=h
 exact ⟨env,α,st,_,st',a,e,fun w H' α' x r v=>by
  have v':w=.bl b:=by simpa[RV,RP]using v
  exact⟨b,v',q H' α' x r⟩⟩
theorem yV0{e:Expr}{ir:E}(h:SE X C e ir)(he:∀zl9,isTrue e X.env zl9=(do let v ←zl9;standAt e.pos;holding [v] (truthy v))):ST X C e ir :=
 PT.mono (yU8 h he) fun _ _ _ q=>xp0 q
theorem yS7{i:Nat}{x:Str}(hN:X.N[i]?=some x)(hv:Vis X.env.scope x)(hd:(x==("__debug__" : Str))=false)(hcd:(x==("__classdict__" : Str))=false):SE X C (.Name x pos) (.var i) :=
 PE.mono (yE4 hN hv hd hcd) fun σ H Q h_=>by
  obtain⟨env,α,st,v,st',a,e,q⟩:=h_
  rw[yY3]at e
  unfold zI9 at e
  cases h:env[i]? with
  |none=>rw[h]at e;cases e
  | some o =>
   cases o with
   |none=>rw[h]at e;cases e
   | some u =>
    rw[h]at e
    cases e
    obtain⟨w,h1,h2⟩:=a.env i _ h
    exact⟨w,h1,q w H α .refl a.rs h2⟩
theorem xf0{e:Expr}{v:V}{x:PV}(h:PE X e (tC v))(r:∀H lv,RP X.K H lv x v):SE X C e (.const x) :=
 PE.mono h fun σ H Q h_=>by
  obtain⟨env,α,st,u,st',a,e,q⟩:=h_
  rw[yA1]at e
  cases e
  exact q v H α .refl a.rs (r _ _)
theorem xf1{i j}:SE X C (.Constant (.int i) j pos) (.const (.int i)):=xf0 yT6 fun _ _=>by rw[RP]
theorem xs8{i j}:SE X C (.Constant (.bool i) j pos) (.const (.bl i)):=xf0 xs5 fun _ _=>by rw[RP]
theorem xf5{j}:SE X C (.Constant .none j pos) (.const .non):=xf0 xe4 fun _ _=>by rw[RP]
theorem xb9{x j}{cs:List Nat}(h:x=⟨cs.toArray⟩)(hl:cs.length≤1000):SE X C (.Constant (.str x) j pos) (.const (.str cs)):=xf0 yD7 fun _ _=>by
 rw[RP];exact⟨by rw[h],Nat.le_trans hl (by decide)⟩
def Op2(X:Cx)(f:Value→Value→Sem Value)(g:PV→PV→Option PV):Prop :=
 OpR X f fun x y H Q=>∃α st px py z,RSt X.K α st H∧RW X.K α st H px x∧RW X.K α st H py y∧g px py=some z ∧
  ∀w H',zl0 H H'→RP X.K H' (zh4 α st) z w→Q w H'
theorem xp4{op:Operator}{g:PV→PV→Option PV}{ir:E}(ho:Op2 X (binaryOp op) g)(ha:SE X C a ia)(hb:SE X C b ib)
  (hi:∀env st,evalE C ir env st=(evalE C ia env st).bind fun x st=>(evalE C ib env st).bind fun y st=>op2 g x y st):SE X C (.BinOp a op b pos) ir :=
 PE.mono (xm8 ho ha hb) fun σ H Q h_=>by
  obtain⟨env,α,st,v,st',at',e,q⟩:=h_
  rw[hi]at e
  obtain⟨va,st1,e1,e⟩:=Res.bind_inv e
  obtain⟨vb,st2,e2,e⟩:=Res.bind_inv e
  obtain⟨x,y,u,h1,h2,h3,h4,h5⟩:=zH6 e
  subst h4 h5
  refine⟨env,α,st,va,st1,at',e1,fun w H1 α1 x1 r1 v1=>?_⟩
  refine⟨env,α1,st1,vb,st',at'.next x1 r1,e2,fun w2 H2 α2 x2 r2 v2=>?_⟩
  refine⟨α2,st',x,y,u,r2,(x2.rv v1).view r2 h1,v2.view r2 h2,h3,fun w3 H3 s3 rp=>?_⟩
  exact q w3 H3 α2 (x1.trans (x2.trans (.of_same r2 s3))) (r2.same s3) rp
theorem yV5{op:CmpOp}{g:PV→PV→Option PV}{ir:E}(ho:Op2 X (compareOp op) g)(ha:SE X C a ia)(hb:SE X C b ib)(hm:behindInMarks op b=false)
  (hi:∀env st,evalE C ir env st=(evalE C ia env st).bind fun x st=>(evalE C ib env st).bind fun y st=>op2 g x y st):SE X C (.Compare a [op] [b] pos) ir :=
 PE.mono (yQ6 ho ha hb hm) fun σ H Q h_=>by
  obtain⟨env,α,st,v,st',at',e,q⟩:=h_
  rw[hi]at e
  obtain⟨va,st1,e1,e⟩:=Res.bind_inv e
  obtain⟨vb,st2,e2,e⟩:=Res.bind_inv e
  obtain⟨x,y,u,h1,h2,h3,h4,h5⟩:=zH6 e
  subst h4 h5
  refine⟨env,α,st,va,st1,at',e1,fun w H1 α1 x1 r1 v1=>?_⟩
  refine⟨env,α1,st1,vb,st',at'.next x1 r1,e2,fun w2 H2 α2 x2 r2 v2=>?_⟩
  refine⟨α2,st',x,y,u,r2,(x2.rv v1).view r2 h1,v2.view r2 h2,h3,fun w3 H3 s3 rp=>?_⟩
  exact q w3 H3 α2 (x1.trans (x2.trans (.of_same r2 s3))) (r2.same s3) rp
end
open PySem L2 PySem.SeqAt PyProof.Rows
theorem xo7(a:Int)(t:Tok)(l:Addr)(is:Array Value)(n:Nat)(dd:Option Addr)(sl:Array (Option Value)):
  Meets (Builtin.«int.__rmul__» ⟨[.int a t,.ref l],[]⟩) (fun _ R s=>s.heap.get? l=some { cls:=.type "list", dict:=dd,data:=.seq is n,slots:=sl } ∧
   R (.ok (.ret Value.notImplemented)) s) :=
 .of_wp fun prog w A R s0 hh=>by
  obtain⟨hp,gg,dw,tk,oo⟩:=s0
  obtain⟨k1,k2⟩:=hh
  wp_walk
  exact⟨_,rfl,k2⟩
theorem mulW(l:Addr)(is:Array Value)(n:Nat)(x:Int)(u:Tok)(dd:Option Addr)(sl:Array (Option Value))(h0:¬(!Builtin.List.listFitsIndex x)=true)(h1:¬is.size*x.toNat > (2 ^ 63-1)/8)(h2:¬Builtin.List.listTooLong (is.size*x.toNat)=true):
  Meets (Builtin.«list.__mul__» ⟨[.ref l,.int x u],[]⟩) (fun _ R s=>s.heap.get? l=some { cls:=.type "list", dict:=dd,data:=.seq is n,slots:=sl } ∧
   R (.ok (.ret (Value.ref s.heap.objs.size))) { s with heap:=s.heap.push { cls:=.type "list", data:=.seq (List.foldl (fun x1 x2=>x1++x2) #[] (List.replicate (if is.isEmpty=true then 0 else x.toNat) is)) },toks:=s.toks }) :=
 .of_wp fun prog w A R s0 hh=>by
  obtain⟨hp,gg,dw,tk,oo⟩:=s0
  obtain⟨k1,k2⟩:=hh
  have g1:=AutoSeq1.idx_int
  have g2:=AutoListH.joined_fits h2
  wp_walk using AutoSeq1.wpAny_loadPart' k1
  refine wpAny_ite_false (decide_eq_false (Nat.not_lt.mpr g2)) ?_
  wp_walk using AutoSeq1.wpAny_loadPart' k1
  exact⟨_,rfl,k2⟩
open PySem L2 PySem.SeqAt
section
variable{K:Frag}{α:Al}{st:za6}{H:Hp}{x:V}
theorem RW.int{i:Int}(h:RW K α st H (.int i) x):x=.int i:=by
 rcases h with h |⟨_,_,_,e,_⟩
 ·rw[RP]at h;exact h
 ·cases e
theorem RW.bl{b:Bool}(h:RW K α st H (.bl b) x):x=.bl b:=by
 rcases h with h |⟨_,_,_,e,_⟩
 ·rw[RP]at h;exact h
 ·cases e
theorem RW.non(h:RW K α st H .non x):x=.non:=by
 rcases h with h |⟨_,_,_,e,_⟩
 ·rw[RP]at h;exact h
 ·cases e
theorem RW.str{cs:List Nat}(h:RW K α st H (.str cs) x):x=.str ⟨cs.toArray⟩∧cs.length≤sizeLine:=by
 rcases h with h |⟨_,_,_,e,_⟩
 ·rw[RP]at h;exact h
 ·cases e
theorem RW.tup{xs:List PV}(h:RW K α st H (.tup xs) x):∃a vs,x=.ref a∧SqT K H a vs∧RPs K H (zh4 α st) xs vs:=by
 rcases h with h |⟨_,_,_,e,_⟩
 ·rw[RP]at h;exact h
 ·cases e
theorem RW.lst{xs:List PV}(h:RW K α st H (.lst xs) x):∃a vs,x=.ref a∧SqL K H a vs∧RPs K H (zh4 α st) xs vs:=by
 rcases h with h |⟨xs',a,vs,e,e2,q,r⟩
 ·rw[RP]at h
  obtain⟨a,vs,e,q,_,r⟩:=h
  exact⟨a,vs,e,q,r⟩
 ·cases e;exact⟨a,vs,e2,q,r⟩
theorem yf5:SZ=sizeLine:=by unfold SZ;decide
end
section
variable{X:Cx}
theorem Op2.ints{f:Value→Value→Sem Value}{Cn:Int→Int→Prop}{k:Int→Int→V}{g:PV→PV→Option PV}(ho:OpR X f (rI Cn k))
  (hg:∀x y z,g x y=some z→∃i j,x=.int i∧y=.int j∧Cn i j∧∀H lv,RP X.K H lv z (k i j)):Op2 X f g:=by
 rintro pins s σ H x y v u Q I rx ry ⟨α,st,px,py,z,r,hx,hy,hz,q⟩
 obtain⟨i,j,rfl,rfl,hc,hk⟩:=hg _ _ _ hz
 exact ho pins s σ H x y v u Q I rx ry ⟨i,j,hx.int,hy.int,hc,q _ _ (zl0.refl H) (hk _ _)⟩
theorem Op2.ints0{f:Value→Value→Sem Value}{k:Int→Int→V}{g:PV→PV→Option PV}(ho:OpR X f (rI0 k))
  (hg:∀x y z,g x y=some z→∃i j,x=.int i∧y=.int j∧∀H lv,RP X.K H lv z (k i j)):Op2 X f g:=by
 rintro pins s σ H x y v u Q I rx ry ⟨α,st,px,py,z,r,hx,hy,hz,q⟩
 obtain⟨i,j,rfl,rfl,hk⟩:=hg _ _ _ hz
 exact ho pins s σ H x y v u Q I rx ry ⟨i,j,hx.int,hy.int,q _ _ (zl0.refl H) (hk _ _)⟩
theorem zV2:Op2 X (binaryOp .Sub) bSub:=Op2.ints0 yE3 fun x y z h=>by
 cases x <;> cases y <;> simp[bSub]at h
 exact⟨_,_,rfl,rfl,fun _ _=>by rw[←h,RP]⟩
theorem yW0:OpR X (binaryOp .Mult) (fun x y H Q=>∃i j,x=.int i∧y=.int j∧(zk7 i ||zk7 j)=true∧Q (.int (i*j)) H):=by
 rintro pins s σ H x y v u Q I rx ry ⟨i,j,h1,h2,hc,q⟩
 refine xb0 pins s σ H x y v u Q I rx ry ⟨i,j,h1,h2,?_,q⟩
 rcases (Bool.or_eq_true _ _).mp hc with c |c
 ·exact .inl (of_decide_eq_true c)
 ·exact .inr (of_decide_eq_true c)
theorem ye7(n:Nat)(a:List Nat):(List.replicate n a.toArray).foldl (· ++ ·) #[]=((List.replicate n a).flatten).toArray:=by
 have gen:∀(n:Nat) (b:List Nat),(List.replicate n a.toArray).foldl (· ++ ·) b.toArray=(b++(List.replicate n a).flatten).toArray:=by
  intro n
  induction n with
  |zero=>intro b;simp
  | succ n ih =>
   intro b
   rw[List.replicate_succ,List.foldl_cons,List.append_toArray,ih,List.replicate_succ,List.flatten_cons,List.append_assoc]
 exact gen n []
theorem yc3(n:Nat)(a:List Nat):(List.replicate n a).flatten.length=a.length*n:=by
 rw[List.length_flatten,List.map_replicate,List.sum_replicate_nat,Nat.mul_comm]
theorem zD9(cs:List Nat):(Str.length ⟨cs.toArray⟩)=cs.length:=by simp[Str.length]
theorem zV8(n:Nat)(a:List Value):(List.replicate n a.toArray).foldl (fun x1 x2=>x1++x2) #[]=((List.replicate n a).flatten).toArray:=by
 have gen:∀(n:Nat) (b:List Value),(List.replicate n a.toArray).foldl (fun x1 x2=>x1++x2) b.toArray=(b++(List.replicate n a).flatten).toArray:=by
  intro n
  induction n with
  |zero=>intro b;simp
  | succ n ih =>
   intro b
   rw[List.replicate_succ,List.foldl_cons,List.append_toArray,ih,List.replicate_succ,List.flatten_cons,List.append_assoc]
 exact gen n []
theorem yk2{α:Type}(n:Nat)(a:List α):(List.replicate n a).flatten.length=a.length*n:=by
 rw[List.length_flatten,List.map_replicate,List.sum_replicate_nat,Nat.mul_comm]
theorem zR3{vs:List V}{its:List Value}(h:zi9 vs its):∀n:Nat,zi9 (List.replicate n vs).flatten (List.replicate n its).flatten
 |0=>.nil
 |n+1=>by rw[List.replicate_succ,List.replicate_succ,List.flatten_cons,List.flatten_cons];exact h.append (zR3 h n)
theorem yc0{K:Frag}{H:Hp}{lv:Addr→Prop}{xs:List PV}{vs:List V}(h:RPs K H lv xs vs):∀n:Nat,RPs K H lv (List.replicate n xs).flatten (List.replicate n vs).flatten
 |0=>by simp[RPs]
 |n+1=>by rw[List.replicate_succ,List.replicate_succ,List.flatten_cons,List.flatten_cons];exact h.append (yc0 h n)
theorem yi3:Op2 X (binaryOp .Mult) bMul:=by
 rintro pins s σ H x y v u Q I rx ry ⟨α,st,px,py,z,r,hx,hy,hz,q⟩
 cases px <;> cases py <;> simp only[bMul,Option.ite_none_right_eq_some,reduceCtorEq,Option.some.injEq]at hz
 ·obtain⟨hc,hz⟩:=hz
  exact yW0 pins s σ H x y v u Q I rx ry ⟨_,_,hx.int,hy.int,hc,q _ _ (zl0.refl H) (by rw[←hz,RP])⟩
 ·rename_i a n
  obtain⟨⟨h0,h1,h2⟩,hz⟩:=hz
  rw[yf5]at h2
  obtain⟨e1,hl⟩:=hx.str
  have e2:=hy.int
  subst e1 e2
  obtain⟨t1,rfl⟩:=rx
  obtain⟨t2,rfl⟩:=ry
  have hsz:sizeLine=16777216:=by decide
  refine PySem.P.mul_str (by simp;lia) (fun g1 g2=>?_) (fun g1 g2=>?_) ?_
  ·rw[zD9]
   have:(16777216:Int)≤(2 ^ 63-1)/n:=by
    rw[Int.le_ediv_iff_mul_le (by lia)]
    lia
   lia
  ·rw[zD9]
   unfold Builtin.Str.tooLong
   exact decide_eq_false (by lia)
  ·split
   ·have e0:n=0:=by lia
    subst e0
    exact⟨by decide,.str _,H,I.tok _,⟨_,rfl⟩,q _ _ (zl0.refl H) (by rw[←hz,RP];exact⟨by rfl,by simp⟩)⟩
   ·split
    ·rename_i g1 g2
     refine⟨.str _,H,I,⟨_,rfl⟩,q _ _ (zl0.refl H) ?_⟩
     rw[←hz,RP]
     rcases (Bool.or_eq_true _ _).mp g2 with c |c
     ·have c':n=1:=eq_of_beq c
      subst c'
      have:(List.replicate (1:Int).toNat a).flatten=a:=by simp
      rw[this]
      exact⟨rfl,hl⟩
     ·have c':a.length=0:=by rw[zD9]at c;exact eq_of_beq c
      have c2:a=[]:=List.eq_nil_of_length_eq_zero c'
      subst c2
      have:(List.replicate n.toNat ([]:List Nat)).flatten=[]:=by simp
      rw[this]
      exact⟨rfl,by simp⟩
    ·have e3:(List.replicate n.toNat (⟨a.toArray⟩:Str).cps).foldl (· ++ ·) #[]=((List.replicate n.toNat a).flatten).toArray:=ye7 n.toNat a
     rw[e3]
     exact⟨by rw[zD9,yc3];exact h2,.str _,H,I.tok _,⟨_,rfl⟩,q _ _ (zl0.refl H) (by rw[←hz,RP];exact⟨rfl,by rw[yc3];exact h2⟩)⟩
 ·rename_i a n
  obtain⟨⟨h0,h1,h2⟩,hz⟩:=hz
  rw[yf5]at h2
  have hsz:sizeLine=16777216:=by decide
  obtain⟨l1,vs,rfl,hl1,hl2⟩:=hx.lst
  have e2:=hy.int
  subst e2
  cases rx
  obtain⟨t2,rfl⟩:=ry
  obtain⟨its,r1,p1,_⟩:=I.list hl1
  obtain⟨⟨cls,dd,data,sl⟩,nn,ho,hc,_,hd⟩:=id p1
  simp only at hc hd
  subst hc hd
  have q1:=r1.length
  have q2:=hl2.length
  have hsize:its.toArray.size*n.toNat≤16777216:=by rw[List.size_toArray,←q1,←q2];lia
  have ty:∀s':Shared,s'.TypeIs (Value.int n t2) "int" := fun s'=>typeIs_int s' n t2
  have inner:wpAny (model X.prog X.w) X.A (call (.builtin "list.__mul__") [.ref l1,.int n t2]) (EP X pins σ Q) X.xe s:=by
   refine call_meets F.slot_list_mul ⟨_,ho,rfl⟩ F.entry_list_mul (F.args_list_mul_2 _ _)
    (mulW l1 its.toArray nn n t2 dd sl (by simp[Builtin.List.listFitsIndex];lia) (by lia) (by simp only[Builtin.List.listTooLong,hsz];simpa using hsize)) ⟨ho,?_⟩
   have ea:List.foldl (fun x1 x2=>x1++x2) #[] (List.replicate (if its.toArray.isEmpty=true then 0 else n.toNat) its.toArray)=((List.replicate n.toNat its).flatten).toArray:=by
    by_cases hb:its=[]
    ·subst hb
     simp
    ·rw[if_neg (by simpa using hb)]
     exact zV8 _ _
   rw[ea]
   have s1:zl0 H (upd H s.heap.objs.size (.lst (List.replicate n.toNat vs).flatten)):=zg8 I.fresh _
   refine⟨.ref _,_,I.lnew (t':=s.toks) (zR3 r1 n.toNat) (by rw[yk2,←q2];lia),rfl,q _ _ s1 ?_⟩
   rw[←hz,RP]
   exact⟨_,_,rfl,SqL.of ze2,r.notlive I.fresh,yc0 ((Ext.of_same r s1).rps hl2) n.toNat⟩
  exact wpAny_binaryOp_repeat_ref (T := "list") (U := "int") (by decide) ⟨_,ho,rfl⟩ ty noFill_list_mul F.fills_int_mul F.slot_int_rmul repeat_list
   F.slot_int_index.lookup (call_meets F.slot_int_rmul (ty s) F.entry_int_rmul (F.args_int_rmul_2 _ _) (xo7 n t2 l1 its.toArray nn dd sl) ⟨ho,rfl,⟨_,ho,rfl⟩,inner⟩)
theorem yy6:OpR X (binaryOp .FloorDiv) (rI (fun _ j=>0<j∧j<1000000000000000000000000000000) fun i j=>.int (i/j)):=opI fun i j _ _ _ _ _ hc q=>by
 have h1:(0:Int)<j:=hc.1
 have h2:j<1000000000000000000000000000000:=hc.2
 refine PyProof.Rows.floordiv_int (by lia) (by rw[Int.fdiv_eq_ediv_of_nonneg i (by lia)];exact q) (.inl (PyProof.noPylong_of_log2 ?_))
 have h3:j.natAbs.log2<100:=(Nat.log2_lt (by lia)).mpr (by lia)
 lia
theorem yt3:Op2 X (binaryOp .FloorDiv) xg6:=Op2.ints yy6 fun x y z h=>by
 cases x <;> cases y <;> simp only[xg6,Option.ite_none_right_eq_some,reduceCtorEq,Option.some.injEq]at h
 exact⟨_,_,rfl,rfl,h.1,fun _ _=>by rw[←h.2,RP]⟩
theorem zI7:Op2 X (binaryOp .Mod) bMod:=Op2.ints xa2 fun x y z h=>by
 cases x <;> cases y <;> simp only[bMod,Option.ite_none_right_eq_some,reduceCtorEq,Option.some.injEq]at h
 exact⟨_,_,rfl,rfl,h.1,fun _ _=>by rw[←h.2,RP]⟩
theorem xd4:Op2 X (binaryOp .Pow) bPow:=Op2.ints yS8 fun x y z h=>by
 cases x <;> cases y <;> simp only[bPow,Option.ite_none_right_eq_some,reduceCtorEq,Option.some.injEq]at h
 obtain⟨⟨h1,h2,h3⟩,h⟩:=h
 refine⟨_,_,rfl,rfl,⟨h1,h2,?_⟩,fun _ _=>by rw[←h,RP]⟩
 have:=of_decide_eq_true h3
 lia
theorem xu3:Op2 X (compareOp .Lt) (yd0 fun i j=>decide (i<j)):=Op2.ints0 xt2 fun x y z h=>by
 cases x <;> cases y <;> simp only[yd0,reduceCtorEq,Option.some.injEq]at h
 exact⟨_,_,rfl,rfl,fun _ _=>by rw[←h,RP]⟩
theorem yT8:Op2 X (compareOp .LtE) (yd0 fun i j=>decide (i≤j)):=Op2.ints0 xp2 fun x y z h=>by
 cases x <;> cases y <;> simp only[yd0,reduceCtorEq,Option.some.injEq]at h
 exact⟨_,_,rfl,rfl,fun _ _=>by rw[←h,RP]⟩
theorem yQ0:Op2 X (compareOp .Gt) (yd0 fun i j=>decide (j<i)):=Op2.ints0 xo9 fun x y z h=>by
 cases x <;> cases y <;> simp only[yd0,reduceCtorEq,Option.some.injEq]at h
 exact⟨_,_,rfl,rfl,fun _ _=>by rw[←h,RP]⟩
theorem o_ge:Op2 X (compareOp .GtE) (yd0 fun i j=>decide (j≤i)):=Op2.ints0 xq8 fun x y z h=>by
 cases x <;> cases y <;> simp only[yd0,reduceCtorEq,Option.some.injEq]at h
 exact⟨_,_,rfl,rfl,fun _ _=>by rw[←h,RP]⟩
theorem zo0(cs:List Nat):(Str.length ⟨cs.toArray⟩)=cs.length:=by simp[Str.length]
theorem yM3(a b:List Nat):((⟨a.toArray⟩:Str)++(⟨b.toArray⟩:Str))=⟨(a++b).toArray⟩:=by
 show (Str.mk (a.toArray++b.toArray))=_
 simp
theorem zk1:Op2 X (binaryOp .Add) bAdd:=by
 rintro pins s σ H x y v u Q I rx ry ⟨α,st,px,py,z,r,hx,hy,hz,q⟩
 cases px <;> cases py <;> simp only[bAdd,Option.ite_none_right_eq_some,reduceCtorEq,Option.some.injEq]at hz
 ·exact yS5 pins s σ H x y v u Q I rx ry ⟨_,_,hx.int,hy.int,q _ _ (zl0.refl H) (by rw[←hz,RP])⟩
 ·rename_i a b
  obtain⟨hl,hz⟩:=hz
  rw[yf5]at hl
  refine yi5 pins s σ H x y v u Q I rx ry ⟨_,_,hx.str.1,hy.str.1,by rw[zo0,zo0];exact hl,?_⟩
  rw[yM3]
  exact q _ _ (zl0.refl H) (by rw[←hz,RP];exact⟨rfl,by rw[List.length_append];exact hl⟩)
 ·rename_i a b
  obtain⟨hl,hz⟩:=hz
  rw[yf5]at hl
  obtain⟨l1,vs,rfl,h1,h2⟩:=hx.tup
  obtain⟨l2,ws,rfl,h3,h4⟩:=hy.tup
  have e1:=h2.length
  have e2:=h4.length
  by_cases hn:a=[]
  ·subst hn
   have ev:vs=[]:=List.eq_nil_of_length_eq_zero (by simpa using e1.symm)
   subst ev
   cases rx
   cases ry
   obtain⟨its,r1,p1,_⟩:=I.tuple h1
   obtain⟨its2,r2,p2,_⟩:=I.tuple h3
   have ei:its=[]:=List.eq_nil_of_length_eq_zero (by simpa using r1.length.symm)
   subst ei
   obtain⟨⟨cls,dd,data,sl⟩,ho,hc,n,hd⟩:=id p1
   obtain⟨⟨cls2,dd2,data2,sl2⟩,ho2,hc2,n2,hd2⟩:=id p2
   simp only at hc hd hc2 hd2
   subst hc hd hc2 hd2
   refine PySem.concat_meets ⟨_,ho,rfl⟩ ⟨_,ho2,rfl⟩ PySem.noFill_tuple_add PySem.seq_tuple_add PySem.F.slot_tuple_add PySem.F.entry_tuple_add (PySem.F.args_tuple_add_2 _ _) (PyProof.Rows.tuple_addW0 l1 l2 _ its2.toArray n n2 dd dd2 sl sl2 (by simp)) ⟨ho,ho2,?_⟩
   exact⟨.ref l2,H,I,rfl,q _ _ (zl0.refl H) (by rw[←hz,RP,List.nil_append];exact⟨l2,ws,rfl,h3,h4⟩)⟩
  refine yR0 pins s σ H _ _ v u Q I rx ry ⟨l1,l2,vs,ws,rfl,rfl,h1,h3,fun e=>hn (by subst e;simpa using e1),by lia,fun e=>?_,fun e p hp=>?_⟩
  ·subst e
   have:b=[]:=by simpa using e2
   subst this
   exact q _ _ (zl0.refl H) (by rw[←hz,RP,List.append_nil];exact⟨l1,vs,rfl,h1,h2⟩)
  ·have s1:zl0 H (upd H p (.tup (vs++ws))):=zg8 hp _
   refine q _ _ s1 ?_
   rw[←hz,RP]
   exact⟨p,_,rfl,SqT.of ze2,((Ext.of_same r s1).rps h2).append ((Ext.of_same r s1).rps h4)⟩
 ·rename_i a b
  obtain⟨hl,hz⟩:=hz
  rw[yf5]at hl
  obtain⟨l1,vs,rfl,h1,h2⟩:=hx.lst
  obtain⟨l2,ws,rfl,h3,h4⟩:=hy.lst
  have e1:=h2.length
  have e2:=h4.length
  cases rx
  cases ry
  obtain⟨its,r1,p1,_⟩:=I.list h1
  obtain⟨its2,r2,p2,_⟩:=I.list h3
  obtain⟨⟨cls,dd,data,sl⟩,n,ho,hc,_,hd⟩:=id p1
  obtain⟨⟨cls2,dd2,data2,sl2⟩,n2,ho2,hc2,_,hd2⟩:=id p2
  simp only at hc hd hc2 hd2
  subst hc hd hc2 hd2
  have q1:=r1.length
  have q2:=r2.length
  refine PySem.concat_meets ⟨_,ho,rfl⟩ ⟨_,ho2,rfl⟩ PySem.noFill_list_add PySem.seq_list_add PySem.F.slot_list_add PySem.F.entry_list_add (PySem.F.args_list_add_2 _ _) (PyProof.Rows.list_addW l1 l2 its.toArray its2.toArray n n2 dd dd2 sl sl2 (by simp;lia)) ⟨ho,ho2,?_⟩
  have ea:its.toArray++its2.toArray=(its++its2).toArray:=by simp
  rw[ea]
  have s1:zl0 H (upd H s.heap.objs.size (.lst (vs++ws))):=zg8 I.fresh _
  refine⟨.ref _,_,I.lnew (t':=s.toks) (r1.append r2) (by rw[List.length_append];lia),rfl,q _ _ s1 ?_⟩
  rw[←hz,RP]
  exact⟨_,_,rfl,SqL.of ze2,r.notlive I.fresh,((Ext.of_same r s1).rps h2).append ((Ext.of_same r s1).rps h4)⟩
end
open PySem L2 PySem.SeqAt
mutual
theorem pyEq_refl:∀x:PV,pyEq x x=true
 |.non=>by simp[pyEq]
 |.bl _=>by simp[pyEq]
 |.int _=>by simp[pyEq]
 |.str _=>by simp[pyEq]
 |.tup xs=>by rw[pyEq];exact pyEqs_refl xs
 |.lst xs=>by rw[pyEq];exact pyEqs_refl xs
theorem pyEqs_refl:∀xs:List PV,pyEqs xs xs=true
 |[]=>by simp[pyEqs]
 |x::r=>by rw[pyEqs,pyEq_refl x,pyEqs_refl r];rfl
end
theorem zo7:∀xs ys:List PV,pyEqs xs ys=((List.range (min xs.length ys.length)).all (fun j=>pyEq (xs.getD j .non) (ys.getD j .non))&&(xs.length==ys.length))
 |[],[]=>by simp[pyEqs]
 |[],_::_=>by simp[pyEqs]
 |_::_,[]=>by simp[pyEqs]
 | x::r,y::s=>by
  rw[pyEqs,zo7 r s]
  have e:min (x::r).length (y::s).length=min r.length s.length+1:=by simp
  rw[e,List.range_succ_eq_map,List.all_cons,List.all_map]
  have e2:((x::r).length==(y::s).length)=(r.length==s.length):=by simp
  rw[e2,Bool.and_assoc]
  rfl
theorem zM9:∀{xs:List PV} {j:Nat} {x:PV},xs[j]?=some x→dep x≤deps xs
 |[],_,_,h=>by simp at h
 |y::r,0,x,h=>by simp at h;subst h;simp;lia
 | y::r,j+1,x,h=>by
  have:=zM9 (xs:=r) (j:=j) (x:=x) (by simpa using h)
  simp;lia
theorem yH2(a b:List Nat):((⟨a.toArray⟩:Str)==⟨b.toArray⟩)=decide (a=b):=by
 by_cases h:a=b
 ·subst h;simp
 ·rw[decide_eq_false h,beq_eq_false_iff_ne]
  intro e
  injection e with e
  exact h (by simpa using congrArg Array.toList e)
section
variable{X:Cx}{pins:List (Addr×Obj)}{σ:L2.St}{H:Hp}{s:Shared}{lv:Addr→Prop}
theorem zN1{a:Addr}{vs ws:List V}(I:Inv X pins σ H s)(h1:SqT X.K H a vs)(h2:SqL X.K H a ws):False:=by
 obtain⟨_,_,p1,_⟩:=I.tuple h1
 obtain⟨_,_,p2,_⟩:=I.list h2
 exact ne_of_list_tuple p2.isList p1 rfl
mutual
theorem RP.inj(I:Inv X pins σ H s):∀(x y:PV) (v:V),RP X.K H lv x v→RP X.K H lv y v→x=y
 | .non,y,v,h,g=>by
  rw[RP]at h;subst h
  cases y with
  |non=>rfl
  |bl c=>rw[RP]at g;cases g
  |int c=>rw[RP]at g;cases g
  |str c=>rw[RP]at g;cases g.1
  |tup c=>rw[RP]at g;obtain⟨_,_,e,_⟩:=g;cases e
  |lst c=>rw[RP]at g;obtain⟨_,_,e,_⟩:=g;cases e
 | .bl b,y,v,h,g=>by
  rw[RP]at h;subst h
  cases y with
  |non=>rw[RP]at g;cases g
  |bl c=>rw[RP]at g;cases g;rfl
  |int c=>rw[RP]at g;cases g
  |str c=>rw[RP]at g;cases g.1
  |tup c=>rw[RP]at g;obtain⟨_,_,e,_⟩:=g;cases e
  |lst c=>rw[RP]at g;obtain⟨_,_,e,_⟩:=g;cases e
 | .int b,y,v,h,g=>by
  rw[RP]at h;subst h
  cases y with
  |non=>rw[RP]at g;cases g
  |bl c=>rw[RP]at g;cases g
  |int c=>rw[RP]at g;cases g;rfl
  |str c=>rw[RP]at g;cases g.1
  |tup c=>rw[RP]at g;obtain⟨_,_,e,_⟩:=g;cases e
  |lst c=>rw[RP]at g;obtain⟨_,_,e,_⟩:=g;cases e
 | .str cs,y,v,h,g=>by
  rw[RP]at h
  obtain⟨h,_⟩:=h
  subst h
  cases y with
  | str c =>
   rw[RP]at g
   obtain⟨e,_⟩:=g
   injection e with e
   injection e with e
   exact congrArg PV.str (by simpa using congrArg Array.toList e)
  |tup c=>rw[RP]at g;obtain⟨_,_,e,_⟩:=g;cases e
  |lst c=>rw[RP]at g;obtain⟨_,_,e,_⟩:=g;cases e
  |non=>rw[RP]at g;cases g
  |bl c=>rw[RP]at g;cases g
  |int c=>rw[RP]at g;cases g
 | .tup xs,y,v,h,g=>by
  rw[RP]at h
  obtain⟨a,vs,rfl,h1,h2⟩:=h
  cases y with
  | tup ys =>
   rw[RP]at g
   obtain⟨b,ws,e,g1,g2⟩:=g
   cases e
   have:=I.tuple_inj h1 g1
   subst this
   rw[RPs.inj I xs ys vs h2 g2]
  | lst ys =>
   rw[RP]at g
   obtain⟨b,ws,e,g1,_⟩:=g
   cases e
   exact (zN1 I h1 g1).elim
  |str _=>rw[RP]at g;cases g.1
  |_=>rw[RP]at g;cases g
 | .lst xs,y,v,h,g=>by
  rw[RP]at h
  obtain⟨a,vs,rfl,h1,_,h2⟩:=h
  cases y with
  | lst ys =>
   rw[RP]at g
   obtain⟨b,ws,e,g1,_,g2⟩:=g
   cases e
   have:=I.list_inj h1 g1
   subst this
   rw[RPs.inj I xs ys vs h2 g2]
  | tup ys =>
   rw[RP]at g
   obtain⟨b,ws,e,g1,_⟩:=g
   cases e
   exact (zN1 I g1 h1).elim
  |str _=>rw[RP]at g;cases g.1
  |_=>rw[RP]at g;cases g
theorem RPs.inj(I:Inv X pins σ H s):∀(xs ys:List PV) (vs:List V),RPs X.K H lv xs vs→RPs X.K H lv ys vs→xs=ys
 | [],ys,vs,h,g=>by
  rw[RPs]at h;subst h
  cases ys with
  |nil=>rfl
  |cons y r=>rw[RPs]at g;obtain⟨_,_,e,_⟩:=g;cases e
 | x::r,ys,vs,h,g=>by
  rw[RPs]at h
  obtain⟨v,vr,rfl,h1,h2⟩:=h
  cases ys with
  |nil=>rw[RPs]at g;cases g
  | cons y q =>
   rw[RPs]at g
   obtain⟨w,wr,e,g1,g2⟩:=g
   cases e
   rw[RP.inj I x y _ h1 g1,RPs.inj I r q _ h2 g2]
end
theorem RPs.at{xs:List PV}{vs:List V}{its:List Value}(h:RPs X.K H lv xs vs)(r:zi9 vs its){j:Nat}(hj:j<its.length):
  ∃x v,xs[j]?=some x∧xs.getD j .non=x∧RP X.K H lv x v∧RelV v its[j]:=by
 have e1:=h.length
 have e2:=r.length
 have hx:xs[j]?=some xs[j]:=List.getElem?_eq_getElem (by lia)
 obtain⟨v,h1,h2⟩:=h.get hx
 obtain⟨u,h3,h4⟩:=r.get h1
 refine⟨xs[j],v,hx,by rw[List.getD_eq_getElem?_getD,hx];rfl,h2,?_⟩
 rw[List.getElem?_eq_getElem hj]at h3
 cases h3
 exact h4
theorem RW.inj{α:Al}{st:za6}(I:Inv X pins σ H s){x y:PV}{v:V}(h:RW X.K α st H x v)(g:RW X.K α st H y v):x=y:=by
 rcases h with h |⟨xs,a,vs,rfl,rfl,h1,h2⟩
 ·rcases g with g |⟨ys,b,ws,rfl,rfl,g1,g2⟩
  ·exact RP.inj I x y v h g
  ·cases x with
   | lst xs =>
    rw[RP]at h
    obtain⟨a,vs,e,h1,_,h2⟩:=h
    cases e
    have:=I.list_inj h1 g1
    subst this
    rw[RPs.inj I _ _ _ h2 g2]
   | tup xs =>
    rw[RP]at h
    obtain⟨a,vs,e,h1,h2⟩:=h
    cases e
    exact (zN1 I h1 g1).elim
   |str _=>rw[RP]at h;cases h.1
   |_=>rw[RP]at h;cases h
 ·cases y with
  | lst ys =>
   obtain⟨b,ws,e,g1,g2⟩:=g.lst
   cases e
   have:=I.list_inj h1 g1
   subst this
   rw[RPs.inj I _ _ _ h2 g2]
  | tup ys =>
   obtain⟨b,ws,e,g1,g2⟩:=g.tup
   cases e
   exact (zN1 I g1 h1).elim
  |str _=>cases g.str.1
  |int _=>cases g.int
  |bl _=>cases g.bl
  |non=>cases g.non
theorem zs7{α:Al}{st:za6}{n:Nat}{A:Around}{xs ys:List PV}{vs ws:List V}{its its2:List Value}
  (ih:∀(px py:PV) (x y:V) (v u:Value) (A:Around),RW X.K α st H px x→RW X.K α st H py y→RelV x v→RelV y u→(dep px≤n∨dep py≤n)→A.units+n+1<cLine→RcAt A s v u (pyEq px py)∧EqAt A s v u (pyEq px py))
  (hx:RPs X.K H (zh4 α st) xs vs) (hy:RPs X.K H (zh4 α st) ys ws) (r1:zi9 vs its) (r2:zi9 ws its2) (hd:deps xs≤n∨deps ys≤n) (hu:A.units+(n+1)+1<cLine) :
  ∀j (h1:j<its.toArray.size) (h2:j<its2.toArray.size),EqAt A.in1 s its.toArray[j] its2.toArray[j] (pyEq (xs.getD j .non) (ys.getD j .non)):=by
 intro j h1 h2
 simp only[List.size_toArray]at h1 h2
 obtain⟨x,v,a1,a2,a3,a4⟩:=hx.at r1 h1
 obtain⟨y,u,b1,b2,b3,b4⟩:=hy.at r2 h2
 rw[a2,b2]
 have da:=zM9 a1
 have db:=zM9 b1
 have hu':A.in1.units+n+1<cLine:=by show A.units+1+n+1<cLine;lia
 simpa using (ih x y v u _ _ A.in1 (.inl a3) (.inl b3) a4 b4 (by lia) hu').2
theorem zK5{α:Al}{st:za6}(I:Inv X pins σ H s){n:Nat}
  (ih:0<n→∀(px py:PV) (x y:V) (v u:Value) (A:Around),RW X.K α st H px x→RW X.K α st H py y→RelV x v→RelV y u→(dep px≤n-1∨dep py≤n-1)→A.units+(n-1)+1<cLine→RcAt A s v u (pyEq px py)∧EqAt A s v u (pyEq px py))
  (px py:PV) (x y:V) (v u:Value) (A:Around) (hx:RW X.K α st H px x) (hy:RW X.K α st H py y) (rx:RelV x v) (ry:RelV y u) (hd:dep px≤n∨dep py≤n) (hu:A.units+n+1<cLine) :
  RcAt A s v u (pyEq px py)∧EqAt A s v u (pyEq px py):=by
 have hu0:A.units<cLine:=by lia
 have seqT:∀{xs:List PV} {w:V} {uu:Value},RW X.K α st H (.tup xs) w→RelV w uu→∃a vs its,w=.ref a∧uu=.ref a∧RPs X.K H (zh4 α st) xs vs∧zi9 vs its∧s.heap.IsTuple a its.toArray:=fun h r=>by
  obtain⟨a,vs,rfl,h1,h2⟩:=h.tup
  cases r
  obtain⟨its,r1,p,_⟩:=I.tuple h1
  exact⟨a,vs,its,rfl,rfl,h2,r1,p⟩
 have seqL:∀{xs:List PV} {w:V} {uu:Value},RW X.K α st H (.lst xs) w→RelV w uu→∃a vs its,w=.ref a∧uu=.ref a∧RPs X.K H (zh4 α st) xs vs∧zi9 vs its∧s.heap.IsList a its.toArray:=fun h r=>by
  obtain⟨a,vs,rfl,h1,h2⟩:=h.lst
  cases r
  obtain⟨its,r1,p,_⟩:=I.list h1
  exact⟨a,vs,its,rfl,rfl,h2,r1,p.isList⟩
 cases px with
 | non =>
  cases py with
  | non =>
   obtain rfl:x=V.non:=hx.non
   obtain rfl:v=Value.none:=rx
   obtain rfl:y=V.non:=hy.non
   obtain rfl:u=Value.none:=ry
   have e:pyEq .non .non=true:=by simp[pyEq]
   rw[e]
   exact⟨.none_none,.same _⟩
  | bl e2 =>
   obtain rfl:x=V.non:=hx.non
   obtain rfl:v=Value.none:=rx
   obtain rfl:=hy.bl
   obtain rfl:u=Value.bool _:=ry
   have e:pyEq .non (.bl e2)=false:=by simp[pyEq]
   rw[e]
   exact⟨.none_bool _,.none_bool _⟩
  | int e2 =>
   obtain rfl:x=V.non:=hx.non
   obtain rfl:v=Value.none:=rx
   obtain rfl:=hy.int
   obtain⟨t',rfl⟩:=ry
   have e:pyEq .non (.int e2)=false:=by simp[pyEq]
   rw[e]
   exact⟨.none_int _ _,.none_int _ _⟩
  | str e2 =>
   obtain rfl:x=V.non:=hx.non
   obtain rfl:v=Value.none:=rx
   obtain rfl:=hy.str.1
   obtain⟨t',rfl⟩:=ry
   have e:pyEq .non (.str e2)=false:=by simp[pyEq]
   rw[e]
   exact⟨.none_str _ _,.none_str _ _⟩
  | tup e2 =>
   obtain rfl:x=V.non:=hx.non
   obtain rfl:v=Value.none:=rx
   obtain⟨b,ws,its2,rfl,rfl,q2,r2,p2⟩:=seqT hy ry
   have e:pyEq .non (.tup e2)=false:=by simp[pyEq]
   rw[e]
   exact⟨.none_tuple p2 hu0,.none_tuple p2 hu0⟩
  | lst e2 =>
   obtain rfl:x=V.non:=hx.non
   obtain rfl:v=Value.none:=rx
   obtain⟨b,ws,its2,rfl,rfl,q2,r2,p2⟩:=seqL hy ry
   have e:pyEq .non (.lst e2)=false:=by simp[pyEq]
   rw[e]
   exact⟨.none_list p2 hu0,.none_list p2 hu0⟩
 | bl e1 =>
  cases py with
  | non =>
   obtain rfl:=hx.bl
   obtain rfl:v=Value.bool _:=rx
   obtain rfl:y=V.non:=hy.non
   obtain rfl:u=Value.none:=ry
   have e:pyEq (.bl e1) .non=false:=by simp[pyEq]
   rw[e]
   exact⟨.bool_none _,.bool_none _⟩
  | bl e2 =>
   obtain rfl:=hx.bl
   obtain rfl:v=Value.bool _:=rx
   obtain rfl:=hy.bl
   obtain rfl:u=Value.bool _:=ry
   rw[pyEq]
   exact⟨.bool_bool _ _,.bool_bool _ _⟩
  | int e2 =>
   obtain rfl:=hx.bl
   obtain rfl:v=Value.bool _:=rx
   obtain rfl:=hy.int
   obtain⟨t',rfl⟩:=ry
   rw[pyEq]
   exact⟨.bool_int _ _ _,.bool_int _ _ _⟩
  | str e2 =>
   obtain rfl:=hx.bl
   obtain rfl:v=Value.bool _:=rx
   obtain rfl:=hy.str.1
   obtain⟨t',rfl⟩:=ry
   have e:pyEq (.bl e1) (.str e2)=false:=by simp[pyEq]
   rw[e]
   exact⟨.bool_str _ _ _,.bool_str _ _ _⟩
  | tup e2 =>
   obtain rfl:=hx.bl
   obtain rfl:v=Value.bool _:=rx
   obtain⟨b,ws,its2,rfl,rfl,q2,r2,p2⟩:=seqT hy ry
   have e:pyEq (.bl e1) (.tup e2)=false:=by simp[pyEq]
   rw[e]
   exact⟨.bool_tuple _ p2 hu0,.bool_tuple _ p2 hu0⟩
  | lst e2 =>
   obtain rfl:=hx.bl
   obtain rfl:v=Value.bool _:=rx
   obtain⟨b,ws,its2,rfl,rfl,q2,r2,p2⟩:=seqL hy ry
   have e:pyEq (.bl e1) (.lst e2)=false:=by simp[pyEq]
   rw[e]
   exact⟨.bool_list _ p2 hu0,.bool_list _ p2 hu0⟩
 | int e1 =>
  cases py with
  | non =>
   obtain rfl:=hx.int
   obtain⟨t,rfl⟩:=rx
   obtain rfl:y=V.non:=hy.non
   obtain rfl:u=Value.none:=ry
   have e:pyEq (.int e1) .non=false:=by simp[pyEq]
   rw[e]
   exact⟨.int_none _ _,.int_none _ _⟩
  | bl e2 =>
   obtain rfl:=hx.int
   obtain⟨t,rfl⟩:=rx
   obtain rfl:=hy.bl
   obtain rfl:u=Value.bool _:=ry
   rw[pyEq]
   exact⟨.int_bool _ _ _,.int_bool _ _ _⟩
  | int e2 =>
   obtain rfl:=hx.int
   obtain⟨t,rfl⟩:=rx
   obtain rfl:=hy.int
   obtain⟨t',rfl⟩:=ry
   rw[pyEq]
   exact⟨.int_int _ _ _ _,.int_int _ _ _ _⟩
  | str e2 =>
   obtain rfl:=hx.int
   obtain⟨t,rfl⟩:=rx
   obtain rfl:=hy.str.1
   obtain⟨t',rfl⟩:=ry
   have e:pyEq (.int e1) (.str e2)=false:=by simp[pyEq]
   rw[e]
   exact⟨.int_str _ _ _ _,.int_str _ _ _ _⟩
  | tup e2 =>
   obtain rfl:=hx.int
   obtain⟨t,rfl⟩:=rx
   obtain⟨b,ws,its2,rfl,rfl,q2,r2,p2⟩:=seqT hy ry
   have e:pyEq (.int e1) (.tup e2)=false:=by simp[pyEq]
   rw[e]
   exact⟨.int_tuple _ _ p2 hu0,.int_tuple _ _ p2 hu0⟩
  | lst e2 =>
   obtain rfl:=hx.int
   obtain⟨t,rfl⟩:=rx
   obtain⟨b,ws,its2,rfl,rfl,q2,r2,p2⟩:=seqL hy ry
   have e:pyEq (.int e1) (.lst e2)=false:=by simp[pyEq]
   rw[e]
   exact⟨.int_list _ _ p2 hu0,.int_list _ _ p2 hu0⟩
 | str e1 =>
  cases py with
  | non =>
   obtain rfl:=hx.str.1
   obtain⟨t,rfl⟩:=rx
   obtain rfl:y=V.non:=hy.non
   obtain rfl:u=Value.none:=ry
   have e:pyEq (.str e1) .non=false:=by simp[pyEq]
   rw[e]
   exact⟨.str_none _ _,.str_none _ _⟩
  | bl e2 =>
   obtain rfl:=hx.str.1
   obtain⟨t,rfl⟩:=rx
   obtain rfl:=hy.bl
   obtain rfl:u=Value.bool _:=ry
   have e:pyEq (.str e1) (.bl e2)=false:=by simp[pyEq]
   rw[e]
   exact⟨.str_bool _ _ _,.str_bool _ _ _⟩
  | int e2 =>
   obtain rfl:=hx.str.1
   obtain⟨t,rfl⟩:=rx
   obtain rfl:=hy.int
   obtain⟨t',rfl⟩:=ry
   have e:pyEq (.str e1) (.int e2)=false:=by simp[pyEq]
   rw[e]
   exact⟨.str_int _ _ _ _,.str_int _ _ _ _⟩
  | str e2 =>
   obtain rfl:=hx.str.1
   obtain⟨t,rfl⟩:=rx
   obtain rfl:=hy.str.1
   obtain⟨t',rfl⟩:=ry
   have e:pyEq (.str e1) (.str e2)=((⟨e1.toArray⟩:Str)==⟨e2.toArray⟩):=by rw[yH2,pyEq]
   rw[e]
   exact⟨.str_str _ _ _ _,.str_str _ _ _ _⟩
  | tup e2 =>
   obtain rfl:=hx.str.1
   obtain⟨t,rfl⟩:=rx
   obtain⟨b,ws,its2,rfl,rfl,q2,r2,p2⟩:=seqT hy ry
   have e:pyEq (.str e1) (.tup e2)=false:=by simp[pyEq]
   rw[e]
   exact⟨.str_tuple _ _ p2 hu0,.str_tuple _ _ p2 hu0⟩
  | lst e2 =>
   obtain rfl:=hx.str.1
   obtain⟨t,rfl⟩:=rx
   obtain⟨b,ws,its2,rfl,rfl,q2,r2,p2⟩:=seqL hy ry
   have e:pyEq (.str e1) (.lst e2)=false:=by simp[pyEq]
   rw[e]
   exact⟨.str_list _ _ p2 hu0,.str_list _ _ p2 hu0⟩
 | tup e1 =>
  cases py with
  | non =>
   obtain⟨a,vs,its,rfl,rfl,q1,r1,p1⟩:=seqT hx rx
   obtain rfl:y=V.non:=hy.non
   obtain rfl:u=Value.none:=ry
   have e:pyEq (.tup e1) .non=false:=by simp[pyEq]
   rw[e]
   exact⟨.tuple_none p1 hu0,.tuple_none p1 hu0⟩
  | bl e2 =>
   obtain⟨a,vs,its,rfl,rfl,q1,r1,p1⟩:=seqT hx rx
   obtain rfl:=hy.bl
   obtain rfl:u=Value.bool _:=ry
   have e:pyEq (.tup e1) (.bl e2)=false:=by simp[pyEq]
   rw[e]
   exact⟨.tuple_bool _ p1 hu0,.tuple_bool _ p1 hu0⟩
  | int e2 =>
   obtain⟨a,vs,its,rfl,rfl,q1,r1,p1⟩:=seqT hx rx
   obtain rfl:=hy.int
   obtain⟨t',rfl⟩:=ry
   have e:pyEq (.tup e1) (.int e2)=false:=by simp[pyEq]
   rw[e]
   exact⟨.tuple_int _ _ p1 hu0,.tuple_int _ _ p1 hu0⟩
  | str e2 =>
   obtain⟨a,vs,its,rfl,rfl,q1,r1,p1⟩:=seqT hx rx
   obtain rfl:=hy.str.1
   obtain⟨t',rfl⟩:=ry
   have e:pyEq (.tup e1) (.str e2)=false:=by simp[pyEq]
   rw[e]
   exact⟨.tuple_str _ _ p1 hu0,.tuple_str _ _ p1 hu0⟩
  | tup e2 =>
   obtain⟨a,vs,its,rfl,rfl,q1,r1,p1⟩:=seqT hx rx
   obtain⟨b,ws,its2,rfl,rfl,q2,r2,p2⟩:=seqT hy ry
   have hn:0<n:=by simp at hd;lia
   have hd':deps e1≤n-1∨deps e2≤n-1:=by simp at hd;lia
   have it:=zs7 (n:=n-1) (A:=A) (ih hn) q1 q2 r1 r2 hd' (by lia)
   have l1:=q1.length
   have l2:=q2.length
   have m1:=r1.length
   have m2:=r2.length
   have rc:RcAt A s (.ref a) (.ref b) (pyEq (.tup e1) (.tup e2)):=by
    have z:=RcAt.tuples p1 p2 hu0 it
    rw[pyEq,zo7]
    simp only[List.size_toArray]at z
    rw[l1,l2,m1,m2]
    exact z
   refine⟨rc,?_⟩
   by_cases hab:a=b
   ·subst hab
    have e:=RW.inj I hx hy
    injection e with e
    subst e
    rw[pyEq_refl]
    exact EqAt.same _
   ·exact .of_refs hab rc
  | lst e2 =>
   obtain⟨a,vs,its,rfl,rfl,q1,r1,p1⟩:=seqT hx rx
   obtain⟨b,ws,its2,rfl,rfl,q2,r2,p2⟩:=seqL hy ry
   have e:pyEq (.tup e1) (.lst e2)=false:=by simp[pyEq]
   rw[e]
   exact⟨.tuple_list p1 p2 hu0,.tuple_list p1 p2 hu0⟩
 | lst e1 =>
  cases py with
  | non =>
   obtain⟨a,vs,its,rfl,rfl,q1,r1,p1⟩:=seqL hx rx
   obtain rfl:y=V.non:=hy.non
   obtain rfl:u=Value.none:=ry
   have e:pyEq (.lst e1) .non=false:=by simp[pyEq]
   rw[e]
   exact⟨.list_none p1 hu0,.list_none p1 hu0⟩
  | bl e2 =>
   obtain⟨a,vs,its,rfl,rfl,q1,r1,p1⟩:=seqL hx rx
   obtain rfl:=hy.bl
   obtain rfl:u=Value.bool _:=ry
   have e:pyEq (.lst e1) (.bl e2)=false:=by simp[pyEq]
   rw[e]
   exact⟨.list_bool _ p1 hu0,.list_bool _ p1 hu0⟩
  | int e2 =>
   obtain⟨a,vs,its,rfl,rfl,q1,r1,p1⟩:=seqL hx rx
   obtain rfl:=hy.int
   obtain⟨t',rfl⟩:=ry
   have e:pyEq (.lst e1) (.int e2)=false:=by simp[pyEq]
   rw[e]
   exact⟨.list_int _ _ p1 hu0,.list_int _ _ p1 hu0⟩
  | str e2 =>
   obtain⟨a,vs,its,rfl,rfl,q1,r1,p1⟩:=seqL hx rx
   obtain rfl:=hy.str.1
   obtain⟨t',rfl⟩:=ry
   have e:pyEq (.lst e1) (.str e2)=false:=by simp[pyEq]
   rw[e]
   exact⟨.list_str _ _ p1 hu0,.list_str _ _ p1 hu0⟩
  | tup e2 =>
   obtain⟨a,vs,its,rfl,rfl,q1,r1,p1⟩:=seqL hx rx
   obtain⟨b,ws,its2,rfl,rfl,q2,r2,p2⟩:=seqT hy ry
   have e:pyEq (.lst e1) (.tup e2)=false:=by simp[pyEq]
   rw[e]
   exact⟨.list_tuple p1 p2 hu0,.list_tuple p1 p2 hu0⟩
  | lst e2 =>
   obtain⟨a,vs,its,rfl,rfl,q1,r1,p1⟩:=seqL hx rx
   obtain⟨b,ws,its2,rfl,rfl,q2,r2,p2⟩:=seqL hy ry
   have hn:0<n:=by simp at hd;lia
   have hd':deps e1≤n-1∨deps e2≤n-1:=by simp at hd;lia
   have it:=zs7 (n:=n-1) (A:=A) (ih hn) q1 q2 r1 r2 hd' (by lia)
   have l1:=q1.length
   have l2:=q2.length
   have m1:=r1.length
   have m2:=r2.length
   have rc:RcAt A s (.ref a) (.ref b) (pyEq (.lst e1) (.lst e2)):=by
    by_cases hz:its.length=its2.length
    ·have z:=RcAt.lists p1 p2 (by simpa using hz) hu0 it
     rw[pyEq,zo7]
     simp only[List.size_toArray]at z
     rw[l1,l2,m1,m2,←hz,Nat.min_self,beq_self_eq_true,Bool.and_true]
     exact z
    ·have z:=RcAt.lists_lengths p1 p2 (by simpa using hz) hu0
     have e:pyEq (.lst e1) (.lst e2)=false:=by
      rw[pyEq,zo7,Bool.and_eq_false_iff]
      exact .inr (by rw[beq_eq_false_iff_ne];lia)
     rw[e]
     exact z
   refine⟨rc,?_⟩
   by_cases hab:a=b
   ·subst hab
    have e:=RW.inj I hx hy
    injection e with e
    subst e
    rw[pyEq_refl]
    exact EqAt.same _
   ·exact .of_refs hab rc
theorem yQ8{α:Al}{st:za6}(I:Inv X pins σ H s):∀(n:Nat) (px py:PV) (x y:V) (v u:Value) (A:Around),RW X.K α st H px x→RW X.K α st H py y→RelV x v→RelV y u →
  (dep px≤n∨dep py≤n)→A.units+n+1<cLine→RcAt A s v u (pyEq px py)∧EqAt A s v u (pyEq px py):=by
 intro n
 induction n with
 | zero =>
  intro px py x y v u A hx hy rx ry hd hu
  exact zK5 I (fun h=>absurd h (by lia)) px py x y v u A hx hy rx ry hd hu
 |succ n ih=>exact fun px py x y v u A hx hy rx ry hd hu=>zK5 I (fun _=>ih) px py x y v u A hx hy rx ry hd hu
theorem zo1(hu:X.A.units+200<cLine):Op2 X (compareOp .Eq) (fun x y=>if zk2 (dep x) (dep y)then some (.bl (pyEq x y))else none):=by
 rintro pins s σ H x y v u Q I rx ry ⟨α,st,px,py,z,r,hx,hy,hz,q⟩
 simp only[Option.ite_none_right_eq_some,Option.some.injEq]at hz
 obtain⟨hd,hz⟩:=hz
 have hd':dep px≤100∨dep py≤100:=by simpa[zk2]using hd
 exact (yQ8 I 100 px py x y v u X.A hx hy rx ry hd' (by lia)).1 _ _ _ _ ⟨.bl _,H,I,rfl,q _ _ (zl0.refl H) (by rw[←hz,RP])⟩
end
open PySem L2 PySem.SeqAt PySem.StrLaws
open PySem.Builtin PySem.Builtin.Str
theorem yb0(x y:Str)(hi k f:Nat):∀l:List Nat,(forIn l ((#[k]:Array Nat),f) (occBody x y hi 1)).run.fst=#[k]
 |[]=>rfl
 | a::l=>by
  rw[List.forIn_cons]
  unfold occBody
  split
  ·rename_i hc
   simp at hc
  ·exact yb0 x y hi k f l
theorem yl8(cs bs:List Nat)(i:Nat)(hi:i≤cs.length):(i+bs.length≤cs.length∧subAt ⟨cs.toArray⟩ ⟨bs.toArray⟩ i=true)↔bs.isPrefixOf (cs.drop i)=true:=by
 rw[List.isPrefixOf_iff_prefix,List.prefix_iff_eq_take]
 unfold subAt
 have e:(⟨bs.toArray⟩:Str).length=bs.length:=zo0 bs
 rw[e]
 have e2:(cs.toArray.extract i (i+bs.length))=((cs.drop i).take bs.length).toArray:=by
  apply Array.ext'
  simp[List.extract_eq_take_drop]
 constructor
 ·rintro⟨_,h⟩
  have h':cs.toArray.extract i (i+bs.length)=bs.toArray:=by simpa using h
  rw[e2]at h'
  have:=congrArg Array.toList h'
  simpa using this.symm
 ·intro h
  have hl:=congrArg List.length h
  rw[List.length_take,List.length_drop]at hl
  refine⟨by lia,?_⟩
  show (cs.toArray.extract i (i+bs.length)==bs.toArray)=true
  rw[e2,←h]
  simp
theorem ye3(cs bs:List Nat):∀(n i:Nat),i+n=cs.length →
  (forIn (List.range' i (n+1)) ((#[]:Array Nat),0) (occBody ⟨cs.toArray⟩ ⟨bs.toArray⟩ cs.length 1)).run.fst.toList=match findIn bs (cs.drop i) i with |some k=>[k]|none=>[]
 | 0,i,h=>by
  have hd:cs.drop i=[]:=List.drop_eq_nil_of_le (by lia)
  rw[List.range'_succ,List.forIn_cons]
  have q:=yl8 cs bs i (by lia)
  rw[hd]at q ⊢
  unfold occBody
  have e:(⟨bs.toArray⟩:Str).length=bs.length:=zo0 bs
  by_cases hb:bs=[]
  ·subst hb
   have hs:=q.mpr (by simp)
   rw[if_pos (by rw[e];simp;exact⟨by lia,hs.2⟩)]
   simp[findIn,List.range']
  ·have hs:¬bs.isPrefixOf ([]:List Nat)=true:=by cases bs <;> simp at hb ⊢
   rw [if_neg (by
    intro hc
    rw[e]at hc
    simp at hc
    exact hs (q.mp ⟨by lia,by have:=hc.2;simpa using this⟩))]
   simp[findIn,List.range',hb]
 | n+1,i,h=>by
  rw[List.range'_succ,List.forIn_cons]
  have q:=yl8 cs bs i (by lia)
  obtain⟨c,hc⟩:∃c,cs.drop i=c::cs.drop (i+1):=⟨cs[i],by rw[List.drop_eq_getElem_cons (by lia)]⟩
  have e:(⟨bs.toArray⟩:Str).length=bs.length:=zo0 bs
  rw[hc]at q ⊢
  rw[findIn]
  unfold occBody
  by_cases hp:bs.isPrefixOf (c::cs.drop (i+1))=true
  ·have hs:=q.mpr hp
   rw[if_pos (by rw[e];simp;exact⟨by lia,hs.2⟩),if_pos hp]
   have:=yb0 ⟨cs.toArray⟩ ⟨bs.toArray⟩ cs.length i (i+(⟨bs.toArray⟩:Str).length) (List.range' (i+1) (n+1))
   unfold occBody at this
   simpa using congrArg Array.toList this
  ·rw [if_neg (by
    intro hc
    rw[e]at hc
    simp at hc
    exact hp (q.mp ⟨by lia,by have:=hc.2;simpa using this⟩)),if_neg hp]
   have ih:=ye3 cs bs n (i+1) (by lia)
   unfold occBody at ih
   simpa using ih
theorem yC1(cs bs:List Nat):occurrences ⟨cs.toArray⟩ ⟨bs.toArray⟩ 0 (Str.length ⟨cs.toArray⟩) 1=match findIn bs cs 0 with |some k=>[k]|none=>[]:=by
 rw[occ_eq,zo0]
 have:=ye3 cs bs cs.length 0 (by lia)
 rw[List.drop_zero]at this
 exact this
theorem zL0(bs:List Nat):∀(cs:List Nat) (k:Nat),zA5 bs cs=(findIn bs cs k).isSome
 |[],k=>by rw[zA5,findIn];split <;> simp_all
 | c::r,k=>by
  rw[zA5,findIn]
  split
  ·rename_i h;rw[h];rfl
  ·rename_i h;rw[zL0 bs r (k+1)];simp at h;simp[h]
section
variable{X:Cx}
theorem yH7(hu:X.A.units+200<cLine):Op2 X (compareOp .In) (fun x y=>(isIn x y).map .bl):=by
 rintro pins s σ H x y v u Q I rx ry ⟨α,st,px,py,z,r,hx,hy,hz,q⟩
 obtain⟨b,hb,hz2⟩:=Option.map_eq_some_iff.mp hz
 have fin:EP X pins σ Q (.bool b) s:=⟨.bl b,H,I,rfl,q _ _ (zl0.refl H) (by rw[←hz2,RP])⟩
 have seq:∀{xs:List PV} {vs:List V} {its:List Value},RPs X.K H (zh4 α st) xs vs→zi9 vs its→zk2 (dep px) (deps xs)=true →
   ∃e:Value→Bool,(∀w,w∈its.toArray→EqAt X.A.in1 s w v (e w))∧its.toArray.any e=zh0 px xs:=by
  intro xs vs its h r1 hd
  have hd':dep px≤100∨deps xs≤100:=by simpa[zk2]using hd
  classical
  have l1:=h.length
  have l2:=r1.length
  have val:∀(j:Nat) (hj:j<its.length),∃y,xs[j]?=some y∧EqAt X.A.in1 s its[j] v (pyEq y px)∧∃w,RP X.K H (zh4 α st) y w∧RelV w its[j]:=fun j hj=>by
   obtain⟨y,w,a1,a2,a3,a4⟩:=h.at r1 hj
   have da:=zM9 a1
   exact⟨y,a1,(yQ8 I 100 y px w x its[j] v X.A.in1 (.inl a3) hx a4 rx (by lia) (by show X.A.units+1+100+1<cLine;lia)).2,w,a3,a4⟩
  refine⟨fun w=>decide (∃(j:Nat) (y:PV),its[j]?=some w∧xs[j]?=some y∧pyEq y px=true),fun w hw=>?_,?_⟩
  ·have hw':w∈its:=by simpa using hw
   obtain⟨j,hj,rfl⟩:=List.getElem_of_mem hw'
   obtain⟨y,a1,a2,w1,a3,a4⟩:=val j hj
   have e:decide (∃(k:Nat) (y:PV),its[k]?=some its[j]∧xs[k]?=some y∧pyEq y px=true)=pyEq y px:=by
    rw[Bool.eq_iff_iff,decide_eq_true_eq]
    constructor
    ·rintro⟨k,y',b1,b2,b3⟩
     obtain⟨hk,b1⟩:=List.getElem?_eq_some_iff.mp b1
     obtain⟨y2,c1,_,w2,c3,c4⟩:=val k hk
     rw[b2]at c1;cases c1
     rw[b1]at c4
     have:=a4.inj c4
     subst this
     rw[RP.inj I y y' _ a3 c3]
     exact b3
    ·intro hp
     exact⟨j,y,List.getElem?_eq_getElem hj,a1,hp⟩
   dsimp only
   rw[e]
   exact a2
  ·rw[Bool.eq_iff_iff]
   unfold zh0
   simp only[List.any_toArray,List.any_eq_true,decide_eq_true_eq]
   constructor
   ·rintro⟨w,_,j,y,b1,b2,b3⟩
    exact⟨y,List.mem_of_getElem? b2,b3⟩
   ·rintro⟨y,hy',b3⟩
    obtain⟨j,hj,rfl⟩:=List.getElem_of_mem hy'
    have hj':j<its.length:=by lia
    exact⟨its[j],List.getElem_mem hj',j,xs[j],List.getElem?_eq_getElem hj',List.getElem?_eq_getElem hj,b3⟩
 cases py with
 | str cs =>
  cases px with
  | str bs =>
   have hb':zA5 bs cs=b:=by simpa[isIn]using hb
   refine ym2 pins s σ H x y v u Q I rx ry ⟨_,_,hx.str.1,hy.str.1,?_⟩
   rw[yC1]
   have e:(!(match findIn bs cs 0 with |some k=>[k]|none=>([]:List Nat)).isEmpty)=b:=by
    rw[←hb',zL0 bs cs 0]
    cases findIn bs cs 0 <;> rfl
   rw[e]
   exact q _ _ (zl0.refl H) (by rw[←hz2,RP])
  |_=>simp[isIn]at hb
 | tup xs =>
  obtain⟨a,vs,rfl,h1,h2⟩:=hy.tup
  cases ry
  obtain⟨its,r1,p,_⟩:=I.tuple h1
  have hc:zk2 (dep px) (deps xs)=true∧zh0 px xs=b:=by cases px <;> simpa[isIn]using hb
  obtain⟨e,he,hany⟩:=seq h2 r1 hc.1
  exact in_tupleAt e p he (by rw[hany,hc.2];exact fin)
 | lst xs =>
  obtain⟨a,vs,rfl,h1,h2⟩:=hy.lst
  cases ry
  obtain⟨its,r1,p,_⟩:=I.list h1
  have hc:zk2 (dep px) (deps xs)=true∧zh0 px xs=b:=by cases px <;> simpa[isIn]using hb
  obtain⟨e,he,hany⟩:=seq h2 r1 hc.1
  exact in_listAt e p.isList he (by rw[hany,hc.2];exact fin)
 |_=>cases px <;> simp[isIn]at hb
end
open PySem L2 PySem.SeqAt
section
variable{X:Cx}{C:zc5}{a b c:Expr}{ia ib ic:E}{pos:Pos}{zn7:List Expr}
theorem yZ5(ha:ST X C a ia):ST X C (.UnaryOp .Not a pos) (.not ia) :=
 PT.mono (xi0 ha) fun σ H Q h_=>by
  obtain⟨env,α,st,k,st',at',e,q⟩:=h_
  rw[yF8]at e
  obtain⟨k',st1,e1,e⟩:=Res.bindB_inv e
  cases e
  exact⟨env,α,st,k',st',at',e1,q⟩
noncomputable abbrev SW(X:Cx)(C:zc5)(e:Expr)(ir:E):Prop:=PW X e (tT X.K C ir)
theorem xr6{e:Expr}{ir:E}(h:SW X C e ir):ST X C e ir:=h.pt
theorem yQ1(ha:ST X C a ia):SW X C (.BoolOp .And [a] pos) ia:=yK2 ha
theorem yW3(ha:ST X C a ia):SW X C (.BoolOp .Or [a] pos) ia:=xh6 ha
theorem xf4(ha:ST X C a ia)(hb:SW X C (.BoolOp .And (b::zn7) pos) ib):SW X C (.BoolOp .And (a::b::zn7) pos) (.and ia ib) :=
 PW.mono (yT1 ha hb) fun σ H Q h_=>by
  obtain⟨env,α,st,k,st',at',e,q⟩:=h_
  rw[yF2]at e
  obtain⟨k',st1,e1,e⟩:=Res.bindB_inv e
  refine⟨env,α,st,k',st1,at',e1,fun H1 α1 x1 r1=>?_⟩
  cases k' with
  |true=>exact⟨env,α1,st1,k,st',at'.next x1 r1,e,fun H2 α2 x2 r2=>q H2 α2 (x1.trans x2) r2⟩
  |false=>cases e;exact q H1 α1 x1 r1
theorem xn4(ha:ST X C a ia)(hb:SW X C (.BoolOp .Or (b::zn7) pos) ib):SW X C (.BoolOp .Or (a::b::zn7) pos) (.or ia ib) :=
 PW.mono (xo4 ha hb) fun σ H Q h_=>by
  obtain⟨env,α,st,k,st',at',e,q⟩:=h_
  rw[yV2]at e
  obtain⟨k',st1,e1,e⟩:=Res.bindB_inv e
  refine⟨env,α,st,k',st1,at',e1,fun H1 α1 x1 r1=>?_⟩
  cases k' with
  |false=>exact⟨env,α1,st1,k,st',at'.next x1 r1,e,fun H2 α2 x2 r2=>q H2 α2 (x1.trans x2) r2⟩
  |true=>cases e;exact q H1 α1 x1 r1
theorem yy1{K:Frag}{α:Al}{st:za6}{H:Hp}{k:Bool}{w:V}(h:RV K α st H (.p (.bl k)) w):w=.bl k:=by simpa[RV,RP]using h
theorem xg5{op}(h:SE X C a ia):SE X C (.BoolOp op [a] pos) ia:=yY7 h
theorem yU2(ha:SE X C a ia)(hb:SE X C (.BoolOp .And (b::zn7) pos) ib):SE X C (.BoolOp .And (a::b::zn7) pos) (.and ia ib) :=
 PE.mono (xf6 ha hb) fun σ H Q h_=>by
  obtain⟨env,α,st,v,st',at',e,q⟩:=h_
  rw[yF2]at e
  obtain⟨k',st1,e1,e⟩:=Res.bindB_inv e
  refine⟨env,α,st,_,st1,at',e1,fun w H1 α1 x1 r1 v1=>⟨k',yy1 v1,?_⟩⟩
  cases k' with
  |true=>exact⟨env,α1,st1,v,st',at'.next x1 r1,e,fun w H2 α2 x2 r2=>q w H2 α2 (x1.trans x2) r2⟩
  |false=>cases e;exact q _ H1 α1 x1 r1 (by rw[RV,RP])
theorem xo0(ha:SE X C a ia)(hb:SE X C (.BoolOp .Or (b::zn7) pos) ib):SE X C (.BoolOp .Or (a::b::zn7) pos) (.or ia ib) :=
 PE.mono (xs9 ha hb) fun σ H Q h_=>by
  obtain⟨env,α,st,v,st',at',e,q⟩:=h_
  rw[yV2]at e
  obtain⟨k',st1,e1,e⟩:=Res.bindB_inv e
  refine⟨env,α,st,_,st1,at',e1,fun w H1 α1 x1 r1 v1=>⟨k',yy1 v1,?_⟩⟩
  cases k' with
  |false=>exact⟨env,α1,st1,v,st',at'.next x1 r1,e,fun w H2 α2 x2 r2=>q w H2 α2 (x1.trans x2) r2⟩
  |true=>cases e;exact q _ H1 α1 x1 r1 (by rw[RV,RP])
theorem yW9(ha:SE X C a ia):SE X C (.UnaryOp .Not a pos) (.not ia) :=
 PE.mono (xh4 ha) fun σ H Q h_=>by
  obtain⟨env,α,st,v,st',at',e,q⟩:=h_
  rw[yF8]at e
  obtain⟨k',st1,e1,e⟩:=Res.bindB_inv e
  cases e
  exact⟨env,α,st,_,st',at',e1,fun w H1 α1 x1 r1 v1=>⟨k',yy1 v1,q _ H1 α1 x1 r1 (by rw[RV,RP])⟩⟩
theorem yX7(hc:ST X C c ic)(ha:SE X C a ia)(hb:SE X C b ib):SE X C (.IfExp c a b pos) (.ite ic ia ib) :=
 PE.mono (yw3 hc ha hb) fun σ H Q h_=>by
  obtain⟨env,α,st,v,st',at',e,q⟩:=h_
  rw[yW6]at e
  obtain⟨k',st1,e1,e⟩:=Res.bindB_inv e
  refine⟨env,α,st,k',st1,at',e1,fun H1 α1 x1 r1=>?_⟩
  cases k' with
  |true=>exact⟨env,α1,st1,v,st',at'.next x1 r1,e,fun w H2 α2 x2 r2=>q w H2 α2 (x1.trans x2) r2⟩
  |false=>exact⟨env,α1,st1,v,st',at'.next x1 r1,e,fun w H2 α2 x2 r2=>q w H2 α2 (x1.trans x2) r2⟩
theorem xb1{op:CmpOp}{g:PV→PV→Option PV}{ir:E}(ho:Op2 X (compareOp op) g)(ha:SE X C a ia)(hb:SE X C b ib)(hm:behindInMarks op b=false)
  (hi:∀env st,evalE C ir env st=(evalE C ia env st).bind fun x st=>(evalE C ib env st).bind fun y st=>op2 g x y st):ST X C (.Compare a [op] [b] pos) ir :=
 PT.mono (yJ3 ho ha hb hm) fun σ H Q h_=>by
  obtain⟨env,α,st,k,st',at',e,q⟩:=h_
  rw[hi]at e
  obtain⟨va,st1,e1,e⟩:=Res.bind_inv e
  obtain⟨vb,st2,e2,e⟩:=Res.bind_inv e
  obtain⟨x,y,u,h1,h2,h3,h4,h5⟩:=zH6 e
  cases h4
  subst h5
  refine⟨env,α,st,va,st1,at',e1,fun w H1 α1 x1 r1 v1=>?_⟩
  refine⟨env,α1,st1,vb,st',at'.next x1 r1,e2,fun w2 H2 α2 x2 r2 v2=>?_⟩
  refine⟨α2,st',x,y,_,r2,(x2.rv v1).view r2 h1,v2.view r2 h2,h3,fun w3 H3 s3 rp=>?_⟩
  exact⟨k,by rw[RP]at rp;exact rp,q H3 α2 (x1.trans (x2.trans (.of_same r2 s3))) (r2.same s3)⟩
theorem yh3{op op':Cop}{g g':PV→PV→Option PV}{σ:L2.St}{H:Hp}{Q:VK}{env:Env}{α:Al}{st st':za6}{v:Val}(hg:zo8 op=g)(hg':zo8 op'=g')(at':At X.K α st H env σ)
  (e:evalE C (.chain op op' ia ib ic) env st=.ok v st') (hB:∀x y z,g x y=some z→∃k,z=.bl k)
  (q:∀w H' α',Ext X.K α st H α' st' H'→RSt X.K α' st' H'→RV X.K α' st' H' v w→Q w H') :
  yF3 (fun x y H Q=>∃α st px py z,RSt X.K α st H∧RW X.K α st H px x∧RW X.K α st H py y∧g px py=some z∧∀w H',zl0 H H'→RP X.K H' (zh4 α st) z w→Q w H')
   (fun x y H Q=>∃α st px py z,RSt X.K α st H∧RW X.K α st H px x∧RW X.K α st H py y∧g' px py=some z∧∀w H',zl0 H H'→RP X.K H' (zh4 α st) z w→Q w H')
   (tP X.K C ia) (tP X.K C ib) (tP X.K C ic) σ H Q:=by
 subst hg hg'
 rw[yz3]at e
 obtain⟨va,st1,e1,e⟩:=Res.bind_inv e
 obtain⟨vb,st2,e2,e⟩:=Res.bind_inv e
 obtain⟨k,st3,e3,e⟩:=Res.bindB_inv e
 obtain⟨x,y,u,h1,h2,h3,h4,h5⟩:=zH6 e3
 cases h4
 subst h5
 refine⟨env,α,st,va,st1,at',e1,fun w H1 α1 x1 r1 v1=>?_⟩
 refine⟨env,α1,st1,vb,st3,at'.next x1 r1,e2,fun w2 H2 α2 x2 r2 v2=>?_⟩
 refine⟨α2,st3,x,y,_,r2,(x2.rv v1).view r2 h1,v2.view r2 h2,h3,fun w3 H3 s3 rp=>?_⟩
 refine⟨k,by rw[RP]at rp;exact rp,?_⟩
 have ex3:Ext X.K α st H α2 st3 H3:=x1.trans (x2.trans (.of_same r2 s3))
 cases k with
 | false =>
  cases e
  exact q _ H3 α2 ex3 (r2.same s3) (by rw[RV,RP])
 | true =>
  obtain⟨vc,st4,e4,e⟩:=Res.bind_inv e
  obtain⟨x',y',u',g1,g2,g3,g4,g5⟩:=zH6 e
  subst g4 g5
  refine⟨env,α2,st3,vc,st',at'.next ex3 (r2.same s3),e4,fun w4 H4 α4 x4 r4 v4=>?_⟩
  refine⟨α4,st',x',y',u',r4,(((Ext.of_same r2 s3).trans x4).rv v2).view r4 g1,v4.view r4 g2,g3,fun w5 H5 s5 rp5=>?_⟩
  exact q _ H5 α4 (ex3.trans (x4.trans (.of_same r4 s5))) (r4.same s5) rp5
noncomputable def tPs(K:Frag)(C:zc5)(irs:List E):TA:=fun σ H Q=>∃env α st vs st',At K α st H env σ∧evalEs C irs env st=.ok vs st' ∧
 ∀ws H' α',Ext K α st H α' st' H'→RSt K α' st' H'→Paired (RV K α' st' H') vs ws→Q ws H'
noncomputable abbrev SA(X:Cx)(C:zc5)(es:List Expr)(irs:List E):Prop:=PA X es (tPs X.K C irs)
theorem PA.mono{es:List Expr}{t t':TA}(h:PA X es t)(m:∀σ H Q,t' σ H Q→t σ H Q):PA X es t':=fun pos pins s σ H Q I q=>h pos pins s σ H Q I (m _ _ _ q)
theorem yE9:SA X C [] []:=PA.mono yG2 fun σ H Q h_=>by
 obtain⟨env,α,st,vs,st',at',e,q⟩:=h_
 rw[zy3]at e
 cases e
 exact q [] H α .refl at'.rs .nil
theorem yu2{es:List Expr}{irs:List E}(ha:SE X C a ia)(hr:SA X C es irs)(hs:starEach (a::es) X.env=(false,eval a X.env)::starEach es X.env):SA X C (a::es) (ia::irs) :=
 PA.mono (zV3 ha hr hs) fun σ H Q h_=>by
  obtain⟨env,α,st,vs,st',at',e,q⟩:=h_
  rw[zn5]at e
  obtain⟨v,st1,e1,e⟩:=Res.bind_inv e
  obtain⟨vr,st2,e2,e⟩:=Res.bind_inv e
  cases e
  exact⟨env,α,st,v,st1,at',e1,fun w H1 α1 x1 r1 v1=>⟨env,α1,st1,vr,st',at'.next x1 r1,e2,fun ws H2 α2 x2 r2 p=>q _ H2 α2 (x1.trans x2) r2 (.cons (x2.rv v1) p)⟩⟩
theorem zO0:∀{irs:List E} {env:Env} {st st':za6} {xs:List PV},evalPs C irs env st=.ok xs st'→evalEs C irs env st=.ok (xs.map .p) st'
 |[],env,st,st',xs,h=>by rw[zN4]at h;cases h;rw[zy3];rfl
 | i::r,env,st,st',xs,h=>by
  rw[zF7]at h
  obtain⟨x,st1,e1,h⟩:=Res.bindP_inv h
  obtain⟨ys,st2,e2,h⟩:=Res.bind_inv h
  cases h
  rw[zn5,e1,Res.bind_ok,zO0 e2]
  rfl
theorem yd6{K:Frag}{α:Al}{st:za6}{H:Hp}:∀{xs:List PV} {ws:List V},Paired (RV K α st H) (xs.map .p) ws→RPs K H (zh4 α st) xs ws
 |[],ws,h=>by cases h;rw[RPs]
 | x::r,ws,h=>by
  cases h with
  |cons q t=>rw[RPs];exact⟨_,_,rfl,q,yd6 t⟩
theorem zD4:∀{irs:List E} {env:Env} {st st':za6} {xs:List PV},evalPs C irs env st=.ok xs st'→xs.length=irs.length
 |[],env,st,st',xs,h=>by rw[zN4]at h;cases h;rfl
 | i::r,env,st,st',xs,h=>by
  rw[zF7]at h
  obtain⟨x,st1,e1,h⟩:=Res.bindP_inv h
  obtain⟨ys,st2,e2,h⟩:=Res.bind_inv h
  cases h
  simp[zD4 e2]
theorem yW4{es:List Expr}{irs:List E}{x1}(h:SA X C es irs)(hl:es.length≤1000)(hi:irs.length=es.length):SE X C (.Tuple es x1 pos) (.tup irs) :=
 PE.mono (xc6 h) fun σ H Q h_=>by
  obtain⟨env,α,st,v,st',at',e,q⟩:=h_
  rw[yZ0]at e
  obtain⟨xs,st1,e1,e⟩:=Res.bind_inv e
  cases e
  refine⟨env,α,st,_,st',at',zO0 e1,fun ws H1 α1 x1 r1 p=>?_⟩
  have rp:=yd6 p
  refine⟨?_,fun a ha=>?_⟩
  ·rw[←rp.length,zD4 e1,hi]
   exact Nat.le_trans hl (by decide)
  ·have s1:zl0 H1 (upd H1 a (.tup ws)):=zg8 ha _
   exact q _ _ α1 (x1.trans (.of_same r1 s1)) (r1.same s1) (by rw[RV,RP];exact⟨a,ws,rfl,SqT.of ze2,(Ext.of_same r1 s1).rps rp⟩)
theorem xb6{es:List Expr}{irs:List E}(h:SA X C es irs)(hl:es.length≤1000)(hi:irs.length=es.length):SE X C (.List es pos) (.list false irs) :=
 PE.mono (yY0 h) fun σ H Q h_=>by
  obtain⟨env,α,st,v,st',at',e,q⟩:=h_
  rw[yr4]at e
  obtain⟨xs,st1,e1,e⟩:=Res.bind_inv e
  simp only[mk,Bool.false_eq_true,if_false]at e
  cases e
  refine⟨env,α,st,_,st',at',zO0 e1,fun ws H1 α1 x1 r1 p=>?_⟩
  have rp:=yd6 p
  refine⟨?_,fun a ha=>?_⟩
  ·rw[←rp.length,zD4 e1,hi]
   exact Nat.le_trans hl (by decide)
  ·have s1:zl0 H1 (upd H1 a (.lst ws)):=zg8 ha _
   exact q _ _ α1 (x1.trans (.of_same r1 s1)) (r1.same s1) (by rw[RV,RP];exact⟨a,ws,rfl,SqL.of ze2,r1.notlive ha,(Ext.of_same r1 s1).rps rp⟩)
end
open PySem L2 PySem.SeqAt PyProof.Rows
section
variable{X:Cx}{C:zc5}{a b c:Expr}{ia ib ic:E}{pos:Pos}
theorem yN8(hu:X.A.units+1<cLine):IxR X (fun x y H Q=>∃a v,x=.ref a∧yw8 H a y (some v)∧Q v H):=by
 intro value slice pins s σ H x y v u Q I rx ry ⟨a,w,ex,g,q⟩ hs
 subst ex
 obtain rfl:v=Value.ref a:=rx
 have hT:=zX4 I g
 have h2:wpAny (model X.prog X.w) X.A (getItem (.ref a) u) (EP X pins σ Q) X.xe s:=yp7 hu I g ry fun w' s3 I3 rw'=>⟨w,H,I3,rw',q⟩
 unfold subscriptTail
 refine wpAny_bind ?_
 rw[getitemInPython_of_ne hT.not_modules]
 refine wpAny_bind (wpAny_specialOf hT PySem.F.slot_dict_getitem.lookup ?_)
 have fin:wpAny (model X.prog X.w) X.A (subscripted slice false (.ref a) u) (fun r s₃=>wpAny (model X.prog X.w) X.A (letTemporaryGo value (.ref a) r >>= fun _=>pure r) (EP X pins σ Q) X.xe s₃) X.xe s:=by
  rw[hs]
  exact wpAny_operating (wpAny_mono h2 (fun r s₃ h₃=>wpAny_bind (wpAny_letTemporaryGo (wpAny_pure h₃))) fun _ _ x=>x)
 first
  |exact wpAny_pure (wpAny_bind fin)
  |exact wpAny_bind (wpAny_pure (wpAny_bind fin))
  |exact wpAny_bind fin
theorem zz1{a b:PV}{k:Key}(h1:keyOf a=some k)(h2:keyOf b=some k):a=b:=by
 cases a <;> simp only[keyOf,reduceCtorEq,Option.some.injEq]at h1 <;> cases b <;> simp only[keyOf,reduceCtorEq,Option.some.injEq]at h2 <;> subst h1
 ·cases h2;rfl
 ·cases h2
 ·cases h2
 ·injection h2 with h2
  injection h2 with h2
  exact congrArg PV.str (by simpa using (congrArg Array.toList h2).symm)
theorem zV6{K:Frag}{H:Hp}{lv:Addr→Prop}{k x:PV}{k':Key}(hk:keyOf k=some k'):∀{kvs:List (PV×PV)} {l:List (Key×V)},RKV K H lv kvs l→zL3 k kvs=some x→∃v,yb3 l k'=some v∧RP K H lv x v
 |[],l,h,e=>by simp[zL3]at e
 | (k1,x1)::r,l,h,e=>by
  rw[RKV]at h
  obtain⟨k2,v,l',rfl,h1,h2,h3⟩:=h
  rw[zL3]at e
  by_cases hc:k1=k
  ·subst hc
   rw[if_pos rfl]at e
   cases e
   rw[h1]at hk;cases hk
   exact⟨v,zD7 rfl,h2⟩
  ·rw[if_neg hc]at e
   obtain⟨w,g1,g2⟩:=zV6 hk h3 e
   refine⟨w,?_,g2⟩
   rw[zz3]
   ·exact g1
   ·intro e'
    have:k2=k':=e'
    subst this
    exact hc (zz1 h1 hk)
theorem yp2{K:Frag}{H:Hp}{lv:Addr→Prop}{k x:PV}:∀{kvs:List (PV×PV)} {l:List (Key×V)},RKV K H lv kvs l→zL3 k kvs=some x→∃k',keyOf k=some k'
 |[],l,h,e=>by simp[zL3]at e
 | (k1,x1)::r,l,h,e=>by
  rw[RKV]at h
  obtain⟨k2,v,l',rfl,h1,h2,h3⟩:=h
  rw[zL3]at e
  by_cases hc:k1=k
  ·subst hc;exact⟨k2,h1⟩
  ·rw[if_neg hc]at e
   exact yp2 h3 e
theorem yq8{K:Frag}{α:Al}{st:za6}{H:Hp}{x:PV}{v:V}{k:Key}(h:RW K α st H x v)(e:keyOf x=some k):v=kV k:=by
 cases x with
 |int i=>cases e;exact h.int
 |str cs=>cases e;exact h.str.1
 |_=>cases e
theorem xq4(hu:X.A.units+1<cLine)(ha:SE X C a ia)(hb:SE X C b ib)(hs:zX2 b):SE X C (.Subscript a b pos) (.ix ia ib) :=
 PE.mono (xr3 (yX1.or (yN8 hu)) ha hb hs) fun σ H Q h_=>by
  obtain⟨env,α,st,v,st',at',e,q⟩:=h_
  rw[xq3]at e
  obtain⟨o,st1,e1,e⟩:=Res.bind_inv e
  obtain⟨iv,i,st2,e2,hi,e⟩:=Res.bindV_inv e
  refine⟨env,α,st,o,st1,at',e1,fun w H1 α1 x1 r1 v1=>?_⟩
  refine⟨env,α1,st1,iv,st2,at'.next x1 r1,e2,fun w2 H2 α2 x2 r2 v2=>?_⟩
  have wi:=v2.view r2 hi
  have ro:=x2.rv v1
  have seq:∀{x:PV},RW X.K α2 st2 H2 x w→okO (yv0 x i) st2=.ok v st'→(rIx X.K w w2 H2 Q):=by
   intro x rx hx
   obtain⟨z,h1,h2,h3⟩:=zx5 hx
   subst h2 h3
   have fin:∀{u:V},RP X.K H2 (zh4 α2 st') z u→Q u H2:=fun h=>q _ H2 α2 (x1.trans x2) r2 h
   cases x with
   | tup xs =>
    cases i with
    | int k =>
     obtain⟨p,vs,rfl,g1,g2⟩:=rx.tup
     obtain⟨j,hj,hz⟩:=Option.bind_eq_some_iff.mp (show (zf0 xs.length k).bind (fun j=>xs[j]?)=some z from h1)
     obtain⟨u,hu1,hu2⟩:=g2.get hz
     exact .inr (.inl ⟨p,vs,k,u,rfl,wi.int,g1,by show (zf0 vs.length k).bind (fun j=>vs[j]?)=some u;rw[←g2.length,hj];exact hu1,fin hu2⟩)
    |_=>simp[yv0]at h1
   | lst xs =>
    cases i with
    | int k =>
     obtain⟨p,vs,rfl,g1,g2⟩:=rx.lst
     obtain⟨j,hj,hz⟩:=Option.bind_eq_some_iff.mp (show (zf0 xs.length k).bind (fun j=>xs[j]?)=some z from h1)
     obtain⟨u,hu1,hu2⟩:=g2.get hz
     exact .inl ⟨p,vs,k,u,rfl,wi.int,g1,by show (zf0 vs.length k).bind (fun j=>vs[j]?)=some u;rw[←g2.length,hj];exact hu1,fin hu2⟩
    |_=>simp[yv0]at h1
   | str cs =>
    cases i with
    | int k =>
     obtain⟨j,hj,hz⟩:=Option.bind_eq_some_iff.mp (show (zf0 cs.length k).bind (fun j=>(cs[j]?).map fun c=>PV.str [c])=some z from h1)
     obtain⟨ch,hc1,hc2⟩:=Option.map_eq_some_iff.mp hz
     obtain⟨g1,g2⟩:=rx.str
     refine .inr (.inr ⟨_,k,ch,g1,wi.int,by rw[zo0];exact g2,?_,fin (by rw[←hc2,RP];exact⟨rfl,by show 1≤sizeLine;decide⟩)⟩)
     show (zf0 cs.toArray.toList.length k).bind (fun j=>cs.toArray.toList[j]?)=some ch
     simp only[List.toList_toArray]
     rw[hj]
     exact hc1
    |_=>simp[yv0]at h1
   |_=>cases i <;> simp[yv0]at h1
  cases o with
  |p x=>exact .inl (seq (.inl ro) e)
  | ref n =>
   have e:(match zd0 st2 n with |some (.lst xs)=>okO (yv0 (.lst xs) i) st2 |some (.dct kvs)=>okO (zL3 i kvs) st2 |_=>.stuck)=Res.ok v st':=e
   obtain⟨p,hw,hp⟩:=id ro
   cases ho:zd0 st2 n with
   |none=>rw[ho]at e;cases e
   | some ob =>
    rw[ho]at e
    cases ob with
    |dead=>cases e
    |dtt _=>cases e
    | lst xs =>
     refine .inl (seq (x:=.lst xs) ?_ e)
     obtain⟨p',vs,h1,h2,h3⟩:=r2.lst n xs ho
     rw[hp]at h1;cases h1
     exact .inr ⟨xs,p,vs,rfl,hw,SqL.of h2,h3⟩
    | dct kvs =>
     obtain⟨z,h1,h2,h3⟩:=zx5 e
     subst h2 h3
     obtain⟨p',l,g1,g2,g3⟩:=r2.dct n kvs ho
     rw[hp]at g1;cases g1
     cases hk:keyOf i with
     | none =>
      obtain⟨k',hk'⟩:=yp2 g3 h1
      rw[hk]at hk';cases hk'
     | some k =>
      obtain⟨u,f1,f2⟩:=zV6 hk g3 h1
      refine .inr ⟨p,u,hw,?_,q _ H2 α2 (x1.trans x2) r2 f2⟩
      rw[yq8 wi hk,←f1]
      exact yw8.k g2
end
open PySem L2 PySem.SeqAt PyProof.Rows
section
variable{X:Cx}{C:zc5}{e:Expr}{es:List Expr}{irs:List E}{pos p:Pos}
def zz7(X:Cx)(f:Value)(g:List PV→Option PV):Prop :=
 zE9 X f fun ws H Q=>∃α st xs z,RSt X.K α st H∧Paired (RW X.K α st H) xs ws∧g xs=some z∧∀w H',zl0 H H'→RP X.K H' (zh4 α st) z w→Q w H'
theorem yd4{K:Frag}{α:Al}{st:za6}{H:Hp}(r:RSt K α st H):∀{vs:List Val} {ws:List V} {xs:List PV},Paired (RV K α st H) vs ws→zt1 st vs=some xs→Paired (RW K α st H) xs ws
 |[],ws,xs,h,e=>by cases h;cases e;exact .nil
 | v::vr,ws,xs,h,e=>by
  cases h with
  | cons q t =>
   unfold zt1 at e
   cases e1:view st v with
   |none=>rw[e1]at e;cases e
   | some x =>
    rw[e1]at e
    cases e2:zt1 st vr with
    |none=>rw[e2]at e;cases e
    | some xr =>
     rw[e2]at e
     cases e
     exact .cons (q.view r e1) (yd4 r t e2)
theorem zQ2{g:List PV→Option PV}{σ:L2.St}{H:Hp}{Q:VK}{irs:List E}{ir:E}(hi:∀env st,evalE C ir env st=(evalEs C irs env st).bind fun vs st=>opN g vs st)
  (h:tP X.K C ir σ H Q):tCB (fun ws H Q=>∃α st xs z,RSt X.K α st H∧Paired (RW X.K α st H) xs ws∧g xs=some z∧∀w H',zl0 H H'→RP X.K H' (zh4 α st) z w→Q w H') (tPs X.K C irs) σ H Q:=by
 obtain⟨env,α,st,v,st',at',e,q⟩:=h
 rw[hi]at e
 obtain⟨vs,st1,e1,e⟩:=Res.bind_inv e
 refine⟨env,α,st,vs,st1,at',e1,fun ws H1 α1 x1 r1 pr=>?_⟩
 unfold opN at e
 cases e2:zt1 st1 vs with
 |none=>rw[e2]at e;cases e
 | some xs =>
  rw[e2]at e
  obtain⟨z,h1,h2,h3⟩:=zx5 e
  subst h2 h3
  exact⟨α1,st',xs,z,r1,yd4 r1 pr e2,h1,fun w H2 s2 rp=>q w H2 α1 (x1.trans (.of_same r1 s2)) (r1.same s2) rp⟩
theorem yw9{x:Str}{id:String}{g:List PV→Option PV}{ir:E}(hc:zz7 X (.builtin id) g)(hi:∀env st,evalE C ir env st=(evalEs C irs env st).bind fun vs st=>opN g vs st)(hg:Gl X x)(hm:X.mg x=none)(hv:bootBuiltins x=some (.builtin id))
  (ha:SA X C (e::es) irs) (hn:x ≠ "__name__") (hdb:(x==("__debug__" : Str))=false) (he:starEach (e::es) X.env=(false,eval e X.env)::starEach es X.env) (hpl:(backTo pos (starEach es X.env)).any (·.1)=false) :
  SE X C (.Call (.Name x p) (e::es) [] pos) ir:=PE.mono (yd2 hc hg hm hv ha hn hdb he hpl) fun _ _ _ h=>zQ2 hi h
theorem yo9{x:Str}{T:String}{g:List PV→Option PV}{ir:E}(hc:zz7 X (.type T) g)(hi:∀env st,evalE C ir env st=(evalEs C irs env st).bind fun vs st=>opN g vs st)(hg:Gl X x)(hm:X.mg x=none)(hv:bootBuiltins x=some (.type T))
  (ha:SA X C (e::es) irs) (hn:x ≠ "__name__") (hdb:(x==("__debug__" : Str))=false) (he:starEach (e::es) X.env=(false,eval e X.env)::starEach es X.env) (hpl:(backTo pos (starEach es X.env)).any (·.1)=false) :
  SE X C (.Call (.Name x p) (e::es) [] pos) ir:=PE.mono (yo4 hc hg hm hv ha hn hdb he hpl) fun _ _ _ h=>zQ2 hi h
theorem zm6:zz7 X (.builtin "len") (f1 xr7):=by
 rintro pins s σ H ws us Q I rs ⟨α,st,xs,z,r,pr,hz,q⟩
 cases pr with
 |nil=>cases hz
 | cons h t =>
  cases t with
  |cons _ _=>cases hz
  | nil =>
   rename_i x w
   have hz:xr7 x=some z:=hz
   have fin:∀{n:Int},z=.int n→Q (.int n) H:=fun e=>q _ _ (zl0.refl H) (by rw[e,RP])
   cases x with
   | tup l =>
    obtain⟨a,vs,rfl,h1,h2⟩:=h.tup
    exact zC1 pins s σ H _ us Q I rs ⟨a,vs,rfl,.inr h1,fin (by rw[←h2.length];cases hz;rfl)⟩
   | lst l =>
    obtain⟨a,vs,rfl,h1,h2⟩:=h.lst
    exact zC1 pins s σ H _ us Q I rs ⟨a,vs,rfl,.inl h1,fin (by rw[←h2.length];cases hz;rfl)⟩
   | str cs =>
    obtain⟨h1,h2⟩:=h.str
    subst h1
    refine zP2 pins s σ H _ us Q I rs ⟨_,rfl,by rw[zo0];exact h2,fin ?_⟩
    rw[zo0];cases hz;rfl
   |_=>cases hz
theorem yn6{k:Int→Int→Int}{xs:List PV}{z:PV}(h:f2 (fI2 k) xs=some z):∃i j,xs=[.int i,.int j]∧z=.int (k i j):=by
 match xs,h with
 | [x,y],h =>
  have h:fI2 k x y=some z:=h
  cases x <;> cases y <;> simp only[fI2,reduceCtorEq,Option.some.injEq]at h
  exact⟨_,_,rfl,h.symm⟩
theorem yG6(hc:X.calm=true):zz7 X (.builtin "max") (f2 (fI2 fun i j=>if i<j then j else i)):=by
 rintro pins s σ H ws us Q I rs ⟨α,st,xs,z,r,pr,hz,q⟩
 obtain⟨i,j,rfl,rfl⟩:=yn6 hz
 cases pr with
 | cons h1 t =>
  cases t with
  | cons h2 t =>
   cases t
   have e1:=h1.int
   have e2:=h2.int
   subst e1 e2
   exact yr5 hc pins s σ H _ us Q I rs ⟨i,j,rfl,q _ _ (zl0.refl H) (by rw[RP])⟩
theorem yZ1{xs:List PV}{z:PV}(h:f1 xs2 xs=some z):(∃i,xs=[.int i])∨∃b,xs=[.bl b]:=by
 match xs with
 |[.int i]=>exact .inl ⟨i,rfl⟩
 |[.bl b]=>exact .inr ⟨b,rfl⟩
 |[.non]=>cases h
 |[.str _]=>cases h
 |[.tup _]=>cases h
 |[.lst _]=>cases h
 |[]=>cases h
 |_::_::_=>cases h
theorem xg2:zz7 X (.type "int") (f1 xs2):=by
 rintro pins s σ H ws us Q I rs ⟨α,st,xs,z,r,pr,hz,q⟩
 rcases yZ1 hz with⟨i,rfl⟩|⟨b,rfl⟩
 ·cases pr with
  | cons h1 t =>
   cases t
   have e1:=h1.int
   subst e1
   exact zR1 pins s σ H _ us Q I rs (.inl ⟨i,rfl,q _ _ (zl0.refl H) (by cases hz;rw[RP])⟩)
 ·cases pr with
  | cons h1 t =>
   cases t
   have e1:=h1.bl
   subst e1
   exact zR1 pins s σ H _ us Q I rs (.inr ⟨b,rfl,q _ _ (zl0.refl H) (by cases hz;rw[RP])⟩)
noncomputable def tS(K:Frag)(C:zc5)(W:Nat)(ss:List S):TS:=fun D σ H=>∃env α st fl st',At K α st H env σ∧execSs C W ss env st=.ok fl st' ∧
 match fl with
 |.next env'=>∀σ' H' α',Ext K α st H α' st' H'→At K α' st' H' env' σ'→D.nx σ' H'
 |.ret v=>∀w H' α',Ext K α st H α' st' H'→RSt K α' st' H'→RV K α' st' H' v w→D.rt w H'
noncomputable def tS1(K:Frag)(C:zc5)(W:Nat)(ss:S):TS:=fun D σ H=>∃env α st fl st',At K α st H env σ∧execS C W ss env st=.ok fl st' ∧
 match fl with
 |.next env'=>∀σ' H' α',Ext K α st H α' st' H'→At K α' st' H' env' σ'→D.nx σ' H'
 |.ret v=>∀w H' α',Ext K α st H α' st' H'→RSt K α' st' H'→RV K α' st' H' v w→D.rt w H'
noncomputable abbrev SSs(X:Cx)(C:zc5)(W:Nat)(b:List Stmt)(ss:List S):Prop:=PSs X b (tS X.K C W ss)
noncomputable abbrev SS(X:Cx)(C:zc5)(W:Nat)(b:Stmt)(ss:S):Prop:=PS X b (tS1 X.K C W ss)
variable{W:Nat}
theorem PS.mono{st:Stmt}{t t':TS}(h:PS X st t)(m:∀D σ H,t' D σ H→t D σ H):PS X st t':=fun pins s σ H D I q=>h pins s σ H D I (m _ _ _ q)
theorem PSs.mono{st:List Stmt}{t t':TS}(h:PSs X st t)(m:∀D σ H,t' D σ H→t D σ H):PSs X st t':=fun pins s σ H D I q=>h pins s σ H D I (m _ _ _ q)
theorem At.set{K:Frag}{α:Al}{st:za6}{H:Hp}{env:Env}{σ:L2.St}{i:Nat}{v:Val}{w:V}(a:At K α st H env σ)(h:RV K α st H v w):At K α st H (env.set i (some v)) (σ.set i (some w)):=by
 refine⟨by simp[a.len],a.rs,fun j u hj=>?_⟩
 by_cases hij:i=j
 ·subst hij
  by_cases hl:i<env.length
  ·rw[List.getElem?_set_self hl]at hj
   cases hj
   exact⟨w,by rw[List.getElem?_set_self (by rw[←a.len];exact hl)],h⟩
  ·rw[List.getElem?_eq_none (by simp;lia)]at hj
   cases hj
 ·rw[List.getElem?_set_ne hij]at hj
  obtain⟨w',h1,h2⟩:=a.env j u hj
  exact⟨w',by rw[List.getElem?_set_ne hij];exact h1,h2⟩
theorem yZ7:SSs X C W [] []:=PSs.mono yH9 fun D σ H h_=>by
 obtain⟨env,α,st,fl,st',at',e,q⟩:=h_
 rw[exs_nil]at e
 cases e
 exact q σ H α .refl at'
theorem yJ9{st:Stmt}{zn7:List Stmt}{i:S}{ir:List S}(h1:SS X C W st i)(h2:SSs X C W zn7 ir):SSs X C W (st::zn7) (i::ir) :=
 PSs.mono (yC4 h1 h2) fun D σ H h_=>by
  obtain⟨env,α,st,fl,st',at',e,q⟩:=h_
  rw[exs_cons]at e
  obtain⟨f1,st1,e1,e⟩:=Res.bind_inv e
  refine⟨env,α,st,f1,st1,at',e1,?_⟩
  cases f1 with
  | ret v =>
   cases e
   exact q
  | next env1 =>
   intro σ1 H1 α1 x1 at1
   refine⟨env1,α1,st1,fl,st',at1,e,?_⟩
   cases fl with
   |next env2=>exact fun σ2 H2 α2 x2 at2=>q σ2 H2 α2 (x1.trans x2) at2
   |ret v=>exact fun w H2 α2 x2 r2 rv=>q w H2 α2 (x1.trans x2) r2 rv
theorem yH5{ie:E}(h:SE X C e ie)(hs:swapsWith e none pos.line X.env=pure false):SS X C W (.Expr e pos) (.expr ie) :=
 PS.mono (yJ6 h hs) fun D σ H h_=>by
  obtain⟨env,α,st,fl,st',at',e,q⟩:=h_
  rw[yO7]at e
  obtain⟨v,st1,e1,e⟩:=Res.bind_inv e
  cases e
  exact⟨env,α,st,v,st',at',e1,fun w H1 α1 x1 r1 v1=>q σ H1 α1 x1 (at'.next x1 r1)⟩
theorem yS4{ie:E}(h:SE X C e ie):SS X C W (.Return (some e) pos) (.ret ie) :=
 PS.mono (xe6 h) fun D σ H h_=>by
  obtain⟨env,α,st,fl,st',at',e,q⟩:=h_
  rw[yo7]at e
  obtain⟨v,st1,e1,e⟩:=Res.bind_inv e
  cases e
  exact⟨env,α,st,v,st',at',e1,q⟩
theorem xt3{c:Expr}{ic:E}{a b:List Stmt}{sa sb:List S}(hc:ST X C c ic)(ha:SSs X C W a sa)(hb:SSs X C W b sb):SS X C W (.If c a b pos) (.ite ic sa sb) :=
 PS.mono (xs0 hc ha hb) fun D σ H h_=>by
  obtain⟨env,α,st,fl,st',at',e,q⟩:=h_
  rw[yF0]at e
  obtain⟨k,st1,e1,e⟩:=Res.bindB_inv e
  refine⟨env,α,st,k,st1,at',e1,fun H1 α1 x1 r1=>?_⟩
  have go:∀{ss:List S},execSs C W ss env st1=.ok fl st'→tS X.K C W ss D σ H1:=fun {ss} e2=>by
   refine⟨env,α1,st1,fl,st',at'.next x1 r1,e2,?_⟩
   cases fl with
   |next env2=>exact fun σ2 H2 α2 x2 at2=>q σ2 H2 α2 (x1.trans x2) at2
   |ret v=>exact fun w H2 α2 x2 r2 rv=>q w H2 α2 (x1.trans x2) r2 rv
  cases k with
  |true=>exact go e
  |false=>exact go e
theorem xg3{i:Nat}{x:Str}{ie:E}{pos':Pos}(hN:X.N.Nodup)(hi:X.N[i]?=some x)(hx:Loc X.env.scope x)(h:SE X C e ie)(hs:swapsWith e (some (.Name x pos')) pos.line X.env=pure false)(hf:X.fn x=true∨X.env.scope.names.lookup x=some .local):
  SS X C W (.Assign [.Name x pos'] e pos) (.set i ie) :=
 PS.mono (xi3 hN hi hx h hs hf) fun D σ H h_=>by
  obtain⟨env,α,st,fl,st',at',e,q⟩:=h_
  rw[yt0]at e
  obtain⟨v,st1,e1,e⟩:=Res.bind_inv e
  cases e
  exact⟨env,α,st,v,st',at',e1,fun w H1 α1 x1 r1 v1=>q _ H1 α1 x1 ((at'.next x1 r1).set v1)⟩
end
open PySem L2 PySem.SeqAt PyProof.Rows
noncomputable def Its(cs:List Nat):L2.It:=⟨fun i _=>i<cs.length,fun i H x H'=>H'=H∧∃c,cs[i]?=some c∧x=.str ⟨#[c]⟩,fun i _=>cs.length≤i⟩
theorem yb7{P:Program}{w:World}{K:Frag}{tg:Expr}(it:Addr)(cs:List Nat)(t:Tok)(ty:String)
  (hty:["enumerate","zip","dict_itemiterator","dict_reverseitemiterator","odict_iterator","itertools.zip_longest","itertools.pairwise"].contains ty=false)
  (item:∀{A:Around} {E:Value→Shared→Prop} {s:Shared} {i c:Nat} {Q:Option Value→Shared→Prop},s.heap.IsStrIter it ty ⟨cs.toArray⟩ t i→(⟨cs.toArray⟩:Str).cps[i]?=some c →
   (∀h',h'.IsStrIter it ty ⟨cs.toArray⟩ t (i+1)→Heap.SameBut it s.heap h'→Q (some (.str ⟨#[c]⟩ s.toks)) { s with heap:=h',toks:=s.toks+1 })→wpAny (model P w) A (pyNext (.ref it)) Q E s)
  (done:∀{A:Around} {E:Value→Shared→Prop} {s:Shared} {i:Nat} {Q:Option Value→Shared→Prop},A.handled=none→s.heap.IsStrIter it ty ⟨cs.toArray⟩ t i→(⟨cs.toArray⟩:Str).cps[i]?=none →
   (∀h',Heap.ExtBut it s.heap h'→Q none { s with heap:=h' })→wpAny (model P w) A (pyNext (.ref it)) Q E s)
  (self:∀{A:Around} {E:Value→Shared→Prop} {s:Shared} {i:Nat} {Q:Value→Shared→Prop},s.heap.IsStrIter it ty ⟨cs.toArray⟩ t i→Q (.ref it) s→wpAny (model P w) A (pyIter (.ref it)) Q E s) :
  yS1 P w K tg (Its cs) [it] it (fun i h=>h.IsStrIter it ty ⟨cs.toArray⟩ t i) where
 mem:=by simp
 obj:=fun i h st b hb=>by
  have e:b=it:=by simpa using hb
  subst e
  obtain⟨o,e,c,d⟩:=st
  exact⟨o,e,fun v z=>by rw[d]at z;cases z⟩
 keep:=fun i h h' st k=>by
  obtain⟨o,e,c,d⟩:=st
  exact⟨o,k it (by simp) o e,c,d⟩
 item:=by
  intro X hP hw hK hc i pins s σ H E I hf st hg
  subst hP hw hK
  obtain⟨f0,f1,f2,f3,f4,f5⟩:=hf it (by simp)
  have hg:i<cs.length:=hg
  refine item st (c:=cs[i]) (by simp[hg]) fun h' st' sb=>?_
  have I1:Inv X pins σ H { s with heap:=h',toks:=s.toks+1 }:=I.turned (fun b o hb e=>(sb.2 b hb).trans e) f0 f1 f3 f4 f5
  obtain⟨o,e,c,d⟩:=id st'
  exact⟨_,rfl,yD4 (s:={ s with heap:=h',toks:=s.toks+1 }) e c d hty ⟨.str ⟨#[cs[i]]⟩,H,I1,⟨_,rfl⟩,⟨rfl,cs[i],by simp[hg],rfl⟩,st',fun b hb=>(hf b hb).1⟩⟩
 done:=by
  intro X hP hw hK hc i pins s σ H E I hf st hg
  subst hP hw hK
  obtain⟨f0,f1,f2,f3,f4,f5⟩:=hf it (by simp)
  have hg:cs.length≤i:=hg
  exact done (I.ok.hd hc) st (by simp[hg]) fun h' eb=>⟨rfl,I.turned (t':=s.toks) (fun b o hb e=>eb b o hb e) f0 f1 f3 f4 f5⟩
 self:=fun _ _ _ _ _ st h=>self st h
noncomputable def iSeq(K:Frag)(tl:TE):TI:=fun σ H R=>tl σ H fun x H1 =>
 (∃a xs,x=.ref a∧SqL K H1 a xs∧(xs.length≤sizeLine→R (Itl K a) H1))∨(∃a xs,x=.ref a∧SqT K H1 a xs∧(xs.length≤sizeLine→R (Itt K a) H1))∨∃cs,x=.str ⟨cs.toArray⟩∧R (Its cs) H1
theorem yU3{X:Cx}{tg l:Expr}{tl:TE}(hl:PE X l tl):PI X tg l (iSeq X.K tl):=by
 intro pins s σ H R I h
 refine thn (hl pins s σ H _ I h) fun v s1 h_=>?_
 obtain⟨x,H1,I1,r1,q1⟩:=h_
 rcases q1 with⟨a,xs,e,hq,q⟩|⟨a,xs,e,hq,q⟩|⟨cs,e,q⟩
 ·subst e
  cases r1
  obtain⟨its,rv,p,hz⟩:=I1.list hq
  refine wpAny_pyIter_list p.isList ?_
  refine⟨s1.heap.objs.size,[s1.heap.objs.size],_,_,H1,rfl,I1.kept (t':=s1.toks) fun b o e=>Heap.get?_push_of_some _ e,yr7 a _,⟨_,Heap.get?_push_size _ rfl,rfl,rfl⟩,fun b hb=>?_,q hz⟩
  have e:b=s1.heap.objs.size:=by simpa using hb
  subst e
  exact I1.fpOk (Nat.le_refl _) (I1.hok.fresh (Nat.le_refl _))
 ·subst e
  cases r1
  obtain⟨its,rv,p,hz⟩:=I1.tuple hq
  refine wpAny_pyIter_tuple (show s1.heap.IsTuple a its.toArray from p) ?_
  refine⟨s1.heap.objs.size,[s1.heap.objs.size],_,_,H1,rfl,I1.kept (t':=s1.toks) fun b o e=>Heap.get?_push_of_some _ e,yf4 a _,⟨_,Heap.get?_push_size _ rfl,rfl,rfl⟩,fun b hb=>?_,q hz⟩
  have e:b=s1.heap.objs.size:=by simpa using hb
  subst e
  exact I1.fpOk (Nat.le_refl _) (I1.hok.fresh (Nat.le_refl _))
 ·subst e
  obtain⟨t,rfl⟩:=r1
  have fp:∀b∈[s1.heap.objs.size],zZ2 X pins H1 b:=fun b hb=>by
   have e:b=s1.heap.objs.size:=by simpa using hb
   subst e
   exact I1.fpOk (Nat.le_refl _) (I1.hok.fresh (Nat.le_refl _))
  cases ha:(⟨cs.toArray⟩:Str).cps.all (· < 128)
  ·refine wpAny_pyIter_wide ha ?_
   exact ⟨s1.heap.objs.size,[s1.heap.objs.size],_,_,H1,rfl,I1.kept (t':=s1.toks) fun b o e=>Heap.get?_push_of_some _ e,
    yb7 _ cs t "str_iterator" (by decide) (fun h1 h2 h3=>wpAny_pyNext_wide_item h1 h2 h3) (fun h0 h1 h2 h3=>wpAny_pyNext_wide_end h0 h1 h2 h3) (fun h1 h2=>wpAny_pyIter_striter_wide h1 h2),⟨_,Heap.get?_push_size _ rfl,rfl,rfl⟩,fp,q⟩
  ·refine wpAny_pyIter_ascii ha ?_
   exact ⟨s1.heap.objs.size,[s1.heap.objs.size],_,_,H1,rfl,I1.kept (t':=s1.toks) fun b o e=>Heap.get?_push_of_some _ e,
    yb7 _ cs t "str_ascii_iterator" (by decide) (fun h1 h2 h3=>wpAny_pyNext_ascii_item h1 h2 h3) (fun h0 h1 h2 h3=>wpAny_pyNext_ascii_end h0 h1 h2 h3) (fun h1 h2=>wpAny_pyIter_striter_ascii h1 h2),⟨_,Heap.get?_push_size _ rfl,rfl,rfl⟩,fp,q⟩
structure WalkAt(K:Frag)(α:Al)(st:za6)(H:Hp)(J:L2.It)(xs:List PV):Prop where
 go:∀(i:Nat),i<xs.length→J.go i H
 yld:∀(i:Nat) x w H',xs[i]?=some x→J.yld i H w H'→zl0 H H'∧RP K H' (zh4 α st) x w
 stop:∀(i:Nat),xs.length≤i→J.stop i H
def Walk(K:Frag)(α:Al)(st:za6)(H:Hp)(J:L2.It)(src:Option (Nat×List PV))(xs:List PV):Prop:=∀α' st' H',Lk K α st H α' st' H'→RSt K α' st' H'→zG9 st' src=true→WalkAt K α' st' H' J xs
noncomputable def tI(K:Frag)(C:zc5)(it:It):TI:=fun σ H R=>∃env α st xs src st',At K α st H env σ∧evalIt C it env st=.ok (xs,src) st' ∧
 ∀J H' α',Ext K α st H α' st' H'→RSt K α' st' H'→Walk K α' st' H' J src xs→xs.length≤sizeLine→R J H'
noncomputable abbrev SI(X:Cx)(C:zc5)(tg iter:Expr)(it:It):Prop:=PI X tg iter (tI X.K C it)
theorem PI.mono{X:Cx}{tg iter:Expr}{t t':TI}(h:PI X tg iter t)(m:∀σ H R,t' σ H R→t σ H R):PI X tg iter t':=fun pins s σ H R I q=>h pins s σ H R I (m _ _ _ q)
section
variable{X:Cx}{C:zc5}{W:Nat}{tg l:Expr}{il:E}{pos p:Pos}
theorem xe2(hl:SE X C l il):SI X C tg l (.of il):=PI.mono (yU3 hl) fun σ H R h_=>by
 obtain⟨env,α,st,xs,src,st',at',e,q⟩:=h_
 rw[yn3]at e
 obtain⟨v,st1,e1,e⟩:=Res.bind_inv e
 refine⟨env,α,st,v,st1,at',e1,fun w H1 α1 x1 r1 v1=>?_⟩
 unfold walkOf at e
 cases v with
 | ref n =>
  cases hv:view st1 (.ref n)with
  |none=>rw[hv]at e;cases e
  | some y =>
   rw[hv]at e
   have hy:∃ys,y=.lst ys∧zd0 st1 n=some (.lst ys):=by
    have hv:(match zd0 st1 n with |some (.lst xs)=>some (PV.lst xs)|_=>none)=some y:=hv
    cases ho:zd0 st1 n with
    |none=>rw[ho]at hv;cases hv
    | some ob =>
     rw[ho]at hv
     cases ob with
     |lst ys=>cases hv;exact⟨ys,rfl,rfl⟩
     |dct _=>cases hv
     |dtt _=>cases hv
     |dead=>cases hv
   obtain⟨ys,rfl,ho⟩:=hy
   cases e
   obtain⟨a,hw,ha⟩:=v1
   obtain⟨a',vs,h1,h2,h3⟩:=r1.lst n xs ho
   rw[ha]at h1;cases h1
   refine .inl ⟨a,vs,hw,SqL.of h2,fun hz=>q _ _ _ x1 r1 (fun α2 st2 H2 x2 r2 so=>?_) (by rw[h3.length];exact hz)⟩
   have so:view st2 (.ref n)=some (.lst xs):=of_decide_eq_true so
   have ho2:zd0 st2 n=some (.lst xs):=by
    have so:(match zd0 st2 n with |some (.lst xs)=>some (PV.lst xs)|_=>none)=some (.lst xs):=so
    cases ho:zd0 st2 n with
    |none=>rw[ho]at so;cases so
    | some ob =>
     rw[ho]at so
     cases ob with
     |lst ys=>cases so;rfl
     |dct _=>cases so
     |dtt _=>cases so
     |dead=>cases so
   obtain⟨a',vs2,k1,k2,g2⟩:=r2.lst n xs ho2
   rw[x2.pre n a ha]at k1;cases k1
   have g1:SqL X.K H2 a vs2:=SqL.of k2
   have gl:=g2.length
   refine⟨fun i hi=>⟨vs2,vs2[i],g1,List.getElem?_eq_getElem (by omega)⟩,fun i x w H' hx ⟨hy1,hy2⟩=>?_,fun i hi=>⟨vs2,g1,by omega⟩⟩
   subst hy1
   obtain⟨u,hu1,hu2⟩:=g2.get hx
   rw[hy2 vs2 g1]at hu1
   cases hu1
   exact⟨zl0.refl _,hu2⟩
 | p y =>
  have e:(match ze9 y with |some xs=>Res.ok (xs,none) st1 |none=>.stuck)=Res.ok (xs,src) st':=e
  cases y with
  | tup ys =>
   cases e
   have v1:RP X.K H1 (zh4 α1 st') (.tup xs) w:=v1
   rw[RP]at v1
   obtain⟨a,vs,rfl,h1,h2⟩:=v1
   refine .inr (.inl ⟨a,vs,rfl,h1,fun hz=>q _ _ _ x1 r1 (fun α2 st2 H2 x2 _ _=>?_) (by rw[h2.length];exact hz)⟩)
   have g1:=x2.tup a vs h1
   have g2:=x2.rps h2
   have gl:=g2.length
   refine⟨fun i hi=>⟨vs,vs[i],g1,List.getElem?_eq_getElem (by omega)⟩,fun i x w H' hx ⟨hy1,hy2⟩=>?_,fun i hi=>⟨vs,g1,by omega⟩⟩
   subst hy1
   obtain⟨u,hu1,hu2⟩:=g2.get hx
   rw[hy2 vs g1]at hu1
   cases hu1
   exact⟨zl0.refl _,hu2⟩
  | lst ys =>
   cases e
   have v1:RP X.K H1 (zh4 α1 st') (.lst xs) w:=v1
   rw[RP]at v1
   obtain⟨a,vs,rfl,h1,h0,h2⟩:=v1
   refine .inl ⟨a,vs,rfl,h1,fun hz=>q _ _ _ x1 r1 (fun α2 st2 H2 x2 _ _=>?_) (by rw[h2.length];exact hz)⟩
   have g1:=(x2.lst a vs h1 h0).1
   have g2:=x2.rps h2
   have gl:=g2.length
   refine⟨fun i hi=>⟨vs,vs[i],g1,List.getElem?_eq_getElem (by omega)⟩,fun i x w H' hx ⟨hy1,hy2⟩=>?_,fun i hi=>⟨vs,g1,by omega⟩⟩
   subst hy1
   obtain⟨u,hu1,hu2⟩:=g2.get hx
   rw[hy2 vs g1]at hu1
   cases hu1
   exact⟨zl0.refl _,hu2⟩
  | str cs =>
   cases e
   have v1:RP X.K H1 (zh4 α1 st') (.str cs) w:=v1
   rw[RP]at v1
   refine .inr (.inr ⟨cs,v1.1,q _ _ _ x1 r1 (fun α2 st2 H2 x2 _ _=>?_) (by simpa using v1.2)⟩)
   refine⟨fun i hi=>by simpa[Its]using hi,fun i x w H' hx ⟨hy1,c,hc,hw⟩=>?_,fun i hi=>by simpa[Its]using hi⟩
   subst hy1
   refine⟨zl0.refl _,?_⟩
   rw[List.getElem?_map,hc]at hx
   cases hx
   rw[RP]
   exact⟨hw,by show 1≤sizeLine;decide⟩
  |_=>cases e
theorem yC2{a:Expr}{ia:E}(hg:Gl X "range")(hm:X.mg "range" = none)(ha:SE X C a ia)(hs:starEach [a] X.env=[(false,eval a X.env)]):SI X C tg (.Call (.Name "range" p) [a] [] pos) (.range ia) :=
 PI.mono (yt2 hg hm (yu2 ha yE9 hs) hs) fun σ H R h_=>by
  obtain⟨env,α,st,xs,src,st',at',e,q⟩:=h_
  rw[yh8]at e
  obtain⟨v,y,st1,e1,hv,e⟩:=Res.bindV_inv e
  refine⟨env,α,st,[v],st1,at',by rw[zn5,e1];rfl,fun ws H1 α1 x1 r1 pr=>?_⟩
  cases pr with
  | cons h t =>
   cases t
   cases y with
   | int i =>
    have e:(if -1000000≤i∧i≤SZ then Res.ok ((List.range i.toNat).map (fun k:Nat=>PV.int (k:Int)),none) st1 else .stuck)=Res.ok (xs,src) st':=e
    by_cases hc:-1000000≤i∧i≤SZ
    ·rw[if_pos hc]at e
     cases e
     have hi:=(h.view r1 hv).int
     subst hi
     obtain⟨c1,c2⟩:=hc
     unfold SZ at c2
     have hzl:((List.range i.toNat).map (fun k:Nat=>PV.int (k:Int))).length≤sizeLine:=by
      have e:sizeLine=16777216:=by decide
      rw[List.length_map,List.length_range,e]
      omega
     refine⟨i,rfl,by omega,by omega,q _ _ _ x1 r1 (fun α2 st2 H2 x2 _ _=>?_) hzl⟩
     refine⟨fun k hk=>by simpa[Itr]using hk,fun k x w H' hx ⟨hy1,hy2⟩=>?_,fun k hk=>by simpa[Itr]using hk⟩
     subst hy1 hy2
     refine⟨zl0.refl _,?_⟩
     have hk:k<i.toNat:=by
      have:=(List.getElem?_eq_some_iff.mp hx).1
      simpa using this
     rw[List.getElem?_map,List.getElem?_range hk]at hx
     cases hx
     rw[RP]
     simp
    ·rw[if_neg hc]at e;cases e
   |_=>cases e
noncomputable def tG(K:Frag)(t:Tg):TG:=fun v σ H Q=>∃env α st x env',At K α st H env σ∧RP K H (zh4 α st) x v∧zr7 t (.p x) st env=some env'∧∀σ',At K α st H env' σ'→Q σ' H
noncomputable abbrev SG(X:Cx)(tg:Expr)(t:Tg):Prop:=PG X tg (tG X.K t)
theorem PG.mono{t t':TG}(h:PG X tg t)(m:∀v σ H Q,t' v σ H Q→t v σ H Q):PG X tg t':=fun pins s σ H v u Q I r q=>h pins s σ H v u Q I r (m _ _ _ _ q)
theorem yM8{i:Nat}{x:Str}(hN:X.N.Nodup)(hi:X.N[i]?=some x)(hx:Loc X.env.scope x)(hf:X.fn x=true∨X.env.scope.names.lookup x=some .local):SG X (.Name x pos) (.name i) :=
 PG.mono (yu4 hN hi hx hf) fun v σ H Q h_=>by
  obtain⟨env,α,st,x,env',at',rp,e,q⟩:=h_
  cases e
  exact q _ (at'.set rp)
theorem xh2{iter:Expr}{body:List Stmt}{it:It}{t:Tg}{ib:List S}(hp:PassesOwn (model X.prog X.w) X.A X.env X.xe)(hc:X.calm=true)(hi:SI X C tg iter it)(hg:SG X tg t)(hb:SSs X C W body ib)
  (hs:∀x,foldedSetIterable iter X.env x=pure x):SS X C W (.For tg iter body [] pos) (.for t it ib) :=
 PS.mono (xe8 hp hc hi hg hb hs) fun D σ H h_=>by
  obtain⟨env,α,st,fl,st',at',e,q⟩:=h_
  rw[yW8]at e
  obtain⟨⟨xs,src⟩,st1,e1,e⟩:=Res.bind_inv e
  refine⟨env,α,st,xs,src,st1,at',e1,fun J H1 α1 x1 r1 wk _=>?_⟩
  have e:zq8 (execSs C W ib) t src xs env st1=.ok fl st':=e
  let Pv:Nat→L2.St→Hp→Prop:=fun i σ H2=>∃env2 α2 st2,At X.K α2 st2 H2 env2 σ∧Ext X.K α1 st1 H1 α2 st2 H2∧zq8 (execSs C W ib) t src (xs.drop i) env2 st2=.ok fl st'
  refine⟨fun i m σ H2=>m=xs.length-i∧i≤xs.length∧Pv i σ H2,⟨xs.length,by simp,Nat.zero_le _,env,α1,st1,at'.next x1 r1,.refl,e⟩,?_⟩
  rintro i m σ2 H2 ⟨rfl,hil,env2,α2,st2,at2,x2,e2⟩
  by_cases hlt:i<xs.length
  ·rw[List.drop_eq_getElem_cons hlt,zq8]at e2
   by_cases so:zG9 st2 src=true
   ·rw[if_pos so]at e2
    have wa:=wk α2 st2 H2 x2.lk at2.rs so
    refine .inr ⟨wa.go i hlt,Pv (i+1),fun σ3 H3 p3=>⟨xs.length-(i+1),by omega,rfl,hlt,p3⟩,fun w H3 hy=>?_⟩
    obtain⟨s3,rp⟩:=wa.yld i xs[i] w H3 (List.getElem?_eq_getElem hlt) hy
    have x3:Ext X.K α2 st2 H2 α2 st2 H3:=.of_same at2.rs s3
    have at3:=at2.next x3 (at2.rs.same s3)
    cases hbt:zr7 t (.p xs[i]) st2 env2 with
    |none=>rw[hbt]at e2;cases e2
    | some env3 =>
     rw[hbt]at e2
     obtain⟨f,st4,e4,e2⟩:=Res.bind_inv e2
     refine⟨env2,α2,st2,xs[i],env3,at3,rp,hbt,fun σ3 at3'=>?_⟩
     refine⟨env3,α2,st2,f,st4,at3',e4,?_⟩
     cases f with
     |next env4=>exact fun σ5 H5 α5 x5 at5=>⟨env4,α5,st4,at5,x2.trans (x3.trans x5),e2⟩
     | ret v =>
      cases e2
      exact fun w H5 α5 x5 r5 rv=>q w H5 α5 (x1.trans (x2.trans (x3.trans x5))) r5 rv
   ·rw[if_neg so]at e2;cases e2
  ·have hie:xs.drop i=[]:=List.drop_eq_nil_of_le (by omega)
   rw[hie,zq8]at e2
   by_cases so:zG9 st2 src=true
   ·rw[if_pos so]at e2
    cases e2
    exact .inl ⟨(wk α2 st' H2 x2.lk at2.rs so).stop i (by omega),q σ2 H2 α2 (x1.trans x2) at2⟩
   ·rw[if_neg so]at e2;cases e2
end
open PySem L2 PySem.SeqAt PyProof.Rows
theorem zB1{env:PySem.Env}(f:(Str×NameKind)→List (Str×Addr)→Sem (ForInStep (List (Str×Addr))))
  (h1:∀x r c,x.2=.free→env.cells.lookup x.1=some c→f x r=pure (.yield ((x.1,c)::r))) (h2:∀x r,x.2≠.free→f x r=pure (.yield r)) :
  ∀ (l:List (Str×NameKind)) (acc:List (Str×Addr)),(∀x∈l,x.2=.free→∃c,env.cells.lookup x.1=some c)→(∀x c,acc.lookup x=some c→env.cells.lookup x=some c) →
   ∃cl,forIn l acc f=pure cl∧(∀x c,cl.lookup x=some c→env.cells.lookup x=some c)∧(∀x∈l,x.2=.free→∃c,cl.lookup x.1=some c)∧∀x,(∃c,acc.lookup x=some c)→∃c,cl.lookup x=some c
 |[],acc,_,ha=>⟨acc,rfl,ha,fun x hx=>absurd hx (by simp),fun x h=>h⟩
 | y::r,acc,hl,ha=>by
  by_cases hy:y.2=.free
  ·obtain⟨c,hc⟩:=hl y List.mem_cons_self hy
   have ha':∀x c',((y.1,c)::acc).lookup x=some c'→env.cells.lookup x=some c':=fun x c' e=>by
    rw[List.lookup_cons]at e
    split at e
    ·rename_i hx
     cases e
     have:x=y.1:=by simpa using hx
     rw[this];exact hc
    ·exact ha x c' e
   obtain⟨cl,g1,g2,g3,g4⟩:=zB1 f h1 h2 r ((y.1,c)::acc) (fun x hx=>hl x (List.mem_cons_of_mem _ hx)) ha'
   have keep:∀x,(∃c',acc.lookup x=some c')→∃c',((y.1,c)::acc).lookup x=some c':=fun x h_=>by
    obtain⟨c',e⟩:=h_
    rw[List.lookup_cons]
    split
    ·exact⟨c,rfl⟩
    ·exact⟨c',e⟩
   refine⟨cl,?_,g2,fun x hx hf=>?_,fun x hx=>g4 x (keep x hx)⟩
   ·rw[List.forIn_cons,h1 y acc c hy hc]
    exact g1
   ·rcases List.mem_cons.mp hx with e |hx
    ·subst e
     exact g4 _ ⟨c,by rw[List.lookup_cons];simp⟩
    ·exact g3 x hx hf
  ·obtain⟨cl,g1,g2,g3,g4⟩:=zB1 f h1 h2 r acc (fun x hx=>hl x (List.mem_cons_of_mem _ hx)) ha
   refine⟨cl,?_,g2,fun x hx hf=>?_,g4⟩
   ·rw[List.forIn_cons,h2 y acc hy]
    exact g1
   ·rcases List.mem_cons.mp hx with e |hx
    ·subst e;exact absurd hf hy
    ·exact g3 x hx hf
theorem zK0{env:PySem.Env}{scope:Scope}(h:∀x∈scope.names,x.2=.free→∃c,env.cells.lookup x.1=some c):
  ∃cl,closureFor scope env=pure cl∧(∀x c,cl.lookup x=some c→env.cells.lookup x=some c)∧∀x∈scope.names,x.2=.free→∃c,cl.lookup x.1=some c:=by
 unfold closureFor
 obtain ⟨cl,g1,g2,g3,_⟩:=zB1 (env:=env) (fun (x:Str×NameKind) (r:List (Str×Addr))=>(match x with
  | (name,kind)=>if (kind == .free)=true then (do
    let c ←cellOf env name
    pure (ForInStep.yield ((name,c)::r)))else pure (ForInStep.yield r):Sem (ForInStep (List (Str×Addr)))))
  (fun x r c hx hc=>by
   obtain⟨n,k⟩:=x
   simp only at hx hc ⊢
   subst hx
   unfold cellOf
   rw[hc]
   rfl)
  (fun x r hx=>by
   obtain⟨n,k⟩:=x
   simp only at hx ⊢
   rw[if_neg (by simpa using hx)])
  scope.names [] h (fun x c e=>by simp at e)
 refine⟨cl,?_,g2,g3⟩
 show (forIn scope.names [] _ >>= fun cs=>pure cs)=pure cl
 rw[show (forIn scope.names ([]:List (Str×Addr)) _)=pure cl from g1]
 rfl
noncomputable def zg9(X:Cx)(scope:Scope)(N:List Str)(cl:List (Str×Addr))(s₀:Shared)(H₀:Hp)(ex:List Addr)(pn:List (Addr×Obj)):Cx where
 prog:=X.prog
 w:=X.w
 K:=X.K
 mg:=X.mg
 base:=X.base
 A:=X.A
 N:=N
 s₀:=s₀
 H₀:=H₀
 env:=compEnvC scope cl s₀.heap.objs.size X.env
 outer:=X.stack
 stack:=X.stack
 ex:=ex
 fn:=fun _=>false
 calm:=X.calm
 pn:=pn
 xe:=fun _ _=>False
section
variable{X:Cx}{pins:List (Addr×Obj)}{σ:L2.St}{H:Hp}{s:Shared}{scope:Scope}{N:List Str}{cl:List (Str×Addr)}{fp:List Addr}{caps:List Nat}
theorem ya3{h1:Heap}{σ':L2.St}(I:Inv X pins σ H s)(hk:scope.kind=.function)(hcl:∀x c,cl.lookup x=some c→X.env.cells.lookup x=some c)(hclf:∀x,(compEnvC scope cl s.heap.objs.size X.env).kindOf x=some .cell∨(compEnvC scope cl s.heap.objs.size X.env).kindOf x=some .free→∃c,cl.lookup x=some c)
  (hfp:∀b∈fp,zZ2 X pins H b) (hfs:∀b∈fp,b<s.heap.objs.size) (hn:h1.Ns s.heap.objs.size fun _=>none) (hkept:∀b o,s.heap.get? b=some o→h1.get? b=some o) (hl:σ'.length=N.length)
  (hσ:∀(j:Nat) x v,N[j]?=some x→σ'[j]?=some (some v)→∃(i:Nat),X.N[i]?=some x∧σ[i]?=some (some v)∧(X.env.kindOf x=some .cell∨X.env.kindOf x=some .free)∧((compEnvC scope cl s.heap.objs.size X.env).kindOf x=some .cell∨(compEnvC scope cl s.heap.objs.size X.env).kindOf x=some .free)∧Vis X.env.scope x) :
  Inv (zg9 X scope N cl s H fp (X.pn++pins)) [] σ' H { s with heap:=h1 }:=by
 have nofr:∀{b:Addr},b≠X.env.locals→b∉X.fs→b∉frs X.stack:=fun h1 h2 z=>by
  rcases List.mem_cons.mp (I.stkSub _ z)with e |e
  ·exact h1 e
  ·exact h2 e
 refine ⟨⟨I.ok.mod,hk,I.ok.glob,I.ok.blt,Nat.le_refl _,fun x y c e1 e2=>I.ok.inj x y c (hcl x c e1) (hcl y c e2),hclf,fun x c e _=>(by cases e),I.ok.hd,I.ok.frames,.inl rfl,fun b hb=>?_,I.bs,Nat.le_trans I.ok.bsz I.sz,fun b o e hb=>?_,fun b hb=>?_,I.stack,I.stkFree⟩,
  rfl,I.bare,Un.kept hkept,⟨_,hn,fun j x v e1 e2 e3=>?_⟩,fun x c e=>?_,I.hok.fresh (Nat.le_refl _),fun x c e=>I.freeC x c (hcl x c e),fun p hp=>?_,I.hok.kept hkept,hl⟩
 ·exact⟨Nat.ne_of_lt (hfs b hb),fun x c e=>(hfp b hb).2.2.2.2.1 x c (hcl x c e)⟩
 ·have hb:b∈fp:=hb
  obtain⟨_,_,_,f3,_⟩:=hfp b hb
  rcases f3 with z |z
  ·exact I.ok.noex b o e z
  ·exact absurd (Nat.lt_of_lt_of_le (Heap.lt_size e) (Nat.le_trans I.ok.bsz z)) (Nat.lt_irrefl _)
 ·have hb:b∈fp:=hb
  obtain⟨_,f1,f2,_⟩:=hfp b hb
  exact nofr f1 f2
 ·obtain⟨i,a1,a2,a3,a4,a5⟩:=hσ j x v e1 e2
  obtain⟨m,hm,hlk⟩:=I.loc
  obtain⟨u,r,l⟩:=hlk i x v a1 a2 a5
  refine⟨u,r,.inr ⟨a4,?_⟩⟩
  rcases l with⟨k,_⟩|⟨_,c,e,z⟩
  ·rcases a3 with a3 |a3 <;> rw[k]at a3 <;> cases a3
  ·obtain⟨c',hc'⟩:=hclf x a4
   have:=hcl x c' hc'
   rw[e]at this
   cases this
   obtain⟨o,ho,hd⟩:=z
   exact⟨c,hc',o,hkept c o ho,hd⟩
 ·obtain⟨v,o,ho,hd⟩:=I.cell x c (hcl x c e)
  exact⟨v,o,hkept c o ho,hd⟩
 ·have hp:p∈(X.pn++pins)++[]:=hp
  rw[List.append_nil]at hp
  obtain⟨e,n,ne,nf,d⟩:=I.pin p hp
  exact⟨hkept _ _ e,n,Nat.ne_of_lt (Heap.lt_size e),nofr ne nf,d⟩
end
open PySem L2 PySem.SeqAt PyProof.Rows
section
variable{prog:Program}{w:World}{A:Around}{R:Result→Shared→Prop}{s:Shared}
theorem zT5{elt target iter:Expr}{ifs:List Expr}{scope:Scope}{pos:Pos}{it acc:Value}{env:PySem.Env}(I:Nat→Shared→Prop)
  (turn:∀n s,I n s→wpAny (model prog w) A (pyNext it) (fun r s₁=>match r with
   |none=>R (.ok .next) s₁
   | some v=>wpAny (model prog w) A (letOwnedTupleGo target it v) (fun _ s₁'=>wpAny (model prog w) A (assign target env v) (fun _ s₂ =>
     wpAny (model prog w) A (forIn ifs true fun c r=>if r=true then do let ok ←isTrue c env (eval c env);pure (ForInStep.yield ok)else pure (ForInStep.yield r)) (fun ok s₃ =>
      if ok=true then wpAny (model prog w) A (eval elt env) (fun x s₄ =>
       wpAny (model prog w) A (call (.builtin "list.append") [acc,x]) (fun _ s₅=>∃m,m<n∧I m s₅) (fun _ _=>False) s₄) (fun _ _=>False) s₃
      else ∃m,m<n∧I m s₃) (fun _ _=>False) s₂) (fun _ _=>False) s₁') (fun _ _=>False) s₁) (fun _ _=>False) s)
  (n:Nat) (h:I n s):codeAny (model prog w) A (.compLoop (.ListComp elt [⟨target,iter,ifs,0⟩] scope pos) 0 it acc env) R s:=by
 refine codeAny_loop rfl I (fun n s hI=>?_) n h
 show wpAny _ A ((compTurn (.ListComp elt [⟨target,iter,ifs,0⟩] scope pos) 0 it acc env).onRaise (fun x=>do noteFrame x env;theTreesLotGoes x)) _ _ s
 refine wpAny_noted ?_
 rw[compTurn_list]
 refine wpAny_bind (wpAny_standAt (wpAny_bind (wpAny_mono (turn n s hI) (fun r s₁ h₁=>?_) fun _ _ h'=>h'.elim)))
 cases r with
 |none=>exact wpAny_pure h₁
 | some v =>
  refine wpAny_bind (wpAny_mono h₁ (fun _ s₁' h₁'=>?_) fun _ _ h'=>h'.elim)
  refine wpAny_bind (wpAny_mono h₁' (fun _ s₂ h₂=>wpAny_bind (wpAny_mono h₂ (fun ok s₃ h₃=>?_) fun _ _ h'=>h'.elim)) fun _ _ h'=>h'.elim)
  cases ok with
  |false=>exact wpAny_pure ⟨rfl,h₃⟩
  | true =>
   exact wpAny_bind (wpAny_bind (wpAny_mono h₃ (fun x s₄ h₄=>wpAny_bind (wpAny_mono h₄ (fun _ s₅ h₅=>wpAny_pure (wpAny_pure ⟨rfl,h₅⟩)) fun _ _ h'=>h'.elim)) fun _ _ h'=>h'.elim))
end
noncomputable def capsσ(caps:List Nat)(n:Nat)(σ:L2.St):L2.St:=caps.map (fun i=>(σ[i]?).join)++List.replicate n none
noncomputable def yC3(K:Frag)(caps:List Nat)(n:Nat)(wi:TI)(g:TG)(tc:TT)(te:TE):TE:=fun σ H Q=>wi σ H fun J H1=>∀D,H1 D=none→K.lookup D=none→∃W:Nat→Nat→L2.St→Hp→List V→Prop,
 (∃m,W 0 m (capsσ caps n σ) (upd H1 D (.lst [])) []) ∧
 ∀ i m σ' H' ys,W i m σ' H' ys→H' D=some (.lst ys)∧((J.stop i H'∧Q (.ref D) H')∨(J.go i H'∧ys.length<sizeLine∧∀x H2,J.yld i H' x H2→g x σ' H2 fun σ2 H3=>tc σ2 H3 fun b H4 =>
  if b=true then te σ2 H4 fun y H5=>H5 D=some (.lst ys)∧∃m',m'<m∧W (i+1) m' σ2 (upd H5 D (.lst (ys++[y]))) (ys++[y])else ∃m',m'<m∧W (i+1) m' σ2 H4 ys))
def PTs(X:Cx)(ifs:List Expr)(t:TT):Prop :=
 ∀ (pins:List (Addr×Obj)) (s:Shared) (σ:L2.St) (H:Hp) (Q:Bool→Hp→Prop),Inv X pins σ H s→t σ H Q →
  wpAny (model X.prog X.w) X.A (forIn ifs true fun c r=>if r=true then do let ok ←isTrue c X.env (eval c X.env);pure (ForInStep.yield ok)else pure (ForInStep.yield r)) (TP X pins σ Q) X.xe s
theorem yK7{X:Cx}:PTs X [] (fun _ H Q=>Q true H):=fun pins s σ H Q I h=>wpAny_tests_nil ⟨H,I,h⟩
theorem yJ7{X:Cx}{c:Expr}{t:TT}(h:PT X c t):PTs X [c] t:=fun pins s σ H Q I q=>wpAny_tests_one (h pins s σ H Q I q)
open PySem L2 PySem.SeqAt PyProof.Rows
structure zG8(X:Cx)(scope:Scope)(N:List Str)(caps:List Nat)(n:Nat):Prop where
 kind:scope.kind=.function
 names:∀x∈scope.names,x.2=.local→scope.names.lookup x.1=some .local
 cell:∀x∈scope.names,x.2≠.cell
 free:∀x∈scope.names,x.2=.free→X.env.kindOf x.1=some .cell∨X.env.kindOf x.1=some .free
 look:∀x,scope.names.lookup x=some .free→∃k,(relabel scope X.env).names.lookup x=some k∧(k=.cell∨k=.free)
 back:∀x,(relabel scope X.env).names.lookup x=some .cell∨(relabel scope X.env).names.lookup x=some .free→(x,NameKind.free)∈scope.names
 cap:∀(j i:Nat),caps[j]?=some i→∃x,N[j]?=some x∧X.N[i]?=some x∧scope.names.lookup x=some .free
 len:N.length=caps.length+n
theorem zK4{X:Cx}{pins:List (Addr×Obj)}{σ σ':L2.St}{H3 H':Hp}{s3 s1:Shared}{h':Heap}{scope:Scope}{N:List Str}{cl:List (Str×Addr)}{fp:List Addr}(I3:Inv X pins σ H3 s3)
  (I':Inv (zg9 X scope N cl s3 H3 fp (X.pn++pins)) [] σ' H' s1) (hsb:Heap.SameBut s3.heap.objs.size s1.heap h') (hfp:∀b∈fp,zZ2 X pins H3 b):Inv X pins σ H' { s1 with heap:=h' }:=by
 have old:∀b o,s3.heap.get? b=some o→∀o',s1.heap.get? b=some o'→h'.get? b=some o':=fun b o e o' e'=>(hsb.2 b (Nat.ne_of_lt (Heap.lt_size e))).trans e'
 have B:=I'.base
 have free:H' s3.heap.objs.size=none:=I'.free
 refine I3.call' (s':={ s1 with heap:=h' }) (ch:=fp) I'.os ⟨fun b o e n hb hx=>?_,fun b o e n hb hx=>?_,fun b o e n hx=>B.free b o e n hx,fun b o e hx=>?_,B.tups,B.frzs,B.tbls⟩ (fun b u e=>?_) I'.bare (fun b hb=>?_)
 ·exact old b o e _ (B.keep b o e n hb hx)
 ·obtain⟨sl,e1⟩:=B.slot b o e n hb hx
  exact⟨sl,old b o e _ e1⟩
 ·obtain⟨o',e1⟩:=B.there b o e hx
  exact⟨o',old b o e _ e1⟩
 ·refine (I'.hok b u e).stay (fun c v hc q=>(hsb.2 c ?_).trans q) (fun _ q=>q) fun _ _ q=>q
  rintro rfl
  rcases hc with z |z
  ·rw[←z,free]at e;cases e
  ·rw[free]at z;cases z
 ·obtain⟨f0,f1,f2,f3,f4,f5⟩:=hfp b hb
  exact⟨f3,f1,f4,f5⟩
section
variable{X:Cx}{elt iter tg:Expr}{ifs:List Expr}{scope:Scope}{pos:Pos}{N:List Str}{caps:List Nat}{n:Nat}{wi:TI}{g:TG}{tc:TT}{te:TE}
theorem zp4{l:List (Str×NameKind)}{x:Str}{k:NameKind}(h:l.lookup x=some k):(x,k)∈l:=PySem.mem_of_lookup h
theorem yP6(hcalm:X.calm=true)(ok:zG8 X scope N caps n)(hi:PI X tg iter wi)
  (hg:∀cl s₀ H₀ ex pn,PG (zg9 X scope N cl s₀ H₀ ex pn) tg g) (ht:∀cl s₀ H₀ ex pn,PTs (zg9 X scope N cl s₀ H₀ ex pn) ifs tc) (he:∀cl s₀ H₀ ex pn,PE (zg9 X scope N cl s₀ H₀ ex pn) elt te)
  (hs:∀x,foldedSetIterable iter X.env x=pure x):PE X (.ListComp elt [⟨tg,iter,ifs,0⟩] scope pos) (yC3 X.K caps n wi g tc te):=by
 intro pins s σ H Q I h
 have hcells:∀x∈scope.names,x.2=.free→∃c,X.env.cells.lookup x.1=some c:=fun x hx hf=>I.ok.has x.1 (ok.free x hx hf)
 obtain⟨cl,hclo,hcl,hclf⟩:=zK0 hcells
 rw[eval_ListComp]
 refine wpAny_comprehension_free (use:=none) rfl hs hclo ok.kind ok.names (thn (hi pins s σ H _ I h) fun xv s1 h1=>thn h1 fun itv s2 h2=>?_)
 obtain⟨it,fp,tn,J,H2,rfl,I2,T,st2,f2,q2⟩:=h2
 have hKD:X.K.lookup s2.heap.objs.size=none:=by
  cases e:X.K.lookup s2.heap.objs.size with
  |none=>rfl
  |some o=>exact absurd (Heap.lt_size (I2.kIn _ _ e)) (Nat.lt_irrefl _)
 obtain⟨W,⟨m0,w0⟩,turn⟩:=q2 s2.heap.objs.size I2.fresh hKD
 refine wpAny_newObj_type ?_
 have I3:Inv X pins σ (upd H2 s2.heap.objs.size (.lst [])) { s2 with heap:=s2.heap.push { cls:=.type "list", data:=.seq ([]:List Value).toArray },toks:=s2.toks }:=I2.lnew .nil (by decide)
 generalize hD:s2.heap.objs.size=D at *
 generalize hs3:({ s2 with heap:=s2.heap.push { cls:=.type "list", data:=.seq ([]:List Value).toArray },toks:=s2.toks }:Shared)=s3 at I3
 refine wpAny_newFunctionEnv ok.cell (by intro y hy;simp at hy) (fun h1 hns hsb=>?_) ok.kind
 have e3:s3.heap.objs.size=D+1:=by rw[←hs3,←hD];exact Heap.size_push _ _
 have hkept:∀b o,s3.heap.get? b=some o→h1.get? b=some o:=fun b o e=>(hsb.2 b (Nat.ne_of_lt (Heap.lt_size e))).trans (Heap.get?_push_of_some _ e)
 have h23:∀b o,s2.heap.get? b=some o→s3.heap.get? b=some o:=fun b o e=>by rw[←hs3];exact Heap.get?_push_of_some _ e
 have hfD:∀b∈fp,b<D:=fun b hb=>by
  obtain⟨o,e,_⟩:=T.obj 0 _ st2 b hb
  rw[←hD];exact Heap.lt_size e
 have f3:∀b∈fp,zZ2 X pins (upd H2 D (.lst [])) b:=fun b hb=>⟨by rw[zf5 (Nat.ne_of_lt (hfD b hb))];exact (f2 b hb).1,(f2 b hb).2⟩
 have kX:∀x,X.env.kindOf x=X.env.scope.names.lookup x:=fun x=>rfl
 have I4:Inv (zg9 X scope N cl s3 (upd H2 D (.lst [])) fp (X.pn++pins)) [] (capsσ caps n σ) (upd H2 D (.lst [])) { s3 with heap:=h1 }:=by
  refine ya3 I3 ok.kind hcl (fun x hx=>hclf (x,.free) (ok.back x hx) rfl) f3 (fun b hb=>by rw[e3];exact Nat.lt_succ_of_lt (hfD b hb)) (by simpa using hns) hkept ?_ (fun j x v e1 e2=>?_)
  ·unfold capsσ
   rw[List.length_append,List.length_map,List.length_replicate,ok.len]
  ·have hj:j<caps.length:=by
    by_cases hj:j<caps.length
    ·exact hj
    ·unfold capsσ at e2
     rw[List.getElem?_append_right (by simpa using hj),List.getElem?_replicate]at e2
     split at e2 <;> cases e2
   unfold capsσ at e2
   rw[List.getElem?_append_left (by simpa using hj),List.getElem?_map,List.getElem?_eq_getElem hj]at e2
   obtain⟨x',a1,a2,a3⟩:=ok.cap j caps[j] (List.getElem?_eq_getElem hj)
   rw[e1]at a1;cases a1
   have fr:=ok.free (x,.free) (zp4 a3) rfl
   obtain⟨k,b1,b2⟩:=ok.look x a3
   refine⟨caps[j],a2,?_,fr,?_,?_⟩
   ·have e2:(σ[caps[j]]?).join=some v:=Option.some.inj e2
    cases hσ:σ[caps[j]]? with
    |none=>rw[hσ]at e2;cases e2
    |some o=>rw[hσ]at e2;exact congrArg some e2
   ·rcases b2 with rfl |rfl
    ·exact .inl b1
    ·exact .inr b1
   ·rcases fr with z |z
    ·exact .inr (.inl z)
    ·exact .inr (.inr z)
 have fpc:∀{H':Hp},(∀b∈fp,H' b=none)→∀b∈fp,zZ2 (zg9 X scope N cl s3 (upd H2 D (.lst [])) fp (X.pn++pins)) [] H' b:=fun {H'} hn b hb=>by
  obtain⟨f0,f1,f2',f3',f4,f5⟩:=f3 b hb
  refine⟨hn b hb,Nat.ne_of_lt (show b<s3.heap.objs.size by rw[e3];exact Nat.lt_succ_of_lt (hfD b hb)),fun z=>?_,.inl hb,fun x c e=>f4 x c (hcl x c e),fun p hp=>f5 p (by have hp:p∈(X.pn++pins)++[]:=hp;rwa [List.append_nil]at hp)⟩
  rcases List.mem_cons.mp (I3.stkSub _ z)with e |e
  ·exact f1 e
  ·exact f2' e
 have st4:tn 0 h1:=T.keep 0 _ _ st2 fun b _ o e=>hkept b o (h23 b o e)
 have loop:∀s4:Shared,s4={ s3 with heap:=h1 }→codeAny (model X.prog X.w) X.A (.compLoop (.ListComp elt [⟨tg,iter,ifs,0⟩] scope pos) 0 (.ref it) (.ref D) (compEnvC scope cl s3.heap.objs.size X.env))
   (compPost (model X.prog X.w) X.A X.xe none (EP X pins σ Q) (.ref D) s3.heap.objs.size) s4:=by
  rintro s4 rfl
  refine zT5 (fun m s'=>∃i σ' H' ys,Inv (zg9 X scope N cl s3 (upd H2 D (.lst [])) fp (X.pn++pins)) [] σ' H' s'∧tn i s'.heap∧(∀b∈fp,H' b=none)∧W i m σ' H' ys) ?_ m0 ⟨0,_,_,[],I4,st4,fun b hb=>(f3 b hb).1,w0⟩
  rintro m s5 ⟨i,σ5,H5,ys,I5,st5,fr5,w5⟩
  obtain⟨hDl,tu⟩:=turn i m σ5 H5 ys w5
  rcases tu with⟨stop,qn⟩|⟨go,hz,step⟩
  ·refine thn (T.done (zg9 X scope N cl s3 (upd H2 D (.lst [])) fp (X.pn++pins)) rfl rfl rfl hcalm i [] s5 σ5 H5 (fun _ _=>False) I5 (fpc fr5) st5 stop) fun r s6 h_=>?_
   obtain⟨hr,I6⟩:=h_
   subst hr
   obtain⟨mm,hmm,_⟩:=I6.loc
   exact⟨mm,hmm,fun h' hb'=>⟨.ref D,H5,zK4 I3 I6 hb' f3,rfl,qn⟩⟩
  ·refine thn (T.item (zg9 X scope N cl s3 (upd H2 D (.lst [])) fp (X.pn++pins)) rfl rfl rfl hcalm i [] s5 σ5 H5 (fun _ _=>False) I5 (fpc fr5) st5 go) fun r s6 h_=>?_
   obtain⟨u,hr,h6⟩:=h_
   subst hr
   refine thn h6 fun _ s7 h_=>?_
   obtain⟨x,H7,I7,r7,y7,st7,fr7⟩:=h_
   have I7':=I7.pinned (fpc fr7) (T.obj _ _ st7)
   refine thn (hg _ _ _ _ _ _ s7 σ5 H7 x u _ I7' r7 (step x H7 y7)) fun _ s8 h_=>?_
   obtain⟨σ8,H8,I8,q8⟩:=h_
   refine thn (ht _ _ _ _ _ _ s8 σ8 H8 _ I8 q8) fun b s9 h_=>?_
   obtain⟨H9,I9,q9⟩:=h_
   have pinsK:∀{σ7:L2.St} {Hx:Hp} {sx:Shared},Inv (zg9 X scope N cl s3 (upd H2 D (.lst [])) fp (X.pn++pins)) ([]++zK1 fp s7.heap) σ7 Hx sx→tn (i+1) sx.heap∧∀b∈fp,Hx b=none:=fun Ix=>by
    refine⟨T.keep _ _ _ st7 fun b hb o e=>(Ix.pin (b,o) (List.mem_append_right _ (List.mem_append_right _ (zo3 hb e)))).1,fun b hb=>?_⟩
    obtain⟨o,e,d⟩:=T.obj _ _ st7 b hb
    exact (Ix.pin (b,o) (List.mem_append_right _ (List.mem_append_right _ (zo3 hb e)))).2.1
   cases b with
   | false =>
    obtain⟨m',hm,w9⟩:=q9
    exact⟨m',hm,i+1,σ8,H9,ys,I9.unpinned,(pinsK I9).1,(pinsK I9).2,w9⟩
   | true =>
    refine thn (he _ _ _ _ _ _ s9 σ8 H9 _ I9 q9) fun yv s10 h_=>?_
    obtain⟨y,H10,I10,r10,hD10,m',hm,w10⟩:=h_
    refine thn (zI5 _ s10 σ8 H10 (.ref D) [y] (.ref D) [yv] (fun v Hx=>v=.non∧Hx=upd H10 D (.lst (ys++[y]))) I10 rfl (.cons r10 .nil) ⟨D,ys,y,rfl,rfl,hD10,hz,rfl,rfl⟩) fun _ s11 h_=>?_
    obtain⟨_,H11,I11,_,_,e11⟩:=h_
    subst e11
    exact⟨m',hm,i+1,σ8,_,ys++[y],I11.unpinned,(pinsK I11).1,(pinsK I11).2,w10⟩
 exact codeAny_compStart_list (loop _ rfl) (T.self _ 0 _ _ _ st4 (loop _ rfl))
end
open PySem L2 PySem.SeqAt PyProof.Rows
section
variable{X:Cx}{C:zc5}{elt iter tg:Expr}{ielt:E}{it:It}{t:Tg}{scope:Scope}{pos:Pos}{N:List Str}{caps:List Nat}{n:Nat}
noncomputable def Al.hold(α:Al)(D:Addr):Al:=⟨α.adr,fun a=>a=D∨α.rsv a⟩
theorem zO7{α:Al}{st:za6}{D a:Addr}:zh4 (α.hold D) st a↔a=D∨zh4 α st a:=by
 unfold zh4 Al.hold
 simp only
 constructor
 ·rintro ((h |h)|h)
  ·exact .inl h
  ·exact .inr (.inl h)
  ·exact .inr (.inr h)
 ·rintro (h |h |h)
  ·exact .inl (.inl h)
  ·exact .inl (.inr h)
  ·exact .inr h
theorem zE8{K:Frag}{α:Al}{st:za6}{H:Hp}{D:Addr}{o:HO}(hD:H D=none)(hK:K.lookup D=none):
  (∀a vs,SqT K H a vs→SqT K (upd H D o) a vs)∧∀a vs,SqL K H a vs→¬zh4 α st a→SqL K (upd H D o) a vs∧¬zh4 (α.hold D) st a:=by
 have s:=zg8 hD o
 refine⟨fun a vs h=>SqT.same s h,fun a vs h n=>⟨zl0.seq s h,fun l=>?_⟩⟩
 rcases zO7.mp l with e |e
 ·subst e
  rcases h with (h |⟨_,h⟩)|⟨_,_,_,h,_⟩
  ·rw[hD]at h;cases h
  ·rw[hD]at h;cases h
  ·rw[hK]at h;cases h
 ·exact n e
theorem yv6{K:Frag}{α:Al}{st:za6}{H:Hp}{D:Addr}{vs:List V}(r:RSt K α st H)(hD:H D=none)(hK:K.lookup D=none):RSt K (α.hold D) st (upd H D (.lst vs)):=by
 obtain⟨mt,ml⟩:=zE8 (α:=α) (st:=st) (o:=.lst vs) hD hK
 have s:=zg8 hD (.lst vs)
 refine⟨r.len,fun m xs h=>?_,fun m kvs h=>?_,fun m kvs h=>?_,r.inj,fun a h=>?_,fun m a o h1 h2 h3 hr=>?_,fun a h=>?_⟩
 ·obtain⟨a,ws,h1,h2,h3⟩:=r.lst m xs h
  exact⟨a,ws,h1,s _ _ h2,RPs.mono mt ml _ _ h3⟩
 ·obtain⟨a,ws,h1,h2,h3⟩:=r.dct m kvs h
  exact⟨a,ws,h1,s _ _ h2,RKV.mono mt ml _ _ h3⟩
 ·obtain⟨a,ws,h1,h2,h3⟩:=r.dtt m kvs h
  exact⟨a,ws,h1,s _ _ h2,RKT.mono mt ml _ _ h3⟩
 ·rcases zO7.mp h with e |e
  ·subst e;exact hK
  ·exact r.nk a e
 ·rcases hr with e |e
  ·subst e
   rcases r.live (.inr ⟨m,o,h1,h2,h3⟩)with⟨_,z⟩|⟨_,z⟩|⟨_,z⟩ <;> rw[hD]at z <;> cases z
  ·exact r.dis m a o h1 h2 h3 e
 ·rcases h with e |e
  ·subst e;exact⟨vs,ze2⟩
  ·obtain⟨ws,h1⟩:=r.rsv a e
   exact⟨ws,s _ _ h1⟩
theorem zP0{K:Frag}{α:Al}{st:za6}{H:Hp}{D:Addr}{ys zs:List V}(hr:α.rsv D)(hH:H D=some (.lst ys))(hK:K.lookup D=none):
  (∀a vs,SqT K H a vs→SqT K (upd H D (.lst zs)) a vs)∧∀a vs,SqL K H a vs→¬zh4 α st a→SqL K (upd H D (.lst zs)) a vs∧¬zh4 α st a:=by
 refine⟨fun a vs h=>?_,fun a vs h n=>⟨?_,n⟩⟩
 ·rcases h with (h |⟨o,h⟩)|h
  ·exact .inl (.inl (by rw[zf5 (by rintro rfl;rw[hH]at h;cases h)];exact h))
  ·exact .inl (.inr ⟨o,by rw[zf5 (by rintro rfl;rw[hH]at h;cases h)];exact h⟩)
  ·exact .inr h
 ·have ne:a≠D:=by rintro rfl;exact n (.inl hr)
  rcases h with (h |⟨o,h⟩)|h
  ·exact .inl (.inl (by rw[zf5 ne];exact h))
  ·exact .inl (.inr ⟨o,by rw[zf5 ne];exact h⟩)
  ·exact .inr h
theorem yC0{K:Frag}{α:Al}{st:za6}{H:Hp}{D:Addr}{ys zs:List V}(r:RSt K α st H)(hr:α.rsv D)(hH:H D=some (.lst ys)):RSt K α st (upd H D (.lst zs)):=by
 have hK:=r.nk D (.inl hr)
 obtain⟨mt,ml⟩:=zP0 (K:=K) (α:=α) (st:=st) (zs:=zs) hr hH hK
 have ne:∀{m:Nat} {a:Addr} {o:zz8},α.adr[m]?=some a→zd0 st m=some o→o≠.dead→a≠D:=fun h1 h2 h3 e=>r.dis _ _ _ h1 h2 h3 (e▸hr)
 refine⟨r.len,fun m xs h=>?_,fun m kvs h=>?_,fun m kvs h=>?_,r.inj,r.nk,r.dis,fun a h=>?_⟩
 ·obtain⟨a,ws,h1,h2,h3⟩:=r.lst m xs h
  exact⟨a,ws,h1,by rw[zf5 (ne h1 h (by intro z;cases z))];exact h2,RPs.mono mt ml _ _ h3⟩
 ·obtain⟨a,ws,h1,h2,h3⟩:=r.dct m kvs h
  exact⟨a,ws,h1,by rw[zf5 (ne h1 h (by intro z;cases z))];exact h2,RKV.mono mt ml _ _ h3⟩
 ·obtain⟨a,ws,h1,h2,h3⟩:=r.dtt m kvs h
  exact⟨a,ws,h1,by rw[zf5 (ne h1 h (by intro z;cases z))];exact h2,RKT.mono mt ml _ _ h3⟩
 ·by_cases e:a=D
  ·subst e;exact⟨zs,ze2⟩
  ·obtain⟨ws,h1⟩:=r.rsv a h
   exact⟨ws,by rw[zf5 e];exact h1⟩
end
open PySem L2 PySem.SeqAt PyProof.Rows
noncomputable def Al.as(α:Al)(ρ:Addr→Prop):Al:=⟨α.adr,ρ⟩
theorem zH8{α:Al}{ρ:Addr→Prop}{st:za6}{a:Addr}(hs:∀a,ρ a→α.rsv a)(h:zh4 (α.as ρ) st a):zh4 α st a:=by
 rcases h with h |h
 ·exact .inl (hs a h)
 ·exact .inr h
theorem RSt.as{K:Frag}{α:Al}{ρ:Addr→Prop}{st:za6}{H:Hp}(r:RSt K α st H)(hs:∀a,ρ a→α.rsv a):RSt K (α.as ρ) st H:=by
 have ml:∀a vs,SqL K H a vs→¬zh4 α st a→SqL K H a vs∧¬zh4 (α.as ρ) st a:=fun a vs h n=>⟨h,fun l=>n (zH8 hs l)⟩
 refine⟨r.len,fun m xs h=>?_,fun m kvs h=>?_,fun m kvs h=>?_,r.inj,fun a h=>r.nk a (zH8 hs h),fun m a o h1 h2 h3 h4=>r.dis m a o h1 h2 h3 (hs a h4),fun a h=>r.rsv a (hs a h)⟩
 ·obtain⟨a,ws,h1,h2,h3⟩:=r.lst m xs h
  exact⟨a,ws,h1,h2,RPs.mono (fun _ _ h=>h) ml _ _ h3⟩
 ·obtain⟨a,ws,h1,h2,h3⟩:=r.dct m kvs h
  exact⟨a,ws,h1,h2,RKV.mono (fun _ _ h=>h) ml _ _ h3⟩
 ·obtain⟨a,ws,h1,h2,h3⟩:=r.dtt m kvs h
  exact⟨a,ws,h1,h2,RKT.mono (fun _ _ h=>h) ml _ _ h3⟩
section
variable{X:Cx}{C:zc5}{elt iter tg:Expr}{ifs:List Expr}{ielt:E}{it:It}{t:Tg}{scope:Scope}{pos:Pos}{N:List Str}{caps:List Nat}{n:Nat}
theorem yU4{K:Frag}{α:Al}{st:za6}{H:Hp}{env:Env}{σ:L2.St}(a:At K α st H env σ):At K α st H (zy7 caps n env) (capsσ caps n σ):=by
 refine⟨by simp[zy7,capsσ],a.rs,fun j v h=>?_⟩
 unfold zy7 at h
 unfold capsσ
 by_cases hj:j<caps.length
 ·rw[List.getElem?_append_left (by simpa using hj),List.getElem?_map,List.getElem?_eq_getElem hj]at h ⊢
  have h:(env[caps[j]]?).join=some v:=Option.some.inj h
  cases he:env[caps[j]]? with
  |none=>rw[he]at h;cases h
  | some o =>
   rw[he]at h
   have h:o=some v:=h
   subst h
   obtain⟨w,h1,h2⟩:=a.env _ v he
   exact⟨w,by show some ((σ[caps[j]]?).join)=some (some w);rw[h1];rfl,h2⟩
 ·rw[List.getElem?_append_right (by simpa using hj),List.getElem?_replicate]at h
  split at h <;> cases h
noncomputable def tTs(K:Frag)(C:zc5):Option E→TT
 |none=>fun _ H Q=>Q true H
 |some c=>tT K C c
noncomputable def yg8(C:zc5):Option E→Option (Env→za6→Res Val)
 |none=>none
 |some c=>some (evalE C c)
theorem yz5{cond:Option E}{src:Option (Nat×List PV)}{xs:List PV}{env:Env}{st:za6}{acc:List PV}:zt5 C ielt cond t src xs env st acc=compLoop (evalE C ielt) (yg8 C cond) t src xs env st acc:=by cases cond <;> rfl
theorem yz9{cond:Option E}{σ:L2.St}{H:Hp}{Q:VK}{env:Env}{α:Al}{st st1 st':za6}{xs zs:List PV}{src:Option (Nat×List PV)}(at':At X.K α st H env σ)(e1:evalIt C it env st=.ok (xs,src) st1)(e2:zt5 C ielt cond t src xs (zy7 caps n env) st1 []=.ok zs st')
  (fin:∀D ys α1 st1 H1 α2 H2,Ext X.K α st H α1 st1 H1→Lk X.K α1 st1 H1 α2 st' H2→RSt X.K α2 st' H2→α2.rsv=(α1.hold D).rsv→¬α1.rsv D→H2 D=some (.lst ys)→RPs X.K H2 (zh4 α2 st') zs ys→Q (.ref D) H2) :
  yC3 X.K caps n (tI X.K C it) (tG X.K t) (tTs X.K C cond) (tP X.K C ielt) σ H Q:=by
 refine⟨env,α,st,xs,src,st1,at',e1,fun J H1 α1 x1 r1 wk hz D hD hK=>?_⟩
 rw[yz5]at e2
 have at1:=at'.next x1 r1
 have nD:¬α1.rsv D:=fun h=>by obtain⟨vs,z⟩:=r1.rsv D h;rw[hD]at z;cases z
 refine ⟨fun i m σ' H' ys=>m=xs.length-i∧i≤xs.length∧H' D=some (.lst ys)∧∃env2 α2 st2 acc,At X.K α2 st2 H' env2 σ'∧(α2.rsv=(α1.hold D).rsv)∧Lk X.K α1 st1 H1 α2 st2 H'∧RPs X.K H' (zh4 α2 st2) acc ys∧acc.length≤i ∧
  compLoop (evalE C ielt) (yg8 C cond) t src (xs.drop i) env2 st2 acc=.ok zs st',⟨xs.length,by simp,Nat.zero_le _,ze2,zy7 caps n env,α1.hold D,st1,[],?_,rfl,?_,by rw[RPs],Nat.le_refl _,e2⟩,?_⟩
 ·have rh:=yv6 (vs:=[]) at1.rs hD hK
  obtain⟨mt,ml⟩:=zE8 (α:=α1) (st:=st1) (o:=.lst []) hD hK
  have a2:At X.K (α1.hold D) st1 (upd H1 D (.lst [])) env σ:=⟨at1.len,rh,fun i v h=>by
   obtain⟨w,h1,h2⟩:=at1.env i v h
   refine⟨w,h1,?_⟩
   cases v with
   |p x=>exact RP.mono mt ml _ _ h2
   |ref k=>exact h2⟩
  exact yU4 a2
 ·obtain⟨mt,ml⟩:=zE8 (K:=X.K) (α:=α1) (st:=st1) (o:=.lst []) hD hK
  exact⟨fun _ _ h=>h,mt,ml,fun a h=>.inr h,fun a h=>by rw[zf5 (by rintro rfl;exact nD h)]⟩
 rintro i m σ2 H2 ys ⟨rfl,hil,hDl,env2,α2,st2,acc,at2,hrs,lk,rps,hacc,e3⟩
 have hrD:α2.rsv D:=by rw[hrs];exact .inl rfl
 refine⟨hDl,?_⟩
 -- the walk as it stands here: seen without the list under way
 have sub1:∀a,α1.rsv a→α2.rsv a:=lk.sub
 have exB:Ext X.K α1 st1 H1 (α2.as α1.rsv) st2 H2:=⟨lk.pre,lk.tup,fun a vs h nn=>let⟨h1,n1⟩:=lk.lst a vs h nn;⟨h1,fun l=>n1 (zH8 sub1 l)⟩,rfl,lk.raw⟩
 have rsB:RSt X.K (α2.as α1.rsv) st2 H2:=at2.rs.as sub1
 by_cases hlt:i<xs.length
 ·rw[List.drop_eq_getElem_cons hlt,compLoop]at e3
  by_cases so:zG9 st2 src=true
  ·rw[if_pos so]at e3
   have wa:=wk α2 st2 H2 lk at2.rs so
   have lyl:acc.length=ys.length:=rps.length
   refine .inr ⟨wa.go i hlt,by omega,fun w H3 hy=>?_⟩
   obtain⟨s3,rp⟩:=wa.yld i xs[i] w H3 (List.getElem?_eq_getElem hlt) hy
   have x3:Ext X.K α2 st2 H2 α2 st2 H3:=.of_same at2.rs s3
   have at3:=at2.next x3 (at2.rs.same s3)
   have lk3:=lk.step x3
   have rps3:=x3.rps rps
   have hD3:H3 D=some (.lst ys):=s3 _ _ hDl
   cases hbt:zr7 t (.p xs[i]) st2 env2 with
   |none=>rw[hbt]at e3;cases e3
   | some env3 =>
    rw[hbt]at e3
    refine⟨env2,α2,st2,xs[i],env3,at3,rp,hbt,fun σ3 at3'=>?_⟩
    -- behind the test
    have go:∀{b:Bool} {st4:za6} {H4:Hp} {α4:Al},Ext X.K α2 st2 H3 α4 st4 H4→RSt X.K α4 st4 H4 →
      (if b then (evalE C ielt env3 st4).bindP fun y st5=>compLoop (evalE C ielt) (yg8 C cond) t src (xs.drop (i+1)) env3 st5 (acc++[y])else compLoop (evalE C ielt) (yg8 C cond) t src (xs.drop (i+1)) env3 st4 acc)=.ok zs st' →
      if b=true then tP X.K C ielt σ3 H4 (fun y H5=>H5 D=some (.lst ys)∧∃m',m'<xs.length-i∧(m'=xs.length-(i+1)∧i+1≤xs.length∧(upd H5 D (.lst (ys++[y]))) D=some (.lst (ys++[y]))∧∃env2 α2 st2 acc,At X.K α2 st2 (upd H5 D (.lst (ys++[y]))) env2 σ3∧(α2.rsv=(α1.hold D).rsv)∧Lk X.K α1 st1 H1 α2 st2 (upd H5 D (.lst (ys++[y])))∧RPs X.K (upd H5 D (.lst (ys++[y]))) (zh4 α2 st2) acc (ys++[y])∧acc.length≤i+1 ∧
        compLoop (evalE C ielt) (yg8 C cond) t src (xs.drop (i+1)) env2 st2 acc=.ok zs st'))
      else ∃m',m'<xs.length-i∧(m'=xs.length-(i+1)∧i+1≤xs.length∧H4 D=some (.lst ys)∧∃env2 α2 st2 acc,At X.K α2 st2 H4 env2 σ3∧(α2.rsv=(α1.hold D).rsv)∧Lk X.K α1 st1 H1 α2 st2 H4∧RPs X.K H4 (zh4 α2 st2) acc ys∧acc.length≤i+1 ∧
        compLoop (evalE C ielt) (yg8 C cond) t src (xs.drop (i+1)) env2 st2 acc=.ok zs st'):=by
     intro b st4 H4 α4 x4 r4 e4
     have at4:=at3'.next x4 r4
     have hD4:H4 D=some (.lst ys):=(x4.raw D hrD).trans hD3
     cases b with
     |false=>exact⟨_,by omega,rfl,hlt,hD4,env3,α4,st4,acc,at4,x4.rsv.trans hrs,lk3.step x4,x4.rps rps3,by omega,e4⟩
     | true =>
      obtain⟨y0,st5,e5,e6⟩:=Res.bindP_inv e4
      refine⟨env3,α4,st4,_,st5,at4,e5,fun y H5 α5 x5 r5 rv=>?_⟩
      have hr5:α5.rsv D:=by rw[x5.rsv,x4.rsv];exact hrD
      have hD5:H5 D=some (.lst ys):=(x5.raw D (by rw[x4.rsv];exact hrD)).trans hD4
      have at5:=at4.next x5 r5
      have lk5:=(lk3.step x4).step x5
      obtain⟨mt,ml⟩:=zP0 (K:=X.K) (α:=α5) (st:=st5) (zs:=ys++[y]) hr5 hD5 (r5.nk D (.inl hr5))
      refine⟨hD5,_,by omega,rfl,hlt,ze2,env3,α5,st5,acc++[y0],⟨at5.len,yC0 r5 hr5 hD5,fun k v h=>?_⟩,x5.rsv.trans (x4.rsv.trans hrs),⟨lk5.pre,fun a vs h=>mt a vs (lk5.tup a vs h),fun a vs h nn=>let⟨h1,n1⟩:=lk5.lst a vs h nn;ml a vs h1 n1,lk5.sub,fun a h=>?_⟩,?_,by simp;omega,e6⟩
      ·obtain⟨w',h1,h2⟩:=at5.env k v h
       refine⟨w',h1,?_⟩
       cases v with
       |p z=>exact RP.mono mt ml _ _ h2
       |ref _=>exact h2
      ·rw[zf5 (by rintro rfl;exact nD h)]
       exact lk5.raw a h
      ·exact RPs.mono mt ml _ _ ((x5.rps (x4.rps rps3)).snoc rv)
    cases cond with
    |none=>exact go (b:=true) .refl at3.rs e3
    | some c =>
     obtain⟨b,st4,e4,e5⟩:=Res.bindB_inv e3
     exact⟨env3,α2,st2,b,st4,at3',e4,fun H4 α4 x4 r4=>go x4 r4 e5⟩
  ·rw[if_neg so]at e3;cases e3
 ·have hie:xs.drop i=[]:=List.drop_eq_nil_of_le (by omega)
  rw[hie,compLoop]at e3
  by_cases so:zG9 st2 src=true
  ·rw[if_pos so]at e3
   cases e3
   exact .inl ⟨(wk α2 st' H2 lk at2.rs so).stop i (by omega),fin D ys α1 st1 H1 α2 H2 x1 lk at2.rs hrs nD hDl rps⟩
  ·rw[if_neg so]at e3;cases e3
theorem yD3{K:Frag}{α α1 α2:Al}{st st1 st':za6}{H H1 H2:Hp}{D:Addr}{ys:List V}{zs:List PV}(x1:Ext K α st H α1 st1 H1)(lk:Lk K α1 st1 H1 α2 st' H2)(r2:RSt K α2 st' H2)(hrs:α2.rsv=(α1.hold D).rsv)(nD:¬α1.rsv D)(hDl:H2 D=some (.lst ys))(rps:RPs K H2 (zh4 α2 st') zs ys):
  Ext K α st H (α2.as α1.rsv) st' H2∧RSt K (α2.as α1.rsv) st' H2∧RV K (α2.as α1.rsv) st' H2 (.p (.lst zs)) (.ref D):=by
 have hrD:α2.rsv D:=by rw[hrs];exact .inl rfl
 have sub1:∀a,α1.rsv a→α2.rsv a:=lk.sub
 refine⟨x1.trans ⟨lk.pre,lk.tup,fun a vs h nn=>let⟨h1,n1⟩:=lk.lst a vs h nn;⟨h1,fun l=>n1 (zH8 sub1 l)⟩,rfl,lk.raw⟩,r2.as sub1,?_⟩
 rw[RV,RP]
 refine⟨D,ys,rfl,SqL.of hDl,fun l=>?_,RPs.mono (fun _ _ h=>h) (fun a vs h nn=>⟨h,fun l=>nn (zH8 sub1 l)⟩) _ _ rps⟩
 rcases l with l |⟨k,o,l1,l2,l3⟩
 ·exact nD l
 ·exact r2.dis k D o l1 l2 l3 hrD
theorem zT9{cond:Option E}{σ:L2.St}{H:Hp}{Q:VK}(h:tP X.K C (.comp false ielt t it cond caps n) σ H Q):yC3 X.K caps n (tI X.K C it) (tG X.K t) (tTs X.K C cond) (tP X.K C ielt) σ H Q:=by
 obtain⟨env,α,st,v,st',at',e,q⟩:=h
 rw[yL2]at e
 obtain⟨⟨xs,src⟩,st1,e1,e⟩:=Res.bind_inv e
 obtain⟨zs,st2,e2,e⟩:=Res.bind_inv e
 simp only[mk,Bool.false_eq_true,if_false]at e
 cases e
 refine yz9 at' e1 e2 fun D ys α1 st1 H1 α2 H2 x1 lk r2 hrs nD hDl rps=>?_
 obtain⟨a,b,c⟩:=yD3 x1 lk r2 hrs nD hDl rps
 exact q _ H2 _ a b c
theorem yM6{cond:Option E}(hcalm:X.calm=true)(ok:zG8 X scope N caps n)(hi:SI X C tg iter it)
  (hg:∀cl s₀ H₀ ex pn,SG (zg9 X scope N cl s₀ H₀ ex pn) tg t) (ht:∀cl s₀ H₀ ex pn,PTs (zg9 X scope N cl s₀ H₀ ex pn) ifs (tTs X.K C cond)) (he:∀cl s₀ H₀ ex pn,SE (zg9 X scope N cl s₀ H₀ ex pn) C elt ielt)
  (hs:∀x,foldedSetIterable iter X.env x=pure x):SE X C (.ListComp elt [⟨tg,iter,ifs,0⟩] scope pos) (.comp false ielt t it cond caps n) :=
 PE.mono (yP6 (g:=tG X.K t) (te:=tP X.K C ielt) hcalm ok hi hg ht he hs) fun _ _ _ h=>zT9 h
end
open PySem L2 PySem.SeqAt PyProof.Rows
noncomputable def spF(K:Frag)(P:List FD)(W d k:Nat)(np:Nat):Sp:=fun vs H Q _=>vs.length=np∧∃α st us v st',RSt K α st H∧Paired (RV K α st H) us vs∧zg2 P W d k us st=.ok v st' ∧
 ∀w H' α',Ext K α st H α' st' H'→RSt K α' st' H'→RV K α' st' H' v w→Q w H'
noncomputable def Al.cut(α:Al)(k:Nat):Al:=⟨α.adr.take k,α.rsv⟩
theorem zn0{st:za6}{k n:Nat}{o:zz8}(h:zd0 (st.take k) n=some o):n<k∧zd0 st n=some o:=by
 unfold zd0 at h ⊢
 rw[List.getElem?_take]at h
 split at h
 ·exact⟨by assumption,h⟩
 ·cases h
theorem zE0{l:List Addr}{k n:Nat}{a:Addr}(h:(l.take k)[n]?=some a):l[n]?=some a:=by
 rw[List.getElem?_take]at h
 split at h
 ·exact h
 ·cases h
theorem zD6{α:Al}{st:za6}{k:Nat}{a:Addr}(h:zh4 (α.cut k) (st.take k) a):zh4 α st a:=by
 rcases h with h |⟨n,o,h1,h2,h3⟩
 ·exact .inl h
 ·exact .inr ⟨n,o,zE0 h1,(zn0 h2).2,h3⟩
theorem RSt.cut{K:Frag}{α:Al}{st:za6}{H:Hp}(r:RSt K α st H)(k:Nat):RSt K (α.cut k) (st.take k) H:=by
 have ml:∀a vs,SqL K H a vs→¬zh4 α st a→SqL K H a vs∧¬zh4 (α.cut k) (st.take k) a:=fun a vs h n=>⟨h,fun l=>n (zD6 l)⟩
 have up:∀{n:Nat} {a:Addr},n<k→α.adr[n]?=some a→(α.adr.take k)[n]?=some a:=fun hn h=>by rw[List.getElem?_take,if_pos hn];exact h
 refine⟨?_,fun m xs h=>?_,fun m kvs h=>?_,fun m kvs h=>?_,fun n m a o o' hne h1 h2 h3 h4=>r.inj n m a o o' hne (zE0 h1) (zE0 h2) (zn0 h3).2 (zn0 h4).2,fun a h=>r.nk a (zD6 h),fun m a o h1 h2 h3=>r.dis m a o (zE0 h1) (zn0 h2).2 h3,r.rsv⟩
 ·show (α.adr.take k).length=(st.take k).length
  rw[List.length_take,List.length_take,r.len]
 ·obtain⟨hm,h⟩:=zn0 h
  obtain⟨a,ws,h1,h2,h3⟩:=r.lst m xs h
  exact⟨a,ws,up hm h1,h2,RPs.mono (fun _ _ h=>h) ml _ _ h3⟩
 ·obtain⟨hm,h⟩:=zn0 h
  obtain⟨a,ws,h1,h2,h3⟩:=r.dct m kvs h
  exact⟨a,ws,up hm h1,h2,RKV.mono (fun _ _ h=>h) ml _ _ h3⟩
 ·obtain⟨hm,h⟩:=zn0 h
  obtain⟨a,ws,h1,h2,h3⟩:=r.dtt m kvs h
  exact⟨a,ws,up hm h1,h2,RKT.mono (fun _ _ h=>h) ml _ _ h3⟩
theorem Ext.cut{K:Frag}{α α':Al}{st st':za6}{H H':Hp}(e:Ext K α st H α' st' H')(hl:α.adr.length=st.length):Ext K α st H (α'.cut st.length) (st'.take st.length) H':=by
 refine⟨fun n a h=>?_,e.tup,fun a vs h n=>let⟨h1,n1⟩:=e.lst a vs h n;⟨h1,fun l=>n1 (zD6 l)⟩,e.rsv,e.raw⟩
 have hn:n<st.length:=by rw[←hl];exact (List.getElem?_eq_some_iff.mp h).1
 show (α'.adr.take st.length)[n]?=some a
 rw[List.getElem?_take,if_pos hn]
 exact e.pre n a h
theorem zA7{α β:Type}{F:α→β→Prop}{a:List α}{b:List β}(h:Paired F a b):a.length=b.length:=Paired.length h
theorem yx4{K:Frag}{α:Al}{st:za6}{H:Hp}{N:List Str}:∀{us:List Val} {vs:List V},RSt K α st H→Paired (RV K α st H) us vs→At K α st H (us.map some++List.replicate (N.length-us.length) none) (L2.start N vs):=by
 intro us vs r p
 have hl:=zA7 p
 refine⟨by unfold L2.start;simp[hl],r,fun i v h=>?_⟩
 have get:∀{us:List Val} {vs:List V} {i:Nat} {v:Val},Paired (RV K α st H) us vs→us[i]?=some v→∃w,vs[i]?=some w∧RV K α st H v w:=by
  intro us vs i v p
  induction p generalizing i with
  |nil=>intro h;simp at h
  | cons q t ih =>
   intro h
   cases i with
   |zero=>simp at h;subst h;exact⟨_,rfl,q⟩
   |succ i=>simpa using ih (by simpa using h)
 by_cases hi:i<us.length
 ·rw[List.getElem?_append_left (by simpa using hi),List.getElem?_map,List.getElem?_eq_getElem hi]at h
  cases h
  obtain⟨w,h1,h2⟩:=get p (List.getElem?_eq_getElem hi)
  refine⟨w,?_,h2⟩
  unfold L2.start
  rw[List.getElem?_append_left (by rw[List.length_map];lia),List.getElem?_map,h1]
  rfl
 ·rw[List.getElem?_append_right (by simpa using hi),List.getElem?_replicate]at h
  split at h <;> cases h
section
variable{P:Program}{w:World}{K:Frag}{mg:Str→Option Value}{base:Heap}{PR:List FD}{W d k:Nat}
theorem ze6{f:Addr}{fd:FuncData}{ps:List Str}:zq2 P w K mg base CX0 0 f fd ps (spF K PR W 0 k ps.length):=by
 refine⟨fun vs H Q E h=>h.1,fun A outer s H args us vs Q E _ _ _ _ h=>?_⟩
 obtain⟨_,α,st,us',v,st',_,_,e,_⟩:=h
 cases e
theorem yK4{x qual:Str}{st:Stmt}{f:Addr}{fd:FuncData}{N ps:List Str}{ib:List S}(F:Fun K x qual st f fd)(S:zd5 N ps (za5 st))(hP:PR[k]?=some ⟨ps.length,N.length,ib⟩)
  (hb:∀(cdv:Value) (A:Around) (outer:List PySem.Env) (s:Shared) (H:Hp) (E:XK),zo2 d (A.deeper (envOfC qual (za5 st) s.heap.objs.size f cdv)) →
   SSs (zs8 CX0 P w K mg base N qual (za5 st) f cdv A outer s H E).nox (zg2 PR W d) W (za9 st) ib):zq2 P w K mg base CX0 (d+1) f fd ps (spF K PR W (d+1) k ps.length):=by
 refine F.ok S (fun vs H Q E h=>h.1) fun cdv A outer s H vs Q E hr h=>⟨_,hb cdv A outer s H E hr,?_⟩
 obtain⟨hl,α,st0,us,v,st',r,pr,e,q⟩:=h
 have hus:us.length=ps.length:=by rw[zA7 pr,hl]
 rw[zb7 hP (by exact hus)]at e
 obtain⟨fl,st1,e1,e2⟩:=Res.bind_inv e
 have at0:=yx4 (N:=N) r pr
 rw[hus]at at0
 refine⟨_,α,st0,fl,st1,at0,e1,?_⟩
 cases fl with
 | next env' =>
  intro σ' H' α' x1 at1
  cases e2
  exact q _ H' (α'.cut st0.length) (x1.cut r.len) (at1.rs.cut _) (by rw[RV,RP])
 | ret u =>
  intro w1 H' α' x1 r1 rv
  rw[ym5]at e2
  cases e2
  cases v with
  |p y=>exact q _ H' (α'.cut st0.length) (x1.cut r.len) (r1.cut _) (RP.mono (fun _ _ h=>h) (fun a vs h n=>⟨h,fun l=>n (zD6 l)⟩) _ _ rv)
  | ref m =>
   unfold yx7 at q
   by_cases hm:m<st0.length
   ·simp only[hm,if_true]at q
    obtain⟨a,h1,h2⟩:=rv
    exact q _ H' (α'.cut st0.length) (x1.cut r.len) (r1.cut _) ⟨a,h1,by show (α'.adr.take st0.length)[m]?=some a;rw[List.getElem?_take,if_pos hm];exact h2⟩
   ·simp only[hm,if_false]at q
    exact q _ H' α' x1 r1 rv
end
section
variable{X:Cx}{PR:List FD}{W d k:Nat}{e:Expr}{es:List Expr}{irs:List E}{pos p:Pos}
theorem yI8{x:Str}{f:Addr}{fd:FuncData}{ps:List Str}(F:zq2 X.prog X.w X.K X.mg X.base CX0 d f fd ps (spF X.K PR W d k ps.length))(hr:zo2 d X.A)(hg:Gl X x)(hm:X.mg x=some (.ref f))(hk:keepIn X.K (.ref f)=true)(hb:Binds X.K fd ps [])
  (ha:SA X (zg2 PR W d) (e::es) irs) (hn:irs.length=ps.length) (hdb:(x==("__debug__" : Str))=false) (he:starEach (e::es) X.env=(false,eval e X.env)::starEach es X.env) (hpl:(backTo pos (starEach es X.env)).any (·.1)=false) :
  SE X (zg2 PR W d) (.Call (.Name x p) (e::es) [] pos) (.call k irs) :=
 PE.mono (yP8 F hr hg hm hk hb .nil xm6 ha hdb he hpl) fun σ H Q h_=>by
  obtain⟨env,α,st,v,st',at',e,q⟩:=h_
  rw[yR4]at e
  obtain⟨vs,st1,e1,e⟩:=Res.bind_inv e
  refine⟨env,α,st,vs,st1,at',e1,fun ws H1 α1 x1 r1 pr=>?_⟩
  show spF X.K PR W d k ps.length (ws++[]) H1 Q E0
  rw[List.append_nil]
  have lv:∀{irs:List E} {env:Env} {st st':za6} {vs:List Val},evalEs (zg2 PR W d) irs env st=.ok vs st'→vs.length=irs.length:=by
   intro irs
   induction irs with
   |nil=>intro env st st' vs h;rw[zy3]at h;cases h;rfl
   | cons i r ih =>
    intro env st st' vs h
    rw[zn5]at h
    obtain⟨x,st1,e1,h⟩:=Res.bind_inv h
    obtain⟨ys,st2,e2,h⟩:=Res.bind_inv h
    cases h
    simp[ih e2]
  exact⟨by rw[←zA7 pr,lv e1,hn],α1,st1,vs,v,st',r1,pr,e,fun w H2 α2 x2 r2 rv=>q w H2 α2 (x1.trans x2) r2 rv⟩
end
open PySem L2 PySem.SeqAt PyProof.Rows
section
variable{K:Frag}{α:Al}{st:za6}{H:Hp}{n:Nat}{a:Addr}{o o':zz8}
theorem zj3{m:Nat}{x:zz8}(h:zd0 (st.set n o') m=some x):(m=n∧x=o')∨(m≠n∧zd0 st m=some x):=by
 by_cases hm:m=n
 ·subst hm
  have hl:m<st.length:=by have:=zv4 h;simpa using this
  rw[zI2 hl]at h
  cases h
  exact .inl ⟨rfl,rfl⟩
 ·rw[zC7 hm]at h
  exact .inr ⟨hm,h⟩
theorem ya8(ho:zd0 st n=some o)(h1:o≠.dead)(h2:o'≠.dead){b:Addr}:zh4 α (st.set n o') b↔zh4 α st b:=by
 constructor
 ·rintro (h |⟨m,x,e1,e2,e3⟩)
  ·exact .inl h
  ·rcases zj3 e2 with⟨rfl,rfl⟩|⟨_,e2⟩
   ·exact .inr ⟨m,o,e1,ho,h1⟩
   ·exact .inr ⟨m,x,e1,e2,e3⟩
 ·rintro (h |⟨m,x,e1,e2,e3⟩)
  ·exact .inl h
  ·by_cases hm:m=n
   ·subst hm
    exact .inr ⟨m,o',e1,zI2 (zv4 ho),h2⟩
   ·exact .inr ⟨m,x,e1,by rw[zC7 hm];exact e2,e3⟩
theorem zG0{h':HO}(r:RSt K α st H)(ha:α.adr[n]?=some a)(ho:zd0 st n=some o)(h1:o≠.dead)(h2:o'≠.dead):Ext K α st H α (st.set n o') (upd H a h'):=by
 have la:zh4 α st a:=.inr ⟨n,o,ha,ho,h1⟩
 have nt:∀b vs,SqT K H b vs→SqT K (upd H a h') b vs:=fun b vs h=>by
  rcases h with (h |⟨x,h⟩)|h
  ·refine .inl (.inl ?_)
   rw[zf5]
   ·exact h
   ·rintro rfl
    rcases r.live la with⟨_,z⟩|⟨_,z⟩|⟨_,z⟩ <;> rw[z]at h <;> cases h
  ·refine .inl (.inr ⟨x,?_⟩)
   rw[zf5]
   ·exact h
   ·rintro rfl
    rcases r.live la with⟨_,z⟩|⟨_,z⟩|⟨_,z⟩ <;> rw[z]at h <;> cases h
  ·exact .inr h
 refine⟨fun _ _ h=>h,nt,fun b vs h nl=>⟨?_,fun l=>nl ((ya8 ho h1 h2).mp l)⟩,rfl,fun b hb=>?_⟩
 ·have ne:b≠a:=by rintro rfl;exact nl la
  rcases h with (h |⟨x,h⟩)|h
  ·exact .inl (.inl (by rw[zf5 ne];exact h))
  ·exact .inl (.inr ⟨x,by rw[zf5 ne];exact h⟩)
  ·exact .inr h
 ·rw[zf5]
  rintro rfl
  exact r.dis n _ o ha ho h1 hb
theorem zM1{h':HO}(r:RSt K α st H)(ha:α.adr[n]?=some a)(ho:zd0 st n=some o)(h1:o≠.dead)(h2:o'≠.dead)
  (hl:∀xs,o'=.lst xs→∃vs,h'=.lst vs∧RPs K H (zh4 α st) xs vs) (hd:∀kvs,o'=.dct kvs→∃l,h'=.dK l∧RKV K H (zh4 α st) kvs l) (ht:∀kvs,o'=.dtt kvs→∃l,h'=.dT l∧RKT K H (zh4 α st) kvs l):RSt K α (st.set n o') (upd H a h'):=by
 have ex:=zG0 (h':=h') r ha ho h1 h2
 have ne:∀{m:Nat} {b:Addr} {x:zz8},m≠n→α.adr[m]?=some b→zd0 st m=some x→x≠.dead→b≠a:=fun hm e1 e2 e3 z=>by
  subst z
  rcases r.inj _ _ _ _ _ hm e1 ha e2 ho with z |z
  ·exact e3 z
  ·exact h1 z
 refine⟨by rw[List.length_set];exact r.len,fun m xs h=>?_,fun m kvs h=>?_,fun m kvs h=>?_,fun m m' b x x' hne e1 e2 e3 e4=>?_,fun b h=>r.nk b ((ya8 ho h1 h2).mp h),fun m b x e1 e2 e3=>?_,fun b hb=>?_⟩
 ·rcases zj3 h with⟨rfl,e⟩|⟨hm,h⟩
  ·obtain⟨vs,rfl,rp⟩:=hl xs e.symm
   exact⟨a,vs,ha,ze2,ex.rps rp⟩
  ·obtain⟨b,vs,e1,e2,e3⟩:=r.lst m xs h
   exact⟨b,vs,e1,by rw[zf5 (ne hm e1 h (by intro z;cases z))];exact e2,ex.rps e3⟩
 ·rcases zj3 h with⟨rfl,e⟩|⟨hm,h⟩
  ·obtain⟨l,rfl,rp⟩:=hd kvs e.symm
   exact⟨a,l,ha,ze2,RKV.mono ex.tup ex.lst _ _ rp⟩
  ·obtain⟨b,vs,e1,e2,e3⟩:=r.dct m kvs h
   exact⟨b,vs,e1,by rw[zf5 (ne hm e1 h (by intro z;cases z))];exact e2,RKV.mono ex.tup ex.lst _ _ e3⟩
 ·rcases zj3 h with⟨rfl,e⟩|⟨hm,h⟩
  ·obtain⟨l,rfl,rp⟩:=ht kvs e.symm
   exact⟨a,l,ha,ze2,RKT.mono ex.tup ex.lst _ _ rp⟩
  ·obtain⟨b,vs,e1,e2,e3⟩:=r.dtt m kvs h
   exact⟨b,vs,e1,by rw[zf5 (ne hm e1 h (by intro z;cases z))];exact e2,RKT.mono ex.tup ex.lst _ _ e3⟩
 ·rcases zj3 e3 with⟨rfl,rfl⟩|⟨hm,e3'⟩
  ·rcases zj3 e4 with⟨rfl,rfl⟩|⟨hm',e4⟩
   ·exact absurd rfl hne
   ·rcases r.inj m m' b o x' hne e1 e2 ho e4 with z |z
    ·exact absurd z h1
    ·exact .inr z
  ·rcases zj3 e4 with⟨rfl,rfl⟩|⟨hm',e4⟩
   ·rcases r.inj m m' b x o hne e1 e2 e3' ho with z |z
    ·exact .inl z
    ·exact absurd z h1
   ·exact r.inj m m' b x x' hne e1 e2 e3' e4
 ·rcases zj3 e2 with⟨rfl,rfl⟩|⟨hm,e2⟩
  ·exact r.dis m b o e1 ho h1
  ·exact r.dis m b x e1 e2 e3
 ·obtain⟨vs,e⟩:=r.rsv b hb
  refine⟨vs,?_⟩
  rw[zf5]
  ·exact e
  ·rintro rfl
   exact r.dis n _ o ha ho h1 hb
theorem yp6{lv:Addr→Prop}{k:PV}{k':Key}(hk:keyOf k=some k'):∀{kvs:List (PV×PV)} {l:List (Key×V)},RKV K H lv kvs l→(kvs.any fun p=>decide (p.1=k))=l.any fun kv=>decide (kv.1=k')
 |[],l,h=>by rw[RKV]at h;subst h;rfl
 | (k1,x1)::r,l,h=>by
  rw[RKV]at h
  obtain⟨k2,v,l',rfl,h1,h2,h3⟩:=h
  rw[List.any_cons,List.any_cons,yp6 hk h3]
  congr 1
  by_cases e:k1=k
  ·subst e
   rw[hk]at h1;cases h1
   simp
  ·have:k2≠k':=fun z=>e (zz1 h1 (z▸hk))
   simp[e,this]
theorem yl4{lv:Addr→Prop}{k x:PV}{k':Key}{v:V}(hk:keyOf k=some k')(hx:RP K H lv x v):∀{kvs:List (PV×PV)} {l:List (Key×V)},RKV K H lv kvs l→RKV K H lv (kvs.map fun p=>if p.1=k then (p.1,x)else p) (l.map fun kv=>if kv.1=k' then (kv.1,v)else kv)
 |[],l,h=>by rw[RKV]at h;subst h;rw[List.map_nil,List.map_nil,RKV]
 | (k1,x1)::r,l,h=>by
  rw[RKV]at h
  obtain⟨k2,v2,l',rfl,h1,h2,h3⟩:=h
  rw[List.map_cons,List.map_cons]
  have ih:=yl4 hk hx h3
  by_cases e:k1=k
  ·subst e
   rw[hk]at h1;cases h1
   rw[if_pos rfl,if_pos rfl,RKV]
   exact⟨_,v,_,rfl,hk,hx,ih⟩
  ·have:k2≠k':=fun z=>e (zz1 h1 (z▸hk))
   rw[if_neg e,if_neg this,RKV]
   exact⟨k2,v2,_,rfl,h1,h2,ih⟩
theorem yd5{lv:Addr→Prop}{k x:PV}{k':Key}{v:V}(hk:keyOf k=some k')(hx:RP K H lv x v):∀{kvs:List (PV×PV)} {l:List (Key×V)},RKV K H lv kvs l→RKV K H lv (kvs++[(k,x)]) (l++[(k',v)])
 |[],l,h=>by rw[RKV]at h;subst h;rw[List.nil_append,List.nil_append,RKV];exact⟨k',v,[],rfl,hk,hx,by rw[RKV]⟩
 | (k1,x1)::r,l,h=>by
  rw[RKV]at h
  obtain⟨k2,v2,l',rfl,h1,h2,h3⟩:=h
  rw[List.cons_append,List.cons_append,RKV]
  exact⟨k2,v2,_,rfl,h1,h2,yd5 hk hx h3⟩
theorem yr9{lv:Addr→Prop}{k x:PV}{k':Key}{v:V}(hk:keyOf k=some k')(hx:RP K H lv x v){kvs:List (PV×PV)}{l:List (Key×V)}(h:RKV K H lv kvs l):RKV K H lv (zQ3 k x kvs) (zJ7 l k' v):=by
 unfold zQ3 zJ7
 rw[yp6 hk h]
 split
 ·exact yl4 hk hx h
 ·exact yd5 hk hx h
theorem RKV.length{lv:Addr→Prop}:∀{kvs:List (PV×PV)} {l:List (Key×V)},RKV K H lv kvs l→kvs.length=l.length
 |[],l,h=>by rw[RKV]at h;subst h;rfl
 | (k1,x1)::r,l,h=>by
  rw[RKV]at h
  obtain⟨k2,v2,l',rfl,h1,h2,h3⟩:=h
  simp[RKV.length h3]
end
section
variable{X:Cx}{C:zc5}{W:Nat}{o i value:Expr}{io ii iv:E}{pos pos':Pos}
theorem yt6(hu:X.A.units+1<cLine):yG9 X (fun o i v H Q=>∃a H',o=.ref a∧xe0 H a i v H'∧Q H'):=by
 rintro pins s σ H o i v ov iv u Q I ro ri rv ⟨a,H',e,g,q⟩
 subst e
 obtain rfl:ov=Value.ref a:=ro
 exact ys1 hu I g ri rv fun s' I'=>⟨H',I',q⟩
theorem yG9.or{t t':xl5}(h:yG9 X t)(h':yG9 X t'):yG9 X (fun o i v H Q=>t o i v H Q∨t' o i v H Q):=by
 intro pins s σ H o i v ov iv u Q I ro ri rv q
 rcases q with q |q
 ·exact h pins s σ H o i v ov iv u Q I ro ri rv q
 ·exact h' pins s σ H o i v ov iv u Q I ro ri rv q
theorem yv9(hu:X.A.units+1<cLine)(ho:SE X C o io)(hi:SE X C i ii)(hv:SE X C value iv)
  (ha:∀v,assign (.Subscript o i pos') X.env v=(do
   let ov ←holding [v] (eval o X.env)
   let iv ←holding [v,ov] (eval i X.env)
   standAt pos'
   holding [v,ov,iv] (setItem ov iv v)
   release [v,ov,iv] []))
  (hs:swapsWithSole [.Subscript o i pos'] value pos.line X.env=pure false) (hw:swappedStores [.Subscript o i pos'] value X.env=pure none)
  (h1:(assignEach [.Subscript o i pos'] X.env).map (·.2)=[assign (.Subscript o i pos') X.env]):SS X C W (.Assign [.Subscript o i pos'] value pos) (.setIx io ii iv) :=
 PS.mono (yE1 hv (yT0 ho hi (yG9.or yB9 (yt6 hu)) ha) hs hw h1) fun D σ H h_=>by
  obtain⟨env,α,st,fl,st',at',e,q⟩:=h_
  rw[yw6]at e
  obtain⟨x,st1,e1,e⟩:=Res.bindP_inv e
  obtain⟨ov,st2,e2,e⟩:=Res.bind_inv e
  obtain⟨iv',y,st3,e3,hy,e⟩:=Res.bindV_inv e
  obtain⟨_,st4,e4,e⟩:=Res.bind_inv e
  cases e
  refine⟨env,α,st,_,st1,at',e1,fun w H1 α1 x1 r1 v1=>?_⟩
  refine⟨env,α1,st1,ov,st2,at'.next x1 r1,e2,fun w2 H2 α2 x2 r2 v2=>?_⟩
  refine⟨env,α2,st2,iv',st3,(at'.next x1 r1).next x2 r2,e3,fun w3 H3 α3 x3 r3 v3=>?_⟩
  have rx:=(x2.trans x3).rv v1
  have ro:=x3.rv v2
  have wy:=v3.view r3 hy
  have at3:=((at'.next x1 r1).next x2 r2).next x3 r3
  cases ov with
  |p z=>cases e4
  | ref n =>
   obtain⟨a,rfl,ha⟩:=ro
   have e4:(match zd0 st3 n with |some (.lst xs)=>(match xj5 xs y x with |some ys=>Res.ok () (st3.set n (.lst ys))|none=>.stuck)|some (.dct kvs)=>(if kvs.length<1000000∧zy8 y=true then Res.ok () (st3.set n (.dct (zQ3 y x kvs)))else .stuck)|_=>.stuck)=Res.ok () st':=e4
   cases hob:zd0 st3 n with
   |none=>rw[hob]at e4;cases e4
   | some ob =>
    rw[hob]at e4
    cases ob with
    |dead=>cases e4
    |dtt _=>cases e4
    | lst xs =>
     cases hsl:xj5 xs y x with
     |none=>simp only[hsl]at e4;cases e4
     | some ys =>
      simp only[hsl]at e4
      cases e4
      obtain⟨a',vs,g1,g2,g3⟩:=r3.lst n xs hob
      rw[ha]at g1;cases g1
      cases y with
      | int k =>
       obtain⟨j,hj,hys⟩:=Option.map_eq_some_iff.mp (show (zf0 xs.length k).map (fun j=>xs.set j x)=some ys from hsl)
       subst hys
       have nd1:zz8.lst xs≠.dead:=by intro z;cases z
       have nd2:zz8.lst (xs.set j x)≠.dead:=by intro z;cases z
       refine .inl ⟨a,vs,k,j,rfl,wy.int,g2,by rw[←g3.length];exact hj,?_⟩
       have setR:∀{xs:List PV} {vs:List V} (j:Nat),RPs X.K H3 (zh4 α3 st3) xs vs→RPs X.K H3 (zh4 α3 st3) (xs.set j x) (vs.set j w):=by
        intro xs
        induction xs with
        |nil=>intro vs j h;rw[RPs]at h;subst h;rw[List.set_nil,List.set_nil,RPs]
        | cons z zs ih =>
         intro vs j h
         rw[RPs]at h
         obtain⟨u,ur,rfl,h1,h2⟩:=h
         cases j with
         |zero=>rw[List.set_cons_zero,List.set_cons_zero,RPs];exact⟨w,ur,rfl,rx,h2⟩
         |succ j=>rw[List.set_cons_succ,List.set_cons_succ,RPs];exact⟨u,_,rfl,h1,ih j h2⟩
       have ex:=zG0 (o':=.lst (xs.set j x)) (h':=.lst (vs.set j w)) r3 ha hob nd1 nd2
       have rs:=zM1 (o':=.lst (xs.set j x)) (h':=.lst (vs.set j w)) r3 ha hob nd1 nd2 (fun ys e=>by cases e;exact⟨_,rfl,setR j g3⟩) (fun kvs e=>by cases e) (fun kvs e=>by cases e)
       exact q σ _ α3 (x1.trans (x2.trans (x3.trans ex))) (at3.next ex rs)
      |_=>simp[xj5]at hsl
    | dct kvs =>
     by_cases hlen:kvs.length<1000000∧zy8 y=true
     ·simp only[hlen,and_self,if_true]at e4
      cases e4
      obtain⟨a',l,g1,g2,g3⟩:=r3.dct n kvs hob
      rw[ha]at g1;cases g1
      obtain ⟨k,hk⟩:∃k,keyOf y=some k:=by
       cases y with
       |int z=>exact⟨_,rfl⟩
       |str z=>exact⟨_,rfl⟩
       |_=>cases hlen.2
      have nd1:zz8.dct kvs≠.dead:=by intro z;cases z
      have nd2:zz8.dct (zQ3 y x kvs)≠.dead:=by intro z;cases z
      have hz:sizeLine=16777216:=by decide
      have ll:=g3.length
      refine .inr ⟨a,_,rfl,by rw[yq8 wy hk];exact xe0.k g2 (by rw[hz];lia),?_⟩
      have ex:=zG0 (o':=.dct (zQ3 y x kvs)) (h':=.dK (zJ7 l k w)) r3 ha hob nd1 nd2
      have rs:=zM1 (o':=.dct (zQ3 y x kvs)) (h':=.dK (zJ7 l k w)) r3 ha hob nd1 nd2 (fun ys e=>by cases e) (fun kvs' e=>by cases e;exact⟨_,rfl,yr9 hk rx g3⟩) (fun kvs e=>by cases e)
      exact q σ _ α3 (x1.trans (x2.trans (x3.trans ex))) (at3.next ex rs)
     ·have e4:(if kvs.length<1000000∧zy8 y=true then Res.ok () (st3.set n (.dct (zQ3 y x kvs)))else .stuck)=Res.ok () st':=e4
      rw[if_neg hlen]at e4
      cases e4
end
open PySem L2 PySem.SeqAt PyProof.Rows
section
variable{X:Cx}
theorem zG3:∀{xs:List PV} {b:Bool},zn3 xs=some b→∃bs:List Bool,xs=bs.map .bl∧b=bs.all id
 |[],b,h=>by cases h;exact⟨[],rfl,rfl⟩
 | x::r,b,h=>by
  cases x with
  | bl k =>
   obtain⟨c,h1,h2⟩:=Option.map_eq_some_iff.mp (show (zn3 r).map (k && ·)=some b from h)
   obtain⟨bs,rfl,rfl⟩:=zG3 h1
   exact⟨k::bs,rfl,by rw[←h2];rfl⟩
  |_=>cases h
theorem zQ4{K:Frag}{H:Hp}{lv:Addr→Prop}:∀{bs:List Bool} {vs:List V},RPs K H lv (bs.map .bl) vs→vs=bs.map .bl
 |[],vs,h=>by rw[List.map_nil,RPs]at h;exact h
 | b::r,vs,h=>by
  rw[List.map_cons,RPs]at h
  obtain⟨v,vr,rfl,h1,h2⟩:=h
  rw[RP]at h1
  rw[h1,zQ4 h2]
  rfl
theorem zJ3:∀{bs:List Bool} {its:List Value},zi9 (bs.map .bl) its→its=bs.map .bool
 |[],its,h=>by cases h;rfl
 | b::r,its,h=>by
  cases h with
  | cons q t =>
   obtain rfl:=(show _=Value.bool b from q)
   rw[zJ3 t]
   rfl
theorem yt1(bs:List Bool):(List.range bs.length).all (fun i=>bs.getD i false)=bs.all id:=by
 induction bs with
 |nil=>rfl
 | cons b r ih =>
  rw[List.length_cons,List.range_succ_eq_map,List.all_cons,List.all_map,List.all_cons,←ih]
  rfl
theorem yM5(hc:X.calm=true):zz7 X (.builtin "all") (f1 (zY0 fun l=>(zn3 l).map .bl)):=by
 rintro pins s σ H ws us Q I rs ⟨α,st,xs,z,r,pr,hz,q⟩
 cases pr with
 |nil=>cases hz
 | cons h t =>
  cases t with
  |cons _ _=>cases hz
  | nil =>
   rename_i x w
   cases x with
   | lst l =>
    obtain⟨b,hb,hz2⟩:=Option.map_eq_some_iff.mp (show (zn3 l).map PV.bl=some z from hz)
    obtain⟨bs,rfl,rfl⟩:=zG3 hb
    obtain⟨a,vs,rfl,h1,h2⟩:=h.lst
    cases rs with
    | cons ra rt =>
     cases rt
     obtain rfl:=(show _=Value.ref a from ra)
     obtain⟨its,r1,p,_⟩:=I.list h1
     have ev:=zQ4 h2
     subst ev
     have ei:=zJ3 r1
     subst ei
     refine call_all_walk (wpAny_pyIter_list p.isList ?_)
     have hne:a≠s.heap.objs.size:=by
      obtain⟨o,_,e,_⟩:=p
      exact Nat.ne_of_lt (Heap.lt_size e)
     refine⟨_,_,_,_,_,_,fun i=>bs.getD i false,rfl,Walks.list (A:=X.A.in1) (show X.A.in1.handled=none from I.ok.hd hc) s.heap.objs.size a hne (bs.map Value.bool).toArray,⟨⟨_,Heap.get?_push_size _ rfl,rfl,rfl⟩,?_⟩,?_,fun h' tk hk=>?_⟩
     ·obtain⟨o,n,e,c,_,d⟩:=p
      exact⟨o,Heap.get?_push_of_some _ e,c,n,d⟩
     ·intro i v s' Q' E' hv hQ
      have hv:(bs.map Value.bool).toArray[i]?=some v:=hv
      rw[List.getElem?_toArray,List.getElem?_map]at hv
      obtain⟨b,hb',rfl⟩:=Option.map_eq_some_iff.mp hv
      have e:bs.getD i false=b:=by rw[List.getD_eq_getElem?_getD,hb'];rfl
      have hQ:Q' (bs.getD i false) s':=hQ
      rw[e]at hQ
      exact wpAny_truthy_bool hQ
     ·refine⟨.bl _,H,I.kept (fun b o e=>hk b o ?_ (Heap.get?_push_of_some _ e)),rfl,?_⟩
      ·simp only[List.mem_singleton]
       exact Nat.ne_of_lt (Heap.lt_size e)
      ·have:(List.range (bs.map Value.bool).toArray.size).all (fun i=>bs.getD i false)=bs.all id:=by
        rw[List.size_toArray,List.length_map];exact yt1 bs
       rw[this]
       exact q _ _ (zl0.refl H) (by rw[←hz2,RP])
   |_=>cases hz
theorem yj9:∀{xs:List PV} {ns:List Int},zo5 xs=some ns→xs=ns.map .int
 |[],ns,h=>by cases h;rfl
 | x::r,ns,h=>by
  cases x with
  | int i =>
   obtain⟨ms,h1,h2⟩:=Option.map_eq_some_iff.mp (show (zo5 r).map (i :: ·)=some ns from h)
   rw[←h2,yj9 h1]
   rfl
  |_=>cases h
theorem yc6{K:Frag}{H:Hp}{lv:Addr→Prop}:∀{ns:List Int} {vs:List V},RPs K H lv (ns.map .int) vs→vs=ns.map .int
 |[],vs,h=>by rw[List.map_nil,RPs]at h;exact h
 | b::r,vs,h=>by
  rw[List.map_cons,RPs]at h
  obtain⟨v,vr,rfl,h1,h2⟩:=h
  rw[RP]at h1
  rw[h1,yc6 h2]
  rfl
theorem zJ9:∀{ns:List Int} {its:List Value},zi9 (ns.map .int) its→∃ps:List (Int×Tok),its=ps.map (fun p=>Value.int p.1 p.2)∧ps.map (·.1)=ns
 |[],its,h=>by cases h;exact⟨[],rfl,rfl⟩
 | b::r,its,h=>by
  cases h with
  | cons q t =>
   obtain⟨tk,rfl⟩:=q
   obtain⟨ps,rfl,h2⟩:=zJ9 t
   exact⟨(b,tk)::ps,rfl,by rw[List.map_cons,h2]⟩
end
open PySem L2 PySem.SeqAt PyProof.Rows
noncomputable def zT2:Ty→String
 |.int => "int"
 |.str => "str"
 |.bool => "bool"
 |.list => "list"
 |.tuple => "tuple"
section
variable{X:Cx}{C:zc5}{a:Expr}{ia:E}{pos p p2:Pos}
theorem zY9(t:Ty):zE9 X (.builtin "isinstance") (fun ws H Q=>∃α st px x,ws=[x,.ty (zT2 t)]∧RSt X.K α st H∧RW X.K α st H px x∧Q (.bl (zH5 t px)) H):=by
 rintro pins s σ H ws us Q I rs ⟨α,st,px,x,e,r,h,q⟩
 subst e
 cases rs with
 | cons rx rt =>
  cases rt with
  | cons r2 rt =>
   cases rt
   obtain rfl:=(show _=Value.type (zT2 t)from r2)
   have fin:∀tk,EP X pins σ Q (.bool (zH5 t px)) { s with toks:=tk }:=fun tk=>⟨.bl _,H,I.tok tk,rfl,q⟩
   cases px with
   |non=>have e:=h.non;subst e;exact zx8 I rx .non (by cases t <;> rfl) fin
   |bl b=>have e:=h.bl;subst e;exact zx8 I rx (.bl b) (by cases t <;> rfl) fin
   |int i=>have e:=h.int;subst e;exact zx8 I rx (.int i) (by cases t <;> rfl) fin
   |str cs=>have e:=h.str.1;subst e;exact zx8 I rx (.str _) (by cases t <;> rfl) fin
   | tup xs =>
    obtain⟨b,vs,rfl,h1,_⟩:=h.tup
    obtain rfl:=(show _=Value.ref b from rx)
    obtain⟨its,_,⟨o,e1,e2,_⟩,_⟩:=I.tuple h1
    exact PySem.W.kia_one PySem.W.kitx_tuple I.kIn ⟨o,e1,e2⟩ (by cases t <;> rfl) (fun z=>nomatch z) fin
   | lst xs =>
    obtain⟨b,vs,rfl,h1,_⟩:=h.lst
    obtain rfl:=(show _=Value.ref b from rx)
    obtain⟨its,_,⟨o,n,e1,e2,_⟩,_⟩:=I.list h1
    exact PySem.W.kia_one PySem.W.kitx_list I.kIn ⟨o,e1,e2⟩ (by cases t <;> rfl) (fun z=>nomatch z) fin
theorem yk9{x:Str}(t:Ty)(hg:Gl X "isinstance")(hm:X.mg "isinstance" = none)(hv:bootBuiltins "isinstance" = some (.builtin "isinstance"))(hg2:Gl X x)(hm2:X.mg x=none)(hv2:bootBuiltins x=some (.type (zT2 t)))
  (ha:SE X C a ia) (hn2:x ≠ "__name__") (hd2:(x==("__debug__" : Str))=false)
  (hs:starEach [a,.Name x p2] X.env=(false,eval a X.env)::starEach [.Name x p2] X.env) (hs2:starEach [.Name x p2] X.env=(false,eval (.Name x p2) X.env)::starEach [] X.env)
  (hpl:(backTo pos (starEach [.Name x p2] X.env)).any (·.1)=false):SE X C (.Call (.Name "isinstance" p) [a,.Name x p2] [] pos) (.blt (.isinst t) [ia]) :=
 PE.mono (yd2 (zY9 t) hg hm hv (zV3 ha (zV3 (yO5 hg2 hm2 hv2 (v:=.ty (zT2 t)) rfl hn2 hd2) yG2 hs2) hs) (by decide) (by decide) hs hpl) fun σ H Q h_=>by
  obtain⟨env,α,st,v,st',at',e,q⟩:=h_
  rw[zd3,zn5]at e
  obtain⟨vs,st1,e1,e⟩:=Res.bind_inv e
  obtain⟨va,st2,e2,e1⟩:=Res.bind_inv e1
  rw[zy3]at e1
  cases e1
  refine⟨env,α,st,va,st1,at',e2,fun w H1 α1 x1 r1 v1=>?_⟩
  unfold opN at e
  cases hv':view st1 va with
  |none=>simp only[zt1,hv']at e;cases e
  | some y =>
   simp only[zt1,hv']at e
   cases e
   exact⟨α1,st',y,w,rfl,r1,v1.view r1 hv',q _ H1 α1 x1 r1 (by rw[RV,RP])⟩
variable{o e:Expr}{es:List Expr}{io:E}{irs:List E}{apos cpos:Pos}{name:Str}{id:String}{m:Mt}
end
open PySem L2 PySem.SeqAt PyProof.Rows
open PySem.Builtin PySem.Builtin.Str
section
variable{X:Cx}
end
open PySem L2 PySem.SeqAt PyProof.Rows
open PySem.Builtin PySem.Builtin.Str
theorem zE5(n d:Nat)(o:Option Int):HT.sIx n d o=sIx n d o:=by
 cases o with
 |none=>rfl
 | some i =>
  show (if i<0 then (i+(n:Int)).toNat else min i.toNat n)=(if 0≤i then min i.toNat n else ((n:Int)+i).toNat)
  by_cases h:0≤i
  ·rw[if_neg (by lia),if_pos h]
  ·rw[if_pos (by lia),if_neg h]
   congr 1
   lia
theorem yu5(i:Int)(n d:Nat):max 0 (min (if i<0 then i+(n:Int)else i) (n:Int))=((sIx n d (some i):Nat):Int):=by
 show max 0 (min (if i<0 then i+(n:Int)else i) (n:Int))=(((if 0≤i then min i.toNat n else ((n:Int)+i).toNat):Nat):Int)
 by_cases h:0≤i
 ·rw[if_neg (by lia),if_pos h];lia
 ·rw[if_pos (by lia),if_neg h];lia
theorem xe3(lo hi:Option Int)(n:Nat):strSliceIndices lo hi 1 n=(List.range (sIx n n hi-sIx n 0 lo)).map (sIx n 0 lo + ·):=by
 rw[←sliceRange_one]
 have h1:(1:Int) > 0:=by decide
 unfold strSliceIndices
 simp only[h1,if_true]
 congr 1
 ·cases lo with
  |none=>rfl
  |some i=>exact yu5 i n 0
 ·cases hi with
  |none=>rfl
  |some i=>exact yu5 i n n
section
variable{prog:Program}{w:World}{A:Around}{E:Value→Shared→Prop}{s:Shared}
theorem zw7{t sl:Addr}{ze9:Array Value}{vl vu:Value}{lo hi:Option Int}{Q:Value→Shared→Prop}(ht:IsTup s.heap t ze9)(hs:s.heap.IsSliceOf sl vl vu .none)(pl:IsPart vl lo)(pu:IsPart vu hi)
  (hw:HT.sIx ze9.size 0 lo=0∧HT.sIx ze9.size ze9.size hi=ze9.size) (h:Q (.ref t) s):wpAny (model prog w) A (getItem (.ref t) (.ref sl)) Q E s:=by
 obtain⟨os,hos,hcs,hds⟩:=id hs
 have hTs:s.TypeIs (.ref sl) "slice" := ⟨os,hos,hcs⟩
 unfold getItem
 try with_reducible refine wpAny_holding ?_
 first |refine wpAny_bind (wpAny_pure ?_)|skip
 refine wpAny_bind (wpAny_sequenceKey ht.typeIs (by decide) ?_)
 refine wpAny_bind (wpAny_callSpecial?_slot (name:=Str.ofString "__getitem__") ht.typeIs PyProof.Rows.slot_tuple_getitem
  (wpAny_call_entry PyProof.Rows.slot_tuple_getitem ht.typeIs entry_tuple_getitem ?_ (args_tuple_getitem _ _)))
 show wpAny _ _ (Builtin.Tuple.tupleItemsOf (.ref t) >>= _) _ _ s
 refine wpAny_bind (tupleItemsOf_ ht ?_)
 refine wpAny_bind (wpAny_typeOf hTs ?_)
 rw[if_pos (by decide)]
 refine wpAny_bind (HT.sliceApplied_gen hs pl pu ?_)
 have hyes:(((HT.sIx ze9.size 0 lo:Nat):Int)==0&&(1:Int)==1&&(HT.sIx ze9.size ze9.size hi-HT.sIx ze9.size 0 lo)==ze9.size)=true:=by
  rw[hw.1,hw.2];simp
 show wpAny _ _ (if (((HT.sIx ze9.size 0 lo:Nat):Int)==0&&(1:Int)==1&&(HT.sIx ze9.size ze9.size hi-HT.sIx ze9.size 0 lo)==ze9.size)=true then _ else _) _ _ s
 rw[if_pos hyes]
 refine wpAny_bind (m:=Builtin.Tuple.tupleIsExact (.ref t)) ?_
 unfold Builtin.Tuple.tupleIsExact
 refine wpAny_bind (wpAny_typeOf ht.typeIs (wpAny_pure ?_))
 rw[if_pos (by decide)]
 exact wpAny_bind (wpAny_rule (wpAny_pure ⟨_,rfl,wpAny_pure h⟩))
end
section
variable{X:Cx}{C:zc5}{e:Expr}{ie:E}{pos p2:Pos}
theorem yd1{α:Type}(xs:List α)(lo hi:Option Int):(cut xs lo hi).length≤xs.length:=by
 unfold cut
 rw[List.length_take,List.length_drop]
 lia
theorem yr1{α:Type}(xs:List α)(lo hi:Option Int)(h:(cut xs lo hi).length=xs.length):cut xs lo hi=xs :=
 (((List.take_sublist _ _).trans (List.drop_sublist _ _)):(cut xs lo hi).Sublist xs).eq_of_length h
def rSlS:V→Option Int→Option Int→Hp→VK→Prop:=fun x lo hi H Q=>∃cs:List Nat,x=.str ⟨cs.toArray⟩∧cs.length≤sizeLine∧Q (.str ⟨(cut cs lo hi).toArray⟩) H
theorem yk8{v:Value}{o:Option Int}(p:IsPart v o):∃l:Option (Int×Tok),v=partValue l∧l.map (·.1)=o:=by
 cases p with
 |none=>exact⟨none,rfl,rfl⟩
 |int i t=>exact⟨some (i,t),rfl,rfl⟩
theorem xc4:SlR X rSlS:=by
 rintro pins s σ H x v vl vu lo hi sl Q I rx hs pl pu ⟨cs,e,hl,q⟩
 subst e
 obtain⟨t,rfl⟩:=rx
 obtain⟨l,rfl,rfl⟩:=yk8 pl
 obtain⟨u,rfl,rfl⟩:=yk8 pu
 have pk:slicePicked ⟨cs.toArray⟩ l u none=(List.range (sIx cs.length cs.length (u.map (·.1))-sIx cs.length 0 (l.map (·.1)))).map (sIx cs.length 0 (l.map (·.1)) + ·):=by
  unfold slicePicked
  rw[zo0]
  exact xe3 _ _ _
 have pf:(slicePicked ⟨cs.toArray⟩ l u none).filterMap (fun i=>(⟨cs.toArray⟩:Str).cps[i]?)=cut cs (l.map (·.1)) (u.map (·.1)):=by
  rw[pk]
  exact pick_run cs.toArray _ _
 refine⟨"str", _,PySem.F.slot_str_getitem.lookup,typeIs_str _ _ _,wpAny_getItem_str_slice (l:=l) (u:=u) (st:=none) hs rfl ?_⟩
 unfold sliceMade
 split
 ·rename_i h
  have h2:(slicePicked ⟨cs.toArray⟩ l u none).length=cs.length:=by
   have:=(Bool.and_eq_true _ _▸h:_∧_).2
   rw[zo0]at this
   exact eq_of_beq this
  have h3:cut cs (l.map (·.1)) (u.map (·.1))=cs:=by
   refine yr1 _ _ _ ?_
   rw[pk,List.length_map,List.length_range]at h2
   unfold cut
   rw[List.length_take,List.length_drop]
   have h4:sIx cs.length cs.length (u.map (·.1))≤cs.length:=by rw[←zE5];exact HT.sIx_le _ _ (Nat.le_refl _) _
   lia
  rw[h3]at q
  exact⟨.str _,H,I,⟨t,rfl⟩,q⟩
 ·rw[pf]
  exact⟨by rw[zo0];exact Nat.le_trans (yd1 _ _ _) hl,.str _,H,I.tok _,⟨_,rfl⟩,q⟩
theorem RPs.cut{K:Frag}{H:Hp}{lv:Addr→Prop}{xs:List PV}{vs:List V}(lo hi:Option Int)(h:RPs K H lv xs vs):RPs K H lv (cut xs lo hi) (yE6 vs lo hi):=by
 unfold OR.cut yE6
 rw[zE5,zE5,←h.length]
 exact RPs.take _ (RPs.drop _ h)
theorem yX5:SlR X (fun x lo hi H Q=>∃α st px z,RSt X.K α st H∧RW X.K α st H px x∧sliceOp px lo hi=some z∧∀w H',zl0 H H'→RP X.K H' (zh4 α st) z w→Q w H'):=by
 rintro pins s σ H x v vl vu lo hi sl Q I rx hs pl pu ⟨α,st,px,z,r,h,hz,q⟩
 cases px with
 | str cs =>
  obtain⟨h1,h2⟩:=h.str
  subst h1
  refine xc4 pins s σ H _ v vl vu lo hi sl Q I rx hs pl pu ⟨cs,rfl,h2,q _ _ (zl0.refl H) ?_⟩
  cases hz
  rw[RP]
  exact⟨rfl,Nat.le_trans (yd1 _ _ _) h2⟩
 | lst xs =>
  obtain⟨a,vs,rfl,h1,h2⟩:=h.lst
  refine yI4 pins s σ H _ v vl vu lo hi sl Q I rx hs pl pu ⟨a,vs,rfl,h1,fun p hp=>q _ _ (zg8 hp _) ?_⟩
  cases hz
  rw[RP]
  exact⟨p,_,rfl,SqL.of ze2,r.notlive hp,(Ext.of_same r (zg8 hp _)).rps (h2.cut lo hi)⟩
 | tup xs =>
  obtain⟨a,vs,rfl,h1,h2⟩:=h.tup
  cases hz
  by_cases hw:sIx xs.length 0 lo=0∧sIx xs.length xs.length hi=xs.length
  ·have ec:OR.cut xs lo hi=xs:=by
    unfold OR.cut
    rw[hw.1,hw.2,List.drop_zero,Nat.sub_zero,List.take_length]
   rw[ec]at q
   cases rx
   obtain⟨its,r1,ht,hz'⟩:=I.tuple h1
   have hlen:its.toArray.size=xs.length:=by rw[List.size_toArray,h2.length];exact r1.length.symm
   refine⟨"tuple", _,PyProof.Rows.slot_tuple_getitem.lookup,ht.typeIs,?_⟩
   refine zw7 ht hs pl pu (by rw[hlen,zE5,zE5];exact hw) ?_
   exact⟨.ref a,H,I,rfl,q _ _ (zl0.refl H) (by rw[RP];exact⟨a,vs,rfl,h1,h2⟩)⟩
  ·refine xg1 pins s σ H _ v vl vu lo hi sl Q I rx hs pl pu ⟨a,vs,rfl,h1,by rw[zE5,zE5,←h2.length];exact hw,fun p hp=>q _ _ (zg8 hp _) ?_⟩
   rw[RP]
   exact⟨p,_,rfl,SqT.of ze2,(Ext.of_same r (zg8 hp _)).rps (h2.cut lo hi)⟩
 |_=>cases hz
noncomputable def tO(K:Frag)(C:zc5)(ir:Option E):TO:=fun σ H Q=>∃env α st o st',At K α st H env σ∧evalO C ir env st=.ok o st' ∧
 ∀H' α',Ext K α st H α' st' H'→RSt K α' st' H'→Q o H'
noncomputable abbrev SO(X:Cx)(C:zc5)(e:Option Expr)(ir:Option E):Prop:=PO X e (tO X.K C ir)
theorem PO.mono{e:Option Expr}{t t':TO}(h:PO X e t)(m:∀σ H Q,t' σ H Q→t σ H Q):PO X e t':=fun pins s σ H Q I q=>h pins s σ H Q I (m _ _ _ q)
theorem yP4:SO X C none none:=PO.mono yN5 fun σ H Q h_=>by
 obtain⟨env,α,st,o,st',at',e,q⟩:=h_
 rw[yy4]at e
 cases e
 exact q H α .refl at'.rs
theorem yQ4(h:SE X C e ie):SO X C (some e) (some ie):=PO.mono (yQ9 h) fun σ H Q h_=>by
 obtain⟨env,α,st,o,st',at',e,q⟩:=h_
 rw[yx8]at e
 obtain⟨v,x,st1,e1,hv,e⟩:=Res.bindV_inv e
 refine⟨env,α,st,v,st1,at',e1,fun w H1 α1 x1 r1 v1=>?_⟩
 cases x with
 | int i =>
  cases e
  exact⟨i,(v1.view r1 hv).int,q H1 α1 x1 r1⟩
 |_=>cases e
theorem yD5{lo hi:Option Expr}{ilo ihi:Option E}(he:SE X C e ie)(hl:SO X C lo ilo)(hh:SO X C hi ihi):SE X C (.Subscript e (.Slice lo hi none p2) pos) (.slice ie ilo ihi) :=
 PE.mono (yD2 yX5 he hl hh) fun σ H Q h_=>by
  obtain⟨env,α,st,v,st',at',e,q⟩:=h_
  rw[yx0]at e
  obtain⟨va,st1,e1,e⟩:=Res.bind_inv e
  obtain⟨l,st2,e2,e⟩:=Res.bind_inv e
  obtain⟨h,st3,e3,e⟩:=Res.bind_inv e
  obtain⟨x,y,g1,g2,g3,g4⟩:=yl5 e
  subst g3 g4
  refine⟨env,α,st,va,st1,at',e1,fun w H1 α1 x1 r1 v1=>?_⟩
  have at1:=at'.next x1 r1
  refine⟨env,α1,st1,l,st2,at1,e2,fun H2 α2 x2 r2=>?_⟩
  refine⟨env,α2,st2,h,st',at1.next x2 r2,e3,fun H3 α3 x3 r3=>?_⟩
  refine⟨α3,st',x,y,r3,((x2.trans x3).rv v1).view r3 g1,g2,fun w3 H4 s4 rp=>?_⟩
  exact q w3 H4 α3 (x1.trans (x2.trans (x3.trans (.of_same r3 s4)))) (r3.same s4) rp
end
open PySem L2 PySem.SeqAt PyProof.Rows
noncomputable def Al.add(α:Al)(p:Addr):Al:=⟨α.adr++[p],α.rsv⟩
section
variable{K:Frag}{α:Al}{st:za6}{H:Hp}{p:Addr}{o:zz8}
theorem zl5{n:Nat}{x:zz8}(h:zd0 (st++[o]) n=some x):(n<st.length∧zd0 st n=some x)∨(n=st.length∧x=o):=by
 by_cases hn:n<st.length
 ·rw[zF6 hn]at h
  exact .inl ⟨hn,h⟩
 ·have hl:=zv4 h
  rw[List.length_append,List.length_singleton]at hl
  have e:n=st.length:=by lia
  subst e
  rw[zz6]at h
  cases h
  exact .inr ⟨rfl,rfl⟩
theorem zy9{l:List Addr}{n:Nat}{a:Addr}(h:(l++[p])[n]?=some a):(n<l.length∧l[n]?=some a)∨(n=l.length∧a=p):=by
 by_cases hn:n<l.length
 ·rw[List.getElem?_append_left hn]at h
  exact .inl ⟨hn,h⟩
 ·have hl:=(List.getElem?_eq_some_iff.mp h).1
  rw[List.length_append,List.length_singleton]at hl
  have e:n=l.length:=by lia
  subst e
  rw[List.getElem?_concat_length]at h
  cases h
  exact .inr ⟨rfl,rfl⟩
theorem ye4(hl:α.adr.length=st.length){a:Addr}(h:zh4 (α.add p) (st++[o]) a):a=p∨zh4 α st a:=by
 rcases h with h |⟨n,x,h1,h2,h3⟩
 ·exact .inr (.inl h)
 ·rcases zy9 h1 with⟨g1,g2⟩|⟨g1,g2⟩
  ·rcases zl5 h2 with⟨_,k2⟩|⟨k1,_⟩
   ·exact .inr (.inr ⟨n,x,g2,k2,h3⟩)
   ·lia
  ·exact .inl g2
theorem xc8{a:Addr}{vs:List V}(hp:H p=none)(hK:K.lookup p=none)(h:SqL K H a vs):a≠p:=by
 rintro rfl
 rcases h with (h |⟨_,h⟩)|⟨_,_,_,h,_⟩
 ·rw[hp]at h;cases h
 ·rw[hp]at h;cases h
 ·rw[hK]at h;cases h
theorem zZ3{h':HO}(r:RSt K α st H)(hp:H p=none)(hK:K.lookup p=none):Ext K α st H (α.add p) (st++[o]) (upd H p h'):=by
 have s:=zg8 hp h'
 refine⟨fun n a h=>?_,fun a vs h=>SqT.same s h,fun a vs h n=>⟨zl0.seq s h,fun l=>?_⟩,rfl,fun a ha=>?_⟩
 ·show (α.adr++[p])[n]?=some a
  rw[List.getElem?_append_left (List.getElem?_eq_some_iff.mp h).1]
  exact h
 ·rcases ye4 r.len l with e |e
  ·exact xc8 hp hK h e
  ·exact n e
 ·obtain⟨vs,e⟩:=r.rsv a ha
  rw[e,s _ _ e]
theorem yl7{h':HO}(r:RSt K α st H)(hp:H p=none)(hK:K.lookup p=none)
  (hl:∀xs,o=.lst xs→∃vs,h'=.lst vs∧RPs K H (zh4 α st) xs vs) (hd:∀kvs,o=.dct kvs→∃l,h'=.dK l∧RKV K H (zh4 α st) kvs l) (ht:∀kvs,o=.dtt kvs→∃l,h'=.dT l∧RKT K H (zh4 α st) kvs l):RSt K (α.add p) (st++[o]) (upd H p h'):=by
 have s:=zg8 hp h'
 have ex:=zZ3 (o:=o) (h':=h') r hp hK
 have old:∀{n:Nat} {a:Addr},α.adr[n]?=some a→(α.add p).adr[n]?=some a:=fun h=>ex.pre _ _ h
 have new:(α.add p).adr[st.length]?=some p:=by
  show (α.adr++[p])[st.length]?=some p
  rw[←r.len,List.getElem?_concat_length]
 have dead:∀{n:Nat} {x:zz8},α.adr[n]?=some p→zd0 st n=some x→x=.dead:=fun {n x} h1 h2=>by
  by_cases hx:x=.dead
  ·exact hx
  ·exact absurd (.inr ⟨n,x,h1,h2,hx⟩) (r.notlive hp)
 refine⟨?_,fun n xs h=>?_,fun n kvs h=>?_,fun n kvs h=>?_,fun n m a x x' hne h1 h2 h3 h4=>?_,fun a h=>?_,fun n a x h1 h2 h3 h4=>?_,fun a ha=>?_⟩
 ·show (α.adr++[p]).length=(st++[o]).length
  rw[List.length_append,List.length_append,r.len]
  rfl
 ·rcases zl5 h with⟨_,h⟩|⟨rfl,e⟩
  ·obtain⟨a,vs,e1,e2,e3⟩:=r.lst n xs h
   exact⟨a,vs,old e1,s _ _ e2,ex.rps e3⟩
  ·obtain⟨vs,rfl,e3⟩:=hl xs e.symm
   exact⟨p,vs,new,ze2,ex.rps e3⟩
 ·rcases zl5 h with⟨_,h⟩|⟨rfl,e⟩
  ·obtain⟨a,vs,e1,e2,e3⟩:=r.dct n kvs h
   exact⟨a,vs,old e1,s _ _ e2,RKV.mono ex.tup ex.lst _ _ e3⟩
  ·obtain⟨l,rfl,e3⟩:=hd kvs e.symm
   exact⟨p,l,new,ze2,RKV.mono ex.tup ex.lst _ _ e3⟩
 ·rcases zl5 h with⟨_,h⟩|⟨rfl,e⟩
  ·obtain⟨a,vs,e1,e2,e3⟩:=r.dtt n kvs h
   exact⟨a,vs,old e1,s _ _ e2,RKT.mono ex.tup ex.lst _ _ e3⟩
  ·obtain⟨l,rfl,e3⟩:=ht kvs e.symm
   exact⟨p,l,new,ze2,RKT.mono ex.tup ex.lst _ _ e3⟩
 ·have ll:=r.len
  rcases zy9 h1 with⟨a1,b1⟩|⟨a1,rfl⟩
  ·rcases zl5 h3 with⟨_,h3⟩|⟨z,_⟩
   ·rcases zy9 h2 with⟨a2,b2⟩|⟨a2,rfl⟩
    ·rcases zl5 h4 with⟨_,h4⟩|⟨z,_⟩
     ·exact r.inj n m a x x' hne b1 b2 h3 h4
     ·lia
    ·exact .inl (dead b1 h3)
   ·lia
  ·rcases zy9 h2 with⟨a2,b2⟩|⟨a2,_⟩
   ·rcases zl5 h4 with⟨_,h4⟩|⟨z,_⟩
    ·exact .inr (dead b2 h4)
    ·lia
   ·lia
 ·rcases ye4 r.len h with rfl |e
  ·exact hK
  ·exact r.nk a e
 ·have ll:=r.len
  rcases zy9 h1 with⟨a1,b1⟩|⟨a1,rfl⟩
  ·rcases zl5 h2 with⟨_,h2⟩|⟨z,_⟩
   ·exact r.dis n a x b1 h2 h3 h4
   ·lia
  ·obtain⟨vs,e⟩:=r.rsv a h4
   rw[hp]at e;cases e
 ·obtain⟨vs,e⟩:=r.rsv a ha
  exact⟨vs,s _ _ e⟩
theorem yG7(r:RSt K α st H):(α.add p).adr[st.length]?=some p:=by
 show (α.adr++[p])[st.length]?=some p
 rw[←r.len,List.getElem?_concat_length]
end
section
variable{X:Cx}{C:zc5}{pos:Pos}{es:List Expr}{irs:List E}{t:TA}
theorem zK9{pins:List (Addr×Obj)}{σ:L2.St}{H:Hp}{s:Shared}(I:Inv X pins σ H s):X.K.lookup s.heap.objs.size=none:=by
 cases e:X.K.lookup s.heap.objs.size with
 |none=>rfl
 |some o=>exact absurd (Heap.lt_size (I.kIn _ _ e)) (Nat.lt_irrefl _)
noncomputable def xh9(K:Frag)(trs:List (TE×TE)):TE:=fun σ H Q=>∀p,H p=none→K.lookup p=none→yb9 trs σ (upd H p (.dK [])) fun ps H2=>H2 p=some (.dK [])∧∃kvs:List (Key×V),ps=kvs.map (fun kv=>(kV kv.1,kv.2))∧kvs.length≤15∧Q (.ref p) (upd H2 p (.dK (zB9 [] kvs)))
theorem yv7{keys:List (Option Expr)}{values:List Expr}{trs:List (TE×TE)}(h:PPs X pos keys values trs)(hall:keys.all (·.isSome)=true)(hl:keys.length=values.length)(h0:keys≠[])
  (h15:keys.length≤15):PE X (.Dict keys values pos) (xh9 X.K trs):=by
 intro pins s σ H Q I q
 have hn:=I.hok.fresh (Nat.le_refl s.heap.objs.size)
 have I1:=I.laid (a:=s.heap.objs.size) (o:=.dK []) (h':=s.heap.push { cls:=.type "dict", data:=.dict #[] }) (t':=s.toks) (fun _ _ q=>Heap.get?_push_of_some _ q) (Nat.le_refl _) (yv4 s.heap I.big)
 refine wpAny_Dict_walk (knd:=zk5 X.prog X.w) hall hl h0 h15 (thn (h pins _ σ _ _ I1 (q _ hn (zK9 I))) fun ws s2 h_=>?_)
 obtain⟨ps,H2,I2,rel,e,kvs,ep,lk,q2⟩:=h_
 subst ep
 obtain⟨rs,c,rk⟩:=zK7 (P:=X.prog) (w:=X.w) rel
 obtain⟨z,hd,vs0,r0,dd⟩:=xd2 I2.hok e
 cases r0
 refine⟨rs,c,dd,fun h' dd' hs=>⟨.ref s.heap.objs.size,_,?_,rfl,q2⟩⟩
 have hz:(zB9 [] kvs).length≤sizeLine:=by
  have h1:=zy2 kvs []
  rw[List.length_nil]at h1
  rw[sizeLine_eq];lia
 have he:∃q,h'.get? s.heap.objs.size=some q:=let⟨q,_,_,hq,_⟩:=dd';⟨q,hq⟩
 exact zZ0 I2 (by rw[e];exact True.intro) hs he (yF4 hz hd (rk.merge .nil) dd')
noncomputable def yp9:PV→Key
 |.int i=>.inl i
 |.str cs=>.inr ⟨cs.toArray⟩
 |_=>.inl 0
noncomputable def prs(K:Frag)(C:zc5):List PV→List E→List (TE×TE)
 |k::ks,i::is=>(tC (kV (yp9 k)),tP K C i)::prs K C ks is
 |_,_=>[]
theorem xd7:PPs X pos [] [] (prs X.K C [] []):=yL3
theorem yO1{k v:Expr}{ks:List (Option Expr)}{vs:List Expr}{pk:PV}{iv:E}{pks:List PV}(hk:PE X k (tC (kV (yp9 pk))))(hv:SE X C v iv)(hr:PPs X pos ks vs (prs X.K C pks irs)):
  PPs X pos (some k::ks) (v::vs) (prs X.K C (pk::pks) (iv::irs)):=yB5 hk hv hr
theorem yt4{x:Str}{j}{cs:List Nat}(h:x=⟨cs.toArray⟩):PE X (.Constant (.str x) j pos) (tC (kV (yp9 (.str cs)))):=by subst h;exact yD7
theorem zJ6{K:Frag}:∀{ks:List PV} {irs:List E} {env:Env} {α:Al} {st st':za6} {xs:List PV} {σ:L2.St} {H:Hp} {Q:List (V×V)→Hp→Prop},At K α st H env σ→ks.length=irs.length→evalPs C irs env st=.ok xs st' →
  (∀ps H' α',Ext K α st H α' st' H'→RSt K α' st' H'→(∃ws,ps=(ks.zip ws).map (fun kv=>(kV (yp9 kv.1),kv.2))∧RPs K H' (zh4 α' st') xs ws)→Q ps H')→yb9 (prs K C ks irs) σ H Q
 | [],[],env,α,st,st',xs,σ,H,Q,at',_,e,q=>by
  rw[zN4]at e
  cases e
  exact q [] H α .refl at'.rs ⟨[],rfl,by rw[RPs]⟩
 | k::ks,i::is,env,α,st,st',xs,σ,H,Q,at',hl,e,q=>by
  rw[zF7]at e
  obtain⟨x,st1,e1,e⟩:=Res.bindP_inv e
  obtain⟨ys,st2,e2,e⟩:=Res.bind_inv e
  cases e
  refine⟨env,α,st,_,st1,at',e1,fun w H1 α1 x1 r1 v1=>?_⟩
  refine zJ6 (at'.next x1 r1) (by simpa using hl) e2 fun ps H2 α2 x2 r2 h_=>?_
  obtain⟨ws,hps,rp⟩:=h_
  refine q _ H2 α2 (x1.trans x2) r2 ⟨w::ws,by rw[hps];rfl,?_⟩
  rw[RPs]
  exact⟨w,ws,rfl,x2.rp v1,rp⟩
 |[],_::_,_,_,_,_,_,_,_,_,_,hl,_,_=>by cases hl
 |_::_,[],_,_,_,_,_,_,_,_,_,hl,_,_=>by cases hl
theorem zS9{K:Frag}{H:Hp}{lv:Addr→Prop}:∀{ks xs:List PV} {ws:List V} {d:List (PV×PV)} {l:List (Key×V)},(∀k∈ks,zy8 k=true)→RPs K H lv xs ws→RKV K H lv d l →
  RKV K H lv ((ks.zip xs).foldl (fun d p=>zQ3 p.1 p.2 d) d) (zB9 l ((ks.zip ws).map fun kv=>(yp9 kv.1,kv.2)))
 | [],xs,ws,d,l,_,_,h=>by
  rw[List.zip_nil_left,List.zip_nil_left]
  exact h
 | k::ks,[],ws,d,l,hk,hx,h=>by
  rw[RPs]at hx
  subst hx
  exact h
 | k::ks,x::xs,ws,d,l,hk,hx,h=>by
  rw[RPs]at hx
  obtain⟨w,wr,rfl,h1,h2⟩:=hx
  have hkk:keyOf k=some (yp9 k):=by
   have:=hk k (List.mem_cons_self ..)
   cases k <;> first |rfl |cases this
  exact zS9 (ks:=ks) (xs:=xs) (ws:=wr) (d:=zQ3 k x d) (l:=zJ7 l (yp9 k) w) (fun k' hk'=>hk k' (List.mem_cons_of_mem _ hk')) h2 (yr9 hkk h1 h)
theorem yI1{keys:List (Option Expr)}{values:List Expr}{ks:List PV}(h:PPs X pos keys values (prs X.K C ks irs))(hk:ks.all zy8=true)(hl1:ks.length=irs.length)(hall:keys.all (·.isSome)=true)(hl:keys.length=values.length)(h0:keys≠[])
  (h15:keys.length≤15) (hks:ks.length≤15):SE X C (.Dict keys values pos) (.dict ks irs) :=
 PE.mono (yv7 h hall hl h0 h15) fun σ H Q h_=>by
  obtain⟨env,α,st,v,st',at',e,q⟩:=h_
  rw[yH8]at e
  obtain⟨xs,st1,e1,e⟩:=Res.bind_inv e
  intro p hp hK
  have ex0:=zZ3 (o:=.dct []) (h':=.dK []) at'.rs hp hK
  have rs0:=yl7 (o:=.dct []) (h':=.dK []) at'.rs hp hK (fun xs z=>by cases z) (fun kvs z=>by cases z;exact⟨[],rfl,by rw[RKV]⟩) (fun kvs z=>by cases z)
  refine zJ6 (at'.next ex0 rs0) hl1 e1 fun ps H2 α2 x2 r2 h_=>?_
  obtain⟨ws,e2,rp⟩:=h_
  have ha:α2.adr[st.length]?=some p:=x2.pre _ _ (yG7 at'.rs)
  have e:(match zd0 st1 st.length with |some (.dct [])=>Res.ok (Val.ref st.length) (st1.set st.length (.dct ((ks.zip xs).foldl (fun (d:List (PV×PV)) (p:PV×PV)=>zQ3 p.1 p.2 d) [])))|_=>.stuck)=.ok v st':=e
  cases hob:zd0 st1 st.length with
  |none=>rw[hob]at e;cases e
  | some ob =>
   rw[hob]at e
   cases ob with
   |lst _=>cases e
   |dead=>cases e
   |dtt _=>cases e
   | dct kv0 =>
    cases kv0 with
    |cons _ _=>cases e
    | nil =>
     cases e
     obtain⟨a',l,g1,g2,g3⟩:=r2.dct st.length [] hob
     rw[ha]at g1;cases g1
     rw[RKV]at g3
     subst g3
     have hk':∀k∈ks,zy8 k=true:=List.all_eq_true.mp hk
     have nd:∀d,zz8.dct d≠.dead:=fun d z=>by cases z
     have ex2:=zG0 (o':=.dct ((ks.zip xs).foldl (fun d p=>zQ3 p.1 p.2 d) [])) (h':=.dK (zB9 [] ((ks.zip ws).map fun kv=>(yp9 kv.1,kv.2)))) r2 ha hob (nd _) (nd _)
     have rs2:=zM1 (o':=.dct ((ks.zip xs).foldl (fun d p=>zQ3 p.1 p.2 d) [])) (h':=.dK (zB9 [] ((ks.zip ws).map fun kv=>(yp9 kv.1,kv.2)))) r2 ha hob (nd _) (nd _) (fun xs z=>by cases z) (fun kvs z=>by cases z;exact⟨_,rfl,zS9 hk' rp (by rw[RKV])⟩) (fun kvs z=>by cases z)
     refine⟨g2,(ks.zip ws).map (fun kv=>(yp9 kv.1,kv.2)),by rw[e2,List.map_map];rfl,?_,?_⟩
     ·rw[List.length_map,List.length_zip]
      lia
     ·exact q _ _ α2 (ex0.trans (x2.trans ex2)) rs2 ⟨p,rfl,ha⟩
noncomputable def xp5(K:Frag)(t:TA):TE:=fun σ H Q=>t σ H fun xs H1=>xs.length≤sizeLine∧∀p,H1 p=none→K.lookup p=none→Q (.ref p) (upd H1 p (.lst xs))
theorem yL8(h:PA X es t):PE X (.List es pos) (xp5 X.K t):=by
 intro pins s σ H Q I hq
 refine wpAny_List_spliced (thn (h pos pins s σ H _ I hq) fun us s1 ⟨xs,H1,I1,r,z,q⟩=>⟨by rw[←r.length];exact z,?_⟩)
 have hf:H1 s1.heap.objs.size=none:=I1.hok.fresh (Nat.le_refl _)
 refine⟨.ref s1.heap.objs.size,upd H1 s1.heap.objs.size (.lst xs),I1.laid (t':=s1.toks) (fun b u e=>Heap.get?_push_of_some _ e) (Nat.le_refl _) ?_,rfl,q _ hf (zK9 I1)⟩
 exact⟨z,us,0,r,Heap.get?_push_size _ rfl⟩
end
open PySem L2 PySem.SeqAt PyProof.Rows
open PySem.Builtin PySem.Builtin.Str
section
variable{X:Cx}{C:zc5}{o:Expr}{io:E}{apos cpos:Pos}{name:Str}{id:String}{m:Mt}
theorem zY2:∀{xs:List PV} {ls:List (List Nat)},zq0 xs=some ls→xs=ls.map .str
 |[],ls,h=>by cases h;rfl
 | .str c::r,ls,h=>by
  have h:(zq0 r).map (c :: ·)=some ls:=h
  obtain⟨l,h1,rfl⟩:=Option.map_eq_some_iff.mp h
  rw[zY2 h1];rfl
 |.non::_,_,h=>by cases h
 |.bl _::_,_,h=>by cases h
 |.int _::_,_,h=>by cases h
 |.tup _::_,_,h=>by cases h
 |.lst _::_,_,h=>by cases h
noncomputable def txt(cs:List Nat):Str:=⟨cs.toArray⟩
theorem zM8{K:Frag}{H:Hp}{lv:Addr→Prop}:∀{ls:List (List Nat)} {vs:List V},RPs K H lv (ls.map .str) vs→vs=ls.map fun c=>V.str (txt c)
 |[],vs,h=>by rw[List.map_nil,RPs]at h;exact h
 | c::r,vs,h=>by
  rw[List.map_cons,RPs]at h
  obtain⟨v,vr,rfl,h1,h2⟩:=h
  rw[RP]at h1
  rw[h1.1,zM8 h2]
  rfl
theorem zT3:∀{ls:List (List Nat)} {its:List Value},zi9 (ls.map fun c=>V.str (txt c)) its→StrsAre its (ls.map txt)
 |[],its,h=>by rw[List.map_nil]at h;cases h;exact .nil
 | c::r,its,h=>by
  rw[List.map_cons]at h
  cases h with
  | cons h1 h2 =>
   obtain⟨t,rfl⟩:=h1
   exact .cons _ t (zT3 h2)
end
open PySem L2 PySem.SeqAt PyProof.Rows
noncomputable def zE1(scope up:Scope):List (Str×NameKind):=scope.names.map fun (n,k)=>if (k == .free&&up.kind == .function&&up.names.lookup n==some .cell)then (n,.cell)else (n,k)
noncomputable def yz7(XN:List Str)(sc:Scope):List Nat→List Str→Bool
 |[],_=>true
 |i::caps,x::N=>decide (XN[i]?=some x)&&decide (sc.names.lookup x=some .free)&&yz7 XN sc caps N
 |_::_,[]=>false
noncomputable def yo0(XN:List Str)(up scope:Scope)(N:List Str)(caps:List Nat)(n:Nat):Bool :=
 decide (scope.kind=.function)&&scope.names.all (fun x=>decide (x.2≠.local) ||decide (scope.names.lookup x.1=some .local))&&scope.names.all (fun x=>decide (x.2≠.cell))
 && scope.names.all (fun x=>decide (x.2≠.free) ||decide (up.names.lookup x.1=some .cell) ||decide (up.names.lookup x.1=some .free))
 && scope.names.all (fun x=>decide (x.2≠.free) ||decide ((zE1 scope up).lookup x.1=some .cell) ||decide ((zE1 scope up).lookup x.1=some .free))
 && (zE1 scope up).all (fun x=>(decide (x.2≠.cell)&&decide (x.2≠.free)) ||decide ((x.1,NameKind.free)∈scope.names))
 && yz7 XN scope caps N&&decide (N.length=caps.length+n)
theorem yF7{XN:List Str}{sc:Scope}:∀{caps:List Nat} {N:List Str},yz7 XN sc caps N=true→∀(j i:Nat),caps[j]?=some i→∃x,N[j]?=some x∧XN[i]?=some x∧sc.names.lookup x=some .free
 |[],_,_,j,i,e=>by simp at e
 |k::caps,[],h,_,_,_=>by cases h
 | k::caps,x::N,h,j,i,e=>by
  unfold yz7 at h
  rw[Bool.and_eq_true,Bool.and_eq_true]at h
  obtain⟨⟨h1,h2⟩,h3⟩:=h
  cases j with
  |zero=>simp at e;subst e;exact⟨x,rfl,of_decide_eq_true h1,of_decide_eq_true h2⟩
  |succ j=>simpa using yF7 h3 j i (by simpa using e)
theorem zh7{X:Cx}{up scope:Scope}{XN N:List Str}{caps:List Nat}{n:Nat}(hu:X.env.scope=up)(hN:X.N=XN)(h:yo0 XN up scope N caps n=true):zG8 X scope N caps n:=by
 subst hu hN
 unfold yo0 at h
 rw[Bool.and_eq_true,Bool.and_eq_true,Bool.and_eq_true,Bool.and_eq_true,Bool.and_eq_true,Bool.and_eq_true,Bool.and_eq_true]at h
 obtain⟨⟨⟨⟨⟨⟨⟨h1,h2⟩,h3⟩,h4⟩,h5⟩,h6⟩,h7⟩,h8⟩:=h
 rw[List.all_eq_true]at h2 h3 h4 h5 h6
 have rl:(relabel scope X.env).names=zE1 scope X.env.scope:=rfl
 refine⟨of_decide_eq_true h1,fun x hx e=>?_,fun x hx=>of_decide_eq_true (h3 x hx),fun x hx e=>?_,fun x e=>?_,fun x e=>?_,yF7 h7,of_decide_eq_true h8⟩
 ·have:=h2 x hx
  rw[Bool.or_eq_true]at this
  rcases this with z |z
  ·exact absurd e (of_decide_eq_true z)
  ·exact of_decide_eq_true z
 ·have:=h4 x hx
  rw[Bool.or_eq_true,Bool.or_eq_true]at this
  rcases this with (z |z)|z
  ·exact absurd e (of_decide_eq_true z)
  ·exact .inl (of_decide_eq_true z)
  ·exact .inr (of_decide_eq_true z)
 ·have:=h5 (x,.free) (zp4 e)
  rw[Bool.or_eq_true,Bool.or_eq_true]at this
  rcases this with (z |z)|z
  ·exact absurd rfl (of_decide_eq_true z)
  ·exact⟨_,by rw[rl];exact of_decide_eq_true z,.inl rfl⟩
  ·exact⟨_,by rw[rl];exact of_decide_eq_true z,.inr rfl⟩
 ·rw[rl]at e
  rcases e with e |e
  ·have:=h6 (x,.cell) (zp4 e)
   rw[Bool.or_eq_true,Bool.and_eq_true]at this
   rcases this with z |z
   ·exact absurd rfl (of_decide_eq_true z.1)
   ·exact of_decide_eq_true z
  ·have:=h6 (x,.free) (zp4 e)
   rw[Bool.or_eq_true,Bool.and_eq_true]at this
   rcases this with z |z
   ·exact absurd rfl (of_decide_eq_true z.2)
   ·exact of_decide_eq_true z
section
variable{X:Cx}{C:zc5}
theorem sv(i:Nat){x:Str}{pos:Pos}(hN:X.N[i]?=some x)(hv:Vis X.env.scope x)(hd:(x==("__debug__" : Str))=false)
  (hcd:(x==("__classdict__" : Str))=false):SE X C (.Name x pos) (.var i):=yS7 hN hv hd hcd
theorem pts0:PTs X [] (tTs X.K C none):=yK7
theorem pts1{c:Expr}{ic:E}(h:ST X C c ic):PTs X [c] (tTs X.K C (some ic)):=yJ7 h
theorem xd0{x:Str}{i:Int}{t:Tok}{pos:Pos}(hg:Gl X x)(hm:X.mg x=some (.int i t))(hd:(x==("__debug__" : Str))=false:=by decide):SE X C (.Name x pos) (.const (.int i)) :=
 xf0 (v:=.int i) (yK8 hg hm ⟨t,rfl⟩ hd) fun _ _=>by rw[RP]
end
theorem yG5(p:Int→Int→Bool):∀x y z,yd0 p x y=some z→∃k,z=PV.bl k:=by
 intro x y z h
 cases x <;> cases y <;> simp only[yd0,reduceCtorEq,Option.some.injEq]at h
 exact⟨_,h.symm⟩
open PySem L2 PySem.SeqAt PyProof.Rows
noncomputable def al0:Al:=⟨[],fun _=>False⟩
theorem yl1{K:Frag}{H:Hp}:RSt K al0 [] H:=by
 have no:∀{n:Nat} {o:zz8},zd0 [] n=some o→False:=fun {n o} h=>by unfold zd0 at h;simp at h
 refine⟨rfl,fun n xs h=>(no h).elim,fun n kvs h=>(no h).elim,fun n kvs h=>(no h).elim,fun n m a o o' _ _ _ h _=>(no h).elim,fun a h=>?_,fun n a o _ h _=>(no h).elim,fun a h=>h.elim⟩
 rcases h with h |⟨n,o,_,h,_⟩
 ·exact h.elim
 ·exact (no h).elim
theorem zH3{K:Frag}{H:Hp}{lv:Addr→Prop}:∀ns:List Int,RPs K H lv (ns.map .int) (ns.map .int)
 |[]=>by rw[List.map_nil,List.map_nil,RPs]
 |i::r=>by rw[List.map_cons,List.map_cons,RPs];exact⟨_,_,rfl,by rw[RP],zH3 r⟩
theorem yq9{K:Frag}{H:Hp}{a:Addr}{ns:List Int}(h:SqL K H a (ns.map V.int)):Paired (RV K al0 [] H) [.p (.lst (ns.map .int))] [.ref a]:=by
 refine .cons ?_ .nil
 show RP K H (zh4 al0 []) (.lst (ns.map .int)) (.ref a)
 rw[RP]
 refine⟨a,_,rfl,h,fun l=>?_,zH3 ns⟩
 rcases l with l |⟨n,o,_,l,_⟩
 ·exact l
 ·unfold zd0 at l;simp at l
section
variable{K:Frag}{α:Al}{st:za6}{H:Hp}{n:Nat}{a:Addr}{o:zz8}
end
section
variable{X:Cx}{C:zc5}{W:Nat}{e a b:Expr}{ie ia ib:E}{pos:Pos}
noncomputable def tF(K:Frag)(C:zc5)(ir:E):TE:=fun σ H Q=>∃env α st xs st',At K α st H env σ∧evalE C ir env st=.ok (.p (.lst xs)) st' ∧
 ∀p H' α' ws,Ext K α st H α' st' H'→RSt K α' st' H'→H' p=none→K.lookup p=none→RPs K H' (zh4 α' st') xs ws→Q (.ref p) (upd H' p (.lst ws))
noncomputable abbrev SF(X:Cx)(C:zc5)(e:Expr)(ir:E):Prop:=PE X e (tF X.K C ir)
theorem yP3(h:SF X C e ie):SE X C e (.thaw ie) :=
 PE.mono h fun σ H Q h_=>by
  obtain⟨env,α,st,v,st',at',e,q⟩:=h_
  rw[yK6]at e
  obtain⟨x,st1,e1,e⟩:=Res.bindP_inv e
  cases x with
  | lst xs =>
   cases e
   refine⟨env,α,st,xs,st1,at',e1,fun p H1 α1 ws x1 r1 hp hK rp=>?_⟩
   have ex:=zZ3 (o:=.lst xs) (h':=.lst ws) r1 hp hK
   have rs:=yl7 (o:=.lst xs) (h':=.lst ws) r1 hp hK (fun ys z=>by cases z;exact⟨ws,rfl,rp⟩) (fun kvs z=>by cases z) (fun kvs z=>by cases z)
   exact q _ _ _ (x1.trans ex) rs ⟨p,rfl,yG7 r1⟩
  |_=>cases e
theorem yT3{es:List Expr}{irs:List E}(h:SA X C es irs)(hl:es.length≤1000)(hi:irs.length=es.length):SF X C (.List es pos) (.list false irs) :=
 PE.mono (yL8 h) fun σ H Q h_=>by
  obtain⟨env,α,st,xs,st',at',e,q⟩:=h_
  rw[yr4]at e
  obtain⟨ys,st1,e1,e⟩:=Res.bind_inv e
  simp only[mk,Bool.false_eq_true,if_false]at e
  cases e
  refine⟨env,α,st,_,st',at',zO0 e1,fun ws H1 α1 x1 r1 p=>?_⟩
  have rp:=yd6 p
  refine⟨?_,fun a ha hK=>q a H1 α1 ws x1 r1 ha hK rp⟩
  rw[←rp.length,zD4 e1,hi]
  exact Nat.le_trans hl (by decide)
end
open PySem L2 PySem.SeqAt PyProof.Rows
section
variable{X:Cx}{C:zc5}{o e:Expr}{es:List Expr}{io:E}{irs:List E}{apos cpos:Pos}{name:Str}{id:String}{m:Mt}
def MtK(X:Cx)(id:String)(g:List PV→List PV→Option (PV×List PV)):Prop :=
 MtR X id fun x ws H Q=>∃α st a l vs xs z l',RSt X.K α st H∧x=.ref a∧H a=some (.lst vs)∧RPs X.K H (zh4 α st) l vs∧RPs X.K H (zh4 α st) xs ws∧g xs l=some (z,l') ∧
  ∀w vs',RP X.K H (zh4 α st) z w→RPs X.K H (zh4 α st) l' vs'→Q w (upd H a (.lst vs'))
theorem zZ8{K:Frag}{α:Al}{st:za6}{H:Hp}:∀{vs:List Val} {ws:List V} {xs:List PV},Paired (RV K α st H) vs ws→yk7 vs=some xs→RPs K H (zh4 α st) xs ws
 |[],ws,xs,h,e=>by cases h;cases e;rw[RPs]
 |.ref _::_,ws,xs,h,e=>by cases e
 | .p x::r,ws,xs,h,e=>by
  cases h with
  | cons q t =>
   unfold yk7 at e
   cases e2:yk7 r with
   |none=>rw[e2]at e;cases e
   | some ys =>
    rw[e2]at e
    cases e
    rw[RPs]
    exact⟨_,_,rfl,q,zZ8 t e2⟩
theorem yu8{ov:Val}{st st':za6}{g:List PV→Option (PV×List PV)}{v:Val}(h:zJ1 ov st g=.ok v st'):∃n l z l',ov=.ref n∧zd0 st n=some (.lst l)∧g l=some (z,l')∧v=.p z∧st'=st.set n (.lst l'):=by
 cases ov with
 |p _=>cases h
 | ref n =>
  have h:(match yn9 st n with |some l=>(match g l with |some (x,l')=>Res.ok (Val.p x) (st.set n (.lst l'))|none=>.stuck)|none=>.stuck)=.ok v st':=h
  unfold yn9 at h
  cases ho:zd0 st n with
  |none=>rw[ho]at h;cases h
  | some ob =>
   rw[ho]at h
   cases ob with
   |dct _=>cases h
   |dtt _=>cases h
   |dead=>cases h
   | lst l =>
    simp only at h
    cases hg:g l with
    |none=>rw[hg]at h;cases h
    | some p =>
     obtain⟨z,l'⟩:=p
     rw[hg]at h
     cases h
     exact⟨n,l,z,l',rfl,ho,hg,rfl,rfl⟩
theorem yO0{K:Frag}{α:Al}{st:za6}{H:Hp}{n:Nat}{a:Addr}{l l':List PV}{vs':List V}(r:RSt K α st H)(ha:α.adr[n]?=some a)(ho:zd0 st n=some (.lst l))(h:RPs K H (zh4 α st) l' vs'):
  Ext K α st H α (st.set n (.lst l')) (upd H a (.lst vs'))∧RSt K α (st.set n (.lst l')) (upd H a (.lst vs')):=by
 have nd:∀l,zz8.lst l≠.dead:=fun l z=>by cases z
 exact⟨zG0 r ha ho (nd _) (nd _),zM1 r ha ho (nd _) (nd _) (fun xs z=>by cases z;exact⟨_,rfl,h⟩) (fun kvs z=>by cases z) fun kvs z=>by cases z⟩
theorem yY2{K:Frag}{α:Al}{st:za6}{H:Hp}{n:Nat}{a:Addr}{x:PV}(r:RSt K α st H)(ha:α.adr[n]?=some a)(hv:view st (.ref n)=some x):tyV K "list" (.ref a) H:=by
 have w0:=(show RV K α st H (.ref n) (.ref a)from⟨a,rfl,ha⟩).view r hv
 have hx:∃xs,x=.lst xs:=by
  have h:(match zd0 st n with |some (.lst xs)=>some (PV.lst xs)|_=>none)=some x:=hv
  split at h
  ·exact⟨_,(Option.some.inj h).symm⟩
  ·cases h
 obtain⟨ys,rfl⟩:=hx
 obtain⟨b,us,eb,h1,_⟩:=w0.lst
 cases eb
 exact .inl ⟨rfl,us,h1⟩
theorem xa8{g:List PV→List PV→Option (PV×List PV)}(slot:Slot "list" name id)(hty:typeOf (.builtin id)=pure (.type "method_descriptor"))(hm:MtK X id g)(ho:SE X C o io)(ha:SA X C (e::es) irs)
  (hg:∀v vs st,zH1 m v vs st=(match yk7 vs with |some xs=>zJ1 v st (g xs)|none=>.stuck))
  (hbase:attributeBase o name X.env (eval o X.env)=eval o X.env)
  (hfew:((backTo cpos (starEach (e::es) X.env)).all (fun x=>!x.1)&&(backToKw cpos (keywordEach [] X.env)).all (fun x=>x.1.isSome)
   && decide ((e::es).length+([]:List Keyword).length+(if ([]:List Keyword).isEmpty then 0 else 1)<30))=true)
  (hline:(apos.endLine==cpos.line)=true) (hs:starEach (e::es) X.env=(false,eval e X.env)::starEach es X.env) (hplain:(backTo cpos (starEach es X.env)).any (·.1)=false) :
  SE X C (.Call (.Attribute o name apos) (e::es) [] cpos) (.meth m io irs) :=
 PE.mono (xr2 PySem.F.plainAttrs_list slot hty hm ho ha hbase hfew hline hs hplain) fun σ H Q h_=>by
  obtain⟨env,α,st,v,st',at',e,q⟩:=h_
  rw[yK5]at e
  obtain⟨ov,st1,e1,e⟩:=Res.bind_inv e
  obtain⟨_,st0,e0,e⟩:=Res.bind_inv e
  obtain⟨⟨x0,hv0⟩,hst⟩:=yB1 e0
  rw[hst]at e
  obtain⟨vs,st2,e2,e⟩:=Res.bind_inv e
  rw[hg]at e
  cases hv:yk7 vs with
  |none=>rw[hv]at e;cases e
  | some xs =>
   rw[hv]at e
   obtain⟨n,l,z,l',rfl,hob,hgz,rfl,rfl⟩:=yu8 e
   refine⟨env,α,st,_,st1,at',e1,fun w H1 α1 x1 r1 v1=>?_⟩
   obtain⟨a,rfl,ha⟩:=v1
   refine⟨yY2 r1 ha hv0,env,α1,st1,vs,st2,at'.next x1 r1,e2,fun ws H2 α2 x2 r2 pr=>?_⟩
   have ha2:=x2.pre n a ha
   obtain⟨a',us,g1,g2,g3⟩:=r2.lst n l hob
   rw[ha2]at g1;cases g1
   refine⟨α2,st2,a,l,us,xs,z,l',r2,rfl,g2,g3,zZ8 pr hv,hgz,fun w us' rw' rps'=>?_⟩
   obtain⟨c1,c2⟩:=yO0 r2 ha2 hob rps'
   exact q w _ α2 (x1.trans (x2.trans c1)) c2 (c1.rp rw')
theorem yz0:MtK X "list.append" zM6:=by
 rintro pins s σ H x ws v us Q I rx rs ⟨α,st,a,l,vs,xs,z,l',r,e,hH,hl,hx,hg,q⟩
 subst e
 unfold zM6 at hg
 match xs,hx,hg with
 |[],_,hg=>cases hg
 |_::_::_,_,hg=>cases hg
 | [y],hx,hg =>
  have hg:(if l.length<SZ then some (PV.non,l++[y])else none)=some (z,l'):=hg
  by_cases hc:l.length<SZ
  ·rw[if_pos hc]at hg
   cases hg
   rw[RPs]at hx
   obtain⟨w,wr,rfl,h1,h2⟩:=hx
   rw[RPs]at h2
   subst h2
   rw[yf5]at hc
   exact zI5 pins s σ H _ _ v us Q I rx rs ⟨a,vs,w,rfl,rfl,hH,by rw[←hl.length];exact hc,q _ _ (by rw[RP]) (hl.snoc h1)⟩
  ·rw[if_neg hc]at hg;cases hg
theorem RPs.reverse{K:Frag}{H:Hp}{lv:Addr→Prop}:∀{xs:List PV} {vs:List V},RPs K H lv xs vs→RPs K H lv xs.reverse vs.reverse
 |[],vs,h=>by rw[RPs]at h;subst h;rw[List.reverse_nil,List.reverse_nil,RPs]
 | x::r,vs,h=>by
  rw[RPs]at h
  obtain⟨v,vr,rfl,h1,h2⟩:=h
  rw[List.reverse_cons,List.reverse_cons]
  exact (RPs.reverse h2).snoc h1
theorem yz2(v:Val)(vs:List Val)(st:za6):zH1 .append v vs st=(match yk7 vs with |some xs=>zJ1 v st (zM6 xs)|none=>.stuck):=by
 show (match yk7 vs with |some xs=>zO3 .append v xs st |none=>.stuck)=_
 cases yk7 vs <;> rfl
end
open PySem L2 PySem.SeqAt PyProof.Rows
section
variable{X:Cx}{C:zc5}{W:Nat}{es:List Expr}{is:List Nat}{pos:Pos}
theorem PGs.mono{t t':TGs}(h:PGs X es t)(m:∀vs σ H Q,t' vs σ H Q→t vs σ H Q):PGs X es t':=fun pins s σ H vs us Q I r q=>h pins s σ H vs us Q I r (m _ _ _ _ q)
noncomputable def yr2(is:List Nat)(xs:List PV)(env:Env):Env:=(is.zip xs).foldl (fun e p=>e.set p.1 (some (.p p.2))) env
noncomputable def tGs(K:Frag)(is:List Nat):TGs:=fun vs σ H Q=>∃env α st xs,At K α st H env σ∧RPs K H (zh4 α st) xs vs∧xs.length=is.length∧∀σ',At K α st H (yr2 is xs env) σ'→Q σ' H
theorem yL7:PGs X [] (tGs X.K []):=PGs.mono yI5 fun vs σ H Q h_=>by
 obtain⟨env,α,st,xs,at',rp,hl,q⟩:=h_
 have e:xs=[]:=List.eq_nil_of_length_eq_zero (by simpa using hl)
 subst e
 rw[RPs]at rp
 exact⟨rp,q σ at'⟩
theorem yy8{i:Nat}{x:Str}(hN:X.N.Nodup)(hi:X.N[i]?=some x)(hx:Loc X.env.scope x)(h:PGs X es (tGs X.K is))(hf:X.fn x=true∨X.env.scope.names.lookup x=some .local)
  (hs:(assignEach (.Name x pos::es) X.env).map (·.2)=assign (.Name x pos) X.env::(assignEach es X.env).map (·.2)):PGs X (.Name x pos::es) (tGs X.K (i::is)) :=
 PGs.mono (yv3 (yu4 hN hi hx hf) h hs) fun vs σ H Q h_=>by
  obtain⟨env,α,st,xs,at',rp,hl,q⟩:=h_
  cases xs with
  |nil=>cases hl
  | cons y ys =>
   rw[RPs]at rp
   obtain⟨v,vr,rfl,h1,h2⟩:=rp
   exact⟨v,vr,rfl,env.set i (some (.p y)),α,st,ys,at'.set h1,h2,by simpa using hl,q⟩
theorem yW2{k:Nat}(hc:X.calm=true)(h:PGs X es (tGs X.K is))(hn:(assignEach es X.env).length=is.length)(hst:(assignEach es X.env).findIdx? (·.1)=none):SG X (.Tuple es k pos) (.tup is) :=
 PG.mono (yH1 hc h hn hst) fun v σ H Q h_=>by
  obtain⟨env,α,st,x,env',at',rp,e,q⟩:=h_
  cases x with
  | tup xs =>
   have e:(if is.length=xs.length then some (yr2 is xs env)else none)=some env':=e
   by_cases hl:is.length=xs.length
   ·rw[if_pos hl]at e
    cases e
    rw[RP]at rp
    obtain⟨a,vs,rfl,h1,h2⟩:=rp
    exact⟨a,vs,rfl,h1,by rw[←h2.length,hl],env,α,st,xs,at',h2,hl.symm,q⟩
   ·rw[if_neg hl]at e;cases e
  |_=>cases e
end
open PySem L2 PySem.SeqAt PyProof.Rows
section
variable{X:Cx}{pins:List (Addr×Obj)}{σ:L2.St}{H:Hp}{s:Shared}{lv:Addr→Prop}
theorem yg9{α:Al}{st:za6}(I:Inv X pins σ H s){n:Nat}
  (ih:0<n→∀(px py:PV) (x y:V) (v u:Value) (A:Around),RW X.K α st H px x→RW X.K α st H py y→RelV x v→RelV y u→(dep px≤n-1∨dep py≤n-1)→A.units+(n-1)+1<cLine→RcAt A s v u (pyEq px py)∧EqAt A s v u (pyEq px py))
  (px py:PV) (x y:V) (v u:Value) (A:Around) (hx:RW X.K α st H px x) (hy:RW X.K α st H py y) (rx:RelV x v) (ry:RelV y u) (hd:dep px≤n∨dep py≤n) (hu:A.units+n+1<cLine) :
  RcNeAt A s v u (!pyEq px py):=by
 have hu0:A.units<cLine:=by lia
 have seqT:∀{xs:List PV} {w:V} {uu:Value},RW X.K α st H (.tup xs) w→RelV w uu→∃a vs its,w=.ref a∧uu=.ref a∧RPs X.K H (zh4 α st) xs vs∧zi9 vs its∧s.heap.IsTuple a its.toArray:=fun h r=>by
  obtain⟨a,vs,rfl,h1,h2⟩:=h.tup
  cases r
  obtain⟨its,r1,p,_⟩:=I.tuple h1
  exact⟨a,vs,its,rfl,rfl,h2,r1,p⟩
 have seqL:∀{xs:List PV} {w:V} {uu:Value},RW X.K α st H (.lst xs) w→RelV w uu→∃a vs its,w=.ref a∧uu=.ref a∧RPs X.K H (zh4 α st) xs vs∧zi9 vs its∧s.heap.IsList a its.toArray:=fun h r=>by
  obtain⟨a,vs,rfl,h1,h2⟩:=h.lst
  cases r
  obtain⟨its,r1,p,_⟩:=I.list h1
  exact⟨a,vs,its,rfl,rfl,h2,r1,p.isList⟩
 cases px with
 | non =>
  cases py with
  | non =>
   obtain rfl:x=V.non:=hx.non
   obtain rfl:v=Value.none:=rx
   obtain rfl:y=V.non:=hy.non
   obtain rfl:u=Value.none:=ry
   have e:pyEq .non .non=true:=by simp[pyEq]
   rw[e]
   exact .none_none
  | bl e2 =>
   obtain rfl:x=V.non:=hx.non
   obtain rfl:v=Value.none:=rx
   obtain rfl:=hy.bl
   obtain rfl:u=Value.bool _:=ry
   have e:pyEq .non (.bl e2)=false:=by simp[pyEq]
   rw[e]
   exact .none_bool _
  | int e2 =>
   obtain rfl:x=V.non:=hx.non
   obtain rfl:v=Value.none:=rx
   obtain rfl:=hy.int
   obtain⟨t',rfl⟩:=ry
   have e:pyEq .non (.int e2)=false:=by simp[pyEq]
   rw[e]
   exact .none_int _ _
  | str e2 =>
   obtain rfl:x=V.non:=hx.non
   obtain rfl:v=Value.none:=rx
   obtain rfl:=hy.str.1
   obtain⟨t',rfl⟩:=ry
   have e:pyEq .non (.str e2)=false:=by simp[pyEq]
   rw[e]
   exact .none_str _ _
  | tup e2 =>
   obtain rfl:x=V.non:=hx.non
   obtain rfl:v=Value.none:=rx
   obtain⟨b,ws,its2,rfl,rfl,q2,r2,p2⟩:=seqT hy ry
   have e:pyEq .non (.tup e2)=false:=by simp[pyEq]
   rw[e]
   exact .none_tuple p2 hu0
  | lst e2 =>
   obtain rfl:x=V.non:=hx.non
   obtain rfl:v=Value.none:=rx
   obtain⟨b,ws,its2,rfl,rfl,q2,r2,p2⟩:=seqL hy ry
   have e:pyEq .non (.lst e2)=false:=by simp[pyEq]
   rw[e]
   exact .none_list p2 hu0
 | bl e1 =>
  cases py with
  | non =>
   obtain rfl:=hx.bl
   obtain rfl:v=Value.bool _:=rx
   obtain rfl:y=V.non:=hy.non
   obtain rfl:u=Value.none:=ry
   have e:pyEq (.bl e1) .non=false:=by simp[pyEq]
   rw[e]
   exact .bool_none _
  | bl e2 =>
   obtain rfl:=hx.bl
   obtain rfl:v=Value.bool _:=rx
   obtain rfl:=hy.bl
   obtain rfl:u=Value.bool _:=ry
   rw[pyEq]
   exact .bool_bool _ _
  | int e2 =>
   obtain rfl:=hx.bl
   obtain rfl:v=Value.bool _:=rx
   obtain rfl:=hy.int
   obtain⟨t',rfl⟩:=ry
   rw[pyEq]
   exact .bool_int _ _ _
  | str e2 =>
   obtain rfl:=hx.bl
   obtain rfl:v=Value.bool _:=rx
   obtain rfl:=hy.str.1
   obtain⟨t',rfl⟩:=ry
   have e:pyEq (.bl e1) (.str e2)=false:=by simp[pyEq]
   rw[e]
   exact .bool_str _ _ _
  | tup e2 =>
   obtain rfl:=hx.bl
   obtain rfl:v=Value.bool _:=rx
   obtain⟨b,ws,its2,rfl,rfl,q2,r2,p2⟩:=seqT hy ry
   have e:pyEq (.bl e1) (.tup e2)=false:=by simp[pyEq]
   rw[e]
   exact .bool_tuple _ p2 hu0
  | lst e2 =>
   obtain rfl:=hx.bl
   obtain rfl:v=Value.bool _:=rx
   obtain⟨b,ws,its2,rfl,rfl,q2,r2,p2⟩:=seqL hy ry
   have e:pyEq (.bl e1) (.lst e2)=false:=by simp[pyEq]
   rw[e]
   exact .bool_list _ p2 hu0
 | int e1 =>
  cases py with
  | non =>
   obtain rfl:=hx.int
   obtain⟨t,rfl⟩:=rx
   obtain rfl:y=V.non:=hy.non
   obtain rfl:u=Value.none:=ry
   have e:pyEq (.int e1) .non=false:=by simp[pyEq]
   rw[e]
   exact .int_none _ _
  | bl e2 =>
   obtain rfl:=hx.int
   obtain⟨t,rfl⟩:=rx
   obtain rfl:=hy.bl
   obtain rfl:u=Value.bool _:=ry
   rw[pyEq]
   exact .int_bool _ _ _
  | int e2 =>
   obtain rfl:=hx.int
   obtain⟨t,rfl⟩:=rx
   obtain rfl:=hy.int
   obtain⟨t',rfl⟩:=ry
   rw[pyEq]
   exact .int_int _ _ _ _
  | str e2 =>
   obtain rfl:=hx.int
   obtain⟨t,rfl⟩:=rx
   obtain rfl:=hy.str.1
   obtain⟨t',rfl⟩:=ry
   have e:pyEq (.int e1) (.str e2)=false:=by simp[pyEq]
   rw[e]
   exact .int_str _ _ _ _
  | tup e2 =>
   obtain rfl:=hx.int
   obtain⟨t,rfl⟩:=rx
   obtain⟨b,ws,its2,rfl,rfl,q2,r2,p2⟩:=seqT hy ry
   have e:pyEq (.int e1) (.tup e2)=false:=by simp[pyEq]
   rw[e]
   exact .int_tuple _ _ p2 hu0
  | lst e2 =>
   obtain rfl:=hx.int
   obtain⟨t,rfl⟩:=rx
   obtain⟨b,ws,its2,rfl,rfl,q2,r2,p2⟩:=seqL hy ry
   have e:pyEq (.int e1) (.lst e2)=false:=by simp[pyEq]
   rw[e]
   exact .int_list _ _ p2 hu0
 | str e1 =>
  cases py with
  | non =>
   obtain rfl:=hx.str.1
   obtain⟨t,rfl⟩:=rx
   obtain rfl:y=V.non:=hy.non
   obtain rfl:u=Value.none:=ry
   have e:pyEq (.str e1) .non=false:=by simp[pyEq]
   rw[e]
   exact .str_none _ _
  | bl e2 =>
   obtain rfl:=hx.str.1
   obtain⟨t,rfl⟩:=rx
   obtain rfl:=hy.bl
   obtain rfl:u=Value.bool _:=ry
   have e:pyEq (.str e1) (.bl e2)=false:=by simp[pyEq]
   rw[e]
   exact .str_bool _ _ _
  | int e2 =>
   obtain rfl:=hx.str.1
   obtain⟨t,rfl⟩:=rx
   obtain rfl:=hy.int
   obtain⟨t',rfl⟩:=ry
   have e:pyEq (.str e1) (.int e2)=false:=by simp[pyEq]
   rw[e]
   exact .str_int _ _ _ _
  | str e2 =>
   obtain rfl:=hx.str.1
   obtain⟨t,rfl⟩:=rx
   obtain rfl:=hy.str.1
   obtain⟨t',rfl⟩:=ry
   have e:pyEq (.str e1) (.str e2)=((⟨e1.toArray⟩:Str)==⟨e2.toArray⟩):=by rw[yH2,pyEq]
   rw[e]
   exact .str_str _ _ _ _
  | tup e2 =>
   obtain rfl:=hx.str.1
   obtain⟨t,rfl⟩:=rx
   obtain⟨b,ws,its2,rfl,rfl,q2,r2,p2⟩:=seqT hy ry
   have e:pyEq (.str e1) (.tup e2)=false:=by simp[pyEq]
   rw[e]
   exact .str_tuple _ _ p2 hu0
  | lst e2 =>
   obtain rfl:=hx.str.1
   obtain⟨t,rfl⟩:=rx
   obtain⟨b,ws,its2,rfl,rfl,q2,r2,p2⟩:=seqL hy ry
   have e:pyEq (.str e1) (.lst e2)=false:=by simp[pyEq]
   rw[e]
   exact .str_list _ _ p2 hu0
 | tup e1 =>
  cases py with
  | non =>
   obtain⟨a,vs,its,rfl,rfl,q1,r1,p1⟩:=seqT hx rx
   obtain rfl:y=V.non:=hy.non
   obtain rfl:u=Value.none:=ry
   have e:pyEq (.tup e1) .non=false:=by simp[pyEq]
   rw[e]
   exact .tuple_none p1 hu0
  | bl e2 =>
   obtain⟨a,vs,its,rfl,rfl,q1,r1,p1⟩:=seqT hx rx
   obtain rfl:=hy.bl
   obtain rfl:u=Value.bool _:=ry
   have e:pyEq (.tup e1) (.bl e2)=false:=by simp[pyEq]
   rw[e]
   exact .tuple_bool _ p1 hu0
  | int e2 =>
   obtain⟨a,vs,its,rfl,rfl,q1,r1,p1⟩:=seqT hx rx
   obtain rfl:=hy.int
   obtain⟨t',rfl⟩:=ry
   have e:pyEq (.tup e1) (.int e2)=false:=by simp[pyEq]
   rw[e]
   exact .tuple_int _ _ p1 hu0
  | str e2 =>
   obtain⟨a,vs,its,rfl,rfl,q1,r1,p1⟩:=seqT hx rx
   obtain rfl:=hy.str.1
   obtain⟨t',rfl⟩:=ry
   have e:pyEq (.tup e1) (.str e2)=false:=by simp[pyEq]
   rw[e]
   exact .tuple_str _ _ p1 hu0
  | tup e2 =>
   obtain⟨a,vs,its,rfl,rfl,q1,r1,p1⟩:=seqT hx rx
   obtain⟨b,ws,its2,rfl,rfl,q2,r2,p2⟩:=seqT hy ry
   have hn:0<n:=by simp at hd;lia
   have hd':deps e1≤n-1∨deps e2≤n-1:=by simp at hd;lia
   have it:=zs7 (n:=n-1) (A:=A) (ih hn) q1 q2 r1 r2 hd' (by lia)
   have l1:=q1.length
   have l2:=q2.length
   have m1:=r1.length
   have m2:=r2.length
   have rc:RcNeAt A s (.ref a) (.ref b) (!pyEq (.tup e1) (.tup e2)):=by
    have z:=RcNeAt.tuples p1 p2 hu0 it
    rw[pyEq,zo7]
    simp only[List.size_toArray]at z
    rw[l1,l2,m1,m2]
    exact z
   exact rc
  | lst e2 =>
   obtain⟨a,vs,its,rfl,rfl,q1,r1,p1⟩:=seqT hx rx
   obtain⟨b,ws,its2,rfl,rfl,q2,r2,p2⟩:=seqL hy ry
   have e:pyEq (.tup e1) (.lst e2)=false:=by simp[pyEq]
   rw[e]
   exact .tuple_list p1 p2 hu0
 | lst e1 =>
  cases py with
  | non =>
   obtain⟨a,vs,its,rfl,rfl,q1,r1,p1⟩:=seqL hx rx
   obtain rfl:y=V.non:=hy.non
   obtain rfl:u=Value.none:=ry
   have e:pyEq (.lst e1) .non=false:=by simp[pyEq]
   rw[e]
   exact .list_none p1 hu0
  | bl e2 =>
   obtain⟨a,vs,its,rfl,rfl,q1,r1,p1⟩:=seqL hx rx
   obtain rfl:=hy.bl
   obtain rfl:u=Value.bool _:=ry
   have e:pyEq (.lst e1) (.bl e2)=false:=by simp[pyEq]
   rw[e]
   exact .list_bool _ p1 hu0
  | int e2 =>
   obtain⟨a,vs,its,rfl,rfl,q1,r1,p1⟩:=seqL hx rx
   obtain rfl:=hy.int
   obtain⟨t',rfl⟩:=ry
   have e:pyEq (.lst e1) (.int e2)=false:=by simp[pyEq]
   rw[e]
   exact .list_int _ _ p1 hu0
  | str e2 =>
   obtain⟨a,vs,its,rfl,rfl,q1,r1,p1⟩:=seqL hx rx
   obtain rfl:=hy.str.1
   obtain⟨t',rfl⟩:=ry
   have e:pyEq (.lst e1) (.str e2)=false:=by simp[pyEq]
   rw[e]
   exact .list_str _ _ p1 hu0
  | tup e2 =>
   obtain⟨a,vs,its,rfl,rfl,q1,r1,p1⟩:=seqL hx rx
   obtain⟨b,ws,its2,rfl,rfl,q2,r2,p2⟩:=seqT hy ry
   have e:pyEq (.lst e1) (.tup e2)=false:=by simp[pyEq]
   rw[e]
   exact .list_tuple p1 p2 hu0
  | lst e2 =>
   obtain⟨a,vs,its,rfl,rfl,q1,r1,p1⟩:=seqL hx rx
   obtain⟨b,ws,its2,rfl,rfl,q2,r2,p2⟩:=seqL hy ry
   have hn:0<n:=by simp at hd;lia
   have hd':deps e1≤n-1∨deps e2≤n-1:=by simp at hd;lia
   have it:=zs7 (n:=n-1) (A:=A) (ih hn) q1 q2 r1 r2 hd' (by lia)
   have l1:=q1.length
   have l2:=q2.length
   have m1:=r1.length
   have m2:=r2.length
   have rc:RcNeAt A s (.ref a) (.ref b) (!pyEq (.lst e1) (.lst e2)):=by
    by_cases hz:its.length=its2.length
    ·have z:=RcNeAt.lists p1 p2 (by simpa using hz) hu0 it
     rw[pyEq,zo7]
     simp only[List.size_toArray]at z
     rw[l1,l2,m1,m2,←hz,Nat.min_self,beq_self_eq_true,Bool.and_true]
     exact z
    ·have z:=RcNeAt.lists_lengths p1 p2 (by simpa using hz) hu0
     have e:pyEq (.lst e1) (.lst e2)=false:=by
      rw[pyEq,zo7,Bool.and_eq_false_iff]
      exact .inr (by rw[beq_eq_false_iff_ne];lia)
     rw[e]
     exact z
   exact rc
theorem xk1(hu:X.A.units+200<cLine):Op2 X (compareOp .NotEq) (fun x y=>if zk2 (dep x) (dep y)then some (.bl (!pyEq x y))else none):=by
 rintro pins s σ H x y v u Q I rx ry ⟨α,st,px,py,z,r,hx,hy,hz,q⟩
 simp only[Option.ite_none_right_eq_some,Option.some.injEq]at hz
 obtain⟨hd,hz⟩:=hz
 have hd':dep px≤100∨dep py≤100:=by simpa[zk2]using hd
 exact (yg9 I (n:=100) (fun _=>yQ8 I 99) px py x y v u X.A hx hy rx ry hd' (by lia)) _ _ _ _ ⟨.bl _,H,I,rfl,q _ _ (zl0.refl H) (by rw[←hz,RP])⟩
end
open PySem L2 PySem.SeqAt PyProof.Rows
noncomputable def yj3(v:Value):Sem Value:=match v with
 |.bool k=>pure (.bool (!k))
 |v=>pure v
theorem yA0(a b:Value):compareOp .NotIn a b=compareOp .In a b >>= yj3:=by
 show (do return Value.bool (!(←contains b a)):Sem Value)=((do return Value.bool (←contains b a):Sem Value) >>= yj3)
 simp only[bind_assoc,pure_bind,yj3]
theorem yw2(a b:Value):compareOp .IsNot a b=compareOp .Is a b >>= yj3:=by
 show (do return Value.bool (!(←isSame a b)):Sem Value)=((do return Value.bool (←isSame a b):Sem Value) >>= yj3)
 simp only[bind_assoc,pure_bind,yj3]
section
variable{X:Cx}
theorem Op2.flip{op op':CmpOp}{g g':PV→PV→Option PV}(h:Op2 X (compareOp op) g)(e:∀a b,compareOp op' a b=compareOp op a b >>= yj3)(hg:∀x y z,g' x y=some z→∃b,g x y=some (.bl b)∧z=.bl (!b)):Op2 X (compareOp op') g':=by
 rintro pins s σ H x y v u Q I rx ry ⟨α,st,px,py,z,r,hx,hy,hz,q⟩
 obtain⟨b,hb,rfl⟩:=hg _ _ _ hz
 rw[e v u]
 refine wpAny_bind (thn (h pins s σ H x y v u (fun w H'=>w=.bl b∧zl0 H H') I rx ry ⟨α,st,px,py,.bl b,r,hx,hy,hb,fun w H' s' rp=>⟨by rw[RP]at rp;exact rp,s'⟩⟩) fun w s1 h_=>?_)
 obtain⟨x1,H1,I1,r1,e1,s1'⟩:=h_
 subst e1
 obtain rfl:w=Value.bool b:=r1
 exact wpAny_pure ⟨.bl _,H1,I1,rfl,q _ _ s1' (by rw[RP])⟩
theorem zN7(hu:X.A.units+200<cLine):Op2 X (compareOp .NotIn) (fun x y=>(isIn x y).map fun b=>.bl (!b)) :=
 (yH7 hu).flip yA0 fun x y z h=>by
  obtain⟨b,hb,rfl⟩:=Option.map_eq_some_iff.mp h
  exact⟨b,by rw[hb];rfl,rfl⟩
theorem ye0{n:Bool}{x y z:PV}(h:zX3 n x y=some z):(y=.non∧z=.bl (decide (x=.non) != n))∨∃b,y=.bl b∧z=.bl (decide (x=.bl b) != n):=by
 cases y with
 | non =>
  refine .inl ⟨rfl,?_⟩
  cases x <;> (have h:=Option.some.inj h;subst h;cases n <;> simp)
 | bl b =>
  refine .inr ⟨b,rfl,?_⟩
  cases x with
  |bl a=>have h:=Option.some.inj h;subst h;cases n <;> cases a <;> cases b <;> decide
  |_=>have h:=Option.some.inj h;subst h;cases n <;> simp
 |_=>cases x <;> cases h
theorem xi9:Op2 X (compareOp .Is) (zX3 false):=by
 rintro pins s σ H x y v u Q I rx ry ⟨α,st,px,py,z,r,hx,hy,hz,q⟩
 rcases ye0 hz with⟨rfl,rfl⟩|⟨b,rfl,rfl⟩
 ·have ey:=hy.non
  subst ey
  refine xd8 pins s σ H x _ v u Q I rx ry ⟨rfl,q _ _ (zl0.refl H) ?_⟩
  rw[RP]
  congr 1
  rw[Bool.bne_false]
  have:(px=.non)↔(x=V.non):=by
   cases px with
   |non=>simp[hx.non]
   |bl _=>simp[hx.bl]
   |int _=>simp[hx.int]
   |str _=>simp[hx.str.1]
   |tup _=>obtain⟨a,vs,rfl,_⟩:=hx.tup;simp
   |lst _=>obtain⟨a,vs,rfl,_⟩:=hx.lst;simp
  simp only[this]
 ·have ey:=hy.bl
  subst ey
  obtain rfl:u=Value.bool b:=ry
  have fin:∀k,decide (px=PV.bl b)=k→EP X pins σ Q (.bool k) s:=fun k e=>⟨.bl k,H,I,rfl,q _ _ (zl0.refl H) (by rw[RP,e,Bool.bne_false])⟩
  show wpAny _ _ (do return Value.bool (←isSame v (.bool b)):Sem Value) _ _ _
  cases px with
  | non =>
   have ex:=hx.non;subst ex;obtain rfl:v=Value.none:=rx
   exact wpAny_bind (wpAny_pure (wpAny_pure (fin _ (by cases b <;> rfl))))
  | bl a =>
   have ex:=hx.bl;subst ex;obtain rfl:v=Value.bool a:=rx
   exact wpAny_bind (wpAny_pure (wpAny_pure (fin _ (by cases a <;> cases b <;> rfl))))
  | int i =>
   have ex:=hx.int;subst ex;obtain⟨t,rfl⟩:=rx
   exact wpAny_bind (wpAny_pure (wpAny_pure (fin _ (by cases b <;> rfl))))
  | str i =>
   have ex:=hx.str.1;subst ex;obtain⟨t,rfl⟩:=rx
   exact wpAny_bind (wpAny_pure (wpAny_pure (fin _ (by cases b <;> rfl))))
  | tup i =>
   obtain⟨a,vs,rfl,_⟩:=hx.tup;obtain rfl:v=Value.ref a:=rx
   exact wpAny_bind (wpAny_pure (wpAny_pure (fin _ (by cases b <;> rfl))))
  | lst i =>
   obtain⟨a,vs,rfl,_⟩:=hx.lst;obtain rfl:v=Value.ref a:=rx
   exact wpAny_bind (wpAny_pure (wpAny_pure (fin _ (by cases b <;> rfl))))
theorem yP5:Op2 X (compareOp .IsNot) (zX3 true) :=
 xi9.flip yw2 fun x y z h=>by
  rcases ye0 h with⟨rfl,rfl⟩|⟨b,rfl,rfl⟩
  ·refine⟨decide (x=.non),?_,by simp⟩
   cases x <;> simp[zX3]
  ·refine⟨decide (x=.bl b),?_,by simp⟩
   cases x with
   |bl a=>cases a <;> cases b <;> rfl
   |_=>simp[zX3]
end
open PySem L2 PySem.SeqAt PyProof.Rows
section
variable{X:Cx}{C:zc5}{e:Expr}{ie:E}{pos p:Pos}
theorem zw8:zz7 X (.type "tuple") (f1 yn4):=by
 rintro pins s σ H ws us Q I rs ⟨α,st,xs,z,r,pr,hz,q⟩
 cases pr with
 |nil=>cases hz
 | cons h t =>
  cases t with
  |cons _ _=>cases hz
  | nil =>
   rename_i x w
   cases x with
   | tup l =>
    obtain⟨a,vs,rfl,h1,h2⟩:=h.tup
    cases hz
    exact zz4 pins s σ H _ us Q I rs ⟨a,vs,rfl,.inr ⟨h1,q _ _ (zl0.refl H) (by rw[RP];exact⟨a,vs,rfl,h1,h2⟩)⟩⟩
   | lst l =>
    obtain⟨a,vs,rfl,h1,h2⟩:=h.lst
    cases hz
    refine zz4 pins s σ H _ us Q I rs ⟨a,vs,rfl,.inl ⟨h1,fun b hb=>?_⟩⟩
    have s1:zl0 H (upd H b (.tup vs)):=zg8 hb _
    exact q _ _ s1 (by rw[RP];exact⟨b,vs,rfl,SqT.of ze2,(Ext.of_same r s1).rps h2⟩)
   |_=>cases hz
theorem yF1:zz7 X (.type "list") (f1 xd5):=by
 rintro pins s σ H ws us Q I rs ⟨α,st,xs,z,r,pr,hz,q⟩
 cases pr with
 |nil=>cases hz
 | cons h t =>
  cases t with
  |cons _ _=>cases hz
  | nil =>
   rename_i x w
   have go:∀{l:List PV} {a:Addr} {vs:List V},z=.lst l→w=.ref a→(SqL X.K H a vs∨SqT X.K H a vs)→RPs X.K H (zh4 α st) l vs→wpAny (model X.prog X.w) X.A (call (.type "list") us) (EP X pins σ Q) X.xe s:=fun {l a vs} ez ew h1 h2=>by
    subst ew ez
    refine zT1 pins s σ H _ us Q I rs ⟨a,vs,rfl,h1,fun b hb=>?_⟩
    have s1:zl0 H (upd H b (.lst vs)):=zg8 hb _
    exact q _ _ s1 (by rw[RP];exact⟨b,vs,rfl,SqL.of ze2,r.notlive hb,(Ext.of_same r s1).rps h2⟩)
   cases x with
   | tup l =>
    obtain⟨a,vs,ew,h1,h2⟩:=h.tup
    exact go (Option.some.inj hz).symm ew (.inr h1) h2
   | lst l =>
    obtain⟨a,vs,ew,h1,h2⟩:=h.lst
    exact go (Option.some.inj hz).symm ew (.inl h1) h2
   |_=>cases hz
theorem yA8(f:Nat→Int):∀k:Nat,f (argBest (fun i j=>decide (f i > f j)) k)=yF9 (f 0) ((List.range k).map fun i=>f (i+1))
 |0=>rfl
 | k+1=>by
  have snoc:∀(r:List Int) (m x:Int),yF9 m (r++[x])=(if yF9 m r<x then x else yF9 m r):=by
   intro r
   induction r with
   |nil=>intro m x;rfl
   |cons y r ih=>intro m x;rw[List.cons_append,yF9,ih,yF9]
  rw[List.range_succ,List.map_append,List.map_singleton,snoc,←yA8 f k,argBest]
  by_cases h:f (k+1) > f (argBest (fun i j=>decide (f i > f j)) k)
  ·rw[if_pos (by simpa using h),if_pos h]
  ·rw[if_neg (by simpa using h),if_neg h]
theorem ym0(f:Nat→Int):∀n:Nat,preSum f n=((List.range n).map f).sum
 |0=>rfl
 | n+1=>by
  rw[List.range_succ,List.map_append,List.sum_append,List.map_singleton,List.sum_singleton,←ym0 f n]
  rfl
theorem xg8(hc:X.calm=true):zz7 X (.builtin "sum") (f1 (zY0 fun l=>(zo5 l).map fun l=>.int l.sum)):=by
 rintro pins s σ H ws us Q I rs ⟨α,st,xs,z,r,pr,hz,q⟩
 cases pr with
 |nil=>cases hz
 | cons h t =>
  cases t with
  |cons _ _=>cases hz
  | nil =>
   rename_i x w
   cases x with
   | lst l =>
    have hz:(zo5 l).map (fun l=>PV.int l.sum)=some z:=hz
    obtain⟨ns,hi,hz2⟩:=Option.map_eq_some_iff.mp hz
    have el:=yj9 hi
    subst el
    obtain⟨a,vs,rfl,h1,h2⟩:=h.lst
    cases rs with
    | cons ra rt =>
     cases rt
     obtain rfl:=(show _=Value.ref a from ra)
     obtain⟨its,r1,p,_⟩:=I.list h1
     have ev:=yc6 h2
     subst ev
     obtain⟨ps,rfl,hps⟩:=zJ9 r1
     have hit:(ps.map (fun p=>Value.int p.1 p.2)).toArray=intItems ps.toArray:=by simp[intItems]
     refine PySem.sum_intListG (xs:=ps.toArray) (I.ok.hd hc) (by rw[←hit];exact p.isList) fun h' tk t' hk=>?_
     refine⟨.int _,H,I.kept hk,⟨_,rfl⟩,q _ _ (zl0.refl H) ?_⟩
     rw[←hz2,RP,ym0]
     congr 2
     have at':∀i,numAt ps.toArray i=(ns[i]?).getD 0:=fun i=>by
      rw[←hps]
      simp[numAt]
     have hpl:ps.length=ns.length:=by have:=congrArg List.length hps;simpa using this
     apply List.ext_getElem
     ·simp[hpl]
     ·intro i h1 h2
      have h3:i<ns.length:=by simpa[hpl]using h1
      simp[at',h3]
   |_=>cases hz
end
open PySem L2 PySem.SeqAt PyProof.Rows
section
variable{X:Cx}{C:zc5}{W:Nat}{pos:Pos}
theorem yC9{c:Expr}{body:List Stmt}{ic:E}{ib:List S}(hp:PassesOwn (model X.prog X.w) X.A X.env X.xe)(hc:ST X C c ic)(hb:SSs X C W body ib):SS X C W (.While c body [] pos) (.while ic ib) :=
 PS.mono (yA3 hp hc hb) fun D σ H h_=>by
  obtain⟨env,α,st,fl,st',at',e,q⟩:=h_
  rw[yw5]at e
  have e:zm3 (evalE C ic) (execSs C W ib) W env st=.ok fl st':=e
  refine⟨fun m σ2 H2=>∃env2 α2 st2,At X.K α2 st2 H2 env2 σ2∧Ext X.K α st H α2 st2 H2∧zm3 (evalE C ic) (execSs C W ib) m env2 st2=.ok fl st',⟨W,env,α,st,at',.refl,e⟩,?_⟩
  rintro m σ2 H2 ⟨env2,α2,st2,at2,x2,e2⟩
  cases m with
  |zero=>cases e2
  | succ m =>
   rw[zm3]at e2
   obtain⟨k,st3,e3,e2⟩:=Res.bindB_inv e2
   refine⟨env2,α2,st2,k,st3,at2,e3,fun H3 α3 x3 r3=>?_⟩
   have at3:=at2.next x3 r3
   cases k with
   | false =>
    cases e2
    exact iteF (q σ2 H3 α3 (x2.trans x3) at3)
   | true =>
    refine iteT ?_
    have e2:((execSs C W ib env2 st3).bind fun f st2=>match f with |.next env2=>zm3 (evalE C ic) (execSs C W ib) m env2 st2 |.ret v=>.ok (.ret v) st2)=.ok fl st':=e2
    obtain⟨f,st4,e4,e2⟩:=Res.bind_inv e2
    refine⟨fun σ4 H4=>∃env4 α4 st4,At X.K α4 st4 H4 env4 σ4∧Ext X.K α st H α4 st4 H4∧zm3 (evalE C ic) (execSs C W ib) m env4 st4=.ok fl st',fun σ4 H4 h=>⟨m,Nat.lt_succ_self m,h⟩,env2,α3,st3,f,st4,at3,e4,?_⟩
    cases f with
    |next env4=>exact fun σ5 H5 α5 x5 at5=>⟨env4,α5,st4,at5,x2.trans (x3.trans x5),e2⟩
    | ret v =>
     cases e2
     exact fun w H5 α5 x5 r5 rv=>q w H5 α5 (x2.trans (x3.trans x5)) r5 rv
end
open PySem L2 PySem.SeqAt PyProof.Rows
open PySem.Builtin PySem.Builtin.Str
section
variable{X:Cx}{pins:List (Addr×Obj)}{σ:L2.St}{H:Hp}{s:Shared}{lv:Addr→Prop}
end
theorem yK3(i:Int):(Str.ofString (toString i))=txt (zC4 i):=by
 rw[Str.ofString_eq_toList]
 rfl
section
variable{X:Cx}
end
open PySem L2 PySem.SeqAt PyProof.Rows
section
variable{X:Cx}{elt iter tg:Expr}{ifs:List Expr}{scope:Scope}{pos:Pos}{N:List Str}{caps:List Nat}{n:Nat}{wi:TI}{g:TG}{tc:TT}{te:TE}
theorem yM2{i:Nat}{y:Str}{py spos:Pos}(hN:X.N.Nodup)(hyi:X.N[i]?=some y)(hyl:X.env.scope.names.lookup y=some .local)(hcalm:X.calm=true)(ok:zG8 X scope N caps n)(hi:PI X tg iter wi)
  (hg:∀cl s₀ H₀ ex pn,PG (zg9 X scope N cl s₀ H₀ ex pn) tg g) (ht:∀cl s₀ H₀ ex pn,PTs (zg9 X scope N cl s₀ H₀ ex pn) ifs tc) (he:∀cl s₀ H₀ ex pn,PE (zg9 X scope N cl s₀ H₀ ex pn) elt te)
  (hs:∀x,foldedSetIterable iter X.env x=pure x) (hsw:swapsWith (.ListComp elt [⟨tg,iter,ifs,0⟩] scope pos) (some (.Name y py)) spos.line X.env=pure true):PS X (.Assign [.Name y py] (.ListComp elt [⟨tg,iter,ifs,0⟩] scope pos) spos) (xl3 (yC3 X.K caps n wi g tc te) (yM7 i)):=by
 intro pins s σ H Dn I h
 have hcells:∀x∈scope.names,x.2=.free→∃c,X.env.cells.lookup x.1=some c:=fun x hx hf=>I.ok.has x.1 (ok.free x hx hf)
 obtain⟨cl,hclo,hcl,hclf⟩:=zK0 hcells
 rw[exec_Assign_Name_used _ _ _ _ hsw]
 refine wpAny_bind (wpAny_standAt (wpAny_bind ?_))
 show wpAny _ X.A (do let _ ←comprehension (.ListComp elt [⟨tg,iter,ifs,0⟩] scope pos) scope X.env _ (newList []) false (eval iter X.env) (some (assign (.Name y py) X.env))) _ _ s
 refine wpAny_bind (thn (wpAny_comprehension_free (use:=some (assign (.Name y py) X.env)) (Q:=fun _ s'=>∃σ' H',Inv X pins σ' H' s'∧Dn.nx σ' H') rfl hs hclo ok.kind ok.names (thn (hi pins s σ H _ I h) fun xv s1 h1=>thn h1 fun itv s2 h2=>?_)) fun _ s' hq=>wpAny_pure (wpAny_pure hq))
 obtain⟨it,fp,tn,J,H2,rfl,I2,T,st2,f2,q2⟩:=h2
 have hKD:X.K.lookup s2.heap.objs.size=none:=by
  cases e:X.K.lookup s2.heap.objs.size with
  |none=>rfl
  |some o=>exact absurd (Heap.lt_size (I2.kIn _ _ e)) (Nat.lt_irrefl _)
 obtain⟨W,⟨m0,w0⟩,turn⟩:=q2 s2.heap.objs.size I2.fresh hKD
 refine wpAny_newObj_type ?_
 have I3:Inv X pins σ (upd H2 s2.heap.objs.size (.lst [])) { s2 with heap:=s2.heap.push { cls:=.type "list", data:=.seq ([]:List Value).toArray },toks:=s2.toks }:=I2.lnew .nil (by decide)
 generalize hD:s2.heap.objs.size=D at *
 generalize hs3:({ s2 with heap:=s2.heap.push { cls:=.type "list", data:=.seq ([]:List Value).toArray },toks:=s2.toks }:Shared)=s3 at I3
 refine wpAny_newFunctionEnv ok.cell (by intro y hy;simp at hy) (fun h1 hns hsb=>?_) ok.kind
 have e3:s3.heap.objs.size=D+1:=by rw[←hs3,←hD];exact Heap.size_push _ _
 have hkept:∀b o,s3.heap.get? b=some o→h1.get? b=some o:=fun b o e=>(hsb.2 b (Nat.ne_of_lt (Heap.lt_size e))).trans (Heap.get?_push_of_some _ e)
 have h23:∀b o,s2.heap.get? b=some o→s3.heap.get? b=some o:=fun b o e=>by rw[←hs3];exact Heap.get?_push_of_some _ e
 have hfD:∀b∈fp,b<D:=fun b hb=>by
  obtain⟨o,e,_⟩:=T.obj 0 _ st2 b hb
  rw[←hD];exact Heap.lt_size e
 have f3:∀b∈fp,zZ2 X pins (upd H2 D (.lst [])) b:=fun b hb=>⟨by rw[zf5 (Nat.ne_of_lt (hfD b hb))];exact (f2 b hb).1,(f2 b hb).2⟩
 have kX:∀x,X.env.kindOf x=X.env.scope.names.lookup x:=fun x=>rfl
 have I4:Inv (zg9 X scope N cl s3 (upd H2 D (.lst [])) fp (X.pn++pins)) [] (capsσ caps n σ) (upd H2 D (.lst [])) { s3 with heap:=h1 }:=by
  refine ya3 I3 ok.kind hcl (fun x hx=>hclf (x,.free) (ok.back x hx) rfl) f3 (fun b hb=>by rw[e3];exact Nat.lt_succ_of_lt (hfD b hb)) (by simpa using hns) hkept ?_ (fun j x v e1 e2=>?_)
  ·unfold capsσ
   rw[List.length_append,List.length_map,List.length_replicate,ok.len]
  ·have hj:j<caps.length:=by
    by_cases hj:j<caps.length
    ·exact hj
    ·unfold capsσ at e2
     rw[List.getElem?_append_right (by simpa using hj),List.getElem?_replicate]at e2
     split at e2 <;> cases e2
   unfold capsσ at e2
   rw[List.getElem?_append_left (by simpa using hj),List.getElem?_map,List.getElem?_eq_getElem hj]at e2
   obtain⟨x',a1,a2,a3⟩:=ok.cap j caps[j] (List.getElem?_eq_getElem hj)
   rw[e1]at a1;cases a1
   have fr:=ok.free (x,.free) (zp4 a3) rfl
   obtain⟨k,b1,b2⟩:=ok.look x a3
   refine⟨caps[j],a2,?_,fr,?_,?_⟩
   ·have e2:(σ[caps[j]]?).join=some v:=Option.some.inj e2
    cases hσ:σ[caps[j]]? with
    |none=>rw[hσ]at e2;cases e2
    |some o=>rw[hσ]at e2;exact congrArg some e2
   ·rcases b2 with rfl |rfl
    ·exact .inl b1
    ·exact .inr b1
   ·rcases fr with z |z
    ·exact .inr (.inl z)
    ·exact .inr (.inr z)
 have fpc:∀{H':Hp},(∀b∈fp,H' b=none)→∀b∈fp,zZ2 (zg9 X scope N cl s3 (upd H2 D (.lst [])) fp (X.pn++pins)) [] H' b:=fun {H'} hn b hb=>by
  obtain⟨f0,f1,f2',f3',f4,f5⟩:=f3 b hb
  refine⟨hn b hb,Nat.ne_of_lt (show b<s3.heap.objs.size by rw[e3];exact Nat.lt_succ_of_lt (hfD b hb)),fun z=>?_,.inl hb,fun x c e=>f4 x c (hcl x c e),fun p hp=>f5 p (by have hp:p∈(X.pn++pins)++[]:=hp;rwa [List.append_nil]at hp)⟩
  rcases List.mem_cons.mp (I3.stkSub _ z)with e |e
  ·exact f1 e
  ·exact f2' e
 have st4:tn 0 h1:=T.keep 0 _ _ st2 fun b _ o e=>hkept b o (h23 b o e)
 have loop:∀s4:Shared,s4={ s3 with heap:=h1 }→codeAny (model X.prog X.w) X.A (.compLoop (.ListComp elt [⟨tg,iter,ifs,0⟩] scope pos) 0 (.ref it) (.ref D) (compEnvC scope cl s3.heap.objs.size X.env))
   (compPost (model X.prog X.w) X.A X.xe (some (assign (.Name y py) X.env)) (fun _ s'=>∃σ' H',Inv X pins σ' H' s'∧Dn.nx σ' H') (.ref D) s3.heap.objs.size) s4:=by
  rintro s4 rfl
  refine zT5 (fun m s'=>∃i σ' H' ys,Inv (zg9 X scope N cl s3 (upd H2 D (.lst [])) fp (X.pn++pins)) [] σ' H' s'∧tn i s'.heap∧(∀b∈fp,H' b=none)∧W i m σ' H' ys) ?_ m0 ⟨0,_,_,[],I4,st4,fun b hb=>(f3 b hb).1,w0⟩
  rintro m s5 ⟨i,σ5,H5,ys,I5,st5,fr5,w5⟩
  obtain⟨hDl,tu⟩:=turn i m σ5 H5 ys w5
  rcases tu with⟨stop,qn⟩|⟨go,hz,step⟩
  ·refine thn (T.done (zg9 X scope N cl s3 (upd H2 D (.lst [])) fp (X.pn++pins)) rfl rfl rfl hcalm i [] s5 σ5 H5 (fun _ _=>False) I5 (fpc fr5) st5 stop) fun r s6 h_=>?_
   obtain⟨hr,I6⟩:=h_
   subst hr
   obtain⟨mm,hmm,_⟩:=I6.loc
   have IX:Inv X pins σ H5 s6:=zK4 I3 I6 (Heap.SameBut.refl _ _) f3
   refine wpAny_assign_Name (zT8 IX hN hyi (.inl hyl) (v:=.ref D) (u:=.ref D) rfl (fun s7 I7 ⟨a7,hsb7,ha7⟩=>?_) (.inr hyl))
   have hC3:∀{o:Obj},s3.heap.get? s3.heap.objs.size=some o→False:=fun e=>absurd (Heap.lt_size e) (Nat.lt_irrefl _)
   have locL:X.env.locals<s3.heap.objs.size:=by
    obtain⟨m3,⟨o3,_,_,e3',_⟩,_⟩:=I3.loc
    exact Heap.lt_size e3'
   have cellL:∀{x:Str} {c:Addr},X.env.cells.lookup x=some c→c<s3.heap.objs.size:=fun {x c} e=>by
    obtain⟨v3,o3,e3',_⟩:=I3.cell x c e
    exact Heap.lt_size e3'
   have hne:s3.heap.objs.size≠a7:=by
    rcases ha7 with z |z
    ·rw[z];exact Nat.ne_of_gt locL
    ·exact Nat.ne_of_gt (cellL z)
   have fr7:H5 s3.heap.objs.size=none:=I6.free
   refine⟨mm,hmm.sameBut hsb7 hne,fun h' hb'=>⟨_,H5,?_,qn⟩⟩
   have st7:∀b o,b≠s3.heap.objs.size→s7.heap.get? b=some o→h'.get? b=some o:=fun b o hb e=>(hb'.2 b hb).trans e
   refine I7.call' (s':={ s7 with heap:=h' }) (ch:=[s3.heap.objs.size]) rfl ⟨fun b o e n hb hx=>st7 b o (by simpa using hx) e,fun b o e n hb hx=>⟨o.slots,st7 b o (by simpa using hx) e⟩,fun b o e n hx=>n,fun b o e hx=>⟨o,st7 b o (by simpa using hx) e⟩,fun _ _ e=>e,fun _ _ _ e=>e,fun _ ps e=>⟨#[],by rw[Array.append_empty];exact e⟩⟩ (fun b u e=>?_) I7.bare (fun b hb=>?_)
   ·refine (I7.hok b u e).stay (fun c v hc q=>st7 c v ?_ q) (fun _ q=>q) fun _ _ q=>q
    rintro rfl
    rcases hc with z |z
    ·rw[←z,fr7]at e;cases e
    ·rw[fr7]at z;cases z
   ·have eb:b=s3.heap.objs.size:=by simpa using hb
    subst eb
    refine⟨.inr (Nat.le_trans I3.ok.above (Nat.le_of_lt locL)),Nat.ne_of_gt locL,fun x c e=>Nat.ne_of_lt (cellL e),fun p hp e=>?_⟩
    have hpin:=(I3.pin p hp).1
    rw[e]at hpin
    exact hC3 hpin
  ·refine thn (T.item (zg9 X scope N cl s3 (upd H2 D (.lst [])) fp (X.pn++pins)) rfl rfl rfl hcalm i [] s5 σ5 H5 (fun _ _=>False) I5 (fpc fr5) st5 go) fun r s6 h_=>?_
   obtain⟨u,hr,h6⟩:=h_
   subst hr
   refine thn h6 fun _ s7 h_=>?_
   obtain⟨x,H7,I7,r7,y7,st7,fr7⟩:=h_
   have I7':=I7.pinned (fpc fr7) (T.obj _ _ st7)
   refine thn (hg _ _ _ _ _ _ s7 σ5 H7 x u _ I7' r7 (step x H7 y7)) fun _ s8 h_=>?_
   obtain⟨σ8,H8,I8,q8⟩:=h_
   refine thn (ht _ _ _ _ _ _ s8 σ8 H8 _ I8 q8) fun b s9 h_=>?_
   obtain⟨H9,I9,q9⟩:=h_
   have pinsK:∀{σ7:L2.St} {Hx:Hp} {sx:Shared},Inv (zg9 X scope N cl s3 (upd H2 D (.lst [])) fp (X.pn++pins)) ([]++zK1 fp s7.heap) σ7 Hx sx→tn (i+1) sx.heap∧∀b∈fp,Hx b=none:=fun Ix=>by
    refine⟨T.keep _ _ _ st7 fun b hb o e=>(Ix.pin (b,o) (List.mem_append_right _ (List.mem_append_right _ (zo3 hb e)))).1,fun b hb=>?_⟩
    obtain⟨o,e,d⟩:=T.obj _ _ st7 b hb
    exact (Ix.pin (b,o) (List.mem_append_right _ (List.mem_append_right _ (zo3 hb e)))).2.1
   cases b with
   | false =>
    obtain⟨m',hm,w9⟩:=q9
    exact⟨m',hm,i+1,σ8,H9,ys,I9.unpinned,(pinsK I9).1,(pinsK I9).2,w9⟩
   | true =>
    refine thn (he _ _ _ _ _ _ s9 σ8 H9 _ I9 q9) fun yv s10 h_=>?_
    obtain⟨y,H10,I10,r10,hD10,m',hm,w10⟩:=h_
    refine thn (zI5 _ s10 σ8 H10 (.ref D) [y] (.ref D) [yv] (fun v Hx=>v=.non∧Hx=upd H10 D (.lst (ys++[y]))) I10 rfl (.cons r10 .nil) ⟨D,ys,y,rfl,rfl,hD10,hz,rfl,rfl⟩) fun _ s11 h_=>?_
    obtain⟨_,H11,I11,_,_,e11⟩:=h_
    subst e11
    exact⟨m',hm,i+1,σ8,_,ys++[y],I11.unpinned,(pinsK I11).1,(pinsK I11).2,w10⟩
 exact codeAny_compStart_list (loop _ rfl) (T.self _ 0 _ _ _ st4 (loop _ rfl))
end
section
variable{X:Cx}{C:zc5}{W:Nat}{elt iter tg:Expr}{ifs:List Expr}{ielt:E}{it:It}{t:Tg}{scope:Scope}{pos:Pos}{N:List Str}{caps:List Nat}{n:Nat}
theorem yI6{i:Nat}{y:Str}{py spos:Pos}{cond:Option E}(hN:X.N.Nodup)(hyi:X.N[i]?=some y)(hyl:X.env.scope.names.lookup y=some .local)(hcalm:X.calm=true)(ok:zG8 X scope N caps n)(hi:SI X C tg iter it)
  (hg:∀cl s₀ H₀ ex pn,SG (zg9 X scope N cl s₀ H₀ ex pn) tg t) (ht:∀cl s₀ H₀ ex pn,PTs (zg9 X scope N cl s₀ H₀ ex pn) ifs (tTs X.K C cond)) (he:∀cl s₀ H₀ ex pn,SE (zg9 X scope N cl s₀ H₀ ex pn) C elt ielt)
  (hs:∀x,foldedSetIterable iter X.env x=pure x) (hsw:swapsWith (.ListComp elt [⟨tg,iter,ifs,0⟩] scope pos) (some (.Name y py)) spos.line X.env=pure true) :
  SS X C W (.Assign [.Name y py] (.ListComp elt [⟨tg,iter,ifs,0⟩] scope pos) spos) (.set i (.comp false ielt t it cond caps n)) :=
 PS.mono (yM2 (g:=tG X.K t) (te:=tP X.K C ielt) hN hyi hyl hcalm ok hi hg ht he hs hsw) fun D σ H h_=>by
  obtain⟨env,α,st,fl,st',at',e,q⟩:=h_
  rw[yt0]at e
  obtain⟨v,st1,e1,e⟩:=Res.bind_inv e
  cases e
  exact zT9 ⟨env,α,st,v,st',at',e1,fun w H1 α1 x1 r1 v1=>q _ H1 α1 x1 ((at'.next x1 r1).set v1)⟩
end
open PySem L2 PySem.SeqAt PyProof.Rows
section
variable{X:Cx}{C:zc5}{W:Nat}{elt iter tg:Expr}{ifs:List Expr}{ielt:E}{it:It}{t:Tg}{scope:Scope}{pos:Pos}{N:List Str}{caps:List Nat}{n:Nat}
end
open PySem L2 PySem.SeqAt PyProof.Rows
section
variable{X:Cx}
end
open PySem L2 PySem.SeqAt PyProof.Rows
section
variable{X:Cx}{C:zc5}{a b c:Expr}{ia ib ic:E}{pos:Pos}
theorem yX4(ha:SE X C a ia):SE X C (.UnaryOp .USub a pos) (.neg ia) :=
 PE.mono (xp8 xf7 ha) fun σ H Q h_=>by
  obtain⟨env,α,st,v,st',at',e,q⟩:=h_
  rw[yV1]at e
  obtain⟨va,x,st1,e1,hv,e⟩:=Res.bindV_inv e
  obtain⟨z,h1,h2,h3⟩:=zx5 e
  subst h2 h3
  refine⟨env,α,st,va,st',at',e1,fun w H1 α1 x1 r1 v1=>?_⟩
  cases x with
  | int i =>
   cases h1
   exact⟨i,(v1.view r1 hv).int,q _ H1 α1 x1 r1 (by show RP X.K H1 (zh4 α1 st') (.int (-i)) (.int (-i));rw[RP])⟩
  |_=>cases h1
theorem yv8{op op':CmpOp}{cop cop':Cop}(ho:Op2 X (compareOp op) (zo8 cop))(ho':Op2 X (compareOp op') (zo8 cop'))(hB:∀x y z,zo8 cop x y=some z→∃k,z=.bl k)(ha:SE X C a ia)(hb:SE X C b ib)(hc:SE X C c ic)
  (hm:lastMarks [op,op'] [b,c]=false):SE X C (.Compare a [op,op'] [b,c] pos) (.chain cop cop' ia ib ic) :=
 PE.mono (yv2 ho ho' ha hb hc hm) fun σ H Q ⟨env,α,st,k,st',at',e,q⟩=>yh3 rfl rfl at' e hB q
end
open PySem L2 PySem.SeqAt PyProof.Rows
section
variable{prog:Program}{w:World}{A:Around}{E:Value→Shared→Prop}{s:Shared}
end
section
variable{X:Cx}{C:zc5}{e:Expr}{ie:E}{pos p2 p3 p4:Pos}
end
open PySem L2 PySem.SeqAt PyProof.Rows
section
variable{X:Cx}{C:zc5}{o e:Expr}{io ie:E}{apos cpos:Pos}{pins:List (Addr×Obj)}{s:Shared}{σ:L2.St}{H:Hp}
end
open PySem PyProof.Rows
noncomputable abbrev KK2:=PyProof.Rows.KeyKind
structure SB(kd:SortKind)(z:Array Keyed)(P:Array (Nat×Nat×Nat))(st:SortSt):Prop where
 perm:(arrOf st).Perm z
 kind:kindOf st=kd
 ok:failedOf st=none
 pd:pendingOf st=P
theorem SB.sz{kd z P st}(h:SB kd z P st):(arrOf st).size=z.size:=h.perm.size_eq
theorem SB.set{kd z P st}{ys:Array Keyed}(h:SB kd z P st)(p:ys.Perm (arrOf st)):SB kd z P (setArr st ys):=⟨p.trans h.perm,h.kind,h.ok,h.pd⟩
theorem zT6{κ:KK2}{x y:Array Keyed}(p:x.Perm y)(h:KeysOf κ y):KeysOf κ x:=fun q hq=>h q ((Array.perm_iff_toList_perm.mp p).mem_iff.mp hq)
theorem yu3{κ:KK2}{x:Array Keyed}(h:KeysOf κ x){i:Nat}(hi:i<x.size):∃p,x[i]?=some p∧κ.keyOf p.1=some (KK κ x i):=by
 have e:x[i]?=some x[i]:=getElem?_pos x i hi
 obtain⟨a,ha⟩:=h x[i] (by simp)
 refine⟨x[i],e,?_⟩
 unfold KK
 rw[e]
 dsimp only
 rw[ha];rfl
def yu9(prog:Program)(w:World)(A:Around)(s:Shared)(κ:KK2)(kd:SortKind):Prop :=
 ∀(x y:Value) (a b:κ.α) (E:Value→Shared→Prop) (Q:Bool→Shared→Prop),κ.keyOf x=some a→κ.keyOf y=some b→Q (κ.blt a b) s→wpAny (model prog w) A (keyLt' kd x y) Q E s
def Seg(κ:KK2)(x:Array Keyed)(lo n:Nat):Prop:=∀i j,i≤j→j<n→κ.kle (KK κ x (lo+i)) (KK κ x (lo+j))
def Fal(κ:KK2)(x:Array Keyed)(lo n:Nat):Prop:=∀i j,i≤j→j<n→κ.kle (KK κ x (lo+j)) (KK κ x (lo+i))
def Low(lo:Nat)(x y:Array Keyed):Prop:=∀i,i<lo→y[i]?=x[i]?
theorem Low.refl{lo:Nat}{x:Array Keyed}:Low lo x x:=fun _ _=>rfl
theorem Low.trans{lo:Nat}{x y z:Array Keyed}(a:Low lo x y)(b:Low lo y z):Low lo x z:=fun i h=>(b i h).trans (a i h)
theorem Low.mirror{lo i j:Nat}{x:Array Keyed}(hi:lo≤i)(hj:j≤x.size):Low lo x (mirror x i j ((j-i)/2)):=fun k h=>by
 rw[getElem?_mirror_all hj,if_neg (by lia)]
theorem Low.bubble{lo k d:Nat}{x:Array Keyed}(hk:k<x.size)(hd:d≤k)(h:lo≤k-d):Low lo x (bubble x k d):=fun i hi=>by
 rw[getElem?_bubble hk d hd,if_neg (by lia),if_neg (by lia)]
theorem Seg.one{κ:KK2}{x:Array Keyed}{lo n:Nat}(h:n≤1):Seg κ x lo n:=fun i j a b=>by
 have:i=j:=by lia
 subst this;exact KeyOrd.kle_refl _
section
variable{prog:Program}{w:World}{A:Around}{E:Value→Shared→Prop}{s:Shared}{κ:KK2}{kd:SortKind}{z:Array Keyed}{P:Array (Nat×Nat×Nat)}
theorem lt_w{st:SortSt}{p q:Keyed}{a b:κ.α}{Q:Option Bool→SortSt→Prop}(hL:yu9 prog w A s κ kd)(hk:kindOf st=kd)(ha:κ.keyOf p.1=some a)(hb:κ.keyOf q.1=some b)(h:Q (some (κ.blt a b)) st):
  wpS (model prog w) A E s (lt' p q) Q st:=by
 rw[lt'_eq]
 refine wpS_bind (wpS_get ?_)
 rw[hk]
 refine wpS_bind (wpS_lift (wpAny_attempt (hL _ _ _ _ _ _ ha hb ⟨rfl,?_⟩)))
 exact wpS_pure h
theorem el_w{st:SortSt}{x:Array Keyed}{i:Nat}{p:Keyed}{Q:Keyed→SortSt→Prop}(e:x[i]?=some p)(h:Q p st):wpS (model prog w) A E s (elem' x i) Q st:=by
 rw[elem'_eq,e];exact wpS_pure h
theorem zP5{st:SortSt}{i j:Nat}{Q:Option Bool→SortSt→Prop}(hL:yu9 prog w A s κ kd)(hz:KeysOf κ z)(hB:SB kd z P st)(hi:i<z.size)(hj:j<z.size)
  (h:Q (some (κ.blt (KK κ (arrOf st) i) (KK κ (arrOf st) j))) st):wpS (model prog w) A E s (ltAt' i j) Q st:=by
 obtain⟨p,e1,h1⟩:=yu3 (zT6 hB.perm hz) (show i<(arrOf st).size by rw[hB.sz];exact hi)
 obtain⟨q,e2,h2⟩:=yu3 (zT6 hB.perm hz) (show j<(arrOf st).size by rw[hB.sz];exact hj)
 rw[ltAt'_eq]
 refine wpS_bind (wpS_get ?_)
 exact wpS_bind (el_w e1 (wpS_bind (el_w e2 (lt_w hL hB.kind h1 h2 h))))
theorem yw0{st:SortSt}{i j:Nat}{Q:Unit→SortSt→Prop}(h:Q () (setArr st (mirror (arrOf st) i j ((j-i)/2)))):wpS (model prog w) A E s (reverseSlice' i j) Q st:=by
 rw[reverseSlice'_eq];exact wpS_modify h
end
noncomputable abbrev R1:=Option (Option Nat)×Nat
noncomputable abbrev R2:=Option (Option Nat)×Nat×Nat
noncomputable def asc(lo a nrem:Nat):StateT SortSt Sem R1 :=
 forIn [a:nrem] ((none,a):R1) fun _ c=>do
  let x ←ltAt' (lo+c.2) (lo+c.2-1)
  match x with
  |some smaller=>if smaller=true then pure (ForInStep.done (none,c.2))else pure (ForInStep.yield (none,c.2+1))
  |_=>pure (ForInStep.done (some none,c.2))
noncomputable def ys8(lo n nrem:Nat):StateT SortSt Sem (Option Nat):=do
 reverseSlice' lo (lo+n)
 let c ←asc lo n nrem
 match c.1 with
 |some r=>pure r
 |none=>pure (some c.2)
noncomputable def xk2(lo n nrem:Nat):StateT SortSt Sem R2 :=
 forIn [n:nrem] ((none,n,0):R2) fun _ c=>do
  let x ←ltAt' (lo+c.2.1) (lo+c.2.1-1)
  match x with
  | some smaller =>
   if smaller=true then
    if c.2.2 > 0 then do
     reverseSlice' (lo+c.2.1-(c.2.2+1)) (lo+c.2.1)
     pure (ForInStep.yield (none,c.2.1+1,0))
    else pure (ForInStep.yield (none,c.2.1+1,0))
   else do
    let y ←ltAt' (lo+c.2.1-1) (lo+c.2.1)
    match y with
    |some larger=>if larger=true then pure (ForInStep.done (none,c.2.1,c.2.2))else pure (ForInStep.yield (none,c.2.1+1,c.2.2+1))
    |_=>pure (ForInStep.done (some none,c.2.1,c.2.2))
  |_=>pure (ForInStep.done (some none,c.2.1,c.2.2))
noncomputable def yt5(lo n nrem:Nat):StateT SortSt Sem (Option Nat):=do
 liftM (rule "list.sort.descending-run")
 let c ←xk2 lo (n+1) nrem
 match c.1 with
 |some r=>pure r
 | none =>
  if c.2.2 > 0 then do
   reverseSlice' (lo+c.2.1-(c.2.2+1)) (lo+c.2.1)
   ys8 lo c.2.1 nrem
  else ys8 lo c.2.1 nrem
theorem zd7{α β:Type}{m m':StateT SortSt Sem α}{f g:α→StateT SortSt Sem β}(e:m=m')(h:∀a,f a=g a):(m >>= f)=(m' >>= g):=by
 subst e
 rw[funext h]
theorem yT2(lo nrem:Nat):countRun' lo nrem=(do
  let c ←asc lo 1 nrem
  match c.1 with
  |some r=>pure r
  | none =>
   if (c.2==nrem)=true then pure (some c.2)
   else if c.2 > 1 then do
    let x ←ltAt' lo (lo+c.2-1)
    match x with
    | some rose=>if rose=true then pure (some c.2)else do
      reverseSlice' lo (lo+c.2)
      yt5 lo c.2 nrem
    |_=>pure none
   else yt5 lo c.2 nrem):=by
 rw[countRun'_eq]
 unfold yt5 ys8 xk2 asc
 refine zd7 rfl fun c=>?_
 obtain⟨r,n⟩:=c
 cases r with
 |some r=>rfl
 | none =>
  dsimp only
  split
  ·rfl
  ·split
   ·refine zd7 rfl fun x=>?_
    cases x with
    |none=>rfl
    | some rose =>
     dsimp only
     split
     ·rfl
     ·refine zd7 rfl fun u=>?_
      refine zd7 rfl fun _=>zd7 rfl fun c=>?_
      obtain⟨r2,n2,q2⟩:=c
      cases r2 with
      |some r2=>rfl
      | none =>
       dsimp only
       split
       ·exact zd7 rfl fun _=>zd7 rfl fun _=>zd7 rfl fun c=>(by obtain⟨r3,n3⟩:=c;cases r3 <;> rfl)
       ·exact zd7 rfl fun _=>zd7 rfl fun c=>(by obtain⟨r3,n3⟩:=c;cases r3 <;> rfl)
   ·refine zd7 rfl fun _=>zd7 rfl fun c=>?_
    obtain⟨r2,n2,q2⟩:=c
    cases r2 with
    |some r2=>rfl
    | none =>
     dsimp only
     split
     ·exact zd7 rfl fun _=>zd7 rfl fun _=>zd7 rfl fun c=>(by obtain⟨r3,n3⟩:=c;cases r3 <;> rfl)
     ·exact zd7 rfl fun _=>zd7 rfl fun c=>(by obtain⟨r3,n3⟩:=c;cases r3 <;> rfl)
open PySem PyProof.Rows
section
variable{prog:Program}{w:World}{A:Around}{E:Value→Shared→Prop}{s:Shared}{κ:KK2}{kd:SortKind}{z:Array Keyed}{P:Array (Nat×Nat×Nat)}{lo nrem:Nat}
theorem xe5{st:SortSt}{a:Nat}{Q:R1→SortSt→Prop}(hL:yu9 prog w A s κ kd)(hz:KeysOf κ z)(hn:lo+nrem≤z.size)(a1:1≤a)(a2:a≤nrem)(hB:SB kd z P st)(hs:Seg κ (arrOf st) lo a)
  (h:∀n,a≤n→n≤nrem→Seg κ (arrOf st) lo n→(n=nrem∨κ.klt (KK κ (arrOf st) (lo+n)) (KK κ (arrOf st) (lo+n-1)))→Q (none,n) st):wpS (model prog w) A E s (asc lo a nrem) Q st:=by
 unfold asc
 refine wpS_forRange (I:=fun x c st'=>st'=st∧c=(none,x)∧Seg κ (arrOf st) lo x) ?_ ?_ ⟨rfl,rfl,hs⟩
 ·rintro x c st' b1 b2 ⟨rfl,rfl,g⟩
  dsimp only
  refine wpS_bind (zP5 hL hz hB (by lia) (by lia) ?_)
  cases e:κ.blt (KK κ (arrOf st') (lo+x)) (KK κ (arrOf st') (lo+x-1))with
  |true=>exact wpS_pure (h x b1 (by lia) g (.inr e))
  | false =>
   refine wpS_pure ⟨rfl,rfl,fun i j u v=>?_⟩
   by_cases c:j<x
   ·exact g i j u c
   ·obtain rfl:j=x:=by lia
    by_cases d:i=j
    ·subst d;exact KeyOrd.kle_refl _
    ·refine KeyOrd.kle_trans (g i (j-1) (by lia) (by lia)) ?_
     rw[show lo+(j-1)=lo+j-1 by lia]
     exact e
 ·rintro c st' ⟨rfl,rfl,g⟩
  rw[show max a nrem=nrem by lia]at g ⊢
  exact h nrem a2 (Nat.le_refl _) g (.inl rfl)
def xi8(κ:KK2)(kd:SortKind)(z:Array Keyed)(P:Array (Nat×Nat×Nat))(lo nrem:Nat)(x:Array Keyed)(Q:Option Nat→SortSt→Prop):Prop :=
 ∀m st',SB kd z P st'→1≤m→m≤nrem→Seg κ (arrOf st') lo m→Low lo x (arrOf st')→Q (some m) st'
theorem yE8{st:SortSt}{n:Nat}{Q:Option Nat→SortSt→Prop}(hL:yu9 prog w A s κ kd)(hz:KeysOf κ z)(hn:lo+nrem≤z.size)(n1:1≤n)(n2:n≤nrem)(hB:SB kd z P st)(hf:Fal κ (arrOf st) lo n)(h:xi8 κ kd z P lo nrem (arrOf st) Q):
  wpS (model prog w) A E s (ys8 lo n nrem) Q st:=by
 unfold ys8
 have hj:lo+n≤(arrOf st).size:=by rw[hB.sz];lia
 refine wpS_bind (yw0 ?_)
 have hB':SB kd z P (setArr st (mirror (arrOf st) lo (lo+n) ((lo+n-lo)/2))):=hB.set (mirror_perm _ _ _ _)
 refine wpS_bind (xe5 hL hz hn n1 n2 hB' ?_ fun m m1 m2 g _=>wpS_pure (h m _ hB' (by lia) m2 g (Low.mirror (Nat.le_refl _) hj)))
 intro i j u v
 show κ.kle (KK κ (mirror (arrOf st) lo (lo+n) ((lo+n-lo)/2)) (lo+i)) (KK κ (mirror (arrOf st) lo (lo+n) ((lo+n-lo)/2)) (lo+j))
 rw[KK_mirror hj,KK_mirror hj,if_pos (by lia),if_pos (by lia),show lo+(lo+n)-1-(lo+i)=lo+(n-1-i)by lia,show lo+(lo+n)-1-(lo+j)=lo+(n-1-j)by lia]
 exact hf _ _ (by lia) (by lia)
theorem zF2{x:Array Keyed}{n q:Nat}(hj:lo+n≤x.size)(hq:q+1≤n)(he:∀i,n-(q+1)≤i→i<n→KK κ x (lo+i)=KK κ x (lo+n-1))(k:Nat):
  KK κ (mirror x (lo+n-(q+1)) (lo+n) ((lo+n-(lo+n-(q+1)))/2)) k=KK κ x k :=
 KK_mirror_equal hj (fun k k1 k2=>by
  have:=he (k-lo) (by lia) (by lia)
  rw[show lo+(k-lo)=k by lia]at this
  exact this) k
theorem xd6{st:SortSt}{n:Nat}{Q:R2→SortSt→Prop}(hL:yu9 prog w A s κ kd)(hz:KeysOf κ z)(hn:lo+nrem≤z.size)(n1:1≤n)(n2:n≤nrem)(hB:SB kd z P st)(hf:Fal κ (arrOf st) lo n)
  (h:∀m q st',SB kd z P st'→n≤m→m≤nrem→Fal κ (arrOf st') lo m→q+1≤m→(∀i,m-(q+1)≤i→i<m→KK κ (arrOf st') (lo+i)=KK κ (arrOf st') (lo+m-1))→Low lo (arrOf st) (arrOf st')→Q (none,m,q) st') :
  wpS (model prog w) A E s (xk2 lo n nrem) Q st:=by
 unfold xk2
 refine wpS_forRange (I:=fun x c st'=>∃q,c=(none,x,q)∧SB kd z P st'∧Fal κ (arrOf st') lo x∧q+1≤x∧(∀i,x-(q+1)≤i→i<x→KK κ (arrOf st') (lo+i)=KK κ (arrOf st') (lo+x-1))∧Low lo (arrOf st) (arrOf st')) ?_ ?_ ⟨0,rfl,hB,hf,by lia,fun i u v=>by congr 1;lia,Low.refl⟩
 ·rintro x c st' b1 b2 ⟨q,rfl,hB',g,hq,he,hl⟩
  dsimp only
  have hj:lo+x≤(arrOf st').size:=by rw[hB'.sz];lia
  refine wpS_bind (zP5 hL hz hB' (by lia) (by lia) ?_)
  cases e:κ.blt (KK κ (arrOf st') (lo+x)) (KK κ (arrOf st') (lo+x-1))with
  | true =>
   have up:∀y:Array Keyed,(∀k,KK κ y k=KK κ (arrOf st') k)→Fal κ y lo (x+1):=by
    intro y hy i j u v
    rw[hy,hy]
    by_cases c:j<x
    ·exact g i j u c
    ·obtain rfl:j=x:=by lia
     by_cases d:i=j
     ·subst d;exact KeyOrd.kle_refl _
     ·refine KeyOrd.kle_trans (KeyOrd.kle_of_klt e) ?_
      rw[show lo+j-1=lo+(j-1)by lia]
      exact g i (j-1) (by lia) (by lia)
   dsimp only
   rw[if_pos rfl]
   by_cases c:q > 0
   ·rw[if_pos c]
    refine wpS_bind (yw0 (wpS_pure ⟨0,rfl,hB'.set (mirror_perm _ _ _ _),up _ (zF2 hj hq he),by lia,fun i u v=>by congr 1;lia,hl.trans (Low.mirror (by lia) hj)⟩))
   ·rw[if_neg c]
    exact wpS_pure ⟨0,rfl,hB',up _ (fun _=>rfl),by lia,fun i u v=>by congr 1;lia,hl⟩
  | false =>
   dsimp only
   rw[if_neg (by decide)]
   refine wpS_bind (zP5 hL hz hB' (by lia) (by lia) ?_)
   cases e2:κ.blt (KK κ (arrOf st') (lo+x-1)) (KK κ (arrOf st') (lo+x))with
   |true=>exact wpS_pure (h x q st' hB' b1 (by lia) g hq he hl)
   | false =>
    have ee:KK κ (arrOf st') (lo+x)=KK κ (arrOf st') (lo+x-1):=KeyOrd.kle_antisymm e2 e
    refine wpS_pure ⟨q+1,rfl,hB',fun i j u v=>?_,by lia,fun i u v=>?_,hl⟩
    ·by_cases c:j<x
     ·exact g i j u c
     ·obtain rfl:j=x:=by lia
      by_cases d:i=j
      ·subst d;exact KeyOrd.kle_refl _
      ·rw[ee,show lo+j-1=lo+(j-1)by lia]
       exact g i (j-1) (by lia) (by lia)
    ·rw[show lo+(x+1)-1=lo+x by lia]
     by_cases d:i=x
     ·subst d;rfl
     ·rw[ee];exact he i (by lia) (by lia)
 ·rintro c st' ⟨q,rfl,hB',g,hq,he,hl⟩
  rw[show max n nrem=nrem by lia]at g hq he ⊢
  exact h nrem q st' hB' n2 (Nat.le_refl _) g hq he hl
theorem yn7{st:SortSt}{n:Nat}{Q:Option Nat→SortSt→Prop}(hL:yu9 prog w A s κ kd)(hz:KeysOf κ z)(hn:lo+nrem≤z.size)(n2:n+1≤nrem)(hB:SB kd z P st)(hf:Fal κ (arrOf st) lo (n+1))(h:xi8 κ kd z P lo nrem (arrOf st) Q):
  wpS (model prog w) A E s (yt5 lo n nrem) Q st:=by
 unfold yt5
 refine wpS_bind (wpS_lift (wpAny_rule ⟨rfl,?_⟩))
 refine wpS_bind (xd6 hL hz hn (by lia) n2 hB hf fun m q st' hB' m1 m2 g hq he hl=>?_)
 dsimp only
 have hj:lo+m≤(arrOf st').size:=by rw[hB'.sz];lia
 have h':xi8 κ kd z P lo nrem (arrOf st') Q:=fun k st2 a b c d f=>h k st2 a b c d (hl.trans f)
 by_cases c:q > 0
 ·rw[if_pos c]
  refine wpS_bind (yw0 (yE8 hL hz hn (by lia) m2 (hB'.set (mirror_perm _ _ _ _)) ?_ fun k st2 a b c d f=>h' k st2 a b c d ((Low.mirror (by lia) hj).trans f)))
  intro i j u v
  show κ.kle (KK κ (mirror (arrOf st') _ _ _) (lo+j)) (KK κ (mirror (arrOf st') _ _ _) (lo+i))
  rw[zF2 hj hq he,zF2 hj hq he]
  exact g i j u v
 ·rw[if_neg c]
  exact yE8 hL hz hn (by lia) m2 hB' g h'
theorem xu2{st:SortSt}{Q:Option Nat→SortSt→Prop}(hL:yu9 prog w A s κ kd)(hz:KeysOf κ z)(hn:lo+nrem≤z.size)(n1:1≤nrem)(hB:SB kd z P st)(h:xi8 κ kd z P lo nrem (arrOf st) Q):
  wpS (model prog w) A E s (countRun' lo nrem) Q st:=by
 rw[yT2]
 refine wpS_bind (xe5 hL hz hn (Nat.le_refl 1) n1 hB (Seg.one (Nat.le_refl _)) fun n m1 m2 g ho=>?_)
 dsimp only
 by_cases c:n=nrem
 ·rw[if_pos (by simpa using c)]
  exact wpS_pure (h n st hB m1 m2 g Low.refl)
 ·rw[if_neg (by simpa using c)]
  have hlt:=ho.resolve_left c
  have hj:lo+n≤(arrOf st).size:=by rw[hB.sz];lia
  by_cases c1:n > 1
  ·rw[if_pos c1]
   refine wpS_bind (zP5 hL hz hB (by lia) (by lia) ?_)
   cases e:κ.blt (KK κ (arrOf st) lo) (KK κ (arrOf st) (lo+n-1))with
   |true=>exact wpS_pure (h n st hB m1 m2 g Low.refl)
   | false =>
    dsimp only
    rw[if_neg (by decide)]
    have al:∀i,i<n→KK κ (arrOf st) (lo+i)=KK κ (arrOf st) (lo+n-1):=by
     intro i hi
     have u1:=g 0 i (by lia) hi
     have u2:=g i (n-1) (by lia) (by lia)
     rw[show lo+(n-1)=lo+n-1 by lia]at u2
     exact KeyOrd.kle_antisymm u2 (KeyOrd.kle_trans e u1)
    have me:∀k,KK κ (mirror (arrOf st) lo (lo+n) ((lo+n-lo)/2)) k=KK κ (arrOf st) k:=KK_mirror_equal hj fun k k1 k2=>by
     have:=al (k-lo) (by lia)
     rw[show lo+(k-lo)=k by lia]at this
     exact this
    refine wpS_bind (yw0 (yn7 hL hz hn (by lia) (hB.set (mirror_perm _ _ _ _)) ?_ fun k st2 a b c d f=>h k st2 a b c d ((Low.mirror (Nat.le_refl _) hj).trans f)))
    intro i j u v
    show κ.kle (KK κ (mirror (arrOf st) _ _ _) (lo+j)) (KK κ (mirror (arrOf st) _ _ _) (lo+i))
    rw[me,me]
    by_cases c2:j<n
    ·rw[al i (by lia),al j c2];exact KeyOrd.kle_refl _
    ·obtain rfl:j=n:=by lia
     by_cases d:i=j
     ·subst d;exact KeyOrd.kle_refl _
     ·rw[al i (by lia)];exact KeyOrd.kle_of_klt hlt
  ·rw[if_neg c1]
   obtain rfl:n=1:=by lia
   refine yn7 hL hz hn (by lia) hB ?_ h
   intro i j u v
   by_cases d:i=j
   ·subst d;exact KeyOrd.kle_refl _
   ·obtain rfl:i=0:=by lia
    obtain rfl:j=1:=by lia
    exact KeyOrd.kle_of_klt hlt
end
open PySem PyProof.Rows
section
variable{prog:Program}{w:World}{A:Around}{E:Value→Shared→Prop}{s:Shared}{κ:KK2}{kd:SortKind}{z:Array Keyed}{P:Array (Nat×Nat×Nat)}{lo:Nat}
theorem xr8{st:SortSt}{n ok:Nat}{Q:Bool→SortSt→Prop}(hL:yu9 prog w A s κ kd)(hz:KeysOf κ z)(hn:lo+n≤z.size)(hok:ok≤n)(hB:SB kd z P st)(hs:Seg κ (arrOf st) lo ok)
  (h:∀st',SB kd z P st'→Seg κ (arrOf st') lo n→Low lo (arrOf st) (arrOf st')→Q true st'):wpS (model prog w) A E s (binarySort' lo n ok) Q st:=by
 rw[binarySort'_eq]
 refine wpS_bind (wpS_mono (wpS_forRange (I:=fun k c st'=>c=(none,())∧SB kd z P st'∧Seg κ (arrOf st') lo (min k n)∧Low lo (arrOf st) (arrOf st'))
  (Q:=fun c st'=>c=(none,())∧SB kd z P st'∧Seg κ (arrOf st') lo n∧Low lo (arrOf st) (arrOf st')) ?t ?f ?i) ?p)
 case p =>
  rintro c st' ⟨rfl,a,b,d⟩
  exact wpS_pure (h st' a b d)
 case i =>
  refine⟨rfl,hB,?_,Low.refl⟩
  by_cases c:ok=0
  ·exact Seg.one (by lia)
  ·rw[show min (max ok 1) n=ok by lia];exact hs
 case f =>
  rintro c st' ⟨e,a,b,d⟩
  rw[show min (max (max ok 1) n) n=n by lia]at b
  exact⟨e,a,b,d⟩
 case t =>
  rintro k c st' k1 k2 ⟨rfl,hB',g,hl⟩
  rw[show min k n=k by lia]at g
  refine wpS_bind (wpS_mono (wpS_forRange (I:=fun x c st2=>st2=st'∧∃l r,c=(none,l,r)∧l≤r∧r≤k∧r-l≤k-x∧(∀i,i<l→κ.kle (KK κ (arrOf st') (lo+i)) (KK κ (arrOf st') (lo+k)))∧(∀i,r≤i→i<k→κ.klt (KK κ (arrOf st') (lo+k)) (KK κ (arrOf st') (lo+i))))
   (Q:=fun c st2=>st2=st'∧∃l r,c=(none,l,r)∧l≤k∧(∀i,i<l→κ.kle (KK κ (arrOf st') (lo+i)) (KK κ (arrOf st') (lo+k)))∧(∀i,l≤i→i<k→κ.klt (KK κ (arrOf st') (lo+k)) (KK κ (arrOf st') (lo+i)))) ?t2 ?f2 ?i2) ?p2)
  case i2=>exact⟨rfl,0,k,rfl,by lia,by lia,by lia,fun i u=>by lia,fun i u v=>by lia⟩
  case f2 =>
   rintro c st2 ⟨rfl,l,r,rfl,a,b,d,e,f⟩
   obtain rfl:l=r:=by lia
   exact⟨rfl,l,l,rfl,b,e,f⟩
  case t2 =>
   rintro x c st2 _ x2 ⟨rfl,l,r,rfl,a,b,d,e,f⟩
   dsimp only
   by_cases c:l ≥ r
   ·rw[if_pos c]
    obtain rfl:l=r:=by lia
    exact wpS_pure ⟨rfl,l,l,rfl,b,e,f⟩
   ·rw[if_neg c]
    refine wpS_bind (zP5 hL hz hB' (by lia) (by lia) ?_)
    cases q:κ.blt (KK κ (arrOf st2) (lo+k)) (KK κ (arrOf st2) (lo+(l+r)/2))with
    |true=>exact wpS_pure ⟨rfl,l,(l+r)/2,rfl,by lia,by lia,by lia,e,fun i u v=>KeyOrd.klt_of_klt_of_kle q (g _ _ u v)⟩
    |false=>exact wpS_pure ⟨rfl,(l+r)/2+1,r,rfl,by lia,by lia,by lia,fun i u=>KeyOrd.kle_trans (g i ((l+r)/2) (by lia) (by lia)) q,f⟩
  case p2 =>
   rintro c st2 ⟨rfl,l,r,rfl,a,e,f⟩
   show wpS _ _ _ _ (do moveDown' (lo+k) (lo+l);pure (ForInStep.yield (none,()))) _ _
   rw[moveDown'_eq]
   have hk:lo+k<(arrOf st2).size:=by rw[hB'.sz];lia
   refine wpS_bind (wpS_modify (wpS_pure ⟨rfl,hB'.set (bubble_perm _ _ _),?_,hl.trans (Low.bubble hk (by lia) (by lia))⟩))
   rw[show min (k+1) n=k+1 by lia]
   intro i j u v
   show κ.kle (KK κ (bubble (arrOf st2) (lo+k) (lo+k-(lo+l))) (lo+i)) (KK κ (bubble (arrOf st2) (lo+k) (lo+k-(lo+l))) (lo+j))
   rw[KK_bubble hk (by lia),KK_bubble hk (by lia),show lo+k-(lo+k-(lo+l))=lo+l by lia]
   have e1:∀i,l<i→lo+i-1=lo+(i-1):=fun i _=>by lia
   repeat' split
   all_goals first
    |(exfalso;lia)
    |exact KeyOrd.kle_refl _
    |(rw[e1 i (by lia),e1 j (by lia)];exact g _ _ (by lia) (by lia))
    |(rw[e1 j (by lia)];exact KeyOrd.kle_of_klt (f _ (by lia) (by lia)))
    |(rw[e1 j (by lia)];exact g _ _ (by lia) (by lia))
    |exact e _ (by lia)
    |exact g _ _ (by lia) (by lia)
end
open PySem PyProof.Rows
section
variable{prog:Program}{w:World}{A:Around}{E:Value→Shared→Prop}{s:Shared}{κ:KK2}{kd:SortKind}
end
open PySem PyProof.Rows
section
variable{κ:KK2}{a b:Array Keyed}
noncomputable def kf(κ:KK2)(p:Keyed):κ.α:=(κ.keyOf p.1).getD κ.dflt
def Sd(κ:KK2)(l:List Keyed):Prop:=l.Pairwise fun p q=>κ.kle (kf κ p) (kf κ q)
theorem xc0{x:Array Keyed}{i:Nat}{p:Keyed}(e:x[i]?=some p):kf κ p=KK κ x i:=by unfold kf KK;rw[e]
theorem Seg.sd{x:Array Keyed}(h:Seg κ x 0 x.size):Sd κ x.toList:=by
 refine List.pairwise_iff_getElem.mpr fun i j hi hj hij=>?_
 have:=h i j (Nat.le_of_lt hij) (by simpa using hj)
 rw[Nat.zero_add,Nat.zero_add]at this
 rw[xc0 (i:=i) (x:=x) (by simp at hi;rw[getElem?_pos x i hi];rfl),xc0 (i:=j) (x:=x) (by simp at hj;rw[getElem?_pos x j hj];rfl)]
 exact this
end
open PySem PyProof.Rows
section
variable{prog:Program}{w:World}{A:Around}{E:Value→Shared→Prop}{s:Shared}{κ:KK2}{kd:SortKind}
end
open PySem PyProof.Rows
section
variable{κ:KK2}{a b:Array Keyed}
end
section
variable{prog:Program}{w:World}{A:Around}{E:Value→Shared→Prop}{s:Shared}{κ:KK2}{kd:SortKind}
end
open PySem PyProof.Rows
section
variable{κ:KK2}
end
open PySem PyProof.Rows
section
variable{prog:Program}{w:World}{A:Around}{E:Value→Shared→Prop}{s:Shared}{κ:KK2}{kd:SortKind}{z:Array Keyed}
end
open PySem PyProof.Rows
theorem yI9{n:Nat}(h2:2≤n)(h:n<64):minRun' n n 0=n:=by
 obtain⟨f,rfl⟩:∃f,n=f+2:=⟨n-2,by lia⟩
 rw[minRun'_succ,if_pos h]
section
variable{prog:Program}{w:World}{A:Around}{E:Value→Shared→Prop}{s:Shared}{κ:KK2}{kd:SortKind}{z:Array Keyed}
theorem zF8{M:Model}{α:Type}{p:Prop}[Decidable p]{t e:StateT SortSt Sem α}{Q:α→SortSt→Prop}{st:SortSt}(h1:p→wpS M A E s t Q st)(h2:¬p→wpS M A E s e Q st):wpS M A E s (if p then t else e) Q st:=by
 by_cases c:p
 ·rw[if_pos c];exact h1 c
 ·rw[if_neg c];exact h2 c
inductive Ph(κ:KK2)(kd:SortKind)(z:Array Keyed):Nat→Nat→SortSt→Prop where
 |none {st:SortSt} (b:SB kd z #[] st):Ph κ kd z 0 0 st
 |all {st:SortSt} {x:Nat} {P:Array (Nat×Nat×Nat)} (b:SB kd z P st) (p:P.size=1) (s1:Seg κ (arrOf st) 0 z.size) (hx:1≤x):Ph κ kd z x z.size st
theorem Ph.first{n:Nat}{st:SortSt}(b:SB kd z #[] st)(g:Seg κ (arrOf st) 0 n)(h:n=z.size):Ph κ kd z 1 n (setPending st ((pendingOf st).push (0,n,0))):=by
 have e:(pendingOf st).push (0,n,0)=#[(0,n,0)]:=by rw[b.pd];rfl
 subst h
 exact .all ⟨b.perm,b.kind,b.ok,e⟩ rfl g (Nat.le_refl _)
theorem Ph.fin{x lo:Nat}{st:SortSt}(p:Ph κ kd z x lo st)(h2:2≤z.size)(hx:z.size≤x):lo=z.size:=by
 cases p with
 |none b=>lia
 |all b p s1 hx'=>rfl
theorem yU6{st:SortSt}{Q:Unit→SortSt→Prop}(hL:yu9 prog w A s κ kd)(hz:KeysOf κ z)(hB:SB kd z #[] st)(h2:2≤z.size)(h64:z.size<64)
  (h:∀st',(arrOf st').Perm z→failedOf st'=none→Seg κ (arrOf st') 0 z.size→Q () st'):wpS (model prog w) A E s sortRuns' Q st:=by
 have em:=yI9 h2 h64
 rw[sortRuns'_eq]
 refine wpS_bind (wpS_get ?_)
 dsimp only
 rw[hB.sz,em]
 refine wpS_bind (wpS_mono (wpS_forRange (a:=0) (b:=z.size) (I:=fun x c st'=>∃lo,c=(none,lo)∧Ph κ kd z x lo st')
  (Q:=fun c st'=>c=(none,z.size)∧∃x,Ph κ kd z x z.size st') ?t ?f ⟨0,rfl,.none hB⟩) ?post)
 case f =>
  rintro c st' ⟨lo,rfl,Pp⟩
  obtain rfl:=Pp.fin h2 (by lia)
  exact⟨rfl,_,Pp⟩
 case t =>
  rintro x c st' _ x2 ⟨lo,rfl,Pp⟩
  dsimp only
  cases Pp with
  | all b p s1 hx' =>
   refine zF8 (fun _=>wpS_pure ⟨rfl,x,.all b p s1 hx'⟩) fun c=>absurd (Nat.le_refl _) c
  | none b =>
   refine zF8 (fun c=>absurd c (by lia)) fun _=>?_
   refine wpS_bind (xu2 hL hz (by lia) (by lia) b fun m st1 B1 m1 m2 g l=>?_)
   refine zF8 (fun c=>wpS_bind (wpS_lift (wpAny_rule ⟨rfl,wpS_bind (xr8 hL hz (by lia) (by lia) B1 g fun st2 B2 g2 l2=>zF8 (fun c=>absurd c (by decide)) fun _=>?_)⟩))) fun c=>?_
   ·refine wpS_bind (wpS_get ?_)
    rw[B2.pd]
    refine wpS_bind (wpS_modify (wpS_pure ⟨_,rfl,?_⟩))
    rw[Nat.zero_add,Nat.zero_add]
    exact Ph.first B2 g2 (by lia)
   ·refine wpS_bind (wpS_get ?_)
    rw[B1.pd]
    refine wpS_bind (wpS_modify (wpS_pure ⟨_,rfl,?_⟩))
    rw[Nat.zero_add,Nat.zero_add]
    exact Ph.first B1 g (by lia)
 case post =>
  rintro c st' ⟨rfl,x,Pp⟩
  dsimp only
  refine wpS_bind (wpS_mono (wpS_forRange (a:=0) (b:=z.size) (I:=fun y c st2=>c=(none,())∧∃P,SB kd z P st2∧P.size=1∧Seg κ (arrOf st2) 0 z.size)
   (Q:=fun c st2=>c=(none,())∧∃P,SB kd z P st2∧Seg κ (arrOf st2) 0 z.size) ?t2 ?f2 ?i2) ?p2)
  case i2 =>
   generalize hq:z.size=q at Pp
   cases Pp with
   |none b=>lia
   |all b p s1 hx'=>exact⟨rfl,_,b,p,s1⟩
  case f2 =>
   rintro c st2 ⟨rfl,P,b,p,s1⟩
   exact⟨rfl,P,b,s1⟩
  case p2 =>
   rintro c st2 ⟨rfl,P,b,s1⟩
   exact wpS_pure (h _ b.perm b.ok s1)
  case t2 =>
   rintro y c st2 _ _ ⟨rfl,P,b,p,s1⟩
   refine wpS_bind (wpS_get ?_)
   rw[b.pd]
   exact zF8 (fun _=>wpS_pure ⟨rfl,P,b,s1⟩) fun c=>absurd (Nat.le_of_eq p) c
end
open PySem PyProof.Rows
noncomputable abbrev Row:=List (List Nat)
noncomputable def txs:List Value→Option Row
 |[]=>some []
 |.str x _::r=>(txs r).map (x.cps.toList :: ·)
 |_=>none
noncomputable def zx7(h:Heap):Value→Option Row
 | .ref a=>match h.get? a with
  |some o=>if o.cls=.type "tuple" then (match o.data with |.seq its _=>txs its.toList |_=>none)else none
  |none=>none
 |_=>none
theorem zD5{h:Heap}{v:Value}{X:Row}(e:zx7 h v=some X):∃a o its n,v=.ref a∧h.get? a=some o∧o.cls=.type "tuple" ∧ o.data=.seq its n∧txs its.toList=some X:=by
 cases v with
 | ref a =>
  unfold zx7 at e
  dsimp only at e
  cases ho:h.get? a with
  |none=>rw[ho]at e;cases e
  | some o =>
   rw[ho]at e
   dsimp only at e
   by_cases c:o.cls=.type "tuple"
   ·rw[if_pos c]at e
    cases hd:o.data with
    |seq its n=>rw[hd]at e;exact⟨a,o,its,n,rfl,ho,c,hd,e⟩
    |_=>rw[hd]at e;cases e
   ·rw[if_neg c]at e;cases e
 |_=>cases e
@[reducible] noncomputable def rowKind(h:Heap):KK2 where
 α:=Row
 blt a b:=decide (a<b)
 irrefl a:=by simpa using List.lt_irrefl a
 trans a b c h1 h2:=by simp only[decide_eq_true_eq]at *;exact List.lt_trans h1 h2
 negTrans a b c h:=by
  simp only[decide_eq_true_eq]at *
  by_cases hab:a<b
  ·exact .inl hab
  ·exact .inr (List.lt_of_le_of_lt (List.not_lt.mp hab) h)
 total a b h1 h2:=by simp only[decide_eq_false_iff_not]at *;exact List.le_antisymm (List.not_lt.mp h2) (List.not_lt.mp h1)
 keyOf:=zx7 h
 dflt:=[]
theorem zy5{v:Value}{r:List Value}{X:Row}(e:txs (v::r)=some X):∃x t Y,v=.str x t∧txs r=some Y∧X=x.cps.toList::Y:=by
 cases v with
 | str x t =>
  unfold txs at e
  cases hr:txs r with
  |none=>rw[hr]at e;cases e
  |some Y=>rw[hr]at e;cases e;exact⟨x,t,Y,rfl,rfl,rfl⟩
 |_=>cases e
theorem yn2:∀{l:List Value} {X:Row},txs l=some X→X.length=l.length
 |[],_,e=>by cases e;rfl
 | v::r,_,e=>by
  obtain⟨x,t,Y,rfl,h,rfl⟩:=zy5 e
  rw[List.length_cons,List.length_cons,yn2 h]
theorem yP1{x y:Str}:x.cps.toList=y.cps.toList↔x=y:=by
 constructor
 ·intro h
  cases x;cases y
  simp only[Str.mk.injEq]
  exact Array.toList_inj.mp h
 ·rintro rfl;rfl
section
variable{prog:Program}{w:World}{A:Around}{E:Value→Shared→Prop}{s:Shared}
theorem yW1{fin:Bool}{Q:Bool→Shared→Prop}:∀(ps qs:List Value) (X Y:Row) (i:Nat),txs ps=some X→txs qs=some Y→fin=decide (ps.length<qs.length)→Q (decide (X<Y)) s→PySem.W.KatLex prog w A true fin Q (ps.zip qs) i s
 | [],qs,X,Y,i,h1,h2,hf,h=>by
  cases h1
  refine PySem.W.kat_nil ?_
  rw[hf]
  have:=yn2 h2
  cases Y with
  |nil=>rw[show decide (([]:List Value).length<qs.length)=decide (([]:Row)<[])by simp at this;simp[←this]];exact h
  |cons y Y=>rw[show decide (([]:List Value).length<qs.length)=decide (([]:Row)<y::Y)by simp at this;simp[←this]];exact h
 | p::ps,[],X,Y,i,h1,h2,hf,h=>by
  cases h2
  refine PySem.W.kat_nil ?_
  rw[hf]
  obtain⟨x,t,X',rfl,e1,rfl⟩:=zy5 h1
  have e:decide ((Value.str x t::ps).length<([]:List Value).length)=decide (x.cps.toList::X'<([]:Row)):=by simp
  rw[e];exact h
 | p::ps,q::qs,X,Y,i,h1,h2,hf,h=>by
  obtain⟨x,t,X',rfl,e1,rfl⟩:=zy5 h1
  obtain⟨y,u,Y',rfl,e2,rfl⟩:=zy5 h2
  refine PySem.W.kat_cons (wpAny_eqBool_str ?_)
  by_cases c:x=y
  ·subst c
   rw[decide_eq_true rfl]
   refine PySem.W.kat_yes (yW1 ps qs X' Y' (i+1) e1 e2 (by rw[hf];simp) ?_)
   have e:decide (x.cps.toList::X'<x.cps.toList::Y')=decide (X'<Y'):=by simp[List.cons_lt_cons_iff]
   rw[←e];exact h
  ·rw[decide_eq_false c]
   have c':x.cps.toList≠y.cps.toList:=fun e=>c (yP1.mp e)
   have e:decide (x.cps.toList::X'<y.cps.toList::Y')=decide (x.cps.toList<y.cps.toList):=by simp[List.cons_lt_cons_iff,c']
   rw[e]at h
   refine PySem.W.kat_no ?_
   by_cases ci:i=0
   ·subst ci
    exact oneLt_str h
   ·have:(true&&i==0)=false:=by simp[ci]
    rw[this]
    exact PySem.W.kat_one _ _ (lt_str h)
theorem yY4{h0:Heap}(hk:∀a o,h0.get? a=some o→o.cls=.type "tuple" → s.heap.get? a=some o):yu9 prog w A s (rowKind h0) (tuples' true):=by
 intro x y X Y E Q hx hy h
 obtain⟨a,o,its,n,rfl,ho,hc,hd,e1⟩:=zD5 hx
 obtain⟨b,p,jts,m,rfl,hp,hc',hd',e2⟩:=zD5 hy
 exact PySem.W.kat_lt (hk a o ho hc) hd (hk b p hp hc') hd' (yW1 _ _ X Y 0 e1 e2 (by simp) h)
end
open PySem PyProof.Rows
section
variable{prog:Program}{w:World}{A:Around}{E:Value→Shared→Prop}{s:Shared}
theorem zS1{h:Heap}:∀{vs:List Value} {Xs:List Row},vs.map (zx7 h)=Xs.map some→(∀X∈Xs,X≠[])→∃fs:List Value,PySem.W.KatTups h vs fs∧fs.length=vs.length∧∀v∈fs,∃x t,v=.str x t
 |[],[],_,_=>⟨[],PySem.W.KatTups.nil,rfl,fun _ hv=>by cases hv⟩
 |[],_::_,e,_=>by cases e
 |_::_,[],e,_=>by cases e
 | v::vs,X::Xs,e,hne=>by
  rw[List.map_cons,List.map_cons]at e
  injection e with e1 e2
  obtain⟨fs,k,l,t⟩:=zS1 e2 fun Y hY=>hne Y (List.mem_cons_of_mem _ hY)
  obtain⟨a,o,its,n,rfl,ho,hc,hd,ex⟩:=zD5 e1
  have hX:=hne X (by simp)
  cases hi:its.toList with
  |nil=>rw[hi]at ex;cases ex;exact absurd rfl hX
  | cons p r =>
   rw[hi]at ex
   obtain⟨x,u,Y,rfl,_,_⟩:=zy5 ex
   refine⟨.str x u::fs,PySem.W.KatTups.cons ho hc hd ?_ k,by simp[l],fun q hq=>?_⟩
   ·rw[←Array.getElem?_toList,hi];rfl
   ·rcases List.mem_cons.mp hq with rfl |hq
    ·exact⟨x,u,rfl⟩
    ·exact t q hq
theorem yl9{h h':Heap}(k:∀a o,h.get? a=some o→o.cls=.type "tuple" → h'.get? a=some o):∀{vs fs:List Value},PySem.W.KatTups h vs fs→PySem.W.KatTups h' vs fs
 |[],[],_=>PySem.W.KatTups.nil
 |v::vs,f::fs,⟨⟨a,o,xs,n,e1,e2,e3,e4,e5⟩,t⟩=>⟨⟨a,o,xs,n,e1,k a o e2 e3,e3,e4,e5⟩,yl9 k t⟩
 |[],_::_,t=>t.elim
 |_::_,[],t=>t.elim
theorem zJ2{a:Addr}{vs:List Value}{Xs:List Row}{n:Nat}{R:PySem.Fin→Shared→Prop}(ho:s.heap.get? a=some (seqObj "list" vs.toArray n))(hX:vs.map (zx7 s.heap)=Xs.map some)(hne:∀X∈Xs,X≠[])(h128:vs.length<64)
  (h:∀st':SortSt,(arrOf st').Perm (pairsOf vs)→Seg (rowKind s.heap) (arrOf st') 0 (pairsOf vs).size→R (.done (.ret .none)) { s with heap:=sortedHeap s.heap a vs ((arrOf st').map (·.2)) }) :
  wpAny (model prog w) A (Builtin.«list.sort» ⟨[.ref a],[]⟩) R E s:=by
 have hla:a<s.heap.objs.size:=Heap.lt_size ho
 have hsl:sizeLine=16777216:=by decide
 have z1:vs.toArray.size≤sizeLine:=by rw[List.size_toArray];lia
 have up:∀b o,s.heap.get? b=some o→o.cls=.type "tuple" → (((s.heap.update a (Obj.mapSeq fun _=>#[])).push (seqObj "tuple" vs.toArray 0)).push (seqObj "list" #[] 0)).get? b=some o:=fun b o e c=>by
  refine Heap.get?_push_of_some _ (Heap.get?_push_of_some _ ?_)
  rw[Heap.get?_update_other]
  ·exact e
  ·rintro rfl
   rw[ho]at e;cases e
   have c:Value.type "list" = .type "tuple" := c
   injection c with c
   exact absurd c (by decide)
 rw[list_sort_plain]
 refine wpAny_bind (listItems_at ho rfl ?_)
 refine wpAny_bind (listUpdate_at ho rfl ?_ z1 (Nat.zero_le _))
 obtain⟨e1,ho1⟩:∃e1,(s.heap.update a (Obj.mapSeq fun _=>#[])).get? a=some (seqObj "list" #[] e1):=⟨_,get?_update_seq ho fun _=>#[]⟩
 refine wpAny_bind (seqEpoch_at ho1 rfl ?_)
 refine wpAny_bind (wpAny_newTuple ?_ (by rw[Array.length_toList];exact z1))
 refine wpAny_bind (wpAny_newList ?_ (hsz:=Nat.zero_le _))
 refine wpAny_holding ?_
 have ho6:=Heap.get?_push_of_some (seqObj "list" #[] 0) (Heap.get?_push_of_some (seqObj "tuple" vs.toArray 0) ho1)
 show wpAny (model prog w) A _ R E { s with heap:=((s.heap.update a (Obj.mapSeq fun _=>#[])).push (seqObj "tuple" vs.toArray 0)).push (seqObj "list" #[] 0) }
 generalize hh:((s.heap.update a (Obj.mapSeq fun _=>#[])).push (seqObj "tuple" vs.toArray 0)).push (seqObj "list" #[] 0)=h6 at ho6 up
 have hl:vs.toArray.size=vs.length:=by simp
 have fin:∀st':SortSt,(arrOf st').Perm (pairsOf vs)→failedOf st'=none→Seg (rowKind s.heap) (arrOf st') 0 (pairsOf vs).size →
   wpAny (model prog w) A (do
    let t ←seqEpoch a
    Builtin.List.listUpdate (.ref a) fun _=>(arrOf st').map (·.2)
    if let some e:=failedOf st' then rule "list.sort.comparison-raised"; throw e
    if (t != e1)=true then rule "list.sort.modified"; raiseError "ValueError" "list modified during sort"
    ret .none) R E { s with heap:=h6 }:=by
  intro st' p f g
  refine wpAny_bind (seqEpoch_at ho6 rfl ?_)
  refine wpAny_bind (listUpdate_at ho6 rfl ?_ (Nat.zero_le _) (by rw[Array.size_map,p.size_eq,pairsOf_size];lia))
  rw[f]
  simp only[bne_self_eq_false,Bool.false_eq_true,if_false]
  have:=h st' p g
  unfold sortedHeap at this
  rw[hh]at this
  exact wpAny_pure this
 by_cases c:vs.toArray.size<2
 ·rw[if_pos c,if_pos c]
  refine wpAny_bind (wpAny_pure ?_)
  refine wpAny_bind ?_
  show wpAny _ _ (pure ((),_)) _ _ _
  refine wpAny_pure ?_
  exact fin (SortSt.mk' general' (vs.toArray.zip vs.toArray) #[] 7 none) (Array.Perm.refl _) rfl (Seg.one (by rw[pairsOf_size];lia))
 ·rw[if_neg c,if_neg c]
  obtain⟨fs,kt,fl,ft⟩:=zS1 hX hne
  refine wpAny_bind (PySem.W.kat_kind (T:=.type "str") (s:={ s with heap:=h6 }) (yl9 up kt) (by lia) (fun v hv=>?_) (by decide) ?_)
  ·obtain⟨x,t,rfl⟩:=ft v hv
   exact PySem.W.Looks.now
  have hz:KeysOf (rowKind s.heap) (pairsOf vs):=fun p hp=>by
   rw[pairsOf_toList]at hp
   have hm:zx7 s.heap p.1∈Xs.map some:=by rw[←hX];exact List.mem_map_of_mem (List.of_mem_zip hp).1
   obtain⟨X,_,e⟩:=List.mem_map.mp hm
   exact⟨X,e.symm⟩
  refine wpAny_bind (wpAny_mono (yU6 (κ:=rowKind s.heap) (kd:=tuples' true) (z:=pairsOf vs) (st:=SortSt.mk' (tuples' true) (vs.toArray.zip vs.toArray) #[] 7 none) (E:=E)
   (Q:=fun _ st'=>(arrOf st').Perm (pairsOf vs)∧failedOf st'=none∧Seg (rowKind s.heap) (arrOf st') 0 (pairsOf vs).size) (yY4 up) hz ⟨Array.Perm.refl _,rfl,rfl,rfl⟩ (by rw[pairsOf_size];lia) (by rw[pairsOf_size];exact h128) fun st' a1 a2 a3=>⟨a1,a2,a3⟩) ?_ fun _ _ e=>e)
  rintro⟨⟨⟩,st'⟩ s' ⟨rfl,p,f,g⟩
  exact fin st' p f g
theorem yl2{h h':Heap}{v:Value}{X:Row}(k:∀b o,h.get? b=some o→o.cls=.type "tuple" → h'.get? b=some o)(e:zx7 h v=some X):zx7 h' v=some X:=by
 obtain⟨a,o,its,n,rfl,ho,hc,hd,ex⟩:=zD5 e
 unfold zx7
 dsimp only
 rw[k a o ho hc]
 dsimp only
 rw[if_pos hc,hd]
 exact ex
theorem yn8{h h':Heap}(k:∀b o,h.get? b=some o→o.cls=.type "tuple" → h'.get? b=some o):∀{vs:List Value} {Xs:List Row},vs.map (zx7 h)=Xs.map some→vs.map (zx7 h')=Xs.map some
 |[],[],_=>rfl
 |[],_::_,e=>by cases e
 |_::_,[],e=>by cases e
 | v::vs,X::Xs,e=>by
  rw[List.map_cons,List.map_cons]at e ⊢
  injection e with e1 e2
  rw[yl2 k e1,yn8 k e2]
theorem yA9{h:Heap}{vs:List Value}{Xs:List Row}{st:SortSt}(hX:vs.map (zx7 h)=Xs.map some)(p:(arrOf st).Perm (pairsOf vs))(g:Seg (rowKind h) (arrOf st) 0 (pairsOf vs).size):
  ∃Ys:List Row,((arrOf st).map (·.2)).toList.map (zx7 h)=Ys.map some∧Ys.Perm Xs∧Ys.Pairwise (fun a b=>¬b<a)∧((arrOf st).map (·.2)).toList.Perm vs:=by
 have pl:=Array.perm_iff_toList_perm.mp p
 rw[pairsOf_toList]at pl
 have hzz:vs.zip vs=vs.map fun v=>(v,v):=by
  clear hX p g pl
  induction vs with
  |nil=>rfl
  |cons v r ih=>rw[List.zip_cons_cons,List.map_cons,ih]
 rw[hzz]at pl
 have sd:Sd (rowKind h) (arrOf st).toList:=by
  refine Seg.sd ?_
  rw[p.size_eq];exact g
 have po:((arrOf st).map (·.2)).toList.Perm vs:=by
  rw[Array.toList_map]
  have:=pl.map (·.2)
  rw[List.map_map]at this
  refine this.trans (List.Perm.of_eq ?_)
  exact List.map_id' vs
 have hXs:Xs=vs.map fun v=>(zx7 h v).getD []:=by
  have:=congrArg (List.map fun o:Option Row=>o.getD []) hX
  rw[List.map_map,List.map_map]at this
  exact ((List.map_id' Xs).symm.trans this.symm)
 refine⟨((arrOf st).map (·.2)).toList.map fun v=>(zx7 h v).getD [],?_,?_,?_,po⟩
 ·rw[List.map_map]
  refine List.map_congr_left fun v hv=>?_
  have hm:zx7 h v∈Xs.map some:=by rw[←hX];exact List.mem_map_of_mem (po.mem_iff.mp hv)
  obtain⟨X,_,e⟩:=List.mem_map.mp hm
  show zx7 h v=some ((zx7 h v).getD [])
  rw[←e];rfl
 ·rw[hXs];exact po.map _
 ·rw[Array.toList_map,List.map_map,List.pairwise_map]
  refine List.Pairwise.imp_of_mem ?_ sd
  intro x y hx hy hxy
  obtain⟨u,_,rfl⟩:=List.mem_map.mp (pl.mem_iff.mp hx)
  obtain⟨v,_,rfl⟩:=List.mem_map.mp (pl.mem_iff.mp hy)
  have hxy:decide ((zx7 h v).getD []<(zx7 h u).getD [])=false:=hxy
  exact of_decide_eq_false hxy
theorem sorted_rows{a:Addr}{o:Obj}{T:String}{vs:List Value}{Xs:List Row}{n:Nat}{Q:Value→Shared→Prop}(hT:T = "list" ∨ T = "tuple")(ho:s.heap.get? a=some o)(hc:o.cls=.type T)(hd:o.data=.seq vs.toArray n)(hX:vs.map (zx7 s.heap)=Xs.map some)(hne:∀X∈Xs,X≠[])(hvl:vs.length<64)
  (hQ:∀(out:List Value) (Ys:List Row) (h1 h':Heap) (c:Nat),out.map (zx7 s.heap)=Ys.map some→Ys.Perm Xs→Ys.Pairwise (fun a b=>¬b<a)→out.Perm vs→(∀b o,s.heap.get? b=some o→h1.get? b=some o)→h'.get? h1.objs.size=some (seqObj "list" out.toArray c)→(∀b o,h1.get? b=some o→h'.get? b=some o)→Q (.ref h1.objs.size) { s with heap:=h' }) :
  wpAny (model prog w) A (call (.builtin "sorted") [.ref a]) Q E s:=by
 have hsl:sizeLine=16777216:=by decide
 refine Calls.call_function_entry kind_sorted plain_sorted entry_sorted (args_sorted1 _) ?_
 unfold Builtin.«sorted»
 refine wpAny_bind (m:=checkCount "sorted" 1 1 _) (wpAny_pure ?_)
 refine wpAny_bind (wpAny_collect_seq a hT ho hc hd (fun h1 hk=>?_) (by simp only[List.size_toArray];lia))
 rw[show vs.toArray.toList=vs by simp]
 refine wpAny_bind (wpAny_newList ?_ (hsz:=by lia))
 generalize hob:({ cls:=.type "list", data:=.seq vs.toArray }:Obj)=ob
 have hg:(h1.push ob).get? h1.objs.size=some ob:=Heap.get?_push_size _ (by subst hob;rfl)
 subst hob
 have up:∀b o,s.heap.get? b=some o→o.cls=.type "tuple" → (h1.push (seqObj "list" vs.toArray 0)).get? b=some o:=fun b o e _=>Heap.get?_push_of_some _ (hk b o e)
 have hX':=yn8 up hX
 refine wpAny_bind (wpAny_holding (wpAny_call_entry slot_list_sort ⟨_,hg,rfl⟩ entry_list_sort (zJ2 (s:={ s with heap:=h1.push _ }) hg hX' hne hvl fun st a1 a2=>⟨_,rfl,?_⟩) (args_list_sort _)))
 refine wpAny_pure ⟨_,rfl,?_⟩
 obtain⟨Ys,b1,b2,b3,b4⟩:=yA9 hX' a1 a2
 have b1':((arrOf st).map (·.2)).toList.map (zx7 s.heap)=Ys.map some:=by
  rw[←b1]
  refine List.map_congr_left fun v hv=>?_
  have hm:zx7 s.heap v∈Xs.map some:=by rw[←hX];exact List.mem_map_of_mem (b4.mem_iff.mp hv)
  obtain⟨X,_,e⟩:=List.mem_map.mp hm
  rw[←e,yl2 up e.symm]
 generalize Array.map (fun x=>x.2) (arrOf st)=out at b1 b1' b4 ⊢
 obtain⟨e1,g1⟩:∃e1,((h1.push (seqObj "list" vs.toArray 0)).update h1.objs.size (Obj.mapSeq fun _=>#[])).get? h1.objs.size=some (seqObj "list" #[] e1):=⟨_,get?_update_seq hg fun _=>#[]⟩
 have g2:=get?_update_seq (Heap.get?_push_of_some (seqObj "list" #[] 0) (Heap.get?_push_of_some (seqObj "tuple" vs.toArray 0) g1)) fun _=>out
 refine hQ out.toList Ys h1 _ _ b1' b2 b3 b4 hk g2 fun b o e=>?_
 have hne':h1.objs.size≠b:=Nat.ne_of_gt (Heap.lt_size e)
 show (sortedHeap _ _ _ _).get? b=some o
 unfold sortedHeap
 rw[Heap.get?_update_other _ _ hne']
 refine Heap.get?_push_of_some _ (Heap.get?_push_of_some _ ?_)
 rw[Heap.get?_update_other _ _ hne']
 exact Heap.get?_push_of_some _ e
end
open PySem
structure Sb where
 it:Addr
 l:Addr
 tp:Bool
 its:List Value
def Sb.on(b:Sb)(i:Nat)(h:Heap):Prop:=if b.tp=true then h.IsTupleIter b.it b.l i∧h.IsTuple b.l b.its.toArray else h.IsListIter b.it b.l i∧h.IsList b.l b.its.toArray
theorem Sb.frame{b:Sb}{i:Nat}{h h':Heap}(x:b.on i h)(k1:∀o,h.get? b.it=some o→h'.get? b.it=some o)(k2:∀o,h.get? b.l=some o→h'.get? b.l=some o):b.on i h':=by
 unfold Sb.on at *
 split at x
 ·rename_i ht
  rw[if_pos ht]
  exact⟨x.1.at k1,let⟨o,e,r⟩:=x.2;⟨o,k2 o e,r⟩⟩
 ·rename_i ht
  rw[if_neg ht]
  exact⟨x.1.at k1,x.2.at k2⟩
section
variable{prog:Program}{w:World}{A:Around}{E:Value→Shared→Prop}{s:Shared}
theorem yg3{b t:Addr}{k:Nat}{vs:Array Value}{y:Value}{R:Value→Shared→Prop}(x1:s.heap.IsTupleIter b t k)(x2:s.heap.IsTuple t vs)(x3:vs[k]?=some y)
  (q:∀h2,h2.IsTupleIter b t (k+1)→Heap.SameBut b s.heap h2→R y { s with heap:=h2 }):wpAny (model prog w) A (Builtin.SmallTypes.nextOf (.ref b)) R E s:=by
 obtain⟨u,hu,hcu,hdu⟩:=id x1
 obtain⟨ut,hut,_,m,hdt⟩:=x2
 unfold Builtin.SmallTypes.nextOf
 refine wpAny_bind (wpAny_callSpecial?_slot (name:=Str.ofString "__next__") x1.typeIs F.slot_tuple_iterator_next
   (wpAny_call_entry F.slot_tuple_iterator_next x1.typeIs F.entry_tuple_iterator_next ?_ (F.args_tuple_iterator_next_1 _)))
 show wpAny _ _ (field (.ref b) 0 >>= _) _ _ _
 refine wpAny_bind (wpAny_field hu hdu (x:=.ref t) (by rfl) ?_)
 have ne:¬((Value.ref t==Value.none)=true):=Bool.false_ne_true
 show wpAny _ _ (if (Value.ref t==Value.none)=true then _ else _) _ _ _
 rw[if_neg ne]
 show wpAny _ _ (field (.ref b) 1 >>= _) _ _ _
 refine wpAny_bind (wpAny_field hu hdu (x:=.int k 0) (by rfl) ?_)
 show wpAny _ _ (seqItems? (.ref t) >>= _) _ _ _
 refine wpAny_bind (wpAny_seqItems hut hdt ?_)
 simp only[Int.toNat_natCast,x3]
 refine wpAny_bind (wpAny_setField hu hdu (by simp) (wpAny_pure ⟨y,rfl,wpAny_pure (q _ ⟨_,Heap.get?_update_self _ hu (Obj.isFreed_of_fields (Obj.data_mapFields hdu _)),(Obj.cls_mapFields ..).trans hcu,?_⟩ (Heap.SameBut.update ..))⟩))
 rw[Obj.data_mapFields hdu]
 simp[rawInt]
theorem yq6{b t:Addr}{k:Nat}{vs:Array Value}{R:Value→Shared→Prop}(hh:A.handled=none)(x1:s.heap.IsTupleIter b t k)(x2:s.heap.IsTuple t vs)(x3:vs[k]?=none)
  (q:∀h2 e,Heap.ExtBut b s.heap h2→(∃o,h2.get? e=some o∧o.cls=.type "StopIteration")→E (.ref e) { s with heap:=h2 }):wpAny (model prog w) A (Builtin.SmallTypes.nextOf (.ref b)) R E s:=by
 obtain⟨u,hu,hcu,hdu⟩:=id x1
 obtain⟨ut,hut,_,m,hdt⟩:=x2
 unfold Builtin.SmallTypes.nextOf
 refine wpAny_bind (wpAny_callSpecial?_slot (name:=Str.ofString "__next__") x1.typeIs F.slot_tuple_iterator_next
   (wpAny_call_entry F.slot_tuple_iterator_next x1.typeIs F.entry_tuple_iterator_next ?_ (F.args_tuple_iterator_next_1 _)))
 show wpAny _ _ (field (.ref b) 0 >>= _) _ _ _
 refine wpAny_bind (wpAny_field hu hdu (x:=.ref t) (by rfl) ?_)
 have ne:¬((Value.ref t==Value.none)=true):=Bool.false_ne_true
 show wpAny _ _ (if (Value.ref t==Value.none)=true then _ else _) _ _ _
 rw[if_neg ne]
 show wpAny _ _ (field (.ref b) 1 >>= _) _ _ _
 refine wpAny_bind (wpAny_field hu hdu (x:=.int k 0) (by rfl) ?_)
 show wpAny _ _ (seqItems? (.ref t) >>= _) _ _ _
 refine wpAny_bind (wpAny_seqItems hut hdt ?_)
 simp only[Int.toNat_natCast,x3]
 refine wpAny_bind (wpAny_rule (wpAny_bind (wpAny_setField hu hdu (by simp) ?_)))
 show wpAny _ _ (newExc (.type "StopIteration") [] >>= _) _ _ _
 refine wpAny_bind ?_
 simp only[newExc,newTuple]
 refine wpAny_bind (wpAny_newObj_type ?_ (by size_fits))
 refine wpAny_bind (m:=firstArgMember _ _) (wpAny_of_eq (a:=Value.none) (by first |rfl |(simp only[firstArgMember];rfl)) ?_)
 refine wpAny_newObj_type ?_ (by size_fits)
 simp only[raiseNew]
 refine wpAny_bind (wpAny_handled ?_)
 first |rw[show A.in1.handled=none from hh]|rw[hh]
 refine wpAny_bind (wpAny_pure (wpAny_throw ?_))
 exact q _ _ (((Heap.SameBut.update ..).extBut.push _).push _) ⟨_,Heap.get?_push_size _ rfl,rfl⟩
theorem Sb.item{b:Sb}{k:Nat}{y:Value}{R:Value→Shared→Prop}(x:b.on k s.heap)(hy:b.its[k]?=some y)
  (q:∀h2,b.on (k+1) h2→Heap.SameBut b.it s.heap h2→R y { s with heap:=h2 }) (hne:b.l≠b.it):wpAny (model prog w) A (Builtin.SmallTypes.nextOf (.ref b.it)) R E s:=by
 by_cases ht:b.tp=true
 ·have x':=x
  unfold Sb.on at x'
  rw[if_pos ht]at x'
  refine yg3 x'.1 x'.2 (by simpa using hy) fun h2 z1 z2=>q h2 ?_ z2
  unfold Sb.on
  rw[if_pos ht]
  exact⟨z1,x'.2.extBut z2.extBut hne⟩
 ·have x':=x
  unfold Sb.on at x'
  rw[if_neg ht]at x'
  refine wpAny_nextOf_list_item x'.1 x'.2 (by simpa using hy) fun h2 z1 z2=>q h2 ?_ z2
  unfold Sb.on
  rw[if_neg ht]
  exact⟨z1,x'.2.extBut z2.extBut hne⟩
theorem Sb.fin{b:Sb}{k:Nat}{R:Value→Shared→Prop}(hh:A.handled=none)(x:b.on k s.heap)(hy:b.its[k]?=none)
  (q:∀h2 e,Heap.ExtBut b.it s.heap h2→(∃o,h2.get? e=some o∧o.cls=.type "StopIteration")→E (.ref e) { s with heap:=h2 }):wpAny (model prog w) A (Builtin.SmallTypes.nextOf (.ref b.it)) R E s:=by
 by_cases ht:b.tp=true
 ·unfold Sb.on at x
  rw[if_pos ht]at x
  exact yq6 hh x.1 x.2 (by simpa using hy) q
 ·unfold Sb.on at x
  rw[if_neg ht]at x
  exact wpAny_nextOf_list_end hh x.1 x.2 (by simpa using hy) q
end
open PySem
noncomputable abbrev TupAt(h:Heap)(T:Addr)(vs:List Value):Prop:=h.get? T=some { cls:=.type "tuple", data:=.seq vs.toArray }
structure ZAp(z TI TO:Addr)(bs:List Sb):Prop where
 ne:bs≠[]
 len:bs.length≤1000
 zT:TO≠z
 iz:∀b∈bs,b.it≠z∧b.it≠TO∧b.it≠TI
 lz:∀b∈bs,b.l≠z∧b.l≠TO∧∀c∈bs,b.l≠c.it
 nd:(bs.map Sb.it).Nodup
 Tz:TI≠z∧TI≠TO
noncomputable def zr1(bs:List Sb):List Value:=bs.map fun b=>.ref b.it
section
variable{prog:Program}{w:World}{A:Around}{E:Value→Shared→Prop}{s:Shared}
def ZIv(s:Shared)(z TI TO:Addr)(bs:List Sb)(i:Nat)(zn7:List (Value×Nat))(b:Option Fin×Unit)(s':Shared):Prop :=
 b=(none,())∧∃k h',s'={ s with heap:=h' }∧k≤bs.length∧zn7=((zr1 bs).drop k).zipIdx k∧IsZip h' z TI TO .ellipsis ∧
  (∃o:List Value,TupAt h' TO o∧o.length=bs.length∧∀j<k,∀b,bs[j]?=some b→o[j]?=b.its[i]?∧b.its[i]?≠none)∧(∀(j:Nat) b,bs[j]?=some b→b.on (if j<k then i+1 else i) h')∧h'.objs.size=s.heap.objs.size ∧
  ∀c o,c≠z→c≠TO→(∀b∈bs,c≠b.it)→s.heap.get? c=some o→h'.get? c=some o
theorem yV9{bs:List Sb}(h:(bs.map Sb.it).Nodup){j k:Nat}{b c:Sb}(hj:bs[j]?=some b)(hk:bs[k]?=some c)(hne:j≠k):b.it≠c.it:=by
 intro e
 obtain⟨h1,e1⟩:=List.getElem?_eq_some_iff.mp hj
 obtain⟨h2,e2⟩:=List.getElem?_eq_some_iff.mp hk
 have p:=List.pairwise_iff_getElem.mp h
 rcases Nat.lt_or_gt_of_ne hne with hlt |hlt
 ·exact p j k (by simpa using h1) (by simpa using h2) hlt (by simp[e1,e2,e])
 ·exact p k j (by simpa using h2) (by simpa using h1) hlt (by simp[e1,e2,e])
theorem ZIv.step{z TI TO:Addr}{bs:List Sb}{i k:Nat}{b:Sb}{x:Value}{h1 h2 h3:Heap}{o:List Value}(D:ZAp z TI TO bs)(hk:bs[k]?=some b)(hx:b.its[i]?=some x)
  (hz:IsZip h1 z TI TO .ellipsis) (ho:TupAt h1 TO o) (hol:o.length=bs.length) (hov:∀j<k,∀b,bs[j]?=some b→o[j]?=b.its[i]?∧b.its[i]?≠none) (hon:∀(j:Nat) b,bs[j]?=some b→b.on (if j<k then i+1 else i) h1) (hsz:h1.objs.size=s.heap.objs.size)
  (hkp:∀c o,c≠z→c≠TO→(∀b∈bs,c≠b.it)→s.heap.get? c=some o→h1.get? c=some o)
  (n2:b.on (i+1) h2) (s2:Heap.SameBut b.it h1 h2) (n3:TupAt h3 TO (o.set k x)) (s3:Heap.SameBut TO h2 h3) :
  ZIv s z TI TO bs i (((zr1 bs).drop (k+1)).zipIdx (k+1)) (none,()) { s with heap:=h3 }:=by
 have hmem:b∈bs:=List.mem_of_getElem? hk
 have hkl:k<bs.length:=(List.getElem?_eq_some_iff.mp hk).1
 obtain⟨b1,b2,b3⟩:=D.iz b hmem
 refine⟨rfl,k+1,h3,rfl,hkl,rfl,?_,⟨o.set k x,n3,by simpa using hol,?_⟩,?_,by rw[s3.1,s2.1];exact hsz,?_⟩
 ·exact s3.extBut _ _ D.zT.symm (s2.extBut _ _ b1.symm hz)
 ·intro j hj c hc
  by_cases e:j=k
  ·subst e
   rw[hk]at hc;cases hc
   rw[List.getElem?_set_self (by lia),hx]
   exact⟨rfl,by simp⟩
  ·rw[List.getElem?_set_ne (by lia)]
   exact hov j (by lia) c hc
 ·intro j c hc
  obtain⟨c1,c2,c3⟩:=D.iz c (List.mem_of_getElem? hc)
  obtain⟨l1,l2,l3⟩:=D.lz c (List.mem_of_getElem? hc)
  by_cases e:j=k
  ·subst e
   rw[hk]at hc;cases hc
   rw[if_pos (by lia)]
   exact Sb.frame n2 (fun o e=>s3.extBut _ _ c2 e) fun o e=>s3.extBut _ _ l2 e
  ·have hne:=yV9 D.nd hc hk e
   have hold:=hon j c hc
   rw[show (if j<k+1 then i+1 else i)=(if j<k then i+1 else i)by by_cases h:j<k <;> simp[h] <;> lia]
   exact Sb.frame hold (fun o e=>s3.extBut _ _ c2 (s2.extBut _ _ hne e)) fun o e=>s3.extBut _ _ l2 (s2.extBut _ _ (l3 b hmem) e)
 ·intro c o' n1 n2' n3' e
  exact s3.extBut _ _ n2' (s2.extBut _ _ (n3' b hmem) (hkp c o' n1 n2' n3' e))
theorem ym8{z TI TO:Addr}{bs:List Sb}{i:Nat}{vs ow:List Value}{R:Value→Shared→Prop}(D:ZAp z TI TO bs)
  (hz:IsZip s.heap z TI TO .none) (hTI:TupAt s.heap TI (zr1 bs)) (hTO:TupAt s.heap TO ow) (how:ow.length=bs.length) (hb:∀b∈bs,b.on i s.heap) (hv:vs.length=bs.length)
  (hvs:∀(k:Nat) b,bs[k]?=some b→∃x,b.its[i]?=some x∧vs[k]?=some x)
  (q:∀h2,IsZip h2 z TI TO (rawInt s.heap.objs.size)→TupAt h2 TO vs→(∀b∈bs,b.on (i+1) h2)→TupAt h2 s.heap.objs.size vs→h2.objs.size=s.heap.objs.size+1 →
   (∀c o,c≠z→c≠TO→(∀b∈bs,c≠b.it)→s.heap.get? c=some o→h2.get? c=some o)→R (.ref s.heap.objs.size) { s with heap:=h2 }) :
  wpAny (model prog w) A (Builtin.«zip.__next__» ⟨[.ref z],[]⟩) (fun fin s'=>∃v,fin=.done (.ret v)∧R v s') E s:=by
 show wpAny _ _ (field (.ref z) 2 >>= _) _ _ _
 refine wpAny_bind (wpAny_field hz (by rfl) (x:=.bool false) (by rfl) ?_)
 show wpAny _ _ (field (.ref z) 3 >>= _) _ _ _
 refine wpAny_bind (wpAny_field hz (by rfl) (x:=.ref TI) (by rfl) ?_)
 refine wpAny_bind (wpAny_seqItems hTI (by rfl) ?_)
 have hne:(zr1 bs).toArray.isEmpty=false:=by
  have:=D.ne
  cases bs with
  |nil=>exact absurd rfl this
  |cons b r=>rfl
 have hlen:=D.len
 simp only[hne,Bool.false_eq_true,if_false]
 refine wpAny_bind ?_
 unfold Builtin.SmallTypes.ownedTupleIsFree
 refine wpAny_bind (wpAny_field hz (by rfl) (x:=.none) (by rfl) (wpAny_pure ?_))
 simp only[if_true]
 refine wpAny_bind (wpAny_rule ?_)
 refine wpAny_bind (wpAny_field hz (by rfl) (x:=.ref TO) (by rfl) ?_)
 refine wpAny_bind (wpAny_setField_rec hz (by simp) fun ha za sa=>?_)
 replace za:IsZip ha z TI TO .ellipsis:=za
 refine wpAny_bind ?_
 refine wpAny_forIn_list _ (ZIv s z TI TO bs i) _ ?turn ?fin _ _ ?start
 case start =>
  refine⟨rfl,0,ha,rfl,Nat.zero_le _,by simp,za,⟨ow,sa.extBut _ _ D.zT hTO,how,fun j hj=>absurd hj (by lia)⟩,fun j b hj=>?_,sa.1,fun c o c1 _ _ e=>sa.extBut _ _ c1 e⟩
  have hm:=List.mem_of_getElem? hj
  rw[if_neg (by lia)]
  exact Sb.frame (hb b hm) (fun o e=>sa.extBut _ _ (D.iz b hm).1 e) fun o e=>sa.extBut _ _ (D.lz b hm).1 e
 case turn =>
  rintro⟨u,kk⟩ zn7 b0 s1 ⟨rfl,k,h1,rfl,hk,hr,z1,⟨o,o1,o2,o3⟩,on1,sz1,kp1⟩
  have hkl:k<bs.length:=by
   by_cases h:k<bs.length
   ·exact h
   ·rw[List.drop_of_length_le (by simp[zr1];lia)]at hr;cases hr
  obtain⟨b,hbk⟩:∃b,bs[k]?=some b:=⟨_,List.getElem?_eq_getElem hkl⟩
  have hm:=List.mem_of_getElem? hbk
  have hu:u=.ref b.it∧kk=k∧zn7=((zr1 bs).drop (k+1)).zipIdx (k+1):=by
   have e1:(zr1 bs).drop k=.ref b.it::(zr1 bs).drop (k+1):=by
    have hl:k<(zr1 bs).length:=by simpa[zr1]using hkl
    rw[List.drop_eq_getElem_cons hl]
    congr 1
    obtain⟨_,e⟩:=List.getElem?_eq_some_iff.mp hbk
    simp[zr1,e]
   rw[e1,List.zipIdx_cons]at hr
   cases hr
   exact⟨rfl,rfl,rfl⟩
  obtain⟨rfl,rfl,rfl⟩:=hu
  obtain⟨x,hx,hxv⟩:=hvs _ b hbk
  have ob:=on1 _ b hbk
  rw[if_neg (by lia)]at ob
  refine wpAny_bind (wpAny_onRaise ?_)
  show wpAny _ _ (Builtin.SmallTypes.nextOf (.ref b.it) >>= _) _ _ _
  refine wpAny_bind (Sb.item ob hx (fun h2 n2 s2=>wpAny_pure ?_) (((D.lz b hm).2.2 b hm)))
  have t2:TupAt h2 TO o:=s2.extBut _ _ (D.iz b hm).2.1.symm o1
  refine wpAny_bind (wpAny_seqItems t2 (by rfl) ?_)
  have hos:o.toArray.size≤sizeLine:=by
   have:sizeLine=16777216:=by decide
   simp;lia
  refine wpAny_bind (wpAny_updateSeq t2 (by rfl) ?_ hos (by simp;simp at hos;lia))
  refine wpAny_bind (wpAny_letGo (wpAny_pure ?_))
  refine ZIv.step D hbk hx z1 o1 o2 o3 on1 sz1 kp1 n2 s2 ?_ (Heap.SameBut.update ..)
  show (h2.update TO _).get? TO=_
  rw[Heap.get?_update_self _ t2 rfl]
  simp[Obj.mapSeq]
 case fin =>
  rintro b0 s1 ⟨rfl,k,h1,rfl,hk,hr,z1,⟨o,o1,o2,o3⟩,on1,sz1,kp1⟩
  have hkn:k=bs.length:=by
   by_cases h:k<bs.length
   ·have hl:k<(zr1 bs).length:=by simpa[zr1]using h
    rw[List.drop_eq_getElem_cons hl,List.zipIdx_cons]at hr;cases hr
   ·lia
  subst hkn
  have hov:o=vs:=by
   refine List.ext_getElem? fun j=>?_
   by_cases hj:j<bs.length
   ·obtain⟨b,hbj⟩:∃b,bs[j]?=some b:=⟨_,List.getElem?_eq_getElem hj⟩
    obtain⟨x,e1,e2⟩:=hvs j b hbj
    rw[(o3 j hj b hbj).1,e1,e2]
   ·rw[List.getElem?_eq_none (by lia),List.getElem?_eq_none (by lia)]
  subst hov
  refine wpAny_bind (wpAny_seqItems o1 (by rfl) ?_)
  refine wpAny_bind (wpAny_newTuple ?_ ?_)
  ·show wpAny _ _ (Builtin.SmallTypes.ownedTupleHandOut (.ref z) (.ref h1.objs.size) >>= _) _ _ _
   refine wpAny_bind ?_
   unfold Builtin.SmallTypes.ownedTupleHandOut
   have z2:IsZip (h1.push { cls:=.type "tuple", data:=.seq o.toArray.toList.toArray }) z TI TO .ellipsis:=Heap.get?_push_of_some _ z1
   refine wpAny_bind (wpAny_setField_rec z2 (by simp) fun h3 z3 s3=>?_)
   replace z3:IsZip h3 z TI TO (rawInt h1.objs.size):=z3
   refine wpAny_setField_rec z3 (by simp) fun h4 z4 s4=>?_
   replace z4:IsZip h4 z TI TO (rawInt h1.objs.size):=z4
   have up:∀c u,c≠z→h1.get? c=some u→h4.get? c=some u:=fun c u c1 e=>s4.extBut _ _ c1 (s3.extBut _ _ c1 (Heap.get?_push_of_some _ e))
   have hzl:z<h1.objs.size:=Heap.lt_size z1
   have hT:TupAt h4 h1.objs.size o:=s4.extBut _ _ (Nat.ne_of_gt hzl) (s3.extBut _ _ (Nat.ne_of_gt hzl) (by rw[Heap.get?_push_size _ rfl]))
   have h4s:h4.objs.size=h1.objs.size+1:=by rw[s4.1,s3.1,Heap.size_push]
   refine wpAny_pure ⟨_,rfl,?_⟩
   rw[sz1]at z4 hT h4s ⊢
   refine q h4 z4 (up _ _ D.zT o1) (fun b hm=>?_) hT h4s fun c u c1 c2 c3 e=>up c u c1 (kp1 c u c1 c2 c3 e)
   obtain⟨j,hj,ej⟩:=List.getElem_of_mem hm
   have:=on1 j b (by rw[List.getElem?_eq_getElem hj,ej])
   rw[if_pos hj]at this
   exact Sb.frame this (fun u e=>up _ u (D.iz b hm).1 e) fun u e=>up _ u (D.lz b hm).1 e
  ·have:sizeLine=16777216:=by decide
   simp;lia
end
open PySem
section
variable{prog:Program}{w:World}{A:Around}{E:Value→Shared→Prop}{s:Shared}
theorem yw7{z TI TO:Addr}{bs:List Sb}{i:Nat}{ow:List Value}{R:Fin→Shared→Prop}(hh:A.handled=none)(D:ZAp z TI TO bs)
  (hz:IsZip s.heap z TI TO .none) (hTI:TupAt s.heap TI (zr1 bs)) (hTO:TupAt s.heap TO ow) (how:ow.length=bs.length) (hb:∀b∈bs,b.on i s.heap) (hend:∃b∈bs,b.its[i]?=none)
  (q:∀h2 e,(∀c o,c≠z→c≠TO→(∀b∈bs,c≠b.it)→s.heap.get? c=some o→h2.get? c=some o)→(∃o,h2.get? e=some o∧o.cls=.type "StopIteration")→E (.ref e) { s with heap:=h2 }) :
  wpAny (model prog w) A (Builtin.«zip.__next__» ⟨[.ref z],[]⟩) R E s:=by
 show wpAny _ _ (field (.ref z) 2 >>= _) _ _ _
 refine wpAny_bind (wpAny_field hz (by rfl) (x:=.bool false) (by rfl) ?_)
 show wpAny _ _ (field (.ref z) 3 >>= _) _ _ _
 refine wpAny_bind (wpAny_field hz (by rfl) (x:=.ref TI) (by rfl) ?_)
 refine wpAny_bind (wpAny_seqItems hTI (by rfl) ?_)
 have hne:(zr1 bs).toArray.isEmpty=false:=by
  have:=D.ne
  cases bs with
  |nil=>exact absurd rfl this
  |cons b r=>rfl
 have hlen:=D.len
 simp only[hne,Bool.false_eq_true,if_false]
 refine wpAny_bind ?_
 unfold Builtin.SmallTypes.ownedTupleIsFree
 refine wpAny_bind (wpAny_field hz (by rfl) (x:=.none) (by rfl) (wpAny_pure ?_))
 simp only[if_true]
 refine wpAny_bind (wpAny_rule ?_)
 refine wpAny_bind (wpAny_field hz (by rfl) (x:=.ref TO) (by rfl) ?_)
 refine wpAny_bind (wpAny_setField_rec hz (by simp) fun ha za sa=>?_)
 replace za:IsZip ha z TI TO .ellipsis:=za
 refine wpAny_bind ?_
 refine wpAny_forIn_list _ (ZIv s z TI TO bs i) _ ?turn ?fin _ _ ?start
 case start =>
  refine⟨rfl,0,ha,rfl,Nat.zero_le _,by simp,za,⟨ow,sa.extBut _ _ D.zT hTO,how,fun j hj=>absurd hj (by lia)⟩,fun j b hj=>?_,sa.1,fun c o c1 _ _ e=>sa.extBut _ _ c1 e⟩
  have hm:=List.mem_of_getElem? hj
  rw[if_neg (by lia)]
  exact Sb.frame (hb b hm) (fun o e=>sa.extBut _ _ (D.iz b hm).1 e) fun o e=>sa.extBut _ _ (D.lz b hm).1 e
 case turn =>
  rintro⟨u,kk⟩ zn7 b0 s1 ⟨rfl,k,h1,rfl,hk,hr,z1,⟨o,o1,o2,o3⟩,on1,sz1,kp1⟩
  have hkl:k<bs.length:=by
   by_cases h:k<bs.length
   ·exact h
   ·rw[List.drop_of_length_le (by simp[zr1];lia)]at hr;cases hr
  obtain⟨b,hbk⟩:∃b,bs[k]?=some b:=⟨_,List.getElem?_eq_getElem hkl⟩
  have hm:=List.mem_of_getElem? hbk
  have hu:u=.ref b.it∧kk=k∧zn7=((zr1 bs).drop (k+1)).zipIdx (k+1):=by
   have e1:(zr1 bs).drop k=.ref b.it::(zr1 bs).drop (k+1):=by
    have hl:k<(zr1 bs).length:=by simpa[zr1]using hkl
    rw[List.drop_eq_getElem_cons hl]
    congr 1
    obtain⟨_,e⟩:=List.getElem?_eq_some_iff.mp hbk
    simp[zr1,e]
   rw[e1,List.zipIdx_cons]at hr
   cases hr
   exact⟨rfl,rfl,rfl⟩
  obtain⟨rfl,rfl,rfl⟩:=hu
  have ob:=on1 _ b hbk
  rw[if_neg (by lia)]at ob
  refine wpAny_bind (wpAny_onRaise ?_)
  show wpAny _ _ (Builtin.SmallTypes.nextOf (.ref b.it) >>= _) _ _ _
  cases hx:b.its[i]? with
  | none =>
   refine wpAny_bind (Sb.fin hh ob hx fun h2 e k2 he=>?_)
   obtain⟨oe,hoe,hce⟩:=he
   have z2:IsZip h2 z TI TO .ellipsis:=k2 _ _ (D.iz b hm).1.symm z1
   have hez:e≠z:=fun e'=>by subst e';rw[z2]at hoe;cases hoe;simp at hce
   refine wpAny_setField_rec z2 (by simp) fun h3 _ s3=>q h3 e (fun c u c1 c2 c3 x=>?_) ⟨oe,s3.extBut _ _ hez hoe,hce⟩
   exact s3.extBut _ _ c1 (k2 _ _ (c3 b hm) (kp1 c u c1 c2 c3 x))
  | some x =>
   refine wpAny_bind (Sb.item ob hx (fun h2 n2 s2=>wpAny_pure ?_) (((D.lz b hm).2.2 b hm)))
   have t2:TupAt h2 TO o:=s2.extBut _ _ (D.iz b hm).2.1.symm o1
   refine wpAny_bind (wpAny_seqItems t2 (by rfl) ?_)
   have hos:o.toArray.size≤sizeLine:=by
    have:sizeLine=16777216:=by decide
    simp;lia
   refine wpAny_bind (wpAny_updateSeq t2 (by rfl) ?_ hos (by simp;simp at hos;lia))
   refine wpAny_bind (wpAny_letGo (wpAny_pure ?_))
   refine ZIv.step D hbk hx z1 o1 o2 o3 on1 sz1 kp1 n2 s2 ?_ (Heap.SameBut.update ..)
   show (h2.update TO _).get? TO=_
   rw[Heap.get?_update_self _ t2 rfl]
   simp[Obj.mapSeq]
 case fin =>
  rintro b0 s1 ⟨rfl,k,h1,rfl,hk,hr,z1,⟨o,o1,o2,o3⟩,on1,sz1,kp1⟩
  have hkn:k=bs.length:=by
   by_cases h:k<bs.length
   ·have hl:k<(zr1 bs).length:=by simpa[zr1]using h
    rw[List.drop_eq_getElem_cons hl,List.zipIdx_cons]at hr;cases hr
   ·lia
  obtain⟨b,hm,hbe⟩:=hend
  obtain⟨j,hj,ej⟩:=List.getElem_of_mem hm
  exact absurd hbe (o3 j (by lia) b (by rw[List.getElem?_eq_getElem hj,ej])).2
theorem zT4{z TI TO:Addr}{bs:List Sb}{i:Nat}{vs ow:List Value}{R:Option Value→Shared→Prop}(D:ZAp z TI TO bs)
  (hz:IsZip s.heap z TI TO .none) (hTI:TupAt s.heap TI (zr1 bs)) (hTO:TupAt s.heap TO ow) (how:ow.length=bs.length) (hb:∀b∈bs,b.on i s.heap) (hv:vs.length=bs.length)
  (hvs:∀(k:Nat) b,bs[k]?=some b→∃x,b.its[i]?=some x∧vs[k]?=some x)
  (q:∀h2,IsZip h2 z TI TO (rawInt s.heap.objs.size)→TupAt h2 TO vs→(∀b∈bs,b.on (i+1) h2)→TupAt h2 s.heap.objs.size vs→h2.objs.size=s.heap.objs.size+1 →
   (∀c o,c≠z→c≠TO→(∀b∈bs,c≠b.it)→s.heap.get? c=some o→h2.get? c=some o)→R (some (.ref s.heap.objs.size)) { s with heap:=h2 }) :
  wpAny (model prog w) A (pyNext (.ref z)) R E s:=by
 have hty:s.TypeIs (.ref z) "zip" := ⟨_,hz,rfl⟩
 unfold pyNext
 refine wpAny_bind (wpAny_attempt (wpAny_callSpecial?_slot (name:=Str.ofString "__next__") hty F.slot_zip_next (wpAny_call_entry F.slot_zip_next hty F.entry_zip_next ?_ (F.args_zip_next_1 _))))
 exact ym8 D hz hTI hTO how hb hv hvs fun h2 a1 a2 a3 a4 a5 a6=>wpAny_pure (q h2 a1 a2 a3 a4 a5 a6)
theorem zV9{z TI TO:Addr}{bs:List Sb}{i:Nat}{ow:List Value}{R:Option Value→Shared→Prop}(hh:A.handled=none)(D:ZAp z TI TO bs)
  (hz:IsZip s.heap z TI TO .none) (hTI:TupAt s.heap TI (zr1 bs)) (hTO:TupAt s.heap TO ow) (how:ow.length=bs.length) (hb:∀b∈bs,b.on i s.heap) (hend:∃b∈bs,b.its[i]?=none)
  (q:∀h2,(∀c o,c≠z→c≠TO→(∀b∈bs,c≠b.it)→s.heap.get? c=some o→h2.get? c=some o)→R none { s with heap:=h2 }) :
  wpAny (model prog w) A (pyNext (.ref z)) R E s:=by
 have hty:s.TypeIs (.ref z) "zip" := ⟨_,hz,rfl⟩
 unfold pyNext
 refine wpAny_bind (wpAny_attempt (wpAny_callSpecial?_slot (name:=Str.ofString "__next__") hty F.slot_zip_next (wpAny_call_entry F.slot_zip_next hty F.entry_zip_next ?_ (F.args_zip_next_1 _))))
 refine yw7 hh D hz hTI hTO how hb hend fun h2 e k2 he=>?_
 obtain⟨o,ho,hc⟩:=he
 exact wpAny_bind (wpAny_isInstance (T := "StopIteration") (b:=true) ⟨o,ho,hc⟩ isSubtype_stop (wpAny_pure (q _ k2)))
structure Sr where
 l:Addr
 tp:Bool
 its:List Value
def Sr.on(r:Sr)(h:Heap):Prop:=if r.tp=true then h.IsTuple r.l r.its.toArray else h.IsList r.l r.its.toArray
theorem Sr.frame{r:Sr}{h h':Heap}(x:r.on h)(k:∀o,h.get? r.l=some o→h'.get? r.l=some o):r.on h':=by
 unfold Sr.on at *
 split at x
 ·rename_i ht
  rw[if_pos ht];exact (let⟨o,e,q⟩:=x;⟨o,k o e,q⟩)
 ·rename_i ht
  rw[if_neg ht];exact x.at k
theorem Sr.lt{r:Sr}{h:Heap}(x:r.on h):r.l<h.objs.size:=by
 unfold Sr.on at x
 split at x
 ·obtain⟨o,e,_⟩:=x;exact Heap.lt_size e
 ·obtain⟨o,e,_⟩:=x;exact Heap.lt_size e
noncomputable def Sr.sb(r:Sr)(it:Addr):Sb:=⟨it,r.l,r.tp,r.its⟩
noncomputable def sbs(n:Nat)(rs:List Sr):List Sb:=(rs.zipIdx n).map fun p=>p.1.sb p.2
theorem Sr.iter{r:Sr}{R:Value→Shared→Prop}(x:r.on s.heap)
  (q:∀h2,(r.sb s.heap.objs.size).on 0 h2→h2.objs.size=s.heap.objs.size+1→(∀c o,s.heap.get? c=some o→h2.get? c=some o)→R (.ref s.heap.objs.size) { s with heap:=h2 }):wpAny (model prog w) A (pyIter (.ref r.l)) R E s:=by
 by_cases ht:r.tp=true
 ·have x':=x
  unfold Sr.on at x'
  rw[if_pos ht]at x'
  refine wpAny_pyIter_tuple x' (q _ ?_ (Heap.size_push _ _) fun c o e=>Heap.get?_push_of_some _ e)
  unfold Sb.on
  rw[if_pos (show (r.sb s.heap.objs.size).tp=true from ht)]
  exact⟨⟨_,Heap.get?_push_size _ rfl,rfl,rfl⟩,x'.push _⟩
 ·have x':=x
  unfold Sr.on at x'
  rw[if_neg ht]at x'
  refine wpAny_pyIter_list x' (q _ ?_ (Heap.size_push _ _) fun c o e=>Heap.get?_push_of_some _ e)
  unfold Sb.on
  rw[if_neg (show ¬(r.sb s.heap.objs.size).tp=true from ht)]
  exact⟨⟨_,Heap.get?_push_size _ rfl,rfl,rfl⟩,x'.push _⟩
theorem zY7{rs:List Sr}{R:List Value→Shared→Prop}(x:∀r∈rs,r.on s.heap)
  (q:∀h2,(∀b∈sbs s.heap.objs.size rs,b.on 0 h2)→h2.objs.size=s.heap.objs.size+rs.length→(∀c o,s.heap.get? c=some o→h2.get? c=some o)→R (zr1 (sbs s.heap.objs.size rs)) { s with heap:=h2 }) :
  wpAny (model prog w) A (Builtin.SmallTypes.iterAll (rs.map fun r=>.ref r.l)) R E s:=by
 unfold Builtin.SmallTypes.iterAll
 refine wpAny_bind ?_
 refine wpAny_forIn_list _ (fun zn7 acc s1=>∃k h1,s1={ s with heap:=h1 }∧k≤rs.length∧zn7=(rs.drop k).map (fun r=>.ref r.l)∧acc.toList=zr1 (sbs s.heap.objs.size (rs.take k))∧(∀b∈sbs s.heap.objs.size (rs.take k),b.on 0 h1)∧h1.objs.size=s.heap.objs.size+k∧∀c o,s.heap.get? c=some o→h1.get? c=some o) _ ?turn ?fin _ _ ?start
 case start=>exact⟨0,s.heap,rfl,Nat.zero_le _,by simp,by simp[sbs,zr1],by simp[sbs],by simp,fun _ _ e=>e⟩
 case turn =>
  rintro u zn7 acc s1 ⟨k,h1,rfl,hk,hr,ha,hb,hs,kp⟩
  have hkl:k<rs.length:=by
   by_cases h:k<rs.length
   ·exact h
   ·rw[List.drop_of_length_le (by lia)]at hr;cases hr
  rw[List.drop_eq_getElem_cons hkl,List.map_cons]at hr
  cases hr
  have hm:rs[k]∈rs:=List.getElem_mem _
  refine wpAny_bind (wpAny_holding (Sr.iter (Sr.frame (x _ hm) fun o e=>kp _ o e) fun h2 n2 z2 k2=>wpAny_pure ?_))
  have et:rs.take (k+1)=rs.take k++[rs[k]]:=by rw[List.take_succ,List.getElem?_eq_getElem hkl];rfl
  have es:sbs s.heap.objs.size (rs.take (k+1))=sbs s.heap.objs.size (rs.take k)++[rs[k].sb h1.objs.size]:=by
   rw[et]
   unfold sbs
   rw[List.zipIdx_append,List.map_append]
   congr 1
   simp[hs,Nat.min_eq_left (Nat.le_of_lt hkl),Nat.add_comm]
  refine⟨k+1,h2,rfl,hkl,rfl,?_,?_,by rw[z2,hs];lia,fun c o e=>k2 c o (kp c o e)⟩
  ·rw[es]
   unfold zr1 at *
   rw[Array.toList_push,ha,List.map_append]
   rfl
  ·rw[es]
   intro b hb'
   rcases List.mem_append.mp hb' with h |h
   ·exact Sb.frame (hb b h) (fun o e=>k2 _ o e) fun o e=>k2 _ o e
   ·have:b=rs[k].sb h1.objs.size:=by simpa using h
    subst this;exact n2
 case fin =>
  rintro acc s1 ⟨k,h1,rfl,hk,hr,ha,hb,hs,kp⟩
  have hkn:k=rs.length:=by
   by_cases h:k<rs.length
   ·rw[List.drop_eq_getElem_cons h,List.map_cons]at hr;cases hr
   ·lia
  subst hkn
  rw[List.take_length]at ha hb
  refine wpAny_pure ?_
  rw[ha]
  exact q h1 hb hs kp
end
theorem zz0(rs:List Sr):Meets (Builtin.«zip.__new__» ⟨.type "zip" :: rs.map (fun r=>.ref r.l),[]⟩) (fun _ R s=>(∀r∈rs,r.on s.heap)∧rs.length≤1000∧∀h2 z TI TO,z=s.heap.objs.size+rs.length+2→TI=s.heap.objs.size+rs.length→TO=s.heap.objs.size+rs.length+1→IsZip h2 z TI TO .none→TupAt h2 TI (zr1 (sbs s.heap.objs.size rs))→TupAt h2 TO ((zr1 (sbs s.heap.objs.size rs)).map fun _=>.none) →
      (∀b∈sbs s.heap.objs.size rs,b.on 0 h2)→h2.objs.size=s.heap.objs.size+rs.length+3→(∀c o,s.heap.get? c=some o→h2.get? c=some o)→R (.ok (.ret (.ref z))) { s with heap:=h2 }) :=
  .of_wp fun prog w A R s h=>by
    obtain⟨hp,g,d,tk,os⟩:=s
    obtain⟨x,hl,q⟩:=h
    have hsub:=sub_zip
    unfold Builtin.«zip.__new__»
    wp_walk using zY7 x
    intro h2 y1 y2 y3
    dsimp only at *
    have hln:(zr1 (sbs hp.objs.size rs)).length=rs.length:=by simp[zr1,sbs]
    have hsl:sizeLine=16777216:=by decide
    generalize hT:zr1 (sbs hp.objs.size rs)=ts at *
    refine wpAny_bind (wpAny_newTuple ?_ (by lia))
    refine wpAny_bind (wpAny_newTuple ?_ (by rw[List.length_map];lia))
    dsimp only
    have e1:(h2.push { cls:=.type "tuple", data:=.seq ts.toArray }).objs.size=h2.objs.size+1:=Heap.size_push ..
    have g1:(h2.push { cls:=.type "tuple", data:=.seq ts.toArray }).get? h2.objs.size=some { cls:=.type "tuple", data:=.seq ts.toArray }:=Heap.get?_push_size _ rfl
    have g0:∀c o,h2.get? c=some o→(h2.push { cls:=.type "tuple", data:=.seq ts.toArray }).get? c=some o:=fun c o e=>Heap.get?_push_of_some _ e
    generalize (h2.push { cls:=.type "tuple", data:=.seq ts.toArray })=h3 at *
    have e2:=Heap.size_push h3 { cls:=.type "tuple", data:=.seq (List.map (fun _=>Value.none) ts).toArray }
    have g2:(h3.push { cls:=.type "tuple", data:=.seq (List.map (fun _=>Value.none) ts).toArray }).get? h3.objs.size=some _:=Heap.get?_push_size _ rfl
    have g3:∀c o,h3.get? c=some o→(h3.push { cls:=.type "tuple", data:=.seq (List.map (fun _=>Value.none) ts).toArray }).get? c=some o:=fun c o e=>Heap.get?_push_of_some _ e
    generalize (h3.push { cls:=.type "tuple", data:=.seq (List.map (fun _=>Value.none) ts).toArray })=h4 at *
    wp_walk
    have e3:=fun o=>Heap.size_push h4 o
    refine⟨_,rfl,q _ _ h2.objs.size h3.objs.size (by rw[e2,e1,y2]) (by rw[y2]) (by rw[e1,y2]) (Heap.get?_push_size _ rfl) ?_ ?_ ?_ ?_ ?_⟩
    · exact Heap.get?_push_of_some _ (g3 _ _ g1)
    · exact Heap.get?_push_of_some _ g2
    · exact fun b hb=>Sb.frame (y1 b hb) (fun o e=>Heap.get?_push_of_some _ (g3 _ _ (g0 _ _ e))) fun o e=>Heap.get?_push_of_some _ (g3 _ _ (g0 _ _ e))
    · rw[e3,e2,e1,y2]
    · exact fun c o e=>Heap.get?_push_of_some _ (g3 _ _ (g0 _ _ (y3 c o e)))
open PySem
section
variable{prog:Program}{w:World}{A:Around}{E:Value→Shared→Prop}{s:Shared}
end
open PySem
section
variable{prog:Program}{w:World}{A:Around}{E:Value→Shared→Prop}{s:Shared}
end
open PySem
section
variable{prog:Program}{w:World}{A:Around}{E:Value→Shared→Prop}{s:Shared}
end
open PySem
section
variable{prog:Program}{w:World}{A:Around}{E:Value→Shared→Prop}{s:Shared}
variable{K:Type}[DecidableEq K]{knd:KeyKind prog w K}
end
open PySem L2 PySem.SeqAt PyProof.Rows
theorem zJ0(a b c:Value):checkTypeCall "zip" ⟨[a,b,c],[]⟩=pure ():=by kernel_rfl
theorem zM0(a b c:Value):checkBuiltinCall "zip.__new__" ⟨[.type "zip", a,b,c],[]⟩=pure ():=by kernel_rfl
theorem zY5(a b c d:Value):argsOk "object.__init__" ⟨[a,b,c,d],[]⟩:=by
 unfold argsOk
 rw [signature?_of (id := "object.__init__") (n:=['_','_','t','i','n','i','_','_']) (o:=['t','c','e','j','b','o'])
   (by kernel_rfl) F.owner_object]
 kernel_rfl
section
variable{prog:Program}{w:World}{A:Around}{E:Value→Shared→Prop}{s:Shared}
def NewZ(s:Shared)(rs:List Sr)(Q:Value→Shared→Prop):Prop:=∀h2 z TI TO,z=s.heap.objs.size+rs.length+2→TI=s.heap.objs.size+rs.length→TO=s.heap.objs.size+rs.length+1→IsZip h2 z TI TO .none→TupAt h2 TI (zr1 (sbs s.heap.objs.size rs))→TupAt h2 TO ((zr1 (sbs s.heap.objs.size rs)).map fun _=>.none) →
      (∀b∈sbs s.heap.objs.size rs,b.on 0 h2)→h2.objs.size=s.heap.objs.size+rs.length+3→(∀c o,s.heap.get? c=some o→h2.get? c=some o)→Q (.ref z) { s with heap:=h2 }
theorem yl6(rs:List Sr)(hn:rs.length=2∨rs.length=3)(x:∀r∈rs,r.on s.heap){Q:Value→Shared→Prop}(q:NewZ s rs Q):wpAny (model prog w) A (call (.type "zip") (rs.map fun r=>.ref r.l)) Q E s:=by
 have go:(∀h2 z TI TO,z=s.heap.objs.size+rs.length+2→TI=s.heap.objs.size+rs.length→TO=s.heap.objs.size+rs.length+1→IsZip h2 z TI TO .none→TupAt h2 TI (zr1 (sbs s.heap.objs.size rs))→TupAt h2 TO ((zr1 (sbs s.heap.objs.size rs)).map fun _=>.none) →
   (∀b∈sbs s.heap.objs.size rs,b.on 0 h2)→h2.objs.size=s.heap.objs.size+rs.length+3→(∀c o,s.heap.get? c=some o→h2.get? c=some o)→wants (fun obj s₁=>s₁.TypeIs obj "zip" ∧ Q obj s₁) E (.ok (.ret (.ref z))) { s with heap:=h2 }):=by
  intro h2 z TI TO e1 e2 e3 g1 g2 g3 g4 g5 g6
  exact⟨⟨_,g1,rfl⟩,q h2 z TI TO e1 e2 e3 g1 g2 g3 g4 g5 g6⟩
 match rs,hn,x,q,go with
 |[a,b],_,x,q,go=>exact callType_new F.called_zip (by decide) (F.typeCall_zip_2 _ _) (F.newCall_zip_2 _ _) (fun obj=>F.args_object_init_3 obj _ _) F.entry_zip_new (zz0 [a,b]) ⟨x,by simp,go⟩
 |[a,b,c],_,x,q,go=>exact callType_new F.called_zip (by decide) (zJ0 _ _ _) (zM0 _ _ _) (fun obj=>zY5 obj _ _ _) F.entry_zip_new (zz0 [a,b,c]) ⟨x,by simp,go⟩
 |[],h,_,_,_=>simp at h
 |[_],h,_,_,_=>simp at h
 |_::_::_::_::_,h,_,_,_=>simp at h
end
def zt0(K:Frag)(H:Hp)(p:Nat×Bool)(vs:List V):Prop:=if p.2=true then SqT K H p.1 vs else SqL K H p.1 vs
noncomputable def Itz(K:Frag)(ps:List (Nat×Bool)):L2.It :=
  ⟨fun i H=>∃vss,Paired (zt0 K H) ps vss∧∀vs∈vss,i<vs.length,
   fun i H x H'=>∃T row,H T=none∧x=.ref T∧H'=upd H T (.tup row)∧∀vss,Paired (zt0 K H) ps vss→row=vss.map fun vs=>vs.getD i .non,
   fun i H=>∃vss,Paired (zt0 K H) ps vss∧∃vs∈vss,vs.length≤i⟩
section
variable{X:Cx}{pins:List (Addr×Obj)}{σ:L2.St}{H:Hp}{s:Shared}
theorem zt0.inj{p:Nat×Bool}{vs ws:List V}(I:Inv X pins σ H s)(h:zt0 X.K H p vs)(g:zt0 X.K H p ws):vs=ws:=by
 unfold zt0 at h g
 split at h
 ·rename_i ht;rw[if_pos ht]at g;exact I.tuple_inj h g
 ·rename_i ht;rw[if_neg ht]at g;exact I.list_inj h g
theorem zt0.injs(I:Inv X pins σ H s):∀{ps:List (Nat×Bool)} {vss wss:List (List V)},Paired (zt0 X.K H) ps vss→Paired (zt0 X.K H) ps wss→vss=wss
 |_,_,_,.nil,.nil=>rfl
 |_,_,_,.cons a t,.cons b u=>by rw[zt0.inj I a b,zt0.injs I t u]
theorem zt0.src{p:Nat×Bool}{vs:List V}(I:Inv X pins σ H s)(h:zt0 X.K H p vs):∃its:List Value,zi9 vs its∧(⟨p.1,p.2,its⟩:Sr).on s.heap∧vs.length≤sizeLine:=by
 unfold zt0 at h
 split at h
 ·rename_i ht
  obtain⟨its,r,q,z⟩:=I.tuple h
  refine⟨its,r,?_,z⟩
  unfold Sr.on
  rw[if_pos ht];exact q
 ·rename_i ht
  obtain⟨its,r,q,z⟩:=I.list h
  refine⟨its,r,?_,z⟩
  unfold Sr.on
  rw[if_neg ht];exact q.isList
theorem zt0.srcs(I:Inv X pins σ H s):∀{ps:List (Nat×Bool)} {vss:List (List V)},Paired (zt0 X.K H) ps vss→∃rs:List Sr,rs.map (fun r=>(r.l,r.tp))=ps∧Paired (fun vs (r:Sr)=>zi9 vs r.its) vss rs∧∀r∈rs,r.on s.heap
 |[],[],.nil=>⟨[],rfl,.nil,by simp⟩
 | p::ps,vs::vss,.cons a t=>by
  obtain⟨its,r,q,_⟩:=zt0.src I a
  obtain⟨rs,e,pr,on⟩:=zt0.srcs I t
  refine⟨⟨p.1,p.2,its⟩::rs,by simp[e],.cons r pr,fun r' hr=>?_⟩
  rcases List.mem_cons.mp hr with rfl |hr
  ·exact q
  ·exact on r' hr
theorem Inv.turnedL{t':Nat}{h':Heap}{ch:List Addr}(I:Inv X pins σ H s)(k:∀b o,b∉ch→s.heap.get? b=some o→h'.get? b=some o)(hf:∀b∈ch,zZ2 X pins H b):Inv X pins σ H { s with heap:=h',toks:=t' }:=by
 refine I.step (g':=s.gens) (d':=s.drawn) (ch:=ch) (fun b hb=>?_) (fun b o _ _ hc e _=>k b o hc e) (fun b o _ _ hc e _=>⟨o.slots,k b o hc e⟩) (fun _ _ _ _ n=>n) (fun b o hc e=>⟨o,k b o hc e⟩)
  (fun _ _ e=>e) (fun _ _ _ e=>e) (fun b ps e=>⟨#[],by rw[e];simp⟩) (fun m hm=>?_) (fun b u e=>?_) I.bare
 ·obtain⟨_,f1,_,f3,f4,f5⟩:=hf b hb
  exact⟨f3,f1,f4,f5⟩
 ·obtain⟨o,es,ep,ho,r⟩:=hm
  exact⟨o,es,ep,k _ o (fun z=>(hf _ z).2.1 rfl) ho,r⟩
 ·have no:∀c u,H c=some u→c∉ch:=fun c u e z=>by rw[(hf c z).1]at e;cases e
  refine (I.hok b u e).stay (fun c v hc q=>k c v ?_ q) (fun _ q=>q) fun _ _ q=>q
  rcases hc with z |z
  ·rw[z];exact no b u e
  ·exact no c _ z
end
def ym4(it l:Nat)(tp:Bool)(i:Nat)(h:Heap):Prop:=if tp=true then h.IsTupleIter it l i else h.IsListIter it l i
theorem yo1{b:Sb}{i:Nat}{h:Heap}:b.on i h↔ym4 b.it b.l b.tp i h∧(⟨b.l,b.tp,b.its⟩:Sr).on h:=by
 unfold Sb.on ym4 Sr.on
 by_cases ht:b.tp=true
 ·rw[if_pos ht,if_pos ht,if_pos ht]
 ·rw[if_neg ht,if_neg ht,if_neg ht]
theorem ym4.keep{it l:Nat}{tp:Bool}{i:Nat}{h h':Heap}(x:ym4 it l tp i h)(k:∀o,h.get? it=some o→h'.get? it=some o):ym4 it l tp i h':=by
 unfold ym4 at *
 split at x
 ·rename_i ht;rw[if_pos ht];exact x.at k
 ·rename_i ht;rw[if_neg ht];exact x.at k
theorem ym4.obj{it l:Nat}{tp:Bool}{i:Nat}{h:Heap}(x:ym4 it l tp i h):∃o,h.get? it=some o∧∀v,o.data≠.cell v:=by
 unfold ym4 at x
 split at x
 ·obtain⟨o,e,c,d⟩:=x;exact⟨o,e,fun v z=>by rw[d]at z;cases z⟩
 ·obtain⟨o,e,c,d⟩:=x;exact⟨o,e,fun v z=>by rw[d]at z;cases z⟩
def ZTn(n0 z TI TO:Nat)(ps:List (Nat×Bool))(i:Nat)(h:Heap):Prop :=
 IsZip h z TI TO .none∧TupAt h TI ((List.range ps.length).map fun k=>.ref (n0+k))∧(∃ow:List Value,TupAt h TO ow∧ow.length=ps.length)∧∀(k:Nat) p,ps[k]?=some p→ym4 (n0+k) p.1 p.2 i h
noncomputable def ZFp(n0 z TI TO:Nat)(n:Nat):List Nat:=z::TI::TO::(List.range n).map (n0 + ·)
theorem zq7{n0:Nat}{rs:List Sr}{k:Nat}:(sbs n0 rs)[k]?=(rs[k]?).map fun r=>r.sb (n0+k):=by
 unfold sbs
 rw[List.getElem?_map,List.getElem?_zipIdx]
 cases rs[k]? <;> simp
theorem zL5{n0:Nat}{rs:List Sr}:zr1 (sbs n0 rs)=(List.range rs.length).map fun k=>.ref (n0+k):=by
 refine List.ext_getElem? fun k=>?_
 unfold zr1
 rw[List.getElem?_map,zq7,List.getElem?_map]
 by_cases h:k<rs.length
 ·rw[List.getElem?_eq_getElem h,List.getElem?_range h];rfl
 ·rw[List.getElem?_eq_none (by lia),List.getElem?_eq_none (by simpa using h)];rfl
theorem zF4{n0:Nat}{rs:List Sr}:(sbs n0 rs).length=rs.length:=by simp[sbs]
theorem zmem{n0 z TI TO b:Nat}{n:Nat}(h:b∈ZFp n0 z TI TO n):b=z∨b=TI∨b=TO∨∃k,k<n∧b=n0+k:=by
 simp only[ZFp,List.mem_cons,List.mem_map,List.mem_range]at h
 rcases h with h |h |h |⟨k,hk,e⟩
 ·exact .inl h
 ·exact .inr (.inl h)
 ·exact .inr (.inr (.inl h))
 ·exact .inr (.inr (.inr ⟨k,hk,e.symm⟩))
theorem get?_of_push{h:Heap}{o u:Obj}{b:Nat}(hb:b≠h.objs.size)(e:(h.push o).get? b=some u):h.get? b=some u:=by
 have hl:=Heap.lt_size e
 rw[Heap.size_push]at hl
 have hl:b<h.objs.size+1:=hl
 have hlt:b<h.objs.size:=by lia
 unfold Heap.get? Heap.push at *
 simp only[Array.getElem?_push]at e
 rw[if_neg (by lia)]at e
 exact e
theorem yD8{n0 z TI TO:Nat}{ps:List (Nat×Bool)}{rs:List Sr}(hn:1≤ps.length∧ps.length≤3)(hz:z=n0+ps.length+2)(hTI:TI=n0+ps.length)(hTO:TO=n0+ps.length+1)(hlt:∀p∈ps,p.1<n0)(e:rs.map (fun r=>(r.l,r.tp))=ps):ZAp z TI TO (sbs n0 rs):=by
 have hrl:rs.length=ps.length:=by rw[←e];simp
 have mem:∀b∈sbs n0 rs,∃k r,k<ps.length∧rs[k]?=some r∧b=r.sb (n0+k):=fun b hb=>by
  obtain⟨k,hk,ek⟩:=List.getElem_of_mem hb
  have hg:=List.getElem?_eq_getElem hk
  rw[ek,zq7]at hg
  obtain⟨r,hr,rfl⟩:=Option.map_eq_some_iff.mp hg
  exact⟨k,r,by have:=(List.getElem?_eq_some_iff.mp hr).1;lia,hr,rfl⟩
 have ll:∀r∈rs,@LT.lt Nat _ r.l n0:=fun r hr=>hlt (r.l,r.tp) (by rw[←e];exact List.mem_map.mpr ⟨r,hr,rfl⟩)
 refine⟨fun h=>?_,by rw[zF4];lia,(show @Ne Nat TO z by lia),fun b hb=>?_,fun b hb=>?_,?_,(show @Ne Nat TI z by lia),(show @Ne Nat TI TO by lia)⟩
 ·have:rs.length=0:=by rw[←zF4 (n0:=n0),h];rfl
  lia
 ·obtain⟨k,r,hk,hr,rfl⟩:=mem b hb
  exact⟨(show @Ne Nat (n0+k) z by lia),(show @Ne Nat (n0+k) TO by lia),(show @Ne Nat (n0+k) TI by lia)⟩
 ·obtain⟨k,r,hk,hr,rfl⟩:=mem b hb
  have:=ll r (List.mem_of_getElem? hr)
  refine⟨?_,?_,fun c hc=>?_⟩
  ·show @Ne Nat r.l z;lia
  ·show @Ne Nat r.l TO;lia
  ·obtain⟨k2,r2,_,_,rfl⟩:=mem c hc
   show @Ne Nat r.l (n0+k2);lia
 ·have:(sbs n0 rs).map Sb.it=(List.range rs.length).map (n0 + ·):=by
   refine List.ext_getElem? fun k=>?_
   rw[List.getElem?_map,zq7,List.getElem?_map]
   by_cases h:k<rs.length
   ·rw[List.getElem?_eq_getElem h,List.getElem?_range h];rfl
   ·rw[List.getElem?_eq_none (by lia),List.getElem?_eq_none (by simpa using h)];rfl
  rw[this]
  unfold List.Nodup
  rw[List.pairwise_map]
  exact List.nodup_range.imp fun h e=>h (Nat.add_left_cancel e)
theorem zon{n0:Nat}{ps:List (Nat×Bool)}{rs:List Sr}{i:Nat}{h:Heap}(e:rs.map (fun r=>(r.l,r.tp))=ps)(t4:∀(k:Nat) p,ps[k]?=some p→ym4 (n0+k) p.1 p.2 i h)(on:∀r∈rs,r.on h):∀b∈sbs n0 rs,b.on i h:=fun b hb=>by
 obtain⟨k,hk,ek⟩:=List.getElem_of_mem hb
 have hg:=List.getElem?_eq_getElem hk
 rw[ek,zq7]at hg
 obtain⟨r,hr,rfl⟩:=Option.map_eq_some_iff.mp hg
 refine yo1.mpr ⟨?_,on r (List.mem_of_getElem? hr)⟩
 exact t4 k (r.l,r.tp) (by rw[←e,List.getElem?_map,hr];rfl)
theorem zrow{i:Nat}:∀{vss:List (List V)} {rs:List Sr},Paired (fun vs (r:Sr)=>zi9 vs r.its) vss rs→(∀vs∈vss,i<vs.length)→∃(row:List V) (us:List Value),row=vss.map (fun vs=>vs.getD i .non)∧zi9 row us∧us.length=rs.length∧∀(k:Nat) r,rs[k]?=some r→∃x,r.its[i]?=some x∧us[k]?=some x
 |[],[],.nil,_=>⟨[],[],rfl,.nil,rfl,fun k r h=>by simp at h⟩
 | vs::vss,r::rs,.cons h t,hl=>by
  obtain⟨row,us,e1,e2,e3,e4⟩:=zrow t fun v hv=>hl v (List.mem_cons_of_mem _ hv)
  have hi:=hl vs (by simp)
  obtain⟨u,hu,ru⟩:=h.get (List.getElem?_eq_getElem hi)
  refine⟨vs[i]::row,u::us,?_,.cons ru e2,by simp[e3],fun k r' hr=>?_⟩
  ·rw[List.map_cons,e1,List.getD_eq_getElem?_getD,List.getElem?_eq_getElem hi];rfl
  ·cases k with
   |zero=>simp at hr;subst hr;exact⟨u,hu,rfl⟩
   | succ k =>
    obtain⟨x,b1,b2⟩:=e4 k r' (by simpa using hr)
    exact⟨x,b1,by simpa using b2⟩
theorem zend{n0:Nat}{i:Nat}:∀{vss:List (List V)} {rs:List Sr},Paired (fun vs (r:Sr)=>zi9 vs r.its) vss rs→(∃vs∈vss,vs.length≤i)→∃b∈sbs n0 rs,b.its[i]?=none:=by
 intro vss rs h hv
 obtain⟨vs,hm,hle⟩:=hv
 have:∃r∈rs,r.its[i]?=none:=by
  clear n0
  induction h with
  |nil=>cases hm
  | cons hh t ih =>
   rcases List.mem_cons.mp hm with rfl |hm
   ·exact⟨_,List.mem_cons_self,List.getElem?_eq_none (by have:=hh.length;lia)⟩
   ·obtain⟨r,hr,e⟩:=ih hm
    exact⟨r,List.mem_cons_of_mem _ hr,e⟩
 obtain⟨r,hr,e⟩:=this
 obtain⟨k,hk,ek⟩:=List.getElem_of_mem hr
 exact⟨r.sb (n0+k),List.mem_of_getElem? (by rw[zq7,List.getElem?_eq_getElem hk,ek];rfl),e⟩
theorem yv1{P:Program}{w:World}{K:Frag}{elts:List Expr}{x1}{pos:Pos}(n0 z TI TO:Nat)(ps:List (Nat×Bool))(hn:1≤ps.length∧ps.length≤3)(hz:z=n0+ps.length+2)(hTI:TI=n0+ps.length)(hTO:TO=n0+ps.length+1)(hlt:∀p∈ps,p.1<n0):
  yS1 P w K (.Tuple elts x1 pos) (Itz K ps) (ZFp n0 z TI TO ps.length) z (ZTn n0 z TI TO ps) where
 mem:=by simp[ZFp]
 obj:=fun i h st b hb=>by
  obtain⟨t1,t2,⟨ow,t3,_⟩,t4⟩:=st
  simp only[ZFp,List.mem_cons,List.mem_map,List.mem_range]at hb
  rcases hb with rfl |rfl |rfl |⟨k,hk,rfl⟩
  ·exact⟨_,t1,fun v e=>by cases e⟩
  ·exact⟨_,t2,fun v e=>by cases e⟩
  ·exact⟨_,t3,fun v e=>by cases e⟩
  ·exact (t4 k _ (List.getElem?_eq_getElem hk)).obj
 keep:=fun i h h' st k=>by
  obtain⟨t1,t2,⟨ow,t3,t3'⟩,t4⟩:=st
  refine⟨k z (by simp[ZFp]) _ t1,k TI (by simp[ZFp]) _ t2,⟨ow,k TO (by simp[ZFp]) _ t3,t3'⟩,fun j p hj=>(t4 j p hj).keep fun o e=>k _ ?_ o e⟩
  have:=(List.getElem?_eq_some_iff.mp hj).1
  simp only[ZFp,List.mem_cons,List.mem_map,List.mem_range]
  exact .inr (.inr (.inr ⟨j,this,rfl⟩))
 item:=by
  intro X hP hw hK hc i pins s σ H E I hf st hg
  subst hP hw hK
  obtain⟨t1,t2,⟨ow,t3,t3'⟩,t4⟩:=st
  obtain⟨vss,pr,hlen⟩:=hg
  obtain⟨rs,ers,prs,on⟩:=zt0.srcs I pr
  have hrl:rs.length=ps.length:=by rw[←ers];simp
  have F:=yD8 hn hz hTI hTO hlt ers
  have hzl:z<s.heap.objs.size:=Heap.lt_size t1
  have hTOl:TO<s.heap.objs.size:=Heap.lt_size t3
  obtain⟨row,vs,hrow,hvs,hvl,hget⟩:=zrow prs hlen
  refine zT4 (bs:=sbs n0 rs) (i:=i) (vs:=vs) (ow:=ow) F t1 (by rw[zL5,hrl];exact t2) t3 (by rw[t3',zF4,hrl]) (zon ers t4 on) (by rw[hvl,zF4]) (by
   intro k b hb
   rw[zq7]at hb
   obtain⟨r,hr,rfl⟩:=Option.map_eq_some_iff.mp hb
   exact hget k r hr) fun h2 z2 to2 on2 tup2 sz2 kp2=>⟨_,rfl,?_⟩
  refine wpAny_letOwnedTupleGo_zip z2 fun h3 z3 s3=>?_
  have hTne:s.heap.objs.size≠z:=Nat.ne_of_gt hzl
  have hfresh:=I.fresh
  -- the new tuple laid,then the zip's own objects turned
  have hrz:row.length≤sizeLine:=by
   have e:=hvs.length
   have:sizeLine=16777216:=by decide
   lia
  have I1:Inv X pins σ (upd H s.heap.objs.size (.tup row)) { s with heap:=s.heap.push { cls:=.type "tuple", data:=.seq vs.toArray } } :=
   I.laid (t':=s.toks) (fun b o e=>Heap.get?_push_of_some _ e) (Nat.le_refl _) (show zl8 X.prog X.w _ _ _ (.tup row)from⟨hrz,vs,hvs,zC3.new _ _⟩)
  have fpn:∀b∈ZFp n0 z TI TO ps.length,b≠s.heap.objs.size:=fun b hb e=>by
   subst e
   rcases zmem hb with rfl |rfl |rfl |⟨k,hk,e⟩
   ·exact hTne rfl
   ·exact absurd (Heap.lt_size t2) (by lia)
   ·exact absurd hTOl (by lia)
   ·obtain⟨o,e1,_⟩:=(t4 k _ (List.getElem?_eq_getElem hk)).obj
    have:=Heap.lt_size e1
    lia
  have hf1:∀b∈ZFp n0 z TI TO ps.length,zZ2 X pins (upd H s.heap.objs.size (.tup row)) b:=fun b hb=>⟨by rw[zf5 (fpn b hb)];exact (hf b hb).1,(hf b hb).2⟩
  have I2:Inv X pins σ (upd H s.heap.objs.size (.tup row)) { s with heap:=h3 }:=by
   refine Inv.turnedL (s:={ s with heap:=s.heap.push { cls:=.type "tuple", data:=.seq vs.toArray } }) (t':=s.toks) (ch:=ZFp n0 z TI TO ps.length) I1 (fun b o hb e=>?_) hf1
   have nb:b≠z∧b≠TO∧∀c∈sbs n0 rs,b≠c.it:=by
    refine⟨fun e=>hb (by simp[ZFp,e]),fun e=>hb (by simp[ZFp,e]),fun c hc e=>hb ?_⟩
    obtain⟨k,hk,ek⟩:=List.getElem_of_mem hc
    have hg:=List.getElem?_eq_getElem hk
    rw[ek,zq7]at hg
    obtain⟨r,hr,rfl⟩:=Option.map_eq_some_iff.mp hg
    have hkl:=(List.getElem?_eq_some_iff.mp hr).1
    simp only[ZFp,List.mem_cons,List.mem_map,List.mem_range]
    exact .inr (.inr (.inr ⟨k,by lia,by rw[e];rfl⟩))
   by_cases hbs:b=s.heap.objs.size
   ·subst hbs
    have e:some { cls:=Value.type "tuple", data:=Data.seq vs.toArray }=some o:=by rw[←e];exact (Heap.get?_push_size _ rfl).symm
    cases e
    exact s3.extBut _ _ hTne tup2
   ·have e':s.heap.get? b=some o:=get?_of_push hbs e
    exact s3.extBut _ _ nb.1 (kp2 b o nb.1 nb.2.1 nb.2.2 e')
  refine⟨.ref s.heap.objs.size,_,I2,rfl,⟨_,row,hfresh,rfl,rfl,fun wss pw=>?_⟩,⟨z3,?_,⟨vs,s3.extBut _ _ F.zT to2,by rw[hvl,hrl]⟩,?_⟩,fun b hb=>by rw[zf5 (fpn b hb)];exact (hf b hb).1⟩
  ·rw[hrow,zt0.injs I pw pr]
  ·have:=kp2 TI _ F.Tz.1 F.Tz.2 (fun b hb=>(F.iz b hb).2.2.symm) t2
   exact s3.extBut _ _ F.Tz.1 this
  ·intro k p hk
   have hr:∃r,rs[k]?=some r∧(r.l,r.tp)=p:=by
    rw[←ers,List.getElem?_map]at hk
    obtain⟨r,e1,e2⟩:=Option.map_eq_some_iff.mp hk
    exact⟨r,e1,e2⟩
   obtain⟨r,hr,rfl⟩:=hr
   have hb:(sbs n0 rs)[k]?=some (r.sb (n0+k)):=by rw[zq7,hr];rfl
   have hm:=List.mem_of_getElem? hb
   exact ((yo1.mp (on2 _ hm)).1).keep fun o e=>s3.extBut _ _ (F.iz _ hm).1 e
 done:=by
  intro X hP hw hK hc i pins s σ H E I hf st hg
  subst hP hw hK
  obtain⟨t1,t2,⟨ow,t3,t3'⟩,t4⟩:=st
  obtain⟨vss,pr,hend⟩:=hg
  obtain⟨rs,ers,prs,on⟩:=zt0.srcs I pr
  have hrl:rs.length=ps.length:=by rw[←ers];simp
  have F:=yD8 hn hz hTI hTO hlt ers
  refine zV9 (bs:=sbs n0 rs) (i:=i) (ow:=ow) (I.ok.hd hc) F t1 (by rw[zL5,hrl];exact t2) t3 (by rw[t3',zF4,hrl]) (zon ers t4 on) (zend prs hend) fun h2 kp2=>⟨rfl,?_⟩
  refine Inv.turnedL (t':=s.toks) (ch:=ZFp n0 z TI TO ps.length) I (fun b o hb e=>?_) hf
  refine kp2 b o (fun e=>hb (by simp[ZFp,e])) (fun e=>hb (by simp[ZFp,e])) (fun c hc e=>hb ?_) e
  obtain⟨k,hk,ek⟩:=List.getElem_of_mem hc
  have hg:=List.getElem?_eq_getElem hk
  rw[ek,zq7]at hg
  obtain⟨r,hr,rfl⟩:=Option.map_eq_some_iff.mp hg
  have hkl:=(List.getElem?_eq_some_iff.mp hr).1
  simp only[ZFp,List.mem_cons,List.mem_map,List.mem_range]
  exact .inr (.inr (.inr ⟨k,by lia,by rw[e];rfl⟩))
 self:=fun _ _ _ _ _ st h=>wpAny_pyIter_zip st.1 h
open PySem L2 PySem.SeqAt PyProof.Rows
noncomputable def iZip(K:Frag)(ta:TA):TI:=fun σ H R=>ta σ H fun vs H1=>∃ps:List (Nat×Bool),vs=ps.map (fun p=>V.ref p.1)∧(ps.length=2∨ps.length=3)∧∃vss,Paired (zt0 K H1) ps vss∧((∀vs∈vss,vs.length≤sizeLine)→R (Itz K ps) H1)
section
variable{X:Cx}{C:zc5}{e:Expr}{es elts:List Expr}{x1:Nat}{tpos pos p:Pos}{ta:TA}{irs:List E}
theorem zS4:∀{ps:List (Nat×Bool)} {us:List Value},zi9 (ps.map fun p=>V.ref p.1) us→us=ps.map fun p=>Value.ref p.1
 |[],_,.nil=>rfl
 |p::ps,_,.cons r t=>by rw[zS4 t,show _=Value.ref p.1 from r];rfl
theorem zt0.sizes{pins:List (Addr×Obj)}{σ:L2.St}{H:Hp}{s:Shared}(I:Inv X pins σ H s):∀{ps:List (Nat×Bool)} {vss:List (List V)},Paired (zt0 X.K H) ps vss→∀vs∈vss,vs.length≤sizeLine
 |_,_,.nil=>fun vs h=>by cases h
 | _,_,.cons a t=>fun vs h=>by
  rcases List.mem_cons.mp h with rfl |h
  ·obtain⟨_,_,_,z⟩:=zt0.src I a;exact z
  ·exact zt0.sizes I t vs h
theorem xa0(hg:Gl X "zip")(hm:X.mg "zip" = none)(hv:bootBuiltins "zip" = some (.type "zip"))(ha:PA X (e::es) ta)
  (he:starEach (e::es) X.env=(false,eval e X.env)::starEach es X.env) (hpl:(backTo pos (starEach es X.env)).any (·.1)=false):PI X (.Tuple elts x1 tpos) (.Call (.Name "zip" p) (e::es) [] pos) (iZip X.K ta):=by
 intro pins s σ H R I h
 refine wpAny_Call_Name_kw (zH0 I hg hm hv ?_)
 refine PyProof.Rows.callWith_type1 (thn (ha pos pins s σ H _ I h) fun us s1 ⟨vs,H1,I1,r1,q1⟩=>?_) he hpl
 obtain⟨ps,rfl,hn,vss,pr,hR⟩:=q1
 have hR:=hR (zt0.sizes I1 pr)
 have hus:=zS4 r1
 subst hus
 obtain⟨rs,ers,prs,on⟩:=zt0.srcs I1 pr
 have hrl:rs.length=ps.length:=by rw[←ers];simp
 have eus:(ps.map fun p=>Value.ref p.1)=rs.map fun r=>Value.ref r.l:=by rw[←ers,List.map_map];rfl
 rw[eus]
 refine yl6 rs (by lia) on ?_
 intro h2 z TI TO e1 e2 e3 g1 g2 g3 g4 g5 g6
 refine wpAny_pyIter_zip g1 ?_
 have hlt:∀p∈ps,p.1<s1.heap.objs.size:=fun p hp=>by
  rw[←ers]at hp
  obtain⟨r,hr,rfl⟩:=List.mem_map.mp hp
  exact Sr.lt (on r hr)
 have hfp:∀b∈ZFp s1.heap.objs.size z TI TO ps.length,s1.heap.objs.size≤b:=fun b hb=>by
  rcases zmem hb with rfl |rfl |rfl |⟨k,hk,rfl⟩ <;> lia
 refine⟨z,ZFp s1.heap.objs.size z TI TO ps.length,ZTn s1.heap.objs.size z TI TO ps,Itz X.K ps,H1,rfl,I1.kept (t':=s1.toks) g6,yv1 _ _ _ _ _ (by lia) (by lia) (by lia) (by lia) hlt,⟨g1,?_,⟨_,g3,?_⟩,fun k p hk=>?_⟩,fun b hb=>I1.fpOk (hfp b hb) (I1.hok.fresh (hfp b hb)),hR⟩
 ·rw[zL5,hrl]at g2;exact g2
 ·rw[List.length_map,zL5,List.length_map,List.length_range,hrl]
 ·rw[←ers,List.getElem?_map]at hk
  obtain⟨r,c1,rfl⟩:=Option.map_eq_some_iff.mp hk
  have hb:(sbs s1.heap.objs.size rs)[k]?=some (r.sb (s1.heap.objs.size+k)):=by rw[zq7,c1];rfl
  exact (yo1.mp (g4 _ (List.mem_of_getElem? hb))).1
theorem xc7{K:Frag}{H:Hp}{lv:Addr→Prop}{i:Nat}:∀{ls:List (List PV)} {vss:List (List V)},Paired (fun (l:List PV) vs=>RPs K H lv l vs) ls vss→(∀l∈ls,i<l.length) →
  RPs K H lv (ls.map fun l=>l.getD i .non) (vss.map fun vs=>vs.getD i .non)
 |_,_,.nil,_=>by simp[RPs]
 | l::ls,vs::vss,.cons h t,hl=>by
  have hi:=hl l (by simp)
  obtain⟨v,hv,rp⟩:=h.get (List.getElem?_eq_getElem hi)
  rw[List.map_cons,List.map_cons,RPs]
  refine⟨_,_,rfl,?_,xc7 t fun l' h'=>hl l' (List.mem_cons_of_mem _ h')⟩
  rw[List.getD_eq_getElem?_getD,List.getD_eq_getElem?_getD,hv,List.getElem?_eq_getElem hi]
  exact rp
theorem zW4{ls:List (List PV)}(hn:ls.length=2∨ls.length=3)(i:Nat):i<(zp1 ls).length↔∀l∈ls,i<l.length:=by
 match ls,hn with
 |[a,b],_=>simp[zp1];lia
 |[a,b,c],_=>simp[zp1];lia
 |[],h=>simp at h
 |[_],h=>simp at h
 |_::_::_::_::_,h=>simp at h
theorem yO9{ls:List (List PV)}(hn:ls.length=2∨ls.length=3){i:Nat}{x:PV}(h:(zp1 ls)[i]?=some x):x=.tup (ls.map fun l=>l.getD i .non):=by
 have hi:=(zW4 hn i).mp (List.getElem?_eq_some_iff.mp h).1
 match ls,hn with
 | [a,b],_ =>
  have ha:=hi a (by simp)
  have hb:=hi b (by simp)
  simp only[zp1,List.getElem?_map,Option.map_eq_some_iff]at h
  obtain⟨⟨u,v⟩,h1,rfl⟩:=h
  obtain⟨h2,h3⟩:=List.getElem?_zip_eq_some.mp h1
  simp[h2,h3]
 | [a,b,c],_ =>
  have ha:=hi a (by simp)
  have hb:=hi b (by simp)
  have hc:=hi c (by simp)
  simp only[zp1,List.getElem?_map,Option.map_eq_some_iff]at h
  obtain⟨⟨u,v,y⟩,h1,rfl⟩:=h
  obtain⟨h2,h3⟩:=List.getElem?_zip_eq_some.mp h1
  obtain⟨h4,h5⟩:=List.getElem?_zip_eq_some.mp h3
  simp[h2,h4,h5]
 |[],h=>simp at h
 |[_],h=>simp at h
 |_::_::_::_::_,h=>simp at h
end
open PySem L2 PySem.SeqAt PyProof.Rows
section
variable{X:Cx}{C:zc5}{pos:Pos}
end
theorem yJ8{fd:FuncData}{ps:List Str}(h:∀a,bindArgs fd ⟨[a],[]⟩=pure (ps.zip [a])):∀us:List Value,us.length=1→bindArgs fd ⟨us,[]⟩=pure (ps.zip us)
 |[a],_=>h a
theorem zK2{fd:FuncData}{ps:List Str}(h:∀a b,bindArgs fd ⟨[a,b],[]⟩=pure (ps.zip [a,b])):∀us:List Value,us.length=2→bindArgs fd ⟨us,[]⟩=pure (ps.zip us)
 |[a,b],_=>h a b
theorem yR6{fd:FuncData}{ps:List Str}(h:∀a b c,bindArgs fd ⟨[a,b,c],[]⟩=pure (ps.zip [a,b,c])):∀us:List Value,us.length=3→bindArgs fd ⟨us,[]⟩=pure (ps.zip us)
 |[a,b,c],_=>h a b c
open PySem L2 PySem.SeqAt PyProof.Rows
section
variable{X:Cx}{pins:List (Addr×Obj)}{σ:L2.St}{H:Hp}{s:Shared}{scope:Scope}{N:List Str}{cl:List (Str×Addr)}{fp:List Addr}{caps:List Nat}
end
section
variable{X:Cx}{elt iter tg:Expr}{ifs:List Expr}{scope:Scope}{pos:Pos}{N:List Str}{caps:List Nat}{n:Nat}{wi:TI}{g:TG}{tc:TT}{te:TE}
end
section
variable{X:Cx}{C:zc5}{elt iter tg:Expr}{ifs:List Expr}{ielt:E}{it:It}{t:Tg}{scope:Scope}{pos:Pos}{N:List Str}{caps:List Nat}{n:Nat}
end
open PySem L2 PySem.SeqAt PyProof.Rows
section
variable{prog:Program}{w:World}{A:Around}{E:Value→Shared→Prop}
theorem xa6{it l:Addr}{xs:Array Value}(ne:l≠it):∀(n i:Nat) (s:Shared) (Q:List Value→Shared→Prop),s.heap.IsListIter it l i→s.heap.IsList l xs→i+n≤xs.size →
  (∀h',h'.IsListIter it l (i+n)→Heap.SameBut it s.heap h'→Q ((xs.toList.drop i).take n) { s with heap:=h' })→wpAny (model prog w) A (draw (.ref it) n) Q E s
 |0,i,s,Q,a,_,_,q=>wpAny_pure (by simpa using q s.heap a (Heap.SameBut.refl ..))
 | n+1,i,s,Q,a,b,c,q=>by
  have lt:i<xs.size:=by lia
  show wpAny _ _ (pyNext (.ref it) >>= _) Q E s
  refine wpAny_bind (wpAny_pyNext_list_item a b (x:=xs[i]) (by simp[lt]) fun h1 a1 e1=>wpAny_bind (wpAny_holding (xa6 ne n (i+1) _ _ a1 (b.extBut e1.extBut ne) (by lia) fun h2 a2 e2=>wpAny_pure ?_)))
  have q':=q h2 (by rw[show i+(n+1)=i+1+n by lia];exact a2) (e1.trans e2)
  rw[show xs.toList.drop i=xs[i]::xs.toList.drop (i+1)by simp[List.drop_eq_getElem_cons,lt],List.take_succ_cons]at q'
  exact q'
theorem yO8{s:Shared}{l:Addr}{xs:Array Value}{ts:List (Bool×(Value→Sem Unit))}{Q:Unit→Shared→Prop}(hh:A.handled=none)(b:s.heap.IsList l xs)(hn:ts.length=xs.size)(hs:ts.findIdx? (·.1)=none)
  (q:∀h',Heap.ExtBut s.heap.objs.size s.heap h'→wpAny (model prog w) A (assignInOrder (ts.map (·.2)) xs.toList) Q E { s with heap:=h' }):wpAny (model prog w) A (unpack (.ref l) ts) Q E s:=by
 have ne:l≠s.heap.objs.size:=by obtain⟨o,ho,_⟩:=b;exact Nat.ne_of_lt (Heap.lt_size ho)
 unfold unpack
 rw[hn,hs]
 refine wpAny_bind (wpAny_holding ?_)
 unfold unpackItems notIterableAtAll
 refine wpAny_bind (wpAny_bind (wpAny_specialOf b.typeIs slot_list_iter.lookup (wpAny_pure ?_)))
 rw[if_neg (by simp)]
 refine wpAny_bind (wpAny_holding (wpAny_pyIter_list b (wpAny_bind (wpAny_holding (xa6 ne xs.size 0 _ _ ⟨_,Heap.get?_push_size _ rfl,rfl,rfl⟩ (b.push _) (by lia) fun h1 a1 e1=>?_)))))
 rw[List.drop_zero,List.take_of_length_le (by simp),if_neg (by simp)]
 refine wpAny_bind (wpAny_holding (wpAny_pyNext_list_end hh a1 ((b.push _).extBut e1.extBut ne) (by simp) fun h2 e2=>?_))
 rw[if_neg (by simp)]
 exact wpAny_pure (q h2 fun c o hc e=>e2 c o hc (e1.extBut c o hc (Heap.get?_push_of_some _ e)))
end
section
variable{X:Cx}{C:zc5}{W:Nat}{pos:Pos}
noncomputable def gSeq(K:Frag)(n:Nat)(t:TGs):TG:=fun v σ H Q=>∃a xs,v=.ref a∧(SqT K H a xs∨SqL K H a xs)∧xs.length=n∧t xs σ H Q
theorem yX8{es:List Expr}{k:Nat}{t:TGs}{n:Nat}(hc:X.calm=true)(h:PGs X es t)
  (hn:(assignEach es X.env).length=n) (hst:(assignEach es X.env).findIdx? (·.1)=none):PG X (.Tuple es k pos) (gSeq X.K n t):=by
 intro pins s σ H v u Q I r hw
 obtain⟨a,xs,e1,hq |hq,hl,hw⟩:=hw
 ·exact yH1 hc h hn hst pins s σ H v u Q I r ⟨a,xs,e1,hq,hl,hw⟩
 ·subst e1
  cases r
  obtain⟨its,rv,ht,hz⟩:=I.list hq
  rw[assign_Tuple]
  refine wpAny_bind (wpAny_standAt (yO8 (I.ok.hd hc) (xs:=its.toArray) ht.isList (by simp[hn,←hl,rv.length]) hst fun h' hx=>?_))
  have I1:Inv X pins σ H { s with heap:=h' }:=I.kept (t':=s.toks) fun b o e=>hx b o (Nat.ne_of_lt (Heap.lt_size e)) e
  exact h pins _ σ H xs _ Q I1 (by simpa using rv) hw
theorem yD1{es:List Expr}{is:List Nat}{e:Expr}{ie:E}{k:Nat}{pos':Pos}(hc:X.calm=true)(hg:PGs X es (tGs X.K is))(h:SE X C e ie)(hn:(assignEach es X.env).length=is.length)(hst:(assignEach es X.env).findIdx? (·.1)=none)
  (hs:swapsWithSole [.Tuple es k pos'] e pos.line X.env=pure false) (hw:swappedStores [.Tuple es k pos'] e X.env=pure none)
  (h1:(assignEach [.Tuple es k pos'] X.env).map (·.2)=[assign (.Tuple es k pos') X.env]):SS X C W (.Assign [.Tuple es k pos'] e pos) (.setT is (.blt .tuple [ie])) :=
 PS.mono (yE1 h (yX8 hc hg hn hst) hs hw h1) fun D σ H h_=>by
  obtain⟨env,α,st,fl,st',at',e,q⟩:=h_
  rw[yI2]at e
  obtain⟨v,st1,e1,e⟩:=Res.bind_inv e
  rw[zd3,zn5]at e1
  obtain⟨vs,st2,e1,e3⟩:=Res.bind_inv e1
  obtain⟨v0,st3,e1,e4⟩:=Res.bind_inv e1
  cases e4
  unfold opN at e3
  cases hv:view st2 v0 with
  | none =>
   have:zt1 st2 [v0]=none:=by rw[zt1,hv]
   rw[this]at e3;cases e3
  | some y =>
   have:zt1 st2 [v0]=some [y]:=by rw[zt1,hv,zt1]
   rw[this]at e3
   obtain⟨z,h1',h2',h3'⟩:=zx5 e3
   subst h2' h3'
   refine⟨env,α,st,v0,st1,at',e1,fun w H1 α1 x1 r1 v1=>?_⟩
   have hb:∃xs,z=.tup xs∧∃a vs,w=.ref a∧(SqT X.K H1 a vs∨SqL X.K H1 a vs)∧RPs X.K H1 (zh4 α1 st1) xs vs:=by
    have h1':yn4 y=some z:=h1'
    cases y with
    | tup xs =>
     cases h1'
     obtain⟨a,vs,rfl,h1,h2⟩:=(v1.view r1 hv).tup
     exact⟨xs,rfl,a,vs,rfl,.inl h1,h2⟩
    | lst xs =>
     cases h1'
     obtain⟨a,vs,rfl,h1,h2⟩:=(v1.view r1 hv).lst
     exact⟨xs,rfl,a,vs,rfl,.inr h1,h2⟩
    |_=>cases h1'
   obtain⟨xs,rfl,a,vs,rfl,h1,h2⟩:=hb
   have e:(match (if is.length=xs.length then some (yr2 is xs env)else none)with |some env'=>Res.ok (Flow.next env') st1 |none=>.stuck)=.ok fl st':=e
   by_cases hl:is.length=xs.length
   ·rw[if_pos hl]at e
    cases e
    exact⟨a,vs,rfl,h1,by rw[←h2.length,hl],env,α1,_,xs,at'.next x1 r1,h2,hl.symm,fun σ' at2=>q σ' H1 α1 x1 at2⟩
   ·rw[if_neg hl]at e;cases e
end
open PySem L2 PySem.SeqAt PyProof.Rows
theorem zZ6:∀a b:List Nat,strLt a b=PySem.Spec.ltCps a b
 |[],[]=>by rw[strLt];rfl
 |[],_::_=>by rw[strLt];rfl
 |_::_,[]=>by rw[strLt];rfl
 | x::r,y::s=>by
  rw[strLt,zZ6 r s]
  simp only[PySem.Spec.ltCps]
  by_cases c:x<y
  ·simp[c]
  ·by_cases c2:y<x
   ·simp[c,c2];lia
   ·have:x=y:=by lia
    subst this
    simp
theorem zQ5:∀{p:Str} {l:List Str},risingS p l=true→∀x∈l,strLt x.cps.toList p.cps.toList=false
 |p,[],_,x,hx=>by cases hx
 | p,y::r,h,x,hx=>by
  rw[risingS,Bool.and_eq_true,Bool.not_eq_true',←zZ6]at h
  rcases List.mem_cons.mp hx with rfl |hx
  ·exact h.1
  ·have h2:=zQ5 h.2 x hx
   cases c:strLt x.cps.toList p.cps.toList with
   |false=>rfl
   | true =>
    exfalso
    cases c2:strLt p.cps.toList y.cps.toList with
    |true=>have:=zE2 c c2;rw[h2]at this;cases this
    |false=>have e:=zH9 h.1 c2;rw[e,c]at h2;cases h2
section
variable{X:Cx}{C:zc5}{e:Expr}{ie:E}{pos p pos' p':Pos}
theorem yc5:∀{its:List Value} {ns:List Str},StrsAre its ns→zi9 (ns.map V.str) its
 |_,_,.nil=>.nil
 |_,_,.cons x t h=>.cons ⟨t,rfl⟩ (yc5 h)
theorem yb6{K:Frag}{H:Hp}{lv:Addr→Prop}:∀{ls:List (List Nat)} {vs:List V},RPs K H lv (ls.map .str) vs→∀c∈ls,c.length≤sizeLine
 |[],vs,h,c,hc=>by cases hc
 | b::r,vs,h,c,hc=>by
  rw[List.map_cons,RPs]at h
  obtain⟨v,vr,rfl,h1,h2⟩:=h
  rw[RP]at h1
  rcases List.mem_cons.mp hc with rfl |hc
  ·exact h1.2
  ·exact yb6 h2 c hc
theorem zO9{K:Frag}{H:Hp}{lv:Addr→Prop}:∀{ls:List (List Nat)},(∀c∈ls,c.length≤sizeLine)→RPs K H lv (ls.map .str) (ls.map fun c=>V.str (txt c))
 |[],_=>by rw[List.map_nil,RPs];rfl
 | n::r,h=>by
  rw[List.map_cons,RPs]
  exact⟨_,_,rfl,by rw[RP];exact⟨rfl,h n (by simp)⟩,zO9 fun c hc=>h c (List.mem_cons_of_mem _ hc)⟩
end
open PySem L2 PySem.SeqAt PyProof.Rows
theorem yG4{K:Frag}{α:Al}{st:za6}{H:Hp}{v:Val}{x:PV}{xs:List PV}{w:V}(r:RSt K α st H)(hv:view st v=some x)(hz:zr9 x=some xs)(h:RV K α st H v w):
  ∃ (p:Nat×Bool) (vs:List V),w=V.ref p.1∧zt0 K H p vs∧RPs K H (zh4 α st) xs vs ∧
   ∀α' st' H',Lk K α st H α' st' H'→RSt K α' st' H'→zG9 st' (yv5 v xs)=true→∃vs',zt0 K H' p vs'∧RPs K H' (zh4 α' st') xs vs':=by
 cases v with
 | p y =>
  cases hv
  cases x with
  | tup l =>
   cases hz
   have h:RP K H (zh4 α st) (.tup xs) w:=h
   rw[RP]at h
   obtain⟨a,vs,rfl,h1,h2⟩:=h
   exact⟨(a,true),vs,rfl,by unfold zt0;rw[if_pos rfl];exact h1,h2,fun α' st' H' lk r' _=>⟨vs,by unfold zt0;rw[if_pos rfl];exact lk.tup a vs h1,lk.rps h2⟩⟩
  | lst l =>
   cases hz
   have h:RP K H (zh4 α st) (.lst xs) w:=h
   rw[RP]at h
   obtain⟨a,vs,rfl,h1,h0,h2⟩:=h
   exact⟨(a,false),vs,rfl,by unfold zt0;rw[if_neg (by simp)];exact h1,h2,fun α' st' H' lk r' _=>⟨vs,by unfold zt0;rw[if_neg (by simp)];exact (lk.lst a vs h1 h0).1,lk.rps h2⟩⟩
  |_=>cases hz
 | ref n =>
  have look:∀{st:za6} {x:PV} {xs:List PV},view st (.ref n)=some x→zr9 x=some xs→zd0 st n=some (.lst xs):=by
   intro st x xs hv hz
   have hv:(match zd0 st n with |some (.lst xs)=>some (PV.lst xs)|_=>none)=some x:=hv
   cases ho:zd0 st n with
   |none=>rw[ho]at hv;cases hv
   | some ob =>
    rw[ho]at hv
    cases ob with
    |lst ys=>cases hv;cases hz;rfl
    |dct _=>cases hv
    |dtt _=>cases hv
    |dead=>cases hv
  obtain⟨a,rfl,ha⟩:=h
  obtain⟨a',vs,h1,h2,h3⟩:=r.lst n xs (look hv hz)
  rw[ha]at h1;cases h1
  refine⟨(a,false),vs,rfl,by unfold zt0;rw[if_neg (by simp)];exact SqL.of h2,h3,fun α' st' H' lk r' so=>?_⟩
  have so:view st' (.ref n)=some (.lst xs):=of_decide_eq_true so
  obtain⟨a',vs2,k1,k2,g2⟩:=r'.lst n xs (look so rfl)
  rw[lk.pre n a ha]at k1;cases k1
  exact⟨vs2,by unfold zt0;rw[if_neg (by simp)];exact SqL.of k2,g2⟩
section
variable{X:Cx}{C:zc5}{e:Expr}{es elts:List Expr}{x1:Nat}{tpos pos p:Pos}{ia ib:E}
theorem yN1(hg:Gl X "zip")(hm:X.mg "zip" = none)(hv:bootBuiltins "zip" = some (.type "zip"))(ha:SA X C (e::es) [ia,ib])
  (he:starEach (e::es) X.env=(false,eval e X.env)::starEach es X.env) (hpl:(backTo pos (starEach es X.env)).any (·.1)=false):SI X C (.Tuple elts x1 tpos) (.Call (.Name "zip" p) (e::es) [] pos) (.zipR ia ib) :=
 PI.mono (xa0 hg hm hv ha he hpl) fun σ H R h_=>by
  obtain⟨env,α,st,rows,src,st',at',ev,q⟩:=h_
  rw[yk1]at ev
  obtain⟨v,st1,e1,ev⟩:=Res.bind_inv ev
  obtain⟨y,st2,e2,ev⟩:=Res.bindP_inv ev
  have ee:evalEs C [ia,ib] env st=.ok [v,.p y] st2:=by
   rw[zn5,e1,Res.bind_ok,zn5,e2,Res.bind_ok,zy3];rfl
  refine⟨env,α,st,[v,.p y],st2,at',ee,fun ws H1 α1 x1 r1 pr=>?_⟩
  unfold ys5 at ev
  cases hv1:view st2 v with
  |none=>rw[hv1]at ev;cases ev
  | some x =>
   rw[hv1]at ev
   dsimp only at ev
   cases hz1:zr9 x with
   |none=>rw[hz1]at ev;cases ev
   | some xs =>
    rw[hz1]at ev
    dsimp only at ev
    cases hz2:zr9 y with
    |none=>rw[hz2]at ev;cases ev
    | some ys =>
     rw[hz2]at ev
     cases ev
     cases pr with
     | cons pv pr =>
      cases pr with
      | cons py pr =>
       cases pr
       obtain⟨p1,vs,rfl,c1,c2,c3⟩:=yG4 r1 hv1 hz1 pv
       obtain⟨p2,us,rfl,d1,d2,d3⟩:=yG4 (x:=y) r1 rfl hz2 py
       have zK2:∀{H:Hp} {lv:Addr→Prop} {vs us:List V},RPs X.K H lv xs vs→RPs X.K H lv ys us→∀i,(i<(zp1 [xs,ys]).length↔∀v∈[vs,us],i<v.length):=by
        intro H lv vs us g1 g2 i
        have k1:=g1.length
        have k2:=g2.length
        rw[zW4 (.inl rfl)]
        simp[k1,k2]
       refine⟨[p1,p2],rfl,.inl rfl,[vs,us],.cons c1 (.cons d1 .nil),fun hsize=>q _ _ _ x1 r1 (fun α2 st2 H2 lk r2 so=>?_) ?_⟩
       ·obtain⟨vs',a1,a2⟩:=c3 α2 st2 H2 lk r2 so
        obtain⟨us',b1,b2⟩:=d3 α2 st2 H2 lk r2 rfl
        have lenM:=zK2 a2 b2
        have d1:Paired (zt0 X.K H2) [p1,p2] [vs',us']:=.cons a1 (.cons b1 .nil)
        refine⟨fun i hi=>⟨[vs',us'],d1,(lenM i).mp hi⟩,fun i x w H' hx hyl=>?_,fun i hi=>?_⟩
        ·obtain⟨T,row,hT,hw,hH,hrow⟩:=hyl
         subst hw hH
         have s1:zl0 H2 (upd H2 T (.tup row)):=zg8 hT _
         refine⟨s1,?_⟩
         rw[yO9 (.inl rfl) hx,RP,hrow _ d1]
         refine⟨T,_,rfl,SqT.of ze2,?_⟩
         have hi:=(zW4 (.inl rfl) i).mp (List.getElem?_eq_some_iff.mp hx).1
         rw[hrow _ d1]at s1
         exact (Ext.of_same r2 s1).rps (xc7 (ls:=[xs,ys]) (.cons a2 (.cons b2 .nil)) hi)
        ·have:¬ ∀v∈[vs',us'],i<v.length:=fun h=>by
          have:=(lenM i).mpr h
          lia
         simp only[Classical.not_forall]at this
         obtain⟨v,hm,hlt⟩:=this
         exact⟨_,d1,v,hm,by lia⟩
       ·have k1:=c2.length
        have:=hsize vs (by simp)
        simp[zp1]
        lia
end
section
variable{X:Cx}{PR:List FD}{W d k:Nat}{pos p:Pos}
end
open PySem L2 PySem.SeqAt PyProof.Rows
section
variable{X:Cx}{C:zc5}{e:Expr}{es elts:List Expr}{x1:Nat}{tpos pos p:Pos}{ta:TA}{ia:E}
end
open PySem L2 PySem.SeqAt PyProof.Rows
theorem yq0:∀{l:List PV} {ls:List Row},rowsOf l=some ls→l=ls.map zn2∧∀X∈ls,X≠[]
 |[],ls,e=>by cases e;exact⟨rfl,fun X h=>by cases h⟩
 | x::l,ls,e=>by
  cases x with
  | tup xs =>
   rw[rowsOf]at e
   cases hs:zq0 xs with
   |none=>rw[hs]at e;cases e
   | some r =>
    rw[hs]at e
    cases r with
    |nil=>cases e
    | cons y ys =>
     dsimp only at e
     cases hr:rowsOf l with
     |none=>rw[hr]at e;cases e
     | some q =>
      rw[hr]at e
      cases e
      obtain⟨h1,h2⟩:=yq0 hr
      have:=zY2 hs
      subst this h1
      refine⟨rfl,fun X hX=>?_⟩
      rcases List.mem_cons.mp hX with rfl |hX
      ·simp
      ·exact h2 X hX
  |_=>cases e
theorem ya6:∀{X:Row} {its:List Value},zi9 (X.map fun c=>V.str (txt c)) its→txs its=some X
 |[],_,.nil=>rfl
 | c::X,_,.cons r t=>by
  obtain⟨u,rfl⟩:=(show ∃u,_=Value.str (txt c) u from r)
  rw[txs,ya6 t]
  simp[txt]
section
variable{X:Cx}{pins:List (Addr×Obj)}{σ:L2.St}{H:Hp}{s:Shared}{lv:Addr→Prop}
theorem xb2(I:Inv X pins σ H s){r:Row}{v:V}{u:Value}(h:RP X.K H lv (zn2 r) v)(ru:RelV v u):∃b,u=.ref b∧v=.ref b∧zx7 s.heap u=some r:=by
 unfold zn2 at h
 rw[RP]at h
 obtain⟨b,us,rfl,h1,h2⟩:=h
 have e:=zM8 h2
 subst e
 obtain rfl:=(show u=Value.ref b from ru)
 obtain⟨its,rv,⟨o,ho,hc,n,hd⟩,_⟩:=I.tuple h1
 refine⟨b,rfl,rfl,?_⟩
 unfold zx7
 dsimp only
 rw[ho]
 dsimp only
 rw[if_pos hc,hd]
 exact ya6 rv
theorem ys3(I:Inv X pins σ H s):∀{ls:List Row} {vs:List V} {its:List Value},RPs X.K H lv (ls.map zn2) vs→zi9 vs its→its.map (zx7 s.heap)=ls.map some∧∀u∈its,∃b r,u=.ref b∧zx7 s.heap u=some r∧RP X.K H lv (zn2 r) (.ref b)
 | [],vs,its,h,rv=>by
  rw[List.map_nil,RPs]at h
  subst h
  cases rv
  exact⟨rfl,fun u hu=>by cases hu⟩
 | r::ls,vs,its,h,rv=>by
  rw[List.map_cons,RPs]at h
  obtain⟨v,wr,rfl,h1,h2⟩:=h
  cases rv with
  | cons ra rt =>
   obtain⟨b,rfl,rfl,e⟩:=xb2 I h1 ra
   obtain⟨a1,a2⟩:=ys3 I h2 rt
   refine⟨by rw[List.map_cons,List.map_cons,e,a1],fun u hu=>?_⟩
   rcases List.mem_cons.mp hu with rfl |hu
   ·exact⟨b,r,rfl,e,h1⟩
   ·exact a2 u hu
theorem zS2{h:Heap}:∀{out:List Value} {Ys:List Row},out.map (zx7 h)=Ys.map some→(∀u∈out,∃b r,u=.ref b∧zx7 h u=some r∧RP X.K H lv (zn2 r) (.ref b))→∃ws:List V,zi9 ws out∧RPs X.K H lv (Ys.map zn2) ws
 |[],[],_,_=>⟨[],.nil,by rw[List.map_nil,RPs]⟩
 |[],_::_,e,_=>by cases e
 |_::_,[],e,_=>by cases e
 | u::out,Y::Ys,e,hu=>by
  rw[List.map_cons,List.map_cons]at e
  injection e with e1 e2
  obtain⟨ws,w1,w2⟩:=zS2 e2 fun q hq=>hu q (List.mem_cons_of_mem _ hq)
  obtain⟨b,r,rfl,e3,rp⟩:=hu u (by simp)
  rw[e1]at e3
  cases e3
  refine⟨.ref b::ws,.cons rfl w1,?_⟩
  rw[List.map_cons,RPs]
  exact⟨_,_,rfl,rp,w2⟩
theorem zC5{α:Al}{st:za6}{ls:List Row}{Q:V→Hp→Prop}{a:Addr}{vs:List V}{its:List Value}{T:String}{o:Obj}{n:Nat}(I:Inv X pins σ H s)(r:RSt X.K α st H)(hne:∀x∈ls,x≠[])(c:ls.length<64)
  (hT:T = "list" ∨ T = "tuple") (ho:s.heap.get? a=some o) (hc:o.cls=.type T) (hd:o.data=.seq its.toArray n) (r1:zi9 vs its) (h2:RPs X.K H (zh4 α st) (ls.map zn2) vs)
  (q:∀w H',zl0 H H'→RP X.K H' (zh4 α st) (.lst ((ls.foldl (fun d i=>yc2 i d) []).map zn2)) w→Q w H') :
  wpAny (model X.prog X.w) X.A (call (.builtin "sorted") [.ref a]) (fun u s1=>∃v H1,Inv X pins σ H1 s1∧RelV v u∧Q v H1) X.xe s:=by
 obtain⟨hX,hall⟩:=ys3 I h2 r1
 have hil:its.length=ls.length:=by
  have:=congrArg List.length hX
  simpa using this
 refine sorted_rows hT ho hc hd hX hne (by lia) fun out Ys h1 h' c2 o1 o2 o3 o4 k1 o5 o6=>?_
 obtain⟨f1,f2⟩:=yY9 ls
 have em:Ys=ls.foldl (fun d i=>yc2 i d) []:=yc4 o3 f1 (o2.trans f2.symm)
 rw[←em]at q
 obtain⟨ws,w1,w2⟩:=zS2 (X:=X) (H:=H) (lv:=zh4 α st) o1 fun u hu=>hall u (o4.mem_iff.mp hu)
 have hln:ws.length≤sizeLine:=by
  rw[w1.length,o4.length_eq,hil]
  exact Nat.le_trans (Nat.le_of_lt c) (by decide)
 have I1:Inv X pins σ H { s with heap:=h1 }:=I.kept (t':=s.toks) k1
 have I2:=I1.laid (a:=h1.objs.size) (o:=.lst ws) (h':=h') (t':=s.toks) o6 (Nat.le_refl _) (show zl8 X.prog X.w _ h' _ (.lst ws)from⟨hln,out,c2,w1,o5⟩)
 have hf:H h1.objs.size=none:=I1.hok.fresh (Nat.le_refl _)
 have s1:zl0 H (upd H h1.objs.size (.lst ws)):=zg8 hf _
 refine⟨.ref h1.objs.size,_,I2,rfl,q _ _ s1 ?_⟩
 rw[RP]
 exact⟨_,_,rfl,SqL.of ze2,r.notlive hf,(Ext.of_same r s1).rps w2⟩
end
open PySem L2 PySem.SeqAt PyProof.Rows
theorem zJ8:∀{l:List Str},sortedS l=true→(l.map fun s=>s.cps.toList).Pairwise (fun a b=>strLt b a=false)
 |[],_=>.nil
 | x::r,h=>by
  have h:risingS x r=true:=h
  rw[List.map_cons,List.pairwise_cons]
  refine⟨fun y hy=>?_,zJ8 ?_⟩
  ·obtain⟨s,hs,rfl⟩:=List.mem_map.mp hy
   exact zQ5 h s hs
  ·cases r with
   |nil=>rfl
   | cons y q =>
    rw[risingS,Bool.and_eq_true]at h
    exact h.2
theorem zP7{ls:List (List Nat)}{ms:List Str}(hp:ms.Perm (ls.map txt))(hs:sortedS ms=true):ms=(ls.foldl (fun d i=>zX5 i d) []).map txt:=by
 obtain⟨a,b⟩:=xb8 ls
 have e:(ms.map fun s=>s.cps.toList)=ls.foldl (fun d i=>zX5 i d) []:=by
  refine zZ7 (zJ8 hs) a ?_
  refine (hp.map fun s:Str=>s.cps.toList).trans (List.Perm.trans ?_ b.symm)
  rw[List.map_map]
  have:((fun s:Str=>s.cps.toList)∘txt)=fun c=>c:=by
   funext c
   simp[txt]
  rw[this,List.map_id']
 rw[←e,List.map_map]
 have:(txt∘fun s:Str=>s.cps.toList)=fun s=>s:=by
  funext s
  simp[txt]
 rw[this,List.map_id']
section
variable{prog:Program}{w:World}{A:Around}{E:Value→Shared→Prop}{s:Shared}
theorem zX1{a:Addr}{o:Obj}{T:String}{vs:List Value}{n:Nat}{ks:List Str}{Q:Value→Shared→Prop}(hT:T = "list" ∨ T = "tuple")(ho:s.heap.get? a=some o)(hc:o.cls=.type T)(hd:o.data=.seq vs.toArray n)(i1:StrsAre vs ks)(hvl:vs.length<64)
  (hQ:∀(out:List Value) (ns:List Str) (h1 h':Heap) (c:Nat),StrsAre out ns→ns.Perm ks→sortedS ns=true→(∀b o,s.heap.get? b=some o→h1.get? b=some o)→h'.get? h1.objs.size=some (seqObj "list" out.toArray c)→(∀b o,h1.get? b=some o→h'.get? b=some o)→Q (.ref h1.objs.size) { s with heap:=h' }) :
  wpAny (model prog w) A (call (.builtin "sorted") [.ref a]) Q E s:=by
 refine Calls.call_function_entry kind_sorted plain_sorted entry_sorted (args_sorted1 _) ?_
 unfold Builtin.«sorted»
 refine wpAny_bind (m:=checkCount "sorted" 1 1 _) (wpAny_pure ?_)
 refine wpAny_bind (wpAny_collect_seq a hT ho hc hd (fun h1 hk=>?_) (by simp only[List.size_toArray];exact Nat.le_trans (Nat.le_of_lt hvl) (by decide)))
 rw[show vs.toArray.toList=vs by simp]
 refine wpAny_bind (wpAny_newList ?_ (hsz:=by have:sizeLine=sizeLine:=rfl;exact Nat.le_trans (Nat.le_of_lt hvl) (by decide)))
 generalize hob:({ cls:=.type "list", data:=.seq vs.toArray }:Obj)=ob
 have hg:(h1.push ob).get? h1.objs.size=some ob:=Heap.get?_push_size _ (by subst hob;rfl)
 subst hob
 refine wpAny_bind (wpAny_holding (wpAny_call_entry slot_list_sort ⟨_,hg,rfl⟩ entry_list_sort (list_sort_treeK (s:={ s with heap:=h1.push _ }) strKind_oneLt hg i1.keysOf (fun v₁ v₂ zn7 e=>keyKind_strs (by rw[←e];exact i1)) hvl fun st a1 a2=>⟨_,rfl,?_⟩) (args_list_sort _)))
 refine wpAny_pure ⟨_,rfl,?_⟩
 obtain⟨ns,b1,b2,b3⟩:=sorted_out_str i1 a1 a2
 generalize Array.map (fun x=>x.2) (arrOf st)=out at b1 ⊢
 obtain⟨e1,g1⟩:∃e1,((h1.push (seqObj "list" vs.toArray 0)).update h1.objs.size (Obj.mapSeq fun _=>#[])).get? h1.objs.size=some (seqObj "list" #[] e1):=⟨_,get?_update_seq hg fun _=>#[]⟩
 have g2:=get?_update_seq (Heap.get?_push_of_some (seqObj "list" #[] 0) (Heap.get?_push_of_some (seqObj "tuple" vs.toArray 0) g1)) fun _=>out
 refine hQ out.toList ns h1 _ _ b1 b2 b3 hk g2 fun b o e=>?_
 have hb:b<h1.objs.size:=Heap.lt_size e
 have hne:h1.objs.size≠b:=Nat.ne_of_gt hb
 show (sortedHeap _ _ _ _).get? b=some o
 unfold sortedHeap
 rw[Heap.get?_update_other _ _ hne]
 refine Heap.get?_push_of_some _ (Heap.get?_push_of_some _ ?_)
 rw[Heap.get?_update_other _ _ hne]
 exact Heap.get?_push_of_some _ e
end
section
variable{X:Cx}
theorem yz4:zz7 X (.builtin "sorted") (f1 zz9):=by
 rintro pins s σ H ws us Q I rs ⟨α,st,xs,z,r,pr,hz,q⟩
 cases pr with
 |nil=>cases hz
 | cons h t =>
  cases t with
  |cons _ _=>cases hz
  | nil =>
   rename_i x w
   have hz:zz9 x=some z:=hz
   unfold zz9 at hz
   cases hi:zr9 x with
   |none=>rw[hi]at hz;cases hz
   | some l =>
    rw[hi]at hz
    dsimp only at hz
    cases hs:zq0 l with
    | none =>
     rw[hs]at hz
     dsimp only at hz
     cases hr:rowsOf l with
     |none=>rw[hr]at hz;cases hz
     | some ls =>
      rw[hr]at hz
      dsimp only at hz
      by_cases c:ls.length<64
      ·rw[if_pos c]at hz
       have hz2:=Option.some.inj hz
       obtain⟨el,hne⟩:=yq0 hr
       subst el
       rw[←hz2]at q
       cases x with
       | lst l' =>
        cases hi
        obtain⟨a,vs,rfl,h1,h2⟩:=h.lst
        cases rs with
        | cons ra rt =>
         cases rt
         obtain rfl:=(show _=Value.ref a from ra)
         obtain⟨its,r1,pl,_⟩:=I.list h1
         obtain⟨o,n,ho,hc,_,hd⟩:=id pl
         exact zC5 I r hne c (.inl rfl) ho hc hd r1 h2 q
       | tup l' =>
        cases hi
        obtain⟨a,vs,rfl,h1,h2⟩:=h.tup
        cases rs with
        | cons ra rt =>
         cases rt
         obtain rfl:=(show _=Value.ref a from ra)
         obtain⟨its,r1,pl,_⟩:=I.tuple h1
         obtain⟨o,ho,hc,n,hd⟩:=id pl
         exact zC5 I r hne c (.inr rfl) ho hc hd r1 h2 q
       |_=>cases hi
      ·rw[if_neg c]at hz;cases hz
    | some ls =>
     rw[hs]at hz
     dsimp only at hz
     by_cases c:ls.length<64
     ·rw[if_pos c]at hz
      have hz2:=Option.some.inj hz
      have el:=zY2 hs
      subst el
      have fin:∀(a:Addr) (vs:List V) (its:List Value) (T:String) (o:Obj) (n:Nat),(T = "list" ∨ T = "tuple")→s.heap.get? a=some o→o.cls=.type T→o.data=.seq its.toArray n→zi9 vs its→RPs X.K H (zh4 α st) (ls.map .str) vs →
        wpAny (model X.prog X.w) X.A (call (.builtin "sorted") [.ref a]) (fun u s1=>∃v H1,Inv X pins σ H1 s1∧RelV v u∧Q v H1) X.xe s:=by
       intro a vs its T o n hT ho hc hd r1 h2
       have hlen:=yb6 h2
       have ev:=zM8 h2
       subst ev
       have sa:=zT3 r1
       have hil:its.length=ls.length:=by have:=HT.strs_len sa;simpa using this.symm
       refine zX1 hT ho hc hd sa (by lia) fun out ms h1 h' c2 o1 o2 o3 k1 o5 o6=>?_
       have em:=zP7 o2 o3
       have hml:ms.length≤64:=by rw[o2.length_eq,List.length_map];lia
       have fm:=(xb8 ls).2
       generalize ls.foldl (fun d i=>zX5 i d) []=fs at em fm hz2
       have hv:zi9 (fs.map fun c=>V.str (txt c)) out:=by
        have:=yc5 o1
        rwa [em,List.map_map]at this
       have hln:(fs.map fun c=>V.str (txt c)).length≤sizeLine:=by
        rw[em,List.length_map]at hml
        rw[List.length_map]
        exact Nat.le_trans hml (by decide)
       have I1:Inv X pins σ H { s with heap:=h1 }:=I.kept (t':=s.toks) k1
       have I2:=I1.laid (a:=h1.objs.size) (o:=.lst (fs.map fun c=>V.str (txt c))) (h':=h') (t':=s.toks) o6 (Nat.le_refl _) (show zl8 X.prog X.w _ h' _ (.lst (fs.map fun c=>V.str (txt c)))from⟨hln,out,c2,hv,o5⟩)
       have hf:H h1.objs.size=none:=I1.hok.fresh (Nat.le_refl _)
       have s1:zl0 H (upd H h1.objs.size (.lst (fs.map fun c=>V.str (txt c)))):=zg8 hf _
       refine⟨.ref h1.objs.size,_,I2,rfl,q _ _ s1 ?_⟩
       rw[←hz2,RP]
       exact⟨_,_,rfl,SqL.of ze2,r.notlive hf,zO9 fun c hc=>hlen c (fm.mem_iff.mp hc)⟩
      cases x with
      | lst l' =>
       cases hi
       obtain⟨a,vs,rfl,h1,h2⟩:=h.lst
       cases rs with
       | cons ra rt =>
        cases rt
        obtain rfl:=(show _=Value.ref a from ra)
        obtain⟨its,r1,pl,_⟩:=I.list h1
        obtain⟨o,n,ho,hc,_,hd⟩:=id pl
        exact fin a vs its "list" o n (.inl rfl) ho hc hd r1 h2
      | tup l' =>
       cases hi
       obtain⟨a,vs,rfl,h1,h2⟩:=h.tup
       cases rs with
       | cons ra rt =>
        cases rt
        obtain rfl:=(show _=Value.ref a from ra)
        obtain⟨its,r1,pl,_⟩:=I.tuple h1
        obtain⟨o,ho,hc,n,hd⟩:=id pl
        exact fin a vs its "tuple" o n (.inr rfl) ho hc hd r1 h2
      |_=>cases hi
     ·rw[if_neg c]at hz;cases hz
end
open PySem L2 PySem.SeqAt PyProof.Rows
theorem yc9{K:Frag}{H:Hp}{lv:Addr→Prop}{k:PV}{k':Key}(hk:keyOf k=some k'):∀{kvs:List (PV×PV)} {l:List (Key×V)},RKV K H lv kvs l→zL3 k kvs=none→yb3 l k'=none
 | [],l,h,e=>by
  rw[RKV]at h
  subst h
  rfl
 | (k1,x1)::r,l,h,e=>by
  rw[RKV]at h
  obtain⟨k2,v,l',rfl,h1,h2,h3⟩:=h
  rw[zL3]at e
  by_cases hc:k1=k
  ·rw[if_pos hc]at e;cases e
  ·rw[if_neg hc]at e
   rw[zz3]
   ·exact yc9 hk h3 e
   ·intro e'
    have:k2=k':=e'
    subst this
    exact hc (zz1 h1 hk)
theorem zR2{x:PV}(h:zy8 x=true):∃k,keyOf x=some k:=by
 cases x with
 |int i=>exact⟨_,rfl⟩
 |str cs=>exact⟨_,rfl⟩
 |_=>cases h
section
variable{X:Cx}{C:zc5}{o e f:Expr}{io ie iff:E}{apos cpos:Pos}
theorem yN4(hu:X.A.units+1<cLine)(ho:SE X C o io)(he:SE X C e ie)(hf:SE X C f iff)(m:M2 X o "get" apos e f cpos):SE X C (.Call (.Attribute o "get" apos) [e,f] [] cpos) (.dget io ie iff) :=
 PE.mono (yB0 hu ho he hf m) fun σ H Q h_=>by
  obtain⟨env,α,st,v,st',at',e,q⟩:=h_
  rw[zV0]at e
  obtain⟨ov,st1,e1,e⟩:=Res.bind_inv e
  refine⟨env,α,st,ov,st1,at',e1,fun w H1 α1 x1 r1 v1=>?_⟩
  obtain⟨_,st2,e2,e⟩:=Res.bind_inv e
  cases ov with
  |p x=>cases e2
  | ref n =>
   have e2:(match zd0 st1 n with |some (.dct _)=>Res.ok () st1 |_=>.stuck)=.ok _ st2:=e2
   obtain⟨p,rfl,hp⟩:=id v1
   cases hob:zd0 st1 n with
   |none=>rw[hob]at e2;cases e2
   | some ob =>
    rw[hob]at e2
    cases ob with
    |lst _=>cases e2
    |dtt _=>cases e2
    |dead=>cases e2
    | dct kvs =>
     cases e2
     obtain⟨p',l,g1,g2,g3⟩:=r1.dct n kvs hob
     rw[hp]at g1;cases g1
     refine⟨p,rfl,.inl ⟨l,.inl g2⟩,?_⟩
     obtain⟨kx,st3,e3,e⟩:=Res.bindP_inv e
     refine⟨env,α1,st1,_,st3,at'.next x1 r1,e3,fun wk H2 α2 x2 r2 v2=>?_⟩
     obtain⟨x,st4,e4,e⟩:=Res.bindP_inv e
     refine⟨env,α2,st3,_,st4,(at'.next x1 r1).next x2 r2,e4,fun wx H3 α3 x3 r3 v3=>?_⟩
     have e:(match zd0 st4 n with |some (.dct kvs)=>(if zy8 kx=true then Res.ok (.p ((zL3 kx kvs).getD x)) st4 else .stuck)|_=>.stuck)=Res.ok v st':=e
     cases hob4:zd0 st4 n with
     |none=>rw[hob4]at e;cases e
     | some ob4 =>
      rw[hob4]at e
      cases ob4 with
      |lst _=>cases e
      |dtt _=>cases e
      |dead=>cases e
      | dct kvs4 =>
       have e:(if zy8 kx=true then Res.ok (.p ((zL3 kx kvs4).getD x)) st4 else .stuck)=Res.ok v st':=e
       by_cases hkx:zy8 kx=true
       ·rw[if_pos hkx]at e
        cases e
        obtain⟨k,hk⟩:=zR2 hkx
        obtain⟨p',l4,g1,g2,g3⟩:=r3.dct n kvs4 hob4
        rw[x3.pre _ _ (x2.pre _ _ hp)]at g1;cases g1
        have hw:wk=kV k:=yq8 (.inl v2) hk
        subst hw
        refine⟨yb3 l4 k,yw8.k g2,?_⟩
        cases hd:zL3 kx kvs4 with
        | none =>
         rw[yc9 hk g3 hd]
         rw[hd]at q
         exact q _ H3 α3 (x1.trans (x2.trans x3)) r3 v3
        | some y =>
         obtain⟨u,f1,f2⟩:=zV6 hk g3 hd
         rw[f1]
         rw[hd]at q
         exact q _ H3 α3 (x1.trans (x2.trans x3)) r3 f2
       ·rw[if_neg hkx]at e;cases e
end
open PySem L2 PySem.SeqAt PyProof.Rows
section
variable{X:Cx}{C:zc5}{e e2:Expr}{pos pos' p p':Pos}{ta:TA}{ia ib:E}
end
open PySem L2 PySem.SeqAt PyProof.Rows
section
variable{K:Frag}{H:Hp}{lv:Addr→Prop}{k x:PV}{k':List Key}
end
section
variable{X:Cx}{C:zc5}{W:Nat}{a b:Expr}{ia ib:E}{pos:Pos}
end
section
variable{X:Cx}{C:zc5}{W:Nat}{o i value:Expr}{io ii iv:E}{pos pos':Pos}{fs:List (List Nat)}
end
open PySem L2 PySem.SeqAt PyProof.Rows
section
open PySem.AutoSeq1 (wpAny_loadPart')
open PySem.MeetsSeq PySem.MeetsSeq2 PySem.MeetsSeq3
end
section
variable{X:Cx}{C:zc5}{o e:Expr}{io ie:E}{apos cpos:Pos}{pins:List (Addr×Obj)}{s:Shared}{σ:L2.St}{H:Hp}
end
open PySem L2 PySem.SeqAt PyProof.Rows
theorem zM5:Manifest.owners.lookup (String.ofList ['d','e','s','r','e','v','e','r'].reverse)=some Manifest.sig_reversed:=by kernel_rfl
theorem zG7:Slot "reversed" "__next__" "reversed.__next__" :=
 .of (owner := "reversed") (n := "__next__") (by rw[typeLookup_type,builtinLookup_eq_fast];kernel_rfl) (by decide +kernel) (by decide +kernel) (by decide +kernel) (by first |exact .inl (by decide +kernel)|exact .inr (by decide +kernel)) (by rw[isSubtype_type];kernel_rfl)
theorem yo5:Slot "reversed" "__iter__" "reversed.__iter__" :=
 .of (owner := "reversed") (n := "__iter__") (by rw[typeLookup_type,builtinLookup_eq_fast];kernel_rfl) (by decide +kernel) (by decide +kernel) (by decide +kernel) (by first |exact .inl (by decide +kernel)|exact .inr (by decide +kernel)) (by rw[isSubtype_type];kernel_rfl)
theorem zV7:Slot "reversed" "__length_hint__" "reversed.__length_hint__" :=
 .of (owner := "reversed") (n := "__length_hint__") (by rw[typeLookup_type,builtinLookup_eq_fast];kernel_rfl) (by decide +kernel) (by decide +kernel) (by decide +kernel) (by first |exact .inl (by decide +kernel)|exact .inr (by decide +kernel)) (by rw[isSubtype_type];kernel_rfl)
theorem yP2:Slot "reversed" "__init__" "object.__init__" :=
 .of (owner := "object") (n := "__init__") (by rw[typeLookup_type,builtinLookup_eq_fast];kernel_rfl) (by decide +kernel) (by decide +kernel) (by decide +kernel) (by first |exact .inl (by decide +kernel)|exact .inr (by decide +kernel)) (by rw[isSubtype_type];kernel_rfl)
theorem yb1:entryFor table "reversed.__next__" = some Builtin.«reversed.__next__»:=entryFor_of_tree (by kernel_rfl)
theorem yy3:entryFor table "reversed.__length_hint__" = some Builtin.«reversed.__length_hint__»:=entryFor_of_tree (by kernel_rfl)
theorem yB3:entryFor table "reversed.__iter__" = some Builtin.«dict_keyiterator.__iter__» :=
 entryFor_alias (id' := "dict_keyiterator.__iter__") (by kernel_rfl) (by first |rfl |decide +kernel) (by decide +kernel) (by kernel_rfl)
theorem yc1(a:Value):argsOk "reversed.__next__" ⟨[a],[]⟩:=by
 unfold argsOk;rw[signature?_of (id := "reversed.__next__") (n:=['_','_','t','x','e','n','_','_']) (o:=['d','e','s','r','e','v','e','r']) (by kernel_rfl) zM5];kernel_rfl
theorem yB4(a:Value):argsOk "reversed.__iter__" ⟨[a],[]⟩:=by
 unfold argsOk;rw[signature?_of (id := "reversed.__iter__") (n:=['_','_','r','e','t','i','_','_']) (o:=['d','e','s','r','e','v','e','r']) (by kernel_rfl) zM5];kernel_rfl
theorem yC7(a:Value):argsOk "reversed.__length_hint__" ⟨[a],[]⟩:=by
 unfold argsOk;rw[signature?_of (id := "reversed.__length_hint__") (n:=['_','_','t','n','i','h','_','h','t','g','n','e','l','_','_']) (o:=['d','e','s','r','e','v','e','r']) (by kernel_rfl) zM5];kernel_rfl
theorem yB2:typeLookup (.type "reversed") "__len__" = pure none:=by rw[typeLookup_type,builtinLookup_eq_fast];kernel_rfl
theorem yB6:typeLookup (.type "tuple") "__reversed__" = pure none:=by rw[typeLookup_type,builtinLookup_eq_fast];kernel_rfl
theorem yk6:TypeCalled "reversed" "reversed.__new__" "object.__init__" :=
 ⟨by decide +kernel,by decide +kernel,⟨_,_,F.mro_reversed⟩,F.made_reversed,by decide +kernel,by rw[isSubtype_type];kernel_rfl,yP2⟩
def zO2(h:Heap)(r l:Addr)(i:Int):Prop:=∃o,h.get? r=some o∧o.cls=.type "reversed" ∧ o.data=.fields #[.ref l,rawInt i]
theorem zO2.ty{s:Shared}{r l:Addr}{i:Int}(x:zO2 s.heap r l i):s.TypeIs (.ref r) "reversed" := by
 obtain⟨o,ho,hc,_⟩:=x
 exact⟨o,ho,hc⟩
theorem zO2.keep{h h':Heap}{r l:Addr}{i:Int}(x:zO2 h r l i)(e:∀o,h.get? r=some o→h'.get? r=some o):zO2 h' r l i:=by
 obtain⟨o,ho,q⟩:=x
 exact⟨o,e _ ho,q⟩
section
variable{prog:Program}{w:World}{A:Around}{E:Value→Shared→Prop}{s:Shared}
theorem yq7{r l:Addr}{i:Int}{Q:Value→Shared→Prop}(x:zO2 s.heap r l i)(h:Q (.ref r) s):wpAny (model prog w) A (pyIter (.ref r)) Q E s:=by
 refine wpAny_pyIter_slot x.ty yo5 (wpAny_call_entry yo5 x.ty yB3 ?_ (yB4 _))
 show wpAny _ _ (ret (.ref r)) _ _ s
 exact wpAny_pure ⟨_,rfl,"reversed", _,x.ty,zG7.lookup,h⟩
theorem yK0{r l:Addr}{i:Nat}{its:Array Value}{v:Value}{Q:Option Value→Shared→Prop}(x:zO2 s.heap r l (i:Int))(ht:IsTup s.heap l its)(hz:its.size<2 ^ 63)(hv:its[i]?=some v)
  (hQ:∀h' tk,zO2 h' r l ((i:Int)-1)→Heap.SameBut r s.heap h'→Q (some v) { s with heap:=h',toks:=tk }):wpAny (model prog w) A (pyNext (.ref r)) Q E s:=by
 obtain⟨o,ho,hc,hd⟩:=id x
 have hi:i<its.size:=by
  have:=(Array.getElem?_eq_some_iff.mp hv).1
  exact this
 unfold pyNext
 refine wpAny_bind (wpAny_attempt (wpAny_callSpecial?_slot (name:=Str.ofString "__next__") x.ty zG7 (wpAny_call_entry zG7 x.ty yb1 ?_ (yc1 _))))
 unfold Builtin.«reversed.__next__»
 refine wpAny_bind (wpAny_of_eq (a:=(Value.ref r,[])) rfl ?_)
 try dsimp only
 refine wpAny_bind (wpAny_field ho hd (x:=.ref l) rfl ?_)
 refine wpAny_bind (wpAny_field ho hd (x:=rawInt (i:Int)) rfl ?_)
 show wpAny _ _ (if (i:Int)<0 then _ else _) _ _ s
 rw[if_neg (by omega)]
 refine wpAny_bind (wpAny_specialOf ht.typeIs PySem.F.slot_tuple_getitem.lookup ?_)
 show wpAny _ _ (if (some (Value.builtin "tuple.__getitem__")).isNone=true then _ else _) _ _ s
 rw[if_neg (by decide)]
 refine wpAny_bind (wpAny_mkInt ?_)
 refine wpAny_bind (wpAny_attempt (getItem_tuple (j:=i) (x:=v) ht (by omega) (by omega) ?_ hv ?_))
 ·unfold seqIndex?
  simp
  omega
 dsimp only
 refine wpAny_bind (wpAny_field (s:={ s with toks:=s.toks+1 }) ho hd (x:=rawInt (i:Int)) rfl ?_)
 show wpAny _ _ (setField (.ref r) 1 (rawInt ((i:Int)-1)) >>= _) _ _ _
 refine wpAny_bind (wpAny_setField (s:={ s with toks:=s.toks+1 }) ho hd (by simp) ?_)
 refine wpAny_pure ⟨v,rfl,wpAny_pure (hQ _ _ ?_ (Heap.SameBut.update ..))⟩
 exact⟨_,Heap.get?_update_self _ ho (Obj.isFreed_of_fields (Obj.data_mapFields hd _)),(Obj.cls_mapFields ..).trans hc,by rw[Obj.data_mapFields hd];simp⟩
theorem yR3{α:Type}{Q:α→Shared→Prop}{E:Value→Shared→Prop}(hh:A.handled=none)(h:∀(b:Addr) (h':Heap),(∀c o,s.heap.get? c=some o→h'.get? c=some o)→(∃o,h'.get? b=some o∧o.cls=.type "StopIteration")→E (.ref b) { s with heap:=h' }):
  wpAny (model prog w) A (newExc (.type "StopIteration") [] >>= fun e=>(raiseNew e:Sem α)) Q E s:=by
 refine wpAny_bind ?_
 simp only[newExc,newTuple]
 refine wpAny_bind (wpAny_newObj_type ?_ (by size_fits))
 refine wpAny_bind (m:=firstArgMember _ _) (wpAny_of_eq (a:=Value.none) rfl ?_)
 refine wpAny_newObj_type ?_ (by size_fits)
 simp only[raiseNew]
 refine wpAny_bind (wpAny_handled ?_)
 rw[hh]
 refine wpAny_bind (wpAny_pure (wpAny_throw (h _ _ (fun c o e=>Heap.get?_push_of_some _ (Heap.get?_push_of_some _ e)) ⟨_,Heap.get?_push_size _ rfl,rfl⟩)))
theorem yV7{r l:Addr}{Q:Option Value→Shared→Prop}(hh:A.handled=none)(x:zO2 s.heap r l (-1))(hQ:∀h',Heap.ExtBut r s.heap h'→Q none { s with heap:=h' }):wpAny (model prog w) A (pyNext (.ref r)) Q E s:=by
 obtain⟨o,ho,hc,hd⟩:=id x
 unfold pyNext
 refine wpAny_bind (wpAny_attempt (wpAny_callSpecial?_slot (name:=Str.ofString "__next__") x.ty zG7 (wpAny_call_entry zG7 x.ty yb1 ?_ (yc1 _))))
 unfold Builtin.«reversed.__next__»
 refine wpAny_bind (wpAny_of_eq (a:=(Value.ref r,[])) rfl ?_)
 try dsimp only
 refine wpAny_bind (wpAny_field ho hd (x:=.ref l) rfl ?_)
 refine wpAny_bind (wpAny_field ho hd (x:=rawInt (-1)) rfl ?_)
 show wpAny _ _ (if (-1:Int)<0 then _ else _) _ _ s
 rw[if_pos (by decide)]
 refine wpAny_bind (wpAny_rule ?_)
 refine wpAny_bind ?_
 show wpAny _ _ (setField (.ref r) 1 (rawInt (-1)) >>= fun _=>setField (.ref r) 0 .none) _ _ s
 refine wpAny_bind (wpAny_setField ho hd (by simp) ?_)
 have hd1:=Obj.data_mapFields hd (fun vs=>vs.set! 1 (rawInt (-1)))
 refine wpAny_setField (Heap.get?_update_self _ ho (Obj.isFreed_of_fields hd1)) hd1 (by simp) ?_
 have k2:Heap.ExtBut r s.heap ((s.heap.update r (Obj.mapFields (·.setIfInBounds 1 (rawInt (-1))))).update r (Obj.mapFields (·.setIfInBounds 0 .none))):=fun b o hb e=>(Heap.get?_update_other _ _ (Ne.symm hb)).trans ((Heap.get?_update_other _ _ (Ne.symm hb)).trans e)
 refine wpAny_bind ?_
 refine yR3 (A:=A.in1) hh fun b h' k hp=>?_
 obtain⟨p,hp,hpc⟩:=hp
 refine wpAny_bind (wpAny_isInstance (T := "StopIteration") (b:=true) ⟨p,hp,hpc⟩ isSubtype_stop ?_)
 exact wpAny_pure (hQ _ fun c u hc e=>k c u (k2 c u hc e))
theorem yy7(hh:A.handled=none)(r l:Addr)(hne:l≠r)(its:Array Value)(hz:its.size<2 ^ 63):
  Walks prog w A r [r,l] [r] its.size (fun i v=>its[its.size-1-i]?=some v) (fun i h=>i≤its.size∧zO2 h r l ((its.size:Int)-1-(i:Int))∧IsTup h l its) where
 sub:=fun b hb=>by simp at hb;simp[hb]
 frame:=fun _ _ _ x hk=>by
  obtain⟨x1,x2,x3⟩:=x
  obtain⟨o,ho,q⟩:=x3
  exact⟨x1,x2.keep fun o e=>hk r (by simp) o e,o,hk l (by simp) o ho,q⟩
 item:=fun i s Q E hi x hQ=>by
  obtain⟨x1,x2,x3⟩:=x
  have e:(its.size:Int)-1-(i:Int)=((its.size-1-i:Nat):Int):=by omega
  rw[e]at x2
  have hx:its[its.size-1-i]?=some (its[its.size-1-i]'(by omega)):=Array.getElem?_eq_getElem (by omega)
  refine yK0 x2 x3 hz hx fun h' tk y k=>?_
  have e2:((its.size-1-i:Nat):Int)-1=(its.size:Int)-1-((i+1:Nat):Int):=by omega
  rw[e2]at y
  obtain⟨o,ho,q⟩:=x3
  exact hQ _ h' tk hx ⟨hi,y,o,k.extBut l o hne ho,q⟩ fun b o hb eo=>k.extBut b o (fun h=>hb (by simp[h])) eo
 done:=fun s Q E x hQ=>by
  obtain⟨x1,x2,x3⟩:=x
  have e:(its.size:Int)-1-(its.size:Int)=-1:=by omega
  rw[e]at x2
  exact yV7 hh x2 fun h' k=>hQ h' s.toks fun b o hb eo=>k b o (fun h=>hb (by simp[h])) eo
 self:=fun _ _ _ _ x hQ=>yq7 x.2.1 hQ
theorem yA5{r l:Addr}{its:Array Value}{Q:Value→Shared→Prop}(x:zO2 s.heap r l ((its.size:Int)-1))(ht:IsTup s.heap l its)(hz:its.size<2 ^ 63)
  (hQ:∀u tk,s.toks≤tk→Q (.int its.size u) { s with toks:=tk }):wpAny (model prog w) A (call (.builtin "reversed.__length_hint__") [.ref r]) Q E s:=by
 obtain⟨o,ho,hc,hd⟩:=id x
 refine wpAny_call_entry zV7 x.ty yy3 ?_ (yC7 _)
 unfold Builtin.«reversed.__length_hint__»
 refine wpAny_bind (wpAny_of_eq (a:=Value.ref r) rfl ?_)
 refine wpAny_bind (wpAny_field ho hd (x:=.ref l) rfl ?_)
 show wpAny _ _ (if (Value.ref l==Value.none)=true then _ else _) _ _ s
 rw[if_neg (by simp)]
 refine wpAny_bind (len_tuple ht (by omega) ?_)
 refine wpAny_bind (m:=asInt? _) (wpAny_pure ?_)
 dsimp only
 refine wpAny_bind (wpAny_field (s:={ s with toks:=s.toks+1+1 }) ho hd (x:=rawInt ((its.size:Int)-1)) rfl ?_)
 show wpAny _ _ (if (its.size:Int)<(its.size:Int)-1+1 then _ else _) _ _ _
 rw[if_neg (by omega)]
 have e:(its.size:Int)-1+1=its.size:=by omega
 rw[e]
 exact wpAny_bind (wpAny_mkInt (wpAny_pure ⟨_,rfl,hQ _ _ (by show s.toks≤s.toks+1+1+1;omega)⟩))
end
open PySem L2 PySem.SeqAt PyProof.Rows
noncomputable def yJ5(l:Addr)(n:Nat):Obj:={ cls:=.type "reversed", data:=.fields #[.ref l,rawInt ((n:Int)-1)] }
theorem yX3(l:Addr)(its:Array Value):Meets (Builtin.«reversed.__new__» ⟨[.type "reversed", .ref l],[]⟩) (fun _ R s=>IsTup s.heap l its∧its.size<2 ^ 63∧∀tk,R (.ok (.ret (.ref s.heap.objs.size))) { s with heap:=s.heap.push (yJ5 l its.size),toks:=tk }) :=
 .of_wp fun prog w A R s h=>by
  obtain⟨ht,hz,h⟩:=h
  unfold Builtin.«reversed.__new__»
  refine wpAny_bind (wpAny_of_eq (newClass_reversed _) ?_)
  try dsimp only
  refine wpAny_bind (wpAny_of_eq (a:=()) (by first |rfl |kernel_rfl) ?_)
  refine wpAny_bind (wpAny_of_eq (a:=()) (by first |rfl |kernel_rfl) ?_)
  try dsimp only
  refine wpAny_bind (wpAny_specialOf ht.typeIs yB6 ?_)
  try dsimp only
  refine wpAny_bind ?_
  refine wpAny_bind (wpAny_isInstance (b:=false) ht.typeIs (by rw[isSubtype_type];kernel_rfl) ?_)
  try dsimp only
  refine wpAny_bind (wpAny_specialOf ht.typeIs PySem.F.slot_tuple_getitem.lookup ?_)
  refine wpAny_pure ?_
  refine wpAny_bind (len_tuple ht (by omega) ?_)
  refine wpAny_bind (m:=asInt? _) (wpAny_pure ?_)
  dsimp only
  show wpAny _ _ (newObj (.type "reversed") (.fields [Value.ref l,rawInt ((its.size:Int)-1)].toArray) >>= _) _ _ _
  exact wpAny_bind (wpAny_newObj_type (wpAny_pure ⟨_,rfl,h _⟩))
section
variable{prog:Program}{w:World}{A:Around}{E:Value→Shared→Prop}{s:Shared}
theorem yL5{l:Addr}{its:Array Value}{Q:Value→Shared→Prop}(ht:IsTup s.heap l its)(hz:its.size<2 ^ 63)(h:∀tk,Q (.ref s.heap.objs.size) { s with heap:=s.heap.push (yJ5 l its.size),toks:=tk }):wpAny (model prog w) A (call (.type "reversed") [.ref l]) Q E s :=
 callType_new yk6 (by decide) (F.typeCall_reversed_1 _) (F.newCall_reversed_1 _) (fun obj=>F.args_object_init_2 obj _) F.entry_reversed_new (yX3 l its)
  ⟨ht,hz,fun tk=>⟨⟨_,Heap.get?_push_size _ rfl,rfl⟩,h tk⟩⟩
theorem yN3{r l:Addr}{its:Array Value}{Q:Bool→Shared→Prop}(x:zO2 s.heap r l ((its.size:Int)-1))(ht:IsTup s.heap l its)(hz:its.size≤16777216)
  (hQ:∀b tk,s.toks≤tk→Q b { s with toks:=tk }):wpAny (model prog w) A (Builtin.List.listLengthHint (.ref r)) Q E s:=by
 unfold Builtin.List.listLengthHint
 refine wpAny_bind (wpAny_specialOf x.ty yB2 ?_)
 dsimp only
 show wpAny _ _ (specialOf (Value.ref r) (Str.ofString "__length_hint__") >>= _) _ _ s
 refine wpAny_bind (wpAny_specialOf x.ty zV7.lookup ?_)
 generalize hid:("reversed.__length_hint__" : String)=id0
 dsimp only
 rw[show splitId id0=some ("reversed","__length_hint__")from by subst hid;decide +kernel]
 subst hid
 dsimp only
 refine wpAny_bind (wpAny_isInstance (b:=true) x.ty (by rw[isSubtype_type];kernel_rfl) ?_)
 simp only[Bool.not_true,Bool.false_eq_true,↓reduceIte]
 split
 ·rename_i h
  have h2:=Bool.eq_false_iff.mp (show _=false from by with_unfolding_all decide +kernel) h
  exact h2.elim
 refine wpAny_bind (wpAny_rule ?_)
 refine wpAny_bind (wpAny_of_eq (zV7.bind _) ?_)
 dsimp only
 refine wpAny_bind (wpAny_attempt (yA5 x ht (by omega) fun u tk htk=>?_))
 show wpAny _ _ (asInt? (.int (its.size:Int) u) >>= _) _ _ _
 have e0:asInt? (.int (its.size:Int) u)=(pure (some (its.size:Int)):Sem _):=by rw[asInt?]
 rw[e0,pure_bind]
 dsimp only
 have c1:Builtin.List.listFitsIndex (its.size:Int)=true:=by
  unfold Builtin.List.listFitsIndex
  rw[Bool.and_eq_true,decide_eq_true_eq,decide_eq_true_eq]
  omega
 have c2:Builtin.List.listTooLong (its.size:Int).toNat=false:=by
  unfold Builtin.List.listTooLong
  refine decide_eq_false ?_
  rw[show sizeLine=16777216 from by decide]
  omega
 rw[c1,if_neg (by decide),if_neg (by omega),c2,if_neg (by decide)]
 exact wpAny_pure (hQ _ _ htk)
theorem yw1{its acc:Array Value}(h:ItemsOf (fun i v=>its[its.size-1-i]?=some v) acc its.size):acc.toList=its.toList.reverse:=by
 apply List.ext_getElem?
 intro i
 by_cases c:i<acc.size
 ·have e:acc[i]?=some acc[i]:=Array.getElem?_eq_getElem c
  have h1:=h.2 i _ e
  have hs:=h.1
  rw[Array.getElem?_toList,e,List.getElem?_reverse (by simpa using (by omega:i<its.size)),Array.getElem?_toList,Array.length_toList]
  exact h1.symm
 ·rw[List.getElem?_eq_none (by simpa using c),List.getElem?_eq_none (by have:=h.1;simp;omega)]
theorem yf7{r l:Addr}{its:Array Value}{Q:List Value→Shared→Prop}(hh:A.handled=none)(x:zO2 s.heap r l ((its.size:Int)-1))(ht:IsTup s.heap l its)(hne:l≠r)(hz:its.size≤16777216)
  (hQ:∀(h':Heap) (tk:Nat),(∀b o,b≠r→s.heap.get? b=some o→h'.get? b=some o)→s.heap.objs.size≤h'.objs.size→Q its.toList.reverse { s with heap:=h',toks:=tk }):wpAny (model prog w) A (collect (.ref r)) Q E s:=by
 have W:=(yy7 (prog:=prog) (w:=w) (A:=A.in1) hh r l hne its (by omega)).toS
 obtain⟨o,ho,hc,hd⟩:=id x
 obtain⟨p,hp,hpc⟩:=id ht
 have hr:r<s.heap.objs.size:=Heap.lt_size ho
 have hl:l<s.heap.objs.size:=Heap.lt_size hp
 have hfp:∀b∈[r,l],b<s.heap.objs.size:=fun b hb=>by
  simp only[List.mem_cons,List.not_mem_nil,or_false]at hb
  rcases hb with rfl |rfl
  ·exact hr
  ·exact hl
 have hLf:s.heap.objs.size∉[r,l]:=fun hm=>Nat.lt_irrefl _ (hfp _ hm)
 have hLr:s.heap.objs.size≠r:=fun e=>hLf (by rw[e];simp)
 unfold collect
 refine wpAny_bind (wpAny_runValue (codeAny_builtin PySem.F.entry_proto_collect ?_))
 rw[Around.under_plainId PySem.F.plain_proto_collect _]
 show wpAny _ A.in1 (newList [] >>= fun l=>again (.builtin "list.__iadd__" ⟨[l,.ref r],[]⟩)) _ _ s
 refine wpAny_bind (wpAny_newObj_type ?_)
 refine wpAny_pure ⟨plainId_quiet PySem.F.plain_list_iadd _,codeAny_builtin PySem.F.entry_list_iadd ?_⟩
 rw[Around.under_plainId PySem.F.plain_list_iadd _]
 generalize hL:s.heap.objs.size=L at *
 have hpush:∀b o,s.heap.get? b=some o→(s.heap.push { cls:=.type "list", data:=.seq ([]:List Value).toArray }).get? b=some o:=fun b o e=>Heap.get?_push_of_some _ e
 have hg:(s.heap.push { cls:=.type "list", data:=.seq ([]:List Value).toArray }).get? L=some { cls:=.type "list", data:=.seq ([]:List Value).toArray }:=by rw[←hL];exact Heap.get?_push_size _ rfl
 generalize hh1:s.heap.push { cls:=.type "list", data:=.seq ([]:List Value).toArray }=h1 at *
 have x1:zO2 h1 r l ((its.size:Int)-1):=x.keep fun o e=>hpush r o e
 have ht1:IsTup h1 l its:=⟨p,hpush l p hp,hpc⟩
 show wpAny _ A.in1 (Builtin.List.listExtendWith (.ref L) (.ref r) (.ref L)) _ _ _
 unfold Builtin.List.listExtendWith
 refine wpAny_bind (wpAny_typeOf (s:={ s with heap:=h1 }) (zO2.ty (s:={ s with heap:=h1 }) x1) ?_)
 have q1:Builtin.List.listSameRef (.ref L) (.ref r)=false:=by simp[Builtin.List.listSameRef,hLr]
 rw[if_neg (by rw[q1];decide)]
 refine wpAny_bind (yq7 (s:={ s with heap:=h1 }) x1 ?_)
 refine wpAny_bind (wpAny_holding (yN3 (s:={ s with heap:=h1 }) x1 ht1 hz fun b tk htk=>?_))
 have st0:∀h2:Heap,(∀b o,b≠L→h1.get? b=some o→h2.get? b=some o)→(0≤its.size∧zO2 h2 r l ((its.size:Int)-1-((0:Nat):Int))∧IsTup h2 l its):=fun h2 k =>
  ⟨Nat.zero_le _,by
   have e:(its.size:Int)-1-((0:Nat):Int)=(its.size:Int)-1:=by omega
   rw[e]
   exact x1.keep fun o e=>k r o (Ne.symm hLr) e,p,k l p (Nat.ne_of_lt hl) (hpush l p hp),hpc⟩
 have fin:∀(h2:Heap) (ep:Nat) (R:Result→Shared→Prop),(∀b o,b≠L→h1.get? b=some o→h2.get? b=some o)→h2.get? L=some { cls:=.type "list", dict:=none,data:=.seq #[] ep,slots:=#[] } →
   (∀(h3:Heap) (tk:Nat) (acc:Array Value) (c:Nat),h3.get? L=some { cls:=.type "list", dict:=none,data:=.seq acc c,slots:=#[] }→acc.toList=its.toList.reverse→(∀b o,b≠r→s.heap.get? b=some o→h3.get? b=some o)→R (.ok (.ret (.ref L))) { s with heap:=h3,toks:=tk }) →
   codeAny (model prog w) A (.builtin "list.extend.loop" ⟨[.ref L,.ref r,.ref L],[]⟩) R { s with heap:=h2,toks:=tk }:=by
  intro h2 ep R k hg2 hR
  refine codeAny_extend_loopS W (by rw[show sizeLine=16777216 from by decide];omega) L hLf _ its.size 0 _ #[] ep rfl (Nat.zero_le _) (st0 h2 k) hg2 (ItemsOf.nil _) fun z acc c hm hz hacc=>?_
  obtain⟨hz1,g1,d1,tk1,os1⟩:=z
  have eg:g1=s.gens:=hm.gens
  have ed:d1=s.drawn:=hm.drawn
  have eo:os1=s.os:=hm.os
  subst eg ed eo
  refine hR hz1 tk1 acc c hz (yw1 hacc) fun b o hb e=>?_
  have hbL:b≠L:=by rw[←hL];exact Nat.ne_of_lt (Heap.lt_size e)
  exact hm.heap b o (by simp only[List.mem_cons,List.not_mem_nil,or_false,not_or];exact⟨hbL,hb⟩) (k b o hbL (hpush b o e))
 have last:∀(h3:Heap) (tk:Nat) (acc:Array Value) (c:Nat),h3.get? L=some { cls:=.type "list", dict:=none,data:=.seq acc c,slots:=#[] }→acc.toList=its.toList.reverse→(∀b o,b≠r→s.heap.get? b=some o→h3.get? b=some o)→Q acc.toList { s with heap:=h3,toks:=tk } :=
  fun h3 tk acc c hz e k=>by
   rw[e]
   exact hQ h3 tk k (by rw[←hL]at hz ⊢;exact Nat.le_of_lt (Heap.lt_size hz))
 cases b with
 | false =>
  rw[if_neg (by decide +kernel)]
  refine wpAny_pure ⟨plainId_quiet PySem.F.plain_extend_loop _,fin h1 0 _ (fun b o _ e=>e) hg fun h3 tk acc c hz e k=>?_⟩
  show wpAny _ A (load L >>= _) _ _ _
  exact wpAny_bind (wpAny_load hz (wpAny_pure (last h3 tk acc c hz e k)))
 | true =>
  rw[if_pos (by decide +kernel)]
  refine wpAny_bind (wpAny_rule ?_)
  refine wpAny_bind ?_
  show wpAny _ A.in1 (updateSeq L (·.push .none) >>= fun _=>updateSeq L (·.pop)) _ _ _
  refine wpAny_bind (wpAny_updateSeq hg rfl ?_)
  have hg3:=Heap.get?_update_self (Obj.mapSeq (·.push Value.none)) hg rfl
  refine wpAny_updateSeq hg3 rfl ?_
  have hg4:=Heap.get?_update_self (Obj.mapSeq (·.pop)) hg3 rfl
  refine wpAny_pure ⟨plainId_quiet PySem.F.plain_extend_loop _,fin _ _ _ (fun b o hb e=>(Heap.get?_update_other _ _ (Ne.symm hb)).trans ((Heap.get?_update_other _ _ (Ne.symm hb)).trans e)) hg4 fun h3 tk acc c hz e k=>?_⟩
  show wpAny _ A (load L >>= _) _ _ _
  exact wpAny_bind (wpAny_load hz (wpAny_pure (last h3 tk acc c hz e k)))
theorem yp1{r l:Addr}{its:Array Value}{Q₁:Value→Shared→Prop}(hh:A.handled=none)(x:zO2 s.heap r l ((its.size:Int)-1))(ht:IsTup s.heap l its)(hne:l≠r)(hz:its.size≤16777216)
  (hQ:∀(h':Heap) (tk:Nat),(∀b o,b≠r→s.heap.get? b=some o→h'.get? b=some o)→s.heap.objs.size≤h'.objs.size→Q₁ (.ref h'.objs.size) { s with heap:=h'.push { cls:=.type "tuple", data:=.seq its.toList.reverse.toArray },toks:=tk }) :
  codeAny (model prog w) A (.call (.builtin "tuple.__new__") ⟨[.type "tuple", .ref r],[]⟩) (wants Q₁ E) s:=by
 refine codeAny_of_tree ?_
 show wpAny _ A.in1 (do checkBuiltinCall "tuple.__new__" ⟨[.type "tuple", .ref r],[]⟩;again (.builtin "tuple.__new__" ⟨[.type "tuple", .ref r],[]⟩)) _ _ s
 refine wpAny_bind (wpAny_of_eq (PySem.F.newCall_tuple_1 _) (wpAny_pure ⟨plainId_quiet PySem.F.plain_tuple_new _,codeAny_builtin PySem.F.entry_tuple_new ?_⟩))
 rw[Around.under_plainId PySem.F.plain_tuple_new _]
 have hsub:=sub_tuple_self
 have hinit:=init_tuple_lookup
 have hmh:=madeHere_tuple
 have hTI:=x.ty
 wp_walk using wpAny_typeOf hTI,yf7 (A:=A.in1) hh x ht hne hz
 intro h' tk k1 k2
 show wpAny _ _ (Builtin.Tuple.tupleExact its.toList.reverse.toArray >>= fun v=>ret v) _ _ _
 unfold Builtin.Tuple.tupleExact
 refine wpAny_bind (wpAny_newObj_type ?_ (by show its.toList.reverse.toArray.size≤sizeLine;rw[show sizeLine=16777216 from by decide];simp;omega))
 exact wpAny_pure (hQ h' tk k1 k2)
theorem yw4{r l:Addr}{its:Array Value}{Q:Value→Shared→Prop}(hh:A.handled=none)(x:zO2 s.heap r l ((its.size:Int)-1))(ht:IsTup s.heap l its)(hne:l≠r)(hz:its.size≤16777216)
  (hQ:∀(h':Heap) (tk:Nat),(∀b o,b≠r→s.heap.get? b=some o→h'.get? b=some o)→s.heap.objs.size≤h'.objs.size→Q (.ref h'.objs.size) { s with heap:=h'.push { cls:=.type "tuple", data:=.seq its.toList.reverse.toArray },toks:=tk }) :
  wpAny (model prog w) A (call (.type "tuple") [.ref r]) Q E s:=by
 refine callType_codes (Q₁:=fun obj s₁=>s₁.TypeIs obj "tuple" ∧ Q obj s₁) PySem.F.called_tuple (PySem.F.typeCall_tuple_1 _) PySem.F.entry_object_init
  (yp1 (A:=A.in1) hh x ht hne hz fun h' tk k1 k2=>⟨⟨_,Heap.get?_push_size _ rfl,rfl⟩,hQ h' tk k1 k2⟩) fun obj s₁ h₁=>?_
 exact⟨h₁.1,PySem.F.args_object_init_2 obj _,object_init_meets PySem.F.called_tuple.init.lookup PySem.F.called_tuple.made (by decide) prog w A.in1 _ s₁ ⟨h₁.1,rfl,h₁.2⟩⟩
end
open PySem L2 PySem.SeqAt PyProof.Rows
theorem zY8:reflectedDiffers (.type "int") (.type "bool") "sub" = pure false:=by
 unfold reflectedDiffers
 show (typeLookup (.type "bool") (dunderR "sub") >>= fun y=>typeLookup (.type "int") (dunderR "sub") >>= fun x=>pure (y.isSome&&y != x))=pure false
 rw[typeLookup_type,typeLookup_type,builtinLookup_eq_fast]
 kernel_rfl
section
variable{prog:Program}{w:World}{A:Around}{E:Value→Shared→Prop}{s:Shared}
theorem xf8{a:Int}{t:Tok}{b:Bool}{Q:Value→Shared→Prop}(h:Q (.int (a-if b=true then (1:Int)else 0) s.toks) { s with toks:=s.toks+1 }):wpAny (model prog w) A (binaryOp .Sub (.int a t) (.bool b)) Q E s :=
 binaryOp_sub_gives (op:=.Sub) (T := "int") (U := "bool") (by decide) (typeIs_int s a t) rfl F.fills_int_sub F.fills_bool_sub isSubtype_bool_int zY8 F.slot_int_sub F.entry_int_sub (F.args_int_sub_2 _ _) (AutoIntG7.int___sub___int_bool_0 a t b) trivial h
end
section
variable{X:Cx}{C:zc5}{e:Expr}{ie:E}{pos pos' p p':Pos}
theorem yq1(hc:X.calm=true)(hg:Gl X "tuple")(hm:X.mg "tuple" = none)(hg2:Gl X "reversed")(hm2:X.mg "reversed" = none)(ha:SA X C [e] [ie])
  (he:starEach [e] X.env=(false,eval e X.env)::starEach [] X.env) (hpl:(backTo pos' (starEach [] X.env)).any (·.1)=false)
  (he2:starEach [.Call (.Name "reversed" p') [e] [] pos'] X.env=(false,eval (.Call (.Name "reversed" p') [e] [] pos') X.env)::starEach [] X.env) (hpl2:(backTo pos (starEach [] X.env)).any (·.1)=false) :
  SE X C (.Call (.Name "tuple" p) [.Call (.Name "reversed" p') [e] [] pos'] [] pos) (.rev ie):=by
 intro pins s σ H Q I h
 obtain⟨env,α,st,v0,st',at',e0,q⟩:=h
 rw[xg9]at e0
 obtain⟨va,st1,e1,e0⟩:=Res.bind_inv e0
 obtain⟨x,y,g1,g2,g3,g4⟩:=yl5 e0
 subst g3 g4
 have e2:evalEs C [ie] env st=.ok [va] st':=by simp[evalEs,e1]
 refine wpAny_Call_Name_kw (zH0 I hg hm (u:=.type "tuple") rfl ?_ (by decide) (by decide))
 refine PyProof.Rows.callWith_type1 ?_ he2 hpl2
 rw[he2]
 show wpAny _ _ (spliced ((false,eval (.Call (.Name "reversed" p') [e] [] pos') X.env)::backTo pos (starEach [] X.env))) _ _ s
 refine Calls.spliced_cons ?_
 refine wpAny_Call_Name_kw (zH0 I hg2 hm2 (u:=.type "reversed") rfl ?_ (by decide) (by decide))
 refine PyProof.Rows.callWith_type1 (thn (ha pos' pins s σ H (fun ws H1=>∃α1,Ext X.K α st H α1 st' H1∧RSt X.K α1 st' H1∧Paired (RV X.K α1 st' H1) [va] ws) I ⟨env,α,st,[va],st',at',e2,fun ws H1 α1 x1 r1 v1=>⟨α1,x1,r1,v1⟩⟩) fun us s1 h_=>?_) he hpl
 obtain⟨ws,H1,I1,r1,α1,x1,rs1,v1⟩:=h_
 cases v1 with
 | cons v1 v2 =>
  cases v2
  cases r1 with
  | cons r1 r2 =>
   cases r2
   cases x with
   | tup xs =>
    cases g2
    obtain⟨a,vs,rfl,h1,h2⟩:=(v1.view rs1 g1).tup
    obtain rfl:=(show _=Value.ref a from r1)
    obtain⟨its,r,ht,hz⟩:=I1.tuple h1
    have hl:=r.length
    have hsl:sizeLine=16777216:=by decide
    have hz':its.toArray.size≤16777216:=by rw[List.size_toArray];lia
    obtain⟨po,hp,hpc⟩:=id ht
    refine yL5 ht (by lia) fun tk=>?_
    refine Calls.spliced_nil ?_
    refine yw4 (s:={ s1 with heap:=s1.heap.push (yJ5 a its.toArray.size),toks:=tk }) (I1.ok.hd hc) ⟨_,Heap.get?_push_size _ rfl,rfl,rfl⟩ ⟨po,Heap.get?_push_of_some _ hp,hpc⟩ (Nat.ne_of_lt (Heap.lt_size hp)) hz' fun h' tk2 k1 k2=>?_
    have I2:Inv X pins σ H1 { s1 with heap:=h',toks:=tk2 }:=I1.kept (t':=tk2) fun b ob e=>k1 b ob (Nat.ne_of_lt (Heap.lt_size e)) (Heap.get?_push_of_some _ e)
    have hf:=I2.hok.fresh (Nat.le_refl _)
    have s5:zl0 H1 (upd H1 _ (.tup vs.reverse)):=zg8 hf _
    refine⟨.ref _,_,I2.laid (t':=tk2) (o:=.tup vs.reverse) (fun b ob q=>Heap.get?_push_of_some _ q) (Nat.le_refl _) ?_,rfl,q _ _ α1 (x1.trans (.of_same rs1 s5)) (rs1.same s5) ?_⟩
    ·exact⟨by rw[List.length_reverse];exact hz,_,r.reverse,zC3.new _ _⟩
    ·rw[RV,RP]
     exact⟨_,_,rfl,SqT.of ze2,(Ext.of_same rs1 s5).rps h2.reverse⟩
   |_=>cases g2
theorem xp1:Op2 X (binaryOp .LShift) bShl:=Op2.ints xi1 fun x y z h=>by
 cases x <;> cases y <;> simp only[bShl,Option.ite_none_right_eq_some,reduceCtorEq,Option.some.injEq]at h
 obtain⟨⟨h1,h2,h3⟩,h⟩:=h
 refine⟨_,_,rfl,rfl,⟨h1,h2,?_⟩,fun _ _=>by rw[←h,RP]⟩
 have:=of_decide_eq_true h3
 lia
theorem xt7:Op2 X (binaryOp .RShift) bShr:=Op2.ints yX9 fun x y z h=>by
 cases x <;> cases y <;> simp only[bShr,Option.ite_none_right_eq_some,reduceCtorEq,Option.some.injEq]at h
 exact⟨_,_,rfl,rfl,h.1,fun _ _=>by rw[←h.2,RP]⟩
theorem yz8{i:Int}(h:0≤i):Builtin.bitAnd i 1=i%2:=by
 unfold Builtin.bitAnd
 rw[decide_eq_true h,decide_eq_true (show (0:Int)≤1 by decide)]
 dsimp only
 rw[show (1:Int).toNat=1 from rfl,Nat.and_one_is_mod]
 lia
theorem xg0:Op2 X (binaryOp .BitAnd) yX2:=Op2.ints0 xa7 fun x y z h=>by
 cases x <;> cases y <;> simp only[yX2,Option.ite_none_right_eq_some,reduceCtorEq,Option.some.injEq]at h
 obtain⟨⟨rfl,h2⟩,h⟩:=h
 exact⟨_,_,rfl,rfl,fun _ _=>by rw[←h,RP,yz8 h2]⟩
theorem xc1:Op2 X (binaryOp .Sub) xl9:=by
 rintro pins s σ H x y v u Q I rx ry ⟨α,st,px,py,z,r,hx,hy,hz,q⟩
 cases px with
 | int i =>
  cases py with
  | int j =>
   cases hz
   exact yE3 pins s σ H x y v u Q I rx ry ⟨_,_,hx.int,hy.int,q _ _ (zl0.refl H) (by rw[RP])⟩
  | bl b =>
   cases hz
   have e1:=hx.int
   have e2:=hy.bl
   subst e1 e2
   obtain⟨t,rfl⟩:=rx
   obtain rfl:=(show u=Value.bool b from ry)
   refine xf8 ?_
   exact⟨.int _,H,I.tok _,⟨_,rfl⟩,q _ _ (zl0.refl H) (by rw[RP])⟩
  |_=>cases hz
 |_=>cases hz
theorem xf2(hc:X.calm=true):zz7 X (.builtin "min") (f2 (fI2 fun i j=>if j<i then j else i)):=by
 rintro pins s σ H ws us Q I rs ⟨α,st,xs,z,r,pr,hz,q⟩
 obtain⟨i,j,rfl,rfl⟩:=yn6 hz
 cases pr with
 | cons h1 t =>
  cases t with
  | cons h2 t =>
   cases t
   have e1:=h1.int
   have e2:=h2.int
   subst e1 e2
   exact ym7 hc pins s σ H _ us Q I rs ⟨i,j,rfl,q _ _ (zl0.refl H) (by rw[RP])⟩
theorem xr5:zz7 X (.type "str") (f1 fStr):=by
 rintro pins s σ H ws us Q I rs ⟨α,st,xs,z,r,pr,hz,q⟩
 cases pr with
 |nil=>cases hz
 | cons h1 t =>
  cases t with
  |cons _ _=>cases hz
  | nil =>
   rename_i x w
   cases rs with
   | cons ra rt =>
    cases rt
    cases x with
    | int i =>
     have hz:(if i.natAbs.log2<1920 then some (PV.str (zC4 i))else none)=some z:=hz
     split at hz
     ·rename_i hl
      cases hz
      have e1:=h1.int
      subst e1
      obtain⟨t,rfl⟩:=ra
      refine PySem.P.str_of_int hl ⟨.str _,H,I.tok _,⟨_,rfl⟩,q _ _ (zl0.refl H) ?_⟩
      rw[RP]
      have e:=yK3 i
      have z:(Str.ofString (toString i)).length≤sizeLine:=int_text_fits hl
      rw[e]at z
      have hs:sizeLine=16777216:=by decide
      exact⟨congrArg V.str e,by simpa[txt,Str.length,hs]using z⟩
     ·cases hz
    | bl b =>
     have e1:=h1.bl
     subst e1
     obtain rfl:=(show _=Value.bool b from ra)
     refine PySem.P.str_of_bool ⟨.str _,H,I.tok _,⟨_,rfl⟩,q _ _ (zl0.refl H) ?_⟩
     cases b
     ·cases hz;rw[RP];exact⟨by decide +kernel,by decide +kernel⟩
     ·cases hz;rw[RP];exact⟨by decide +kernel,by decide +kernel⟩
    |_=>cases hz
end
open PySem L2 PySem.SeqAt PyProof.Rows
structure JE(X:Cx)(C:zc5)(e:Expr)(ir:E):Prop where
 h:SE X C e ir
structure JT(X:Cx)(C:zc5)(e:Expr)(ir:E):Prop where
 h:ST X C e ir
structure JW(X:Cx)(C:zc5)(e:Expr)(ir:E):Prop where
 h:SW X C e ir
structure JF(X:Cx)(C:zc5)(e:Expr)(ir:E):Prop where
 h:SF X C e ir
structure JA(X:Cx)(C:zc5)(e:List Expr)(ir:List E):Prop where
 h:SA X C e ir
structure JO(X:Cx)(C:zc5)(e:Option Expr)(ir:Option E):Prop where
 h:SO X C e ir
structure JI(X:Cx)(C:zc5)(tg iter:Expr)(it:It):Prop where
 h:SI X C tg iter it
structure JG(X:Cx)(tg:Expr)(t:Tg):Prop where
 h:SG X tg t
structure JGs(X:Cx)(es:List Expr)(is:List Nat):Prop where
 h:PGs X es (tGs X.K is)
structure JTs(X:Cx)(C:zc5)(ifs:List Expr)(cond:Option E):Prop where
 h:PTs X ifs (tTs X.K C cond)
structure JP(X:Cx)(C:zc5)(pos:Pos)(ks:List (Option Expr))(vs:List Expr)(pks:List PV)(irs:List E):Prop where
 h:PPs X pos ks vs (prs X.K C pks irs)
structure JS(X:Cx)(C:zc5)(W:Nat)(b:Stmt)(ss:S):Prop where
 h:SS X C W b ss
structure JSs(X:Cx)(C:zc5)(W:Nat)(b:List Stmt)(ss:List S):Prop where
 h:SSs X C W b ss
section
variable{X:Cx}{C:zc5}{W:Nat}{a b c e o i value l elt iter tg:Expr}{es zn7 elts:List Expr}{x1:Nat}{tpos:Pos}{ia ib ic ie io ii iv ielt il:E}{irs:List E}{pos p p2 p' pos' apos cpos:Pos}{e2 f:Expr}{iff:E}{it:It}{t:Tg}{scope:Scope}{N:List Str}{caps:List Nat}{n:Nat}{ifs:List Expr}{name:Str}{id:String}{m:Mt}{is:List Nat}{PR:List FD}{d k:Nat}
theorem zs2{j}:JE X C (.Constant .none j pos) (.const .non):=⟨xf5⟩
theorem zs9{i j}:JE X C (.Constant (.bool i) j pos) (.const (.bl i)):=⟨xs8⟩
theorem za3{i j}:JE X C (.Constant (.int i) j pos) (.const (.int i)):=⟨xf1⟩
theorem zb1{x j}{cs:List Nat}(h:x=⟨cs.toArray⟩:=by decide +kernel)(hl:cs.length≤1000:=by decide):JE X C (.Constant (.str x) j pos) (.const (.str cs)):=⟨xb9 (h:=h) (hl:=hl)⟩
theorem jsv(i:Nat){x:Str}{pos:Pos}(hN:X.N[i]?=some x:=by rfl)(hv:Vis X.env.scope x:=by trivial)(hd:(x==("__debug__" : Str))=false:=by decide)(hcd:(x==("__classdict__" : Str))=false:=by decide):JE X C (.Name x pos) (.var i):=⟨sv (i:=i) (hN:=hN) (hv:=hv) (hd:=hd) (hcd:=hcd)⟩
theorem zc2{op:Operator}{g:PV→PV→Option PV}{ir:E}(ho:Op2 X (binaryOp op) g)(ha:JE X C a ia)(hb:JE X C b ib)(hi:∀env st,evalE C ir env st=(evalE C ia env st).bind fun x st=>(evalE C ib env st).bind fun y st=>op2 g x y st):JE X C (.BinOp a op b pos) ir:=⟨xp4 (ho:=ho) (ha:=ha.h) (hb:=hb.h) (hi:=hi)⟩
theorem ym9(ha:JE X C a ia):JE X C (.UnaryOp .USub a pos) (.neg ia):=⟨yX4 (ha:=ha.h)⟩
theorem yq3(ha:JE X C a ia):JE X C (.UnaryOp .Not a pos) (.not ia):=⟨yW9 (ha:=ha.h)⟩
theorem zj4{op:CmpOp}{g:PV→PV→Option PV}{ir:E}(ho:Op2 X (compareOp op) g)(ha:JE X C a ia)(hb:JE X C b ib)(hm:behindInMarks op b=false)(hi:∀env st,evalE C ir env st=(evalE C ia env st).bind fun x st=>(evalE C ib env st).bind fun y st=>op2 g x y st):JE X C (.Compare a [op] [b] pos) ir:=⟨yV5 (ho:=ho) (ha:=ha.h) (hb:=hb.h) (hm:=hm) (hi:=hi)⟩
theorem zS7{op op':CmpOp}{cop cop':Cop}(ho:Op2 X (compareOp op) (zo8 cop))(ho':Op2 X (compareOp op') (zo8 cop'))(hB:∀x y z,zo8 cop x y=some z→∃k,z=.bl k)(ha:JE X C a ia)(hb:JE X C b ib)(hc:JE X C c ic)(hm:lastMarks [op,op'] [b,c]=false:=by with_unfolding_all rfl):JE X C (.Compare a [op,op'] [b,c] pos) (.chain cop cop' ia ib ic):=⟨yv8 (ho:=ho) (ho':=ho') (hB:=hB) (ha:=ha.h) (hb:=hb.h) (hc:=hc.h) (hm:=hm)⟩
theorem zl1{op}(h:JE X C a ia):JE X C (.BoolOp op [a] pos) ia:=⟨xg5 (h:=h.h)⟩
theorem zk6(ha:JE X C a ia)(hb:JE X C (.BoolOp .And (b::zn7) pos) ib):JE X C (.BoolOp .And (a::b::zn7) pos) (.and ia ib):=⟨yU2 (ha:=ha.h) (hb:=hb.h)⟩
theorem yG3(ha:JE X C a ia)(hb:JE X C (.BoolOp .Or (b::zn7) pos) ib):JE X C (.BoolOp .Or (a::b::zn7) pos) (.or ia ib):=⟨xo0 (ha:=ha.h) (hb:=hb.h)⟩
theorem zX9(hc:JT X C c ic)(ha:JE X C a ia)(hb:JE X C b ib):JE X C (.IfExp c a b pos) (.ite ic ia ib):=⟨yX7 (hc:=hc.h) (ha:=ha.h) (hb:=hb.h)⟩
theorem zb9{es:List Expr}{irs:List E}{x1}(h:JA X C es irs)(hl:es.length≤1000:=by decide)(hi:irs.length=es.length:=by rfl):JE X C (.Tuple es x1 pos) (.tup irs):=⟨yW4 (h:=h.h) (hl:=hl) (hi:=hi)⟩
theorem zj0{es:List Expr}{irs:List E}(h:JA X C es irs)(hl:es.length≤1000:=by decide)(hi:irs.length=es.length:=by rfl):JE X C (.List es pos) (.list false irs):=⟨xb6 (h:=h.h) (hl:=hl) (hi:=hi)⟩
theorem zZ9(h:JF X C e ie):JE X C e (.thaw ie):=⟨yP3 (h:=h.h)⟩
theorem yr0{es:List Expr}{irs:List E}(h:JA X C es irs)(hl:es.length≤1000)(hi:irs.length=es.length):JF X C (.List es pos) (.list false irs):=⟨yT3 (h:=h.h) (hl:=hl) (hi:=hi)⟩
theorem yy9{keys:List (Option Expr)}{values:List Expr}{ks:List PV}(h:JP X C pos keys values ks irs)(hk:ks.all zy8=true)(hl1:ks.length=irs.length)(hall:keys.all (·.isSome)=true)(hl:keys.length=values.length)(h0:keys≠[])(h15:keys.length≤15)(hks:ks.length≤15):JE X C (.Dict keys values pos) (.dict ks irs):=⟨yI1 (h:=h.h) (hk:=hk) (hl1:=hl1) (hall:=hall) (hl:=hl) (h0:=h0) (h15:=h15) (hks:=hks)⟩
theorem yO2  : JP X C pos [] [] [] []:=⟨xd7⟩
theorem zL6{k v:Expr}{ks:List (Option Expr)}{vs:List Expr}{pk:PV}{iv:E}{pks:List PV}(hk:PE X k (tC (kV (yp9 pk))))(hv:JE X C v iv)(hr:JP X C pos ks vs pks irs):
  JP X C pos (some k::ks) (v::vs) (pk::pks) (iv::irs):=⟨yO1 (hk:=hk) (hv:=hv.h) (hr:=hr.h)⟩
theorem zi7  : JO X C none none:=⟨yP4⟩
theorem zi6(h:JE X C e ie):JO X C (some e) (some ie):=⟨yQ4 (h:=h.h)⟩
theorem zg4{lo hi:Option Expr}{ilo ihi:Option E}(he:JE X C e ie)(hl:JO X C lo ilo)(hh:JO X C hi ihi):JE X C (.Subscript e (.Slice lo hi none p2) pos) (.slice ie ilo ihi):=⟨yD5 (he:=he.h) (hl:=hl.h) (hh:=hh.h)⟩
theorem zb3(hu:X.A.units+1<cLine)(ha:JE X C a ia)(hb:JE X C b ib)(hs:zX2 b):JE X C (.Subscript a b pos) (.ix ia ib):=⟨xq4 (hu:=hu) (ha:=ha.h) (hb:=hb.h) (hs:=hs)⟩
theorem zk9{cond:Option E}(hcalm:X.calm=true)(ok:zG8 X scope N caps n)(hi:JI X C tg iter it)(hg:∀cl s₀ H₀ ex pn,JG (zg9 X scope N cl s₀ H₀ ex pn) tg t)(ht:∀cl s₀ H₀ ex pn,JTs (zg9 X scope N cl s₀ H₀ ex pn) C ifs cond)(he:∀cl s₀ H₀ ex pn,JE (zg9 X scope N cl s₀ H₀ ex pn) C elt ielt)(hs:∀x,foldedSetIterable iter X.env x=pure x:=by intro _;rfl):JE X C (.ListComp elt [⟨tg,iter,ifs,0⟩] scope pos) (.comp false ielt t it cond caps n):=⟨yM6 (hcalm:=hcalm) (ok:=ok) (hi:=hi.h) (hg:=fun cl s₀ H₀ ex pn=>(hg cl s₀ H₀ ex pn).h) (ht:=fun cl s₀ H₀ ex pn=>(ht cl s₀ H₀ ex pn).h) (he:=fun cl s₀ H₀ ex pn=>(he cl s₀ H₀ ex pn).h) (hs:=hs)⟩
theorem yb5{i:Nat}{y:Str}{py spos:Pos}{cond:Option E}(hN:X.N.Nodup)(hyi:X.N[i]?=some y)(hyl:X.env.scope.names.lookup y=some .local)(hcalm:X.calm=true)(ok:zG8 X scope N caps n)(hi:JI X C tg iter it)(hg:∀cl s₀ H₀ ex pn,JG (zg9 X scope N cl s₀ H₀ ex pn) tg t)(ht:∀cl s₀ H₀ ex pn,JTs (zg9 X scope N cl s₀ H₀ ex pn) C ifs cond)(he:∀cl s₀ H₀ ex pn,JE (zg9 X scope N cl s₀ H₀ ex pn) C elt ielt)(hs:∀x,foldedSetIterable iter X.env x=pure x:=by intro _;rfl)(hsw:swapsWith (.ListComp elt [⟨tg,iter,ifs,0⟩] scope pos) (some (.Name y py)) spos.line X.env=pure true:=by rfl):
  JS X C W (.Assign [.Name y py] (.ListComp elt [⟨tg,iter,ifs,0⟩] scope pos) spos) (.set i (.comp false ielt t it cond caps n)):=⟨yI6 (hN:=hN) (hyi:=hyi) (hyl:=hyl) (hcalm:=hcalm) (ok:=ok) (hi:=hi.h) (hg:=fun cl s₀ H₀ ex pn=>(hg cl s₀ H₀ ex pn).h) (ht:=fun cl s₀ H₀ ex pn=>(ht cl s₀ H₀ ex pn).h) (he:=fun cl s₀ H₀ ex pn=>(he cl s₀ H₀ ex pn).h) (hs:=hs) (hsw:=hsw)⟩
theorem zm4{a:Expr}{ia:E}(hg:Gl X "range")(hm:X.mg "range" = none)(ha:JE X C a ia)(hs:starEach [a] X.env=[(false,eval a X.env)]:=by rfl):JI X C tg (.Call (.Name "range" p) [a] [] pos) (.range ia):=⟨yC2 (hg:=hg) (hm:=hm) (ha:=ha.h) (hs:=hs)⟩
theorem zn1(hl:JE X C l il):JI X C tg l (.of il):=⟨xe2 (hl:=hl.h)⟩
theorem yx1(hg:Gl X "zip")(hm:X.mg "zip" = none)(hv:bootBuiltins "zip" = some (.type "zip"))(ha:JA X C (e::es) [ia,ib])(he:starEach (e::es) X.env=(false,eval e X.env)::starEach es X.env:=by rfl)(hpl:(backTo pos (starEach es X.env)).any (·.1)=false:=by rfl):JI X C (.Tuple elts x1 tpos) (.Call (.Name "zip" p) (e::es) [] pos) (.zipR ia ib):=⟨yN1 (hg:=hg) (hm:=hm) (hv:=hv) (ha:=ha.h) (he:=he) (hpl:=hpl)⟩
theorem yx3(hu:X.A.units+1<cLine)(ho:JE X C o io)(he:JE X C e ie)(hf:JE X C f iff)(m:M2 X o "get" apos e f cpos):JE X C (.Call (.Attribute o "get" apos) [e,f] [] cpos) (.dget io ie iff):=⟨yN4 (hu:=hu) (ho:=ho.h) (he:=he.h) (hf:=hf.h) (m:=m)⟩
theorem zJ4(hc:X.calm=true)(hg:Gl X "tuple")(hm:X.mg "tuple" = none)(hg2:Gl X "reversed")(hm2:X.mg "reversed" = none)(ha:JA X C [e] [ie])(he:starEach [e] X.env=(false,eval e X.env)::starEach [] X.env:=by rfl)(hpl:(backTo pos' (starEach [] X.env)).any (·.1)=false:=by rfl)(he2:starEach [.Call (.Name "reversed" p') [e] [] pos'] X.env=(false,eval (.Call (.Name "reversed" p') [e] [] pos') X.env)::starEach [] X.env:=by rfl)(hpl2:(backTo pos (starEach [] X.env)).any (·.1)=false:=by rfl):
  JE X C (.Call (.Name "tuple" p) [.Call (.Name "reversed" p') [e] [] pos'] [] pos) (.rev ie):=⟨yq1 (hc:=hc) (hg:=hg) (hm:=hm) (hg2:=hg2) (hm2:=hm2) (ha:=ha.h) (he:=he) (hpl:=hpl) (he2:=he2) (hpl2:=hpl2)⟩
theorem za8{x:Str}{f:Addr}{fd:FuncData}{ps:List Str}(F:zq2 X.prog X.w X.K X.mg X.base CX0 d f fd ps (spF X.K PR W d k ps.length))(hr:zo2 d X.A)(hg:Gl X x)(hm:X.mg x=some (.ref f))(hk:keepIn X.K (.ref f)=true)(hb:Binds X.K fd ps [])(ha:JA X (zg2 PR W d) (e::es) irs)(hn:irs.length=ps.length)(hdb:(x==("__debug__" : Str))=false:=by decide)(he:starEach (e::es) X.env=(false,eval e X.env)::starEach es X.env:=by rfl)(hpl:(backTo pos (starEach es X.env)).any (·.1)=false:=by rfl):
  JE X (zg2 PR W d) (.Call (.Name x p) (e::es) [] pos) (.call k irs):=⟨yI8 (F:=F) (hr:=hr) (hg:=hg) (hm:=hm) (hk:=hk) (hb:=hb) (ha:=ha.h) (hn:=hn) (hdb:=hdb) (he:=he) (hpl:=hpl)⟩
theorem zf7{x:Str}(t:Ty)(hg:Gl X "isinstance")(hm:X.mg "isinstance" = none)(hv:bootBuiltins "isinstance" = some (.builtin "isinstance"))(hg2:Gl X x)(hm2:X.mg x=none)(hv2:bootBuiltins x=some (.type (zT2 t)))(ha:JE X C a ia)(hn2:x ≠ "__name__" := by decide)(hd2:(x==("__debug__" : Str))=false:=by decide)(hs:starEach [a,.Name x p2] X.env=(false,eval a X.env)::starEach [.Name x p2] X.env:=by rfl)(hs2:starEach [.Name x p2] X.env=(false,eval (.Name x p2) X.env)::starEach [] X.env:=by rfl)(hpl:(backTo pos (starEach [.Name x p2] X.env)).any (·.1)=false:=by rfl):JE X C (.Call (.Name "isinstance" p) [a,.Name x p2] [] pos) (.blt (.isinst t) [ia]):=⟨yk9 (t:=t) (hg:=hg) (hm:=hm) (hv:=hv) (hg2:=hg2) (hm2:=hm2) (hv2:=hv2) (ha:=ha.h) (hn2:=hn2) (hd2:=hd2) (hs:=hs) (hs2:=hs2) (hpl:=hpl)⟩
theorem zb8{x:Str}{id:String}{g:List PV→Option PV}{ir:E}(hc:zz7 X (.builtin id) g)(hi:∀env st,evalE C ir env st=(evalEs C irs env st).bind fun vs st=>opN g vs st)(hg:Gl X x)(hm:X.mg x=none)(hv:bootBuiltins x=some (.builtin id))(ha:JA X C (e::es) irs)(hn:x ≠ "__name__" := by decide)(hdb:(x==("__debug__" : Str))=false:=by decide)(he:starEach (e::es) X.env=(false,eval e X.env)::starEach es X.env:=by rfl)(hpl:(backTo pos (starEach es X.env)).any (·.1)=false:=by rfl):
  JE X C (.Call (.Name x p) (e::es) [] pos) ir:=⟨yw9 (hc:=hc) (hi:=hi) (hg:=hg) (hm:=hm) (hv:=hv) (ha:=ha.h) (hn:=hn) (hdb:=hdb) (he:=he) (hpl:=hpl)⟩
theorem zi0{x:Str}{T:String}{g:List PV→Option PV}{ir:E}(hc:zz7 X (.type T) g)(hi:∀env st,evalE C ir env st=(evalEs C irs env st).bind fun vs st=>opN g vs st)(hg:Gl X x)(hm:X.mg x=none)(hv:bootBuiltins x=some (.type T))(ha:JA X C (e::es) irs)(hn:x ≠ "__name__" := by decide)(hdb:(x==("__debug__" : Str))=false:=by decide)(he:starEach (e::es) X.env=(false,eval e X.env)::starEach es X.env:=by rfl)(hpl:(backTo pos (starEach es X.env)).any (·.1)=false:=by rfl):
  JE X C (.Call (.Name x p) (e::es) [] pos) ir:=⟨yo9 (hc:=hc) (hi:=hi) (hg:=hg) (hm:=hm) (hv:=hv) (ha:=ha.h) (hn:=hn) (hdb:=hdb) (he:=he) (hpl:=hpl)⟩
theorem yM0{g:List PV→List PV→Option (PV×List PV)}(slot:Slot "list" name id)(hty:typeOf (.builtin id)=pure (.type "method_descriptor"))(hm:MtK X id g)(ho:JE X C o io)(ha:JA X C (e::es) irs)(hg:∀v vs st,zH1 m v vs st=(match yk7 vs with |some xs=>zJ1 v st (g xs)|none=>.stuck))(hbase:attributeBase o name X.env (eval o X.env)=eval o X.env:=by rfl)(hfew:((backTo cpos (starEach (e::es) X.env)).all (fun x=>!x.1)&&(backToKw cpos (keywordEach [] X.env)).all (fun x=>x.1.isSome)
      && decide ((e::es).length+([]:List Keyword).length+(if ([]:List Keyword).isEmpty then 0 else 1)<30))=true:=by rfl)(hline:(apos.endLine==cpos.line)=true:=by rfl)(hs:starEach (e::es) X.env=(false,eval e X.env)::starEach es X.env:=by rfl)(hplain:(backTo cpos (starEach es X.env)).any (·.1)=false:=by rfl):
    JE X C (.Call (.Attribute o name apos) (e::es) [] cpos) (.meth m io irs):=⟨xa8 (slot:=slot) (hty:=hty) (hm:=hm) (ho:=ho.h) (ha:=ha.h) (hg:=hg) (hbase:=hbase) (hfew:=hfew) (hline:=hline) (hs:=hs) (hplain:=hplain)⟩
theorem yA6(ha:JT X C a ia):JW X C (.BoolOp .And [a] pos) ia:=⟨yQ1 (ha:=ha.h)⟩
theorem zs5(ha:JT X C a ia):JW X C (.BoolOp .Or [a] pos) ia:=⟨yW3 (ha:=ha.h)⟩
theorem yJ0(ha:JT X C a ia)(hb:JW X C (.BoolOp .And (b::zn7) pos) ib):JW X C (.BoolOp .And (a::b::zn7) pos) (.and ia ib):=⟨xf4 (ha:=ha.h) (hb:=hb.h)⟩
theorem zt3(ha:JT X C a ia)(hb:JW X C (.BoolOp .Or (b::zn7) pos) ib):JW X C (.BoolOp .Or (a::b::zn7) pos) (.or ia ib):=⟨xn4 (ha:=ha.h) (hb:=hb.h)⟩
theorem zv5{e:Expr}{ir:E}(h:JW X C e ir):JT X C e ir:=⟨xr6 (h:=h.h)⟩
theorem zu1(ha:JT X C a ia):JT X C (.UnaryOp .Not a pos) (.not ia):=⟨yZ5 (ha:=ha.h)⟩
theorem zb5{op:CmpOp}{g:PV→PV→Option PV}{ir:E}(ho:Op2 X (compareOp op) g)(ha:JE X C a ia)(hb:JE X C b ib)(hm:behindInMarks op b=false)(hi:∀env st,evalE C ir env st=(evalE C ia env st).bind fun x st=>(evalE C ib env st).bind fun y st=>op2 g x y st):JT X C (.Compare a [op] [b] pos) ir:=⟨xb1 (ho:=ho) (ha:=ha.h) (hb:=hb.h) (hm:=hm) (hi:=hi)⟩
theorem zq9{e:Expr}{ir:E}(h:JE X C e ir)(he:∀zl9,isTrue e X.env zl9=(do let v ←zl9;standAt e.pos;holding [v] (truthy v)):=by intro _;rfl):JT X C e ir:=⟨yV0 (h:=h.h) (he:=he)⟩
theorem za7  : JSs X C W [] []:=⟨yZ7⟩
theorem za2{st:Stmt}{zn7:List Stmt}{i:S}{ir:List S}(h1:JS X C W st i)(h2:JSs X C W zn7 ir):JSs X C W (st::zn7) (i::ir):=⟨yJ9 (h1:=h1.h) (h2:=h2.h)⟩
theorem yA4{ie:E}(h:JE X C e ie)(hs:swapsWith e none pos.line X.env=pure false:=by rfl):JS X C W (.Expr e pos) (.expr ie):=⟨yH5 (h:=h.h) (hs:=hs)⟩
theorem zb0{ie:E}(h:JE X C e ie):JS X C W (.Return (some e) pos) (.ret ie):=⟨yS4 (h:=h.h)⟩
theorem ys7{es:List Expr}{is:List Nat}{e:Expr}{ie:E}{k:Nat}{pos':Pos}(hc:X.calm=true)(hg:JGs X es is)(h:JE X C e ie)(hn:(assignEach es X.env).length=is.length:=by rfl)(hst:(assignEach es X.env).findIdx? (·.1)=none:=by rfl)(hs:swapsWithSole [.Tuple es k pos'] e pos.line X.env=pure false:=by rfl)(hw:swappedStores [.Tuple es k pos'] e X.env=pure none:=by rfl)(h1:(assignEach [.Tuple es k pos'] X.env).map (·.2)=[assign (.Tuple es k pos') X.env]:=by rfl):JS X C W (.Assign [.Tuple es k pos'] e pos) (.setT is (.blt .tuple [ie])):=⟨yD1 (hc:=hc) (hg:=hg.h) (h:=h.h) (hn:=hn) (hst:=hst) (hs:=hs) (hw:=hw) (h1:=h1)⟩
theorem zc4{i:Nat}{x:Str}{ie:E}{pos':Pos}(hN:X.N.Nodup)(hi:X.N[i]?=some x)(hx:Loc X.env.scope x)(h:JE X C e ie)(hs:swapsWith e (some (.Name x pos')) pos.line X.env=pure false:=by rfl)(hf:X.fn x=true∨X.env.scope.names.lookup x=some .local:=by trivial):
  JS X C W (.Assign [.Name x pos'] e pos) (.set i ie):=⟨xg3 (hN:=hN) (hi:=hi) (hx:=hx) (h:=h.h) (hs:=hs) (hf:=hf)⟩
theorem zO8(hu:X.A.units+1<cLine)(ho:JE X C o io)(hi:JE X C i ii)(hv:JE X C value iv)(ha:∀v,assign (.Subscript o i pos') X.env v=(do
      let ov ←holding [v] (eval o X.env)
      let iv ←holding [v,ov] (eval i X.env)
      standAt pos'
      holding [v,ov,iv] (setItem ov iv v)
      release [v,ov,iv] []):=by intro _;rfl)(hs:swapsWithSole [.Subscript o i pos'] value pos.line X.env=pure false:=by rfl)(hw:swappedStores [.Subscript o i pos'] value X.env=pure none:=by rfl)(h1:(assignEach [.Subscript o i pos'] X.env).map (·.2)=[assign (.Subscript o i pos') X.env]:=by rfl):JS X C W (.Assign [.Subscript o i pos'] value pos) (.setIx io ii iv):=⟨yv9 (hu:=hu) (ho:=ho.h) (hi:=hi.h) (hv:=hv.h) (ha:=ha) (hs:=hs) (hw:=hw) (h1:=h1)⟩
theorem zd1{c:Expr}{ic:E}{a b:List Stmt}{sa sb:List S}(hc:JT X C c ic)(ha:JSs X C W a sa)(hb:JSs X C W b sb):JS X C W (.If c a b pos) (.ite ic sa sb):=⟨xt3 (hc:=hc.h) (ha:=ha.h) (hb:=hb.h)⟩
theorem yp3{c:Expr}{body:List Stmt}{ic:E}{ib:List S}(hp:PassesOwn (model X.prog X.w) X.A X.env X.xe)(hc:JT X C c ic)(hb:JSs X C W body ib):JS X C W (.While c body [] pos) (.while ic ib):=⟨yC9 (hp:=hp) (hc:=hc.h) (hb:=hb.h)⟩
theorem zt4{iter:Expr}{body:List Stmt}{it:It}{t:Tg}{ib:List S}(hp:PassesOwn (model X.prog X.w) X.A X.env X.xe)(hc:X.calm=true)(hi:JI X C tg iter it)(hg:JG X tg t)(hb:JSs X C W body ib)(hs:∀x,foldedSetIterable iter X.env x=pure x:=by intro _;rfl):JS X C W (.For tg iter body [] pos) (.for t it ib):=⟨xh2 (hp:=hp) (hc:=hc) (hi:=hi.h) (hg:=hg.h) (hb:=hb.h) (hs:=hs)⟩
theorem zf4{i:Nat}{x:Str}(hN:X.N.Nodup)(hi:X.N[i]?=some x)(hx:Loc X.env.scope x)(hf:X.fn x=true∨X.env.scope.names.lookup x=some .local:=by trivial):JG X (.Name x pos) (.name i):=⟨yM8 (hN:=hN) (hi:=hi) (hx:=hx) (hf:=hf)⟩
theorem yO6{k:Nat}(hc:X.calm=true)(h:JGs X es is)(hn:(assignEach es X.env).length=is.length:=by rfl)(hst:(assignEach es X.env).findIdx? (·.1)=none:=by rfl):JG X (.Tuple es k pos) (.tup is):=⟨yW2 (hc:=hc) (h:=h.h) (hn:=hn) (hst:=hst)⟩
theorem yd3  : JGs X [] []:=⟨yL7⟩
theorem zr8{i:Nat}{x:Str}(hN:X.N.Nodup)(hi:X.N[i]?=some x)(hx:Loc X.env.scope x)(h:JGs X es is)(hf:X.fn x=true∨X.env.scope.names.lookup x=some .local:=by trivial)(hs:(assignEach (.Name x pos::es) X.env).map (·.2)=assign (.Name x pos) X.env::(assignEach es X.env).map (·.2):=by rfl):JGs X (.Name x pos::es) (i::is):=⟨yy8 (hN:=hN) (hi:=hi) (hx:=hx) (h:=h.h) (hf:=hf) (hs:=hs)⟩
theorem za4  : JA X C [] []:=⟨yE9⟩
theorem za0{es:List Expr}{irs:List E}(ha:JE X C a ia)(hr:JA X C es irs)(hs:starEach (a::es) X.env=(false,eval a X.env)::starEach es X.env:=by rfl):JA X C (a::es) (ia::irs):=⟨yu2 (ha:=ha.h) (hr:=hr.h) (hs:=hs)⟩
theorem zE7  : JTs X C [] none:=⟨pts0⟩
theorem yD0{c:Expr}{ic:E}(h:JT X C c ic):JTs X C [c] (some ic):=⟨pts1 (h:=h.h)⟩
end
section
variable{P:Program}{w:World}{K:Frag}{mg:Str→Option Value}{base:Heap}{PR:List FD}{W d k:Nat}
theorem zl3{d:Nat}{A:Around}(h:zo2 d A):A.units+1<cLine:=by have:=h.un;omega
theorem zl2{d:Nat}{A:Around}(h:zo2 d A):A.units+200<cLine:=by have:=h.un;omega
theorem zc9{x qual:Str}{st:Stmt}{f:Addr}{fd:FuncData}{N ps:List Str}{ib:List S}(F:Fun K x qual st f fd)(S:zd5 N ps (za5 st))(hP:PR[k]?=some ⟨ps.length,N.length,ib⟩)
  (hb:∀(cdv:Value) (A:Around) (outer:List PySem.Env) (s:Shared) (H:Hp) (E:XK),zo2 d (A.deeper (envOfC qual (za5 st) s.heap.objs.size f cdv)) →
   JSs (zs8 CX0 P w K mg base N qual (za5 st) f cdv A outer s H E).nox (zg2 PR W d) W (za9 st) ib):zq2 P w K mg base CX0 (d+1) f fd ps (spF K PR W (d+1) k ps.length) :=
 yK4 F S hP fun cdv A outer s H E hr=>(hb cdv A outer s H E hr).h
end
end OR
set_option bootstrap.genMatcherCode true
local macro_rules
 | `(tactic| simp! [$as,*]) => do
  let bs : Lean.Syntax.TSepArray [`Lean.Parser.Tactic.simpErase, `Lean.Parser.Tactic.simpLemma] "," := ⟨as.elemsAndSeps⟩
  `(tactic| ((try dsimp [-OR.exs_cons, -OR.thenS_next, -OR.sliceOp, -OR.bfOp, -OR.ixVal, -OR.walkOf, -Int.reducePow, -List.all_eq_true, -List.reverse_reverse, $bs,*]); try simp [-OR.exs_cons, -OR.thenS_next, -OR.sliceOp, -OR.bfOp, -OR.ixVal, -OR.walkOf, -Int.reducePow, -List.all_eq_true, -List.reverse_reverse, $as,*]))
 | `(tactic| simp! [$as,*] $l:location) => `(tactic| simp [-OR.exs_cons, -OR.thenS_next, -OR.sliceOp, -OR.bfOp, -OR.ixVal, -OR.walkOf, -Int.reducePow, -List.all_eq_true, -List.reverse_reverse, $as,*] $l:location)
 | `(tactic| simp! only [$as,*] $[$l:location]?) => `(tactic| simp only [$as,*, List.map_cons, List.map_nil, List.cons_append, List.nil_append, Nat.reduceSub, List.replicate] $[$l:location]?)
 | `(tactic| trivial) => `(tactic| first | exact Or.inl rfl | exact Or.inr (Or.inl rfl) | exact Or.inr rfl | exact Or.inr (Or.inr rfl) | assumption)
 | `(tactic| dsimp! only) => `(tactic| simp only [OR.thenS_next, OR.exs_nil, OR.sat_ok, List.set_cons_succ, List.set_cons_zero])
set_option bootstrap.genMatcherCode false
namespace LA
open OR
noncomputable def zA2:List S :=
 [.ret (.and (.blt (.isinst .int) [(.var 0)]) (.and (.not (.blt (.isinst .bool) [(.var 0)])) (.cmp .ge (.var 0) (.const (.int 0)))))]
noncomputable def zB3:FD:=⟨1,1,zA2⟩
noncomputable def zr0:List S :=
 [.ret (.and (.blt (.isinst .tuple) [(.var 0)]) (.chain .le .le (.var 1) (.blt .len [(.var 0)]) (.var 2)))]
noncomputable def zr4:FD:=⟨3,3,zr0⟩
noncomputable def zj8:List S :=
 [.set 2 (.ix (.var 0) (.const (.int 0))),
 .ite (.cmp .eq (.var 2) (.const (.str [110,117,109])))
  [.ret (.call 0 [(.var 1)])]
  [],
 .ite (.cmp .eq (.var 2) (.const (.str [108,111,119])))
  [.ret (.or (.cmp .isNone (.var 1) (.const .non)) (.call 0 [(.var 1)]))]
  [],
 .ite (.or (.cmp .eq (.var 2) (.const (.str [99,104,97,105,110]))) (.cmp .eq (.var 2) (.const (.str [119,101,98]))))
  [.ret (.cmp .isIn (.var 1) (.ix (.var 0) (.const (.int 1))))]
  [],
 .ite (.cmp .eq (.var 2) (.const (.str [115,101,116])))
  [.ret (.and (.blt (.isinst .tuple) [(.var 1)]) (.cmp .eq (.var 1) (.blt .tuple [(.comp false (.var 1) (.name 1) (.of (.ix (.var 0) (.const (.int 1)))) (some (.cmp .isIn (.var 1) (.var 0))) [1] 1)])))]
  [],
 .ite (.cmp .eq (.var 2) (.const (.str [114,111,119])))
  [.ret (.call 3 [(.ix (.var 0) (.const (.int 1))),(.var 1)])]
  [],
 .ret (.and (.call 1 [(.var 1),(.const (.int 2)),(.const (.int 2))]) (.and (.call 0 [(.ix (.var 1) (.const (.int 0)))]) (.call 2 [(.ix (.var 0) (.const (.int 1))),(.ix (.var 1) (.const (.int 1)))])))]
noncomputable def ze5:FD:=⟨2,3,zj8⟩
noncomputable def zp7:List S :=
 [.ite (.not (.call 1 [(.var 1),(.blt .len [(.var 0)]),(.blt .len [(.var 0)])]))
  [.ret (.const (.bl false))]
  [],
 .ret (.blt .all [(.comp false (.call 2 [(.var 0),(.var 1)]) (.tup [0,1]) (.zipR (.var 0) (.var 1)) none [] 2)])]
noncomputable def zo4:FD:=⟨2,2,zp7⟩
noncomputable def zB2:List S :=
 [.ret (.and (.call 6 [(.var 0),(.var 1)]) (.blt .all [(.comp false (.cmp .isIn (.var 1) (.ix (.var 0) (.const (.int 0)))) (.name 1) (.of (.slice (.var 1) (some (.const (.int 1))) none)) none [0] 1)]))]
noncomputable def zA6:FD:=⟨2,2,zB2⟩
noncomputable def zB6:List S :=
 [.ret (.and (.call 4 [(.var 0),(.var 1)]) (.call 2 [(.call 8 [(.var 0),(.var 1)]),(.var 2)]))]
noncomputable def zA3:FD:=⟨3,3,zB6⟩
noncomputable def zw0:List S :=
 [.ite (.or (.not (.blt (.isinst .tuple) [(.var 1)])) (.cmp .eq (.blt .len [(.var 1)]) (.const (.int 0))))
  [.ret (.const (.bl false))]
  [],
 .set 2 (.call 7 [(.var 0),(.ix (.var 1) (.const (.int 0)))]),
 .ret (.and (.cmp .notNone (.var 2) (.const .non)) (.cmp .eq (.blt .len [(.var 1)]) (.bin .add (.const (.int 1)) (.ix (.var 2) (.const (.int 1))))))]
noncomputable def zw4:FD:=⟨2,3,zw0⟩
noncomputable def zs6:List S :=
  [.for (.name 2) (.of (.ix (.var 0) (.const (.int 1))))
    [.ite (.cmp .eq (.ix (.var 2) (.const (.int 0))) (.var 1))
       [.ret (.var 2)]
       []],
  .ret (.const .non)]
noncomputable def zs3:FD:=⟨2,3,zs6⟩
noncomputable def zA0:List S :=
 [.ret (.ix (.call 7 [(.var 0),(.ix (.var 1) (.const (.int 0)))]) (.const (.int 2)))]
noncomputable def zB0:FD:=⟨2,2,zA0⟩
noncomputable def zw6:List S :=
 [.ret (.and (.call 10 [(.var 0),(.var 1),(.const (.int 5))]) (.cmp .le (.call 12 [(.var 1)]) (.const (.int 12))))]
noncomputable def zx3:FD:=⟨2,2,zw6⟩
noncomputable def zk4:List S :=
 [.ite (.or (.cmp .eq (.var 2) (.const (.int 0))) (.not (.call 1 [(.var 1),(.const (.int 2)),(.const (.int 3))])))
  [.ret (.const (.bl false))]
  [],
 .ite (.cmp .eq (.ix (.var 1) (.const (.int 0))) (.const (.str [108,101,97,115,116])))
  [.ret (.and (.cmp .eq (.blt .len [(.var 1)]) (.const (.int 3))) (.call 5 [(.var 0),(.ix (.var 1) (.const (.int 1))),(.ix (.var 1) (.const (.int 2)))]))]
  [],
 .ite (.cmp .notIn (.ix (.var 1) (.const (.int 0))) (.ite (.cmp .eq (.blt .len [(.var 1)]) (.const (.int 2))) (.tup [(.const (.str [110,111,116]))]) (.tup [(.const (.str [98,111,116,104])),(.const (.str [101,105,116,104,101,114]))])))
  [.ret (.const (.bl false))]
  [],
 .ret (.blt .all [(.comp false (.call 10 [(.var 0),(.var 2),(.bin .sub (.var 1) (.const (.int 1)))]) (.name 2) (.of (.slice (.var 1) (some (.const (.int 1))) none)) none [0,2] 1)])]
noncomputable def zi8:FD:=⟨3,3,zk4⟩
noncomputable def zA8:List S :=
 [.ret (.ite (.cmp .eq (.ix (.var 0) (.const (.int 0))) (.const (.str [108,101,97,115,116]))) (.tup []) (.slice (.var 0) (some (.const (.int 1))) none))]
noncomputable def zB5:FD:=⟨1,1,zA8⟩
noncomputable def zp8:List S :=
 [.ret (.bin .add (.const (.int 1)) (.blt .sum [(.comp false (.call 12 [(.var 0)]) (.name 0) (.of (.call 11 [(.var 0)])) none [] 1)]))]
noncomputable def zn6:FD:=⟨1,1,zp8⟩
noncomputable def zm1:List S :=
 [.ite (.cmp .lt (.var 1) (.blt .len [(.var 0)]))
  [.ret (.ix (.var 0) (.var 1))]
  [],
 .set 2 (.const (.int 0)),
 .ite (.cmp .gt (.blt .len [(.var 0)]) (.const (.int 0)))
  [.set 2 (.ix (.var 0) (.bin .mod (.var 1) (.blt .len [(.var 0)])))]
  [],
 .ret (.bin .mod (.bin .add (.bin .add (.bin .mul (.bin .mod (.var 2) (.const (.int 1000000007))) (.const (.int 48271))) (.bin .mul (.var 1) (.const (.int 7919)))) (.const (.int 101))) (.const (.int 2147483647)))]
noncomputable def zj6:FD:=⟨2,3,zm1⟩
noncomputable def zG5:List S :=
 [.set 2 (.call 13 [(.var 0),(.var 1)]),
 .ret (.thaw (.list false [(.blt .max2 [(.const (.int 0)),(.bin .fdiv (.var 2) (.bin .pow (.const (.int 10)) (.const (.int 18))))]),(.bin .mod (.var 2) (.const (.int 2147483629))),(.const (.int 0))]))]
noncomputable def zF1:FD:=⟨2,3,zG5⟩
noncomputable def zv1:List S :=
  [.ite (.cmp .gt (.ix (.var 0) (.const (.int 0))) (.const (.int 0)))
    [.set 2 (.bin .mod (.ix (.var 0) (.const (.int 0))) (.var 1)),
     .setIx (.var 0) (.const (.int 0)) (.bin .fdiv (.ix (.var 0) (.const (.int 0))) (.var 1)),
     .ret (.var 2)]
    [],
  .setIx (.var 0) (.const (.int 2)) (.bin .add (.ix (.var 0) (.const (.int 2))) (.const (.int 1))),
  .set 3 (.bin .mod (.bin .add (.bin .add (.bin .mul (.ix (.var 0) (.const (.int 1))) (.const (.int 48271))) (.bin .mul (.ix (.var 0) (.const (.int 2))) (.const (.int 40692)))) (.const (.int 7))) (.const (.int 2147483629))),
  .ret (.bin .mod (.bin .fdiv (.bin .mod (.bin .add (.bin .mul (.var 3) (.const (.int 69621))) (.ix (.var 0) (.const (.int 2)))) (.const (.int 2147483647))) (.const (.int 11))) (.var 1))]
noncomputable def zr6:FD:=⟨2,4,zv1⟩
noncomputable def zB7:List S :=
 [.set 2 (.list false [(.const (.str [97])),(.const (.str [98])),(.const (.str [97,98])),(.const (.str [110,117,109])),(.const (.str [112,117,116])),(.const (.str [122,122,122,122,122,122,122,122])),(.const (.str [99]))]),
 .set 3 (.call 15 [(.var 0),(.const (.int 7))]),
 .set 4 (.bin .add (.const (.int 1)) (.call 15 [(.var 0),(.const (.int 3))])),
 .ret (.blt .tuple [(.comp false (.ix (.var 0) (.bin .mod (.bin .add (.var 1) (.bin .mul (.var 2) (.var 3))) (.const (.int 7)))) (.name 3) (.range (.var 1)) none [2,3,4] 1)])]
noncomputable def zA9:FD:=⟨2,5,zB7⟩
noncomputable def zp3:List S :=
 [.set 1 (.call 16 [(.var 0),(.bin .add (.const (.int 4)) (.call 15 [(.var 0),(.const (.int 2))]))]),
 .setT [2,3,4,5] (.blt .tuple [(.slice (.var 1) none (some (.const (.int 4))))]),
 .set 6 (.tup [(.tup [(.var 2),(.var 3)]),(.tup [(.var 2),(.var 4)]),(.tup [(.var 3),(.var 5)]),(.tup [(.var 4),(.var 5)])]),
 .ite (.cmp .eq (.call 15 [(.var 0),(.const (.int 3))]) (.const (.int 0)))
  [.set 6 (.tup [(.tup [(.var 3),(.var 5)]),(.tup [(.var 2),(.var 3)]),(.tup [(.var 4),(.var 5)]),(.tup [(.var 2),(.var 4)])])]
  [],
 .ite (.cmp .eq (.blt .len [(.var 1)]) (.const (.int 5)))
  [.set 6 (.bin .add (.var 6) (.tup [(.ix (.list false [(.tup [(.var 5),(.ix (.var 1) (.const (.int 4)))]),(.tup [(.ix (.var 1) (.const (.int 4))),(.var 2)])]) (.call 15 [(.var 0),(.const (.int 2))]))]))]
  [],
 .ite (.cmp .eq (.call 15 [(.var 0),(.const (.int 2))]) (.const (.int 0)))
  [.set 1 (.rev (.var 1))]
  [],
 .ret (.tup [(.const (.str [119,101,98])),(.var 1),(.var 6)])]
noncomputable def zG6:FD:=⟨1,7,zp3⟩
noncomputable def zs1:List S :=
 [.set 2 (.call 15 [(.var 0),(.ix (.list false [(.const (.int 5)),(.const (.int 7))]) (.blt .toInt [(.cmp .gt (.var 1) (.const (.int 0)))]))]),
 .ite (.cmp .lt (.var 2) (.const (.int 2)))
  [.ret (.ix (.list false [(.tup [(.const (.str [110,117,109]))]),(.tup [(.const (.str [108,111,119]))])]) (.var 2))]
  [],
 .ite (.cmp .eq (.var 2) (.const (.int 2)))
  [.ret (.tup [(.const (.str [99,104,97,105,110])),(.call 16 [(.var 0),(.bin .add (.const (.int 2)) (.call 15 [(.var 0),(.const (.int 5))]))])])]
  [],
 .ite (.cmp .eq (.var 2) (.const (.int 3)))
  [.ret (.tup [(.const (.str [115,101,116])),(.call 16 [(.var 0),(.bin .add (.const (.int 1)) (.call 15 [(.var 0),(.const (.int 3))]))])])]
  [],
 .ite (.cmp .eq (.var 2) (.const (.int 4)))
  [.ret (.call 17 [(.var 0)])]
  [],
 .ite (.cmp .eq (.var 2) (.const (.int 5)))
  [.ret (.tup [(.const (.str [114,111,119])),(.blt .tuple [(.comp false (.call 18 [(.var 0),(.bin .sub (.var 1) (.const (.int 1)))]) (.name 2) (.range (.bin .add (.const (.int 1)) (.call 15 [(.var 0),(.const (.int 2))]))) none [0,1] 1)])])]
  [],
 .ret (.tup [(.const (.str [110,101,119,101,114])),(.call 18 [(.var 0),(.bin .sub (.var 1) (.const (.int 1)))])])]
noncomputable def zp6:FD:=⟨2,3,zs1⟩
noncomputable def zi5:List S :=
  [.ite (.cmp .eq (.ix (.var 1) (.const (.int 0))) (.const (.str [110,117,109])))
    [.ret (.ix (.list false [(.const (.int 0)),(.const (.int 1)),(.const (.int 2)),(.const (.int 3)),(.bin .pow (.const (.int 10)) (.const (.int 9))),(.call 15 [(.var 0),(.const (.int 9))]),(.call 15 [(.var 0),(.const (.int 1000))])]) (.call 15 [(.var 0),(.const (.int 7))]))]
    [],
  .ite (.cmp .eq (.ix (.var 1) (.const (.int 0))) (.const (.str [108,111,119])))
    [.ret (.ix (.list false [(.const .non),(.const (.int 0)),(.const (.int 1)),(.const (.int 2)),(.call 15 [(.var 0),(.const (.int 9))]),(.call 15 [(.var 0),(.const (.int 1000))])]) (.call 15 [(.var 0),(.const (.int 6))]))]
    [],
  .ite (.cmp .eq (.ix (.var 1) (.const (.int 0))) (.const (.str [115,101,116])))
    [.set 2 (.call 15 [(.var 0),(.bin .shl (.const (.int 1)) (.blt .len [(.ix (.var 1) (.const (.int 1)))]))]),
     .ret (.blt .tuple [(.comp false (.ix (.ix (.var 0) (.const (.int 1))) (.var 2)) (.name 2) (.range (.blt .len [(.ix (.var 1) (.const (.int 1)))])) (some (.cmp .eq (.bin .band (.bin .shr (.var 1) (.var 2)) (.const (.int 1))) (.const (.int 1)))) [1,2] 1)])]
    [],
  .ite (.cmp .eq (.ix (.var 1) (.const (.int 0))) (.const (.str [114,111,119])))
    [.ret (.blt .tuple [(.comp false (.call 19 [(.var 0),(.var 1)]) (.name 1) (.of (.ix (.var 1) (.const (.int 1)))) none [0] 1)])]
    [],
  .ite (.cmp .eq (.ix (.var 1) (.const (.int 0))) (.const (.str [110,101,119,101,114])))
    [.ret (.tup [(.call 15 [(.var 0),(.const (.int 3))]),(.call 19 [(.var 0),(.ix (.var 1) (.const (.int 1)))])])]
    [],
  .ret (.ix (.ix (.var 1) (.const (.int 1))) (.call 15 [(.var 0),(.blt .len [(.ix (.var 1) (.const (.int 1)))])]))]
noncomputable def zd6:FD:=⟨2,3,zi5⟩
noncomputable def zu4:List S :=
  [.set 1 (.call 16 [(.var 0),(.bin .add (.const (.int 1)) (.call 15 [(.var 0),(.const (.int 2))]))]),
  .set 2 (.call 16 [(.var 0),(.const (.int 3))]),
  .set 3 (.thaw (.list false [])),
  .set 4 (.call 18 [(.var 0),(.const (.int 1))]),
  .for (.name 5) (.range (.bin .add (.const (.int 1)) (.call 15 [(.var 0),(.const (.int 3))])))
    [.ite (.cmp .eq (.call 15 [(.var 0),(.const (.int 2))]) (.const (.int 0)))
       [.set 4 (.call 18 [(.var 0),(.const (.int 1))])]
       [],
     .expr (.meth .append (.var 3) [(.tup [(.ix (.var 2) (.var 5)),(.ix (.list false [(.const (.int 0)),(.const (.int 1)),(.const (.int 1)),(.const (.int 2))]) (.call 15 [(.var 0),(.const (.int 4))])),(.var 4)])])],
  .ret (.tup [(.var 1),(.blt .tuple [(.var 3)])])]
noncomputable def zu9:FD:=⟨1,6,zu4⟩
noncomputable def zu6:List S :=
  [.set 1 (.list false []),
  .for (.name 2) (.of (.ix (.var 0) (.const (.int 1))))
    [.set 3 (.list false [(.slice (.var 2) none (some (.const (.int 1))))]),
     .for (.name 4) (.range (.ix (.var 2) (.const (.int 1))))
       [.set 5 (.list false []),
        .for (.name 6) (.of (.var 3))
          [.set 5 (.bin .add (.var 5) (.comp false (.bin .add (.var 0) (.tup [(.var 1)])) (.name 1) (.of (.ix (.var 0) (.const (.int 0)))) none [6] 1))],
        .set 3 (.var 5)],
     .set 1 (.bin .add (.var 1) (.var 3))],
  .ret (.blt .sorted [(.var 1)])]
noncomputable def zu5:FD:=⟨1,7,zu6⟩
noncomputable def zq6:List S :=
 [.ret (.ix (.comp false (.ix (.var 1) (.const (.int 2))) (.name 1) (.of (.ix (.var 0) (.const (.int 1)))) (some (.cmp .eq (.ix (.var 1) (.const (.int 0))) (.ix (.var 0) (.const (.int 0))))) [1] 1) (.const (.int 0)))]
noncomputable def zq4:FD:=⟨2,2,zq6⟩
noncomputable def zq1:List S :=
  [.set 3 (.call 15 [(.var 0),(.const (.int 6))]),
  .ite (.or (.cmp .eq (.var 2) (.const (.int 0))) (.cmp .lt (.var 3) (.const (.int 2))))
    [.set 4 (.call 21 [(.var 1)]),
     .set 5 (.ix (.var 4) (.call 15 [(.var 0),(.blt .len [(.var 4)])])),
     .ret (.tup [(.const (.str [108,101,97,115,116])),(.var 5),(.call 19 [(.var 0),(.call 22 [(.var 1),(.var 5)])])])]
    [],
  .ite (.cmp .eq (.var 3) (.const (.int 5)))
    [.ret (.tup [(.const (.str [110,111,116])),(.call 23 [(.var 0),(.var 1),(.bin .sub (.var 2) (.const (.int 1)))])])]
    [],
  .set 6 (.ix (.list false [(.const (.str [98,111,116,104])),(.const (.str [101,105,116,104,101,114]))]) (.bin .mod (.var 3) (.const (.int 2)))),
  .ret (.tup [(.var 6),(.call 23 [(.var 0),(.var 1),(.bin .sub (.var 2) (.const (.int 1)))]),(.call 23 [(.var 0),(.var 1),(.bin .sub (.var 2) (.const (.int 1)))])])]
noncomputable def zn4:FD:=⟨3,7,zq1⟩
noncomputable def zd8:List S :=
  [.set 2 (.ix (.var 0) (.const (.int 0))),
  .set 3 (.and (.blt (.isinst .int) [(.var 1)]) (.and (.not (.blt (.isinst .bool) [(.var 1)])) (.cmp .ge (.var 1) (.const (.int 0))))),
  .ite (.or (.cmp .eq (.var 2) (.const (.str [110,117,109]))) (.cmp .eq (.var 2) (.const (.str [108,111,119]))))
    [.ret (.or (.var 3) (.and (.cmp .eq (.var 2) (.const (.str [108,111,119]))) (.cmp .isNone (.var 1) (.const .non))))]
    [],
  .ite (.or (.cmp .eq (.var 2) (.const (.str [99,104,97,105,110]))) (.cmp .eq (.var 2) (.const (.str [119,101,98]))))
    [.ret (.and (.blt (.isinst .str) [(.var 1)]) (.cmp .isIn (.var 1) (.ix (.var 0) (.const (.int 1)))))]
    [],
  .ite (.not (.blt (.isinst .tuple) [(.var 1)]))
    [.ret (.const (.bl false))]
    [],
  .ite (.cmp .eq (.var 2) (.const (.str [115,101,116])))
    [.ret (.cmp .eq (.var 1) (.blt .tuple [(.comp false (.var 1) (.name 1) (.of (.ix (.var 0) (.const (.int 1)))) (some (.cmp .isIn (.var 1) (.var 0))) [1] 1)]))]
    [],
  .ite (.cmp .eq (.var 2) (.const (.str [114,111,119])))
    [.ite (.cmp .ne (.blt .len [(.var 1)]) (.blt .len [(.ix (.var 0) (.const (.int 1)))]))
       [.ret (.const (.bl false))]
       [],
     .ret (.cmp .notIn (.const (.bl false)) (.comp false (.call 24 [(.ix (.ix (.var 0) (.const (.int 1))) (.var 2)),(.ix (.var 1) (.var 2))]) (.name 2) (.range (.blt .len [(.var 1)])) none [0,1] 1))]
    [],
  .ret (.and (.cmp .eq (.blt .len [(.var 1)]) (.const (.int 2))) (.and (.call 24 [(.tup [(.const (.str [110,117,109]))]),(.ix (.var 1) (.const (.int 0)))]) (.call 24 [(.ix (.var 0) (.const (.int 1))),(.ix (.var 1) (.const (.int 1)))])))]
noncomputable def zo6:FD:=⟨2,4,zd8⟩
noncomputable def zj2:List S :=
 [.ite (.blt (.isinst .int) [(.var 1)])
  [.ret (.ix (.list false [(.cmp .eq (.var 1) (.const (.int 1))),(.blt .toStr [(.var 1)]),(.bin .subB (.neg (.const (.int 1))) (.var 1)),(.const .non)]) (.call 15 [(.var 0),(.const (.int 4))]))]
  [],
 .ite (.blt (.isinst .str) [(.var 1)])
  [.ret (.ix (.list false [(.bin .add (.var 1) (.const (.str [97]))),(.const (.str [])),(.slice (.var 1) none (some (.neg (.const (.int 1))))),(.const (.str [42])),(.const (.str [65])),(.const (.int 0)),(.const .non)]) (.call 15 [(.var 0),(.const (.int 7))]))]
  [],
 .ret (.ix (.list false [(.const (.int 0)),(.const (.str [])),(.const (.str [78,111,110,101])),(.tup []),(.const (.bl false))]) (.call 15 [(.var 0),(.const (.int 5))]))]
noncomputable def zf1:FD:=⟨2,2,zj2⟩
noncomputable def zm9:List S :=
  [.ite (.not (.blt (.isinst .tuple) [(.var 1)]))
    [.ret (.call 25 [(.var 0),(.var 1)])]
    [],
  .ite (.and (.cmp .gt (.blt .len [(.var 1)]) (.const (.int 0))) (.cmp .gt (.call 15 [(.var 0),(.const (.int 5))]) (.const (.int 0))))
    [.set 2 (.call 15 [(.var 0),(.blt .len [(.var 1)])]),
     .ret (.bin .add (.bin .add (.slice (.var 1) none (some (.var 2))) (.tup [(.call 26 [(.var 0),(.ix (.var 1) (.var 2))])])) (.slice (.var 1) (some (.bin .add (.var 2) (.const (.int 1)))) none))]
    [],
  .set 2 (.call 15 [(.var 0),(.bin .add (.blt .len [(.var 1)]) (.const (.int 1)))]),
  .set 3 (.call 15 [(.var 0),(.const (.int 6))]),
  .ite (.cmp .eq (.var 3) (.const (.int 0)))
    [.ret (.blt .list [(.var 1)])]
    [],
  .ite (.cmp .eq (.var 3) (.const (.int 1)))
    [.ret (.bin .add (.slice (.var 1) none (some (.var 2))) (.slice (.var 1) (some (.bin .add (.var 2) (.const (.int 1)))) none))]
    [],
  .ite (.cmp .eq (.var 3) (.const (.int 2)))
    [.ret (.bin .add (.slice (.var 1) none (some (.var 2))) (.slice (.var 1) (some (.blt .max2 [(.const (.int 0)),(.bin .sub (.var 2) (.const (.int 1)))])) none))]
    [],
  .ite (.cmp .eq (.var 3) (.const (.int 3)))
    [.ret (.rev (.var 1))]
    [],
  .ite (.cmp .eq (.var 3) (.const (.int 4)))
    [.ret (.bin .add (.bin .add (.slice (.var 1) none (some (.var 2))) (.tup [(.ix (.list false [(.const .non),(.const (.int 1)),(.const (.str [97])),(.tup []),(.const (.str [42]))]) (.call 15 [(.var 0),(.const (.int 5))]))])) (.slice (.var 1) (some (.var 2)) none))]
    [],
  .ret (.ix (.list false [(.const .non),(.const (.bl true)),(.const (.str [])),(.const (.int 0))]) (.call 15 [(.var 0),(.const (.int 4))]))]
noncomputable def zm8:FD:=⟨2,4,zm9⟩
noncomputable def zf8:List S :=
  [.ite (.or (.cmp .gt (.var 2) (.const (.int 5))) (.or (.not (.blt (.isinst .tuple) [(.var 1)])) (.or (.cmp .notIn (.blt .len [(.var 1)]) (.tup [(.const (.int 2)),(.const (.int 3))])) (.not (.blt (.isinst .str) [(.ix (.var 1) (.const (.int 0)))])))))
    [.ret (.const (.int 0))]
    [],
  .ite (.cmp .eq (.ix (.var 1) (.const (.int 0))) (.const (.str [108,101,97,115,116])))
    [.ite (.or (.cmp .ne (.blt .len [(.var 1)]) (.const (.int 3))) (.cmp .notIn (.ix (.var 1) (.const (.int 1))) (.call 21 [(.var 0)])))
       [.ret (.const (.int 0))]
       [],
     .ret (.blt .toInt [(.call 24 [(.call 22 [(.var 0),(.ix (.var 1) (.const (.int 1)))]),(.ix (.var 1) (.const (.int 2)))])])]
    [],
  .ite (.cmp .ne (.dget (.dict [(.str [98,111,116,104]),(.str [101,105,116,104,101,114]),(.str [110,111,116])] [(.const (.int 3)),(.const (.int 3)),(.const (.int 2))]) (.ix (.var 1) (.const (.int 0))) (.const (.int 0))) (.blt .len [(.var 1)]))
    [.ret (.const (.int 0))]
    [],
  .set 3 (.comp false (.call 27 [(.var 0),(.var 2),(.bin .add (.var 1) (.const (.int 1)))]) (.name 2) (.of (.slice (.var 1) (some (.const (.int 1))) none)) none [0,2] 1),
  .ret (.ite (.cmp .isIn (.const (.int 0)) (.var 3)) (.const (.int 0)) (.bin .add (.const (.int 1)) (.blt .sum [(.var 3)])))]
noncomputable def zr5:FD:=⟨3,4,zf8⟩
noncomputable def zx0:List S :=
  [.set 2 (.call 23 [(.var 0),(.var 1),(.const (.int 0))]),
  .ite (.cmp .eq (.call 15 [(.var 0),(.const (.int 2))]) (.const (.int 0)))
    [.for (.name 3) (.range (.bin .add (.const (.int 2)) (.call 15 [(.var 0),(.const (.int 4))])))
       [.set 2 (.ix (.list false [(.tup [(.const (.str [110,111,116])),(.var 2)]),(.tup [(.const (.str [98,111,116,104])),(.var 2),(.call 23 [(.var 0),(.var 1),(.const (.int 0))])])]) (.call 15 [(.var 0),(.const (.int 2))]))],
     .ret (.var 2)]
    [],
  .set 4 (.comp false (.call 23 [(.var 0),(.var 1),(.const (.int 0))]) (.name 2) (.range (.bin .add (.const (.int 2)) (.call 15 [(.var 0),(.const (.int 7))]))) none [0,1] 1),
  .while (.cmp .gt (.blt .len [(.var 4)]) (.const (.int 1)))
    [.set 4 (.bin .add (.slice (.var 4) (some (.const (.int 2))) none) (.list false [(.tup [(.const (.str [101,105,116,104,101,114])),(.ix (.var 4) (.const (.int 0))),(.ix (.var 4) (.const (.int 1)))])]))],
  .ret (.ix (.var 4) (.const (.int 0)))]
noncomputable def zw5:FD:=⟨2,5,zx0⟩
noncomputable def zx1:List S :=
 [.set 3 (.call 21 [(.var 1)]),
 .set 4 (.ix (.var 3) (.call 15 [(.var 0),(.blt .len [(.var 3)])])),
 .set 5 (.call 19 [(.var 0),(.call 18 [(.var 0),(.const (.int 1))])]),
 .set 6 (.list false [(.tup [(.const (.str [108,101,97,115,116])),(.var 4),(.var 5)]),(.tup [(.const (.str [108,101,97,115,116])),(.bin .add (.var 4) (.tup [(.const (.str [65]))])),(.var 5)]),(.tup [(.const (.str [108,101,97,115,116])),(.slice (.var 4) none (some (.const (.int 1)))),(.var 5)]),(.tup [(.const (.str [98,111,116,104])),(.var 2)])]),
 .set 6 (.bin .add (.var 6) (.list false [(.tup [(.const (.str [110,111,116])),(.var 2),(.var 2)]),(.tup [(.const (.str [108,101,97,115,116])),(.blt .list [(.var 4)]),(.var 5)]),(.tup [(.const (.str [108,101,97,115,116])),(.tup [(.const (.str [110,111,98,111,100,121]))]),(.var 5)])])),
 .ret (.ix (.var 6) (.call 15 [(.var 0),(.const (.int 7))]))]
noncomputable def zw3:FD:=⟨3,7,zx1⟩
noncomputable def yf1:List S :=
  [.for (.name 1) (.range (.bin .add (.const (.int 1)) (.blt .min2 [(.const (.int 16)),(.blt .len [(.var 0)])])))
    [.set 2 (.call 14 [(.var 0),(.var 1)]),
     .set 3 (.call 20 [(.var 2)]),
     .set 4 (.call 23 [(.var 2),(.var 3),(.const (.int 3))]),
     .ite (.cmp .eq (.call 15 [(.var 2),(.const (.int 4))]) (.const (.int 0)))
       [.set 4 (.call 28 [(.var 2),(.var 3)])]
       [],
     .set 5 (.call 26 [(.var 2),(.var 4)]),
     .for (.name 6) (.of (.list false [(.var 4),(.var 5),(.call 26 [(.var 2),(.var 5)]),(.call 29 [(.var 2),(.var 3),(.var 4)])]))
       [.set 7 (.call 9 [(.var 3),(.var 6)]),
        .ite (.or (.not (.blt (.isinst .bool) [(.var 7)])) (.cmp .ne (.var 7) (.chain .le .le (.const (.int 1)) (.call 27 [(.var 3),(.var 6),(.const (.int 1))]) (.const (.int 12)))))
          [.ret (.const (.bl false))]
          []]],
  .ret (.cmp .isNone (.call 9 [(.tup [(.tup [(.const (.str [97]))]),(.tup [(.tup [(.const (.str [97])),(.const (.int 0)),(.tup [(.const (.str [110,117,109]))])])])]),(.tup [(.const (.str [108,101,97,115,116])),(.tup [(.const (.str [97]))]),(.const (.bl true))])]) (.const (.bl false)))]
noncomputable def yN7:FD:=⟨1,8,yf1⟩
noncomputable def prog:List FD:=[zB3,zr4,ze5,zo4,zA6,zA3,zw4,zs3,zB0,zx3,zi8,zB5,zn6,zj6,zF1,zr6,zA9,zG6,zp6,zd6,zu9,zu5,zq4,zn4,zo6,zf1,zm8,zr5,zw5,zw3,yN7]
noncomputable abbrev yi4:Nat:=0
noncomputable abbrev zv3:Nat:=1
noncomputable abbrev zY6:Nat:=2
noncomputable abbrev yh0:Nat:=4
noncomputable abbrev yg6:Nat:=5
noncomputable abbrev zW3:Nat:=6
noncomputable abbrev zM4:Nat:=7
noncomputable abbrev yg5:Nat:=8
noncomputable abbrev zU7:Nat:=9
noncomputable abbrev zq3:Nat:=10
noncomputable abbrev ye8:Nat:=11
noncomputable abbrev zR4:Nat:=12
noncomputable abbrev zN3:Nat:=13
noncomputable abbrev yt8:Nat:=14
noncomputable abbrev zA1:Nat:=15
noncomputable abbrev yh2:Nat:=16
noncomputable abbrev yn0:Nat:=17
noncomputable abbrev zW0:Nat:=18
noncomputable abbrev zO4:Nat:=19
noncomputable abbrev zR0:Nat:=20
noncomputable abbrev zP6:Nat:=21
noncomputable abbrev zv7:Nat:=22
noncomputable abbrev zP8:Nat:=23
noncomputable abbrev zp0:Nat:=24
noncomputable abbrev zu2:Nat:=25
noncomputable abbrev yg1:Nat:=26
noncomputable abbrev zv0:Nat:=27
noncomputable abbrev zZ1:Nat:=28
noncomputable abbrev zU8:Nat:=29
noncomputable abbrev yY6:Nat:=30
noncomputable def bxL(a b c:Int):zz8:=.lst [.int a,.int b,.int c]
def Bx(st:za6)(w:Nat):Prop:=∃a b c,zd0 st w=some (bxL a b c)
def Dw(w:Nat)(st st':za6):Prop:=(∃o,st'=st.set w o)∧Bx st' w
theorem Bx.lt{st w}(h:Bx st w):w<st.length:=by obtain⟨_,_,_,h⟩:=h;exact zv4 h
theorem Bx.app{st w r}(h:Bx st w):Bx (st++r) w:=by
 obtain⟨a,b,c,h⟩:=h
 exact⟨a,b,c,by rw[zF6 (zv4 h)];exact h⟩
theorem Dw.trans{w st st1 st2}(h:Dw w st st1)(g:Dw w st1 st2):Dw w st st2:=by
 obtain⟨⟨o,rfl⟩,_⟩:=h
 obtain⟨⟨o',rfl⟩,q⟩:=g
 exact⟨⟨o',by simp⟩,q⟩
theorem Dw.refl{w st}(h:Bx st w):Dw w st st:=by
 refine⟨?_,h⟩
 obtain⟨a,b,c,h⟩:=h
 exact ⟨bxL a b c,by
  unfold zd0 at h
  obtain⟨h1,h2⟩:=List.getElem?_eq_some_iff.mp h
  rw[←h2];simp⟩
theorem Dw.len{w st st'}(h:Dw w st st'):st'.length=st.length:=by
 obtain⟨⟨o,rfl⟩,_⟩:=h;simp
theorem Dw.take{w st st'}(h:Dw w st st'):st'.take st.length=st':=by rw[←h.len];simp
theorem Dw.cut{w st st'}(h:Dw w st st'):Dw w st (st'.take st.length):=by rw[h.take];exact h
theorem Dw.unapp{w st rs st'}(h:Dw w (st++rs) st')(hw:w<st.length):∃o,st'=st.set w o++rs∧Bx (st.set w o) w:=by
 obtain⟨⟨o,rfl⟩,hw'⟩:=h
 refine⟨o,List.set_append_left _ _ hw,?_⟩
 rw[List.set_append_left _ _ hw]at hw'
 obtain⟨a,b,c,e⟩:=hw'
 exact⟨a,b,c,by rw[zF6 (by simpa using hw)]at e;exact e⟩
theorem zC2(a b:Int)(h:0<b):0≤a%b∧a%b<b:=⟨Int.emod_nonneg _ (by lia),Int.emod_lt_of_pos _ h⟩
theorem yM9(W d w:Nat)(a b c m:Int)(st:za6)(hw:zd0 st w=some (bxL a b c))(hm:0<m)(hm2:m<1000000000000000000000000000000):
  ∃r o,0≤r∧r<m∧zg2 prog W (d+1) zA1 [.ref w,.p (.int m)] st=.ok (.p (.int r)) (st.set w o)∧Bx (st.set w o) w:=by
 have g1:=fun o=>zI2 (o:=o) (zv4 hw)
 have i30:zf0 3 0=some 0:=rfl
 have i31:zf0 3 1=some 1:=rfl
 have i32:zf0 3 2=some 2:=rfl
 have s48:zk7 48271=true:=by decide
 have s40:zk7 40692=true:=by decide
 have s6:zk7 69621=true:=by decide
 by_cases h:0<a
 ·refine⟨a%m,bxL (a/m) b c,(zC2 a m hm).1,(zC2 a m hm).2,?_,_,_,_,g1 _⟩
  rw[zb7 (fd:=zr6) rfl rfl]
  simp[zr6,zv1,hw,bxL,h,g1,hm,hm2,ye2,i30,i31,i32]
 ·refine⟨((((b*48271+(c+1)*40692+7)%2147483629)*69621+(c+1))%2147483647/11)%m,bxL a b (c+1),(zC2 _ m hm).1,(zC2 _ m hm).2,?_,_,_,_,g1 _⟩
  rw[zb7 (fd:=zr6) rfl rfl]
  simp[zr6,zv1,hw,bxL,h,g1,hm,ye2,i30,i31,i32,s48,s40,s6]
theorem ya2{W D w:Nat}{m:Int}{st:za6}(hD:1≤D)(hw:Bx st w)(hm:0<m)(hm2:m<1000000):
  Sat (zg2 prog W D zA1 [.ref w,.p (.int m)] st) fun v st'=>(∃r,v=.p (.int r)∧0≤r∧r<m)∧Dw w st st':=by
 obtain⟨d,rfl⟩:∃d,D=d+1:=⟨D-1,by lia⟩
 obtain⟨a,b,c,h⟩:=hw
 obtain⟨r,o,h1,h2,h3,h4⟩:=yM9 W d w a b c m st h hm (by lia)
 exact xe1 h3 ⟨⟨r,rfl,h1,h2⟩,⟨_,rfl⟩,h4⟩
theorem ze0{W d w:Nat}{m:Int}{st:za6}(hw:Bx st w)(hm:0<m:=by decide)(hm2:m<1000000:=by decide):
  Sat (zg2 prog W (d+1) zA1 [.ref w,.p (.int m)] st) fun v st'=>(∃r,v=.p (.int r)∧0≤r∧r<m)∧Dw w st st':=ya2 (Nat.succ_pos d) hw hm hm2
theorem yI7(W d:Nat)(ns:List Int)(k:Int)(st:za6)(h63:ns.length≤63)(hk:0≤k):
  ∃c,zg2 prog W (d+1) zN3 [.p (.lst (ns.map .int)),.p (.int k)] st=.ok (.p (.int c)) st:=by
 have s48:zk7 48271=true:=by decide
 have s79:zk7 7919=true:=by decide
 by_cases h:k<ns.length
 ·obtain⟨v,h1,_,h3⟩:=zR8 ns k hk h
  refine⟨v,?_⟩
  rw[zb7 (fd:=zj6) rfl rfl]
  simp[zj6,zm1,h,h1,h3,yx7]
 ·by_cases h0:(0:Int)<ns.length
  ·obtain⟨u1,u2⟩:=zC2 k ns.length h0
   obtain⟨v,h1,_,h3⟩:=zR8 ns _ u1 u2
   refine⟨(v%1000000007*48271+k*7919+101)%2147483647,?_⟩
   rw[zb7 (fd:=zj6) rfl rfl]
   have h0':0<ns.length:=by lia
   simp[zj6,zm1,h,h0,h0',h1,h3,s48,s79,yx7]
  ·refine⟨(0%1000000007*48271+k*7919+101)%2147483647,?_⟩
   rw[zb7 (fd:=zj6) rfl rfl]
   have h0':¬0<ns.length:=by lia
   simp[zj6,zm1,h,h0,h0',s48,s79,yx7]
theorem xi2(W d:Nat)(ns:List Int)(k:Int)(st:za6)(h63:ns.length≤63)(hk:0≤k):
  ∃a b,zg2 prog W (d+2) yt8 [.p (.lst (ns.map .int)),.p (.int k)] st=.ok (.ref st.length) (st++[bxL a b 0]):=by
 obtain⟨c,hc⟩:=yI7 W d ns k st h63 hk
 have s10:zk7 10=true:=by decide
 have i18:(10:Int) ^ 18=1000000000000000000:=by decide
 have l30:(1000000000000000000:Int)<1000000000000000000000000000000:=by decide
 refine⟨if 0<c/1000000000000000000 then c/1000000000000000000 else 0,c%2147483629,?_⟩
 rw[zb7 (fd:=zF1) rfl rfl]
 simp[zF1,zG5,hc,s10,i18,l30,bxL,yx7,-Int.reducePow]
noncomputable def pl:List (List Nat):=[[97],[98],[97,98],[110,117,109],[112,117,116],[122,122,122,122,122,122,122,122],[99]]
noncomputable def smN(t s m:Nat):List (List Nat):=(List.range m).map fun k=>pl.getD ((t+s*k)%7) []
theorem yx5:∀t,t<7→∀s,s<3→(smN t (s+1) 7).Nodup∧(smN t (s+1) 7).all (fun n=>decide (n.length≤8))=true:=by decide +kernel
theorem yR2(t:Nat)(ht:t<7)(s:Nat)(hs:s<3)(m:Nat)(hm:m<8):(smN t (s+1) m).Nodup∧(smN t (s+1) m).all (fun n=>decide (n.length≤8))=true:=by
 obtain⟨h1,h2⟩:=yx5 t ht s hs
 have e:smN t (s+1) m=(smN t (s+1) 7).take m:=by
  unfold smN
  rw[←List.map_take,List.take_range,Nat.min_eq_left (by lia)]
 rw[e]
 exact⟨h1.sublist (List.take_sublist _ _),List.all_eq_true.mpr fun n hn=>List.all_eq_true.mp h2 n (List.mem_of_mem_take hn)⟩
theorem yR1{C:zc5}{L:List PV}{t P k:Int}{q:Nat}{x:PV}{st:za6}(sp:zk7 P=true)(e:(t+P*k)%7=(q:Int))(hlen:L.length=7)(hix:zf0 7 (q:Int)=some q)(hget:L[q]?=some x):
  evalE C (.ix (.var 0) (.bin .mod (.bin .add (.var 1) (.bin .mul (.var 2) (.var 3))) (.const (.int 7)))) [some (.p (.lst L)),some (.p (.int t)),some (.p (.int P)),some (.p (.int k))] st=.ok (.p x) st:=by
 simp![sp,e,hlen,hix,hget]
theorem zF3{W D w m:Nat}{st:za6}(hD:2≤D)(hw:Bx st w)(hm:m≤7):
  Sat (zg2 prog W D yh2 [.ref w,.p (.int m)] st) fun v st'=>(∃ns:List (List Nat),v=.p (.tup (ns.map .str))∧ns.length=m∧ns.Nodup∧∀n∈ns,n.length≤8)∧Dw w st st':=by
 obtain⟨d,rfl⟩:∃d,D=d+2:=⟨D-2,by lia⟩
 rw[zb7 (fd:=zA9) rfl rfl,zb4];simp! only[zA9,zB7]
 apply za1
 simp![]
 apply za1
 simp![]
 refine Sat.k1 (ze0 hw) fun t s1 t0 t1 d1=>?_
 apply za1
 simp![]
 refine Sat.k1 (ze0 d1.2) fun p s2 p0 p1 d2=>?_
 apply za1
 have im:(m:Int)≤SZ:=zy4 (by lia)
 have im':(-1000000:Int)≤(m:Int):=by lia
 simp![im,im']
 obtain⟨t',rfl⟩:∃t':Nat,t=(t':Int):=⟨t.toNat,by lia⟩
 obtain⟨p',rfl⟩:∃p':Nat,p=(p':Int):=⟨p.toNat,by lia⟩
 rw[show (1:Int)+(p':Int)=((p'+1:Nat):Int)by lia,show[PV.str [97],PV.str [98],PV.str [97,98],PV.str [110,117,109],PV.str [112,117,116],PV.str [122,122,122,122,122,122,122,122],PV.str [99]]=pl.map PV.str from rfl]
 rw[zr2 (fun k:Nat=>PV.int (k:Int)) (fun k=>.str (pl.getD ((t'+(p'+1)*k)%7) [])) (fun env=>∃v,env=[some (.p (.lst (pl.map .str))),some (.p (.int (t':Int))),some (.p (.int ((p'+1:Nat):Int))),v]) _ _ _ ⟨_,rfl⟩ ?g1]
 case g1 =>
  rintro k hk env ⟨v,rfl⟩
  refine⟨_,rfl,⟨_,rfl⟩,?_⟩
  have hkm:k<m:=by simpa using hk
  have sp:zk7 ((p'+1:Nat):Int)=true:=by unfold zk7;exact decide_eq_true ⟨by lia,by lia⟩
  have e:((t':Int)+((p'+1:Nat):Int)*(k:Int))%7=(((t'+(p'+1)*k)%7:Nat):Int):=by push_cast;rfl
  have hl:(t'+(p'+1)*k)%7<7:=Nat.mod_lt _ (by decide)
  generalize (t'+(p'+1)*k)%7=q at e hl
  have hix:zf0 7 (q:Int)=some q:=by unfold zf0;rw[if_pos (by lia),if_pos (by lia)];simp
  have hpl:pl.length=7:=rfl
  obtain⟨x,hx⟩:∃x,pl[q]?=some x:=⟨_,List.getElem?_eq_getElem (by rw[hpl];exact hl)⟩
  have hg:pl.getD q []=x:=by rw[List.getD_eq_getElem?_getD,hx];rfl
  rw[hg]
  have hlen:(pl.map PV.str).length=7:=rfl
  have hget:(pl.map PV.str)[q]?=some (.str x):=by rw[List.getElem?_map,hx];rfl
  generalize pl.map PV.str=L at hlen hget
  generalize ((p'+1:Nat):Int)=P at sp e
  exact yR1 sp e hlen hix hget
 simp![]
 obtain⟨g1,g2⟩:=yR2 t' (by lia) p' (by lia) m (by lia)
 exact⟨⟨smN t' (p'+1) m,by simp[smN],by simp[smN],g1,fun n hn=>of_decide_eq_true (List.all_eq_true.mp g2 n hn)⟩,(d1.trans d2).cut⟩
inductive Ord where
 |num
 |low
 |chain (ns:List (List Nat))
 |set (ns:List (List Nat))
 |web (ns:List (List Nat)) (ps:List (List Nat×List Nat))
 |row (os:List Ord)
 |newer (o:Ord)
mutual
noncomputable def enc:Ord→PV
 |.num=>.tup [.str [110,117,109]]
 |.low=>.tup [.str [108,111,119]]
 |.chain ns=>.tup [.str [99,104,97,105,110],.tup (ns.map .str)]
 |.set ns=>.tup [.str [115,101,116],.tup (ns.map .str)]
 |.web ns ps=>.tup [.str [119,101,98],.tup (ns.map .str),.tup (ps.map fun p=>.tup [.str p.1,.str p.2])]
 |.row os=>.tup [.str [114,111,119],.tup (encs os)]
 |.newer o=>.tup [.str [110,101,119,101,114],enc o]
noncomputable def encs:List Ord→List PV
 |[]=>[]
 |o::r=>enc o::encs r
end
theorem yj0:∀os,encs os=os.map enc
 |[]=>by rw[encs];rfl
 |o::r=>by rw[encs,yj0 r];rfl
theorem zB4:enc .num=.tup [.str [110,117,109]]:=by rw[enc]
theorem zG1:enc .low=.tup [.str [108,111,119]]:=by rw[enc]
theorem zt6{ns}:enc (.chain ns)=.tup [.str [99,104,97,105,110],.tup (ns.map .str)]:=by rw[enc]
theorem zI4{ns}:enc (.set ns)=.tup [.str [115,101,116],.tup (ns.map .str)]:=by rw[enc]
theorem zI0{ns ps}:enc (.web ns ps)=.tup [.str [119,101,98],.tup (ns.map .str),.tup (ps.map fun p=>.tup [.str p.1,.str p.2])]:=by rw[enc]
theorem zM3{os}:enc (.row os)=.tup [.str [114,111,119],.tup (os.map enc)]:=by rw[enc,yj0]
theorem zx9{o}:enc (.newer o)=.tup [.str [110,101,119,101,114],enc o]:=by rw[enc]
mutual
noncomputable def dpt:Ord→Nat
 |.row os=>dpts os+1
 |.newer o=>dpt o+1
 |_=>1
noncomputable def dpts:List Ord→Nat
 |[]=>0
 |o::r=>max (dpt o) (dpts r)
end
theorem zH7{o:Ord}:∀{os:List Ord},o∈os→dpt o≤dpts os
 |[],h=>by cases h
 | x::r,h=>by
  rw[dpts]
  rcases List.mem_cons.mp h with rfl |h
  ·lia
  ·have:=zH7 h;lia
theorem yk4{d:Nat}:∀{os:List Ord},(∀o∈os,dpt o≤d)→dpts os≤d
 |[],_=>by rw[dpts];lia
 | x::r,h=>by
  rw[dpts]
  have h1:=h x (by simp)
  have h2:=yk4 (d:=d) (os:=r) fun o ho=>h o (List.mem_cons_of_mem _ ho)
  lia
theorem zN5:∀o:Ord,1≤dpt o
 |.row os=>by rw[dpt];lia
 |.newer o=>by rw[dpt];lia
 |.num=>by rw[dpt] <;> simp
 |.low=>by rw[dpt] <;> simp
 |.chain _=>by rw[dpt] <;> simp
 |.set _=>by rw[dpt] <;> simp
 |.web _ _=>by rw[dpt] <;> simp
theorem zU5{P:Ord→Prop}(hnum:P .num)(hlow:P .low)(hch:∀ns,P (.chain ns))(hset:∀ns,P (.set ns))(hweb:∀ns ps,P (.web ns ps))
  (hrow:∀os,(∀o∈os,P o)→P (.row os)) (hnew:∀o,P o→P (.newer o)):∀o,P o:=by
 have key:∀n o,dpt o≤n→P o:=by
  intro n
  induction n with
  |zero=>intro o h;have:=zN5 o;lia
  | succ n ih =>
   intro o h
   cases o with
   |num=>exact hnum
   |low=>exact hlow
   |chain ns=>exact hch ns
   |set ns=>exact hset ns
   |web ns ps=>exact hweb ns ps
   |row os=>rw[dpt]at h;exact hrow os fun o ho=>ih o (by have:=zH7 ho;lia)
   |newer o=>rw[dpt]at h;exact hnew o (ih o (by lia))
 exact fun o=>key _ o (Nat.le_refl _)
theorem zL8{os}:dpt (.row os)=dpts os+1:=by rw[dpt]
theorem zz2{o}:dpt (.newer o)=dpt o+1:=by rw[dpt]
@[simp] theorem xu6:dpt .num=1:=by rw[dpt] <;> simp
@[simp] theorem xl1:dpt .low=1:=by rw[dpt] <;> simp
@[simp] theorem yZ6{ns}:dpt (.chain ns)=1:=by rw[dpt] <;> simp
@[simp] theorem xm9{ns}:dpt (.set ns)=1:=by rw[dpt] <;> simp
@[simp] theorem xq9{ns ps}:dpt (.web ns ps)=1:=by rw[dpt] <;> simp
theorem zp2{ns:List (List Nat)}:deps (ns.map .str)=0:=by
 induction ns with
 |nil=>simp
 |cons n r ih=>simp[ih]
@[simp] noncomputable def xa1:PV→Bool
 |.int i=>decide (0≤i)
 |_=>false
@[simp] noncomputable def xq5:PV→Bool
 |.non=>true
 |.int i=>decide (0≤i)
 |_=>false
@[simp] noncomputable def isOf(ns:List (List Nat)):PV→Bool
 |.str s=>decide (s∈ns)
 |_=>false
@[simp] noncomputable def yq4(f:List PV→Bool):PV→Bool
 |.tup ts=>f ts
 |_=>false
@[simp] noncomputable def xs3(f:PV→Bool):List PV→Bool
 |[a,h]=>xa1 a&&f h
 |_=>false
mutual
noncomputable def isH:Ord→PV→Bool
 |.num,a=>xa1 a
 |.low,a=>xq5 a
 |.chain ns,a=>isOf ns a
 |.web ns _,a=>isOf ns a
 |.set ns,a=>yq4 (fun ts=>decide (ts=(ns.filter fun n=>decide (PV.str n∈ts)).map .str)) a
 |.row os,a=>yq4 (isHs os) a
 |.newer o,a=>yq4 (xs3 (isH o)) a
noncomputable def isHs:List Ord→List PV→Bool
 |[],[]=>true
 |o::os,t::ts=>isH o t&&isHs os ts
 |_,_=>false
end
theorem ya7:∀{os ts},isHs os ts=true→os.length=ts.length
 |[],[],_=>rfl
 |[],_::_,h=>by simp[isHs]at h
 |_::_,[],h=>by simp[isHs]at h
 | o::os,t::ts,h=>by
  rw[isHs,Bool.and_eq_true]at h
  simp[ya7 h.2]
theorem zN9:∀{os ts},os.length=ts.length→isHs os ts=(os.zip ts).all fun p=>isH p.1 p.2
 |[],[],_=>by rw[isHs];rfl
 |[],_::_,h=>by simp at h
 |_::_,[],h=>by simp at h
 | o::os,t::ts,h=>by
  rw[isHs,zN9 (by simpa using h)];rfl
theorem ys0{os ts}(h:os.length≠ts.length):isHs os ts=false:=by
 cases e:isHs os ts with
 |false=>rfl
 |true=>exact absurd (ya7 e) h
noncomputable def zu0:PV→Bool
 |.int i=>decide (0≤i)
 |_=>false
theorem zL1{y:PV}{n:List Nat}:pyEq y (.str n)=decide (y=.str n):=by
 cases y <;> simp[pyEq]
theorem zE6{y:PV}{n:List Nat}:pyEq (.str n) y=decide (y=.str n):=by
 cases y <;> simp[pyEq,eq_comm]
theorem zJ5{n:List Nat}{ts:List PV}:zh0 (.str n) ts=decide (PV.str n∈ts):=by
 unfold zh0
 rw[Bool.eq_iff_iff]
 simp[zL1]
theorem zp9{t:PV}{ns:List (List Nat)}:zh0 t (ns.map .str)=(match t with |.str s=>decide (s∈ns)|_=>false):=by
 unfold zh0
 rw[Bool.eq_iff_iff]
 cases t <;> simp[zE6]
theorem zA4:∀{ts:List PV} {L:List (List Nat)},pyEqs ts (L.map .str)=decide (ts=L.map .str)
 |[],[]=>by rw[List.map_nil,pyEqs];rfl
 |[],_::_=>by rw[List.map_cons,pyEqs] <;> simp
 |_::_,[]=>by rw[List.map_nil,pyEqs] <;> simp
 | t::ts,n::L=>by
  rw[List.map_cons,pyEqs,zA4,zL1,Bool.eq_iff_iff]
  simp
theorem zp5{W d:Nat}{v:PV}{st:za6}:zg2 prog W (d+1) yi4 [.p v] st=.ok (.p (.bl (zu0 v))) st:=by
 rw[zb7 (fd:=zB3) rfl rfl]
 cases v <;> simp[zB3,zA2,zu0]
theorem zh6{W d:Nat}{v:PV}{a b:Int}{st:za6}:zg2 prog W (d+1) zv3 [.p v,.p (.int a),.p (.int b)] st=.ok (.p (.bl (match v with |.tup xs=>decide (a≤xs.length∧(xs.length:Int)≤b)|_=>false))) st:=by
 rw[zb7 (fd:=zr4) rfl rfl]
 cases v with
 | tup xs =>
  by_cases h:a≤xs.length
  ·simp[zr4,zr0,h]
  ·simp[zr4,zr0,h]
 |_=>simp[zr4,zr0]
theorem zP1{W:Nat}:∀o D,2*dpt o+1≤D→∀t st,zg2 prog W D zY6 [.p (enc o),.p t] st=.ok (.p (.bl (isH o t))) st:=by
 have hd:∀o:Ord,∀D,2*dpt o+1≤D→∃d,D=d+3:=fun o D h=>⟨D-3,by have:=zN5 o;lia⟩
 refine zU5 ?_ ?_ ?_ ?_ ?_ ?_ ?_
 ·intro D hD t st
  obtain⟨d,rfl⟩:=hd _ D hD
  rw[zb7 (fd:=ze5) rfl rfl,zB4]
  have h:isH .num t=zu0 t:=by cases t <;> (rw[isH] <;> simp[zu0])
  apply zd9
  rw[zb4]
  simp! only[ze5,zj8]
  apply za1
  simp![zf0]
  dsimp! only
  refine zm5 rfl ?_
  apply za1
  simp![zp5,h]
 ·intro D hD t st
  obtain⟨d,rfl⟩:=hd _ D hD
  rw[zb7 (fd:=ze5) rfl rfl,zG1]
  apply zd9
  rw[zb4]
  simp! only[ze5,zj8]
  apply za1
  simp![zf0]
  apply za1
  simp![pyEq]
  dsimp! only
  refine zm5 rfl ?_
  apply za1
  cases t <;> simp![zp5,isH,zu0]
 ·intro ns D hD t st
  obtain⟨d,rfl⟩:=hd _ D hD
  rw[zb7 (fd:=ze5) rfl rfl,zt6]
  apply zd9
  rw[zb4]
  simp! only[ze5,zj8]
  apply za1
  simp![zf0]
  apply za1
  simp![pyEq]
  apply za1
  simp![pyEq]
  dsimp! only
  refine zm5 rfl ?_
  apply za1
  cases t <;> simp![zf0,zp9,isH,zp2]
 ·intro ns D hD t st
  obtain⟨d,rfl⟩:=hd _ D hD
  rw[zb7 (fd:=ze5) rfl rfl,zI4]
  apply zd9
  rw[zb4]
  simp! only[ze5,zj8]
  apply za1
  simp![zf0]
  apply za1
  simp![pyEq]
  apply za1
  simp![pyEq]
  apply za1
  simp![pyEq]
  dsimp! only
  refine zm5 rfl ?_
  apply za1
  cases t with
  | tup ts =>
   simp![zf0,bfOp]
   rw[zm2 PV.str (fun n=>decide (PV.str n∈ts)) PV.str (fun env=>∃v,env=[some (.p (.tup ts)),v]) _ _ _ ⟨_,rfl⟩ ?g1]
   case g1 =>
    rintro n hn env ⟨v,rfl⟩
    exact⟨_,rfl,⟨_,rfl⟩,by simp![zJ5],by simp![]⟩
   have hdp:zk2 (deps ts+1) 1=true:=by simp[zk2]
   simp![bfOp,isH,zp2,hdp,pyEq,zA4]
  |_=>simp![bfOp,isH]
 ·intro ns ps D hD t st
  obtain⟨d,rfl⟩:=hd _ D hD
  rw[zb7 (fd:=ze5) rfl rfl,zI0]
  apply zd9
  rw[zb4]
  simp! only[ze5,zj8]
  apply za1
  simp![zf0]
  apply za1
  simp![pyEq]
  apply za1
  simp![pyEq]
  dsimp! only
  refine zm5 rfl ?_
  apply za1
  cases t <;> simp![zf0,zp9,isH,zp2]
 ·intro os ih D hD t st
  rw[zL8]at hD
  obtain⟨d,rfl⟩:∃d,D=d+3:=⟨D-3,by lia⟩
  rw[zb7 (fd:=ze5) rfl rfl,zM3]
  apply zd9
  rw[zb4]
  simp! only[ze5,zj8]
  apply za1
  simp![zf0]
  apply za1
  simp![pyEq]
  apply za1
  simp![pyEq]
  apply za1
  simp![pyEq]
  apply za1
  simp![pyEq]
  dsimp! only
  refine zm5 rfl ?_
  apply za1
  simp![zf0]
  rw[zb7 (fd:=zo4) rfl rfl,zb4]
  simp! only[zo4,zp7]
  apply za1
  cases t with
  | tup ts =>
   by_cases hl:os.length=ts.length
   ·have h2:(os.length:Int)≤ts.length∧(ts.length:Int)≤os.length:=by lia
    simp![bfOp,zh6,h2.1,h2.2]
    apply za1
    simp![List.mapM_cons,zp1]
    have hz:List.zip (List.map enc os) ts=(os.zip ts).map fun p=>(enc p.1,p.2):=by
     rw[List.zip_map_left];rfl
    rw[hz,List.map_map]
    rw[zr2 ((fun p=>PV.tup [p.1,p.2])∘fun p:Ord×PV=>(enc p.1,p.2)) (fun p=>.bl (isH p.1 p.2)) (fun env=>∃v v',env=[v,v']) _ _ _ ⟨_,_,rfl⟩ ?g1]
    case g1 =>
     rintro p hp env ⟨v,v',rfl⟩
     refine⟨_,rfl,⟨_,_,rfl⟩,?_⟩
     have:=zH7 (List.of_mem_zip hp).1
     simp![ih p.1 (List.of_mem_zip hp).1 (d+1) (by lia)]
    have hba:=zt7 (fun p:Ord×PV=>isH p.1 p.2) (os.zip ts)
    rw[isH,yq4,zN9 hl]
    generalize (os.zip ts).all (fun p=>isH p.1 p.2)=b at hba ⊢
    simp![bfOp,hba]
   ·have h2:¬((os.length:Int)≤ts.length∧(ts.length:Int)≤os.length):=by lia
    simp![bfOp,zh6,-Int.ofNat_le,-Bool.decide_and,h2]
    apply za1
    simp![isH,ys0 hl]
  | _ =>
   simp![bfOp,zh6]
   apply za1
   simp![isH]
 ·intro o ih D hD t st
  rw[zz2]at hD
  obtain⟨d,rfl⟩:∃d,D=d+3:=⟨D-3,by lia⟩
  rw[zb7 (fd:=ze5) rfl rfl,zx9]
  apply zd9
  rw[zb4]
  simp! only[ze5,zj8]
  apply za1
  simp![zf0]
  apply za1
  simp![pyEq]
  apply za1
  simp![pyEq]
  apply za1
  simp![pyEq]
  apply za1
  simp![pyEq]
  apply za1
  simp![pyEq]
  apply za1
  cases t with
  | tup ts =>
   match ts with
   |[]=>simp![zh6,isH]
   |[a]=>simp![zh6,isH]
   | [a,b] =>
    cases a with
    | int i =>
     by_cases h0:0≤i
     ·simp![zh6,zf0,zp5,zu0,h0,ih (d+2) (by lia)]
      rw[isH];simp[h0]
     ·simp![zh6,zf0,zp5,zu0,h0]
      rw[isH];simp[h0]
    |_=>simp![zh6,zf0,zp5,zu0,isH]
   | a::b::c::r =>
    have h2:¬((r.length:Int)+1+1+1≤2):=by lia
    simp![zh6,isH,h2]
  |_=>simp![zh6,isH]
def gNs(ns:List (List Nat)):Prop:=1≤ns.length∧ns.length≤7∧∀n∈ns,n.length≤8
mutual
noncomputable def ok:Ord→Prop
 |.num=>True
 |.low=>True
 |.chain ns=>gNs ns
 |.set ns=>gNs ns
 |.web ns _=>gNs ns
 |.row os=>os.length≤3∧oks os
 |.newer o=>ok o
noncomputable def oks:List Ord→Prop
 |[]=>True
 |o::r=>ok o∧oks r
end
theorem yl3:∀{os},oks os↔∀o∈os,ok o
 |[]=>by rw[oks];simp
 |o::r=>by rw[oks,yl3];simp
theorem yu1{os}:ok (.row os)↔os.length≤3∧∀o∈os,ok o:=by rw[ok,yl3]
theorem zN6{o}:ok (.newer o)↔ok o:=by rw[ok]
open OR
theorem xd1{W D w:Nat}{st:za6}(hD:3≤D)(hw:Bx st w):
  Sat (zg2 prog W D yn0 [.ref w] st) fun v st'=>(∃o,v=.p (enc o)∧ok o∧dpt o≤1)∧Dw w st st':=by
 obtain⟨d,rfl⟩:∃d,D=d+3:=⟨D-3,by lia⟩
 rw[zb7 (fd:=zG6) rfl rfl,zb4];simp! only[zG6,zp3]
 apply za1
 simp![]
 refine Sat.k1 (ze0 hw) fun r s1 r0 r1 d1=>?_
 obtain⟨m,e1⟩:∃m:Nat,4+r=(m:Int):=⟨(4+r).toNat,by lia⟩
 simp![e1]
 refine Sat.mono (zF3 (by lia) d1.2 (by lia)) ?_
 rintro _ s2 ⟨⟨ns,rfl,hl,hnd,h8⟩,d2⟩
 have hd12:=d1.trans d2
 clear hnd d1 d2
 obtain ⟨a,b,c,e,q,rfl⟩:∃a b c e q,ns=a::b::c::e::q:=by
  match ns,hl with
  |a::b::c::e::q,_=>exact⟨a,b,c,e,q,rfl⟩
  |[],hl=>simp at hl;lia
  |[_],hl=>simp at hl;lia
  |[_,_],hl=>simp at hl;lia
  |[_,_,_],hl=>simp at hl;lia
 have hgn:∀q':List (List Nat),q'.length≤1→(∀n∈q',n.length≤8)→gNs (a::b::c::e::q'):=fun q' hq hn=>⟨by simp,by simp;lia,fun n hn'=>by
  simp only[List.mem_cons]at hn'
  rcases hn' with rfl |rfl |rfl |rfl |hn'
  ·exact h8 _ (by simp)
  ·exact h8 _ (by simp)
  ·exact h8 _ (by simp)
  ·exact h8 _ (by simp)
  ·exact hn n hn'⟩
 have hql:q.length≤1:=by simp at hl;lia
 have hN:=hgn q (by lia) fun n hn=>h8 n (by simp[hn])
 have hR:gNs (a::b::c::e::q).reverse:=⟨by simp,by simp;lia,fun n hn=>h8 n (List.mem_reverse.mp hn)⟩
 have cut4:cut (PV.str a::PV.str b::PV.str c::PV.str e::q.map PV.str) none (some 4)=[.str a,.str b,.str c,.str e]:=by rw[zS3 _ _ (by decide)];rfl
 apply za1
 simp![sliceOp,cut4,bfOp]
 apply za1
 simp![]
 apply za1
 simp![]
 refine Sat.k1 (ze0 hd12.2) fun p s3 p0 p1 d3=>?_
 -- the pairs so far
 have zn7:∀ps:List (List Nat×List Nat),ps.length=4→Sat (execSs (zg2 prog W (d+2)) W (zp3.drop 4) [some (.ref w),some (.p (.tup ((a::b::c::e::q).map .str))),some (.p (.str a)),some (.p (.str b)),some (.p (.str c)),some (.p (.str e)),some (.p (.tup (ps.map fun p=>.tup [.str p.1,.str p.2])))] s3)
   fun f s4=>∃o,f=.ret (.p (enc o))∧ok o∧dpt o≤1∧Dw w s3 s4:=by
  intro ps hps
  simp only[zp3,List.drop_succ_cons,List.drop_zero]
  have last:∀(ps:List (List Nat×List Nat)) (s5:za6),Dw w s3 s5→Sat (execSs (zg2 prog W (d+2)) W (zp3.drop 5) [some (.ref w),some (.p (.tup ((a::b::c::e::q).map .str))),some (.p (.str a)),some (.p (.str b)),some (.p (.str c)),some (.p (.str e)),some (.p (.tup (ps.map fun p=>.tup [.str p.1,.str p.2])))] s5)
    fun f s4=>∃o,f=.ret (.p (enc o))∧ok o∧dpt o≤1∧Dw w s3 s4:=by
   intro ps s5 d5
   simp only[zp3,List.drop_succ_cons,List.drop_zero]
   apply za1
   simp![]
   refine Sat.k1 (ze0 d5.2) fun z s6 z0 z1 d6=>?_
   by_cases hz:z=0
   ·subst hz
    simp![]
    apply za1
    simp![]
    dsimp! only
    skip
    apply za1
    simp![]
    refine⟨.web (a::b::c::e::q).reverse ps,?_,by rw[ok];exact hR,by simp,d5.trans d6⟩
    rw[zI0]
    simp
   ·simp![hz]
    apply za1
    simp![]
    exact⟨.web (a::b::c::e::q) ps,by rw[zI0];rfl,by rw[ok];exact hN,by simp,d5.trans d6⟩
  apply za1
  rcases q with _ |⟨f5,_ |⟨f6,r⟩⟩
  ·simp![]
   dsimp! only
   exact last ps s3 (Dw.refl d3.2)
  ·simp![]
   apply za1
   have z5:ps.length+1≤SZ:=zx2 (by lia)
   have i4:zf0 5 4=some 4:=rfl
   simp![i4]
   refine Sat.k1 (ze0 d3.2) fun z s6 z0 z1 d6=>?_
   obtain rfl |rfl:z=0∨z=1:=by lia
   ·have i2:zf0 2 0=some 0:=rfl
    simp![i2,z5]
    dsimp! only
    have:=last (ps++[(e,f5)]) s6 d6
    rw[List.map_append]at this
    exact this
   ·have i2:zf0 2 1=some 1:=rfl
    simp![i2,z5]
    dsimp! only
    have:=last (ps++[(f5,a)]) s6 d6
    rw[List.map_append]at this
    exact this
  ·simp at hql
 have fin:∀f s4,(∃o,f=Flow.ret (.p (enc o))∧ok o∧dpt o≤1∧Dw w s3 s4)→Sat (yf8 (List.length st) f s4) (fun v st'=>(∃o,v=.p (enc o)∧ok o∧dpt o≤1)∧Dw w st st'):=by
  rintro _ s4 ⟨o,rfl,h1,h2,h3⟩
  exact⟨⟨o,rfl,h1,h2⟩,((hd12.trans d3).trans h3).cut⟩
 by_cases hp:p=0
 ·subst hp
  simp![]
  apply za1
  simp![]
  dsimp! only
  exact (zn7 [(b,e),(a,b),(c,e),(a,c)] rfl).mono fin
 ·simp![hp]
  dsimp! only
  exact (zn7 [(a,b),(a,c),(b,e),(c,e)] rfl).mono fin
mutual
noncomputable def tm(n:Nat):PV→Bool
 |.int i=>decide (i.natAbs≤10000000000+n)
 |.str s=>decide (s.length≤100+n)
 |.tup xs=>decide (xs.length≤100+n)&&tms n xs
 |.lst xs=>decide (xs.length≤100+n)&&tms n xs
 |.non=>true
 |.bl _=>true
noncomputable def tms(n:Nat):List PV→Bool
 |[]=>true
 |x::r=>tm n x&&tms n r
end
theorem zY1{n:Nat}:∀{xs:List PV},tms n xs=true↔∀x∈xs,tm n x=true
 |[]=>by rw[tms];simp
 |x::r=>by rw[tms,Bool.and_eq_true,zY1];simp
structure Tm(n d:Nat)(v:PV):Prop where
 t:tm n v=true
 d:dep v≤d
theorem Tm.tup{n d:Nat}{xs:List PV}:Tm n (d+1) (.tup xs)↔xs.length≤100+n∧∀x∈xs,Tm n d x:=by
 constructor
 ·rintro⟨h1,h2⟩
  rw[tm,Bool.and_eq_true,decide_eq_true_eq,zY1]at h1
  rw[zB8]at h2
  exact⟨h1.1,fun x hx=>⟨h1.2 x hx,zL4.mp (by lia:deps xs≤d) x hx⟩⟩
 ·rintro⟨h1,h2⟩
  refine⟨?_,?_⟩
  ·rw[tm,Bool.and_eq_true,decide_eq_true_eq,zY1];exact⟨h1,fun x hx=>(h2 x hx).t⟩
  ·rw[zB8];exact Nat.succ_le_succ (zL4.mpr fun x hx=>(h2 x hx).d)
theorem Tm.lst{n d:Nat}{xs:List PV}:Tm n (d+1) (.lst xs)↔Tm n (d+1) (.tup xs):=by
 constructor
 ·rintro⟨h1,h2⟩
  rw[tm]at h1
  exact⟨by rw[tm];exact h1,by rw[zB8];rw[yr6]at h2;exact h2⟩
 ·rintro⟨h1,h2⟩
  rw[tm]at h1
  exact⟨by rw[tm];exact h1,by rw[yr6];rw[zB8]at h2;exact h2⟩
theorem Tm.int{n d:Nat}{i:Int}(h:i.natAbs≤10000000000+n):Tm n d (.int i):=⟨by rw[tm];exact decide_eq_true h,by simp⟩
theorem Tm.str{n d:Nat}{s:List Nat}(h:s.length≤100+n):Tm n d (.str s):=⟨by rw[tm];exact decide_eq_true h,by simp⟩
theorem Tm.non{n d:Nat}:Tm n d .non:=⟨by rw[tm],by simp⟩
theorem Tm.bl{n d:Nat}{b:Bool}:Tm n d (.bl b):=⟨by rw[tm],by simp⟩
theorem ys2{n m:Nat}(h:n≤m):∀v:PV,tm n v=true→tm m v=true
 |.int i,e=>by rw[tm,decide_eq_true_eq]at *;lia
 |.str i,e=>by rw[tm,decide_eq_true_eq]at *;lia
 |.non,_=>by rw[tm]
 |.bl _,_=>by rw[tm]
 | .tup xs,e=>by
  rw[tm,Bool.and_eq_true,decide_eq_true_eq]at *
  exact⟨by lia,tms_mono h xs e.2⟩
 | .lst xs,e=>by
  rw[tm,Bool.and_eq_true,decide_eq_true_eq]at *
  exact⟨by lia,tms_mono h xs e.2⟩
where tms_mono {n m:Nat} (h:n≤m):∀xs:List PV,tms n xs=true→tms m xs=true
 |[],_=>by rw[tms]
 | x::r,e=>by
  rw[tms,Bool.and_eq_true]at *
  exact⟨ys2 h x e.1,tms_mono h r e.2⟩
theorem Tm.mono{n m d e:Nat}{v:PV}(x:Tm n d v)(h:n≤m)(g:d≤e):Tm m e v:=⟨ys2 h v x.t,Nat.le_trans x.d g⟩
def JO(w:Nat)(st:za6)(E1:Int)(m e:Nat)(xs:List PV)(env:Env)(st':za6)(acc:List PV):Prop :=
 (∃v,env=[some (.ref w),some (.p (.int E1)),v])∧∃os:List Ord,acc=os.map enc∧os.length+xs.length=m∧(∀o∈os,ok o∧dpt o≤e+1)∧Dw w st st'
theorem zW9{W w:Nat}:∀(e D:Nat) (st:za6),e+4≤D→Bx st w →
  Sat (zg2 prog W D zW0 [.ref w,.p (.int e)] st) fun v st'=>(∃o,v=.p (enc o)∧ok o∧dpt o≤e+1)∧Dw w st st':=by
 intro e
 induction e with
 | zero =>
  intro D st hD hw
  obtain⟨d,rfl⟩:∃d,D=d+4:=⟨D-4,by lia⟩
  have i20:zf0 2 0=some 0:=rfl
  rw[zb7 (fd:=zp6) rfl rfl,zb4];simp! only[zp6,zs1]
  apply za1
  simp![bfOp,i20]
  refine Sat.k1 (ze0 hw) fun r s1 r0 r1 d1=>?_
  dsimp! only
  obtain rfl |rfl |rfl |rfl |rfl:r=0∨r=1∨r=2∨r=3∨r=4:=by lia
  ·apply za1
   simp![]
   apply za1
   simp![i20]
   exact⟨⟨.num,by rw[zB4],by rw[ok];trivial,by simp⟩,d1.cut⟩
  ·have i21:zf0 2 1=some 1:=rfl
   apply za1
   simp![]
   apply za1
   simp![i21]
   exact⟨⟨.low,by rw[zG1],by rw[ok];trivial,by simp⟩,d1.cut⟩
  ·apply za1
   simp![]
   apply za1
   simp![]
   apply za1
   simp![]
   refine Sat.k1 (ze0 d1.2) fun p s2 p0 p1 d2=>?_
   obtain⟨m,e1⟩:∃m:Nat,2+p=(m:Int):=⟨(2+p).toNat,by lia⟩
   simp![e1]
   refine Sat.mono (zF3 (by lia) d2.2 (by lia)) ?_
   rintro _ s3 ⟨⟨ns,rfl,hl,_,h8⟩,d3⟩
   simp![]
   exact⟨⟨.chain ns,by rw[zt6],by rw[ok];exact⟨by lia,by lia,h8⟩,by simp⟩,((d1.trans d2).trans d3).cut⟩
  ·apply za1
   simp![]
   apply za1
   simp![]
   apply za1
   simp![]
   apply za1
   simp![]
   refine Sat.k1 (ze0 d1.2) fun p s2 p0 p1 d2=>?_
   obtain⟨m,e1⟩:∃m:Nat,1+p=(m:Int):=⟨(1+p).toNat,by lia⟩
   simp![e1]
   refine Sat.mono (zF3 (by lia) d2.2 (by lia)) ?_
   rintro _ s3 ⟨⟨ns,rfl,hl,_,h8⟩,d3⟩
   simp![]
   exact⟨⟨.set ns,by rw[zI4],by rw[ok];exact⟨by lia,by lia,h8⟩,by simp⟩,((d1.trans d2).trans d3).cut⟩
  ·apply za1
   simp![]
   apply za1
   simp![]
   apply za1
   simp![]
   apply za1
   simp![]
   apply za1
   simp![]
   refine Sat.k1 (xd1 (by lia) d1.2) fun o s2 ho hdo d2=>?_
   simp![]
   exact⟨⟨o,rfl,ho,hdo⟩,(d1.trans d2).cut⟩
 | succ e ih =>
  intro D st hD hw
  obtain⟨d,rfl⟩:∃d,D=d+5:=⟨D-5,by lia⟩
  have i20:zf0 2 0=some 0:=rfl
  have i21:zf0 2 1=some 1:=rfl
  have he:(0:Int)<((e+1:Nat):Int):=by lia
  have he1:((e+1:Nat):Int)-1=(e:Int):=by lia
  generalize hE:((e+1:Nat):Int)=E1 at he he1
  rw[zb7 (fd:=zp6) rfl rfl,zb4];simp! only[zp6,zs1]
  apply za1
  simp![bfOp,he,i21]
  refine Sat.k1 (ze0 hw) fun r s1 r0 r1 d1=>?_
  dsimp! only
  obtain rfl |rfl |rfl |rfl |rfl |rfl |rfl:r=0∨r=1∨r=2∨r=3∨r=4∨r=5∨r=6:=by lia
  ·apply za1
   simp![]
   apply za1
   simp![i20]
   exact⟨⟨.num,by rw[zB4],by rw[ok];trivial,by simp⟩,d1.cut⟩
  ·apply za1
   simp![]
   apply za1
   simp![i21]
   exact⟨⟨.low,by rw[zG1],by rw[ok];trivial,by simp⟩,d1.cut⟩
  ·apply za1
   simp![]
   apply za1
   simp![]
   apply za1
   simp![]
   refine Sat.k1 (ze0 d1.2) fun p s2 p0 p1 d2=>?_
   obtain⟨m,e1⟩:∃m:Nat,2+p=(m:Int):=⟨(2+p).toNat,by lia⟩
   simp![e1]
   refine Sat.mono (zF3 (by lia) d2.2 (by lia)) ?_
   rintro _ s3 ⟨⟨ns,rfl,hl,_,h8⟩,d3⟩
   simp![]
   exact⟨⟨.chain ns,by rw[zt6],by rw[ok];exact⟨by lia,by lia,h8⟩,by simp⟩,((d1.trans d2).trans d3).cut⟩
  ·apply za1
   simp![]
   apply za1
   simp![]
   apply za1
   simp![]
   apply za1
   simp![]
   refine Sat.k1 (ze0 d1.2) fun p s2 p0 p1 d2=>?_
   obtain⟨m,e1⟩:∃m:Nat,1+p=(m:Int):=⟨(1+p).toNat,by lia⟩
   simp![e1]
   refine Sat.mono (zF3 (by lia) d2.2 (by lia)) ?_
   rintro _ s3 ⟨⟨ns,rfl,hl,_,h8⟩,d3⟩
   simp![]
   exact⟨⟨.set ns,by rw[zI4],by rw[ok];exact⟨by lia,by lia,h8⟩,by simp⟩,((d1.trans d2).trans d3).cut⟩
  ·apply za1
   simp![]
   apply za1
   simp![]
   apply za1
   simp![]
   apply za1
   simp![]
   apply za1
   simp![]
   refine Sat.k1 (xd1 (by lia) d1.2) fun o s2 ho hdo d2=>?_
   simp![]
   exact⟨⟨o,rfl,ho,by lia⟩,(d1.trans d2).cut⟩
  ·apply za1
   simp![]
   apply za1
   simp![]
   apply za1
   simp![]
   apply za1
   simp![]
   apply za1
   simp![]
   apply za1
   simp![]
   refine Sat.k1 (ze0 d1.2) fun p s2 p0 p1 d2=>?_
   obtain⟨m,e1⟩:∃m:Nat,1+p=(m:Int):=⟨(1+p).toNat,by lia⟩
   have im:(m:Int)≤SZ:=zy4 (by lia)
   have im':(-1000000:Int)≤(m:Int):=by lia
   simp![e1,im,im']
   refine (zz5 (JO w st E1 m e) _ _ _ _ ⟨⟨_,rfl⟩,[],rfl,by simp,by simp,d1.trans d2⟩ ?_).mono ?_
   ·rintro x r env st' acc ⟨⟨v,rfl⟩,os,rfl,hl,ho,hd⟩
    refine⟨_,rfl,?_⟩
    simp![he1]
    refine Sat.k1 (ih (d+4) st' (by lia) hd.2) fun o s4 o1 o2 d4=>?_
    simp![]
    refine⟨⟨_,rfl⟩,os++[o],by simp,by simp at hl ⊢;lia,fun u hu=>?_,hd.trans d4⟩
    rcases List.mem_append.mp hu with hu |hu
    ·exact ho u hu
    ·have:u=o:=by simpa using hu
     subst this;exact⟨o1,o2⟩
   ·rintro ys st' ⟨env',_,os,rfl,hl,ho,hd⟩
    simp![]
    refine⟨⟨.row os,by rw[zM3],yu1.mpr ⟨by simp at hl;lia,fun o h=>(ho o h).1⟩,?_⟩,hd.cut⟩
    rw[zL8]
    exact Nat.succ_le_succ (yk4 fun o h=>(ho o h).2)
  ·apply za1
   simp![]
   apply za1
   simp![]
   apply za1
   simp![]
   apply za1
   simp![]
   apply za1
   simp![]
   apply za1
   simp![he1]
   refine Sat.k1 (ih (d+4) s1 (by lia) d1.2) fun o s4 o1 o2 d4=>?_
   simp![]
   exact⟨⟨.newer o,by rw[zx9],zN6.mpr o1,by rw[zz2];lia⟩,(d1.trans d4).cut⟩
open OR
theorem yd8(k:Nat):(0:Int)<2 ^ k:=Int.pow_pos (by decide)
def JHt(w:Nat)(st:za6)(os:List Ord)(d:Nat)(xs:List PV)(env:Env)(st':za6)(acc:List PV):Prop :=
 (∃v,env=[some (.ref w),v])∧∃us vs:List Ord,os=us++vs∧xs=vs.map enc∧acc.length=us.length∧(∀x∈acc,Tm 0 d x)∧Dw w st st'
theorem yi8{L:List PV}{n d:Nat}(h:∀x∈L,Tm n d x)(i:Int)(h0:0≤i)(h1:i<L.length):∃x,L[i.toNat]?=some x∧Tm n d x∧zf0 L.length i=some i.toNat:=by
 obtain⟨x,a,b,c⟩:=zR8 L i h0 h1
 exact⟨x,a,h x b,c⟩
theorem yE2{W d w:Nat}{st:za6}{wd:List Nat}{ns:List (List Nat)}{r:List PV}{e:Env}{dd:Nat}(hw:Bx st w)(hn:gNs ns):
  Sat (evalE (zg2 prog W (d+1)) (.ix (.ix (.var 1) (.const (.int 1))) (.call 15 [(.var 0),(.blt .len [(.ix (.var 1) (.const (.int 1)))])])) (some (.ref w)::some (.p (.tup (.str wd :: .tup (ns.map .str)::r)))::e) st)
   fun v st'=>(∃x,v=.p x∧Tm 0 dd x)∧Dw w st st':=by
 obtain⟨h1,h7,h8⟩:=id hn
 have i1:zf0 (r.length+1+1) 1=some 1:=by unfold zf0;rw[if_pos (by decide),if_pos (by lia)];rfl
 simp![i1,bfOp]
 refine Sat.k1 (ze0 hw (by lia) (by lia)) fun q s1 q0 q1 d1=>?_
 obtain⟨x,u1,u2,u3⟩:=zR8 ns q q0 q1
 simp![u1,u3]
 exact⟨Tm.str (by have:=h8 x u2;lia),d1⟩
theorem yd9{W w:Nat}:∀o,ok o→∀(D:Nat) (st:za6),dpt o+1≤D→Bx st w →
  Sat (zg2 prog W D zO4 [.ref w,.p (enc o)] st) fun v st'=>(∃x,v=.p x∧Tm 0 (dpt o) x)∧Dw w st st':=by
 have s10:zk7 10=true:=by decide
 have s1':zk7 1=true:=by decide
 have i9:(10:Int) ^ 9=1000000000:=by decide
 refine zU5 ?_ ?_ ?_ ?_ ?_ ?_ ?_
 ·intro _ D st hD hw
  obtain⟨d,rfl⟩:∃d,D=d+2:=⟨D-2,by simp at hD;lia⟩
  rw[zB4]
  rw[zb7 (fd:=zd6) rfl rfl,zb4];simp! only[zd6,zi5]
  apply za1
  simp![zf0,pyEq]
  apply za1
  simp![s10,i9]
  refine Sat.k1 (ze0 hw) fun a s1 a0 a1 d1=>?_
  simp![]
  refine Sat.k1 (ze0 d1.2) fun b s2 b0 b1 d2=>?_
  simp![]
  refine Sat.k1 (ze0 d2.2) fun c s3 c0 c1 d3=>?_
  have hL:∀x∈[PV.int 0,PV.int 1,PV.int 2,PV.int 3,PV.int 1000000000,PV.int a,PV.int b],Tm 0 1 x:=by
   intro x hx
   simp only[List.mem_cons,List.not_mem_nil,or_false]at hx
   rcases hx with rfl |rfl |rfl |rfl |rfl |rfl |rfl <;> exact Tm.int (by lia)
  obtain⟨x,h1,h2,h3⟩:=yi8 hL c c0 c1
  generalize[PV.int 0,PV.int 1,PV.int 2,PV.int 3,PV.int 1000000000,PV.int a,PV.int b]=L at h1 h3 ⊢
  simp![h1,h3]
  exact⟨h2,((d1.trans d2).trans d3).cut⟩
 ·intro _ D st hD hw
  obtain⟨d,rfl⟩:∃d,D=d+2:=⟨D-2,by simp at hD;lia⟩
  rw[zG1]
  rw[zb7 (fd:=zd6) rfl rfl,zb4];simp! only[zd6,zi5]
  apply za1
  simp![zf0,pyEq]
  apply za1
  simp![zf0,pyEq]
  apply za1
  simp![]
  refine Sat.k1 (ze0 hw) fun a s1 a0 a1 d1=>?_
  simp![]
  refine Sat.k1 (ze0 d1.2) fun b s2 b0 b1 d2=>?_
  simp![]
  refine Sat.k1 (ze0 d2.2) fun c s3 c0 c1 d3=>?_
  have hL:∀x∈[PV.non,PV.int 0,PV.int 1,PV.int 2,PV.int a,PV.int b],Tm 0 1 x:=by
   intro x hx
   simp only[List.mem_cons,List.not_mem_nil,or_false]at hx
   rcases hx with rfl |rfl |rfl |rfl |rfl |rfl <;> first |exact Tm.non |exact Tm.int (by lia)
  obtain⟨x,h1,h2,h3⟩:=yi8 hL c c0 c1
  generalize[PV.non,PV.int 0,PV.int 1,PV.int 2,PV.int a,PV.int b]=L at h1 h3 ⊢
  simp![h1,h3]
  exact⟨h2,((d1.trans d2).trans d3).cut⟩
 ·intro ns hok D st hD hw
  rw[ok]at hok
  obtain⟨d,rfl⟩:∃d,D=d+2:=⟨D-2,by simp at hD;lia⟩
  rw[zt6]
  rw[zb7 (fd:=zd6) rfl rfl,zb4];simp! only[zd6,zi5]
  apply za1
  simp![zf0,pyEq]
  apply za1
  simp![zf0,pyEq]
  apply za1
  simp![zf0,pyEq]
  apply za1
  simp![zf0,pyEq]
  apply za1
  simp![zf0,pyEq]
  apply za1
  rw[yo7,zb4]
  refine Sat.k0 (yE2 (dd:=1) hw hok) fun x s2 h2 d2=>?_
  simp![]
  exact⟨h2,d2.cut⟩
 ·intro ns hok D st hD hw
  rw[ok]at hok
  obtain⟨h1,h7,h8⟩:=hok
  obtain⟨d,rfl⟩:∃d,D=d+2:=⟨D-2,by simp at hD;lia⟩
  rw[zI4]
  rw[zb7 (fd:=zd6) rfl rfl,zb4];simp! only[zd6,zi5]
  apply za1
  simp![zf0,pyEq]
  apply za1
  simp![zf0,pyEq]
  apply za1
  simp![zf0,pyEq]
  apply za1
  have hp:(ns.length:Int)≤1000000:=by lia
  have h2p:2 ^ ns.length≤2 ^ 7:=Nat.pow_le_pow_right (by decide) h7
  have h2q:(0:Int)<2 ^ ns.length:=yd8 _
  have h2r:(2:Int) ^ ns.length<1000000:=by
   have e:((2:Int) ^ ns.length)=((2 ^ ns.length:Nat):Int):=by push_cast;rfl
   rw[e];lia
  simp![zf0,bfOp,hp,s1']
  generalize (2:Int) ^ ns.length=M at h2q h2r ⊢
  refine Sat.k1 (ze0 hw h2q h2r) fun f s1 f0 f1 d1=>?_
  apply za1
  have im:(ns.length:Int)≤SZ:=zy4 (by lia)
  have im':(-1000000:Int)≤(ns.length:Int):=by lia
  simp![zf0,bfOp,im,im']
  rw[zm2 (fun k:Nat=>PV.int (k:Int)) (fun k=>decide (f/2 ^ k%2=1)) (fun k=>.str (ns.getD k [])) (fun env=>∃v,env=[some (.p (.tup [PV.str [115,101,116],.tup (ns.map .str)])),some (.p (.int f)),v]) _ _ _ ⟨_,rfl⟩ ?g1]
  case g1 =>
   rintro k hk env ⟨v,rfl⟩
   have hkn:k<ns.length:=by simpa using hk
   have hf:0≤f/2 ^ k:=Int.ediv_nonneg f0 (Int.le_of_lt (yd8 k))
   refine⟨_,rfl,⟨_,rfl⟩,?_,fun _=>?_⟩
   ·simp![hf,pyEq]
   ·obtain⟨x,u1,u2,u3⟩:=zR8 ns (k:Int) (by lia) (by lia)
    simp only[Int.toNat_natCast]at u1 u3
    have hg:ns.getD k []=x:=by rw[List.getD_eq_getElem?_getD,u1];rfl
    rw[hg]
    simp![zf0,u1,hkn]
    exact (List.getElem?_eq_some_iff.mp u1).2
  simp![]
  refine⟨Tm.tup.mpr ⟨?_,fun x hx=>?_⟩,d1.cut⟩
  ·have:=List.length_filter_le (fun k=>decide (f/2 ^ k%2=1)) (List.range ns.length)
   simp at this ⊢
   lia
  ·obtain⟨k,hk,rfl⟩:=List.mem_map.mp hx
   have hk:=List.mem_range.mp (List.mem_filter.mp hk).1
   refine Tm.str ?_
   rw[List.getElem?_eq_getElem hk]
   have:=h8 _ (List.getElem_mem hk)
   simp
   lia
 ·intro ns ps hok D st hD hw
  rw[ok]at hok
  obtain⟨d,rfl⟩:∃d,D=d+2:=⟨D-2,by simp at hD;lia⟩
  rw[zI0]
  rw[zb7 (fd:=zd6) rfl rfl,zb4];simp! only[zd6,zi5]
  apply za1
  simp![zf0,pyEq]
  apply za1
  simp![zf0,pyEq]
  apply za1
  simp![zf0,pyEq]
  apply za1
  simp![zf0,pyEq]
  apply za1
  simp![zf0,pyEq]
  apply za1
  rw[yo7,zb4]
  refine Sat.k0 (yE2 (dd:=1) hw hok) fun x s2 h2 d2=>?_
  simp![]
  exact⟨h2,d2.cut⟩
 ·intro os ih hok D st hD hw
  rw[yu1]at hok
  rw[zL8]at hD ⊢
  obtain⟨d,rfl⟩:∃d,D=d+1:=⟨D-1,by lia⟩
  rw[zM3]
  rw[zb7 (fd:=zd6) rfl rfl,zb4];simp! only[zd6,zi5]
  apply za1
  simp![zf0,pyEq]
  apply za1
  simp![zf0,pyEq]
  apply za1
  simp![zf0,pyEq]
  apply za1
  simp![zf0,pyEq]
  apply za1
  simp![zf0]
  refine (zz5 (JHt w st os (dpts os)) _ _ _ _ ⟨⟨_,rfl⟩,[],os,rfl,rfl,rfl,by simp,Dw.refl hw⟩ ?_).mono ?_
  ·rintro x r env st' acc ⟨⟨v,rfl⟩,us,vs,e1,e2,e3,e4,hd⟩
   cases vs with
   |nil=>cases e2
   | cons o vs =>
    rw[List.map_cons]at e2
    cases e2
    have hm:o∈os:=by rw[e1];simp
    refine⟨_,rfl,?_⟩
    simp![]
    have hdm:=zH7 hm
    refine Sat.k0 (ih o hm (hok.2 o hm) d st' (by lia) hd.2) fun y s4 hy d4=>?_
    simp![]
    refine⟨⟨_,rfl⟩,us++[o],vs,by simp[e1],rfl,by simp[e3],fun u hu=>?_,hd.trans d4⟩
    rcases List.mem_append.mp hu with hu |hu
    ·exact e4 u hu
    ·have:u=y:=by simpa using hu
     subst this;exact hy.mono (Nat.le_refl _) hdm
  ·rintro ys st' ⟨env',_,us,vs,e1,e2,e3,e4,hd⟩
   have hvs:vs=[]:=by
    cases vs with
    |nil=>rfl
    |cons _ _=>cases e2
   subst hvs
   rw[List.append_nil]at e1
   subst e1
   simp![]
   exact⟨Tm.tup.mpr ⟨by lia,e4⟩,hd.cut⟩
 ·intro o ih hok D st hD hw
  rw[zN6]at hok
  rw[zz2]at hD ⊢
  obtain⟨d,rfl⟩:∃d,D=d+2:=⟨D-2,by have:=zN5 o;lia⟩
  rw[zx9]
  rw[zb7 (fd:=zd6) rfl rfl,zb4];simp! only[zd6,zi5]
  apply za1
  simp![zf0,pyEq]
  apply za1
  simp![zf0,pyEq]
  apply za1
  simp![zf0,pyEq]
  apply za1
  simp![zf0,pyEq]
  apply za1
  simp![zf0,pyEq]
  apply za1
  simp![]
  refine Sat.k1 (ze0 hw) fun a s1 a0 a1 d1=>?_
  simp![zf0]
  refine Sat.k0 (ih hok (d+1) s1 (by lia) d1.2) fun y s4 hy d4=>?_
  simp![]
  refine⟨Tm.tup.mpr ⟨by simp,fun x hx=>?_⟩,(d1.trans d4).cut⟩
  simp only[List.mem_cons,List.not_mem_nil,or_false]at hx
  rcases hx with rfl |rfl
  ·exact Tm.int (by lia)
  ·exact hy
noncomputable def zl9:PV→Bool
 |.int i=>decide (0≤i)
 |_=>false
theorem yI3{C:zc5}{W:Nat}{a:Option Val}{t:PV}{b c:Option Val}{st:za6}:evalE C (.and (.blt (.isinst .int) [(.var 1)]) (.and (.not (.blt (.isinst .bool) [(.var 1)])) (.cmp .ge (.var 1) (.const (.int 0))))) [a,some (.p t),b,c] st=.ok (.p (.bl (zl9 t))) st:=by
 cases t <;> simp![bfOp,zl9]
theorem yp4{l:List Bool}:zh0 (.bl false) (l.map .bl) = !l.all id:=by
 induction l with
 |nil=>rfl
 | cons b r ih =>
  unfold zh0 at *
  rw[List.map_cons,List.any_cons,ih,List.all_cons]
  cases b <;> simp[pyEq]
theorem yH6:∀(os:List Ord) (ts:List PV),os.length=ts.length→((List.range ts.length).map fun k=>isH (os.getD k .num) (ts.getD k .non)).all id=(os.zip ts).all fun p=>isH p.1 p.2:=by
 intro os ts h
 rw[Bool.eq_iff_iff,List.all_eq_true,List.all_eq_true]
 constructor
 ·intro g p hp
  obtain⟨k,hk,e⟩:=List.mem_iff_getElem.mp hp
  have hk1:k<os.length:=by simp at hk;lia
  have hk2:k<ts.length:=by simp at hk;lia
  have:=g _ (List.mem_map.mpr ⟨k,List.mem_range.mpr hk2,rfl⟩)
  rw[List.getElem_zip]at e
  subst e
  simpa[List.getD_eq_getElem?_getD,hk1,hk2]using this
 ·intro g b hb
  obtain⟨k,hk,rfl⟩:=List.mem_map.mp hb
  have hk:=List.mem_range.mp hk
  have hk1:k<os.length:=by lia
  have:=g (os[k],ts[k]) (List.mem_iff_getElem.mpr ⟨k,by simp;lia,by simp⟩)
  simpa[List.getD_eq_getElem?_getD,hk1,hk]using this
theorem lih{W d:Nat}{wd:List Nat}{r:List PV}{t:PV}{st:za6}{b:Bool}
  (h:Sat (execSs (zg2 prog W d) W (zd8.drop 2) [some (.p (.tup (.str wd::r))),some (.p t),some (.p (.str wd)),some (.p (.bl (zl9 t)))] st) fun f s=>f=.ret (.p (.bl b))∧s=st) :
  zg2 prog W (d+1) zp0 [.p (.tup (.str wd::r)),.p t] st=.ok (.p (.bl b)) st:=by
 have i0:zf0 (r.length+1) 0=some 0:=by simp[zf0]
 apply zd9
 rw[zb7 (fd:=zo6) rfl rfl,zb4];simp! only[zo6,zd8]
 apply za1
 simp![i0]
 dsimp! only
 skip
 apply za1
 rw[yt0,yI3 (W:=W)]
 simp![]
 dsimp! only
 refine h.mono ?_
 rintro _ s ⟨rfl,rfl⟩
 simp![]
theorem zD1{W:Nat}:∀o,ok o→∀D,dpt o+1≤D→∀t st,zg2 prog W D zp0 [.p (enc o),.p t] st=.ok (.p (.bl (isH o t))) st:=by
 have numH:∀D,1≤D→∀t st,zg2 prog W D zp0 [.p (.tup [.str [110,117,109]]),.p t] st=.ok (.p (.bl (zl9 t))) st:=by
  intro D hD t st
  obtain⟨d,rfl⟩:∃d,D=d+1:=⟨D-1,by lia⟩
  refine lih ?_
  simp only[zd8,List.drop_succ_cons,List.drop_zero]
  refine zm5 rfl ?_
  apply za1
  cases zl9 t <;> simp![pyEq]
 refine zU5 ?_ ?_ ?_ ?_ ?_ ?_ ?_
 ·intro _ D hD t st
  rw[zB4,numH D (by simp at hD;lia)]
  have:isH .num t=zl9 t:=by cases t <;> (rw[isH] <;> simp[zl9])
  rw[this]
 ·intro _ D hD t st
  obtain⟨d,rfl⟩:∃d,D=d+1:=⟨D-1,by simp at hD;lia⟩
  rw[zG1]
  refine lih ?_
  simp only[zd8,List.drop_succ_cons,List.drop_zero]
  refine zm5 rfl ?_
  apply za1
  cases t with
  |int i=>by_cases h:0≤i <;> simp![zl9,pyEq,isH,h]
  |_=>simp![zl9,pyEq,isH]
 ·intro ns _ D hD t st
  obtain⟨d,rfl⟩:∃d,D=d+1:=⟨D-1,by simp at hD;lia⟩
  rw[zt6]
  refine lih ?_
  simp only[zd8,List.drop_succ_cons,List.drop_zero]
  apply za1
  simp![pyEq]
  dsimp! only
  refine zm5 rfl ?_
  apply za1
  cases t <;> simp![isH,bfOp,zf0,zp9,zp2]
 ·intro ns _ D hD t st
  obtain⟨d,rfl⟩:∃d,D=d+1:=⟨D-1,by simp at hD;lia⟩
  rw[zI4]
  refine lih ?_
  simp only[zd8,List.drop_succ_cons,List.drop_zero]
  apply za1
  simp![pyEq]
  apply za1
  simp![pyEq]
  apply za1
  cases t with
  | tup ts =>
   simp![bfOp]
   dsimp! only
   refine zm5 rfl ?_
   apply za1
   simp![zf0,bfOp]
   rw[zm2 PV.str (fun n=>decide (PV.str n∈ts)) PV.str (fun env=>∃v,env=[some (.p (.tup ts)),v]) _ _ _ ⟨_,rfl⟩ ?g1]
   case g1 =>
    rintro n hn env ⟨v,rfl⟩
    exact⟨_,rfl,⟨_,rfl⟩,by simp![zJ5],by simp![]⟩
   have hdp:zk2 (deps ts+1) 1=true:=by simp[zk2]
   simp![bfOp,isH,zp2,hdp,pyEq,zA4]
  | _ =>
   simp![bfOp]
   apply za1
   simp![isH]
 ·intro ns ps _ D hD t st
  obtain⟨d,rfl⟩:∃d,D=d+1:=⟨D-1,by simp at hD;lia⟩
  rw[zI0]
  refine lih ?_
  simp only[zd8,List.drop_succ_cons,List.drop_zero]
  apply za1
  simp![pyEq]
  dsimp! only
  refine zm5 rfl ?_
  apply za1
  cases t <;> simp![isH,bfOp,zf0,zp9,zp2]
 ·intro os ih hok D hD t st
  rw[yu1]at hok
  rw[zL8]at hD
  obtain⟨d,rfl⟩:∃d,D=d+1:=⟨D-1,by lia⟩
  rw[zM3]
  refine lih ?_
  simp only[zd8,List.drop_succ_cons,List.drop_zero]
  apply za1
  simp![pyEq]
  apply za1
  simp![pyEq]
  apply za1
  cases t with
  | tup ts =>
   simp![bfOp]
   apply za1
   simp![pyEq]
   apply za1
   simp![pyEq]
   by_cases hl:os.length=ts.length
   ·have im:(ts.length:Int)≤SZ:=zy4 (by lia)
    have im':(-1000000:Int)≤(ts.length:Int):=by lia
    apply za1
    simp![zf0,hl]
    apply za1
    simp![zf0,bfOp,im,im']
    rw[zr2 (fun k:Nat=>PV.int (k:Int)) (fun k=>.bl (isH (os.getD k .num) (ts.getD k .non))) (fun env=>∃v,env=[some (.p (.tup [PV.str [114,111,119],.tup (os.map enc)])),some (.p (.tup ts)),v]) _ _ _ ⟨_,rfl⟩ ?g1]
    case g1 =>
     rintro k hk env ⟨v,rfl⟩
     have hk2:k<ts.length:=by simpa using hk
     have hk1:k<os.length:=by lia
     refine⟨_,rfl,⟨_,rfl⟩,?_⟩
     have ho:os[k]∈os:=List.getElem_mem hk1
     have hdm:=zH7 ho
     have:=ih os[k] ho (hok.2 _ ho) d (by lia) ts[k] st
     simp![zf0,hk1,hk2,this]
    have ez:=yH6 os ts hl
    have em:=yp4 (l:=(List.range ts.length).map fun k=>isH (os.getD k .num) (ts.getD k .non))
    rw[ez,List.map_map]at em
    have e2:∀l:List PV,zk2 0 l.length=true→True:=fun _ _=>trivial
    have dd:∀n,zk2 0 n=true:=fun n=>by simp[zk2]
    generalize hL:List.map (PV.bl∘fun k=>isH (os.getD k .num) (ts.getD k .non)) (List.range ts.length)=L at em
    have hL':(List.range ts.length).map (fun k=>PV.bl (isH (os.getD k .num) (ts.getD k .non)))=L:=hL
    rw[List.nil_append,hL']
    simp![dd,em]
    rw[isH,yq4,zN9 hl]
   ·have hl1:¬(ts.length:Int)=os.length:=by lia
    have hl2:¬ts.length=os.length:=by lia
    apply za1
    simp![zf0,hl1]
    apply za1
    simp![isH,ys0 hl]
  | _ =>
   simp![bfOp]
   apply za1
   simp![isH]
 ·intro o ih hok D hD t st
  rw[zN6]at hok
  rw[zz2]at hD
  obtain⟨d,rfl⟩:∃d,D=d+1:=⟨D-1,by lia⟩
  rw[zx9]
  refine lih ?_
  simp only[zd8,List.drop_succ_cons,List.drop_zero]
  apply za1
  simp![pyEq]
  apply za1
  simp![pyEq]
  apply za1
  cases t with
  | tup ts =>
   simp![bfOp]
   apply za1
   simp![pyEq]
   apply za1
   simp![pyEq]
   apply za1
   match ts with
   |[]=>simp![pyEq,isH]
   |[a]=>simp![pyEq,isH]
   | [a,b] =>
    have e1:=numH d (by have:=zN5 o;lia) a st
    have e2:=ih hok d (by lia) b st
    have e3:isH (.newer o) (.tup [a,b])=(zl9 a&&isH o b):=by
     rw[isH]
     cases a <;> simp[zl9]
    rw[e3]
    cases hw:zl9 a with
    |false=>rw[hw]at e1;simp![pyEq,zf0,e1]
    |true=>rw[hw]at e1;simp![pyEq,zf0,e1,e2]
   | a::b::c::r =>
    have h2:¬((r.length:Int)+1+1+1=2):=by lia
    simp![isH,h2]
  | _ =>
   simp![bfOp]
   apply za1
   simp![isH]
theorem ya5{C:zc5}{W:Nat}{body:List S}{tgt:Tg}(J:List PV→Env→za6→Prop)(Q:Flow→za6→Prop)(fin:∀env st,J [] env st→Q (.next env) st)
  (step:∀x r env st,J (x::r) env st→∃env',zr7 tgt (.p x) st env=some env'∧Sat (execSs C W body env' st) (fun f st2=>(∃env2,f=.next env2∧J r env2 st2)∨∃v,f=.ret v∧Q (.ret v) st2)):∀(xs:List PV) (env:Env) (st:za6),
  J xs env st→Sat (yK1 C W body tgt none xs env st) Q
 |[],env,st,h=>by rw[yc7];exact fin env st h
 | x::r,env,st,h=>by
  obtain⟨env',h1,hs⟩:=step x r env st h
  obtain⟨f,st2,h2,h3⟩:=zu7.mp hs
  unfold yK1
  rw[zq8]
  simp only[zl4,if_true,h1,h2,Res.bind_ok]
  rcases h3 with⟨env2,rfl,h3⟩|⟨v,rfl,h3⟩
  ·exact ya5 J Q fin step r env2 st2 h3
  ·exact h3
structure Hd where
 h:List Nat
 k:Nat
 o:Ord
noncomputable def zm7(h:Hd):PV:=.tup [.str h.h,.int h.k,enc h.o]
structure Gr where
 ns:List (List Nat)
 hs:List Hd
noncomputable def zn8(g:Gr):PV:=.tup [.tup (g.ns.map .str),.tup (g.hs.map zm7)]
structure gG(g:Gr):Prop where
 n1:1≤g.ns.length
 n4:g.ns.length≤4
 nn:∀n∈g.ns,n.length≤8
 h:(g.hs.map Hd.h).Nodup
 hn:∀h∈g.hs,h.h.length≤8
 h1:1≤g.hs.length
 h5:g.hs.length≤3
 k:∀h∈g.hs,h.k≤2∧ok h.o∧dpt h.o≤2
noncomputable def inN(ns:List (List Nat)):PV→Bool
 |.str s=>decide (s∈ns)
 |_=>false
theorem zv8{n:List Nat}{x:PV}:pyEq (.str n) x=match x with |.str s=>decide (n=s)|_=>false:=by
 cases x <;> simp[pyEq]
theorem yQ2{ns:List (List Nat)}{x:PV}:zh0 x (ns.map .str)=inN ns x:=by
 unfold zh0
 rw[List.any_map,Bool.eq_iff_iff,List.any_eq_true]
 cases x with
 | str s =>
  simp only[inN,decide_eq_true_eq]
  constructor
  ·rintro⟨n,hn,h⟩
   have h:pyEq (.str n) (.str s)=true:=h
   rw[zv8]at h
   rw[←of_decide_eq_true h];exact hn
  ·intro h
   exact⟨s,h,by show pyEq (.str s) (.str s)=true;rw[zv8];exact decide_eq_true rfl⟩
 | _ =>
  simp only[inN,Bool.false_eq_true,iff_false]
  rintro⟨n,hn,h⟩
  rw[Function.comp_apply,zv8]at h
  cases h
theorem yC8{ns:List (List Nat)}:deps (ns.map .str)=0:=by
 refine Nat.le_zero.mp (zL4.mpr fun x hx=>?_)
 obtain⟨n,_,rfl⟩:=List.mem_map.mp hx
 simp
theorem dp0{a:Nat}:zk2 a 0=true:=by
 unfold zk2
 simp
theorem dp0'{a:Nat}:zk2 0 a=true:=by
 unfold zk2
 simp
noncomputable def hd?(hs:List Hd)(x:PV):Option Hd:=hs.find? fun h=>pyEq (.str h.h) x
noncomputable def yR7(g:Gr):PV→Bool
 | .tup (x::r)=>match hd? g.hs x with
  |some h=>decide (r.length=h.k)
  |none=>false
 |_=>false
noncomputable def tl:PV→List PV
 |.tup (_::r)=>r
 |_=>[]
noncomputable def isT(g:Gr)(ws:List (List Nat))(t:PV):Bool:=yR7 g t&&(tl t).all (inN ws)
def JH(g:Gr)(x:PV)(st:za6)(xs:List PV)(env:Env)(s:za6):Prop:=s=st∧∃us vs v2,g.hs=us++vs∧xs=vs.map zm7∧hd? us x=none∧env=[some (.p (.tup [.tup (g.ns.map .str),.tup (g.hs.map zm7)])),some (.p x),v2]
def QH(g:Gr)(x:PV)(st:za6)(f:Flow)(s:za6):Prop:=s=st∧match hd? g.hs x with |some h=>f=.ret (.p (zm7 h))|none=>∃v,f=.next [some (.p (.tup [.tup (g.ns.map .str),.tup (g.hs.map zm7)])),some (.p x),v]
theorem zv9{W d:Nat}{g:Gr}{x:PV}{st:za6}:zg2 prog W (d+1) zM4 [.p (zn8 g),.p x] st=.ok (.p (match hd? g.hs x with |some h=>zm7 h |none=>.non)) st:=by
 have e11:zf0 2 1=some 1:=rfl
 have dd:zk2 0 (dep x)=true:=dp0'
 apply zd9
 rw[zb7 (fd:=zs3) rfl rfl,zb4];simp! only[zs3,zs6]
 apply za1
 simp![zn8,e11]
 refine (ya5 (JH g x st) (QH g x st) ?_ ?_ _ _ _ ⟨rfl,[],g.hs,none,rfl,rfl,rfl,rfl⟩).mono ?_
 ·rintro env s ⟨rfl,us,vs,v2,e1,e2,e3,rfl⟩
  have hv:vs=[]:=by
   cases vs with
   |nil=>rfl
   |cons _ _=>cases e2
  subst hv
  rw[List.append_nil]at e1
  refine⟨rfl,?_⟩
  rw[e1,e3]
  exact⟨_,rfl⟩
 ·rintro y r env s ⟨rfl,us,vs,v2,e1,e2,e3,rfl⟩
  cases vs with
  |nil=>cases e2
  | cons h vs =>
   rw[List.map_cons]at e2
   cases e2
   refine⟨_,rfl,?_⟩
   have e30:zf0 3 0=some 0:=rfl
   have ap:hd? (us++[h]) x=if pyEq (.str h.h) x=true then some h else none:=by
    unfold hd? at *
    rw[List.find?_append,e3]
    simp[List.find?_cons]
    split <;> simp_all
   apply za1
   by_cases c:pyEq (.str h.h) x=true
   ·simp![zm7,e30,dd,c]
    apply za1
    have:hd? g.hs x=some h:=by
     unfold hd? at *
     rw[e1,List.find?_append,e3]
     simp[List.find?_cons,c]
    simp![]
    refine⟨rfl,?_⟩
    rw[this]
    rfl
   ·simp![zm7,e30,dd,c]
    dsimp! only
    exact .inl ⟨_,rfl,rfl,us++[h],vs,_,by simp[e1],rfl,by rw[ap,if_neg c],rfl⟩
 ·rintro f s ⟨rfl,hf⟩
  cases hq:hd? g.hs x with
  | none =>
   rw[hq]at hf
   obtain⟨v,rfl⟩:=hf
   apply za1
   simp![]
  | some h =>
   rw[hq]at hf
   subst hf
   simp![]
theorem zu8{g:Gr}{x:PV}{r:List PV}:yR7 g (.tup (x::r))=match hd? g.hs x with |some h=>decide (r.length=h.k)|none=>false:=rfl
theorem zR7{W d:Nat}{g:Gr}{t:PV}{st:za6}:zg2 prog W (d+2) zW3 [.p (zn8 g),.p t] st=.ok (.p (.bl (yR7 g t))) st:=by
 have e30:zf0 3 1=some 1:=rfl
 apply zd9
 rw[zb7 (fd:=zw4) rfl rfl,zb4];simp! only[zw4,zw0]
 apply za1
 cases t with
 | tup xs =>
  cases xs with
  | nil =>
   simp![bfOp,pyEq]
   apply za1
   simp![]
   rfl
  | cons x r =>
   have hl:¬(r.length:Int)+1=0:=by lia
   have hc:=zv9 (W:=W) (d:=d) (g:=g) (x:=x) (st:=st)
   simp![bfOp,pyEq,hl]
   apply za1
   simp![zf0,hc]
   apply za1
   cases hq:hd? g.hs x with
   | none =>
    simp![]
    rw[zu8,hq]
   | some h =>
    have e:decide ((r.length:Int)+1=1+h.k)=decide (r.length=h.k):=by
     rw[Bool.eq_iff_iff];simp;lia
    simp![zm7,e30,bfOp,pyEq,e]
    rw[zu8,hq]
 | _ =>
  simp![bfOp]
  apply za1
  simp![]
  rfl
theorem yZ2{x:PV}{r:List PV}:cut (x::r) (some 1) none=r:=by rw[zv2 _ _ (by decide)];rfl
theorem yZ4{g:Gr}{ws:List (List Nat)}{t:PV}(h:yR7 g t=false):isT g ws t=false:=by unfold isT;rw[h];rfl
theorem zN2{g:Gr}{t:PV}(h:yR7 g t=true):∃x r,t=.tup (x::r):=by
 cases t with
 | tup xs =>
  cases xs with
  |nil=>cases h
  |cons x r=>exact⟨x,r,rfl⟩
 |_=>cases h
theorem zU1{W d:Nat}{g:Gr}{t:PV}{st:za6}:zg2 prog W (d+3) yh0 [.p (zn8 g),.p t] st=.ok (.p (.bl (isT g g.ns t))) st:=by
 have hw:=zR7 (W:=W) (d:=d) (g:=g) (t:=t) (st:=st)
 apply zd9
 rw[zb7 (fd:=zA6) rfl rfl,zb4];simp! only[zA6,zB2]
 apply za1
 cases h:yR7 g t with
 | false =>
  rw[h]at hw
  rw[yZ4 h]
  simp![hw]
 | true =>
  obtain⟨x,r,rfl⟩:=zN2 h
  rw[h]at hw
  simp![hw,sliceOp,yZ2]
  rw[zo9 (f:=fun y=>.bl (inN g.ns y)) _ _ _ (fun env=>∃a,env=[some (.p (zn8 g)),a]) ⟨_,rfl⟩ ?g1]
  case g1 =>
   rintro y hy env ⟨a,rfl⟩
   refine⟨_,rfl,⟨_,rfl⟩,?_⟩
   have e20:zf0 2 0=some 0:=rfl
   have e1:zk2 (dep y) (deps (g.ns.map .str))=true:=by rw[yC8];exact dp0
   simp![zn8,e20,e1,yQ2]
  simp![bfOp,zt7]
  unfold isT
  rw[h]
  rfl
theorem yj5{hs:List Hd}(hn:(hs.map Hd.h).Nodup){x:PV}:hs.filter (fun h=>pyEq (.str h.h) x)=(hd? hs x).toList:=by
 induction hs with
 |nil=>rfl
 | cons h r ih =>
  rw[List.map_cons,List.nodup_cons]at hn
  unfold hd? at *
  by_cases c:pyEq (.str h.h) x=true
  ·rw[List.filter_cons,if_pos c,List.find?_cons]
   simp only[c]
   have:r.filter (fun h=>pyEq (.str h.h) x)=[]:=by
    rw[List.filter_eq_nil_iff]
    intro k hk e
    rw[zv8]at c e
    cases x with
    | str s =>
     have c1:=of_decide_eq_true c
     have c2:=of_decide_eq_true e
     exact hn.1 (List.mem_map.mpr ⟨k,hk,by rw[c1,c2]⟩)
    |_=>cases c
   rw[this];rfl
  ·rw[List.filter_cons,if_neg c,List.find?_cons]
   simp only[c]
   exact ih hn.2
theorem yV6{hs:List Hd}{x:PV}{h:Hd}(e:hd? hs x=some h):∃s,x=.str s:=by
 have:=List.find?_some e
 cases x with
 |str s=>exact⟨s,rfl⟩
 |_=>rw[zv8]at this;cases this
noncomputable abbrev Row:=List (List Nat)
noncomputable def zI6(ns:List (List Nat))(h:Hd):List Row :=
 if h.k=0 then[[h.h]]else if h.k=1 then ns.map fun n=>[h.h,n]else ns.flatMap fun n=>ns.map fun m=>[h.h,n,m]
noncomputable def ths(g:Gr):List Row:=g.hs.flatMap (zI6 g.ns)
theorem zU3(h:List Nat)(ms:List (List Nat)):∀ns:List (List Nat),(ns.flatMap fun n=>ms.map fun m=>[h,n,m]).length=ns.length*ms.length
 |[]=>by simp
 |n::r=>by rw[List.flatMap_cons,List.length_append,zU3 h ms r,List.length_map,List.length_cons,Nat.succ_mul,Nat.add_comm]
theorem ye1{ns:List (List Nat)}{h:Hd}(hn:ns.length≤4):(zI6 ns h).length≤16:=by
 unfold zI6
 split
 ·simp
 ·split
  ·rw[List.length_map];lia
  ·rw[zU3]
   exact Nat.mul_le_mul hn hn
theorem zL7{ns:List (List Nat)}(hn:ns.length≤4):∀hs:List Hd,(hs.flatMap (zI6 ns)).length≤16*hs.length
 |[]=>by simp
 | h::r=>by
  have:=zL7 hn r
  have:=ye1 (h:=h) hn
  rw[List.flatMap_cons,List.length_append,List.length_cons]
  lia
theorem xt9{ns:List (List Nat)}{h:Hd}{r:Row}(hr:r∈zI6 ns h):r≠[]:=by
 unfold zI6 at hr
 split at hr
 ·rw[List.mem_singleton]at hr;subst hr;simp
 ·split at hr
  ·obtain⟨n,_,rfl⟩:=List.mem_map.mp hr;simp
  ·obtain⟨n,_,hr⟩:=List.mem_flatMap.mp hr
   obtain⟨m,_,rfl⟩:=List.mem_map.mp hr;simp
theorem yB8(ms:List (List Nat)):zq0 (ms.map .str)=some ms:=by
 induction ms with
 |nil=>rfl
 |cons x r ih=>rw[List.map_cons,zq0,ih];rfl
theorem ya0:∀rs:List Row,(∀r∈rs,r≠[])→rowsOf (rs.map zn2)=some rs
 |[],_=>rfl
 |[]::rs,h=>absurd rfl (h [] (by simp))
 | (y::ys)::rs,h=>by
  have ih:=ya0 rs fun r hr=>h r (List.mem_cons_of_mem _ hr)
  rw[List.map_cons,zn2,rowsOf,yB8,ih]
  rfl
noncomputable def yh9(rs:List Row):List Row:=rs.foldl (fun d i=>yc2 i d) []
theorem zH4(rs:List Row):(yh9 rs).Perm rs:=(yY9 rs).2
theorem sorted_rows{rs:List Row}(h:∀r∈rs,r≠[])(h0:rs≠[])(hl:rs.length<64):zz9 (.lst (rs.map zn2))=some (.lst ((yh9 rs).map zn2)):=by
 cases rs with
 |nil=>exact absurd rfl h0
 | cons r rs =>
  have e:zq0 ((r::rs).map zn2)=none:=rfl
  unfold zz9
  simp only[zr9,e,ya0 _ h,if_pos hl]
  rfl
theorem yM4{ns:List (List Nat)}{h:Hd}(hn:1≤ns.length):zI6 ns h≠[]:=by
 intro e
 have:=congrArg List.length e
 unfold zI6 at this
 split at this
 ·simp at this
 ·split at this
  ·rw[List.length_map]at this;simp at this;subst this;simp at hn
  ·rw[zU3]at this
   have h2:1*1≤ns.length*ns.length:=Nat.mul_le_mul hn hn
   have this:ns.length*ns.length=0:=this
   lia
theorem yH3{g:Gr}(hg:gG g):ths g≠[]:=by
 unfold ths
 cases e:g.hs with
 |nil=>have:=hg.h1;rw[e]at this;simp at this
 | cons h r =>
  rw[List.flatMap_cons]
  intro e2
  exact yM4 hg.n1 (List.append_eq_nil_iff.mp e2).1
theorem yM1{ns:List (List Nat)}{h:Hd}{r:Row}(hk:h.k≤2)(hr:r∈zI6 ns h):∃ws,r=h.h::ws∧ws.length=h.k∧∀w∈ws,w∈ns:=by
 unfold zI6 at hr
 split at hr
 ·rename_i c
  rw[List.mem_singleton]at hr;subst hr
  exact⟨[],rfl,by simp[c],by simp⟩
 ·split at hr
  ·rename_i c
   obtain⟨n,hn,rfl⟩:=List.mem_map.mp hr
   exact⟨[n],rfl,by simp[c],by simpa using hn⟩
  ·obtain⟨n,hn,hr⟩:=List.mem_flatMap.mp hr
   obtain⟨m,hm,rfl⟩:=List.mem_map.mp hr
   refine⟨[n,m],rfl,by simp;lia,fun w hw=>?_⟩
   simp only[List.mem_cons,List.not_mem_nil,or_false]at hw
   rcases hw with rfl |rfl <;> assumption
theorem yq5{hs:List Hd}(hn:(hs.map Hd.h).Nodup){h:Hd}(hm:h∈hs):hd? hs (.str h.h)=some h:=by
 induction hs with
 |nil=>cases hm
 | cons k r ih =>
  rw[List.map_cons,List.nodup_cons]at hn
  unfold hd? at *
  rw[List.find?_cons]
  rcases List.mem_cons.mp hm with rfl |hm
  ·rw[show pyEq (.str h.h) (.str h.h)=true by rw[zv8];exact decide_eq_true rfl]
  ·have:pyEq (.str k.h) (.str h.h)=false:=by
    rw[zv8]
    exact decide_eq_false fun e=>hn.1 (List.mem_map.mpr ⟨h,hm,e.symm⟩)
   rw[this]
   exact ih hn.2 hm
theorem yL0{g:Gr}(hg:gG g){h:Hd}(hm:h∈g.hs){ws N:List (List Nat)}(hl:ws.length=h.k)(hw:∀w∈ws,w∈N):isT g N (zn2 (h.h::ws))=true:=by
 unfold isT zn2
 rw[List.map_cons,zu8,yq5 hg.h hm]
 simp only[List.length_map,hl,decide_true,Bool.true_and,tl,List.all_map,List.all_eq_true]
 intro w hw'
 exact decide_eq_true (hw w hw')
theorem zL9{g:Gr}(hg:gG g){r:Row}(hr:r∈ths g):∃h∈g.hs,∃ws,r=h.h::ws∧ws.length=h.k∧∀w∈ws,w∈g.ns:=by
 obtain⟨h,hm,hr⟩:=List.mem_flatMap.mp hr
 obtain⟨ws,e,h1,h2⟩:=yM1 (hg.k h hm).1 hr
 exact⟨h,hm,ws,e,h1,h2⟩
theorem zU2{W d:Nat}{g:Gr}{x:PV}{r:List PV}{h:Hd}{st:za6}(e:hd? g.hs x=some h):zg2 prog W (d+2) yg5 [.p (zn8 g),.p (.tup (x::r))] st=.ok (.p (enc h.o)) st:=by
 have hc:=zv9 (W:=W) (d:=d) (g:=g) (x:=x) (st:=st)
 rw[e]at hc
 have i0:zf0 (r.length+1) 0=some 0:=by simp[zf0]
 apply zd9
 rw[zb7 (fd:=zB0) rfl rfl,zb4];simp! only[zB0,zA0]
 apply za1
 simp![i0,hc,zm7]
theorem zt8{W d:Nat}{g:Gr}{s:List Nat}{r:List PV}{h:Hd}{st:za6}(hg:gG g)(e:hd? g.hs (.str s)=some h):zg2 prog W (d+1) zv7 [.p (zn8 g),.p (.tup (.str s::r))] st=.ok (.p (enc h.o)) st:=by
 have i0:zf0 (r.length+1) 0=some 0:=by simp[zf0]
 have e21:zf0 2 1=some 1:=rfl
 have i00:zf0 1 0=some 0:=rfl
 apply zd9
 rw[zb7 (fd:=zq4) rfl rfl,zb4];simp! only[zq4,zq6]
 apply za1
 simp![zn8,e21]
 rw[zm2 zm7 (fun h=>pyEq (.str h.h) (.str s)) (fun h=>enc h.o) (fun env=>∃a,env=[some (.p (.tup (.str s::r))),a]) g.hs _ [] ⟨_,rfl⟩ ?g1]
 case g1 =>
  rintro h hh env ⟨a,rfl⟩
  refine⟨_,rfl,⟨_,rfl⟩,?_,fun _=>?_⟩
  ·simp![zm7,i0]
   rw[zv8]
  ·simp![zm7]
 rw[yj5 hg.h,e]
 simp![i00]
theorem yb2:∀{L:List (List Nat)} {ts:List PV},pyEqs (L.map .str) ts=decide (ts=L.map .str)
 |[],[]=>by rw[List.map_nil,pyEqs];rfl
 |[],_::_=>by rw[List.map_nil,pyEqs] <;> simp
 |_::_,[]=>by rw[List.map_cons,pyEqs] <;> simp
 | n::L,t::ts=>by
  rw[List.map_cons,pyEqs,yb2,zE6,Bool.eq_iff_iff]
  simp
theorem yT7{r:Row}{x:PV}:pyEq (zn2 r) x=decide (x=zn2 r):=by
 unfold zn2
 cases x with
 |tup xs=>rw[pyEq,yb2,Bool.eq_iff_iff];simp
 |_=>simp[pyEq]
theorem yQ3{r:Row}:dep (zn2 r)=1:=by unfold zn2;rw[zB8,zp2]
theorem yu7{R:List Row}:deps (R.map zn2)≤1:=zL4.mpr fun x hx=>by
 obtain⟨r,_,rfl⟩:=List.mem_map.mp hx
 rw[yQ3]
 exact Nat.le_refl _
theorem dp1{a b:Nat}(h:b≤1):zk2 a b=true:=by unfold zk2;simp;lia
theorem yA2{x:PV}{R:List Row}:zh0 x (R.map zn2)=R.any fun r=>decide (x=zn2 r):=by
 unfold zh0
 rw[List.any_map]
 congr 1
 funext r
 exact yT7
theorem yL1{g:Gr}(hg:gG g){x:PV}:isT g g.ns x=true↔∃r∈ths g,x=zn2 r:=by
 constructor
 ·intro h
  unfold isT at h
  rw[Bool.and_eq_true]at h
  obtain⟨h1,h2⟩:=h
  obtain⟨y,r,rfl⟩:=zN2 h1
  rw[zu8]at h1
  cases hq:hd? g.hs y with
  |none=>rw[hq]at h1;cases h1
  | some hd =>
   rw[hq]at h1
   have hl:r.length=hd.k:=of_decide_eq_true h1
   have hm:hd∈g.hs:=List.mem_of_find?_eq_some hq
   have hy:y=.str hd.h:=by
    have:=List.find?_some hq
    rw[zv8]at this
    cases y with
    |str s=>rw[of_decide_eq_true this]
    |_=>cases this
   have hk:=(hg.k hd hm).1
   have hw:∀y∈r,∃n∈g.ns,y=.str n:=by
    intro y hy
    have:=List.all_eq_true.mp h2 y hy
    cases y with
    |str s=>exact⟨s,of_decide_eq_true this,rfl⟩
    |_=>cases this
   subst hy
   have mem:∀ws,ws∈zI6 g.ns hd→ws∈ths g:=fun ws h=>List.mem_flatMap.mpr ⟨hd,hm,h⟩
   match r,hl,hw with
   |[],hl,hw=>exact⟨[hd.h],mem _ (by unfold zI6;rw[if_pos (show hd.k=0 from hl.symm)];simp),rfl⟩
   | [a],hl,hw =>
    obtain⟨n,hn,rfl⟩:=hw a (by simp)
    have hl:1=hd.k:=hl
    exact⟨[hd.h,n],mem _ (by unfold zI6;rw[if_neg (by lia),if_pos hl.symm];exact List.mem_map_of_mem hn),rfl⟩
   | [a,b],hl,hw =>
    obtain⟨n,hn,rfl⟩:=hw a (by simp)
    obtain⟨m,hm2,rfl⟩:=hw b (by simp)
    have hl:2=hd.k:=hl
    exact⟨[hd.h,n,m],mem _ (by unfold zI6;rw[if_neg (by lia),if_neg (by lia)];exact List.mem_flatMap.mpr ⟨n,hn,List.mem_map_of_mem hm2⟩),rfl⟩
   |a::b::c::q,hl,hw=>exact absurd hl (by simp;lia)
 ·rintro⟨r,hr,rfl⟩
  obtain⟨h,hm,ws,rfl,h1,h2⟩:=zL9 hg hr
  exact yL0 hg hm h1 h2
noncomputable def ext(ns:List (List Nat))(rs:List Row):List Row:=rs.flatMap fun r=>ns.map fun n=>r++[n]
noncomputable def thK(ns:List (List Nat))(h:List Nat):Nat→List Row
 |0=>[[h]]
 |k+1=>ext ns (thK ns h k)
theorem yY8{ns:List (List Nat)}{h:Hd}(hk:h.k≤2):thK ns h.h h.k=zI6 ns h:=by
 obtain⟨n,k,o⟩:=h
 dsimp only at *
 unfold zI6
 obtain rfl |rfl |rfl:k=0∨k=1∨k=2:=by lia
 ·rfl
 ·simp[thK,ext]
 ·simp[thK,ext,List.flatMap_map]
theorem yr3{ns:List (List Nat)}:∀rs:List Row,(ext ns rs).length=rs.length*ns.length
 |[]=>by simp[ext]
 | r::rs=>by
  have:=yr3 (ns:=ns) rs
  unfold ext at *
  rw[List.flatMap_cons,List.length_append,this,List.length_map,List.length_cons,Nat.succ_mul,Nat.add_comm]
theorem yL4{ns:List (List Nat)}{h:List Nat}(hn:ns.length≤4):∀k,k≤1→(thK ns h k).length≤4∧∀r∈thK ns h k,r.length≤2
 |0,_=>by simp[thK]
 | 1,_=>by
  refine⟨by simp[thK,ext];lia,fun r hr=>?_⟩
  simp only[thK,ext,List.flatMap_cons,List.flatMap_nil,List.append_nil]at hr
  obtain⟨n,_,rfl⟩:=List.mem_map.mp hr
  simp
 |k+2,h=>by lia
def J6(g:Gr)(st:za6)(e1 e2 e4:Option Val)(rs:List Row)(xs:List PV)(env:Env)(s:za6):Prop :=
 ∃(x6:Option Val) (us vs:List Row),env=[some (.p (zn8 g)),e1,e2,some (.p (.lst (rs.map zn2))),e4,some (.p (.lst ((ext g.ns us).map zn2))),x6]∧rs=us++vs∧xs=vs.map zn2∧s=st
theorem yP0{ns:List (List Nat)}{us:List Row}{r:Row}:ext ns (us++[r])=ext ns us++ns.map fun n=>r++[n]:=by simp[ext]
theorem yO4{W d:Nat}{g:Gr}{st:za6}{e1 e2 e4 x5 x6:Option Val}{rs:List Row}{r:List S}{Q:Flow→za6→Prop}(hg:gG g)(hl:rs.length≤4)(hr:∀r∈rs,r.length≤2)
    (hQ:∀y6,Sat (execSs (zg2 prog W d) W r [some (.p (zn8 g)),e1,e2,some (.p (.lst ((ext g.ns rs).map zn2))),e4,some (.p (.lst ((ext g.ns rs).map zn2))),y6] st) Q) :
    Sat (execSs (zg2 prog W d) W (.set 5 (.list false []) :: .for (.name 6) (.of (.var 3))
          [.set 5 (.bin .add (.var 5) (.comp false (.bin .add (.var 0) (.tup [(.var 1)])) (.name 1) (.of (.ix (.var 0) (.const (.int 0)))) none [6] 1))] :: .set 3 (.var 5)::r) [some (.p (zn8 g)),e1,e2,some (.p (.lst (rs.map zn2))),e4,x5,x6] st) Q:=by
  have e20:zf0 2 0=some 0:=rfl
  have n4:=hg.n4
  apply za1
  simp![]
  apply za1
  simp![]
  refine (zu3 (J6 g st e1 e2 e4 rs) _ _ _ ⟨x6,[],rs,rfl,rfl,rfl,rfl⟩ ?_).mono ?_
  · rintro x q env s ⟨y6,us,vs,rfl,h1,h2,rfl⟩
    cases vs with
    |nil=>cases h2
    | cons v vs =>
      rw[List.map_cons]at h2
      cases h2
      have hul:us.length+1≤4:=by
        have:=congrArg List.length h1
        simp at this;lia
      have hvl:v.length≤2:=hr v (by rw[h1];simp)
      have hel:=yr3 (ns:=g.ns) us
      have hm:us.length*g.ns.length≤4*4:=Nat.mul_le_mul (by lia) n4
      have z2:(ext g.ns us).length+g.ns.length≤SZ:=zx2 (by lia)
      have z1:v.length+1≤SZ:=zx2 (by lia)
      refine⟨_,rfl,?_⟩
      have ec:zt5 (zg2 prog W d) (.bin .add (.var 0) (.tup [(.var 1)])) none (.name 1) none (g.ns.map .str) [some (.p (zn2 v)),none] s []=.ok (([]:List PV)++g.ns.map fun n=>zn2 (v++[n])) s:=by
        refine zr2 PV.str (fun n=>zn2 (v++[n])) (fun env=>∃a,env=[some (.p (zn2 v)),a]) _ _ _ ⟨_,rfl⟩ ?_
        rintro n hn env ⟨a,rfl⟩
        refine⟨_,rfl,⟨_,rfl⟩,?_⟩
        simp![zn2,z1]
      rw[List.nil_append]at ec
      generalize hU:ext g.ns us=U at z2 hel
      apply za1
      simp![zn8,e20,ec,z2]
      dsimp! only
      refine⟨_,rfl,some (.p (zn2 v)),us++[v],vs,?_,by simp[h1],rfl,rfl⟩
      rw[yP0,hU,List.map_append,List.map_map]
      rfl
  · rintro _ s ⟨env2,rfl,y6,us,vs,rfl,h1,h2,rfl⟩
    have hvs:vs=[]:=by
      cases vs with
      |nil=>rfl
      |cons _ _=>cases h2
    subst hvs
    rw[List.append_nil]at h1
    subst h1
    apply za1
    simp![]
    dsimp! only
    exact hQ y6
def J4(g:Gr)(st:za6)(e1:Option Val)(h:Hd)(xs:List PV)(env:Env)(s:za6):Prop :=
 ∃(j:Nat) (x4 x5 x6:Option Val),j+xs.length=h.k∧env=[some (.p (zn8 g)),e1,some (.p (zm7 h)),some (.p (.lst ((thK g.ns h.h j).map zn2))),x4,x5,x6]∧s=st
def J2(g:Gr)(st:za6)(xs:List PV)(env:Env)(s:za6):Prop :=
 ∃(x2 x3 x4 x5 x6:Option Val) (us vs:List Hd),env=[some (.p (zn8 g)),some (.p (.lst ((us.flatMap (zI6 g.ns)).map zn2))),x2,x3,x4,x5,x6]∧g.hs=us++vs∧xs=vs.map zm7∧s=st
theorem zE3{W d:Nat}{g:Gr}{st:za6}(hg:gG g):zg2 prog W (d+1) zP6 [.p (zn8 g)] st=.ok (.p (.lst ((yh9 (ths g)).map zn2))) st:=by
 have e21:zf0 2 1=some 1:=rfl
 apply zd9
 rw[zb7 (fd:=zu5) rfl rfl,zb4];simp! only[zu5,zu6]
 apply za1
 simp![]
 apply za1
 have ev:evalIt (zg2 prog W d) (.of (.ix (.var 0) (.const (.int 1)))) [some (.p (zn8 g)),some (.p (.lst [])),none,none,none,none,none] st=.ok (g.hs.map zm7,none) st:=by
  simp![zn8,e21]
 simp![ev,-yn3]
 refine (zu3 (J2 g st) _ _ _ ⟨_,_,_,_,_,[],g.hs,rfl,rfl,rfl,rfl⟩ ?_).mono ?_
 ·rintro x q env s ⟨x2,x3,x4,x5,x6,us,vs,rfl,h1,h2,rfl⟩
  cases vs with
  |nil=>cases h2
  | cons h vs =>
   rw[List.map_cons]at h2
   cases h2
   have hm:h∈g.hs:=by rw[h1];simp
   have hk:=(hg.k h hm).1
   have hul:us.length+1≤5:=by
    have h5:=hg.h5
    have:=congrArg List.length h1
    simp at this;lia
   have hl1:=zL7 hg.n4 us
   have hl2:=ye1 (h:=h) hg.n4
   have z2:(us.flatMap (zI6 g.ns)).length+(zI6 g.ns h).length≤SZ:=zx2 (by lia)
   have im:(h.k:Int)≤SZ:=zy4 (by lia)
   have im':(-1000000:Int)≤(h.k:Int):=by lia
   have c1:cut [PV.str h.h,PV.int h.k,enc h.o] none (some 1)=[.str h.h]:=by rw[zS3 _ _ (by decide)];rfl
   refine⟨_,rfl,?_⟩
   generalize hU:us.flatMap (zI6 g.ns)=U at z2 hl1
   apply za1
   simp![zm7,sliceOp,c1]
   apply za1
   simp![im,im']
   refine (zu3 (J4 g s (some (.p (.lst (U.map zn2)))) h) _ _ _ ⟨0,x4,x5,x6,by simp,rfl,rfl⟩ ?_).mono ?_
   ·rintro y q env s' ⟨j,y4,y5,y6,hj,rfl,rfl⟩
    simp only[List.length_cons]at hj
    obtain⟨l1,l2⟩:=yL4 (ns:=g.ns) (h:=h.h) hg.n4 j (by lia)
    refine⟨_,rfl,?_⟩
    refine yO4 hg l1 l2 fun z6=>?_
    rw[exs_nil]
    exact⟨_,rfl,j+1,_,_,_,by lia,rfl,rfl⟩
   ·rintro _ s' ⟨env2,rfl,j,y4,y5,y6,hj,rfl,rfl⟩
    have hj:j=h.k:=by simpa using hj
    subst hj
    rw[yY8 hk]
    apply za1
    simp![z2]
    dsimp! only
    refine⟨_,rfl,some (.p (zm7 h)),some (.p (.lst ((zI6 g.ns h).map zn2))),y4,y5,y6,us++[h],vs,?_,by simp[h1],rfl,rfl⟩
    rw[List.flatMap_append,hU,List.flatMap_cons,List.flatMap_nil,List.append_nil,List.map_append]
 ·rintro _ s ⟨env2,rfl,x2,x3,x4,x5,x6,us,vs,rfl,h1,h2,rfl⟩
  have hvs:vs=[]:=by
   cases vs with
   |nil=>rfl
   |cons _ _=>cases h2
  subst hvs
  rw[List.append_nil]at h1
  have hU:us.flatMap (zI6 g.ns)=ths g:=by unfold ths;rw[h1]
  rw[hU]
  have hne:∀r∈ths g,r≠[]:=fun r hr=>by
   obtain⟨h,_,hr⟩:=List.mem_flatMap.mp hr
   exact xt9 hr
  have hln:=zL7 hg.n4 g.hs
  have h5:=hg.h5
  have hso:=sorted_rows hne (yH3 hg) (show (ths g).length<64 by unfold ths;lia)
  apply za1
  simp![bfOp,hso]
def gH(h:Hd):Prop:=h.k≤2∧ok h.o∧dpt h.o≤2
def JG(w:Nat)(st:za6)(e1 e2:Option Val)(cs:List (List Nat))(m:Nat)(xs:List PV)(env:Env)(s:za6):Prop :=
 ∃(o:Ord) (x5:Option Val) (hs:List Hd) (st1:za6),env=[some (.ref w),e1,e2,some (.ref st.length),some (.p (enc o)),x5]∧xs=(List.range' hs.length (m-hs.length)).map (fun k=>PV.int ((k:Nat):Int))∧hs.length≤m∧hs.map Hd.h=cs.take hs.length∧(∀h∈hs,gH h)∧ok o∧dpt o≤2∧s=st1++[.lst (hs.map zm7)]∧Dw w st st1
theorem yx6{W D w:Nat}{st:za6}(hD:6≤D)(hw:Bx st w):
  Sat (zg2 prog W D zR0 [.ref w] st) fun v st'=>(∃g,v=.p (zn8 g)∧gG g)∧Dw w st st':=by
 obtain⟨d,rfl⟩:∃d,D=d+6:=⟨D-6,by lia⟩
 rw[zb7 (fd:=zu9) rfl rfl,zb4];simp! only[zu9,zu4]
 apply za1
 simp![]
 refine Sat.k1 (ze0 hw) fun r1 s1 r10 r11 d1=>?_
 obtain⟨m1,e1⟩:∃m:Nat,1+r1=(m:Int):=⟨(1+r1).toNat,by lia⟩
 simp![e1]
 refine Sat.mono (zF3 (by lia) d1.2 (by lia)) ?_
 rintro _ s2 ⟨⟨ns,rfl,hl2,_,h82⟩,d2⟩
 apply za1
 simp![]
 refine Sat.mono (zF3 (m:=3) (by lia) d2.2 (by lia)) ?_
 rintro _ s3 ⟨⟨cs,rfl,hl3,hn3,h83⟩,d3⟩
 have hd3:=(d1.trans d2).trans d3
 apply za1
 simp![]
 dsimp! only
 skip
 apply za1
 simp![]
 refine Sat.mono (zW9 1 (d+5) _ (by lia) hd3.2.app) ?_
 rintro _ s4 ⟨⟨o,rfl,ho,hdo⟩,d4⟩
 obtain⟨ob,rfl,hb⟩:=d4.unapp hd3.2.lt
 have hd4:Dw w st (s3.set w ob):=hd3.trans ⟨⟨ob,rfl⟩,hb⟩
 have hlen:s3.length=st.length:=hd3.len
 generalize s3.set w ob=s5 at hd4
 rw[hlen]
 apply za1
 simp![]
 refine Sat.mono (ya2 (by lia) hd4.2.app (by lia) (by lia)) ?_
 rintro _ s6 ⟨⟨r2,rfl,r20,r21⟩,d6⟩
 obtain⟨ob,rfl,hb⟩:=d6.unapp hd4.2.lt
 have hd6:Dw w st (s5.set w ob):=hd4.trans ⟨⟨ob,rfl⟩,hb⟩
 generalize s5.set w ob=s7 at hd6
 obtain⟨m,em⟩:∃m:Nat,1+r2=(m:Int):=⟨(1+r2).toNat,by lia⟩
 have im:(m:Int)≤SZ:=zy4 (by lia)
 have im':(-1000000:Int)≤(m:Int):=by lia
 simp![em,im,im']
 refine (zu3 (JG w st (some (.p (.tup (ns.map .str)))) (some (.p (.tup (cs.map .str)))) cs m) _ _ _ ⟨o,none,[],s7,rfl,by rw[List.range_eq_range'];rfl,by simp,rfl,by simp,ho,hdo,rfl,hd6⟩ ?_).mono ?_
 ·rintro x q env s ⟨o,x5,hs,st1,rfl,hx,hlm,hcs,hgh,ho,hdo,rfl,hd⟩
  have hlt:hs.length<m:=by
   by_cases h:hs.length<m
   ·exact h
   ·rw[show m-hs.length=0 by lia]at hx;cases hx
  rw[show m-hs.length=(m-(hs.length+1))+1 by lia,List.range'_succ,List.map_cons]at hx
  injection hx with hx1 hx2
  subst hx1 hx2
  have hcl:hs.length<cs.length:=by lia
  have hc3:zf0 cs.length (hs.length:Int)=some hs.length:=by unfold zf0;rw[if_pos (by lia),if_pos (by lia)];simp
  have hgc:cs[hs.length]?=some cs[hs.length]:=List.getElem?_eq_getElem hcl
  generalize hcc:cs[hs.length]=c at hgc
  have hst1:st1.length=st.length:=hd.len
  refine⟨_,rfl,?_⟩
  -- the end of a turn
  have fin:∀(o:Ord) (st2:za6),ok o→dpt o≤2→Dw w st st2→Sat (execSs (zg2 prog W (d+5)) W [.expr (.meth .append (.var 3) [(.tup [(.ix (.var 2) (.var 5)),(.ix (.list false [(.const (.int 0)),(.const (.int 1)),(.const (.int 1)),(.const (.int 2))]) (.call 15 [(.var 0),(.const (.int 4))])),(.var 4)])])]
    [some (.ref w),some (.p (.tup (ns.map .str))),some (.p (.tup (cs.map .str))),some (.ref st.length),some (.p (enc o)),some (.p (.int (hs.length:Int)))] (st2++[.lst (hs.map zm7)]))
    (fun f s2=>∃env2,f=.next env2∧JG w st (some (.p (.tup (ns.map .str)))) (some (.p (.tup (cs.map .str)))) cs m ((List.range' (hs.length+1) (m-(hs.length+1))).map fun k=>PV.int ((k:Nat):Int)) env2 s2):=by
   intro o st2 ho hdo hd2
   have hl2:st2.length=st.length:=hd2.len
   have hob:∀(S:za6) (l:List PV),S.length=st.length→zd0 (S++[.lst l]) st.length=some (.lst l):=fun S l h=>zQ9 h.symm
   have hvw:=ya4 (hob st2 (hs.map zm7) hl2)
   apply za1
   simp![hvw,hc3,hgc]
   refine Sat.mono (ya2 (by lia) hd2.2.app (by lia) (by lia)) ?_
   rintro _ s6 ⟨⟨q,rfl,q0,q1⟩,d6⟩
   obtain⟨ob,rfl,hb⟩:=d6.unapp hd2.2.lt
   have hd7:Dw w st (st2.set w ob):=hd2.trans ⟨⟨ob,rfl⟩,hb⟩
   generalize st2.set w ob=s8 at hd7
   have hl8:s8.length=st.length:=hd7.len
   have hla:=yl0 (hob s8 (hs.map zm7) hl8)
   have hset:∀l l':List PV,List.set (s8++[zz8.lst l]) st.length (.lst l')=s8++[.lst l']:=fun l l'=>by
    rw[←hl8,List.set_append_right _ _ (Nat.le_refl _)];simp
   obtain ⟨k,hk,ek⟩:∃k:Nat,k≤2∧[PV.int 0,PV.int 1,PV.int 1,PV.int 2][q.toNat]?=some (.int k):=by
    obtain rfl |rfl |rfl |rfl:q=0∨q=1∨q=2∨q=3:=by lia
    ·exact⟨0,by lia,rfl⟩
    ·exact⟨1,by lia,rfl⟩
    ·exact⟨1,by lia,rfl⟩
    ·exact⟨2,by lia,rfl⟩
   have i4:zf0 4 q=some q.toNat:=by unfold zf0;rw[if_pos q0,if_pos (by lia)]
   have zl:hs.length+1≤SZ:=zx2 (by lia)
   have zl':hs.length<SZ:=xu5 (by lia)
   simp![i4,ek,hla,zM6,hset,zl,zl']
   dsimp! only
   refine⟨_,rfl,o,_,hs++[⟨c,k,o⟩],s8,rfl,by simp,by simp;lia,?_,?_,ho,hdo,by simp[zm7],hd7⟩
   ·rw[List.map_append,hcs,List.length_append,List.length_singleton,List.take_succ,hgc];rfl
   ·intro h hh
    rcases List.mem_append.mp hh with hh |hh
    ·exact hgh h hh
    ·have:h=⟨c,k,o⟩:=by simpa using hh
     subst this;exact⟨hk,ho,hdo⟩
  apply za1
  simp![]
  refine Sat.mono (ya2 (by lia) hd.2.app (by lia) (by lia)) ?_
  rintro _ s6 ⟨⟨q,rfl,q0,q1⟩,d6⟩
  obtain⟨ob,rfl,hb⟩:=d6.unapp hd.2.lt
  have hd7:Dw w st (st1.set w ob):=hd.trans ⟨⟨ob,rfl⟩,hb⟩
  generalize st1.set w ob=s8 at hd7
  by_cases hq:q=0
  ·subst hq
   simp![]
   apply za1
   simp![]
   refine Sat.mono (zW9 1 (d+5) _ (by lia) hd7.2.app) ?_
   rintro _ s9 ⟨⟨o',rfl,ho',hdo'⟩,d9⟩
   obtain⟨ob,rfl,hb⟩:=d9.unapp hd7.2.lt
   have hd9:Dw w st (s8.set w ob):=hd7.trans ⟨⟨ob,rfl⟩,hb⟩
   dsimp! only
   exact fin o' _ ho' hdo' hd9
  ·simp![hq]
   dsimp! only
   exact fin o _ ho hdo hd7
 ·rintro _ s ⟨env2,rfl,o,x5,hs,st1,rfl,hx,hlm,hcs,hgh,ho,hdo,rfl,hd⟩
  have hlm':hs.length=m:=by
   by_cases h:hs.length=m
   ·exact h
   ·rw[show m-hs.length=(m-(hs.length+1))+1 by lia,List.range'_succ,List.map_cons]at hx;cases hx
  have hob:zd0 (st1++[.lst (hs.map zm7)]) st.length=some (.lst (hs.map zm7)):=zQ9 hd.len.symm
  have hvw:=ya4 hob
  apply za1
  simp![opN,zt1,hvw,bfOp]
  refine⟨⟨⟨ns,hs⟩,rfl,⟨by simp;lia,by simp;lia,h82,?_,fun h hh=>?_,by simp;lia,by simp;lia,hgh⟩⟩,?_⟩
  ·show (hs.map Hd.h).Nodup
   rw[hcs]
   exact hn3.sublist (List.take_sublist _ _)
  ·have:h.h∈hs.map Hd.h:=List.mem_map_of_mem hh
   rw[hcs]at this
   exact h83 _ (List.mem_of_mem_take this)
  ·have e:(st1++[zz8.lst (hs.map zm7)]).take st.length=st1:=by rw[←hd.len];simp
   rw[e]
   exact hd
theorem yS9{g:Gr}(hg:gG g){r:Row}(hr:r∈ths g){n d:Nat}:Tm n (d+1) (zn2 r):=by
 obtain⟨h,hm,ws,rfl,h1,h2⟩:=zL9 hg hr
 have hk:=(hg.k h hm).1
 refine Tm.tup.mpr ⟨by simp;lia,fun x hx=>?_⟩
 obtain⟨y,hy,rfl⟩:=List.mem_map.mp hx
 refine Tm.str ?_
 rcases List.mem_cons.mp hy with rfl |hy
 ·have:=hg.hn h hm;lia
 ·have:=hg.nn y (h2 y hy);lia
theorem zW6{g:Gr}{r:Row}(h:r∈yh9 (ths g)):r∈ths g:=(zH4 _).mem_iff.mp h
theorem yj8{g:Gr}(hg:gG g):1≤(yh9 (ths g)).length∧(yh9 (ths g)).length≤80:=by
 rw[(zH4 (ths g)).length_eq]
 have h1:=zL7 hg.n4 g.hs
 have h5:=hg.h5
 exact⟨List.length_pos_iff.mpr (yH3 hg),by unfold ths;lia⟩
theorem zY4{n d:Nat}{a b:PV}(ha:Tm n d a)(hb:Tm n d b):Tm n (d+1) (.tup [a,b]):=Tm.tup.mpr ⟨by simp;lia,fun x hx=>by
 simp only[List.mem_cons,List.not_mem_nil,or_false]at hx
 rcases hx with rfl |rfl <;> assumption⟩
theorem zG4{n d:Nat}{a b c:PV}(ha:Tm n d a)(hb:Tm n d b)(hc:Tm n d c):Tm n (d+1) (.tup [a,b,c]):=Tm.tup.mpr ⟨by simp;lia,fun x hx=>by
 simp only[List.mem_cons,List.not_mem_nil,or_false]at hx
 rcases hx with rfl |rfl |rfl <;> assumption⟩
theorem yj2{W d w:Nat}{g:Gr}{st:za6}{e2 e3 e4 e5 e6:Option Val}(hg:gG g)(hw:Bx st w):
    Sat (execSs (zg2 prog W (d+4)) W [.set 4 (.call 21 [(.var 1)]),
     .set 5 (.ix (.var 4) (.call 15 [(.var 0),(.blt .len [(.var 4)])])),
     .ret (.tup [(.const (.str [108,101,97,115,116])),(.var 5),(.call 19 [(.var 0),(.call 22 [(.var 1),(.var 5)])])])] [some (.ref w),some (.p (zn8 g)),e2,e3,e4,e5,e6] st)
      fun f s=>∃x,f=.ret (.p x)∧Tm 0 3 x∧Dw w st s:=by
  obtain⟨l1,l8⟩:=yj8 hg
  have hm:=fun r (h:r∈yh9 (ths g))=>zW6 h
  have ht:=zE3 (W:=W) (d:=d+3) (st:=st) hg
  generalize yh9 (ths g)=R at l1 l8 hm ht
  apply za1
  simp![ht]
  apply za1
  simp![bfOp]
  refine Sat.k1 (ze0 hw (by lia) (by lia)) fun q s1 q0 q1 d1=>?_
  obtain⟨r,u1,u2,u3⟩:=zR8 R q q0 q1
  have hr:=hm r u2
  simp![u1,u3]
  dsimp! only
  obtain⟨h,hmh,ws,er,h1,h2⟩:=zL9 hg hr
  have hq:=yq5 hg.h hmh
  obtain⟨k1,k2,k3⟩:=hg.k h hmh
  have ho:=zt8 (W:=W) (d:=d+3) (st:=s1) (r:=ws.map .str) hg hq
  have erv:zn2 r=.tup (.str h.h::ws.map .str):=by rw[er];rfl
  apply za1
  rw[←erv]at ho
  simp![ho]
  refine Sat.k0 (yd9 h.o k2 (d+4) s1 (by lia) d1.2) fun x s2 hx d2=>?_
  simp![]
  exact⟨zG4 (Tm.str (by simp)) (yS9 hg hr) (hx.mono (Nat.le_refl _) k3),d1.trans d2⟩
theorem zD8{W w:Nat}{g:Gr}(hg:gG g):∀(e D:Nat) (st:za6),e+5≤D→Bx st w →
  Sat (zg2 prog W D zP8 [.ref w,.p (zn8 g),.p (.int e)] st) fun v st'=>(∃x,v=.p x∧Tm 0 (e+3) x)∧Dw w st st':=by
 intro e
 induction e with
 | zero =>
  intro D st hD hw
  obtain⟨d,rfl⟩:∃d,D=d+5:=⟨D-5,by lia⟩
  rw[zb7 (fd:=zn4) rfl rfl,zb4];simp! only[zn4,zq1]
  apply za1
  simp![]
  refine Sat.k1 (ze0 hw) fun r s1 r0 r1 d1=>?_
  apply za1
  simp![]
  refine (yj2 hg d1.2).mono ?_
  rintro _ s2 ⟨x,rfl,hx,d2⟩
  simp![]
  exact⟨hx,(d1.trans d2).cut⟩
 | succ e ih =>
  intro D st hD hw
  obtain⟨d,rfl⟩:∃d,D=d+6:=⟨D-6,by lia⟩
  have he:¬((e+1:Nat):Int)=0:=by lia
  have he1:((e+1:Nat):Int)-1=(e:Int):=by lia
  generalize hE:((e+1:Nat):Int)=E1 at he he1
  rw[zb7 (fd:=zn4) rfl rfl,zb4];simp! only[zn4,zq1]
  apply za1
  simp![]
  refine Sat.k1 (ze0 hw) fun r s1 r0 r1 d1=>?_
  dsimp! only
  by_cases h2:r<2
  ·apply za1
   simp![he,h2]
   refine (yj2 (d:=d+1) hg d1.2).mono ?_
   rintro _ s2 ⟨x,rfl,hx,d2⟩
   simp![]
   exact⟨hx.mono (Nat.le_refl _) (by lia),(d1.trans d2).cut⟩
  ·apply za1
   simp![he,h2]
   dsimp! only
   by_cases h5:r=5
   ·subst h5
    apply za1
    simp![]
    apply za1
    simp![he1]
    refine Sat.k0 (ih (d+5) s1 (by lia) d1.2) fun x s2 hx d2=>?_
    simp![]
    exact⟨zY4 (Tm.str (by simp)) hx,(d1.trans d2).cut⟩
   ·apply za1
    simp![h5]
    apply za1
    obtain ⟨wd,hwl,hwd⟩:∃wd:List Nat,wd.length≤100∧[PV.str [98,111,116,104],PV.str [101,105,116,104,101,114]][(r%2).toNat]?=some (.str wd):=by
     have:=zC2 r 2 (by decide)
     obtain h |h:r%2=0∨r%2=1:=by lia
     ·rw[h];exact⟨_,by decide,rfl⟩
     ·rw[h];exact⟨_,by decide,rfl⟩
    have i2:zf0 2 (r%2)=some (r%2).toNat:=by unfold zf0;rw[if_pos (zC2 r 2 (by decide)).1,if_pos (show r%2<((2:Nat):Int)from (zC2 r 2 (by decide)).2)]
    simp![i2,hwd]
    apply za1
    simp![he1]
    refine Sat.k0 (ih (d+5) s1 (by lia) d1.2) fun x s2 hx d2=>?_
    simp![he1]
    refine Sat.k0 (ih (d+5) s2 (by lia) d2.2) fun y s3 hy d3=>?_
    simp![]
    exact⟨zG4 (Tm.str (by lia)) hx hy,((d1.trans d2).trans d3).cut⟩
theorem zt9{L:List PV}{n d:Nat}{i:Int}(h0:0≤i)(h1:i<L.length)(h:∀x∈L,Tm n d x):∃x,L[i.toNat]?=some x∧Tm n d x∧zf0 L.length i=some i.toNat:=yi8 h i h0 h1
theorem yD6{α:Type}(xs:List α)(lo hi:Option Int):(cut xs lo hi).Sublist xs:=by
 unfold cut
 exact (List.take_sublist _ _).trans (List.drop_sublist _ _)
theorem xh0{i:Int}(h:i.natAbs≤100000000000):i.natAbs.log2<1920:=by
 by_cases h0:i.natAbs=0
 ·rw[h0];decide
 ·have:i.natAbs.log2<100:=(Nat.log2_lt h0).mpr (by lia)
  lia
theorem yH0{W D w n d:Nat}{v:PV}{st:za6}(hD:2≤D)(hw:Bx st w)(hn:n≤10)(hv:Tm n d v)(ht:zH5 .tuple v=false):
  Sat (zg2 prog W D zu2 [.ref w,.p v] st) fun r st'=>(∃x,r=.p x∧Tm (n+1) (d+1) x)∧Dw w st st':=by
 obtain⟨e,rfl⟩:∃e,D=e+2:=⟨D-2,by lia⟩
 have other:zH5 .int v=false→zH5 .str v=false→Sat (zg2 prog W (e+2) zu2 [.ref w,.p v] st) fun r st'=>(∃x,r=.p x∧Tm (n+1) (d+1) x)∧Dw w st st':=by
  intro h1 h2
  rw[zb7 (fd:=zf1) rfl rfl,zb4];simp! only[zf1,zj2]
  apply za1
  simp![bfOp,h1,-zH5]
  apply za1
  simp![bfOp,h2,-zH5]
  apply za1
  simp![]
  refine Sat.k1 (ze0 hw) fun q s1 q0 q1 d1=>?_
  obtain ⟨x,u1,u2,u3⟩:=zt9 (L:=[PV.int 0,PV.str [],PV.str [78,111,110,101],PV.tup [],PV.bl false]) (n:=n+1) (d:=d+1) q0 q1 (fun x hx=>by
   simp only[List.mem_cons,List.not_mem_nil,or_false]at hx
   rcases hx with rfl |rfl |rfl |rfl |rfl
   ·exact Tm.int (by simp)
   ·exact Tm.str (by simp)
   ·exact Tm.str (by simp;lia)
   ·exact Tm.tup.mpr ⟨by simp,by simp⟩
   ·exact Tm.bl)
  generalize[PV.int 0,PV.str [],PV.str [78,111,110,101],PV.tup [],PV.bl false]=L at u1 u3 ⊢
  simp![u1,u3]
  exact⟨u2,d1.cut⟩
 cases v with
 |tup xs=>cases ht
 |non=>exact other rfl rfl
 |lst xs=>exact other rfl rfl
 | int i =>
  have hi:i.natAbs≤10000000000+n:=by have:=hv.t;rw[tm]at this;exact of_decide_eq_true this
  have hlg:=xh0 (i:=i) (by lia)
  have hlen:=yh5 (i:=i) (by lia)
  rw[zb7 (fd:=zf1) rfl rfl,zb4];simp! only[zf1,zj2]
  apply za1
  simp![bfOp]
  apply za1
  simp![bfOp,pyEq,hlg]
  refine Sat.k1 (ze0 hw) fun q s1 q0 q1 d1=>?_
  obtain ⟨x,u1,u2,u3⟩:=zt9 (L:=[.bl (decide (i=1)),.str (zC4 i),.int (-1-i),.non]) (n:=n+1) (d:=d+1) q0 q1 (fun x hx=>by
   simp only[List.mem_cons,List.not_mem_nil,or_false]at hx
   rcases hx with rfl |rfl |rfl |rfl
   ·exact Tm.bl
   ·exact Tm.str (by lia)
   ·exact Tm.int (by lia)
   ·exact Tm.non)
  generalize[PV.bl (decide (i=1)),.str (zC4 i),.int (-1-i),.non]=L at u1 u3 ⊢
  simp![u1,u3]
  exact⟨u2,d1.cut⟩
 | bl b =>
  rw[zb7 (fd:=zf1) rfl rfl,zb4];simp! only[zf1,zj2]
  apply za1
  simp![bfOp]
  apply za1
  cases b with
  | true =>
   simp![bfOp,pyEq]
   refine Sat.k1 (ze0 hw) fun q s1 q0 q1 d1=>?_
   obtain ⟨x,u1,u2,u3⟩:=zt9 (L:=[PV.bl true,PV.str [84,114,117,101],PV.int (-2),PV.non]) (n:=n+1) (d:=d+1) q0 q1 (fun x hx=>by
    simp only[List.mem_cons,List.not_mem_nil,or_false]at hx
    rcases hx with rfl |rfl |rfl |rfl
    ·exact Tm.bl
    ·exact Tm.str (by simp;lia)
    ·exact Tm.int (by simp;lia)
    ·exact Tm.non)
   generalize[PV.bl true,PV.str [84,114,117,101],PV.int (-2),PV.non]=L at u1 u3 ⊢
   simp![u1,u3]
   exact⟨u2,d1.cut⟩
  | false =>
   simp![bfOp,pyEq]
   refine Sat.k1 (ze0 hw) fun q s1 q0 q1 d1=>?_
   obtain ⟨x,u1,u2,u3⟩:=zt9 (L:=[PV.bl false,PV.str [70,97,108,115,101],PV.int (-1),PV.non]) (n:=n+1) (d:=d+1) q0 q1 (fun x hx=>by
    simp only[List.mem_cons,List.not_mem_nil,or_false]at hx
    rcases hx with rfl |rfl |rfl |rfl
    ·exact Tm.bl
    ·exact Tm.str (by simp;lia)
    ·exact Tm.int (by simp;lia)
    ·exact Tm.non)
   generalize[PV.bl false,PV.str [70,97,108,115,101],PV.int (-1),PV.non]=L at u1 u3 ⊢
   simp![u1,u3]
   exact⟨u2,d1.cut⟩
 | str cs =>
  have hi:cs.length≤100+n:=by have:=hv.t;rw[tm]at this;exact of_decide_eq_true this
  have z1:cs.length+1≤SZ:=zx2 (by lia)
  have hcl:=(yD6 cs none (some (-1))).length_le
  rw[zb7 (fd:=zf1) rfl rfl,zb4];simp! only[zf1,zj2]
  apply za1
  simp![bfOp]
  apply za1
  simp![bfOp]
  apply za1
  simp![bfOp,sliceOp,z1]
  refine Sat.k1 (ze0 hw) fun q s1 q0 q1 d1=>?_
  obtain ⟨x,u1,u2,u3⟩:=zt9 (L:=[.str (cs++[97]),.str [],.str (cut cs none (some (-1))),.str [42],.str [65],.int 0,.non]) (n:=n+1) (d:=d+1) q0 q1 (fun x hx=>by
   simp only[List.mem_cons,List.not_mem_nil,or_false]at hx
   rcases hx with rfl |rfl |rfl |rfl |rfl |rfl |rfl
   ·exact Tm.str (by simp;lia)
   ·exact Tm.str (by simp)
   ·exact Tm.str (by lia)
   ·exact Tm.str (by simp;lia)
   ·exact Tm.str (by simp;lia)
   ·exact Tm.int (by simp)
   ·exact Tm.non)
  generalize[PV.str (cs++[97]),.str [],.str (cut cs none (some (-1))),.str [42],.str [65],.int 0,.non]=L at u1 u3 ⊢
  simp![u1,u3]
  exact⟨u2,d1.cut⟩
theorem yJ2{n d:Nat}{xs:List PV}(h:Tm n d (.tup xs)):∃e,d=e+1∧xs.length≤100+n∧∀x∈xs,Tm n e x:=by
 have hd:=h.d
 rw[zB8]at hd
 obtain⟨e,rfl⟩:∃e,d=e+1:=⟨d-1,by lia⟩
 exact⟨e,rfl,Tm.tup.mp h⟩
theorem yD9{W w:Nat}:∀(d D n:Nat) (v:PV) (st:za6),d+3≤D→n≤10→Tm n d v→Bx st w →
  Sat (zg2 prog W D yg1 [.ref w,.p v] st) fun r st'=>(∃x,r=.p x∧Tm (n+1) (d+1) x)∧Dw w st st':=by
 intro d
 induction d with
 | zero =>
  intro D n v st hD hn hv hw
  obtain⟨e,rfl⟩:∃e,D=e+3:=⟨D-3,by lia⟩
  have ht:zH5 .tuple v=false:=by
   cases v with
   |tup xs=>obtain⟨_,h,_⟩:=yJ2 hv;cases h
   |_=>rfl
  rw[zb7 (fd:=zm8) rfl rfl,zb4];simp! only[zm8,zm9]
  apply za1
  simp![bfOp,ht,-zH5]
  apply za1
  simp![]
  refine Sat.k0 (yH0 (by lia) hw hn hv ht) fun x s1 hx d1=>?_
  simp![]
  exact⟨hx,d1.cut⟩
 | succ d ih =>
  intro D n v st hD hn hv hw
  obtain⟨e,rfl⟩:∃e,D=e+3:=⟨D-3,by lia⟩
  by_cases ht:zH5 .tuple v=true
  ·obtain ⟨xs,rfl⟩:∃xs,v=.tup xs:=by
    cases v with
    |tup xs=>exact⟨xs,rfl⟩
    |_=>cases ht
   obtain⟨hl,hx⟩:=Tm.tup.mp hv
   have up:∀x∈xs,Tm (n+1) (d+1) x:=fun x h=>(hx x h).mono (by lia) (by lia)
   have zl9:∀ys:List PV,ys.length≤xs.length+1→(∀y∈ys,Tm (n+1) (d+1) y)→Tm (n+1) (d+1+1) (.tup ys):=fun ys h1 h2=>Tm.tup.mpr ⟨by lia,h2⟩
   -- when the tuple itself is bent
   have own:∀s1:za6,Dw w st s1→Sat (execSs (zg2 prog W (e+2)) W (zm9.drop 2) [some (.ref w),some (.p (.tup xs)),none,none] s1) fun f s=>∃x,f=.ret (.p x)∧Tm (n+1) (d+1+1) x∧Dw w st s:=by
    intro s1 d1
    simp only[zm9,List.drop_succ_cons,List.drop_zero]
    apply za1
    simp![bfOp]
    refine Sat.k1 (ze0 d1.2 (by lia) (by lia)) fun a s2 a0 a1 d2=>?_
    obtain⟨a,rfl⟩:∃a':Nat,a=(a':Int):=⟨a.toNat,by lia⟩
    apply za1
    simp![]
    refine Sat.k1 (ze0 d2.2) fun r s3 r0 r1 d3=>?_
    have hd3:=(d1.trans d2).trans d3
    have c1:cut xs none (some (a:Int))=xs.take a:=by rw[zS3 _ _ (by lia)];rfl
    have c2:cut xs (some ((a:Int)+1)) none=xs.drop (a+1):=by rw[zv2 _ _ (by lia)];rfl
    have c3:cut xs (some (a:Int)) none=xs.drop a:=by rw[zv2 _ _ (by lia)];rfl
    have al:a≤xs.length:=by lia
    dsimp! only
    obtain rfl |rfl |rfl |rfl |rfl |rfl:r=0∨r=1∨r=2∨r=3∨r=4∨r=5:=by lia
    ·apply za1
     simp![]
     apply za1
     simp![bfOp]
     exact⟨Tm.lst.mpr (zl9 xs (by lia) up),hd3⟩
    ·apply za1
     simp![]
     apply za1
     simp![]
     apply za1
     have z:min a xs.length+(xs.length-(a+1))≤SZ:=zx2 (by lia)
     simp![sliceOp,c1,c2,z]
     refine⟨zl9 _ (by simp;lia) fun y hy=>?_,hd3⟩
     rcases List.mem_append.mp hy with hy |hy
     ·exact up y (List.mem_of_mem_take hy)
     ·exact up y (List.mem_of_mem_drop hy)
    ·apply za1
     simp![]
     apply za1
     simp![]
     apply za1
     simp![]
     apply za1
     obtain⟨b,hb⟩:∃b:Nat,(if (1:Int)<(a:Int)then (a:Int)-1 else 0)=(b:Int):=⟨a-1,by split <;> lia⟩
     have c4:cut xs (some (b:Int)) none=xs.drop b:=by rw[zv2 _ _ (by lia)];rfl
     have hba:a≤b+1:=by split at hb <;> lia
     have z:min a xs.length+(xs.length-b)≤SZ:=zx2 (by lia)
     simp![sliceOp,c1,bfOp,hb,c4,z]
     refine⟨zl9 _ (by simp;lia) fun y hy=>?_,hd3⟩
     rcases List.mem_append.mp hy with hy |hy
     ·exact up y (List.mem_of_mem_take hy)
     ·exact up y (List.mem_of_mem_drop hy)
    ·apply za1
     simp![]
     apply za1
     simp![]
     apply za1
     simp![]
     apply za1
     simp![]
     apply za1
     simp![]
     exact⟨zl9 _ (by simp) fun y hy=>up y (List.mem_reverse.mp hy),hd3⟩
    ·apply za1
     simp![]
     apply za1
     simp![]
     apply za1
     simp![]
     apply za1
     simp![]
     apply za1
     simp![]
     apply za1
     simp![sliceOp,c1,c3]
     refine Sat.k1 (ze0 d3.2) fun q s4 q0 q1 d4=>?_
     obtain ⟨x,u1,u2,u3⟩:=zt9 (L:=[PV.non,PV.int 1,PV.str [97],PV.tup [],PV.str [42]]) (n:=n+1) (d:=d+1) q0 q1 (fun x hx=>by
      simp only[List.mem_cons,List.not_mem_nil,or_false]at hx
      rcases hx with rfl |rfl |rfl |rfl |rfl
      ·exact Tm.non
      ·exact Tm.int (by simp;lia)
      ·exact Tm.str (by simp;lia)
      ·exact Tm.tup.mpr ⟨by simp,by simp⟩
      ·exact Tm.str (by simp;lia))
     generalize[PV.non,PV.int 1,PV.str [97],PV.tup [],PV.str [42]]=L at u1 u3 ⊢
     have z1:min a xs.length+1≤SZ:=zx2 (by lia)
     have z2:min a xs.length+1+(xs.length-a)≤SZ:=zx2 (by lia)
     simp![u1,u3,z1,z2]
     refine⟨zl9 _ (by simp;lia) fun y hy=>?_,hd3.trans d4⟩
     rcases List.mem_append.mp hy with hy |hy
     ·exact up y (List.mem_of_mem_take hy)
     ·rcases List.mem_cons.mp hy with rfl |hy
      ·exact u2
      ·exact up y (List.mem_of_mem_drop hy)
    ·apply za1
     simp![]
     apply za1
     simp![]
     apply za1
     simp![]
     apply za1
     simp![]
     apply za1
     simp![]
     apply za1
     simp![]
     refine Sat.k1 (ze0 d3.2) fun q s4 q0 q1 d4=>?_
     obtain ⟨x,u1,u2,u3⟩:=zt9 (L:=[PV.non,PV.bl true,PV.str [],PV.int 0]) (n:=n+1) (d:=d+1+1) q0 q1 (fun x hx=>by
      simp only[List.mem_cons,List.not_mem_nil,or_false]at hx
      rcases hx with rfl |rfl |rfl |rfl
      ·exact Tm.non
      ·exact Tm.bl
      ·exact Tm.str (by simp)
      ·exact Tm.int (by simp))
     generalize[PV.non,PV.bl true,PV.str [],PV.int 0]=L at u1 u3 ⊢
     simp![u1,u3]
     exact⟨u2,hd3.trans d4⟩
   have fin:∀f s4,(∃x,f=Flow.ret (.p x)∧Tm (n+1) (d+1+1) x∧Dw w st s4)→Sat (yf8 (List.length st) f s4) (fun r st'=>(∃x,r=.p x∧Tm (n+1) (d+1+1) x)∧Dw w st st'):=by
    rintro _ s4 ⟨x,rfl,h1,h2⟩
    exact⟨⟨x,rfl,h1⟩,h2.cut⟩
   rw[zb7 (fd:=zm8) rfl rfl,zb4];simp! only[zm8,zm9]
   apply za1
   simp![bfOp]
   dsimp! only
   by_cases h0:xs.length=0
   ·have h0':¬(0:Int)<xs.length:=by lia
    apply za1
    simp![bfOp,h0,h0']
    dsimp! only
    exact (own st (Dw.refl hw)).mono fin
   ·have h0':(0:Int)<xs.length:=by lia
    have h0n:0<xs.length:=by lia
    apply za1
    simp![bfOp,h0',h0n]
    refine Sat.k1 (ze0 hw) fun r s1 r0 r1 d1=>?_
    by_cases hr:0<r
    ·simp![hr]
     apply za1
     simp![bfOp]
     refine Sat.k1 (ze0 d1.2 (by lia) (by lia)) fun a s2 a0 a1 d2=>?_
     obtain⟨x,u1,u2,u3⟩:=zR8 xs a a0 a1
     obtain⟨a,rfl⟩:∃a':Nat,a=(a':Int):=⟨a.toNat,by lia⟩
     simp only[Int.toNat_natCast]at u1 u3
     have c1:cut xs none (some (a:Int))=xs.take a:=by rw[zS3 _ _ (by lia)];rfl
     have c2:cut xs (some ((a:Int)+1)) none=xs.drop (a+1):=by rw[zv2 _ _ (by lia)];rfl
     have z1:min a xs.length+1≤SZ:=zx2 (by lia)
     have z2:min a xs.length+1+(xs.length-(a+1))≤SZ:=zx2 (by lia)
     apply za1
     simp![sliceOp,c1,c2,u1,u3]
     refine Sat.k0 (ih (e+2) n x s2 (by lia) hn (hx x u2) d2.2) fun y s3 hy d3=>?_
     simp![z1,z2]
     refine⟨zl9 _ (by simp;lia) fun u hu=>?_,((d1.trans d2).trans d3).cut⟩
     rcases List.mem_append.mp hu with hu |hu
     ·exact up u (List.mem_of_mem_take hu)
     ·rcases List.mem_cons.mp hu with rfl |hu
      ·exact hy
      ·exact up u (List.mem_of_mem_drop hu)
    ·simp![hr]
     dsimp! only
     exact (own s1 d1).mono fin
  ·have ht:zH5 .tuple v=false:=by simpa using ht
   rw[zb7 (fd:=zm8) rfl rfl,zb4];simp! only[zm8,zm9]
   apply za1
   simp![bfOp,ht,-zH5]
   apply za1
   simp![]
   refine Sat.k0 (yH0 (by lia) hw hn hv ht) fun x s1 hx d1=>?_
   simp![]
   exact⟨hx,d1.cut⟩
def JF(w:Nat)(st:za6)(g:Gr)(m:Nat)(xs:List PV)(env:Env)(s:za6):Prop :=
 ∃(x:PV) (x3 x4:Option Val),env=[some (.ref w),some (.p (zn8 g)),some (.p x),x3,x4]∧xs.length≤m∧Tm 0 (3+(m-xs.length)) x∧Dw w st s
def JS(w:Nat)(st:za6)(g:Gr)(m:Nat)(xs:List PV)(env:Env)(s:za6)(acc:List PV):Prop :=
 (∃v,env=[some (.ref w),some (.p (zn8 g)),v])∧acc.length+xs.length=m∧(∀x∈acc,Tm 0 3 x)∧Dw w st s
def JW(w:Nat)(st:za6)(g:Gr)(e2 e3:Option Val)(m k:Nat)(env:Env)(s:za6):Prop :=
 ∃L:List PV,env=[some (.ref w),some (.p (zn8 g)),e2,e3,some (.p (.lst L))]∧1≤L.length∧L.length≤m∧L.length≤k∧(∀x∈L,Tm 0 (3+(m-L.length)) x)∧s=st
def QW(w:Nat)(st:za6)(g:Gr)(e2 e3:Option Val)(m:Nat)(env:Env)(s:za6):Prop :=
 ∃x:PV,env=[some (.ref w),some (.p (zn8 g)),e2,e3,some (.p (.lst [x]))]∧Tm 0 (3+m) x∧s=st
theorem yQ5{W D w:Nat}{g:Gr}{st:za6}(hW:100≤W)(hD:6≤D)(hg:gG g)(hw:Bx st w):
  Sat (zg2 prog W D zZ1 [.ref w,.p (zn8 g)] st) fun v st'=>(∃x,v=.p x∧Tm 0 11 x)∧Dw w st st':=by
 obtain⟨d,rfl⟩:∃d,D=d+6:=⟨D-6,by lia⟩
 rw[zb7 (fd:=zw5) rfl rfl,zb4];simp! only[zw5,zx0]
 apply za1
 simp![]
 refine Sat.k0 (zD8 hg 0 (d+5) st (by lia) hw) fun a s1 ha d1=>?_
 apply za1
 simp![]
 refine Sat.k1 (ze0 d1.2) fun r s2 r0 r1 d2=>?_
 have hd2:=d1.trans d2
 by_cases hr:r=0
 ·subst hr
  simp![]
  apply za1
  simp![]
  refine Sat.k1 (ze0 d2.2) fun p s3 p0 p1 d3=>?_
  obtain⟨m,em⟩:∃m:Nat,2+p=(m:Int):=⟨(2+p).toNat,by lia⟩
  have im:(m:Int)≤SZ:=zy4 (by lia)
  have im':(-1000000:Int)≤(m:Int):=by lia
  simp![em,im,im']
  refine (zu3 (JF w st g m) _ _ _ ⟨a,_,_,rfl,by simp,ha.mono (Nat.le_refl _) (by lia),hd2.trans d3⟩ ?_).mono ?_
  ·rintro x q env s ⟨f,x3,x4,rfl,hl,hf,hd⟩
   simp only[List.length_cons]at hl hf
   refine⟨_,rfl,?_⟩
   apply za1
   simp![]
   refine Sat.k0 (zD8 hg 0 (d+5) s (by lia) hd.2) fun b s4 hb d4=>?_
   simp![]
   refine Sat.k1 (ze0 d4.2) fun z s5 z0 z1 d5=>?_
   have hf':Tm 0 (3+(m-q.length)) (.tup [.str [110,111,116],f]):=by
    rw[show 3+(m-q.length)=(3+(m-(q.length+1)))+1 by lia]
    exact zY4 (Tm.str (by simp)) hf
   have hf2:Tm 0 (3+(m-q.length)) (.tup [.str [98,111,116,104],f,b]):=by
    rw[show 3+(m-q.length)=(3+(m-(q.length+1)))+1 by lia]
    exact zG4 (Tm.str (by simp)) hf (hb.mono (Nat.le_refl _) (by lia))
   obtain rfl |rfl:z=0∨z=1:=by lia
   ·have i2:zf0 2 0=some 0:=rfl
    simp![i2]
    dsimp! only
    exact⟨_,rfl,_,_,_,rfl,by lia,hf',(hd.trans d4).trans d5⟩
   ·have i2:zf0 2 1=some 1:=rfl
    simp![i2]
    dsimp! only
    exact⟨_,rfl,_,_,_,rfl,by lia,hf2,(hd.trans d4).trans d5⟩
  ·rintro _ s ⟨env2,rfl,f,x3,x4,rfl,hl,hf,hd⟩
   dsimp! only
   skip
   apply za1
   simp![]
   exact⟨hf.mono (Nat.le_refl _) (by simp;lia),hd.cut⟩
 ·simp![hr]
  apply za1
  simp![]
  refine Sat.k1 (ze0 d2.2) fun p s3 p0 p1 d3=>?_
  obtain⟨m,em⟩:∃m:Nat,2+p=(m:Int):=⟨(2+p).toNat,by lia⟩
  have im:(m:Int)≤SZ:=zy4 (by lia)
  have im':(-1000000:Int)≤(m:Int):=by lia
  simp![em,im,im']
  refine (zz5 (JS w st g m) _ _ _ _ ⟨⟨_,rfl⟩,by simp,by simp,hd2.trans d3⟩ ?_).mono ?_
  ·rintro x q env s acc ⟨⟨v,rfl⟩,hl,hacc,hd⟩
   refine⟨_,rfl,?_⟩
   simp![]
   refine Sat.k0 (zD8 hg 0 (d+5) s (by lia) hd.2) fun b s4 hb d4=>?_
   simp![]
   refine⟨⟨_,rfl⟩,by simp at hl ⊢;lia,fun u hu=>?_,hd.trans d4⟩
   rcases List.mem_append.mp hu with hu |hu
   ·exact hacc u hu
   ·have:u=b:=by simpa using hu
    subst this;exact hb
  ·rintro ys s ⟨env',_,hl,hacc,hd⟩
   have hl:ys.length=m:=by simpa using hl
   simp![]
   apply za1
   refine (zQ6 (JW w s g (some (.p a)) none m) (QW w s g (some (.p a)) none m) ?_ ?_ W _ _ ?_).mono ?_
   ·rintro env s' ⟨L,_,h1,_,h3,_⟩
    lia
   ·rintro k env s' ⟨L,rfl,h1,h2,h3,h4,rfl⟩
    match L,h1,h2,h3,h4 with
    |[],h1,_,_,_=>simp at h1
    | [x],h1,h2,h3,h4 =>
     simp![]
     exact⟨x,rfl,(h4 x (by simp)).mono (Nat.le_refl _) (by lia),rfl⟩
    | x::y::r,h1,h2,h3,h4 =>
     simp only[List.length_cons]at h1 h2 h3 h4
     have hL:(1:Int)<(r.length:Int)+1+1:=by lia
     have c2:cut (x::y::r) (some 2) none=r:=by rw[zv2 _ _ (by decide)];rfl
     have z:r.length+1≤SZ:=zx2 (by lia)
     have i0:zf0 (r.length+1+1) 0=some 0:=by unfold zf0;rw[if_pos (by decide),if_pos (by lia)];rfl
     have i1:zf0 (r.length+1+1) 1=some 1:=by unfold zf0;rw[if_pos (by decide),if_pos (by lia)];rfl
     simp![hL]
     apply za1
     simp![sliceOp,c2,i0,i1,z]
     dsimp! only
     refine⟨_,rfl,r++[.tup [.str [101,105,116,104,101,114],x,y]],rfl,by simp,by simp;lia,by simp;lia,fun u hu=>?_,rfl⟩
     have el:3+(m-(r++[PV.tup [.str [101,105,116,104,101,114],x,y]]).length)=(3+(m-(r.length+1+1)))+1:=by simp;lia
     rw[el]
     rcases List.mem_append.mp hu with hu |hu
     ·exact (h4 u (by simp[hu])).mono (Nat.le_refl _) (by lia)
     ·have:u=.tup [.str [101,105,116,104,101,114],x,y]:=by simpa using hu
      subst this
      exact zG4 (Tm.str (by simp)) (h4 x (by simp)) (h4 y (by simp))
   ·exact⟨ys,rfl,by lia,by lia,by lia,by rw[hl];simpa using hacc,rfl⟩
   ·rintro _ s' ⟨env2,rfl,x,rfl,hx,rfl⟩
    dsimp! only
    skip
    apply za1
    simp![zf0]
    exact⟨hx.mono (Nat.le_refl _) (by lia),hd.cut⟩
theorem yJ4{W D w:Nat}{g:Gr}{st:za6}{a:PV}(hD:6≤D)(hg:gG g)(hw:Bx st w)(ha:Tm 0 11 a):
  Sat (zg2 prog W D zU8 [.ref w,.p (zn8 g),.p a] st) fun v st'=>(∃x,v=.p x∧Tm 0 12 x)∧Dw w st st':=by
 obtain⟨d,rfl⟩:∃d,D=d+6:=⟨D-6,by lia⟩
 obtain⟨l1,l8⟩:=yj8 hg
 have hm:=fun r (h:r∈yh9 (ths g))=>zW6 h
 have ht:=zE3 (W:=W) (d:=d+4) (st:=st) hg
 generalize yh9 (ths g)=R at l1 l8 hm ht
 rw[zb7 (fd:=zw3) rfl rfl,zb4];simp! only[zw3,zx1]
 apply za1
 simp![ht]
 apply za1
 simp![bfOp]
 refine Sat.k1 (ze0 hw (by lia) (by lia)) fun q s1 q0 q1 d1=>?_
 obtain⟨r,u1,u2,u3⟩:=zR8 R q q0 q1
 have hr:=hm r u2
 simp![u1,u3]
 apply za1
 simp![]
 refine Sat.k1 (zW9 1 (d+5) s1 (by lia) d1.2) fun o s2 ho hdo d2=>?_
 simp![]
 refine Sat.k0 (yd9 o ho (d+5) s2 (by lia) d2.2) fun x s3 hx d3=>?_
 dsimp! only
 obtain⟨h,hmh,ws,er,h1,h2⟩:=zL9 hg hr
 have hk:=(hg.k h hmh).1
 have hx':Tm 0 11 x:=hx.mono (Nat.le_refl _) (by lia)
 have hrw:∀c∈r,c.length≤8:=by
  rw[er]
  intro c hc
  rcases List.mem_cons.mp hc with rfl |hc
  ·exact hg.hn h hmh
  ·exact hg.nn c (h2 c hc)
 have rows:∀r':Row,r'.length≤9→(∀c∈r',c.length≤8)→Tm 0 11 (zn2 r'):=fun r' hl hc=>Tm.tup.mpr ⟨by simp;lia,fun y hy=>by
  obtain⟨c,hc',rfl⟩:=List.mem_map.mp hy
  exact Tm.str (by have:=hc c hc';lia)⟩
 have hrl:r.length≤3:=by rw[er];simp;lia
 have z:r.length+1≤SZ:=zx2 (by lia)
 have c1:cut (r.map PV.str) none (some 1)=(r.take 1).map .str:=by rw[zS3 _ _ (by decide),←List.map_take];rfl
 apply za1
 simp![zn2,z,sliceOp,c1]
 apply za1
 have z7:7≤SZ:=zx2 (by lia)
 simp![bfOp,z7]
 apply za1
 simp![]
 refine Sat.k1 (ze0 d3.2) fun z s4 z0 z1 d4=>?_
 have mk:∀{a b c:PV},Tm 0 11 a→Tm 0 11 b→Tm 0 11 c→Tm 0 12 (.tup [a,b,c]):=fun h1 h2 h3=>zG4 h1 h2 h3
 have R1:=rows r (by lia) hrw
 have R2:=rows (r++[[65]]) (by simp;lia) (fun c hc=>by
  rcases List.mem_append.mp hc with hc |hc
  ·exact hrw c hc
  ·have:c=[65]:=by simpa using hc
   subst this;decide)
 have R3:=rows (r.take 1) (by simp;lia) fun c hc=>hrw c (List.mem_of_mem_take hc)
 have R4:Tm 0 11 (.lst (r.map .str)):=Tm.lst.mpr (rows r (by lia) hrw)
 have R5:=rows [[110,111,98,111,100,121]] (by simp) (by simp)
 have hw5:∀cs:List Nat,cs.length≤100→Tm 0 11 (.str cs):=fun cs h=>Tm.str (by lia)
 have e2:zn2 (r++[[65]])=.tup (r.map .str++[.str [65]]):=by simp[zn2]
 have e3:zn2 (r.take 1)=.tup ((r.map .str).take 1):=by simp[zn2]
 rw[e2]at R2
 rw[e3]at R3
 obtain ⟨x,u1,u2,u3⟩:=zt9 (L:=[.tup [.str [108,101,97,115,116],.tup (r.map .str),x],.tup [.str [108,101,97,115,116],.tup (r.map .str++[.str [65]]),x],.tup [.str [108,101,97,115,116],.tup ((r.map .str).take 1),x],.tup [.str [98,111,116,104],a],.tup [.str [110,111,116],a,a],.tup [.str [108,101,97,115,116],.lst (r.map .str),x],.tup [.str [108,101,97,115,116],.tup [.str [110,111,98,111,100,121]],x]]) (n:=0) (d:=12) z0 z1 (fun y hy=>by
  simp only[List.mem_cons,List.not_mem_nil,or_false]at hy
  rcases hy with rfl |rfl |rfl |rfl |rfl |rfl |rfl
  ·exact mk (hw5 _ (by decide)) R1 hx'
  ·exact mk (hw5 _ (by decide)) R2 hx'
  ·exact mk (hw5 _ (by decide)) R3 hx'
  ·exact zY4 (hw5 _ (by decide)) ha
  ·exact mk (hw5 _ (by decide)) ha ha
  ·exact mk (hw5 _ (by decide)) R4 hx'
  ·exact mk (hw5 _ (by decide)) R5 hx')
 generalize[PV.tup [.str [108,101,97,115,116],.tup (r.map .str),_],.tup [.str [108,101,97,115,116],.tup (r.map .str++[.str [65]]),_],.tup [.str [108,101,97,115,116],.tup ((r.map .str).take 1),_],.tup [.str [98,111,116,104],a],.tup [.str [110,111,116],a,a],.tup [.str [108,101,97,115,116],.lst (r.map .str),_],.tup [.str [108,101,97,115,116],.tup [.str [110,111,98,111,100,121]],_]]=L at u1 u3 ⊢
 simp![u1,u3]
 exact⟨u2,(((d1.trans d2).trans d3).trans d4).cut⟩
noncomputable def xh1(g:Gr):PV→Option Ord
 |.tup (x::_)=>(hd? g.hs x).map Hd.o
 |_=>none
noncomputable def zD0(g:Gr)(a h:PV):Bool:=isT g g.ns a&&(match xh1 g a with |some o=>isH o h |none=>false)
noncomputable def isW(w:List Nat)(x:PV):Bool:=decide (x=.str w)
noncomputable def wL:List Nat:=[108,101,97,115,116]
noncomputable def wN:List Nat:=[110,111,116]
noncomputable def wB:List Nat:=[98,111,116,104]
noncomputable def wE:List Nat:=[101,105,116,104,101,114]
@[simp] noncomputable def on2{α:Type}(f2:PV→PV→α)(f3:PV→PV→PV→α)(d:α):List PV→α
 |[w,x]=>f2 w x
 |[w,x,y]=>f3 w x y
 |_=>d
@[simp] noncomputable def yz1{α:Type}(f2:PV→PV→α)(f3:PV→PV→PV→α)(d:α):PV→α
 |.tup xs=>on2 f2 f3 d xs
 |_=>d
theorem shp(t:PV):(∃w x,t=.tup [w,x])∨(∃w x y,t=.tup [w,x,y])∨∀{α:Type} (f2:PV→PV→α) (f3:PV→PV→PV→α) (d:α),yz1 f2 f3 d t=d:=by
 cases t with
 | tup xs =>
  match xs with
  |[]=>exact .inr (.inr fun _ _ _=>rfl)
  |[_]=>exact .inr (.inr fun _ _ _=>rfl)
  |[w,x]=>exact .inl ⟨w,x,rfl⟩
  |[w,x,y]=>exact .inr (.inl ⟨w,x,y,rfl⟩)
  |_::_::_::_::_=>exact .inr (.inr fun _ _ _=>rfl)
 |_=>exact .inr (.inr fun _ _ _=>rfl)
noncomputable def zx6(g:Gr):Nat→PV→Bool
 |0=>fun _=>false
 |e+1=>yz1 (fun w x=>isW wN w&&zx6 g e x) (fun w x y=>if isW wL w then zD0 g x y else (isW wB w ||isW wE w)&&(zx6 g e x&&zx6 g e y)) false
noncomputable def cnt:Nat→PV→Int
 |0=>fun _=>0
 |e+1=>yz1 (fun _ x=>1+cnt e x) (fun w x y=>if isW wL w then 1 else 1+(cnt e x+cnt e y)) 0
noncomputable def szA(g:Gr):Nat→PV→Int
 |0=>fun _=>0
 | e+1=>yz1 (fun w x=>if isW wN w then (if szA g e x=0 then 0 else 1+szA g e x)else 0)
  (fun w x y=>if isW wL w then (if zD0 g x y then 1 else 0)else if isW wB w ||isW wE w then (if szA g e x=0∨szA g e y=0 then 0 else 1+(szA g e x+szA g e y))else 0) 0
theorem zL2{g:Gr}:∀(e:Nat) (t:PV),zx6 g e t=true→1≤cnt e t:=by
 intro e
 induction e with
 |zero=>intro t h;cases h
 | succ e ih =>
  intro t h
  rcases shp t with⟨w,x,rfl⟩|⟨w,x,y,rfl⟩|hn
  ·simp only[zx6,yz1,on2,Bool.and_eq_true]at h
   have:=ih x h.2
   simp only[cnt,yz1,on2];lia
  ·simp only[zx6,yz1,on2]at h
   simp only[cnt,yz1,on2]
   split at h
   ·rename_i c;rw[if_pos c];decide
   ·rename_i c
    rw[if_neg c]
    simp only[Bool.and_eq_true]at h
    have h1:=ih x h.2.1
    have h2:=ih y h.2.2
    lia
  ·rw[zx6,hn]at h;cases h
section
variable{g:Gr}{e:Nat}{w x y:PV}
theorem yn5:zx6 g (e+1) (.tup [w,x])=(isW wN w&&zx6 g e x):=rfl
theorem ya9:zx6 g (e+1) (.tup [w,x,y])=if isW wL w then zD0 g x y else (isW wB w ||isW wE w)&&(zx6 g e x&&zx6 g e y):=rfl
theorem xh7:cnt (e+1) (.tup [w,x])=1+cnt e x:=rfl
theorem yQ7:cnt (e+1) (.tup [w,x,y])=if isW wL w then 1 else 1+(cnt e x+cnt e y):=rfl
theorem xa9:szA g (e+1) (.tup [w,x])=if isW wN w then (if szA g e x=0 then 0 else 1+szA g e x)else 0:=rfl
theorem yS6:szA g (e+1) (.tup [w,x,y])=if isW wL w then (if zD0 g x y then 1 else 0)else if isW wB w ||isW wE w then (if szA g e x=0∨szA g e y=0 then 0 else 1+(szA g e x+szA g e y))else 0:=rfl
end
theorem xm4{g:Gr}:∀(e:Nat) (t:PV),(zx6 g e t=true→szA g e t=cnt e t)∧(zx6 g e t=false→szA g e t=0):=by
 intro e
 induction e with
 |zero=>intro t;exact⟨fun h=>(by cases h),fun _=>rfl⟩
 | succ e ih =>
  intro t
  rcases shp t with⟨w,x,rfl⟩|⟨w,x,y,rfl⟩|hn
  ·rw[yn5,xa9,xh7]
   obtain⟨i1,i2⟩:=ih x
   constructor
   ·intro h
    rw[Bool.and_eq_true]at h
    have:=zL2 (g:=g) e x h.2
    rw[if_pos h.1,i1 h.2,if_neg (by lia)]
   ·intro h
    by_cases hw:isW wN w=true
    ·rw[hw,Bool.true_and]at h
     rw[if_pos hw,i2 h,if_pos rfl]
    ·rw[if_neg hw]
  ·rw[ya9,yS6,yQ7]
   obtain⟨i1,i2⟩:=ih x
   obtain⟨j1,j2⟩:=ih y
   by_cases hw:isW wL w=true
   ·rw[if_pos hw,if_pos hw,if_pos hw]
    exact⟨fun h=>if_pos h,fun h=>if_neg (by rw[h];decide)⟩
   ·rw[if_neg hw,if_neg hw,if_neg hw]
    by_cases hb:(isW wB w ||isW wE w)=true
    ·rw[if_pos hb,hb,Bool.true_and]
     constructor
     ·intro h
      rw[Bool.and_eq_true]at h
      have h1:=zL2 (g:=g) e x h.1
      have h2:=zL2 (g:=g) e y h.2
      rw[i1 h.1,j1 h.2,if_neg (by lia)]
     ·intro h
      rw[Bool.and_eq_false_iff]at h
      rcases h with h |h
      ·rw[i2 h,if_pos (.inl rfl)]
      ·rw[j2 h,if_pos (.inr rfl)]
    ·rw[if_neg hb]
     refine⟨fun h=>?_,fun _=>rfl⟩
     rw[Bool.and_eq_true]at h
     exact absurd h.1 hb
  ·rw[zx6,szA,hn,hn]
   exact⟨fun h=>(by cases h),fun _=>rfl⟩
theorem zS0{g:Gr}{a:PV}(h:isT g g.ns a=true):∃x r hd,a=.tup (x::r)∧hd? g.hs x=some hd∧hd∈g.hs∧xh1 g a=some hd.o:=by
 unfold isT at h
 rw[Bool.and_eq_true]at h
 obtain⟨x,r,rfl⟩:=zN2 h.1
 have h1:=h.1
 rw[zu8]at h1
 cases hq:hd? g.hs x with
 |none=>rw[hq]at h1;cases h1
 |some hd=>exact⟨x,r,hd,rfl,hq,List.mem_of_find?_eq_some hq,by simp[xh1,hq]⟩
theorem zV1{W D:Nat}{g:Gr}{a h:PV}{st:za6}(hD:8≤D)(hg:gG g):zg2 prog W D yg6 [.p (zn8 g),.p a,.p h] st=.ok (.p (.bl (zD0 g a h))) st:=by
 obtain⟨d,rfl⟩:∃d,D=d+4:=⟨D-4,by lia⟩
 have e1:=zU1 (W:=W) (d:=d) (g:=g) (t:=a) (st:=st)
 apply zd9
 rw[zb7 (fd:=zA3) rfl rfl,zb4];simp! only[zA3,zB6]
 apply za1
 cases ht:isT g g.ns a with
 | false =>
  rw[ht]at e1
  simp![e1]
  rw[zD0,ht];rfl
 | true =>
  rw[ht]at e1
  obtain⟨x,r,hd,rfl,hq,hm,ho⟩:=zS0 ht
  have e2:=zU2 (W:=W) (d:=d+1) (g:=g) (x:=x) (r:=r) (st:=st) hq
  have k3:=(hg.k hd hm).2.2
  have e3:=zP1 (W:=W) hd.o (d+3) (by lia) h st
  simp![e1,e2,e3]
  rw[zD0,ht,ho];rfl
open OR
theorem shp2(t:PV)(h:∀{α:Type} (f2:PV→PV→α) (f3:PV→PV→PV→α) (d:α),yz1 f2 f3 d t=d):∀xs,t=.tup xs→¬(2≤xs.length∧xs.length≤3):=by
 rintro xs rfl ⟨h2,h3⟩
 match xs with
 |[]=>simp at h2
 |[_]=>simp at h2
 |[w,x]=>exact absurd (h (fun _ _=>true) (fun _ _ _=>true) false) (by simp)
 |[w,x,y]=>exact absurd (h (fun _ _=>true) (fun _ _ _=>true) false) (by simp)
 |_::_::_::_::r=>simp at h3
theorem zK3{w:List Nat}{x:PV}:pyEq x (.str w)=isW w x:=zL1
theorem yr8{w:List Nat}{x:PV}:pyEq (.str w) x=isW w x:=zE6
theorem yG8{a b:List Nat}{x:PV}(h:a≠b)(hx:isW a x=true):isW b x=false:=by
 have:=of_decide_eq_true hx
 subst this
 exact decide_eq_false fun e=>h (by injection e)
theorem in1{a:List Nat}{x:PV}:zh0 x [.str a]=isW a x:=by simp[zh0,yr8]
theorem in2{a b:List Nat}{x:PV}:zh0 x [.str a,.str b]=(isW a x ||isW b x):=by simp[zh0,yr8]
theorem cutA{w x:PV}:cut [w,x] (some 1) none=[x]:=yZ2
theorem cutB{w x y:PV}:cut [w,x,y] (some 1) none=[x,y]:=yZ2
theorem yq2{W:Nat}{g:Gr}(hg:gG g):∀(e D:Nat) (t:PV) (st:za6),e+10≤D→zg2 prog W D zq3 [.p (zn8 g),.p t,.p (.int e)] st=.ok (.p (.bl (zx6 g e t))) st:=by
 intro e
 induction e with
 | zero =>
  intro D t st hD
  obtain⟨d,rfl⟩:∃d,D=d+1:=⟨D-1,by lia⟩
  apply zd9
  rw[zb7 (fd:=zi8) rfl rfl,zb4];simp! only[zi8,zk4]
  apply za1
  simp![]
  apply za1
  simp![]
  rfl
 | succ e ih =>
  intro D t st hD
  obtain⟨d,rfl⟩:∃d,D=d+2:=⟨D-2,by lia⟩
  have he:¬((e+1:Nat):Int)=0:=by lia
  have he1:((e+1:Nat):Int)-1=(e:Int):=by lia
  generalize hE:((e+1:Nat):Int)=E1 at he he1
  have itu:=zh6 (W:=W) (d:=d) (v:=t) (a:=2) (b:=3) (st:=st)
  have d0:∀n,zk2 n 0=true:=fun n=>dp0
  apply zd9
  rw[zb7 (fd:=zi8) rfl rfl,zb4];simp! only[zi8,zk4]
  rcases shp t with⟨w,x,rfl⟩|⟨w,x,y,rfl⟩|hn
  ·have itu:zg2 prog W (d+1) zv3 [.p (.tup [w,x]),.p (.int 2),.p (.int 3)] st=.ok (.p (.bl true)) st:=by rw[itu];rfl
   apply za1
   simp![he,itu]
   dsimp! only
   rw[yn5]
   apply za1
   by_cases hl:isW wL w=true
   ·have hN:=yG8 (b:=wN) (by decide) hl
    rw[wL]at hl
    simp![d0,zK3,hl]
    apply za1
    simp![bfOp,hN]
   ·rw[wL]at hl
    simp![d0,zK3,hl]
    apply za1
    by_cases hN:isW wN w=true
    ·have hN':=hN
     rw[wN]at hN'
     simp![d0,bfOp,in1,hN']
     apply za1
     simp![sliceOp,cutA]
     rw[zo9 (f:=fun y=>.bl (zx6 g e y)) _ _ _ (fun env=>∃a,env=[some (.p (zn8 g)),some (.p (.int E1)),a]) ⟨_,rfl⟩ ?g1]
     case g1 =>
      rintro y hy env ⟨a,rfl⟩
      refine⟨_,rfl,⟨_,rfl⟩,?_⟩
      simp![he1,ih (d+1) y st (by lia)]
     simp![bfOp,hN]
     cases zx6 g e x <;> simp[zn3]
    ·have hN':=hN
     rw[wN]at hN'
     simp![d0,bfOp,in1,hN']
     apply za1
     simp![hN]
  ·have itu:zg2 prog W (d+1) zv3 [.p (.tup [w,x,y]),.p (.int 2),.p (.int 3)] st=.ok (.p (.bl true)) st:=by rw[itu];rfl
   apply za1
   simp![he,itu]
   dsimp! only
   rw[ya9]
   apply za1
   by_cases hl:isW wL w=true
   ·have hl':=hl
    rw[wL]at hl'
    have er:=zV1 (W:=W) (D:=d+1) (a:=x) (h:=y) (st:=st) (by lia) hg
    simp![d0,zK3,hl']
    apply za1
    simp![bfOp,er,hl]
   ·have hl':=hl
    rw[wL]at hl'
    simp![d0,zK3,hl']
    apply za1
    by_cases hN:(isW wB w ||isW wE w)=true
    ·have hN':=hN
     rw[wB,wE]at hN'
     simp![d0,bfOp,in2,hN',-Bool.or_eq_true]
     apply za1
     simp![sliceOp,cutB]
     rw[zo9 (f:=fun y=>.bl (zx6 g e y)) _ _ _ (fun env=>∃a,env=[some (.p (zn8 g)),some (.p (.int E1)),a]) ⟨_,rfl⟩ ?g2]
     case g2 =>
      rintro y hy env ⟨a,rfl⟩
      refine⟨_,rfl,⟨_,rfl⟩,?_⟩
      simp![he1,ih (d+1) y st (by lia)]
     simp![bfOp,hN,hl,-Bool.or_eq_true]
     cases zx6 g e x <;> cases zx6 g e y <;> simp[zn3]
    ·have hN':(isW wB w ||isW wE w)=false:=by simpa using hN
     have hN2:=hN'
     rw[wB,wE]at hN2
     simp![d0,bfOp,in2,hN2]
     apply za1
     simp![hN',hl]
  ·have hs:=shp2 t hn
   have itu:zg2 prog W (d+1) zv3 [.p t,.p (.int 2),.p (.int 3)] st=.ok (.p (.bl false)) st:=by
    rw[itu]
    cases t with
    | tup xs =>
     have:=hs xs rfl
     dsimp only
     rw[decide_eq_false (by lia)]
    |_=>rfl
   apply za1
   simp![he,itu]
   apply za1
   simp![]
   rw[zx6,hn]
theorem yb8{W d:Nat}{t:List PV}{w:PV}{st:za6}:zg2 prog W (d+1) ye8 [.p (.tup (w::t))] st=.ok (.p (.tup (if isW wL w=true then[]else t))) st:=by
 have d0:∀n,zk2 n 0=true:=fun n=>dp0
 have i0:zf0 (t.length+1) 0=some 0:=by simp[zf0]
 apply zd9
 rw[zb7 (fd:=zB5) rfl rfl,zb4];simp! only[zB5,zA8]
 apply za1
 by_cases hl:isW wL w=true
 ·have hl':=hl
  rw[wL]at hl'
  simp![i0,d0,zK3,hl',hl]
 ·have hl':=hl
  rw[wL]at hl'
  simp![i0,d0,zK3,hl',hl,sliceOp,yZ2]
theorem yf3{W:Nat}{g:Gr}:∀(e D:Nat) (t:PV) (st:za6),e+1≤D→zx6 g e t=true→zg2 prog W D zR4 [.p t] st=.ok (.p (.int (cnt e t))) st:=by
 intro e
 induction e with
 |zero=>intro D t st hD h;cases h
 | succ e ih =>
  intro D t st hD h
  obtain⟨d,rfl⟩:∃d,D=d+2:=⟨D-2,by lia⟩
  apply zd9
  rcases shp t with⟨w,x,rfl⟩|⟨w,x,y,rfl⟩|hn
  ·rw[yn5,Bool.and_eq_true]at h
   have hl:=yG8 (b:=wL) (by decide) h.1
   have hp:=yb8 (W:=W) (d:=d) (w:=w) (t:=[x]) (st:=st)
   rw[hl,if_neg (by decide)]at hp
   have ix:=ih (d+1) x st (by lia) h.2
   rw[zb7 (fd:=zn6) rfl rfl,zb4];simp! only[zn6,zp8]
   apply za1
   simp![hp]
   rw[zo9 (f:=fun y=>.int (cnt e x)) _ _ _ (fun env=>∃a,env=[a]) ⟨_,rfl⟩ ?g1]
   case g1 =>
    rintro y hy env ⟨a,rfl⟩
    have:y=x:=by simpa using hy
    subst this
    refine⟨_,rfl,⟨_,rfl⟩,?_⟩
    simp![ix]
   simp![bfOp,zo5,xh7]
  ·rw[ya9]at h
   have hp:=yb8 (W:=W) (d:=d) (w:=w) (t:=[x,y]) (st:=st)
   rw[zb7 (fd:=zn6) rfl rfl,zb4];simp! only[zn6,zp8]
   apply za1
   by_cases hl:isW wL w=true
   ·rw[if_pos hl]at hp
    simp![hp,zt2,bfOp,zo5,yQ7,hl]
   ·rw[if_neg hl]at hp h
    rw[Bool.and_eq_true,Bool.and_eq_true]at h
    have ix:=ih (d+1) x st (by lia) h.2.1
    have iy:=ih (d+1) y st (by lia) h.2.2
    simp![hp]
    rw[zo9 (f:=fun y=>.int (cnt e y)) _ _ _ (fun env=>∃a,env=[a]) ⟨_,rfl⟩ ?g2]
    case g2 =>
     rintro u hu env ⟨a,rfl⟩
     refine⟨_,rfl,⟨_,rfl⟩,?_⟩
     simp only[List.mem_cons,List.not_mem_nil,or_false]at hu
     rcases hu with rfl |rfl
     ·simp![ix]
     ·simp![iy]
    simp![bfOp,zo5,yQ7,hl]
  ·rw[zx6,hn]at h;cases h
theorem zC9{W D:Nat}{g:Gr}{t:PV}{st:za6}(hg:gG g)(hD:16≤D):zg2 prog W D zU7 [.p (zn8 g),.p t] st=.ok (.p (.bl (zx6 g 5 t&&decide (cnt 5 t≤12)))) st:=by
 obtain⟨d,rfl⟩:∃d,D=d+1:=⟨D-1,by lia⟩
 have e1:zg2 prog W d zq3 [.p (zn8 g),.p t,.p (.int 5)] st=.ok (.p (.bl (zx6 g 5 t))) st:=yq2 (W:=W) hg 5 d t st (by lia)
 apply zd9
 rw[zb7 (fd:=zx3) rfl rfl,zb4];simp! only[zx3,zw6]
 apply za1
 cases ha:zx6 g 5 t with
 | false =>
  rw[ha]at e1
  simp![e1]
 | true =>
  have e2:=yf3 (W:=W) 5 d t st (by lia) ha
  rw[ha]at e1
  simp![e1,e2]
theorem zQ0{W d:Nat}{g:Gr}{a:PV}{hd:Hd}{x:PV}{r:List PV}{st:za6}(hg:gG g)(e:a=.tup (x::r))(hq:hd? g.hs x=some hd):zg2 prog W (d+1) zv7 [.p (zn8 g),.p a] st=.ok (.p (enc hd.o)) st:=by
 obtain⟨s,rfl⟩:=yV6 hq
 subst e
 exact zt8 hg hq
theorem ym6{g:Gr}(hg:gG g){x:PV}:zh0 x ((yh9 (ths g)).map zn2)=isT g g.ns x:=by
 rw[yA2,Bool.eq_iff_iff,List.any_eq_true,yL1 hg]
 constructor
 ·rintro⟨r,hr,h⟩;exact⟨r,zW6 hr,of_decide_eq_true h⟩
 ·rintro⟨r,hr,h⟩;exact⟨r,(zH4 _).mem_iff.mpr hr,decide_eq_true h⟩
theorem zR6(f:PV→Int):∀us:List PV,zo5 (us.map fun u=>PV.int (f u))=some (us.map f)
 |[]=>rfl
 |u::r=>by rw[List.map_cons,zo5,zR6 f r];rfl
noncomputable def dv(w:List Nat):Int:=if[98,111,116,104]=w then 3 else if[101,105,116,104,101,114]=w then 3 else if[110,111,116]=w then 2 else 0
noncomputable def xk3:zz8:=.dct [(.str wB,.int 3),(.str wE,.int 3),(.str wN,.int 2)]
theorem yL6{W:Nat}{g:Gr}(hg:gG g):∀(e D:Nat) (t:PV) (st:za6),e+10≤D→e≤5→zg2 prog W D zv0 [.p (zn8 g),.p t,.p (.int (6-e))] st=.ok (.p (.int (szA g e t))) st:=by
  intro e
  induction e with
  | zero =>
    intro D t st hD _
    obtain⟨d,rfl⟩:∃d,D=d+1:=⟨D-1,by lia⟩
    apply zd9
    rw[zb7 (fd:=zr5) rfl rfl,zb4];simp! only[zr5,zf8]
    apply za1
    simp![]
    apply za1
    simp![]
    rfl
  | succ e ih =>
    intro D t st hD he5
    obtain⟨d,rfl⟩:∃d,D=d+2:=⟨D-2,by lia⟩
    have he:¬(5:Int)<6-((e+1:Nat):Int):=by lia
    have he1:(6-((e+1:Nat):Int))+1=6-(e:Int):=by lia
    generalize hE:(6-((e+1:Nat):Int))=E1 at he he1
    have d0:∀n,zk2 n 0=true:=fun n=>dp0
    have d0':∀n,zk2 0 n=true:=fun n=>dp0'
    have ht:=fun (st:za6)=>zE3 (W:=W) (d:=d) (st:=st) hg
    apply zd9
    have tail:∀(w:List Nat) (us:List PV) (st1:za6),(∀D t st,e+10≤D→zg2 prog W D zv0 [.p (zn8 g),.p t,.p (.int (6-e))] st=.ok (.p (.int (szA g e t))) st) →
        Sat (execSs (zg2 prog W (d+1)) W (zf8.drop 3) [some (.p (zn8 g)),some (.p (.tup (.str w::us))),some (.p (.int E1)),none] st1) fun f s=>f=.ret (.p (.int (if zh0 (.int 0) (us.map fun u=>.int (szA g e u))=true then 0 else 1+(us.map (szA g e)).sum)))∧s=st1:=by
      intro w us st1 ih
      simp only[zf8,List.drop_succ_cons,List.drop_zero]
      apply za1
      simp![sliceOp,yZ2]
      rw[zo9 (f:=fun u=>.int (szA g e u)) _ _ _ (fun env=>∃a,env=[some (.p (zn8 g)),some (.p (.int E1)),a]) ⟨_,rfl⟩ ?g1]
      case g1 =>
        rintro u hu env ⟨a,rfl⟩
        refine⟨_,rfl,⟨_,rfl⟩,?_⟩
        simp![he1,ih (d+1) u st1 (by lia)]
      have hi:zo5 (us.map fun u=>PV.int (szA g e u))=some (us.map (szA g e)):=zR6 _ _
      simp![]
      apply za1
      by_cases h0:zh0 (.int 0) (us.map fun u=>.int (szA g e u))=true
      · simp![d0',h0]
      · simp![d0',h0,bfOp,hi]
    have noT:∀(w:PV) (us:List PV),(us.length=1∨us.length=2)→zH5 .str w=false→Sat (execSs (zg2 prog W (d+1)) W zf8 [some (.p (zn8 g)),some (.p (.tup (w::us))),some (.p (.int E1)),none] st) fun f s=>f=.ret (.p (.int 0))∧s=st:=by
      intro w us hu hs
      have i0:zf0 (us.length+1) 0=some 0:=by simp[zf0]
      have htt:zH5 .tuple (.tup (w::us))=true:=rfl
      have hlen:zh0 (.int ((us.length:Int)+1)) [.int 2,.int 3]=true:=by
        rcases hu with h |h <;> rw[h] <;> decide
      simp only[zf8]
      apply za1
      simp![he,bfOp,d0',d0,htt,hlen,i0,hs,-zH5]
      apply za1
      simp![]
    have hd1:∀(w:List Nat) (us:List PV),(us.length=1∨us.length=2)→(∀Q,(w=wL→Sat (execSs (zg2 prog W (d+1)) W [.ite (.or (.cmp .ne (.blt .len [(.var 1)]) (.const (.int 3))) (.cmp .notIn (.ix (.var 1) (.const (.int 1))) (.call 21 [(.var 0)])))
       [.ret (.const (.int 0))]
       [],
     .ret (.blt .toInt [(.call 24 [(.call 22 [(.var 0),(.ix (.var 1) (.const (.int 1)))]),(.ix (.var 1) (.const (.int 2)))])])] [some (.p (zn8 g)),some (.p (.tup (.str w::us))),some (.p (.int E1)),none] st) (fun f s=>∃v,f=.ret v∧Q (.ret v) s))→(w≠wL→Sat (execSs (zg2 prog W (d+1)) W (zf8.drop 2) [some (.p (zn8 g)),some (.p (.tup (.str w::us))),some (.p (.int E1)),none] st) Q)→Sat (execSs (zg2 prog W (d+1)) W zf8 [some (.p (zn8 g)),some (.p (.tup (.str w::us))),some (.p (.int E1)),none] st) Q):=by
      intro w us hu Q h1 h2
      have i0:zf0 (us.length+1) 0=some 0:=by simp[zf0]
      have htt:zH5 .tuple (.tup (.str w::us))=true:=rfl
      have hts:zH5 .str (.str w)=true:=rfl
      have hlen:zh0 (.int ((us.length:Int)+1)) [.int 2,.int 3]=true:=by
        rcases hu with h |h <;> rw[h] <;> decide
      simp only[zf8,List.drop_succ_cons,List.drop_zero]at h2 ⊢
      apply za1
      simp![he,bfOp,d0',d0,htt,hlen,i0,hts,-zH5]
      dsimp! only
      skip
      apply za1
      by_cases hw:w=wL
      · have hw':=hw
        rw[wL]at hw'
        simp![i0,hw']
        rw[←hw']
        refine (h1 hw).mono ?_
        rintro _ s ⟨v,rfl,hq⟩
        simp![]
        exact hq
      · have hw':=hw
        rw[wL]at hw'
        simp![i0,hw']
        dsimp! only
        exact h2 hw
    have hd2:∀(w:List Nat) (us:List PV) (Q:Flow→za6→Prop),(dv w≠us.length+1→Q (.ret (.p (.int 0))) (st++[xk3]))→(dv w=us.length+1→Sat (execSs (zg2 prog W (d+1)) W (zf8.drop 3) [some (.p (zn8 g)),some (.p (.tup (.str w::us))),some (.p (.int E1)),none] (st++[xk3])) Q) →
        Sat (execSs (zg2 prog W (d+1)) W (zf8.drop 2) [some (.p (zn8 g)),some (.p (.tup (.str w::us))),some (.p (.int E1)),none] st) Q:=by
      intro w us Q h1 h2
      have i0:zf0 (us.length+1) 0=some 0:=by simp[zf0]
      have ev:evalE (zg2 prog W (d+1)) (.dget (.dict [(.str [98,111,116,104]),(.str [101,105,116,104,101,114]),(.str [110,111,116])] [(.const (.int 3)),(.const (.int 3)),(.const (.int 2))]) (.ix (.var 1) (.const (.int 0))) (.const (.int 0))) [some (.p (zn8 g)),some (.p (.tup (.str w::us))),some (.p (.int E1)),none] st=.ok (.p (.int (dv w))) (st++[xk3]):=by
        have hset:∀o o':zz8,List.set (st++[o]) st.length o'=st++[o']:=fun o o'=>by
          rw[List.set_append_right _ _ (Nat.le_refl _)];simp
        have ob:∀o:zz8,zd0 (st++[o]) st.length=some o:=fun o=>zz6
        simp![i0,xk3,yN0,hset,ob,zQ3,wB,wE,wN,zL3]
        unfold dv
        by_cases h1:[98,111,116,104]=w
        · rw[if_pos h1,if_pos h1];rfl
        · rw[if_neg h1,if_neg h1]
          by_cases h2:[101,105,116,104,101,114]=w
          · rw[if_pos h2,if_pos h2];rfl
          · rw[if_neg h2,if_neg h2]
            by_cases h3:[110,111,116]=w
            · rw[if_pos h3,if_pos h3];rfl
            · rw[if_neg h3,if_neg h3];rfl
      simp only[zf8,List.drop_succ_cons,List.drop_zero]at h2 ⊢
      apply za1
      by_cases hc:dv w=us.length+1
      · simp![ev,hc,-zV0]
        dsimp! only
        exact h2 hc
      · simp![ev,hc,-zV0]
        apply za1
        simp![]
        exact h1 hc
    have ih':∀D t st,e+10≤D→zg2 prog W D zv0 [.p (zn8 g),.p t,.p (.int (6-e))] st=.ok (.p (.int (szA g e t))) st:=fun D t st h=>ih D t st h (by lia)
    have isWs:∀a b:List Nat,isW a (.str b)=decide (a=b):=fun a b=>by
      unfold isW
      rw[Bool.eq_iff_iff];simp[eq_comm]
    have tk:∀o:zz8,(st++[o]).take st.length=st:=fun o=>by simp
    have out:∀(v:Int) (f:Flow) (s:za6),f=.ret (.p (.int v))∧(s=st∨∃o,s=st++[o])→Sat (yf8 (List.length st) f s) (fun a s=>a=.p (.int v)∧s=st):=by
      rintro v _ s ⟨rfl,h⟩
      refine⟨rfl,?_⟩
      rcases h with rfl |⟨o,rfl⟩
      · exact List.take_length
      · exact tk o
    rw[zb7 (fd:=zr5) rfl rfl,zb4]
    simp only[zr5,List.map_cons,List.map_nil,List.cons_append,List.nil_append,Nat.reduceSub,List.replicate]
    rcases shp t with⟨w,x,rfl⟩|⟨w,x,y,rfl⟩|hn
    · rw[xa9]
      by_cases hs:zH5 .str w=true
      · obtain ⟨ws,rfl⟩:∃ws,w=.str ws:=by
          cases w with
          |str ws=>exact⟨ws,rfl⟩
          |_=>cases hs
        rw[isWs]
        refine (hd1 ws [x] (.inl rfl) (fun f s=>f=.ret (.p (.int (if decide (wN=ws)=true then if szA g e x=0 then 0 else 1+szA g e x else 0)))∧(s=st∨∃o,s=st++[o])) ?_ ?_).mono (out _)
        · rintro rfl
          apply za1
          simp![bfOp]
          apply za1
          simp![]
          intro h
          exact absurd h (by decide)
        · intro hw
          refine hd2 ws [x] _ ?_ ?_
          · intro hv
            have:¬wN=ws:=by rintro rfl;exact hv rfl
            exact⟨by rw[if_neg (by simpa using this)],.inr ⟨_,rfl⟩⟩
          · intro hv
            have hN:wN=ws:=by
              unfold dv at hv
              split at hv
              · exact absurd hv (by simp)
              · split at hv
                · exact absurd hv (by simp)
                · split at hv
                  · assumption
                  · exact absurd hv (by simp)
            refine (tail ws [x] _ ih').mono ?_
            rintro _ s ⟨rfl,rfl⟩
            refine⟨?_,.inr ⟨_,rfl⟩⟩
            rw[if_pos (decide_eq_true hN)]
            by_cases h0:szA g e x=0
            · simp[zh0,pyEq,h0]
            · simp[zh0,pyEq,h0]
      · have hs:zH5 .str w=false:=by simpa using hs
        have hN:isW wN w=false:=by
          cases w with
          |str ws=>cases hs
          |_=>rfl
        rw[hN,if_neg (by decide)]
        refine (noT w [x] (.inl rfl) hs).mono ?_
        rintro f s ⟨h1,h2⟩
        exact out 0 f s ⟨h1,.inl h2⟩
    · rw[yS6]
      by_cases hs:zH5 .str w=true
      · obtain ⟨ws,rfl⟩:∃ws,w=.str ws:=by
          cases w with
          |str ws=>exact⟨ws,rfl⟩
          |_=>cases hs
        rw[isWs,isWs,isWs]
        generalize hV:(if decide (wL=ws)=true then (if zD0 g x y=true then (1:Int)else 0)else if (decide (wB=ws) ||decide (wE=ws))=true then (if szA g e x=0∨szA g e y=0 then 0 else 1+(szA g e x+szA g e y))else 0)=V
        refine (hd1 ws [x,y] (.inr rfl) (fun f s=>f=.ret (.p (.int V))∧(s=st∨∃o,s=st++[o])) ?_ ?_).mono (out _)
        · rintro rfl
          rw[if_pos (decide_eq_true rfl)]at hV
          subst hV
          have hdR:zk2 (dep x) (deps ((yh9 (ths g)).map zn2))=true:=dp1 yu7
          have hit:=ym6 hg (x:=x)
          have htt:=ht st
          generalize (yh9 (ths g)).map zn2=R at hdR hit htt
          cases hx:isT g g.ns x with
          | false =>
            rw[hx]at hit
            apply za1
            simp![bfOp,htt,hdR,hit]
            apply za1
            simp![]
            rw[zD0,hx];rfl
          | true =>
            rw[hx]at hit
            obtain⟨a,r,hd,ea,hq,hm,ho⟩:=zS0 hx
            obtain⟨k1,k2,k3⟩:=hg.k hd hm
            have e2:=zQ0 (W:=W) (d:=d) (st:=st) hg ea hq
            have e3:=zD1 (W:=W) hd.o k2 (d+1) (by lia) y st
            have er:zD0 g x y=isH hd.o y:=by rw[zD0,hx,ho];rfl
            apply za1
            simp![bfOp,htt,hdR,hit]
            apply za1
            rw[er]
            simp![bfOp,e2,e3]
        · intro hw
          have hw':¬wL=ws:=fun h=>hw h.symm
          rw[if_neg (by simpa using hw')]at hV
          refine hd2 ws [x,y] _ ?_ ?_
          · intro hv
            have h1:¬wB=ws:=by rintro rfl;exact hv rfl
            have h2:¬wE=ws:=by rintro rfl;exact hv rfl
            refine⟨?_,.inr ⟨_,rfl⟩⟩
            rw[←hV]
            simp[h1,h2]
          · intro hv
            have hN:(decide (wB=ws) ||decide (wE=ws))=true:=by
              unfold dv at hv
              split at hv
              · rename_i h;simp;exact .inl h
              · split at hv
                · rename_i h;simp;exact .inr h
                · split at hv
                  · exact absurd hv (by simp)
                  · exact absurd hv (by simp)
            rw[if_pos hN]at hV
            refine (tail ws [x,y] _ ih').mono ?_
            rintro _ s ⟨rfl,rfl⟩
            refine⟨?_,.inr ⟨_,rfl⟩⟩
            rw[←hV]
            by_cases h0:szA g e x=0
            · simp[zh0,pyEq,h0]
            · by_cases h1:szA g e y=0
              · simp[zh0,pyEq,h0,h1]
              · simp[zh0,pyEq,h0,h1]
      · have hs:zH5 .str w=false:=by simpa using hs
        have hN:∀a,isW a w=false:=fun a=>by
          cases w with
          |str ws=>cases hs
          |_=>rfl
        rw[hN,hN,hN,if_neg (by decide),if_neg (by decide)]
        refine (noT w [x,y] (.inr rfl) hs).mono ?_
        rintro f s ⟨h1,h2⟩
        exact out 0 f s ⟨h1,.inl h2⟩
    · have hs:=shp2 t hn
      rw[szA,hn]
      have fin:Sat (execSs (zg2 prog W (d+1)) W zf8 [some (.p (zn8 g)),some (.p t),some (.p (.int E1)),none] st) fun f s=>f=.ret (.p (.int 0))∧s=st:=by
        simp only[zf8]
        apply za1
        cases t with
        | tup xs =>
          have hlen:zh0 (.int (xs.length:Int)) [.int 2,.int 3]=false:=by
            have:=hs xs rfl
            simp[zh0,pyEq]
            lia
          simp![he,bfOp,d0',d0,hlen]
          apply za1
          simp![]
        | _ =>
          simp![he,bfOp]
          apply za1
          simp![]
      refine fin.mono ?_
      rintro f s ⟨h1,h2⟩
      exact out 0 f s ⟨h1,.inl h2⟩
theorem yi9{g:Gr}{t:PV}:(decide (1≤szA g 5 t)&&decide (szA g 5 t≤12))=(zx6 g 5 t&&decide (cnt 5 t≤12)):=by
 obtain⟨h1,h2⟩:=xm4 (g:=g) 5 t
 cases ha:zx6 g 5 t with
 |false=>rw[h2 ha];rfl
 | true =>
  rw[h1 ha]
  have:=zL2 (g:=g) 5 t ha
  rw[decide_eq_true this]
noncomputable def zM7:List S:=match yf1 with
 |[.for _ _ b,_]=>b
 |_=>[]
def I1(es:Env)(s0:za6)(xs:List PV)(env:Env)(s:za6):Prop:=∃x6 x7,env=es++[x6,x7]∧s=s0
theorem yx2{W d:Nat}(hW:100≤W)(ns:List Int)(h63:ns.length≤63)(k:Nat)(st:za6)(x2 x3 x4 x5 x6 x7:Option Val):
  Sat (execSs (zg2 prog W (d+18)) W zM7 [some (.p (.lst (ns.map .int))),some (.p (.int k)),x2,x3,x4,x5,x6,x7] st)
   fun f _=>∃y2 y3 y4 y5 y6 y7,f=.next [some (.p (.lst (ns.map .int))),some (.p (.int k)),y2,y3,y4,y5,y6,y7]:=by
 simp only[zM7,yf1]
 obtain⟨a,b,hbox⟩:=xi2 W (d+16) ns k st h63 (by lia)
 apply za1
 simp![hbox]
 dsimp! only
 have hw:Bx (st++[bxL a b 0]) st.length:=⟨a,b,0,zz6⟩
 generalize st++[bxL a b 0]=st0 at hw
 generalize st.length=w at hw
 apply za1
 simp![]
 refine Sat.k0 (yx6 (by lia) hw) fun g st1 hg d1=>?_
 apply za1
 simp![]
 refine Sat.k0 (zD8 hg 3 (d+18) st1 (by lia) d1.2) fun v st2 hv d2=>?_
 dsimp! only
 have hv':Tm 0 11 v:=hv.mono (Nat.le_refl _) (by lia)
 -- the zn7,whatever the asking
 have zn7:∀(v:PV) (st3:za6),Tm 0 11 v→Bx st3 w→Sat (execSs (zg2 prog W (d+18)) W (zM7.drop 4) [some (.p (.lst (ns.map .int))),some (.p (.int k)),some (.ref w),some (.p (zn8 g)),some (.p v),x5,x6,x7] st3)
   fun f _=>∃y2 y3 y4 y5 y6 y7,f=.next [some (.p (.lst (ns.map .int))),some (.p (.int k)),y2,y3,y4,y5,y6,y7]:=by
  intro v st3 hv hw3
  simp only[zM7,yf1,List.drop_succ_cons,List.drop_zero]
  apply za1
  simp![]
  refine Sat.k0 (yD9 11 (d+18) 0 v st3 (by lia) (by lia) hv hw3) fun b1 s4 hb1 d4=>?_
  apply za1
  simp![]
  refine Sat.k0 (yD9 12 (d+18) 1 b1 s4 (by lia) (by lia) hb1 d4.2) fun b2 s5 hb2 d5=>?_
  simp![]
  refine Sat.k0 (yJ4 (by lia) hg d5.2 hv) fun b3 s6 hb3 d6=>?_
  simp![]
  refine (zu3 (I1 [some (.p (.lst (ns.map .int))),some (.p (.int k)),some (.ref w),some (.p (zn8 g)),some (.p v),some (.p b1)] s6) _ _ _ ⟨_,_,rfl,rfl⟩ ?_).mono ?_
  ·rintro t q env s ⟨y6,y7,rfl,rfl⟩
   have e1:=zC9 (W:=W) (D:=d+18) (t:=t) (st:=s) hg (by lia)
   have e2:zg2 prog W (d+18) zv0 [.p (zn8 g),.p t,.p (.int 1)] s=.ok (.p (.int (szA g 5 t))) s:=yL6 (W:=W) hg 5 (d+18) t s (by lia) (by lia)
   have sw:=yi9 (g:=g) (t:=t)
   rw[←sw]at e1
   generalize szA g 5 t=z at e1 e2
   refine⟨_,rfl,?_⟩
   apply za1
   simp![e1]
   dsimp! only
   skip
   apply za1
   by_cases h1:1≤z
   ·by_cases h2:z≤12
    ·simp![bfOp,e2,h1,h2]
     dsimp! only
     exact⟨_,rfl,_,_,rfl,rfl⟩
    ·simp![bfOp,e2,h1,h2]
     dsimp! only
     exact⟨_,rfl,_,_,rfl,rfl⟩
   ·simp![bfOp,e2,h1]
    dsimp! only
    exact⟨_,rfl,_,_,rfl,rfl⟩
  ·rintro _ s ⟨env2,rfl,y6,y7,rfl,rfl⟩
   dsimp! only
   exact⟨_,_,_,_,_,_,rfl⟩
 apply za1
 simp![]
 refine Sat.k1 (ze0 d2.2) fun r s3 r0 r1 d3=>?_
 by_cases hr:r=0
 ·subst hr
  simp![]
  apply za1
  simp![]
  refine Sat.k0 (yQ5 hW (by lia) hg d3.2) fun u s4 hu d4=>?_
  dsimp! only
  exact zn7 u s4 hu d4.2
 ·simp![hr]
  dsimp! only
  exact zn7 v s3 hv' d3.2
noncomputable def g0:Gr:=⟨[[97]],[⟨[97],0,.num⟩]⟩
theorem yL9:gG g0:=⟨by decide,by decide,by simp[g0],by simp[g0],by simp[g0],by decide,by decide,fun h hh=>by
 have:h=⟨[97],0,.num⟩:=by simpa[g0]using hh
 subst this
 exact⟨by decide,by rw[ok];trivial,by simp⟩⟩
theorem yU9:zn8 g0=.tup [.tup [.str [97]],.tup [.tup [.str [97],.int 0,.tup [.str [110,117,109]]]]]:=by
 simp[zn8,g0,zm7,zB4]
theorem xd9:zx6 g0 5 (.tup [.str [108,101,97,115,116],.tup [.str [97]],.bl true])=false:=by
 rw[ya9,if_pos (by decide)]
 have ho:xh1 g0 (.tup [.str [97]])=some .num:=by simp[xh1,hd?,g0,zv8]
 rw[zD0,ho]
 have:isH .num (.bl true)=false:=by rw[isH];rfl
 dsimp only
 rw[this,Bool.and_false]
theorem yZ8(W d:Nat)(hW:100≤W)(ns:List Int)(h63:ns.length≤63):∃st,zg2 prog W (d+19) yY6 [.p (.lst (ns.map .int))] []=.ok (.p (.bl true)) st:=by
 have main:Sat (zg2 prog W (d+19) yY6 [.p (.lst (ns.map .int))] []) fun v _=>v=.p (.bl true):=by
  rw[zb7 (fd:=yN7) rfl rfl,zb4];simp! only[yN7,yf1]
  apply za1
  obtain ⟨m,em,hm⟩:∃m:Nat,1+(if (ns.length:Int)<16 then (ns.length:Int)else 16)=(m:Int)∧m≤20:=by
   by_cases h:(ns.length:Int)<16
   ·rw[if_pos h];exact⟨1+ns.length,by lia,by lia⟩
   ·rw[if_neg h];exact⟨17,by lia,by lia⟩
  have im:(m:Int)≤SZ:=zy4 (by lia)
  have im':(-1000000:Int)≤(m:Int):=by lia
  simp![bfOp,em,im,im']
  refine (zu3 (fun xs env st=>(∃x1 x2 x3 x4 x5 x6 x7,env=[some (.p (.lst (ns.map .int))),x1,x2,x3,x4,x5,x6,x7])∧∀x∈xs,∃k:Nat,x=.int k) _ _ _ ⟨⟨_,_,_,_,_,_,_,rfl⟩,?_⟩ ?_).mono ?_
  ·intro x hx
   obtain⟨k,hk,rfl⟩:=List.mem_map.mp hx
   exact⟨k,rfl⟩
  ·rintro x r env s ⟨⟨x1,x2,x3,x4,x5,x6,x7,rfl⟩,hx⟩
   obtain⟨k,rfl⟩:=hx x (by simp)
   refine⟨_,rfl,?_⟩
   refine (yx2 hW ns h63 k s x2 x3 x4 x5 x6 x7).mono ?_
   rintro _ s2 ⟨y2,y3,y4,y5,y6,y7,rfl⟩
   exact⟨_,rfl,⟨_,_,_,_,_,_,_,rfl⟩,fun y hy=>hx y (List.mem_cons_of_mem _ hy)⟩
  ·rintro _ s2 ⟨env2,rfl,⟨x1,x2,x3,x4,x5,x6,x7,rfl⟩,_⟩
   have e1:=zC9 (W:=W) (D:=d+18) (g:=g0) (t:=.tup [.str [108,101,97,115,116],.tup [.str [97]],.bl true]) (st:=s2) yL9 (by lia)
   rw[xd9,yU9,Bool.false_and]at e1
   apply za1
   simp![e1]
 obtain⟨v,st,h,rfl⟩:=zu7.mp main
 exact⟨st,h⟩
open PySem L2 OR PySem.SeqAt PyProof.Rows
noncomputable def top(i:Nat):Stmt:=PySem.Challenge.pw_onlyrise_k73_what_is_an_asking.main.body.getD i (.Pass ⟨0,0,0,0⟩)
noncomputable abbrev zf6:Stmt:=top 1
noncomputable abbrev zh9:Stmt:=top 2
noncomputable abbrev zf9:Stmt:=top 4
noncomputable abbrev zc7:Stmt:=top 5
noncomputable abbrev zh1:Stmt:=top 7
noncomputable abbrev zi3:Stmt:=top 8
noncomputable abbrev zg6:Stmt:=top 9
noncomputable abbrev ze4:Stmt:=top 10
noncomputable abbrev zi1:Stmt:=top 11
noncomputable abbrev zg5:Stmt:=top 15
noncomputable abbrev zc3:Stmt:=top 16
noncomputable abbrev zi4:Stmt:=top 17
noncomputable abbrev ze8:Stmt:=top 18
noncomputable abbrev ze3:Stmt:=top 20
noncomputable abbrev zk0:Stmt:=top 21
noncomputable abbrev zh8:Stmt:=top 22
noncomputable abbrev zh2:Stmt:=top 23
noncomputable abbrev zj9:Stmt:=top 24
noncomputable abbrev zg1:Stmt:=top 25
noncomputable abbrev ze1:Stmt:=top 26
noncomputable abbrev zf2:Stmt:=top 27
noncomputable abbrev ze7:Stmt:=top 28
noncomputable abbrev zd4:Stmt:=top 29
noncomputable abbrev zf3:Stmt:=top 30
noncomputable abbrev zc6:Stmt:=top 31
noncomputable abbrev zd2:Stmt:=top 32
noncomputable abbrev zi2:Stmt:=top 33
noncomputable abbrev zh3:Stmt:=top 34
noncomputable abbrev zg0:Stmt:=top 35
noncomputable abbrev zg7:Stmt:=top 36
noncomputable abbrev zw1:Stmt:=top 37
theorem zX7:zd5 ["thing"] ["thing"] (za5 zf6):=⟨rfl,rfl,rfl,by decide +kernel,rfl,by decide +kernel,by decide +kernel⟩
theorem zU0:zd5 ["thing","fewest","most"] ["thing","fewest","most"] (za5 zh9):=⟨rfl,rfl,rfl,by decide +kernel,rfl,by decide +kernel,by decide +kernel⟩
theorem zC8:zd5 ["order","thing","sort"] ["order","thing"] (za5 zf9):=⟨rfl,rfl,rfl,by decide +kernel,rfl,by decide +kernel,by decide +kernel⟩
theorem zD2:zd5 ["parts","thing"] ["parts","thing"] (za5 zc7):=⟨rfl,rfl,rfl,by decide +kernel,rfl,by decide +kernel,by decide +kernel⟩
theorem zX8:zd5 ["ground","thing"] ["ground","thing"] (za5 zh1):=⟨rfl,rfl,rfl,by decide +kernel,rfl,by decide +kernel,by decide +kernel⟩
theorem zW7:zd5 ["ground","thing","height"] ["ground","thing","height"] (za5 zi3):=⟨rfl,rfl,rfl,by decide +kernel,rfl,by decide +kernel,by decide +kernel⟩
theorem zC6:zd5 ["ground","thing","head"] ["ground","thing"] (za5 zg6):=⟨rfl,rfl,rfl,by decide +kernel,rfl,by decide +kernel,by decide +kernel⟩
theorem zv6:zd5 ["ground","word","head"] ["ground","word"] (za5 ze4):=⟨rfl,rfl,rfl,by decide +kernel,rfl,by decide +kernel,by decide +kernel⟩
theorem zW5:zd5 ["ground","thing"] ["ground","thing"] (za5 zi1):=⟨rfl,rfl,rfl,by decide +kernel,rfl,by decide +kernel,by decide +kernel⟩
theorem zT0:zd5 ["ground","thing"] ["ground","thing"] (za5 zg5):=⟨rfl,rfl,rfl,by decide +kernel,rfl,by decide +kernel,by decide +kernel⟩
theorem zw9:zd5 ["ground","thing","deep"] ["ground","thing","deep"] (za5 zc3):=⟨rfl,rfl,rfl,by decide +kernel,rfl,by decide +kernel,by decide +kernel⟩
theorem zV5:zd5 ["asking"] ["asking"] (za5 zi4):=⟨rfl,rfl,rfl,by decide +kernel,rfl,by decide +kernel,by decide +kernel⟩
theorem zM2:zd5 ["asking"] ["asking"] (za5 ze8):=⟨rfl,rfl,rfl,by decide +kernel,rfl,by decide +kernel,by decide +kernel⟩
theorem zq5:zd5 ["_law_script","_law_k","_law_seed"] ["_law_script","_law_k"] (za5 ze3):=⟨rfl,rfl,rfl,by decide +kernel,rfl,by decide +kernel,by decide +kernel⟩
theorem zK8:zd5 ["_law_script","_law_k","_law_cell"] ["_law_script","_law_k"] (za5 zk0):=⟨rfl,rfl,rfl,by decide +kernel,rfl,by decide +kernel,by decide +kernel⟩
theorem zw2:zd5 ["_law_box_here","_law_many","_law_found","_law_mixed"] ["_law_box_here","_law_many"] (za5 zh8):=⟨rfl,rfl,rfl,by decide +kernel,rfl,by decide +kernel,by decide +kernel⟩
theorem zs0:zd5 ["_law_box_here","_law_many","_law_pool","_law_turn","_law_step"] ["_law_box_here","_law_many"] (za5 zh2):=⟨rfl,rfl,rfl,by decide +kernel,rfl,by decide +kernel,by decide +kernel⟩
theorem zk3:zd5 ["_law_box_here","_law_names","_law_one","_law_two","_law_three","_law_four","_law_pairs"] ["_law_box_here"] (za5 zj9):=⟨rfl,rfl,rfl,by decide +kernel,rfl,by decide +kernel,by decide +kernel⟩
theorem zC0:zd5 ["_law_box_here","_law_deep","_law_way"] ["_law_box_here","_law_deep"] (za5 zg1):=⟨rfl,rfl,rfl,by decide +kernel,rfl,by decide +kernel,by decide +kernel⟩
theorem zy0:zd5 ["_law_box_here","_law_order_here","_law_few"] ["_law_box_here","_law_order_here"] (za5 ze1):=⟨rfl,rfl,rfl,by decide +kernel,rfl,by decide +kernel,by decide +kernel⟩
theorem zj5:zd5 ["_law_box_here","_law_names","_law_called","_law_heads","_law_order_here","_law_k"] ["_law_box_here"] (za5 zf2):=⟨rfl,rfl,rfl,by decide +kernel,rfl,by decide +kernel,by decide +kernel⟩
theorem zg3:zd5 ["_law_ground_here","_law_found","_law_head","_law_some_here","_law_turn","_law_wider","_law_one"] ["_law_ground_here"] (za5 ze7):=⟨rfl,rfl,rfl,by decide +kernel,rfl,by decide +kernel,by decide +kernel⟩
theorem zF5:zd5 ["_law_ground_here","_law_thing"] ["_law_ground_here","_law_thing"] (za5 zd4):=⟨rfl,rfl,rfl,by decide +kernel,rfl,by decide +kernel,by decide +kernel⟩
theorem zm0:zd5 ["_law_box_here","_law_ground_here","_law_deep","_law_way","_law_things_here","_law_thing","_law_word"] ["_law_box_here","_law_ground_here","_law_deep"] (za5 zf3):=⟨rfl,rfl,rfl,by decide +kernel,rfl,by decide +kernel,by decide +kernel⟩
theorem zn9:zd5 ["_law_order_here","_law_thing","_law_sort","_law_whole"] ["_law_order_here","_law_thing"] (za5 zc6):=⟨rfl,rfl,rfl,by decide +kernel,rfl,by decide +kernel,by decide +kernel⟩
theorem zD3:zd5 ["_law_box_here","_law_thing"] ["_law_box_here","_law_thing"] (za5 zd2):=⟨rfl,rfl,rfl,by decide +kernel,rfl,by decide +kernel,by decide +kernel⟩
theorem zs4:zd5 ["_law_box_here","_law_thing","_law_at","_law_way"] ["_law_box_here","_law_thing"] (za5 zi2):=⟨rfl,rfl,rfl,by decide +kernel,rfl,by decide +kernel,by decide +kernel⟩
theorem zI3:zd5 ["_law_ground_here","_law_thing","_law_deep","_law_sizes"] ["_law_ground_here","_law_thing","_law_deep"] (za5 zh3):=⟨rfl,rfl,rfl,by decide +kernel,rfl,by decide +kernel,by decide +kernel⟩
theorem zl7:zd5 ["_law_box_here","_law_ground_here","_law_found","_law_k","_law_some_here"] ["_law_box_here","_law_ground_here"] (za5 zg0):=⟨rfl,rfl,rfl,by decide +kernel,rfl,by decide +kernel,by decide +kernel⟩
theorem zl6:zd5 ["_law_box_here","_law_ground_here","_law_asking_here","_law_things_here","_law_thing","_law_other_here","_law_some_here"] ["_law_box_here","_law_ground_here","_law_asking_here"] (za5 zg7):=⟨rfl,rfl,rfl,by decide +kernel,rfl,by decide +kernel,by decide +kernel⟩
theorem zy1:zd5 ["_law_script","_law_k","_law_box_here","_law_ground_here","_law_asking_here","_law_bent_here","_law_thing","_law_found"] ["_law_script"] (za5 zw1):=⟨rfl,rfl,rfl,by decide +kernel,rfl,by decide +kernel,by decide +kernel⟩
theorem nd0:(["thing","name"]:List Str).Nodup:=by decide +kernel
theorem nd1:(["part","height"]:List Str).Nodup:=by decide +kernel
theorem nd2:(["ground","word"]:List Str).Nodup:=by decide +kernel
theorem nd3:(["ground","deep","part"]:List Str).Nodup:=by decide +kernel
theorem nd4:(["part"]:List Str).Nodup:=by decide +kernel
theorem nd5:(["_law_pool","_law_turn","_law_step","_law_k"]:List Str).Nodup:=by decide +kernel
theorem nd6:(["_law_box_here","_law_deep","_law_k"]:List Str).Nodup:=by decide +kernel
theorem nd7:(["_law_box_here","_law_one"]:List Str).Nodup:=by decide +kernel
theorem nd8:(["_law_order_here","_law_few","_law_k"]:List Str).Nodup:=by decide +kernel
theorem nd9:(["_law_one","_law_name"]:List Str).Nodup:=by decide +kernel
theorem nd10:(["_law_thing","_law_head"]:List Str).Nodup:=by decide +kernel
theorem nd11:(["_law_order_here","_law_thing","_law_k"]:List Str).Nodup:=by decide +kernel
theorem nd12:(["_law_thing","_law_name"]:List Str).Nodup:=by decide +kernel
theorem nd13:(["_law_ground_here","_law_deep","_law_one"]:List Str).Nodup:=by decide +kernel
theorem nd14:(["_law_box_here","_law_ground_here","_law_k"]:List Str).Nodup:=by decide +kernel
theorem yj4:bootBuiltins "all" = some (.builtin "all"):=by decide +kernel
theorem zW1:bootBuiltins "bool" = some (.type "bool"):=by decide +kernel
theorem zS6:bootBuiltins "int" = some (.type "int"):=by decide +kernel
theorem zc8:bootBuiltins "isinstance" = some (.builtin "isinstance"):=by decide +kernel
theorem zj1:bootBuiltins "len" = some (.builtin "len"):=by decide +kernel
theorem yu6:bootBuiltins "list" = some (.type "list"):=by decide +kernel
theorem yF6:bootBuiltins "max" = some (.builtin "max"):=by decide +kernel
theorem xa4:bootBuiltins "min" = some (.builtin "min"):=by decide +kernel
theorem yu0:bootBuiltins "sorted" = some (.builtin "sorted"):=by decide +kernel
theorem ye6:bootBuiltins "str" = some (.type "str"):=by decide +kernel
theorem yE0:bootBuiltins "sum" = some (.builtin "sum"):=by decide +kernel
theorem zk8:bootBuiltins "tuple" = some (.type "tuple"):=by decide +kernel
theorem xf9:bootBuiltins "zip" = some (.type "zip"):=by decide +kernel
structure Md(K:Frag)(mg:Str→Option Value)(f:Nat→Addr)(fd:Nat→FuncData):Prop where
 m0:mg "is_count" = some (.ref (f 0))
 F0:Fun K "is_count" "is_count" zf6 (f 0) (fd 0)
 b0:Binds K (fd 0) ["thing"] []
 m1:mg "is_tuple" = some (.ref (f 1))
 F1:Fun K "is_tuple" "is_tuple" zh9 (f 1) (fd 1)
 b1:Binds K (fd 1) ["thing","fewest","most"] []
 m2:mg "is_height" = some (.ref (f 2))
 F2:Fun K "is_height" "is_height" zf9 (f 2) (fd 2)
 b2:Binds K (fd 2) ["order","thing"] []
 m3:mg "is_row_height" = some (.ref (f 3))
 F3:Fun K "is_row_height" "is_row_height" zc7 (f 3) (fd 3)
 b3:Binds K (fd 3) ["parts","thing"] []
 m4:mg "is_thing" = some (.ref (f 4))
 F4:Fun K "is_thing" "is_thing" zh1 (f 4) (fd 4)
 b4:Binds K (fd 4) ["ground","thing"] []
 m5:mg "is_risen" = some (.ref (f 5))
 F5:Fun K "is_risen" "is_risen" zi3 (f 5) (fd 5)
 b5:Binds K (fd 5) ["ground","thing","height"] []
 m6:mg "has_words" = some (.ref (f 6))
 F6:Fun K "has_words" "has_words" zg6 (f 6) (fd 6)
 b6:Binds K (fd 6) ["ground","thing"] []
 m7:mg "head_called" = some (.ref (f 7))
 F7:Fun K "head_called" "head_called" ze4 (f 7) (fd 7)
 b7:Binds K (fd 7) ["ground","word"] []
 m8:mg "order_of" = some (.ref (f 8))
 F8:Fun K "order_of" "order_of" zi1 (f 8) (fd 8)
 b8:Binds K (fd 8) ["ground","thing"] []
 m9:mg "is_asking" = some (.ref (f 9))
 F9:Fun K "is_asking" "is_asking" zg5 (f 9) (fd 9)
 b9:Binds K (fd 9) ["ground","thing"] []
 m10:mg "is_asking_within" = some (.ref (f 10))
 F10:Fun K "is_asking_within" "is_asking_within" zc3 (f 10) (fd 10)
 b10:Binds K (fd 10) ["ground","thing","deep"] []
 m11:mg "parts_of" = some (.ref (f 11))
 F11:Fun K "parts_of" "parts_of" zi4 (f 11) (fd 11)
 b11:Binds K (fd 11) ["asking"] []
 m12:mg "askings_in" = some (.ref (f 12))
 F12:Fun K "askings_in" "askings_in" ze8 (f 12) (fd 12)
 b12:Binds K (fd 12) ["asking"] []
 m13:mg "_law_cell_at" = some (.ref (f 13))
 F13:Fun K "_law_cell_at" "_law_cell_at" ze3 (f 13) (fd 13)
 b13:Binds K (fd 13) ["_law_script","_law_k"] []
 m14:mg "_law_box" = some (.ref (f 14))
 F14:Fun K "_law_box" "_law_box" zk0 (f 14) (fd 14)
 b14:Binds K (fd 14) ["_law_script","_law_k"] []
 m15:mg "_law_take" = some (.ref (f 15))
 F15:Fun K "_law_take" "_law_take" zh8 (f 15) (fd 15)
 b15:Binds K (fd 15) ["_law_box_here","_law_many"] []
 m16:mg "_law_some" = some (.ref (f 16))
 F16:Fun K "_law_some" "_law_some" zh2 (f 16) (fd 16)
 b16:Binds K (fd 16) ["_law_box_here","_law_many"] []
 m17:mg "_law_web" = some (.ref (f 17))
 F17:Fun K "_law_web" "_law_web" zj9 (f 17) (fd 17)
 b17:Binds K (fd 17) ["_law_box_here"] []
 m18:mg "_law_order" = some (.ref (f 18))
 F18:Fun K "_law_order" "_law_order" zg1 (f 18) (fd 18)
 b18:Binds K (fd 18) ["_law_box_here","_law_deep"] []
 m19:mg "_law_height" = some (.ref (f 19))
 F19:Fun K "_law_height" "_law_height" ze1 (f 19) (fd 19)
 b19:Binds K (fd 19) ["_law_box_here","_law_order_here"] []
 m20:mg "_law_ground" = some (.ref (f 20))
 F20:Fun K "_law_ground" "_law_ground" zf2 (f 20) (fd 20)
 b20:Binds K (fd 20) ["_law_box_here"] []
 m21:mg "_law_things" = some (.ref (f 21))
 F21:Fun K "_law_things" "_law_things" ze7 (f 21) (fd 21)
 b21:Binds K (fd 21) ["_law_ground_here"] []
 m22:mg "_law_order_of" = some (.ref (f 22))
 F22:Fun K "_law_order_of" "_law_order_of" zd4 (f 22) (fd 22)
 b22:Binds K (fd 22) ["_law_ground_here","_law_thing"] []
 m23:mg "_law_asking" = some (.ref (f 23))
 F23:Fun K "_law_asking" "_law_asking" zf3 (f 23) (fd 23)
 b23:Binds K (fd 23) ["_law_box_here","_law_ground_here","_law_deep"] []
 m24:mg "_law_is_height" = some (.ref (f 24))
 F24:Fun K "_law_is_height" "_law_is_height" zc6 (f 24) (fd 24)
 b24:Binds K (fd 24) ["_law_order_here","_law_thing"] []
 m25:mg "_law_leaf_bent" = some (.ref (f 25))
 F25:Fun K "_law_leaf_bent" "_law_leaf_bent" zd2 (f 25) (fd 25)
 b25:Binds K (fd 25) ["_law_box_here","_law_thing"] []
 m26:mg "_law_bent" = some (.ref (f 26))
 F26:Fun K "_law_bent" "_law_bent" zi2 (f 26) (fd 26)
 b26:Binds K (fd 26) ["_law_box_here","_law_thing"] []
 m27:mg "_law_size" = some (.ref (f 27))
 F27:Fun K "_law_size" "_law_size" zh3 (f 27) (fd 27)
 b27:Binds K (fd 27) ["_law_ground_here","_law_thing","_law_deep"] []
 m28:mg "_law_great" = some (.ref (f 28))
 F28:Fun K "_law_great" "_law_great" zg0 (f 28) (fd 28)
 b28:Binds K (fd 28) ["_law_box_here","_law_ground_here"] []
 m29:mg "_law_other" = some (.ref (f 29))
 F29:Fun K "_law_other" "_law_other" zg7 (f 29) (fd 29)
 b29:Binds K (fd 29) ["_law_box_here","_law_ground_here","_law_asking_here"] []
 m30:mg "law" = some (.ref (f 30))
 F30:Fun K "law" "law" zw1 (f 30) (fd 30)
 b30:Binds K (fd 30) ["_law_script"] []
 z_all:mg "all" = none
 z_bool:mg "bool" = none
 z_int:mg "int" = none
 z_isinstance:mg "isinstance" = none
 z_len:mg "len" = none
 z_list:mg "list" = none
 z_max:mg "max" = none
 z_min:mg "min" = none
 z_range:mg "range" = none
 z_reversed:mg "reversed" = none
 z_sorted:mg "sorted" = none
 z_str:mg "str" = none
 z_sum:mg "sum" = none
 z_tuple:mg "tuple" = none
 z_zip:mg "zip" = none
 c_MOST_IN_ALL:∀{X:Cx} {C:zc5} {pos:Pos},X.K=K→X.mg=mg→Gl X "MOST_IN_ALL" → JE X C (.Name "MOST_IN_ALL" pos) (.const (.int 12))
 c_MOST_WITHIN:∀{X:Cx} {C:zc5} {pos:Pos},X.K=K→X.mg=mg→Gl X "MOST_WITHIN" → JE X C (.Name "MOST_WITHIN" pos) (.const (.int 5))
structure Ih(P:Program)(w:World)(K:Frag)(mg:Str→Option Value)(base:Heap)(f:Nat→Addr)(fd:Nat→FuncData)(W d:Nat):Prop where
 h0:zq2 P w K mg base CX0 d (f 0) (fd 0) ["thing"] (spF K prog W d 0 1)
 h1:zq2 P w K mg base CX0 d (f 1) (fd 1) ["thing","fewest","most"] (spF K prog W d 1 3)
 h2:zq2 P w K mg base CX0 d (f 2) (fd 2) ["order","thing"] (spF K prog W d 2 2)
 h3:zq2 P w K mg base CX0 d (f 3) (fd 3) ["parts","thing"] (spF K prog W d 3 2)
 h4:zq2 P w K mg base CX0 d (f 4) (fd 4) ["ground","thing"] (spF K prog W d 4 2)
 h5:zq2 P w K mg base CX0 d (f 5) (fd 5) ["ground","thing","height"] (spF K prog W d 5 3)
 h6:zq2 P w K mg base CX0 d (f 6) (fd 6) ["ground","thing"] (spF K prog W d 6 2)
 h7:zq2 P w K mg base CX0 d (f 7) (fd 7) ["ground","word"] (spF K prog W d 7 2)
 h8:zq2 P w K mg base CX0 d (f 8) (fd 8) ["ground","thing"] (spF K prog W d 8 2)
 h9:zq2 P w K mg base CX0 d (f 9) (fd 9) ["ground","thing"] (spF K prog W d 9 2)
 h10:zq2 P w K mg base CX0 d (f 10) (fd 10) ["ground","thing","deep"] (spF K prog W d 10 3)
 h11:zq2 P w K mg base CX0 d (f 11) (fd 11) ["asking"] (spF K prog W d 11 1)
 h12:zq2 P w K mg base CX0 d (f 12) (fd 12) ["asking"] (spF K prog W d 12 1)
 h13:zq2 P w K mg base CX0 d (f 13) (fd 13) ["_law_script","_law_k"] (spF K prog W d 13 2)
 h14:zq2 P w K mg base CX0 d (f 14) (fd 14) ["_law_script","_law_k"] (spF K prog W d 14 2)
 h15:zq2 P w K mg base CX0 d (f 15) (fd 15) ["_law_box_here","_law_many"] (spF K prog W d 15 2)
 h16:zq2 P w K mg base CX0 d (f 16) (fd 16) ["_law_box_here","_law_many"] (spF K prog W d 16 2)
 h17:zq2 P w K mg base CX0 d (f 17) (fd 17) ["_law_box_here"] (spF K prog W d 17 1)
 h18:zq2 P w K mg base CX0 d (f 18) (fd 18) ["_law_box_here","_law_deep"] (spF K prog W d 18 2)
 h19:zq2 P w K mg base CX0 d (f 19) (fd 19) ["_law_box_here","_law_order_here"] (spF K prog W d 19 2)
 h20:zq2 P w K mg base CX0 d (f 20) (fd 20) ["_law_box_here"] (spF K prog W d 20 1)
 h21:zq2 P w K mg base CX0 d (f 21) (fd 21) ["_law_ground_here"] (spF K prog W d 21 1)
 h22:zq2 P w K mg base CX0 d (f 22) (fd 22) ["_law_ground_here","_law_thing"] (spF K prog W d 22 2)
 h23:zq2 P w K mg base CX0 d (f 23) (fd 23) ["_law_box_here","_law_ground_here","_law_deep"] (spF K prog W d 23 3)
 h24:zq2 P w K mg base CX0 d (f 24) (fd 24) ["_law_order_here","_law_thing"] (spF K prog W d 24 2)
 h25:zq2 P w K mg base CX0 d (f 25) (fd 25) ["_law_box_here","_law_thing"] (spF K prog W d 25 2)
 h26:zq2 P w K mg base CX0 d (f 26) (fd 26) ["_law_box_here","_law_thing"] (spF K prog W d 26 2)
 h27:zq2 P w K mg base CX0 d (f 27) (fd 27) ["_law_ground_here","_law_thing","_law_deep"] (spF K prog W d 27 3)
 h28:zq2 P w K mg base CX0 d (f 28) (fd 28) ["_law_box_here","_law_ground_here"] (spF K prog W d 28 2)
 h29:zq2 P w K mg base CX0 d (f 29) (fd 29) ["_law_box_here","_law_ground_here","_law_asking_here"] (spF K prog W d 29 3)
 h30:zq2 P w K mg base CX0 d (f 30) (fd 30) ["_law_script"] (spF K prog W d 30 1)
section
variable{P:Program}{w:World}{K:Frag}{mg:Str→Option Value}{base:Heap}{f:Nat→Addr}{fd:Nat→FuncData}{W d:Nat}{cdv:Value}{A:Around}{outer:List PySem.Env}{s:Shared}{H:Hp}{E:XK}
theorem yf2(M:Md K mg f fd)(ih:Ih P w K mg base f fd W d)(hr:zo2 d (A.deeper (envOfC "is_count" (za5 zf6) s.heap.objs.size (f 0) cdv))):
  JSs (zs8 CX0 P w K mg base ["thing"] "is_count" (za5 zf6) (f 0) cdv A outer s H E).nox (zg2 prog W d) W (za9 zf6) zA2 :=
 have hu1:=zl3 hr
 have hu2:=zl2 hr
 have hgd:=hr.gd
 (za2 (zb0 (zk6 (zf7 .int rfl M.z_isinstance zc8 rfl M.z_int zS6 (jsv 0)) (zk6 (yq3 (zf7 .bool rfl M.z_isinstance zc8 rfl M.z_bool zW1 (jsv 0))) (zl1 (zj4 o_ge (jsv 0) za3 (zc0 _) fun _ _=>zb6)))))
  za7)
theorem yh1(M:Md K mg f fd)(ih:Ih P w K mg base f fd W d)(hr:zo2 d (A.deeper (envOfC "is_tuple" (za5 zh9) s.heap.objs.size (f 1) cdv))):
  JSs (zs8 CX0 P w K mg base ["thing","fewest","most"] "is_tuple" (za5 zh9) (f 1) cdv A outer s H E).nox (zg2 prog W d) W (za9 zh9) zr0 :=
 have hu1:=zl3 hr
 have hu2:=zl2 hr
 have hgd:=hr.gd
 (za2 (zb0 (zk6 (zf7 .tuple rfl M.z_isinstance zc8 rfl M.z_tuple zk8 (jsv 0)) (zl1 (zS7 (cop:=.le) (cop':=.le) yT8 yT8 (yG5 _) (jsv 1) (zb8 zm6 (fun _ _=>zd3) rfl M.z_len zj1 (za0 (jsv 0) za4)) (jsv 2)))))
  za7)
theorem zU4(M:Md K mg f fd)(ih:Ih P w K mg base f fd W d)(hr:zo2 d (A.deeper (envOfC "is_height" (za5 zf9) s.heap.objs.size (f 2) cdv))):
    JSs (zs8 CX0 P w K mg base ["order","thing","sort"] "is_height" (za5 zf9) (f 2) cdv A outer s H E).nox (zg2 prog W d) W (za9 zf9) zj8 :=
  have hu1:=zl3 hr
  have hu2:=zl2 hr
  have hgd:=hr.gd
  (za2 (zc4 (i:=2) zC8.nd rfl (by trivial) (zb3 hu1 (jsv 0) za3 (fun _ _=>rfl)))
    (za2 (zd1 (zb5 (zo1 hu2) (jsv 2) (zb1 (cs:=[110,117,109])) (zc0 _) fun _ _=>zb6)
     (za2 (zb0 (za8 (ps:=["thing"]) ih.h0 hr rfl M.m0 M.F0.kp M.b0 (za0 (jsv 1) za4) rfl))
     za7)
     za7)
    (za2 (zd1 (zb5 (zo1 hu2) (jsv 2) (zb1 (cs:=[108,111,119])) (zc0 _) fun _ _=>zb6)
     (za2 (zb0 (yG3 (zj4 xi9 (jsv 1) zs2 (zc0 _) fun _ _=>zb6) (zl1 (za8 (ps:=["thing"]) ih.h0 hr rfl M.m0 M.F0.kp M.b0 (za0 (jsv 1) za4) rfl))))
     za7)
     za7)
    (za2 (zd1 (zv5 (zt3 (zb5 (zo1 hu2) (jsv 2) (zb1 (cs:=[99,104,97,105,110])) (zc0 _) fun _ _=>zb6) (zs5 (zb5 (zo1 hu2) (jsv 2) (zb1 (cs:=[119,101,98])) (zc0 _) fun _ _=>zb6))))
     (za2 (zb0 (zj4 (yH7 hu2) (jsv 1) (zb3 hu1 (jsv 0) za3 (fun _ _=>rfl)) (by with_unfolding_all rfl) fun _ _=>zb6))
     za7)
     za7)
    (za2 (zd1 (zb5 (zo1 hu2) (jsv 2) (zb1 (cs:=[115,101,116])) (zc0 _) fun _ _=>zb6)
     (za2 (zb0 (zk6 (zf7 .tuple rfl M.z_isinstance zc8 rfl M.z_tuple zk8 (jsv 1)) (zl1 (zj4 (zo1 hu2) (jsv 1) (zi0 zw8 (fun _ _=>zd3) rfl M.z_tuple zk8 (za0 (zk9 (N:=["thing","name"]) rfl (zh7 (up:=za5 zf9) (XN:=["order","thing","sort"]) rfl rfl (by decide +kernel)) (zn1 (zb3 hu1 (jsv 0) za3 (fun _ _=>rfl))) (fun _ _ _ _ _=>zf4 (i:=1) nd0 rfl (by trivial)) (fun _ _ _ _ _=>(yD0 (zb5 (yH7 hu2) (jsv 1) (jsv 0) (by with_unfolding_all rfl) fun _ _=>zb6))) (fun _ _ _ _ _=>(jsv 1))) za4)) (zc0 _) fun _ _=>zb6))))
     za7)
     za7)
    (za2 (zd1 (zb5 (zo1 hu2) (jsv 2) (zb1 (cs:=[114,111,119])) (zc0 _) fun _ _=>zb6)
     (za2 (zb0 (za8 (ps:=["parts","thing"]) ih.h3 hr rfl M.m3 M.F3.kp M.b3 (za0 (zb3 hu1 (jsv 0) za3 (fun _ _=>rfl)) (za0 (jsv 1) za4)) rfl))
     za7)
     za7)
    (za2 (zb0 (zk6 (za8 (ps:=["thing","fewest","most"]) ih.h1 hr rfl M.m1 M.F1.kp M.b1 (za0 (jsv 1) (za0 za3 (za0 za3 za4))) rfl) (zk6 (za8 (ps:=["thing"]) ih.h0 hr rfl M.m0 M.F0.kp M.b0 (za0 (zb3 hu1 (jsv 1) za3 (fun _ _=>rfl)) za4) rfl) (zl1 (za8 (ps:=["order","thing"]) ih.h2 hr rfl M.m2 M.F2.kp M.b2 (za0 (zb3 hu1 (jsv 0) za3 (fun _ _=>rfl)) (za0 (zb3 hu1 (jsv 1) za3 (fun _ _=>rfl)) za4)) rfl)))))
    za7)))))))
theorem zG2(M:Md K mg f fd)(ih:Ih P w K mg base f fd W d)(hr:zo2 d (A.deeper (envOfC "is_row_height" (za5 zc7) s.heap.objs.size (f 3) cdv))):
    JSs (zs8 CX0 P w K mg base ["parts","thing"] "is_row_height" (za5 zc7) (f 3) cdv A outer s H E).nox (zg2 prog W d) W (za9 zc7) zp7 :=
  have hu1:=zl3 hr
  have hu2:=zl2 hr
  have hgd:=hr.gd
  (za2 (zd1 (zu1 (zq9 (za8 (ps:=["thing","fewest","most"]) ih.h1 hr rfl M.m1 M.F1.kp M.b1 (za0 (jsv 1) (za0 (zb8 zm6 (fun _ _=>zd3) rfl M.z_len zj1 (za0 (jsv 0) za4)) (za0 (zb8 zm6 (fun _ _=>zd3) rfl M.z_len zj1 (za0 (jsv 0) za4)) za4))) rfl)))
     (za2 (zb0 zs9)
     za7)
     za7)
    (za2 (zb0 (zb8 (yM5 rfl) (fun _ _=>zd3) rfl M.z_all yj4 (za0 (zk9 (N:=["part","height"]) rfl (zh7 (up:=za5 zc7) (XN:=["parts","thing"]) rfl rfl (by decide +kernel)) (yx1 rfl M.z_zip xf9 (za0 (jsv 0) (za0 (jsv 1) za4))) (fun _ _ _ _ _=>yO6 rfl (zr8 (i:=0) nd1 rfl (by trivial) (zr8 (i:=1) nd1 rfl (by trivial) yd3))) (fun _ _ _ _ _=>zE7) (fun _ _ _ _ _=>(za8 (ps:=["order","thing"]) ih.h2 hr rfl M.m2 M.F2.kp M.b2 (za0 (jsv 0) (za0 (jsv 1) za4)) rfl))) za4)))
    za7))
theorem yg7(M:Md K mg f fd)(ih:Ih P w K mg base f fd W d)(hr:zo2 d (A.deeper (envOfC "is_thing" (za5 zh1) s.heap.objs.size (f 4) cdv))):
  JSs (zs8 CX0 P w K mg base ["ground","thing"] "is_thing" (za5 zh1) (f 4) cdv A outer s H E).nox (zg2 prog W d) W (za9 zh1) zB2 :=
 have hu1:=zl3 hr
 have hu2:=zl2 hr
 have hgd:=hr.gd
 (za2 (zb0 (zk6 (za8 (ps:=["ground","thing"]) ih.h6 hr rfl M.m6 M.F6.kp M.b6 (za0 (jsv 0) (za0 (jsv 1) za4)) rfl) (zl1 (zb8 (yM5 rfl) (fun _ _=>zd3) rfl M.z_all yj4 (za0 (zk9 (N:=["ground","word"]) rfl (zh7 (up:=za5 zh1) (XN:=["ground","thing"]) rfl rfl (by decide +kernel)) (zn1 (zg4 (jsv 1) (zi6 za3) zi7)) (fun _ _ _ _ _=>zf4 (i:=1) nd2 rfl (by trivial)) (fun _ _ _ _ _=>zE7) (fun _ _ _ _ _=>(zj4 (yH7 hu2) (jsv 1) (zb3 hu1 (jsv 0) za3 (fun _ _=>rfl)) (by with_unfolding_all rfl) fun _ _=>zb6))) za4)))))
  za7)
theorem yh7(M:Md K mg f fd)(ih:Ih P w K mg base f fd W d)(hr:zo2 d (A.deeper (envOfC "is_risen" (za5 zi3) s.heap.objs.size (f 5) cdv))):
  JSs (zs8 CX0 P w K mg base ["ground","thing","height"] "is_risen" (za5 zi3) (f 5) cdv A outer s H E).nox (zg2 prog W d) W (za9 zi3) zB6 :=
 have hu1:=zl3 hr
 have hu2:=zl2 hr
 have hgd:=hr.gd
 (za2 (zb0 (zk6 (za8 (ps:=["ground","thing"]) ih.h4 hr rfl M.m4 M.F4.kp M.b4 (za0 (jsv 0) (za0 (jsv 1) za4)) rfl) (zl1 (za8 (ps:=["order","thing"]) ih.h2 hr rfl M.m2 M.F2.kp M.b2 (za0 (za8 (ps:=["ground","thing"]) ih.h8 hr rfl M.m8 M.F8.kp M.b8 (za0 (jsv 0) (za0 (jsv 1) za4)) rfl) (za0 (jsv 2) za4)) rfl))))
  za7)
theorem zX0(M:Md K mg f fd)(ih:Ih P w K mg base f fd W d)(hr:zo2 d (A.deeper (envOfC "has_words" (za5 zg6) s.heap.objs.size (f 6) cdv))):
    JSs (zs8 CX0 P w K mg base ["ground","thing","head"] "has_words" (za5 zg6) (f 6) cdv A outer s H E).nox (zg2 prog W d) W (za9 zg6) zw0 :=
  have hu1:=zl3 hr
  have hu2:=zl2 hr
  have hgd:=hr.gd
  (za2 (zd1 (zv5 (zt3 (zu1 (zq9 (zf7 .tuple rfl M.z_isinstance zc8 rfl M.z_tuple zk8 (jsv 1)))) (zs5 (zb5 (zo1 hu2) (zb8 zm6 (fun _ _=>zd3) rfl M.z_len zj1 (za0 (jsv 1) za4)) za3 (zc0 _) fun _ _=>zb6))))
     (za2 (zb0 zs9)
     za7)
     za7)
    (za2 (zc4 (i:=2) zC6.nd rfl (by trivial) (za8 (ps:=["ground","word"]) ih.h7 hr rfl M.m7 M.F7.kp M.b7 (za0 (jsv 0) (za0 (zb3 hu1 (jsv 1) za3 (fun _ _=>rfl)) za4)) rfl))
    (za2 (zb0 (zk6 (zj4 yP5 (jsv 2) zs2 (zc0 _) fun _ _=>zb6) (zl1 (zj4 (zo1 hu2) (zb8 zm6 (fun _ _=>zd3) rfl M.z_len zj1 (za0 (jsv 1) za4)) (zc2 zk1 za3 (zb3 hu1 (jsv 2) za3 (fun _ _=>rfl)) fun _ _=>zc1) (zc0 _) fun _ _=>zb6))))
    za7)))
theorem zN8(M:Md K mg f fd)(ih:Ih P w K mg base f fd W d)(hr:zo2 d (A.deeper (envOfC "head_called" (za5 ze4) s.heap.objs.size (f 7) cdv))):
    JSs (zs8 CX0 P w K mg base ["ground","word","head"] "head_called" (za5 ze4) (f 7) cdv A outer s H E).nox (zg2 prog W d) W (za9 ze4) zs6 :=
  have hu1:=zl3 hr
  have hu2:=zl2 hr
  have hgd:=hr.gd
  (za2 (zt4 PassesOwn.never rfl (zn1 (zb3 hu1 (jsv 0) za3 (fun _ _=>rfl))) (zf4 (i:=2) zv6.nd rfl (by trivial))
     (za2 (zd1 (zb5 (zo1 hu2) (zb3 hu1 (jsv 2) za3 (fun _ _=>rfl)) (jsv 1) (zc0 _) fun _ _=>zb6)
      (za2 (zb0 (jsv 2))
      za7)
      za7)
     za7))
    (za2 (zb0 zs2)
    za7))
theorem yi2(M:Md K mg f fd)(ih:Ih P w K mg base f fd W d)(hr:zo2 d (A.deeper (envOfC "order_of" (za5 zi1) s.heap.objs.size (f 8) cdv))):
  JSs (zs8 CX0 P w K mg base ["ground","thing"] "order_of" (za5 zi1) (f 8) cdv A outer s H E).nox (zg2 prog W d) W (za9 zi1) zA0 :=
 have hu1:=zl3 hr
 have hu2:=zl2 hr
 have hgd:=hr.gd
 (za2 (zb0 (zb3 hu1 (za8 (ps:=["ground","word"]) ih.h7 hr rfl M.m7 M.F7.kp M.b7 (za0 (jsv 0) (za0 (zb3 hu1 (jsv 1) za3 (fun _ _=>rfl)) za4)) rfl) za3 (fun _ _=>rfl)))
  za7)
theorem zU9(M:Md K mg f fd)(ih:Ih P w K mg base f fd W d)(hr:zo2 d (A.deeper (envOfC "is_asking" (za5 zg5) s.heap.objs.size (f 9) cdv))):
  JSs (zs8 CX0 P w K mg base ["ground","thing"] "is_asking" (za5 zg5) (f 9) cdv A outer s H E).nox (zg2 prog W d) W (za9 zg5) zw6 :=
 have hu1:=zl3 hr
 have hu2:=zl2 hr
 have hgd:=hr.gd
 (za2 (zb0 (zk6 (za8 (ps:=["ground","thing","deep"]) ih.h10 hr rfl M.m10 M.F10.kp M.b10 (za0 (jsv 0) (za0 (jsv 1) (za0 (M.c_MOST_WITHIN rfl rfl rfl) za4))) rfl) (zl1 (zj4 yT8 (za8 (ps:=["asking"]) ih.h12 hr rfl M.m12 M.F12.kp M.b12 (za0 (jsv 1) za4) rfl) (M.c_MOST_IN_ALL rfl rfl rfl) (zc0 _) fun _ _=>zb6))))
  za7)
theorem zy6(M:Md K mg f fd)(ih:Ih P w K mg base f fd W d)(hr:zo2 d (A.deeper (envOfC "is_asking_within" (za5 zc3) s.heap.objs.size (f 10) cdv))):
    JSs (zs8 CX0 P w K mg base ["ground","thing","deep"] "is_asking_within" (za5 zc3) (f 10) cdv A outer s H E).nox (zg2 prog W d) W (za9 zc3) zk4 :=
  have hu1:=zl3 hr
  have hu2:=zl2 hr
  have hgd:=hr.gd
  (za2 (zd1 (zv5 (zt3 (zb5 (zo1 hu2) (jsv 2) za3 (zc0 _) fun _ _=>zb6) (zs5 (zu1 (zq9 (za8 (ps:=["thing","fewest","most"]) ih.h1 hr rfl M.m1 M.F1.kp M.b1 (za0 (jsv 1) (za0 za3 (za0 za3 za4))) rfl))))))
     (za2 (zb0 zs9)
     za7)
     za7)
    (za2 (zd1 (zb5 (zo1 hu2) (zb3 hu1 (jsv 1) za3 (fun _ _=>rfl)) (zb1 (cs:=[108,101,97,115,116])) (zc0 _) fun _ _=>zb6)
     (za2 (zb0 (zk6 (zj4 (zo1 hu2) (zb8 zm6 (fun _ _=>zd3) rfl M.z_len zj1 (za0 (jsv 1) za4)) za3 (zc0 _) fun _ _=>zb6) (zl1 (za8 (ps:=["ground","thing","height"]) ih.h5 hr rfl M.m5 M.F5.kp M.b5 (za0 (jsv 0) (za0 (zb3 hu1 (jsv 1) za3 (fun _ _=>rfl)) (za0 (zb3 hu1 (jsv 1) za3 (fun _ _=>rfl)) za4))) rfl))))
     za7)
     za7)
    (za2 (zd1 (zb5 (zN7 hu2) (zb3 hu1 (jsv 1) za3 (fun _ _=>rfl)) (zX9 (zb5 (zo1 hu2) (zb8 zm6 (fun _ _=>zd3) rfl M.z_len zj1 (za0 (jsv 1) za4)) za3 (zc0 _) fun _ _=>zb6) (zb9 (za0 (zb1 (cs:=[110,111,116])) za4)) (zb9 (za0 (zb1 (cs:=[98,111,116,104])) (za0 (zb1 (cs:=[101,105,116,104,101,114])) za4)))) (by with_unfolding_all rfl) fun _ _=>zb6)
     (za2 (zb0 zs9)
     za7)
     za7)
    (za2 (zb0 (zb8 (yM5 rfl) (fun _ _=>zd3) rfl M.z_all yj4 (za0 (zk9 (N:=["ground","deep","part"]) rfl (zh7 (up:=za5 zc3) (XN:=["ground","thing","deep"]) rfl rfl (by decide +kernel)) (zn1 (zg4 (jsv 1) (zi6 za3) zi7)) (fun _ _ _ _ _=>zf4 (i:=2) nd3 rfl (by trivial)) (fun _ _ _ _ _=>zE7) (fun _ _ _ _ _=>(za8 (ps:=["ground","thing","deep"]) ih.h10 hr rfl M.m10 M.F10.kp M.b10 (za0 (jsv 0) (za0 (jsv 2) (za0 (zc2 zV2 (jsv 1) za3 fun _ _=>zc1) za4))) rfl))) za4)))
    za7))))
theorem yg2(M:Md K mg f fd)(ih:Ih P w K mg base f fd W d)(hr:zo2 d (A.deeper (envOfC "parts_of" (za5 zi4) s.heap.objs.size (f 11) cdv))):
  JSs (zs8 CX0 P w K mg base ["asking"] "parts_of" (za5 zi4) (f 11) cdv A outer s H E).nox (zg2 prog W d) W (za9 zi4) zA8 :=
 have hu1:=zl3 hr
 have hu2:=zl2 hr
 have hgd:=hr.gd
 (za2 (zb0 (zX9 (zb5 (zo1 hu2) (zb3 hu1 (jsv 0) za3 (fun _ _=>rfl)) (zb1 (cs:=[108,101,97,115,116])) (zc0 _) fun _ _=>zb6) (zb9 za4) (zg4 (jsv 0) (zi6 za3) zi7)))
  za7)
theorem zO5(M:Md K mg f fd)(ih:Ih P w K mg base f fd W d)(hr:zo2 d (A.deeper (envOfC "askings_in" (za5 ze8) s.heap.objs.size (f 12) cdv))):
  JSs (zs8 CX0 P w K mg base ["asking"] "askings_in" (za5 ze8) (f 12) cdv A outer s H E).nox (zg2 prog W d) W (za9 ze8) zp8 :=
 have hu1:=zl3 hr
 have hu2:=zl2 hr
 have hgd:=hr.gd
 (za2 (zb0 (zc2 zk1 za3 (zb8 (xg8 rfl) (fun _ _=>zd3) rfl M.z_sum yE0 (za0 (zk9 (N:=["part"]) rfl (zh7 (up:=za5 ze8) (XN:=["asking"]) rfl rfl (by decide +kernel)) (zn1 (za8 (ps:=["asking"]) ih.h11 hr rfl M.m11 M.F11.kp M.b11 (za0 (jsv 0) za4) rfl)) (fun _ _ _ _ _=>zf4 (i:=0) nd4 rfl (by trivial)) (fun _ _ _ _ _=>zE7) (fun _ _ _ _ _=>(za8 (ps:=["asking"]) ih.h12 hr rfl M.m12 M.F12.kp M.b12 (za0 (jsv 0) za4) rfl))) za4)) fun _ _=>zc1))
  za7)
theorem zN0(M:Md K mg f fd)(ih:Ih P w K mg base f fd W d)(hr:zo2 d (A.deeper (envOfC "_law_cell_at" (za5 ze3) s.heap.objs.size (f 13) cdv))):
    JSs (zs8 CX0 P w K mg base ["_law_script","_law_k","_law_seed"] "_law_cell_at" (za5 ze3) (f 13) cdv A outer s H E).nox (zg2 prog W d) W (za9 ze3) zm1 :=
  have hu1:=zl3 hr
  have hu2:=zl2 hr
  have hgd:=hr.gd
  (za2 (zd1 (zb5 xu3 (jsv 1) (zb8 zm6 (fun _ _=>zd3) rfl M.z_len zj1 (za0 (jsv 0) za4)) (zc0 _) fun _ _=>zb6)
     (za2 (zb0 (zb3 hu1 (jsv 0) (jsv 1) (fun _ _=>rfl)))
     za7)
     za7)
    (za2 (zc4 (i:=2) zq5.nd rfl (by trivial) za3)
    (za2 (zd1 (zb5 yQ0 (zb8 zm6 (fun _ _=>zd3) rfl M.z_len zj1 (za0 (jsv 0) za4)) za3 (zc0 _) fun _ _=>zb6)
     (za2 (zc4 (i:=2) zq5.nd rfl (by trivial) (zb3 hu1 (jsv 0) (zc2 zI7 (jsv 1) (zb8 zm6 (fun _ _=>zd3) rfl M.z_len zj1 (za0 (jsv 0) za4)) fun _ _=>zc1) (fun _ _=>rfl)))
     za7)
     za7)
    (za2 (zb0 (zc2 zI7 (zc2 zk1 (zc2 zk1 (zc2 yi3 (zc2 zI7 (jsv 2) za3 fun _ _=>zc1) za3 fun _ _=>zc1) (zc2 yi3 (jsv 1) za3 fun _ _=>zc1) fun _ _=>zc1) za3 fun _ _=>zc1) za3 fun _ _=>zc1))
    za7))))
theorem ys4(M:Md K mg f fd)(ih:Ih P w K mg base f fd W d)(hr:zo2 d (A.deeper (envOfC "_law_box" (za5 zk0) s.heap.objs.size (f 14) cdv))):
  JSs (zs8 CX0 P w K mg base ["_law_script","_law_k","_law_cell"] "_law_box" (za5 zk0) (f 14) cdv A outer s H E).nox (zg2 prog W d) W (za9 zk0) zG5 :=
 have hu1:=zl3 hr
 have hu2:=zl2 hr
 have hgd:=hr.gd
 (za2 (zc4 (i:=2) zK8.nd rfl (by trivial) (za8 (ps:=["_law_script","_law_k"]) ih.h13 hr rfl M.m13 M.F13.kp M.b13 (za0 (jsv 0) (za0 (jsv 1) za4)) rfl))
  (za2 (zb0 (zZ9 (yr0 (za0 (zb8 (yG6 rfl) (fun _ _=>zd3) rfl M.z_max yF6 (za0 za3 (za0 (zc2 yt3 (jsv 2) (zc2 xd4 za3 za3 fun _ _=>zc1) fun _ _=>zc1) za4))) (za0 (zc2 zI7 (jsv 2) za3 fun _ _=>zc1) (za0 za3 za4))) (by decide) rfl)))
  za7))
theorem yg0(M:Md K mg f fd)(ih:Ih P w K mg base f fd W d)(hr:zo2 d (A.deeper (envOfC "_law_take" (za5 zh8) s.heap.objs.size (f 15) cdv))):
    JSs (zs8 CX0 P w K mg base ["_law_box_here","_law_many","_law_found","_law_mixed"] "_law_take" (za5 zh8) (f 15) cdv A outer s H E).nox (zg2 prog W d) W (za9 zh8) zv1 :=
  have hu1:=zl3 hr
  have hu2:=zl2 hr
  have hgd:=hr.gd
  (za2 (zd1 (zb5 yQ0 (zb3 hu1 (jsv 0) za3 (fun _ _=>rfl)) za3 (zc0 _) fun _ _=>zb6)
     (za2 (zc4 (i:=2) zw2.nd rfl (by trivial) (zc2 zI7 (zb3 hu1 (jsv 0) za3 (fun _ _=>rfl)) (jsv 1) fun _ _=>zc1))
     (za2 (zO8 hu1 (jsv 0) za3 (zc2 yt3 (zb3 hu1 (jsv 0) za3 (fun _ _=>rfl)) (jsv 1) fun _ _=>zc1))
     (za2 (zb0 (jsv 2))
     za7)))
     za7)
    (za2 (zO8 hu1 (jsv 0) za3 (zc2 zk1 (zb3 hu1 (jsv 0) za3 (fun _ _=>rfl)) za3 fun _ _=>zc1))
    (za2 (zc4 (i:=3) zw2.nd rfl (by trivial) (zc2 zI7 (zc2 zk1 (zc2 zk1 (zc2 yi3 (zb3 hu1 (jsv 0) za3 (fun _ _=>rfl)) za3 fun _ _=>zc1) (zc2 yi3 (zb3 hu1 (jsv 0) za3 (fun _ _=>rfl)) za3 fun _ _=>zc1) fun _ _=>zc1) za3 fun _ _=>zc1) za3 fun _ _=>zc1))
    (za2 (zb0 (zc2 zI7 (zc2 yt3 (zc2 zI7 (zc2 zk1 (zc2 yi3 (jsv 3) za3 fun _ _=>zc1) (zb3 hu1 (jsv 0) za3 (fun _ _=>rfl)) fun _ _=>zc1) za3 fun _ _=>zc1) za3 fun _ _=>zc1) (jsv 1) fun _ _=>zc1))
    za7))))
theorem yf6(M:Md K mg f fd)(ih:Ih P w K mg base f fd W d)(hr:zo2 d (A.deeper (envOfC "_law_some" (za5 zh2) s.heap.objs.size (f 16) cdv))):
  JSs (zs8 CX0 P w K mg base ["_law_box_here","_law_many","_law_pool","_law_turn","_law_step"] "_law_some" (za5 zh2) (f 16) cdv A outer s H E).nox (zg2 prog W d) W (za9 zh2) zB7 :=
 have hu1:=zl3 hr
 have hu2:=zl2 hr
 have hgd:=hr.gd
 (za2 (zc4 (i:=2) zs0.nd rfl (by trivial) (zj0 (za0 (zb1 (cs:=[97])) (za0 (zb1 (cs:=[98])) (za0 (zb1 (cs:=[97,98])) (za0 (zb1 (cs:=[110,117,109])) (za0 (zb1 (cs:=[112,117,116])) (za0 (zb1 (cs:=[122,122,122,122,122,122,122,122])) (za0 (zb1 (cs:=[99])) za4)))))))))
  (za2 (zc4 (i:=3) zs0.nd rfl (by trivial) (za8 (ps:=["_law_box_here","_law_many"]) ih.h15 hr rfl M.m15 M.F15.kp M.b15 (za0 (jsv 0) (za0 za3 za4)) rfl))
  (za2 (zc4 (i:=4) zs0.nd rfl (by trivial) (zc2 zk1 za3 (za8 (ps:=["_law_box_here","_law_many"]) ih.h15 hr rfl M.m15 M.F15.kp M.b15 (za0 (jsv 0) (za0 za3 za4)) rfl) fun _ _=>zc1))
  (za2 (zb0 (zi0 zw8 (fun _ _=>zd3) rfl M.z_tuple zk8 (za0 (zk9 (N:=["_law_pool","_law_turn","_law_step","_law_k"]) rfl (zh7 (up:=za5 zh2) (XN:=["_law_box_here","_law_many","_law_pool","_law_turn","_law_step"]) rfl rfl (by decide +kernel)) (zm4 rfl M.z_range (jsv 1)) (fun _ _ _ _ _=>zf4 (i:=3) nd5 rfl (by trivial)) (fun _ _ _ _ _=>zE7) (fun _ _ _ _ _=>(zb3 hu1 (jsv 0) (zc2 zI7 (zc2 zk1 (jsv 1) (zc2 yi3 (jsv 2) (jsv 3) fun _ _=>zc1) fun _ _=>zc1) za3 fun _ _=>zc1) (fun _ _=>rfl)))) za4)))
  za7))))
theorem yp0(M:Md K mg f fd)(ih:Ih P w K mg base f fd W d)(hr:zo2 d (A.deeper (envOfC "_law_web" (za5 zj9) s.heap.objs.size (f 17) cdv))):
    JSs (zs8 CX0 P w K mg base ["_law_box_here","_law_names","_law_one","_law_two","_law_three","_law_four","_law_pairs"] "_law_web" (za5 zj9) (f 17) cdv A outer s H E).nox (zg2 prog W d) W (za9 zj9) zp3 :=
  have hu1:=zl3 hr
  have hu2:=zl2 hr
  have hgd:=hr.gd
  (za2 (zc4 (i:=1) zk3.nd rfl (by trivial) (za8 (ps:=["_law_box_here","_law_many"]) ih.h16 hr rfl M.m16 M.F16.kp M.b16 (za0 (jsv 0) (za0 (zc2 zk1 za3 (za8 (ps:=["_law_box_here","_law_many"]) ih.h15 hr rfl M.m15 M.F15.kp M.b15 (za0 (jsv 0) (za0 za3 za4)) rfl) fun _ _=>zc1) za4)) rfl))
    (za2 (ys7 rfl (zr8 (i:=2) zk3.nd rfl (by trivial) (zr8 (i:=3) zk3.nd rfl (by trivial) (zr8 (i:=4) zk3.nd rfl (by trivial) (zr8 (i:=5) zk3.nd rfl (by trivial) yd3)))) (zg4 (jsv 1) zi7 (zi6 za3)))
    (za2 (zc4 (i:=6) zk3.nd rfl (by trivial) (zb9 (za0 (zb9 (za0 (jsv 2) (za0 (jsv 3) za4))) (za0 (zb9 (za0 (jsv 2) (za0 (jsv 4) za4))) (za0 (zb9 (za0 (jsv 3) (za0 (jsv 5) za4))) (za0 (zb9 (za0 (jsv 4) (za0 (jsv 5) za4))) za4))))))
    (za2 (zd1 (zb5 (zo1 hu2) (za8 (ps:=["_law_box_here","_law_many"]) ih.h15 hr rfl M.m15 M.F15.kp M.b15 (za0 (jsv 0) (za0 za3 za4)) rfl) za3 (zc0 _) fun _ _=>zb6)
     (za2 (zc4 (i:=6) zk3.nd rfl (by trivial) (zb9 (za0 (zb9 (za0 (jsv 3) (za0 (jsv 5) za4))) (za0 (zb9 (za0 (jsv 2) (za0 (jsv 3) za4))) (za0 (zb9 (za0 (jsv 4) (za0 (jsv 5) za4))) (za0 (zb9 (za0 (jsv 2) (za0 (jsv 4) za4))) za4))))))
     za7)
     za7)
    (za2 (zd1 (zb5 (zo1 hu2) (zb8 zm6 (fun _ _=>zd3) rfl M.z_len zj1 (za0 (jsv 1) za4)) za3 (zc0 _) fun _ _=>zb6)
     (za2 (zc4 (i:=6) zk3.nd rfl (by trivial) (zc2 zk1 (jsv 6) (zb9 (za0 (zb3 hu1 (zj0 (za0 (zb9 (za0 (jsv 5) (za0 (zb3 hu1 (jsv 1) za3 (fun _ _=>rfl)) za4))) (za0 (zb9 (za0 (zb3 hu1 (jsv 1) za3 (fun _ _=>rfl)) (za0 (jsv 2) za4))) za4))) (za8 (ps:=["_law_box_here","_law_many"]) ih.h15 hr rfl M.m15 M.F15.kp M.b15 (za0 (jsv 0) (za0 za3 za4)) rfl) (fun _ _=>rfl)) za4)) fun _ _=>zc1))
     za7)
     za7)
    (za2 (zd1 (zb5 (zo1 hu2) (za8 (ps:=["_law_box_here","_law_many"]) ih.h15 hr rfl M.m15 M.F15.kp M.b15 (za0 (jsv 0) (za0 za3 za4)) rfl) za3 (zc0 _) fun _ _=>zb6)
     (za2 (zc4 (i:=1) zk3.nd rfl (by trivial) (zJ4 rfl rfl M.z_tuple rfl M.z_reversed (za0 (jsv 1) za4)))
     za7)
     za7)
    (za2 (zb0 (zb9 (za0 (zb1 (cs:=[119,101,98])) (za0 (jsv 1) (za0 (jsv 6) za4)))))
    za7)))))))
theorem zU6(M:Md K mg f fd)(ih:Ih P w K mg base f fd W d)(hr:zo2 d (A.deeper (envOfC "_law_order" (za5 zg1) s.heap.objs.size (f 18) cdv))):
    JSs (zs8 CX0 P w K mg base ["_law_box_here","_law_deep","_law_way"] "_law_order" (za5 zg1) (f 18) cdv A outer s H E).nox (zg2 prog W d) W (za9 zg1) zs1 :=
  have hu1:=zl3 hr
  have hu2:=zl2 hr
  have hgd:=hr.gd
  (za2 (zc4 (i:=2) zC0.nd rfl (by trivial) (za8 (ps:=["_law_box_here","_law_many"]) ih.h15 hr rfl M.m15 M.F15.kp M.b15 (za0 (jsv 0) (za0 (zb3 hu1 (zj0 (za0 za3 (za0 za3 za4))) (zi0 xg2 (fun _ _=>zd3) rfl M.z_int zS6 (za0 (zj4 yQ0 (jsv 1) za3 (zc0 _) fun _ _=>zb6) za4)) (fun _ _=>rfl)) za4)) rfl))
    (za2 (zd1 (zb5 xu3 (jsv 2) za3 (zc0 _) fun _ _=>zb6)
     (za2 (zb0 (zb3 hu1 (zj0 (za0 (zb9 (za0 (zb1 (cs:=[110,117,109])) za4)) (za0 (zb9 (za0 (zb1 (cs:=[108,111,119])) za4)) za4))) (jsv 2) (fun _ _=>rfl)))
     za7)
     za7)
    (za2 (zd1 (zb5 (zo1 hu2) (jsv 2) za3 (zc0 _) fun _ _=>zb6)
     (za2 (zb0 (zb9 (za0 (zb1 (cs:=[99,104,97,105,110])) (za0 (za8 (ps:=["_law_box_here","_law_many"]) ih.h16 hr rfl M.m16 M.F16.kp M.b16 (za0 (jsv 0) (za0 (zc2 zk1 za3 (za8 (ps:=["_law_box_here","_law_many"]) ih.h15 hr rfl M.m15 M.F15.kp M.b15 (za0 (jsv 0) (za0 za3 za4)) rfl) fun _ _=>zc1) za4)) rfl) za4))))
     za7)
     za7)
    (za2 (zd1 (zb5 (zo1 hu2) (jsv 2) za3 (zc0 _) fun _ _=>zb6)
     (za2 (zb0 (zb9 (za0 (zb1 (cs:=[115,101,116])) (za0 (za8 (ps:=["_law_box_here","_law_many"]) ih.h16 hr rfl M.m16 M.F16.kp M.b16 (za0 (jsv 0) (za0 (zc2 zk1 za3 (za8 (ps:=["_law_box_here","_law_many"]) ih.h15 hr rfl M.m15 M.F15.kp M.b15 (za0 (jsv 0) (za0 za3 za4)) rfl) fun _ _=>zc1) za4)) rfl) za4))))
     za7)
     za7)
    (za2 (zd1 (zb5 (zo1 hu2) (jsv 2) za3 (zc0 _) fun _ _=>zb6)
     (za2 (zb0 (za8 (ps:=["_law_box_here"]) ih.h17 hr rfl M.m17 M.F17.kp M.b17 (za0 (jsv 0) za4) rfl))
     za7)
     za7)
    (za2 (zd1 (zb5 (zo1 hu2) (jsv 2) za3 (zc0 _) fun _ _=>zb6)
     (za2 (zb0 (zb9 (za0 (zb1 (cs:=[114,111,119])) (za0 (zi0 zw8 (fun _ _=>zd3) rfl M.z_tuple zk8 (za0 (zk9 (N:=["_law_box_here","_law_deep","_law_k"]) rfl (zh7 (up:=za5 zg1) (XN:=["_law_box_here","_law_deep","_law_way"]) rfl rfl (by decide +kernel)) (zm4 rfl M.z_range (zc2 zk1 za3 (za8 (ps:=["_law_box_here","_law_many"]) ih.h15 hr rfl M.m15 M.F15.kp M.b15 (za0 (jsv 0) (za0 za3 za4)) rfl) fun _ _=>zc1)) (fun _ _ _ _ _=>zf4 (i:=2) nd6 rfl (by trivial)) (fun _ _ _ _ _=>zE7) (fun _ _ _ _ _=>(za8 (ps:=["_law_box_here","_law_deep"]) ih.h18 hr rfl M.m18 M.F18.kp M.b18 (za0 (jsv 0) (za0 (zc2 zV2 (jsv 1) za3 fun _ _=>zc1) za4)) rfl))) za4)) za4))))
     za7)
     za7)
    (za2 (zb0 (zb9 (za0 (zb1 (cs:=[110,101,119,101,114])) (za0 (za8 (ps:=["_law_box_here","_law_deep"]) ih.h18 hr rfl M.m18 M.F18.kp M.b18 (za0 (jsv 0) (za0 (zc2 zV2 (jsv 1) za3 fun _ _=>zc1) za4)) rfl) za4))))
    za7)))))))
theorem zQ1(M:Md K mg f fd)(ih:Ih P w K mg base f fd W d)(hr:zo2 d (A.deeper (envOfC "_law_height" (za5 ze1) s.heap.objs.size (f 19) cdv))):
    JSs (zs8 CX0 P w K mg base ["_law_box_here","_law_order_here","_law_few"] "_law_height" (za5 ze1) (f 19) cdv A outer s H E).nox (zg2 prog W d) W (za9 ze1) zi5 :=
  have hu1:=zl3 hr
  have hu2:=zl2 hr
  have hgd:=hr.gd
  (za2 (zd1 (zb5 (zo1 hu2) (zb3 hu1 (jsv 1) za3 (fun _ _=>rfl)) (zb1 (cs:=[110,117,109])) (zc0 _) fun _ _=>zb6)
     (za2 (zb0 (zb3 hu1 (zj0 (za0 za3 (za0 za3 (za0 za3 (za0 za3 (za0 (zc2 xd4 za3 za3 fun _ _=>zc1) (za0 (za8 (ps:=["_law_box_here","_law_many"]) ih.h15 hr rfl M.m15 M.F15.kp M.b15 (za0 (jsv 0) (za0 za3 za4)) rfl) (za0 (za8 (ps:=["_law_box_here","_law_many"]) ih.h15 hr rfl M.m15 M.F15.kp M.b15 (za0 (jsv 0) (za0 za3 za4)) rfl) za4)))))))) (za8 (ps:=["_law_box_here","_law_many"]) ih.h15 hr rfl M.m15 M.F15.kp M.b15 (za0 (jsv 0) (za0 za3 za4)) rfl) (fun _ _=>rfl)))
     za7)
     za7)
    (za2 (zd1 (zb5 (zo1 hu2) (zb3 hu1 (jsv 1) za3 (fun _ _=>rfl)) (zb1 (cs:=[108,111,119])) (zc0 _) fun _ _=>zb6)
     (za2 (zb0 (zb3 hu1 (zj0 (za0 zs2 (za0 za3 (za0 za3 (za0 za3 (za0 (za8 (ps:=["_law_box_here","_law_many"]) ih.h15 hr rfl M.m15 M.F15.kp M.b15 (za0 (jsv 0) (za0 za3 za4)) rfl) (za0 (za8 (ps:=["_law_box_here","_law_many"]) ih.h15 hr rfl M.m15 M.F15.kp M.b15 (za0 (jsv 0) (za0 za3 za4)) rfl) za4))))))) (za8 (ps:=["_law_box_here","_law_many"]) ih.h15 hr rfl M.m15 M.F15.kp M.b15 (za0 (jsv 0) (za0 za3 za4)) rfl) (fun _ _=>rfl)))
     za7)
     za7)
    (za2 (zd1 (zb5 (zo1 hu2) (zb3 hu1 (jsv 1) za3 (fun _ _=>rfl)) (zb1 (cs:=[115,101,116])) (zc0 _) fun _ _=>zb6)
     (za2 (zc4 (i:=2) zy0.nd rfl (by trivial) (za8 (ps:=["_law_box_here","_law_many"]) ih.h15 hr rfl M.m15 M.F15.kp M.b15 (za0 (jsv 0) (za0 (zc2 xp1 za3 (zb8 zm6 (fun _ _=>zd3) rfl M.z_len zj1 (za0 (zb3 hu1 (jsv 1) za3 (fun _ _=>rfl)) za4)) fun _ _=>zc1) za4)) rfl))
     (za2 (zb0 (zi0 zw8 (fun _ _=>zd3) rfl M.z_tuple zk8 (za0 (zk9 (N:=["_law_order_here","_law_few","_law_k"]) rfl (zh7 (up:=za5 ze1) (XN:=["_law_box_here","_law_order_here","_law_few"]) rfl rfl (by decide +kernel)) (zm4 rfl M.z_range (zb8 zm6 (fun _ _=>zd3) rfl M.z_len zj1 (za0 (zb3 hu1 (jsv 1) za3 (fun _ _=>rfl)) za4))) (fun _ _ _ _ _=>zf4 (i:=2) nd8 rfl (by trivial)) (fun _ _ _ _ _=>(yD0 (zb5 (zo1 hu2) (zc2 xg0 (zc2 xt7 (jsv 1) (jsv 2) fun _ _=>zc1) za3 fun _ _=>zc1) za3 (zc0 _) fun _ _=>zb6))) (fun _ _ _ _ _=>(zb3 hu1 (zb3 hu1 (jsv 0) za3 (fun _ _=>rfl)) (jsv 2) (fun _ _=>rfl)))) za4)))
     za7))
     za7)
    (za2 (zd1 (zb5 (zo1 hu2) (zb3 hu1 (jsv 1) za3 (fun _ _=>rfl)) (zb1 (cs:=[114,111,119])) (zc0 _) fun _ _=>zb6)
     (za2 (zb0 (zi0 zw8 (fun _ _=>zd3) rfl M.z_tuple zk8 (za0 (zk9 (N:=["_law_box_here","_law_one"]) rfl (zh7 (up:=za5 ze1) (XN:=["_law_box_here","_law_order_here","_law_few"]) rfl rfl (by decide +kernel)) (zn1 (zb3 hu1 (jsv 1) za3 (fun _ _=>rfl))) (fun _ _ _ _ _=>zf4 (i:=1) nd7 rfl (by trivial)) (fun _ _ _ _ _=>zE7) (fun _ _ _ _ _=>(za8 (ps:=["_law_box_here","_law_order_here"]) ih.h19 hr rfl M.m19 M.F19.kp M.b19 (za0 (jsv 0) (za0 (jsv 1) za4)) rfl))) za4)))
     za7)
     za7)
    (za2 (zd1 (zb5 (zo1 hu2) (zb3 hu1 (jsv 1) za3 (fun _ _=>rfl)) (zb1 (cs:=[110,101,119,101,114])) (zc0 _) fun _ _=>zb6)
     (za2 (zb0 (zb9 (za0 (za8 (ps:=["_law_box_here","_law_many"]) ih.h15 hr rfl M.m15 M.F15.kp M.b15 (za0 (jsv 0) (za0 za3 za4)) rfl) (za0 (za8 (ps:=["_law_box_here","_law_order_here"]) ih.h19 hr rfl M.m19 M.F19.kp M.b19 (za0 (jsv 0) (za0 (zb3 hu1 (jsv 1) za3 (fun _ _=>rfl)) za4)) rfl) za4))))
     za7)
     za7)
    (za2 (zb0 (zb3 hu1 (zb3 hu1 (jsv 1) za3 (fun _ _=>rfl)) (za8 (ps:=["_law_box_here","_law_many"]) ih.h15 hr rfl M.m15 M.F15.kp M.b15 (za0 (jsv 0) (za0 (zb8 zm6 (fun _ _=>zd3) rfl M.z_len zj1 (za0 (zb3 hu1 (jsv 1) za3 (fun _ _=>rfl)) za4)) za4)) rfl) (fun _ _=>rfl)))
    za7))))))
theorem zR5(M:Md K mg f fd)(ih:Ih P w K mg base f fd W d)(hr:zo2 d (A.deeper (envOfC "_law_ground" (za5 zf2) s.heap.objs.size (f 20) cdv))):
    JSs (zs8 CX0 P w K mg base ["_law_box_here","_law_names","_law_called","_law_heads","_law_order_here","_law_k"] "_law_ground" (za5 zf2) (f 20) cdv A outer s H E).nox (zg2 prog W d) W (za9 zf2) zu4 :=
  have hu1:=zl3 hr
  have hu2:=zl2 hr
  have hgd:=hr.gd
  (za2 (zc4 (i:=1) zj5.nd rfl (by trivial) (za8 (ps:=["_law_box_here","_law_many"]) ih.h16 hr rfl M.m16 M.F16.kp M.b16 (za0 (jsv 0) (za0 (zc2 zk1 za3 (za8 (ps:=["_law_box_here","_law_many"]) ih.h15 hr rfl M.m15 M.F15.kp M.b15 (za0 (jsv 0) (za0 za3 za4)) rfl) fun _ _=>zc1) za4)) rfl))
    (za2 (zc4 (i:=2) zj5.nd rfl (by trivial) (za8 (ps:=["_law_box_here","_law_many"]) ih.h16 hr rfl M.m16 M.F16.kp M.b16 (za0 (jsv 0) (za0 za3 za4)) rfl))
    (za2 (zc4 (i:=3) zj5.nd rfl (by trivial) (zZ9 (yr0 za4 (by decide) rfl)))
    (za2 (zc4 (i:=4) zj5.nd rfl (by trivial) (za8 (ps:=["_law_box_here","_law_deep"]) ih.h18 hr rfl M.m18 M.F18.kp M.b18 (za0 (jsv 0) (za0 za3 za4)) rfl))
    (za2 (zt4 PassesOwn.never rfl (zm4 rfl M.z_range (zc2 zk1 za3 (za8 (ps:=["_law_box_here","_law_many"]) ih.h15 hr rfl M.m15 M.F15.kp M.b15 (za0 (jsv 0) (za0 za3 za4)) rfl) fun _ _=>zc1)) (zf4 (i:=5) zj5.nd rfl (by trivial))
     (za2 (zd1 (zb5 (zo1 hu2) (za8 (ps:=["_law_box_here","_law_many"]) ih.h15 hr rfl M.m15 M.F15.kp M.b15 (za0 (jsv 0) (za0 za3 za4)) rfl) za3 (zc0 _) fun _ _=>zb6)
      (za2 (zc4 (i:=4) zj5.nd rfl (by trivial) (za8 (ps:=["_law_box_here","_law_deep"]) ih.h18 hr rfl M.m18 M.F18.kp M.b18 (za0 (jsv 0) (za0 za3 za4)) rfl))
      za7)
      za7)
     (za2 (yA4 (yM0 PySem.F.slot_list_append PySem.F.type_list_append yz0 (jsv 3) (za0 (zb9 (za0 (zb3 hu1 (jsv 2) (jsv 5) (fun _ _=>rfl)) (za0 (zb3 hu1 (zj0 (za0 za3 (za0 za3 (za0 za3 (za0 za3 za4))))) (za8 (ps:=["_law_box_here","_law_many"]) ih.h15 hr rfl M.m15 M.F15.kp M.b15 (za0 (jsv 0) (za0 za3 za4)) rfl) (fun _ _=>rfl)) (za0 (jsv 4) za4)))) za4) yz2))
     za7)))
    (za2 (zb0 (zb9 (za0 (jsv 1) (za0 (zi0 zw8 (fun _ _=>zd3) rfl M.z_tuple zk8 (za0 (jsv 3) za4)) za4))))
    za7))))))
theorem zT7(M:Md K mg f fd)(ih:Ih P w K mg base f fd W d)(hr:zo2 d (A.deeper (envOfC "_law_things" (za5 ze7) s.heap.objs.size (f 21) cdv))):
    JSs (zs8 CX0 P w K mg base ["_law_ground_here","_law_found","_law_head","_law_some_here","_law_turn","_law_wider","_law_one"] "_law_things" (za5 ze7) (f 21) cdv A outer s H E).nox (zg2 prog W d) W (za9 ze7) zu6 :=
  have hu1:=zl3 hr
  have hu2:=zl2 hr
  have hgd:=hr.gd
  (za2 (zc4 (i:=1) zg3.nd rfl (by trivial) (zj0 za4))
    (za2 (zt4 PassesOwn.never rfl (zn1 (zb3 hu1 (jsv 0) za3 (fun _ _=>rfl))) (zf4 (i:=2) zg3.nd rfl (by trivial))
     (za2 (zc4 (i:=3) zg3.nd rfl (by trivial) (zj0 (za0 (zg4 (jsv 2) zi7 (zi6 za3)) za4)))
     (za2 (zt4 PassesOwn.never rfl (zm4 rfl M.z_range (zb3 hu1 (jsv 2) za3 (fun _ _=>rfl))) (zf4 (i:=4) zg3.nd rfl (by trivial))
      (za2 (zc4 (i:=5) zg3.nd rfl (by trivial) (zj0 za4))
      (za2 (zt4 PassesOwn.never rfl (zn1 (jsv 3)) (zf4 (i:=6) zg3.nd rfl (by trivial))
       (za2 (zc4 (i:=5) zg3.nd rfl (by trivial) (zc2 zk1 (jsv 5) (zk9 (N:=["_law_one","_law_name"]) rfl (zh7 (up:=za5 ze7) (XN:=["_law_ground_here","_law_found","_law_head","_law_some_here","_law_turn","_law_wider","_law_one"]) rfl rfl (by decide +kernel)) (zn1 (zb3 hu1 (jsv 0) za3 (fun _ _=>rfl))) (fun _ _ _ _ _=>zf4 (i:=1) nd9 rfl (by trivial)) (fun _ _ _ _ _=>zE7) (fun _ _ _ _ _=>(zc2 zk1 (jsv 0) (zb9 (za0 (jsv 1) za4)) fun _ _=>zc1))) fun _ _=>zc1))
       za7))
      (za2 (zc4 (i:=3) zg3.nd rfl (by trivial) (jsv 5))
      za7))))
     (za2 (zc4 (i:=1) zg3.nd rfl (by trivial) (zc2 zk1 (jsv 1) (jsv 3) fun _ _=>zc1))
     za7))))
    (za2 (zb0 (zb8 yz4 (fun _ _=>zd3) rfl M.z_sorted yu0 (za0 (jsv 1) za4)))
    za7)))
theorem zI8(M:Md K mg f fd)(ih:Ih P w K mg base f fd W d)(hr:zo2 d (A.deeper (envOfC "_law_order_of" (za5 zd4) s.heap.objs.size (f 22) cdv))):
  JSs (zs8 CX0 P w K mg base ["_law_ground_here","_law_thing"] "_law_order_of" (za5 zd4) (f 22) cdv A outer s H E).nox (zg2 prog W d) W (za9 zd4) zq6 :=
 have hu1:=zl3 hr
 have hu2:=zl2 hr
 have hgd:=hr.gd
 (za2 (zb0 (zb3 hu1 (zk9 (N:=["_law_thing","_law_head"]) rfl (zh7 (up:=za5 zd4) (XN:=["_law_ground_here","_law_thing"]) rfl rfl (by decide +kernel)) (zn1 (zb3 hu1 (jsv 0) za3 (fun _ _=>rfl))) (fun _ _ _ _ _=>zf4 (i:=1) nd10 rfl (by trivial)) (fun _ _ _ _ _=>(yD0 (zb5 (zo1 hu2) (zb3 hu1 (jsv 1) za3 (fun _ _=>rfl)) (zb3 hu1 (jsv 0) za3 (fun _ _=>rfl)) (zc0 _) fun _ _=>zb6))) (fun _ _ _ _ _=>(zb3 hu1 (jsv 1) za3 (fun _ _=>rfl)))) za3 (fun _ _=>rfl)))
  za7)
theorem zS5(M:Md K mg f fd)(ih:Ih P w K mg base f fd W d)(hr:zo2 d (A.deeper (envOfC "_law_asking" (za5 zf3) s.heap.objs.size (f 23) cdv))):
    JSs (zs8 CX0 P w K mg base ["_law_box_here","_law_ground_here","_law_deep","_law_way","_law_things_here","_law_thing","_law_word"] "_law_asking" (za5 zf3) (f 23) cdv A outer s H E).nox (zg2 prog W d) W (za9 zf3) zq1 :=
  have hu1:=zl3 hr
  have hu2:=zl2 hr
  have hgd:=hr.gd
  (za2 (zc4 (i:=3) zm0.nd rfl (by trivial) (za8 (ps:=["_law_box_here","_law_many"]) ih.h15 hr rfl M.m15 M.F15.kp M.b15 (za0 (jsv 0) (za0 za3 za4)) rfl))
    (za2 (zd1 (zv5 (zt3 (zb5 (zo1 hu2) (jsv 2) za3 (zc0 _) fun _ _=>zb6) (zs5 (zb5 xu3 (jsv 3) za3 (zc0 _) fun _ _=>zb6))))
     (za2 (zc4 (i:=4) zm0.nd rfl (by trivial) (za8 (ps:=["_law_ground_here"]) ih.h21 hr rfl M.m21 M.F21.kp M.b21 (za0 (jsv 1) za4) rfl))
     (za2 (zc4 (i:=5) zm0.nd rfl (by trivial) (zb3 hu1 (jsv 4) (za8 (ps:=["_law_box_here","_law_many"]) ih.h15 hr rfl M.m15 M.F15.kp M.b15 (za0 (jsv 0) (za0 (zb8 zm6 (fun _ _=>zd3) rfl M.z_len zj1 (za0 (jsv 4) za4)) za4)) rfl) (fun _ _=>rfl)))
     (za2 (zb0 (zb9 (za0 (zb1 (cs:=[108,101,97,115,116])) (za0 (jsv 5) (za0 (za8 (ps:=["_law_box_here","_law_order_here"]) ih.h19 hr rfl M.m19 M.F19.kp M.b19 (za0 (jsv 0) (za0 (za8 (ps:=["_law_ground_here","_law_thing"]) ih.h22 hr rfl M.m22 M.F22.kp M.b22 (za0 (jsv 1) (za0 (jsv 5) za4)) rfl) za4)) rfl) za4)))))
     za7)))
     za7)
    (za2 (zd1 (zb5 (zo1 hu2) (jsv 3) za3 (zc0 _) fun _ _=>zb6)
     (za2 (zb0 (zb9 (za0 (zb1 (cs:=[110,111,116])) (za0 (za8 (ps:=["_law_box_here","_law_ground_here","_law_deep"]) ih.h23 hr rfl M.m23 M.F23.kp M.b23 (za0 (jsv 0) (za0 (jsv 1) (za0 (zc2 zV2 (jsv 2) za3 fun _ _=>zc1) za4))) rfl) za4))))
     za7)
     za7)
    (za2 (zc4 (i:=6) zm0.nd rfl (by trivial) (zb3 hu1 (zj0 (za0 (zb1 (cs:=[98,111,116,104])) (za0 (zb1 (cs:=[101,105,116,104,101,114])) za4))) (zc2 zI7 (jsv 3) za3 fun _ _=>zc1) (fun _ _=>rfl)))
    (za2 (zb0 (zb9 (za0 (jsv 6) (za0 (za8 (ps:=["_law_box_here","_law_ground_here","_law_deep"]) ih.h23 hr rfl M.m23 M.F23.kp M.b23 (za0 (jsv 0) (za0 (jsv 1) (za0 (zc2 zV2 (jsv 2) za3 fun _ _=>zc1) za4))) rfl) (za0 (za8 (ps:=["_law_box_here","_law_ground_here","_law_deep"]) ih.h23 hr rfl M.m23 M.F23.kp M.b23 (za0 (jsv 0) (za0 (jsv 1) (za0 (zc2 zV2 (jsv 2) za3 fun _ _=>zc1) za4))) rfl) za4)))))
    za7)))))
theorem zH2(M:Md K mg f fd)(ih:Ih P w K mg base f fd W d)(hr:zo2 d (A.deeper (envOfC "_law_is_height" (za5 zc6) s.heap.objs.size (f 24) cdv))):
    JSs (zs8 CX0 P w K mg base ["_law_order_here","_law_thing","_law_sort","_law_whole"] "_law_is_height" (za5 zc6) (f 24) cdv A outer s H E).nox (zg2 prog W d) W (za9 zc6) zd8 :=
  have hu1:=zl3 hr
  have hu2:=zl2 hr
  have hgd:=hr.gd
  (za2 (zc4 (i:=2) zn9.nd rfl (by trivial) (zb3 hu1 (jsv 0) za3 (fun _ _=>rfl)))
    (za2 (zc4 (i:=3) zn9.nd rfl (by trivial) (zk6 (zf7 .int rfl M.z_isinstance zc8 rfl M.z_int zS6 (jsv 1)) (zk6 (yq3 (zf7 .bool rfl M.z_isinstance zc8 rfl M.z_bool zW1 (jsv 1))) (zl1 (zj4 o_ge (jsv 1) za3 (zc0 _) fun _ _=>zb6)))))
    (za2 (zd1 (zv5 (zt3 (zb5 (zo1 hu2) (jsv 2) (zb1 (cs:=[110,117,109])) (zc0 _) fun _ _=>zb6) (zs5 (zb5 (zo1 hu2) (jsv 2) (zb1 (cs:=[108,111,119])) (zc0 _) fun _ _=>zb6))))
     (za2 (zb0 (yG3 (jsv 3) (zl1 (zk6 (zj4 (zo1 hu2) (jsv 2) (zb1 (cs:=[108,111,119])) (zc0 _) fun _ _=>zb6) (zl1 (zj4 xi9 (jsv 1) zs2 (zc0 _) fun _ _=>zb6))))))
     za7)
     za7)
    (za2 (zd1 (zv5 (zt3 (zb5 (zo1 hu2) (jsv 2) (zb1 (cs:=[99,104,97,105,110])) (zc0 _) fun _ _=>zb6) (zs5 (zb5 (zo1 hu2) (jsv 2) (zb1 (cs:=[119,101,98])) (zc0 _) fun _ _=>zb6))))
     (za2 (zb0 (zk6 (zf7 .str rfl M.z_isinstance zc8 rfl M.z_str ye6 (jsv 1)) (zl1 (zj4 (yH7 hu2) (jsv 1) (zb3 hu1 (jsv 0) za3 (fun _ _=>rfl)) (by with_unfolding_all rfl) fun _ _=>zb6))))
     za7)
     za7)
    (za2 (zd1 (zu1 (zq9 (zf7 .tuple rfl M.z_isinstance zc8 rfl M.z_tuple zk8 (jsv 1))))
     (za2 (zb0 zs9)
     za7)
     za7)
    (za2 (zd1 (zb5 (zo1 hu2) (jsv 2) (zb1 (cs:=[115,101,116])) (zc0 _) fun _ _=>zb6)
     (za2 (zb0 (zj4 (zo1 hu2) (jsv 1) (zi0 zw8 (fun _ _=>zd3) rfl M.z_tuple zk8 (za0 (zk9 (N:=["_law_thing","_law_name"]) rfl (zh7 (up:=za5 zc6) (XN:=["_law_order_here","_law_thing","_law_sort","_law_whole"]) rfl rfl (by decide +kernel)) (zn1 (zb3 hu1 (jsv 0) za3 (fun _ _=>rfl))) (fun _ _ _ _ _=>zf4 (i:=1) nd12 rfl (by trivial)) (fun _ _ _ _ _=>(yD0 (zb5 (yH7 hu2) (jsv 1) (jsv 0) (by with_unfolding_all rfl) fun _ _=>zb6))) (fun _ _ _ _ _=>(jsv 1))) za4)) (zc0 _) fun _ _=>zb6))
     za7)
     za7)
    (za2 (zd1 (zb5 (zo1 hu2) (jsv 2) (zb1 (cs:=[114,111,119])) (zc0 _) fun _ _=>zb6)
     (za2 (zd1 (zb5 (xk1 hu2) (zb8 zm6 (fun _ _=>zd3) rfl M.z_len zj1 (za0 (jsv 1) za4)) (zb8 zm6 (fun _ _=>zd3) rfl M.z_len zj1 (za0 (zb3 hu1 (jsv 0) za3 (fun _ _=>rfl)) za4)) (zc0 _) fun _ _=>zb6)
      (za2 (zb0 zs9)
      za7)
      za7)
     (za2 (zb0 (zj4 (zN7 hu2) zs9 (zk9 (N:=["_law_order_here","_law_thing","_law_k"]) rfl (zh7 (up:=za5 zc6) (XN:=["_law_order_here","_law_thing","_law_sort","_law_whole"]) rfl rfl (by decide +kernel)) (zm4 rfl M.z_range (zb8 zm6 (fun _ _=>zd3) rfl M.z_len zj1 (za0 (jsv 1) za4))) (fun _ _ _ _ _=>zf4 (i:=2) nd11 rfl (by trivial)) (fun _ _ _ _ _=>zE7) (fun _ _ _ _ _=>(za8 (ps:=["_law_order_here","_law_thing"]) ih.h24 hr rfl M.m24 M.F24.kp M.b24 (za0 (zb3 hu1 (zb3 hu1 (jsv 0) za3 (fun _ _=>rfl)) (jsv 2) (fun _ _=>rfl)) (za0 (zb3 hu1 (jsv 1) (jsv 2) (fun _ _=>rfl)) za4)) rfl))) (by with_unfolding_all rfl) fun _ _=>zb6))
     za7))
     za7)
    (za2 (zb0 (zk6 (zj4 (zo1 hu2) (zb8 zm6 (fun _ _=>zd3) rfl M.z_len zj1 (za0 (jsv 1) za4)) za3 (zc0 _) fun _ _=>zb6) (zk6 (za8 (ps:=["_law_order_here","_law_thing"]) ih.h24 hr rfl M.m24 M.F24.kp M.b24 (za0 (zb9 (za0 (zb1 (cs:=[110,117,109])) za4)) (za0 (zb3 hu1 (jsv 1) za3 (fun _ _=>rfl)) za4)) rfl) (zl1 (za8 (ps:=["_law_order_here","_law_thing"]) ih.h24 hr rfl M.m24 M.F24.kp M.b24 (za0 (zb3 hu1 (jsv 0) za3 (fun _ _=>rfl)) (za0 (zb3 hu1 (jsv 1) za3 (fun _ _=>rfl)) za4)) rfl)))))
    za7))))))))
theorem zI1(M:Md K mg f fd)(ih:Ih P w K mg base f fd W d)(hr:zo2 d (A.deeper (envOfC "_law_leaf_bent" (za5 zd2) s.heap.objs.size (f 25) cdv))):
    JSs (zs8 CX0 P w K mg base ["_law_box_here","_law_thing"] "_law_leaf_bent" (za5 zd2) (f 25) cdv A outer s H E).nox (zg2 prog W d) W (za9 zd2) zj2 :=
  have hu1:=zl3 hr
  have hu2:=zl2 hr
  have hgd:=hr.gd
  (za2 (zd1 (zq9 (zf7 .int rfl M.z_isinstance zc8 rfl M.z_int zS6 (jsv 1)))
     (za2 (zb0 (zb3 hu1 (zj0 (za0 (zj4 (zo1 hu2) (jsv 1) za3 (zc0 _) fun _ _=>zb6) (za0 (zi0 xr5 (fun _ _=>zd3) rfl M.z_str ye6 (za0 (jsv 1) za4)) (za0 (zc2 xc1 (ym9 za3) (jsv 1) fun _ _=>zc1) (za0 zs2 za4))))) (za8 (ps:=["_law_box_here","_law_many"]) ih.h15 hr rfl M.m15 M.F15.kp M.b15 (za0 (jsv 0) (za0 za3 za4)) rfl) (fun _ _=>rfl)))
     za7)
     za7)
    (za2 (zd1 (zq9 (zf7 .str rfl M.z_isinstance zc8 rfl M.z_str ye6 (jsv 1)))
     (za2 (zb0 (zb3 hu1 (zj0 (za0 (zc2 zk1 (jsv 1) (zb1 (cs:=[97])) fun _ _=>zc1) (za0 (zb1 (cs:=[])) (za0 (zg4 (jsv 1) zi7 (zi6 (ym9 za3))) (za0 (zb1 (cs:=[42])) (za0 (zb1 (cs:=[65])) (za0 za3 (za0 zs2 za4)))))))) (za8 (ps:=["_law_box_here","_law_many"]) ih.h15 hr rfl M.m15 M.F15.kp M.b15 (za0 (jsv 0) (za0 za3 za4)) rfl) (fun _ _=>rfl)))
     za7)
     za7)
    (za2 (zb0 (zb3 hu1 (zj0 (za0 za3 (za0 (zb1 (cs:=[])) (za0 (zb1 (cs:=[78,111,110,101])) (za0 (zb9 za4) (za0 zs9 za4)))))) (za8 (ps:=["_law_box_here","_law_many"]) ih.h15 hr rfl M.m15 M.F15.kp M.b15 (za0 (jsv 0) (za0 za3 za4)) rfl) (fun _ _=>rfl)))
    za7)))
theorem yg4(M:Md K mg f fd)(ih:Ih P w K mg base f fd W d)(hr:zo2 d (A.deeper (envOfC "_law_bent" (za5 zi2) s.heap.objs.size (f 26) cdv))):
    JSs (zs8 CX0 P w K mg base ["_law_box_here","_law_thing","_law_at","_law_way"] "_law_bent" (za5 zi2) (f 26) cdv A outer s H E).nox (zg2 prog W d) W (za9 zi2) zm9 :=
  have hu1:=zl3 hr
  have hu2:=zl2 hr
  have hgd:=hr.gd
  (za2 (zd1 (zu1 (zq9 (zf7 .tuple rfl M.z_isinstance zc8 rfl M.z_tuple zk8 (jsv 1))))
     (za2 (zb0 (za8 (ps:=["_law_box_here","_law_thing"]) ih.h25 hr rfl M.m25 M.F25.kp M.b25 (za0 (jsv 0) (za0 (jsv 1) za4)) rfl))
     za7)
     za7)
    (za2 (zd1 (zv5 (yJ0 (zb5 yQ0 (zb8 zm6 (fun _ _=>zd3) rfl M.z_len zj1 (za0 (jsv 1) za4)) za3 (zc0 _) fun _ _=>zb6) (yA6 (zb5 yQ0 (za8 (ps:=["_law_box_here","_law_many"]) ih.h15 hr rfl M.m15 M.F15.kp M.b15 (za0 (jsv 0) (za0 za3 za4)) rfl) za3 (zc0 _) fun _ _=>zb6))))
     (za2 (zc4 (i:=2) zs4.nd rfl (by trivial) (za8 (ps:=["_law_box_here","_law_many"]) ih.h15 hr rfl M.m15 M.F15.kp M.b15 (za0 (jsv 0) (za0 (zb8 zm6 (fun _ _=>zd3) rfl M.z_len zj1 (za0 (jsv 1) za4)) za4)) rfl))
     (za2 (zb0 (zc2 zk1 (zc2 zk1 (zg4 (jsv 1) zi7 (zi6 (jsv 2))) (zb9 (za0 (za8 (ps:=["_law_box_here","_law_thing"]) ih.h26 hr rfl M.m26 M.F26.kp M.b26 (za0 (jsv 0) (za0 (zb3 hu1 (jsv 1) (jsv 2) (fun _ _=>rfl)) za4)) rfl) za4)) fun _ _=>zc1) (zg4 (jsv 1) (zi6 (zc2 zk1 (jsv 2) za3 fun _ _=>zc1)) zi7) fun _ _=>zc1))
     za7))
     za7)
    (za2 (zc4 (i:=2) zs4.nd rfl (by trivial) (za8 (ps:=["_law_box_here","_law_many"]) ih.h15 hr rfl M.m15 M.F15.kp M.b15 (za0 (jsv 0) (za0 (zc2 zk1 (zb8 zm6 (fun _ _=>zd3) rfl M.z_len zj1 (za0 (jsv 1) za4)) za3 fun _ _=>zc1) za4)) rfl))
    (za2 (zc4 (i:=3) zs4.nd rfl (by trivial) (za8 (ps:=["_law_box_here","_law_many"]) ih.h15 hr rfl M.m15 M.F15.kp M.b15 (za0 (jsv 0) (za0 za3 za4)) rfl))
    (za2 (zd1 (zb5 (zo1 hu2) (jsv 3) za3 (zc0 _) fun _ _=>zb6)
     (za2 (zb0 (zi0 yF1 (fun _ _=>zd3) rfl M.z_list yu6 (za0 (jsv 1) za4)))
     za7)
     za7)
    (za2 (zd1 (zb5 (zo1 hu2) (jsv 3) za3 (zc0 _) fun _ _=>zb6)
     (za2 (zb0 (zc2 zk1 (zg4 (jsv 1) zi7 (zi6 (jsv 2))) (zg4 (jsv 1) (zi6 (zc2 zk1 (jsv 2) za3 fun _ _=>zc1)) zi7) fun _ _=>zc1))
     za7)
     za7)
    (za2 (zd1 (zb5 (zo1 hu2) (jsv 3) za3 (zc0 _) fun _ _=>zb6)
     (za2 (zb0 (zc2 zk1 (zg4 (jsv 1) zi7 (zi6 (jsv 2))) (zg4 (jsv 1) (zi6 (zb8 (yG6 rfl) (fun _ _=>zd3) rfl M.z_max yF6 (za0 za3 (za0 (zc2 zV2 (jsv 2) za3 fun _ _=>zc1) za4)))) zi7) fun _ _=>zc1))
     za7)
     za7)
    (za2 (zd1 (zb5 (zo1 hu2) (jsv 3) za3 (zc0 _) fun _ _=>zb6)
     (za2 (zb0 (zJ4 rfl rfl M.z_tuple rfl M.z_reversed (za0 (jsv 1) za4)))
     za7)
     za7)
    (za2 (zd1 (zb5 (zo1 hu2) (jsv 3) za3 (zc0 _) fun _ _=>zb6)
     (za2 (zb0 (zc2 zk1 (zc2 zk1 (zg4 (jsv 1) zi7 (zi6 (jsv 2))) (zb9 (za0 (zb3 hu1 (zj0 (za0 zs2 (za0 za3 (za0 (zb1 (cs:=[97])) (za0 (zb9 za4) (za0 (zb1 (cs:=[42])) za4)))))) (za8 (ps:=["_law_box_here","_law_many"]) ih.h15 hr rfl M.m15 M.F15.kp M.b15 (za0 (jsv 0) (za0 za3 za4)) rfl) (fun _ _=>rfl)) za4)) fun _ _=>zc1) (zg4 (jsv 1) (zi6 (jsv 2)) zi7) fun _ _=>zc1))
     za7)
     za7)
    (za2 (zb0 (zb3 hu1 (zj0 (za0 zs2 (za0 zs9 (za0 (zb1 (cs:=[])) (za0 za3 za4))))) (za8 (ps:=["_law_box_here","_law_many"]) ih.h15 hr rfl M.m15 M.F15.kp M.b15 (za0 (jsv 0) (za0 za3 za4)) rfl) (fun _ _=>rfl)))
    za7))))))))))
theorem yh6(M:Md K mg f fd)(ih:Ih P w K mg base f fd W d)(hr:zo2 d (A.deeper (envOfC "_law_size" (za5 zh3) s.heap.objs.size (f 27) cdv))):
    JSs (zs8 CX0 P w K mg base ["_law_ground_here","_law_thing","_law_deep","_law_sizes"] "_law_size" (za5 zh3) (f 27) cdv A outer s H E).nox (zg2 prog W d) W (za9 zh3) zf8 :=
  have hu1:=zl3 hr
  have hu2:=zl2 hr
  have hgd:=hr.gd
  (za2 (zd1 (zv5 (zt3 (zb5 yQ0 (jsv 2) za3 (zc0 _) fun _ _=>zb6) (zt3 (zu1 (zq9 (zf7 .tuple rfl M.z_isinstance zc8 rfl M.z_tuple zk8 (jsv 1)))) (zt3 (zb5 (zN7 hu2) (zb8 zm6 (fun _ _=>zd3) rfl M.z_len zj1 (za0 (jsv 1) za4)) (zb9 (za0 za3 (za0 za3 za4))) (by with_unfolding_all rfl) fun _ _=>zb6) (zs5 (zu1 (zq9 (zf7 .str rfl M.z_isinstance zc8 rfl M.z_str ye6 (zb3 hu1 (jsv 1) za3 (fun _ _=>rfl))))))))))
     (za2 (zb0 za3)
     za7)
     za7)
    (za2 (zd1 (zb5 (zo1 hu2) (zb3 hu1 (jsv 1) za3 (fun _ _=>rfl)) (zb1 (cs:=[108,101,97,115,116])) (zc0 _) fun _ _=>zb6)
     (za2 (zd1 (zv5 (zt3 (zb5 (xk1 hu2) (zb8 zm6 (fun _ _=>zd3) rfl M.z_len zj1 (za0 (jsv 1) za4)) za3 (zc0 _) fun _ _=>zb6) (zs5 (zb5 (zN7 hu2) (zb3 hu1 (jsv 1) za3 (fun _ _=>rfl)) (za8 (ps:=["_law_ground_here"]) ih.h21 hr rfl M.m21 M.F21.kp M.b21 (za0 (jsv 0) za4) rfl) (by with_unfolding_all rfl) fun _ _=>zb6))))
      (za2 (zb0 za3)
      za7)
      za7)
     (za2 (zb0 (zi0 xg2 (fun _ _=>zd3) rfl M.z_int zS6 (za0 (za8 (ps:=["_law_order_here","_law_thing"]) ih.h24 hr rfl M.m24 M.F24.kp M.b24 (za0 (za8 (ps:=["_law_ground_here","_law_thing"]) ih.h22 hr rfl M.m22 M.F22.kp M.b22 (za0 (jsv 0) (za0 (zb3 hu1 (jsv 1) za3 (fun _ _=>rfl)) za4)) rfl) (za0 (zb3 hu1 (jsv 1) za3 (fun _ _=>rfl)) za4)) rfl) za4)))
     za7))
     za7)
    (za2 (zd1 (zb5 (xk1 hu2) (yx3 hu1 (yy9 (zL6 (yt4 (cs:=[98,111,116,104]) (by decide +kernel)) za3 (zL6 (yt4 (cs:=[101,105,116,104,101,114]) (by decide +kernel)) za3 (zL6 (yt4 (cs:=[110,111,116]) (by decide +kernel)) za3 yO2))) rfl rfl rfl rfl (fun z=>nomatch z) (by decide) (by decide)) (zb3 hu1 (jsv 1) za3 (fun _ _=>rfl)) za3 ⟨rfl,rfl,rfl,rfl⟩) (zb8 zm6 (fun _ _=>zd3) rfl M.z_len zj1 (za0 (jsv 1) za4)) (zc0 _) fun _ _=>zb6)
     (za2 (zb0 za3)
     za7)
     za7)
    (za2 (yb5 (i:=3) zI3.nd rfl rfl (N:=["_law_ground_here","_law_deep","_law_one"]) rfl (zh7 (up:=za5 zh3) (XN:=["_law_ground_here","_law_thing","_law_deep","_law_sizes"]) rfl rfl (by decide +kernel)) (zn1 (zg4 (jsv 1) (zi6 za3) zi7)) (fun _ _ _ _ _=>zf4 (i:=2) nd13 rfl (by trivial)) (fun _ _ _ _ _=>zE7) (fun _ _ _ _ _=>(za8 (ps:=["_law_ground_here","_law_thing","_law_deep"]) ih.h27 hr rfl M.m27 M.F27.kp M.b27 (za0 (jsv 0) (za0 (jsv 2) (za0 (zc2 zk1 (jsv 1) za3 fun _ _=>zc1) za4))) rfl)))
    (za2 (zb0 (zX9 (zb5 (yH7 hu2) za3 (jsv 3) (by with_unfolding_all rfl) fun _ _=>zb6) za3 (zc2 zk1 za3 (zb8 (xg8 rfl) (fun _ _=>zd3) rfl M.z_sum yE0 (za0 (jsv 3) za4)) fun _ _=>zc1)))
    za7)))))
theorem zW2(M:Md K mg f fd)(ih:Ih P w K mg base f fd W d)(hr:zo2 d (A.deeper (envOfC "_law_great" (za5 zg0) s.heap.objs.size (f 28) cdv))):
    JSs (zs8 CX0 P w K mg base ["_law_box_here","_law_ground_here","_law_found","_law_k","_law_some_here"] "_law_great" (za5 zg0) (f 28) cdv A outer s H E).nox (zg2 prog W d) W (za9 zg0) zx0 :=
  have hu1:=zl3 hr
  have hu2:=zl2 hr
  have hgd:=hr.gd
  (za2 (zc4 (i:=2) zl7.nd rfl (by trivial) (za8 (ps:=["_law_box_here","_law_ground_here","_law_deep"]) ih.h23 hr rfl M.m23 M.F23.kp M.b23 (za0 (jsv 0) (za0 (jsv 1) (za0 za3 za4))) rfl))
    (za2 (zd1 (zb5 (zo1 hu2) (za8 (ps:=["_law_box_here","_law_many"]) ih.h15 hr rfl M.m15 M.F15.kp M.b15 (za0 (jsv 0) (za0 za3 za4)) rfl) za3 (zc0 _) fun _ _=>zb6)
     (za2 (zt4 PassesOwn.never rfl (zm4 rfl M.z_range (zc2 zk1 za3 (za8 (ps:=["_law_box_here","_law_many"]) ih.h15 hr rfl M.m15 M.F15.kp M.b15 (za0 (jsv 0) (za0 za3 za4)) rfl) fun _ _=>zc1)) (zf4 (i:=3) zl7.nd rfl (by trivial))
      (za2 (zc4 (i:=2) zl7.nd rfl (by trivial) (zb3 hu1 (zj0 (za0 (zb9 (za0 (zb1 (cs:=[110,111,116])) (za0 (jsv 2) za4))) (za0 (zb9 (za0 (zb1 (cs:=[98,111,116,104])) (za0 (jsv 2) (za0 (za8 (ps:=["_law_box_here","_law_ground_here","_law_deep"]) ih.h23 hr rfl M.m23 M.F23.kp M.b23 (za0 (jsv 0) (za0 (jsv 1) (za0 za3 za4))) rfl) za4)))) za4))) (za8 (ps:=["_law_box_here","_law_many"]) ih.h15 hr rfl M.m15 M.F15.kp M.b15 (za0 (jsv 0) (za0 za3 za4)) rfl) (fun _ _=>rfl)))
      za7))
     (za2 (zb0 (jsv 2))
     za7))
     za7)
    (za2 (yb5 (i:=4) zl7.nd rfl rfl (N:=["_law_box_here","_law_ground_here","_law_k"]) rfl (zh7 (up:=za5 zg0) (XN:=["_law_box_here","_law_ground_here","_law_found","_law_k","_law_some_here"]) rfl rfl (by decide +kernel)) (zm4 rfl M.z_range (zc2 zk1 za3 (za8 (ps:=["_law_box_here","_law_many"]) ih.h15 hr rfl M.m15 M.F15.kp M.b15 (za0 (jsv 0) (za0 za3 za4)) rfl) fun _ _=>zc1)) (fun _ _ _ _ _=>zf4 (i:=2) nd14 rfl (by trivial)) (fun _ _ _ _ _=>zE7) (fun _ _ _ _ _=>(za8 (ps:=["_law_box_here","_law_ground_here","_law_deep"]) ih.h23 hr rfl M.m23 M.F23.kp M.b23 (za0 (jsv 0) (za0 (jsv 1) (za0 za3 za4))) rfl)))
    (za2 (yp3 PassesOwn.never (zb5 yQ0 (zb8 zm6 (fun _ _=>zd3) rfl M.z_len zj1 (za0 (jsv 4) za4)) za3 (zc0 _) fun _ _=>zb6)
     (za2 (zc4 (i:=4) zl7.nd rfl (by trivial) (zc2 zk1 (zg4 (jsv 4) (zi6 za3) zi7) (zj0 (za0 (zb9 (za0 (zb1 (cs:=[101,105,116,104,101,114])) (za0 (zb3 hu1 (jsv 4) za3 (fun _ _=>rfl)) (za0 (zb3 hu1 (jsv 4) za3 (fun _ _=>rfl)) za4)))) za4)) fun _ _=>zc1))
     za7))
    (za2 (zb0 (zb3 hu1 (jsv 4) za3 (fun _ _=>rfl)))
    za7)))))
theorem zV4(M:Md K mg f fd)(ih:Ih P w K mg base f fd W d)(hr:zo2 d (A.deeper (envOfC "_law_other" (za5 zg7) s.heap.objs.size (f 29) cdv))):
  JSs (zs8 CX0 P w K mg base ["_law_box_here","_law_ground_here","_law_asking_here","_law_things_here","_law_thing","_law_other_here","_law_some_here"] "_law_other" (za5 zg7) (f 29) cdv A outer s H E).nox (zg2 prog W d) W (za9 zg7) zx1 :=
 have hu1:=zl3 hr
 have hu2:=zl2 hr
 have hgd:=hr.gd
 (za2 (zc4 (i:=3) zl6.nd rfl (by trivial) (za8 (ps:=["_law_ground_here"]) ih.h21 hr rfl M.m21 M.F21.kp M.b21 (za0 (jsv 1) za4) rfl))
  (za2 (zc4 (i:=4) zl6.nd rfl (by trivial) (zb3 hu1 (jsv 3) (za8 (ps:=["_law_box_here","_law_many"]) ih.h15 hr rfl M.m15 M.F15.kp M.b15 (za0 (jsv 0) (za0 (zb8 zm6 (fun _ _=>zd3) rfl M.z_len zj1 (za0 (jsv 3) za4)) za4)) rfl) (fun _ _=>rfl)))
  (za2 (zc4 (i:=5) zl6.nd rfl (by trivial) (za8 (ps:=["_law_box_here","_law_order_here"]) ih.h19 hr rfl M.m19 M.F19.kp M.b19 (za0 (jsv 0) (za0 (za8 (ps:=["_law_box_here","_law_deep"]) ih.h18 hr rfl M.m18 M.F18.kp M.b18 (za0 (jsv 0) (za0 za3 za4)) rfl) za4)) rfl))
  (za2 (zc4 (i:=6) zl6.nd rfl (by trivial) (zj0 (za0 (zb9 (za0 (zb1 (cs:=[108,101,97,115,116])) (za0 (jsv 4) (za0 (jsv 5) za4)))) (za0 (zb9 (za0 (zb1 (cs:=[108,101,97,115,116])) (za0 (zc2 zk1 (jsv 4) (zb9 (za0 (zb1 (cs:=[65])) za4)) fun _ _=>zc1) (za0 (jsv 5) za4)))) (za0 (zb9 (za0 (zb1 (cs:=[108,101,97,115,116])) (za0 (zg4 (jsv 4) zi7 (zi6 za3)) (za0 (jsv 5) za4)))) (za0 (zb9 (za0 (zb1 (cs:=[98,111,116,104])) (za0 (jsv 2) za4))) za4))))))
  (za2 (zc4 (i:=6) zl6.nd rfl (by trivial) (zc2 zk1 (jsv 6) (zj0 (za0 (zb9 (za0 (zb1 (cs:=[110,111,116])) (za0 (jsv 2) (za0 (jsv 2) za4)))) (za0 (zb9 (za0 (zb1 (cs:=[108,101,97,115,116])) (za0 (zi0 yF1 (fun _ _=>zd3) rfl M.z_list yu6 (za0 (jsv 4) za4)) (za0 (jsv 5) za4)))) (za0 (zb9 (za0 (zb1 (cs:=[108,101,97,115,116])) (za0 (zb9 (za0 (zb1 (cs:=[110,111,98,111,100,121])) za4)) (za0 (jsv 5) za4)))) za4)))) fun _ _=>zc1))
  (za2 (zb0 (zb3 hu1 (jsv 6) (za8 (ps:=["_law_box_here","_law_many"]) ih.h15 hr rfl M.m15 M.F15.kp M.b15 (za0 (jsv 0) (za0 za3 za4)) rfl) (fun _ _=>rfl)))
  za7))))))
theorem xl7(M:Md K mg f fd)(ih:Ih P w K mg base f fd W d)(hr:zo2 d (A.deeper (envOfC "law" (za5 zw1) s.heap.objs.size (f 30) cdv))):
    JSs (zs8 CX0 P w K mg base ["_law_script","_law_k","_law_box_here","_law_ground_here","_law_asking_here","_law_bent_here","_law_thing","_law_found"] "law" (za5 zw1) (f 30) cdv A outer s H E).nox (zg2 prog W d) W (za9 zw1) yf1 :=
  have hu1:=zl3 hr
  have hu2:=zl2 hr
  have hgd:=hr.gd
  (za2 (zt4 PassesOwn.never rfl (zm4 rfl M.z_range (zc2 zk1 za3 (zb8 (xf2 rfl) (fun _ _=>zd3) rfl M.z_min xa4 (za0 za3 (za0 (zb8 zm6 (fun _ _=>zd3) rfl M.z_len zj1 (za0 (jsv 0) za4)) za4))) fun _ _=>zc1)) (zf4 (i:=1) zy1.nd rfl (by trivial))
     (za2 (zc4 (i:=2) zy1.nd rfl (by trivial) (za8 (ps:=["_law_script","_law_k"]) ih.h14 hr rfl M.m14 M.F14.kp M.b14 (za0 (jsv 0) (za0 (jsv 1) za4)) rfl))
     (za2 (zc4 (i:=3) zy1.nd rfl (by trivial) (za8 (ps:=["_law_box_here"]) ih.h20 hr rfl M.m20 M.F20.kp M.b20 (za0 (jsv 2) za4) rfl))
     (za2 (zc4 (i:=4) zy1.nd rfl (by trivial) (za8 (ps:=["_law_box_here","_law_ground_here","_law_deep"]) ih.h23 hr rfl M.m23 M.F23.kp M.b23 (za0 (jsv 2) (za0 (jsv 3) (za0 za3 za4))) rfl))
     (za2 (zd1 (zb5 (zo1 hu2) (za8 (ps:=["_law_box_here","_law_many"]) ih.h15 hr rfl M.m15 M.F15.kp M.b15 (za0 (jsv 2) (za0 za3 za4)) rfl) za3 (zc0 _) fun _ _=>zb6)
      (za2 (zc4 (i:=4) zy1.nd rfl (by trivial) (za8 (ps:=["_law_box_here","_law_ground_here"]) ih.h28 hr rfl M.m28 M.F28.kp M.b28 (za0 (jsv 2) (za0 (jsv 3) za4)) rfl))
      za7)
      za7)
     (za2 (zc4 (i:=5) zy1.nd rfl (by trivial) (za8 (ps:=["_law_box_here","_law_thing"]) ih.h26 hr rfl M.m26 M.F26.kp M.b26 (za0 (jsv 2) (za0 (jsv 4) za4)) rfl))
     (za2 (zt4 PassesOwn.never rfl (zn1 (zj0 (za0 (jsv 4) (za0 (jsv 5) (za0 (za8 (ps:=["_law_box_here","_law_thing"]) ih.h26 hr rfl M.m26 M.F26.kp M.b26 (za0 (jsv 2) (za0 (jsv 5) za4)) rfl) (za0 (za8 (ps:=["_law_box_here","_law_ground_here","_law_asking_here"]) ih.h29 hr rfl M.m29 M.F29.kp M.b29 (za0 (jsv 2) (za0 (jsv 3) (za0 (jsv 4) za4))) rfl) za4)))))) (zf4 (i:=6) zy1.nd rfl (by trivial))
      (za2 (zc4 (i:=7) zy1.nd rfl (by trivial) (za8 (ps:=["ground","thing"]) ih.h9 hr rfl M.m9 M.F9.kp M.b9 (za0 (jsv 3) (za0 (jsv 6) za4)) rfl))
      (za2 (zd1 (zv5 (zt3 (zu1 (zq9 (zf7 .bool rfl M.z_isinstance zc8 rfl M.z_bool zW1 (jsv 7)))) (zs5 (zb5 (xk1 hu2) (jsv 7) (zS7 (cop:=.le) (cop':=.le) yT8 yT8 (yG5 _) za3 (za8 (ps:=["_law_ground_here","_law_thing","_law_deep"]) ih.h27 hr rfl M.m27 M.F27.kp M.b27 (za0 (jsv 3) (za0 (jsv 6) (za0 za3 za4))) rfl) za3) (zc0 _) fun _ _=>zb6))))
       (za2 (zb0 zs9)
       za7)
       za7)
      za7)))
     za7)))))))
    (za2 (zb0 (zj4 xi9 (za8 (ps:=["ground","thing"]) ih.h9 hr rfl M.m9 M.F9.kp M.b9 (za0 (zb9 (za0 (zb9 (za0 (zb1 (cs:=[97])) za4)) (za0 (zb9 (za0 (zb9 (za0 (zb1 (cs:=[97])) (za0 za3 (za0 (zb9 (za0 (zb1 (cs:=[110,117,109])) za4)) za4)))) za4)) za4))) (za0 (zb9 (za0 (zb1 (cs:=[108,101,97,115,116])) (za0 (zb9 (za0 (zb1 (cs:=[97])) za4)) (za0 zs9 za4)))) za4)) rfl) zs9 (zc0 _) fun _ _=>zb6))
    za7))
end
open PySem L2 OR PySem.SeqAt PyProof.Rows
section
variable{P:Program}{w:World}{K:Frag}{mg:Str→Option Value}{base:Heap}{f:Nat→Addr}{fd:Nat→FuncData}
theorem all(M:Md K mg f fd)(W:Nat):∀d:Nat,Ih P w K mg base f fd W d
 |0=>⟨ze6,ze6,ze6,ze6,ze6,ze6,ze6,ze6,ze6,ze6,ze6,ze6,ze6,ze6,ze6,ze6,ze6,ze6,ze6,ze6,ze6,ze6,ze6,ze6,ze6,ze6,ze6,ze6,ze6,ze6,ze6⟩
 | d+1=>by
  have ih:=all M W d
  exact ⟨zc9 (ib:=zA2) M.F0 zX7 rfl fun cdv A outer s H E hr=>yf2 M ih hr,
   zc9 (ib:=zr0) M.F1 zU0 rfl fun cdv A outer s H E hr=>yh1 M ih hr,
   zc9 (ib:=zj8) M.F2 zC8 rfl fun cdv A outer s H E hr=>zU4 M ih hr,
   zc9 (ib:=zp7) M.F3 zD2 rfl fun cdv A outer s H E hr=>zG2 M ih hr,
   zc9 (ib:=zB2) M.F4 zX8 rfl fun cdv A outer s H E hr=>yg7 M ih hr,
   zc9 (ib:=zB6) M.F5 zW7 rfl fun cdv A outer s H E hr=>yh7 M ih hr,
   zc9 (ib:=zw0) M.F6 zC6 rfl fun cdv A outer s H E hr=>zX0 M ih hr,
   zc9 (ib:=zs6) M.F7 zv6 rfl fun cdv A outer s H E hr=>zN8 M ih hr,
   zc9 (ib:=zA0) M.F8 zW5 rfl fun cdv A outer s H E hr=>yi2 M ih hr,
   zc9 (ib:=zw6) M.F9 zT0 rfl fun cdv A outer s H E hr=>zU9 M ih hr,
   zc9 (ib:=zk4) M.F10 zw9 rfl fun cdv A outer s H E hr=>zy6 M ih hr,
   zc9 (ib:=zA8) M.F11 zV5 rfl fun cdv A outer s H E hr=>yg2 M ih hr,
   zc9 (ib:=zp8) M.F12 zM2 rfl fun cdv A outer s H E hr=>zO5 M ih hr,
   zc9 (ib:=zm1) M.F13 zq5 rfl fun cdv A outer s H E hr=>zN0 M ih hr,
   zc9 (ib:=zG5) M.F14 zK8 rfl fun cdv A outer s H E hr=>ys4 M ih hr,
   zc9 (ib:=zv1) M.F15 zw2 rfl fun cdv A outer s H E hr=>yg0 M ih hr,
   zc9 (ib:=zB7) M.F16 zs0 rfl fun cdv A outer s H E hr=>yf6 M ih hr,
   zc9 (ib:=zp3) M.F17 zk3 rfl fun cdv A outer s H E hr=>yp0 M ih hr,
   zc9 (ib:=zs1) M.F18 zC0 rfl fun cdv A outer s H E hr=>zU6 M ih hr,
   zc9 (ib:=zi5) M.F19 zy0 rfl fun cdv A outer s H E hr=>zQ1 M ih hr,
   zc9 (ib:=zu4) M.F20 zj5 rfl fun cdv A outer s H E hr=>zR5 M ih hr,
   zc9 (ib:=zu6) M.F21 zg3 rfl fun cdv A outer s H E hr=>zT7 M ih hr,
   zc9 (ib:=zq6) M.F22 zF5 rfl fun cdv A outer s H E hr=>zI8 M ih hr,
   zc9 (ib:=zq1) M.F23 zm0 rfl fun cdv A outer s H E hr=>zS5 M ih hr,
   zc9 (ib:=zd8) M.F24 zn9 rfl fun cdv A outer s H E hr=>zH2 M ih hr,
   zc9 (ib:=zj2) M.F25 zD3 rfl fun cdv A outer s H E hr=>zI1 M ih hr,
   zc9 (ib:=zm9) M.F26 zs4 rfl fun cdv A outer s H E hr=>yg4 M ih hr,
   zc9 (ib:=zf8) M.F27 zI3 rfl fun cdv A outer s H E hr=>yh6 M ih hr,
   zc9 (ib:=zx0) M.F28 zl7 rfl fun cdv A outer s H E hr=>zW2 M ih hr,
   zc9 (ib:=zx1) M.F29 zl6 rfl fun cdv A outer s H E hr=>zV4 M ih hr,
   zc9 (ib:=yf1) M.F30 zy1 rfl fun cdv A outer s H E hr=>xl7 M ih hr⟩
end
theorem all_mk{l:PySem.W.OpenLaw}{w:World}{K:Frag}{h:Heap}{mg:Str→Option Value}{fa f0 f1 f2 f3 f4 f5 f6 f7 f8 f9 f10 f11 f12 f13 f14 f15 f16 f17 f18 f19 f20 f21 f22 f23 f24 f25 f26 f27 f28 f29 f30:Addr}(X:K.In h)(G:h.Ns mainGlobals mg)(hfa:mg "law" = some (.ref fa))(D:Nat)
    {od0 an0 od1 an1 od2 an2 od3 an3 od4 an4 od5 an5 od6 an6 od7 an7 od8 an8 od9 an9 od10 an10 od11 an11 od12 an12 od13 an13 od14 an14 od15 an15 od16 an16 od17 an17 od18 an18 od19 an19 od20 an20 od21 an21 od22 an22 od23 an23 od24 an24 od25 an25 od26 an26 od27 an27 od28 an28 od29 an29 od30 an30:Option Addr} {sl0 sl1 sl2 sl3 sl4 sl5 sl6 sl7 sl8 sl9 sl10 sl11 sl12 sl13 sl14 sl15 sl16 sl17 sl18 sl19 sl20 sl21 sl22 sl23 sl24 sl25 sl26 sl27 sl28 sl29 sl30:Array (Option Value)} {oc0 kV0 dc0 pm0 cd0 ct0 oc1 kV1 dc1 pm1 cd1 ct1 oc2 kV2 dc2 pm2 cd2 ct2 oc3 kV3 dc3 pm3 cd3 ct3 oc4 kV4 dc4 pm4 cd4 ct4 oc5 kV5 dc5 pm5 cd5 ct5 oc6 kV6 dc6 pm6 cd6 ct6 oc7 kV7 dc7 pm7 cd7 ct7 oc8 kV8 dc8 pm8 cd8 ct8 oc9 kV9 dc9 pm9 cd9 ct9 oc10 kV10 dc10 pm10 cd10 ct10 oc11 kV11 dc11 pm11 cd11 ct11 oc12 kV12 dc12 pm12 cd12 ct12 oc13 kV13 dc13 pm13 cd13 ct13 oc14 kV14 dc14 pm14 cd14 ct14 oc15 kV15 dc15 pm15 cd15 ct15 oc16 kV16 dc16 pm16 cd16 ct16 oc17 kV17 dc17 pm17 cd17 ct17 oc18 kV18 dc18 pm18 cd18 ct18 oc19 kV19 dc19 pm19 cd19 ct19 oc20 kV20 dc20 pm20 cd20 ct20 oc21 kV21 dc21 pm21 cd21 ct21 oc22 kV22 dc22 pm22 cd22 ct22 oc23 kV23 dc23 pm23 cd23 ct23 oc24 kV24 dc24 pm24 cd24 ct24 oc25 kV25 dc25 pm25 cd25 ct25 oc26 kV26 dc26 pm26 cd26 ct26 oc27 kV27 dc27 pm27 cd27 ct27 oc28 kV28 dc28 pm28 cd28 ct28 oc29 kV29 dc29 pm29 cd29 ct29 oc30 kV30 dc30 pm30 cd30 ct30:Value}
    (a0:nsIn K mainGlobals "is_count" = some (some (.ref f0))) (l0:K.lookup f0=some ⟨oc0,od0,.func (fnOf "is_count" "is_count" (zb2 zf6) (za9 zf6) (za5 zf6) .none kV0 dc0 pm0 an0 cd0 ct0),sl0⟩) (c0:codeIn K cd0 "is_count" = true) (k0:keepIn K (.ref f0)=true)
    (a1:nsIn K mainGlobals "is_tuple" = some (some (.ref f1))) (l1:K.lookup f1=some ⟨oc1,od1,.func (fnOf "is_tuple" "is_tuple" (zb2 zh9) (za9 zh9) (za5 zh9) .none kV1 dc1 pm1 an1 cd1 ct1),sl1⟩) (c1:codeIn K cd1 "is_tuple" = true) (k1:keepIn K (.ref f1)=true)
    (a2:nsIn K mainGlobals "is_height" = some (some (.ref f2))) (l2:K.lookup f2=some ⟨oc2,od2,.func (fnOf "is_height" "is_height" (zb2 zf9) (za9 zf9) (za5 zf9) .none kV2 dc2 pm2 an2 cd2 ct2),sl2⟩) (c2:codeIn K cd2 "is_height" = true) (k2:keepIn K (.ref f2)=true)
    (a3:nsIn K mainGlobals "is_row_height" = some (some (.ref f3))) (l3:K.lookup f3=some ⟨oc3,od3,.func (fnOf "is_row_height" "is_row_height" (zb2 zc7) (za9 zc7) (za5 zc7) .none kV3 dc3 pm3 an3 cd3 ct3),sl3⟩) (c3:codeIn K cd3 "is_row_height" = true) (k3:keepIn K (.ref f3)=true)
    (a4:nsIn K mainGlobals "is_thing" = some (some (.ref f4))) (l4:K.lookup f4=some ⟨oc4,od4,.func (fnOf "is_thing" "is_thing" (zb2 zh1) (za9 zh1) (za5 zh1) .none kV4 dc4 pm4 an4 cd4 ct4),sl4⟩) (c4:codeIn K cd4 "is_thing" = true) (k4:keepIn K (.ref f4)=true)
    (a5:nsIn K mainGlobals "is_risen" = some (some (.ref f5))) (l5:K.lookup f5=some ⟨oc5,od5,.func (fnOf "is_risen" "is_risen" (zb2 zi3) (za9 zi3) (za5 zi3) .none kV5 dc5 pm5 an5 cd5 ct5),sl5⟩) (c5:codeIn K cd5 "is_risen" = true) (k5:keepIn K (.ref f5)=true)
    (a6:nsIn K mainGlobals "has_words" = some (some (.ref f6))) (l6:K.lookup f6=some ⟨oc6,od6,.func (fnOf "has_words" "has_words" (zb2 zg6) (za9 zg6) (za5 zg6) .none kV6 dc6 pm6 an6 cd6 ct6),sl6⟩) (c6:codeIn K cd6 "has_words" = true) (k6:keepIn K (.ref f6)=true)
    (a7:nsIn K mainGlobals "head_called" = some (some (.ref f7))) (l7:K.lookup f7=some ⟨oc7,od7,.func (fnOf "head_called" "head_called" (zb2 ze4) (za9 ze4) (za5 ze4) .none kV7 dc7 pm7 an7 cd7 ct7),sl7⟩) (c7:codeIn K cd7 "head_called" = true) (k7:keepIn K (.ref f7)=true)
    (a8:nsIn K mainGlobals "order_of" = some (some (.ref f8))) (l8:K.lookup f8=some ⟨oc8,od8,.func (fnOf "order_of" "order_of" (zb2 zi1) (za9 zi1) (za5 zi1) .none kV8 dc8 pm8 an8 cd8 ct8),sl8⟩) (c8:codeIn K cd8 "order_of" = true) (k8:keepIn K (.ref f8)=true)
    (a9:nsIn K mainGlobals "is_asking" = some (some (.ref f9))) (l9:K.lookup f9=some ⟨oc9,od9,.func (fnOf "is_asking" "is_asking" (zb2 zg5) (za9 zg5) (za5 zg5) .none kV9 dc9 pm9 an9 cd9 ct9),sl9⟩) (c9:codeIn K cd9 "is_asking" = true) (k9:keepIn K (.ref f9)=true)
    (a10:nsIn K mainGlobals "is_asking_within" = some (some (.ref f10))) (l10:K.lookup f10=some ⟨oc10,od10,.func (fnOf "is_asking_within" "is_asking_within" (zb2 zc3) (za9 zc3) (za5 zc3) .none kV10 dc10 pm10 an10 cd10 ct10),sl10⟩) (c10:codeIn K cd10 "is_asking_within" = true) (k10:keepIn K (.ref f10)=true)
    (a11:nsIn K mainGlobals "parts_of" = some (some (.ref f11))) (l11:K.lookup f11=some ⟨oc11,od11,.func (fnOf "parts_of" "parts_of" (zb2 zi4) (za9 zi4) (za5 zi4) .none kV11 dc11 pm11 an11 cd11 ct11),sl11⟩) (c11:codeIn K cd11 "parts_of" = true) (k11:keepIn K (.ref f11)=true)
    (a12:nsIn K mainGlobals "askings_in" = some (some (.ref f12))) (l12:K.lookup f12=some ⟨oc12,od12,.func (fnOf "askings_in" "askings_in" (zb2 ze8) (za9 ze8) (za5 ze8) .none kV12 dc12 pm12 an12 cd12 ct12),sl12⟩) (c12:codeIn K cd12 "askings_in" = true) (k12:keepIn K (.ref f12)=true)
    (a13:nsIn K mainGlobals "_law_cell_at" = some (some (.ref f13))) (l13:K.lookup f13=some ⟨oc13,od13,.func (fnOf "_law_cell_at" "_law_cell_at" (zb2 ze3) (za9 ze3) (za5 ze3) .none kV13 dc13 pm13 an13 cd13 ct13),sl13⟩) (c13:codeIn K cd13 "_law_cell_at" = true) (k13:keepIn K (.ref f13)=true)
    (a14:nsIn K mainGlobals "_law_box" = some (some (.ref f14))) (l14:K.lookup f14=some ⟨oc14,od14,.func (fnOf "_law_box" "_law_box" (zb2 zk0) (za9 zk0) (za5 zk0) .none kV14 dc14 pm14 an14 cd14 ct14),sl14⟩) (c14:codeIn K cd14 "_law_box" = true) (k14:keepIn K (.ref f14)=true)
    (a15:nsIn K mainGlobals "_law_take" = some (some (.ref f15))) (l15:K.lookup f15=some ⟨oc15,od15,.func (fnOf "_law_take" "_law_take" (zb2 zh8) (za9 zh8) (za5 zh8) .none kV15 dc15 pm15 an15 cd15 ct15),sl15⟩) (c15:codeIn K cd15 "_law_take" = true) (k15:keepIn K (.ref f15)=true)
    (a16:nsIn K mainGlobals "_law_some" = some (some (.ref f16))) (l16:K.lookup f16=some ⟨oc16,od16,.func (fnOf "_law_some" "_law_some" (zb2 zh2) (za9 zh2) (za5 zh2) .none kV16 dc16 pm16 an16 cd16 ct16),sl16⟩) (c16:codeIn K cd16 "_law_some" = true) (k16:keepIn K (.ref f16)=true)
    (a17:nsIn K mainGlobals "_law_web" = some (some (.ref f17))) (l17:K.lookup f17=some ⟨oc17,od17,.func (fnOf "_law_web" "_law_web" (zb2 zj9) (za9 zj9) (za5 zj9) .none kV17 dc17 pm17 an17 cd17 ct17),sl17⟩) (c17:codeIn K cd17 "_law_web" = true) (k17:keepIn K (.ref f17)=true)
    (a18:nsIn K mainGlobals "_law_order" = some (some (.ref f18))) (l18:K.lookup f18=some ⟨oc18,od18,.func (fnOf "_law_order" "_law_order" (zb2 zg1) (za9 zg1) (za5 zg1) .none kV18 dc18 pm18 an18 cd18 ct18),sl18⟩) (c18:codeIn K cd18 "_law_order" = true) (k18:keepIn K (.ref f18)=true)
    (a19:nsIn K mainGlobals "_law_height" = some (some (.ref f19))) (l19:K.lookup f19=some ⟨oc19,od19,.func (fnOf "_law_height" "_law_height" (zb2 ze1) (za9 ze1) (za5 ze1) .none kV19 dc19 pm19 an19 cd19 ct19),sl19⟩) (c19:codeIn K cd19 "_law_height" = true) (k19:keepIn K (.ref f19)=true)
    (a20:nsIn K mainGlobals "_law_ground" = some (some (.ref f20))) (l20:K.lookup f20=some ⟨oc20,od20,.func (fnOf "_law_ground" "_law_ground" (zb2 zf2) (za9 zf2) (za5 zf2) .none kV20 dc20 pm20 an20 cd20 ct20),sl20⟩) (c20:codeIn K cd20 "_law_ground" = true) (k20:keepIn K (.ref f20)=true)
    (a21:nsIn K mainGlobals "_law_things" = some (some (.ref f21))) (l21:K.lookup f21=some ⟨oc21,od21,.func (fnOf "_law_things" "_law_things" (zb2 ze7) (za9 ze7) (za5 ze7) .none kV21 dc21 pm21 an21 cd21 ct21),sl21⟩) (c21:codeIn K cd21 "_law_things" = true) (k21:keepIn K (.ref f21)=true)
    (a22:nsIn K mainGlobals "_law_order_of" = some (some (.ref f22))) (l22:K.lookup f22=some ⟨oc22,od22,.func (fnOf "_law_order_of" "_law_order_of" (zb2 zd4) (za9 zd4) (za5 zd4) .none kV22 dc22 pm22 an22 cd22 ct22),sl22⟩) (c22:codeIn K cd22 "_law_order_of" = true) (k22:keepIn K (.ref f22)=true)
    (a23:nsIn K mainGlobals "_law_asking" = some (some (.ref f23))) (l23:K.lookup f23=some ⟨oc23,od23,.func (fnOf "_law_asking" "_law_asking" (zb2 zf3) (za9 zf3) (za5 zf3) .none kV23 dc23 pm23 an23 cd23 ct23),sl23⟩) (c23:codeIn K cd23 "_law_asking" = true) (k23:keepIn K (.ref f23)=true)
    (a24:nsIn K mainGlobals "_law_is_height" = some (some (.ref f24))) (l24:K.lookup f24=some ⟨oc24,od24,.func (fnOf "_law_is_height" "_law_is_height" (zb2 zc6) (za9 zc6) (za5 zc6) .none kV24 dc24 pm24 an24 cd24 ct24),sl24⟩) (c24:codeIn K cd24 "_law_is_height" = true) (k24:keepIn K (.ref f24)=true)
    (a25:nsIn K mainGlobals "_law_leaf_bent" = some (some (.ref f25))) (l25:K.lookup f25=some ⟨oc25,od25,.func (fnOf "_law_leaf_bent" "_law_leaf_bent" (zb2 zd2) (za9 zd2) (za5 zd2) .none kV25 dc25 pm25 an25 cd25 ct25),sl25⟩) (c25:codeIn K cd25 "_law_leaf_bent" = true) (k25:keepIn K (.ref f25)=true)
    (a26:nsIn K mainGlobals "_law_bent" = some (some (.ref f26))) (l26:K.lookup f26=some ⟨oc26,od26,.func (fnOf "_law_bent" "_law_bent" (zb2 zi2) (za9 zi2) (za5 zi2) .none kV26 dc26 pm26 an26 cd26 ct26),sl26⟩) (c26:codeIn K cd26 "_law_bent" = true) (k26:keepIn K (.ref f26)=true)
    (a27:nsIn K mainGlobals "_law_size" = some (some (.ref f27))) (l27:K.lookup f27=some ⟨oc27,od27,.func (fnOf "_law_size" "_law_size" (zb2 zh3) (za9 zh3) (za5 zh3) .none kV27 dc27 pm27 an27 cd27 ct27),sl27⟩) (c27:codeIn K cd27 "_law_size" = true) (k27:keepIn K (.ref f27)=true)
    (a28:nsIn K mainGlobals "_law_great" = some (some (.ref f28))) (l28:K.lookup f28=some ⟨oc28,od28,.func (fnOf "_law_great" "_law_great" (zb2 zg0) (za9 zg0) (za5 zg0) .none kV28 dc28 pm28 an28 cd28 ct28),sl28⟩) (c28:codeIn K cd28 "_law_great" = true) (k28:keepIn K (.ref f28)=true)
    (a29:nsIn K mainGlobals "_law_other" = some (some (.ref f29))) (l29:K.lookup f29=some ⟨oc29,od29,.func (fnOf "_law_other" "_law_other" (zb2 zg7) (za9 zg7) (za5 zg7) .none kV29 dc29 pm29 an29 cd29 ct29),sl29⟩) (c29:codeIn K cd29 "_law_other" = true) (k29:keepIn K (.ref f29)=true)
    (a30:nsIn K mainGlobals "law" = some (some (.ref f30))) (l30:K.lookup f30=some ⟨oc30,od30,.func (fnOf "law" "law" (zb2 zw1) (za9 zw1) (za5 zw1) .none kV30 dc30 pm30 an30 cd30 ct30),sl30⟩) (c30:codeIn K cd30 "law" = true) (k30:keepIn K (.ref f30)=true)
    (z_all:nsIn K mainGlobals "all" = some none)
    (z_bool:nsIn K mainGlobals "bool" = some none)
    (z_int:nsIn K mainGlobals "int" = some none)
    (z_isinstance:nsIn K mainGlobals "isinstance" = some none)
    (z_len:nsIn K mainGlobals "len" = some none)
    (z_list:nsIn K mainGlobals "list" = some none)
    (z_max:nsIn K mainGlobals "max" = some none)
    (z_min:nsIn K mainGlobals "min" = some none)
    (z_range:nsIn K mainGlobals "range" = some none)
    (z_reversed:nsIn K mainGlobals "reversed" = some none)
    (z_sorted:nsIn K mainGlobals "sorted" = some none)
    (z_str:nsIn K mainGlobals "str" = some none)
    (z_sum:nsIn K mainGlobals "sum" = some none)
    (z_tuple:nsIn K mainGlobals "tuple" = some none)
    (z_zip:nsIn K mainGlobals "zip" = some none)
    {t_MOST_IN_ALL:Tok} (g_MOST_IN_ALL:nsIn K mainGlobals "MOST_IN_ALL" = some (some (.int 12 t_MOST_IN_ALL)))
    {t_MOST_WITHIN:Tok} (g_MOST_WITHIN:nsIn K mainGlobals "MOST_WITHIN" = some (some (.int 5 t_MOST_WITHIN)))
    : ∃fd:FuncData,(∀(s:Shared) (v:Value),BindsTo s fd ⟨[v],[]⟩ [("_law_script", v)])∧∀base:Heap,K.In base→base.Ns mainGlobals mg→zq2 l.prog w K mg base CX0 D fa fd ["_law_script"] (spF K prog 1000 D 30 1):=by
  have X0:=X
  have e:=hfa.symm.trans (mg_of X G a30)
  cases e
  refine⟨fnOf "law" "law" (zb2 zw1) (za9 zw1) (za5 zw1) .none kV30 dc30 pm30 an30 cd30 ct30,fun s v=>.of_eq rfl,fun base _ _=>?_⟩
  have F0:=zh5 (st:=zf6) l0 c0 k0
  have b0:=F0.binds (ps:=["thing"]) fun _ _ _ _ _ _ us hl=>yJ8 (fun _=>rfl) us hl
  have F1:=zh5 (st:=zh9) l1 c1 k1
  have b1:=F1.binds (ps:=["thing","fewest","most"]) fun _ _ _ _ _ _ us hl=>yR6 (fun _ _ _=>rfl) us hl
  have F2:=zh5 (st:=zf9) l2 c2 k2
  have b2:=F2.binds (ps:=["order","thing"]) fun _ _ _ _ _ _ us hl=>zK2 (fun _ _=>rfl) us hl
  have F3:=zh5 (st:=zc7) l3 c3 k3
  have b3:=F3.binds (ps:=["parts","thing"]) fun _ _ _ _ _ _ us hl=>zK2 (fun _ _=>rfl) us hl
  have F4:=zh5 (st:=zh1) l4 c4 k4
  have b4:=F4.binds (ps:=["ground","thing"]) fun _ _ _ _ _ _ us hl=>zK2 (fun _ _=>rfl) us hl
  have F5:=zh5 (st:=zi3) l5 c5 k5
  have b5:=F5.binds (ps:=["ground","thing","height"]) fun _ _ _ _ _ _ us hl=>yR6 (fun _ _ _=>rfl) us hl
  have F6:=zh5 (st:=zg6) l6 c6 k6
  have b6:=F6.binds (ps:=["ground","thing"]) fun _ _ _ _ _ _ us hl=>zK2 (fun _ _=>rfl) us hl
  have F7:=zh5 (st:=ze4) l7 c7 k7
  have b7:=F7.binds (ps:=["ground","word"]) fun _ _ _ _ _ _ us hl=>zK2 (fun _ _=>rfl) us hl
  have F8:=zh5 (st:=zi1) l8 c8 k8
  have b8:=F8.binds (ps:=["ground","thing"]) fun _ _ _ _ _ _ us hl=>zK2 (fun _ _=>rfl) us hl
  have F9:=zh5 (st:=zg5) l9 c9 k9
  have b9:=F9.binds (ps:=["ground","thing"]) fun _ _ _ _ _ _ us hl=>zK2 (fun _ _=>rfl) us hl
  have F10:=zh5 (st:=zc3) l10 c10 k10
  have b10:=F10.binds (ps:=["ground","thing","deep"]) fun _ _ _ _ _ _ us hl=>yR6 (fun _ _ _=>rfl) us hl
  have F11:=zh5 (st:=zi4) l11 c11 k11
  have b11:=F11.binds (ps:=["asking"]) fun _ _ _ _ _ _ us hl=>yJ8 (fun _=>rfl) us hl
  have F12:=zh5 (st:=ze8) l12 c12 k12
  have b12:=F12.binds (ps:=["asking"]) fun _ _ _ _ _ _ us hl=>yJ8 (fun _=>rfl) us hl
  have F13:=zh5 (st:=ze3) l13 c13 k13
  have b13:=F13.binds (ps:=["_law_script","_law_k"]) fun _ _ _ _ _ _ us hl=>zK2 (fun _ _=>rfl) us hl
  have F14:=zh5 (st:=zk0) l14 c14 k14
  have b14:=F14.binds (ps:=["_law_script","_law_k"]) fun _ _ _ _ _ _ us hl=>zK2 (fun _ _=>rfl) us hl
  have F15:=zh5 (st:=zh8) l15 c15 k15
  have b15:=F15.binds (ps:=["_law_box_here","_law_many"]) fun _ _ _ _ _ _ us hl=>zK2 (fun _ _=>rfl) us hl
  have F16:=zh5 (st:=zh2) l16 c16 k16
  have b16:=F16.binds (ps:=["_law_box_here","_law_many"]) fun _ _ _ _ _ _ us hl=>zK2 (fun _ _=>rfl) us hl
  have F17:=zh5 (st:=zj9) l17 c17 k17
  have b17:=F17.binds (ps:=["_law_box_here"]) fun _ _ _ _ _ _ us hl=>yJ8 (fun _=>rfl) us hl
  have F18:=zh5 (st:=zg1) l18 c18 k18
  have b18:=F18.binds (ps:=["_law_box_here","_law_deep"]) fun _ _ _ _ _ _ us hl=>zK2 (fun _ _=>rfl) us hl
  have F19:=zh5 (st:=ze1) l19 c19 k19
  have b19:=F19.binds (ps:=["_law_box_here","_law_order_here"]) fun _ _ _ _ _ _ us hl=>zK2 (fun _ _=>rfl) us hl
  have F20:=zh5 (st:=zf2) l20 c20 k20
  have b20:=F20.binds (ps:=["_law_box_here"]) fun _ _ _ _ _ _ us hl=>yJ8 (fun _=>rfl) us hl
  have F21:=zh5 (st:=ze7) l21 c21 k21
  have b21:=F21.binds (ps:=["_law_ground_here"]) fun _ _ _ _ _ _ us hl=>yJ8 (fun _=>rfl) us hl
  have F22:=zh5 (st:=zd4) l22 c22 k22
  have b22:=F22.binds (ps:=["_law_ground_here","_law_thing"]) fun _ _ _ _ _ _ us hl=>zK2 (fun _ _=>rfl) us hl
  have F23:=zh5 (st:=zf3) l23 c23 k23
  have b23:=F23.binds (ps:=["_law_box_here","_law_ground_here","_law_deep"]) fun _ _ _ _ _ _ us hl=>yR6 (fun _ _ _=>rfl) us hl
  have F24:=zh5 (st:=zc6) l24 c24 k24
  have b24:=F24.binds (ps:=["_law_order_here","_law_thing"]) fun _ _ _ _ _ _ us hl=>zK2 (fun _ _=>rfl) us hl
  have F25:=zh5 (st:=zd2) l25 c25 k25
  have b25:=F25.binds (ps:=["_law_box_here","_law_thing"]) fun _ _ _ _ _ _ us hl=>zK2 (fun _ _=>rfl) us hl
  have F26:=zh5 (st:=zi2) l26 c26 k26
  have b26:=F26.binds (ps:=["_law_box_here","_law_thing"]) fun _ _ _ _ _ _ us hl=>zK2 (fun _ _=>rfl) us hl
  have F27:=zh5 (st:=zh3) l27 c27 k27
  have b27:=F27.binds (ps:=["_law_ground_here","_law_thing","_law_deep"]) fun _ _ _ _ _ _ us hl=>yR6 (fun _ _ _=>rfl) us hl
  have F28:=zh5 (st:=zg0) l28 c28 k28
  have b28:=F28.binds (ps:=["_law_box_here","_law_ground_here"]) fun _ _ _ _ _ _ us hl=>zK2 (fun _ _=>rfl) us hl
  have F29:=zh5 (st:=zg7) l29 c29 k29
  have b29:=F29.binds (ps:=["_law_box_here","_law_ground_here","_law_asking_here"]) fun _ _ _ _ _ _ us hl=>yR6 (fun _ _ _=>rfl) us hl
  have F30:=zh5 (st:=zw1) l30 c30 k30
  have b30:=F30.binds (ps:=["_law_script"]) fun _ _ _ _ _ _ us hl=>yJ8 (fun _=>rfl) us hl
  have M:Md K mg (fun i=>[f0,f1,f2,f3,f4,f5,f6,f7,f8,f9,f10,f11,f12,f13,f14,f15,f16,f17,f18,f19,f20,f21,f22,f23,f24,f25,f26,f27,f28,f29,fa].getD i f0) (fun i=>[fnOf "is_count" "is_count" (zb2 zf6) (za9 zf6) (za5 zf6) .none kV0 dc0 pm0 an0 cd0 ct0,fnOf "is_tuple" "is_tuple" (zb2 zh9) (za9 zh9) (za5 zh9) .none kV1 dc1 pm1 an1 cd1 ct1,fnOf "is_height" "is_height" (zb2 zf9) (za9 zf9) (za5 zf9) .none kV2 dc2 pm2 an2 cd2 ct2,fnOf "is_row_height" "is_row_height" (zb2 zc7) (za9 zc7) (za5 zc7) .none kV3 dc3 pm3 an3 cd3 ct3,fnOf "is_thing" "is_thing" (zb2 zh1) (za9 zh1) (za5 zh1) .none kV4 dc4 pm4 an4 cd4 ct4,fnOf "is_risen" "is_risen" (zb2 zi3) (za9 zi3) (za5 zi3) .none kV5 dc5 pm5 an5 cd5 ct5,fnOf "has_words" "has_words" (zb2 zg6) (za9 zg6) (za5 zg6) .none kV6 dc6 pm6 an6 cd6 ct6,fnOf "head_called" "head_called" (zb2 ze4) (za9 ze4) (za5 ze4) .none kV7 dc7 pm7 an7 cd7 ct7,fnOf "order_of" "order_of" (zb2 zi1) (za9 zi1) (za5 zi1) .none kV8 dc8 pm8 an8 cd8 ct8,fnOf "is_asking" "is_asking" (zb2 zg5) (za9 zg5) (za5 zg5) .none kV9 dc9 pm9 an9 cd9 ct9,fnOf "is_asking_within" "is_asking_within" (zb2 zc3) (za9 zc3) (za5 zc3) .none kV10 dc10 pm10 an10 cd10 ct10,fnOf "parts_of" "parts_of" (zb2 zi4) (za9 zi4) (za5 zi4) .none kV11 dc11 pm11 an11 cd11 ct11,fnOf "askings_in" "askings_in" (zb2 ze8) (za9 ze8) (za5 ze8) .none kV12 dc12 pm12 an12 cd12 ct12,fnOf "_law_cell_at" "_law_cell_at" (zb2 ze3) (za9 ze3) (za5 ze3) .none kV13 dc13 pm13 an13 cd13 ct13,fnOf "_law_box" "_law_box" (zb2 zk0) (za9 zk0) (za5 zk0) .none kV14 dc14 pm14 an14 cd14 ct14,fnOf "_law_take" "_law_take" (zb2 zh8) (za9 zh8) (za5 zh8) .none kV15 dc15 pm15 an15 cd15 ct15,fnOf "_law_some" "_law_some" (zb2 zh2) (za9 zh2) (za5 zh2) .none kV16 dc16 pm16 an16 cd16 ct16,fnOf "_law_web" "_law_web" (zb2 zj9) (za9 zj9) (za5 zj9) .none kV17 dc17 pm17 an17 cd17 ct17,fnOf "_law_order" "_law_order" (zb2 zg1) (za9 zg1) (za5 zg1) .none kV18 dc18 pm18 an18 cd18 ct18,fnOf "_law_height" "_law_height" (zb2 ze1) (za9 ze1) (za5 ze1) .none kV19 dc19 pm19 an19 cd19 ct19,fnOf "_law_ground" "_law_ground" (zb2 zf2) (za9 zf2) (za5 zf2) .none kV20 dc20 pm20 an20 cd20 ct20,fnOf "_law_things" "_law_things" (zb2 ze7) (za9 ze7) (za5 ze7) .none kV21 dc21 pm21 an21 cd21 ct21,fnOf "_law_order_of" "_law_order_of" (zb2 zd4) (za9 zd4) (za5 zd4) .none kV22 dc22 pm22 an22 cd22 ct22,fnOf "_law_asking" "_law_asking" (zb2 zf3) (za9 zf3) (za5 zf3) .none kV23 dc23 pm23 an23 cd23 ct23,fnOf "_law_is_height" "_law_is_height" (zb2 zc6) (za9 zc6) (za5 zc6) .none kV24 dc24 pm24 an24 cd24 ct24,fnOf "_law_leaf_bent" "_law_leaf_bent" (zb2 zd2) (za9 zd2) (za5 zd2) .none kV25 dc25 pm25 an25 cd25 ct25,fnOf "_law_bent" "_law_bent" (zb2 zi2) (za9 zi2) (za5 zi2) .none kV26 dc26 pm26 an26 cd26 ct26,fnOf "_law_size" "_law_size" (zb2 zh3) (za9 zh3) (za5 zh3) .none kV27 dc27 pm27 an27 cd27 ct27,fnOf "_law_great" "_law_great" (zb2 zg0) (za9 zg0) (za5 zg0) .none kV28 dc28 pm28 an28 cd28 ct28,fnOf "_law_other" "_law_other" (zb2 zg7) (za9 zg7) (za5 zg7) .none kV29 dc29 pm29 an29 cd29 ct29,fnOf "law" "law" (zb2 zw1) (za9 zw1) (za5 zw1) .none kV30 dc30 pm30 an30 cd30 ct30].getD i (fnOf "is_count" "is_count" (zb2 zf6) (za9 zf6) (za5 zf6) .none kV0 dc0 pm0 an0 cd0 ct0)) :=
    ⟨mg_of X G a0,F0,b0,mg_of X G a1,F1,b1,mg_of X G a2,F2,b2,mg_of X G a3,F3,b3,mg_of X G a4,F4,b4,mg_of X G a5,F5,b5,mg_of X G a6,F6,b6,mg_of X G a7,F7,b7,mg_of X G a8,F8,b8,mg_of X G a9,F9,b9,mg_of X G a10,F10,b10,mg_of X G a11,F11,b11,mg_of X G a12,F12,b12,mg_of X G a13,F13,b13,mg_of X G a14,F14,b14,mg_of X G a15,F15,b15,mg_of X G a16,F16,b16,mg_of X G a17,F17,b17,mg_of X G a18,F18,b18,mg_of X G a19,F19,b19,mg_of X G a20,F20,b20,mg_of X G a21,F21,b21,mg_of X G a22,F22,b22,mg_of X G a23,F23,b23,mg_of X G a24,F24,b24,mg_of X G a25,F25,b25,mg_of X G a26,F26,b26,mg_of X G a27,F27,b27,mg_of X G a28,F28,b28,mg_of X G a29,F29,b29,mg_of X G a30,F30,b30,
     mg_none_of X G z_all,mg_none_of X G z_bool,mg_none_of X G z_int,mg_none_of X G z_isinstance,mg_none_of X G z_len,mg_none_of X G z_list,mg_none_of X G z_max,mg_none_of X G z_min,mg_none_of X G z_range,mg_none_of X G z_reversed,mg_none_of X G z_sorted,mg_none_of X G z_str,mg_none_of X G z_sum,mg_none_of X G z_tuple,mg_none_of X G z_zip,
     fun {X C pos} eK em hg=>by subst eK em;exact⟨xd0 hg (mg_of X0 G g_MOST_IN_ALL)⟩,
     fun {X C pos} eK em hg=>by subst eK em;exact⟨xd0 hg (mg_of X0 G g_MOST_WITHIN)⟩⟩
  exact (all (P:=l.prog) (w:=w) (base:=base) M 1000 D).h30
theorem xe9{K:Frag}{H:Hp}{a:Addr}{ns:List Int}{E:XK}(h63:ns.length≤63)(hS:SqL K H a (ns.map V.int)):spF K prog 1000 19 30 1 [.ref a] H (fun v _=>v=.bl true) E:=by
 obtain⟨st,e⟩:=yZ8 1000 0 (by decide) ns h63
 exact⟨rfl,al0,[],_,_,st,yl1,yq9 hS,e,fun w H x r v h=>yy1 h⟩
theorem walk{l:PySem.W.OpenLaw}{q:Program}{loose:List Str}{XP:(Str→Option Value)→Heap→Prop}{YP:World→Heap→Prop}{d:DefRec}{K:Params→Frag}(hn:l.most=some 63)(hdf:d.params.defaults=[])(hY:∀(w:World) (h:Heap),YP w h→(K w.params).In h)
  (F:∀(w:World) (mg:Str→Option Value) (fa:Addr) (h:Heap),(K w.params).In h→h.Ns mainGlobals mg→mg d.name=some (.ref fa) →
   ∃fd:FuncData,(∀(s:Shared) (u:Value),BindsTo s fd ⟨[u],[]⟩ [("_law_script", u)])∧∀base:Heap,(K w.params).In base→base.Ns mainGlobals mg→zq2 l.prog w (K w.params) mg base CX0 19 fa fd ["_law_script"] (spF (K w.params) prog 1000 19 30 1)) :
  PySem.W.WalkO q loose XP YP l.row.toRowW d [] (fun f vs=>PySem.call f vs) :=
 L2.xu0 (n:=63) (k:=19) (x := "_law_script") (CX:=fun _=>CX0) (sp:=fun w=>spF (K w.params) prog 1000 19 30 1) hn (by decide) hdf ⟨rfl,by decide,by decide,rfl⟩ hY F (fun _ _ a ns hl _ hS=>xe9 hl hS) fun _ _ _ _ _ z=>z
end LA
noncomputable def PySem.W.Fast.tw8255451507368453998:=0
noncomputable def PySem.W.Fast.tw15662285935665303807:=0
noncomputable def PySem.W.Fast.tw1484918111518499397:=0
noncomputable def PySem.W.Fast.tw11004134191574433545:=0
noncomputable def PySem.W.Fast.tw10739546397326100711:=0
noncomputable def PySem.W.Fast.tw12237007739499973291:=0
noncomputable def PySem.W.Fast.tw12537988087984140998:=0
noncomputable def PySem.W.Fast.tw11733195296557937935:=0
noncomputable def PySem.W.Fast.tw4544594504610151418:=0
noncomputable def PySem.W.Fast.tw8640645319611207472:=0
noncomputable def PySem.W.Fast.tw18219148512772536400:=0
noncomputable def PySem.W.Fast.tw17357976996930669180:=0
noncomputable def PySem.W.Fast.tw675636477448858260:=0
noncomputable def PySem.W.Fast.tw9459004766593019321:=0
noncomputable def PySem.W.Fast.tw16607330822585871791:=0
noncomputable def PySem.W.Fast.tw16819106357136422223:=0
noncomputable def PySem.W.Fast.tw13114077785555460384:=0
noncomputable def PySem.W.Fast.tw2329186079983974891:=0
noncomputable def PySem.W.Fast.tw16055364668107825135:=0
noncomputable def PySem.W.Fast.tw8367668963787511238:=0
noncomputable def PySem.W.Fast.tw14025608207507542310:=0
noncomputable def PySem.W.Fast.tw12251351725173685997:=0
noncomputable def PySem.W.Fast.tw5611382916703005001:=0
noncomputable def PySem.W.Fast.tw11131306209442756685:=0
noncomputable def PySem.W.Fast.tw12589022739316774797:=0
noncomputable def PySem.W.Fast.tw16795172532401735358:=0
noncomputable def PySem.W.Fast.tw10738904990916734753:=0
noncomputable def PySem.W.Fast.tw16795383359706391741:=0
noncomputable def PySem.W.Fast.tw13920830478856069507:=0
noncomputable def PySem.W.Fast.tw14112107739401607195:=0
noncomputable def PySem.W.Fast.tw11724751718962507414:=0
noncomputable def PySem.W.Fast.tw5784579954477242807:=0
noncomputable def PySem.W.Fast.tw5022376139198686157:=0
noncomputable def PySem.W.Fast.tw1254172814076128441:=0
noncomputable def PySem.W.Fast.tw10283490791365023089:=0
noncomputable def PySem.W.Fast.tw4301601852199879663:=0
noncomputable def PySem.W.Fast.tw17326387230391232919:=0
noncomputable def PySem.W.Fast.tw3950852350002204886:=0
noncomputable def PySem.W.Fast.tw5719071579220379248:=0
noncomputable def PySem.W.Fast.tw13491416999993917159:=0
noncomputable def PySem.W.Fast.tw1356838372276399395:=0
noncomputable def PySem.W.Fast.tw14672430810061046086:=0
noncomputable def PySem.W.Fast.tw15385218202903439609:=0
noncomputable def PySem.W.Fast.tw11771809781325637601:=0
noncomputable def PySem.W.Fast.tw12918966194156569364:=0
noncomputable def PySem.W.Fast.tw15463573389249005176:=0
noncomputable def PySem.W.Fast.tw5032363510695359594:=0
noncomputable def PySem.W.Fast.tw8989910045530769059:=0
noncomputable def PySem.W.Fast.tw1768523280596371528:=0
noncomputable def PySem.W.Fast.tw2817888459156072427:=0
noncomputable def PySem.W.Fast.tw16721738812362103184:=0
noncomputable def PySem.W.Fast.tw10798901439398147854:=0
noncomputable def PySem.W.Fast.tw2601562726709844504:=0
noncomputable def PySem.W.Fast.tw10877983432942778472:=0
noncomputable def PySem.W.Fast.tw17799781488731511538:=0
noncomputable def PySem.W.Fast.tw10500030230309122464:=0
noncomputable def PySem.W.Fast.tw536795824749087334:=0
noncomputable def PySem.W.Fast.tw9677886306736403324:=0
noncomputable def PySem.W.Fast.tw4341532252891472104:=0
noncomputable def PySem.W.Fast.tw9293044725790459942:=0
noncomputable def PySem.W.Fast.tw12581689222091559201:=0
noncomputable def PySem.W.Fast.tw3613389806850448545:=0
noncomputable def PySem.W.Fast.tw3084914278716965911:=0
noncomputable def PySem.W.Fast.tw4830564186673184392:=0
noncomputable def PySem.W.Fast.tw15703908718145075029:=0
noncomputable def PySem.W.Fast.tw5259593940246344539:=0
noncomputable def PySem.W.Fast.tw8476810828493945859:=0
noncomputable def PySem.W.Fast.tw1001554055816007837:=0
noncomputable def PySem.W.Fast.tw14350366624917558498:=0
noncomputable def PySem.W.Fast.tw5831967647355682737:=0
noncomputable def PySem.W.Fast.tw17300880144048046666:=0
noncomputable def PySem.W.Fast.tw2267402519772183574:=0
noncomputable def PySem.W.Fast.tw4237321376836311120:=0
noncomputable def PySem.W.Fast.tw18165017685129710685:=0
noncomputable def PySem.W.Fast.tw7155075302285113839:=0
noncomputable def PySem.W.Fast.tw16668712832121735239:=0
noncomputable def PySem.W.Fast.tw17479786344962944140:=0
noncomputable def PySem.W.Fast.tw11831481134327652805:=0
noncomputable def PySem.W.Fast.tw18024310094088827049:=0
noncomputable def PySem.W.Fast.tw467741189478040433:=0
noncomputable def PySem.W.Fast.tw13514958461356473553:PySem.Program:=PySem.Challenge.pw_onlyrise_k73_what_is_an_asking
theorem PySem.W.Fast.te13514958461356473553:PySem.Challenge.pw_onlyrise_k73_what_is_an_asking=PySem.W.Fast.tw13514958461356473553:=rfl
open PySem PySem.W PyProof.Rows
theorem OR.walkX_of{q:Program}{l:List Str}{XP:(Str→Option Value)→Heap→Prop}{r:RowW}{d:DefRec}{kwd:List (Str×Expr)}{run:Value→List Value→Sem Value}{K:Params→Frag}{as:List Addr}{n t:Nat}(e:∀P,as=(K P).map (·.1))(h:WalkO q l XP (fun w hp=>(K w.params).In hp) r d kwd run):WalkX q l XP (X.obsZ as) (X.valZ K n t) r d kwd run :=
 fun w _ _ _ _ G y _ _ _ _ _ _ _ a b c f g h1 _ _ _ L=>h w _ _ _ _ G (InK.keeps w _ _ (X.z_facts e y).2.1 L.keeps) _ _ _ _ _ _ _ a b c f g h1 _ _ _
set_option maxRecDepth 100000 in
set_option maxHeartbeats 0 in
theorem PySem.Challenge.cw_onlyrise_k73_what_is_an_asking_holds : PySem.Challenge.rw_onlyrise_k73_what_is_an_asking.Holds := by
 w_on;o_law;z_head;(case hw=>w_witness2)
 k_fill
 refine OR.walkX_of (fun _=>by kernel_rfl) (LA.walk (l:=PySem.Challenge.rw_onlyrise_k73_what_is_an_asking) rfl rfl (fun w h Y=>Y) ?F)
 case F =>
  intro w mg fa h KX G hmg
  refine' LA.all_mk KX G hmg 19 ?_ ?_ ?_ ?_ ?_ ?_ ?_ ?_ ?_ ?_ ?_ ?_ ?_ ?_ ?_ ?_ ?_ ?_ ?_ ?_ ?_ ?_ ?_ ?_ ?_ ?_ ?_ ?_ ?_ ?_ ?_ ?_ ?_ ?_ ?_ ?_ ?_ ?_ ?_ ?_ ?_ ?_ ?_ ?_ ?_ ?_ ?_ ?_ ?_ ?_ ?_ ?_ ?_ ?_ ?_ ?_ ?_ ?_ ?_ ?_ ?_ ?_ ?_ ?_ ?_ ?_ ?_ ?_ ?_ ?_ ?_ ?_ ?_ ?_ ?_ ?_ ?_ ?_ ?_ ?_ ?_ ?_ ?_ ?_ ?_ ?_ ?_ ?_ ?_ ?_ ?_ ?_ ?_ ?_ ?_ ?_ ?_ ?_ ?_ ?_ ?_ ?_ ?_ ?_ ?_ ?_ ?_ ?_ ?_ ?_ ?_ ?_ ?_ ?_ ?_ ?_ ?_ ?_ ?_ ?_ ?_ ?_ ?_ ?_ ?_ ?_ ?_ ?_ ?_ ?_ ?_ ?_ ?_ ?_ ?_ ?_ ?_ ?_ ?_ ?_ ?_
  all_goals try k_is
